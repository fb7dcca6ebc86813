package digest

import (
	"crypto/sha256"
	"encoding/hex"
	"math"
	"slices"
	"strings"
	"sync"
	"syscall"
	"testing"
	"unsafe"

	"keyhole/word"
)

const top = 4294967295

// start is the eight words of the chapter, and words64 its 64 words K, as they are written there.
const (
	start   = "6a09e667 bb67ae85 3c6ef372 a54ff53a 510e527f 9b05688c 1f83d9ab 5be0cd19"
	words64 = "428a2f98 71374491 b5c0fbcf e9b5dba5 3956c25b 59f111f1 923f82a4 ab1c5ed5 " +
		"d807aa98 12835b01 243185be 550c7dc3 72be5d74 80deb1fe 9bdc06a7 c19bf174 " +
		"e49b69c1 efbe4786 0fc19dc6 240ca1cc 2de92c6f 4a7484aa 5cb0a9dc 76f988da " +
		"983e5152 a831c66d b00327c8 bf597fc7 c6e00bf3 d5a79147 06ca6351 14292967 " +
		"27b70a85 2e1b2138 4d2c6dfc 53380d13 650a7354 766a0abb 81c2c92e 92722c85 " +
		"a2bfe8a1 a81a664b c24b8b70 c76c51a3 d192e819 d6990624 f40e3585 106aa070 " +
		"19a4c116 1e376c08 2748774c 34b0bcb5 391c0cb3 4ed8aa4a 5b9cca4f 682e6ff3 " +
		"748f82ee 78a5636f 84c87814 8cc70208 90befffa a4506ceb bef9a3f7 c67178f2"
)

// inSixteens is the words that are written in s.
func inSixteens(t *testing.T, s string) []int {
	t.Helper()
	b, err := hex.DecodeString(strings.ReplaceAll(s, " ", ""))
	if err != nil {
		t.Fatal(err)
	}
	l, _ := word.Cut(string(b), true)
	return l
}

// drawn is n bytes that look like none of a rule, the same each time.
func drawn(n, seed int) string {
	b := make([]byte, n)
	x := uint64(seed)*2654435769 + 12345
	for i := range b {
		x = x*6364136223846793005 + 1442695040888963407
		b[i] = byte(x >> 56)
	}
	return string(b)
}

// zeros tells one text of more bytes 0 than have a Sum. It is mapped, since such pages take no memory till they are written.
var zeros = sync.OnceValues(func() (string, error) {
	b, err := syscall.Mmap(-1, 0, 1000000064, syscall.PROT_READ, syscall.MAP_ANON|syscall.MAP_PRIVATE)
	return unsafe.String(unsafe.SliceData(b), len(b)), err
})

// longText is a text of n bytes 0.
func longText(t *testing.T, n int) string {
	t.Helper()
	s, err := zeros()
	if err != nil {
		t.Skip("no room for a text that is so long: ", err)
	}
	return s[:n]
}

func add(l ...int) int {
	x, _ := word.Add(l...)
	return x
}

func xor(l ...int) int {
	x := 0
	for _, y := range l {
		x, _ = word.Xor(x, y)
	}
	return x
}

func and(a, b int) int {
	x, _ := word.And(a, b)
	return x
}

func down(x, n int) int {
	y, _ := word.Rot(x, 32-n)
	return y
}

func fall(x, n int) int {
	for range n {
		x /= 2
	}
	return x
}

// stepByWords is P2.2 as it is written, in chapter 1's calls.
func stepByWords(t *testing.T, state [8]int, block string) [8]int {
	t.Helper()
	k := inSixteens(t, words64)
	w, _ := word.Cut(block, true)
	for i := 16; i < 64; i++ {
		p, q := w[i-15], w[i-2]
		w = append(w, add(w[i-16], xor(down(p, 7), down(p, 18), fall(p, 3)), w[i-7], xor(down(q, 17), down(q, 19), fall(q, 10))))
	}
	s := state
	for i := range 64 {
		a, b, c, d, e, f, g, h := s[0], s[1], s[2], s[3], s[4], s[5], s[6], s[7]
		u := add(h, xor(down(e, 6), down(e, 11), down(e, 25)), xor(and(e, f), and(top-e, g)), k[i], w[i])
		v := add(xor(down(a, 2), down(a, 13), down(a, 22)), xor(and(a, b), and(a, c), and(b, c)))
		s = [8]int{add(u, v), a, b, c, add(d, u), e, f, g}
	}
	for i := range s {
		s[i] = add(s[i], state[i])
	}
	return s
}

func TestStart(t *testing.T) {
	want := inSixteens(t, start)
	got := Start()
	if !slices.Equal(got[:], want) {
		t.Errorf("P2.1: Start() = %v, want %v", got, want)
	}
	got[0] = 7
	if again := Start(); again[0] != want[0] {
		t.Error("R2: what was done to an answer of Start is seen in the next one")
	}
}

// padOf is the bytes behind a text of n bytes, made by trying one byte 0 more each time.
func padOf(n int) string {
	s := "\x80"
	for (n+len(s)+8)%64 != 0 {
		s += "\x00"
	}
	for i := 7; i >= 0; i-- {
		s += string([]byte{byte(8 * n >> (8 * i))})
	}
	return s
}

func TestPad(t *testing.T) {
	sizes := []int{1000, 536870911, 536870912, 536870913, 999999999, 1000000000}
	for n := range 300 {
		sizes = append(sizes, n)
	}
	for _, n := range sizes {
		got, ok := Pad(n)
		if got != padOf(n) || !ok {
			t.Errorf("P2.1: Pad(%d) = %x, %t; want %x", n, got, ok, padOf(n))
		}
		if (n+len(got))%64 != 0 || len(got) < 9 || len(got) > 72 {
			t.Errorf("P2.1: Pad(%d) has %d bytes", n, len(got))
		}
	}
	for _, n := range []int{-1, -64, math.MinInt, 1000000001, 1000000064, top, top + 1, math.MaxInt} {
		if got, ok := Pad(n); got != "" || ok {
			t.Errorf("P2.1: Pad(%d) = %x, %t; want none", n, got, ok)
		}
	}
}

func TestPadExamples(t *testing.T) {
	for n, want := range map[int]string{
		0:          "80" + strings.Repeat("00", 63),
		55:         "80" + "00000000000001b8",
		56:         "80" + strings.Repeat("00", 63) + "00000000000001c0",
		63:         "80" + strings.Repeat("00", 56) + "00000000000001f8",
		64:         "80" + strings.Repeat("00", 55) + "0000000000000200",
		1000000000: "80" + strings.Repeat("00", 55) + "00000001dcd65000",
	} {
		if got, ok := Pad(n); hex.EncodeToString([]byte(got)) != want || !ok {
			t.Errorf("P2.1: Pad(%d) = %x, %t; want %s", n, got, ok, want)
		}
	}
}

// states are states at which carries and turns might go wrong.
func states() [][8]int {
	l := [][8]int{{}, {top, top, top, top, top, top, top, top}, Start(), {1, 2, 4, 8, 16, 2147483648, 1073741824, 65536}}
	for i := range 40 {
		words, _ := word.Cut(drawn(32, i), true)
		l = append(l, [8]int(words))
	}
	return l
}

func TestStep(t *testing.T) {
	blocks := []string{strings.Repeat("\x00", 64), strings.Repeat("\xff", 64), strings.Repeat("\x80", 64), drawn(64, 1), drawn(64, 2)}
	for _, state := range states() {
		for _, block := range blocks {
			want := stepByWords(t, state, block)
			if got, ok := Step(state, block); got != want || !ok {
				t.Errorf("P2.2: Step(%v, %x) = %v, %t; want %v", state, block, got, ok, want)
			}
		}
	}
}

func TestStepWrong(t *testing.T) {
	block := drawn(64, 3)
	for i := range 8 {
		for _, x := range []int{-1, top + 1, -top - 1, math.MinInt, math.MaxInt} {
			state := Start()
			state[i] = x
			if got, ok := Step(state, block); got != [8]int{} || ok {
				t.Errorf("P2.2: Step with %d as word %d = %v, %t", x, i, got, ok)
			}
		}
	}
	for _, n := range []int{0, 1, 4, 32, 60, 63, 65, 68, 128} {
		if got, ok := Step(Start(), drawn(n, 4)); got != [8]int{} || ok {
			t.Errorf("P2.2: Step of a block of %d bytes = %v, %t", n, got, ok)
		}
	}
}

func TestSumExamples(t *testing.T) {
	for s, want := range map[string]string{
		"":    "e3b0c44298fc1c149afbf4c8996fb92427ae41e4649b934ca495991b7852b855",
		"abc": "ba7816bf8f01cfea414140de5dae2223b00361a396177a9cb410ff61f20015ad",
	} {
		if got := hex.EncodeToString([]byte(Sum(s))); got != want {
			t.Errorf("P2.3: Sum(%q) = %s, want %s", s, got, want)
		}
	}
}

func TestSum(t *testing.T) {
	sizes := []int{1000, 3999, 4000, 4001, 8192, 65536, 1000003}
	for n := range 270 {
		sizes = append(sizes, n)
	}
	for _, n := range sizes {
		for _, s := range []string{drawn(n, n), strings.Repeat("\x00", n), strings.Repeat("\xff", n)} {
			want := sha256.Sum256([]byte(s))
			if got := Sum(s); got != string(want[:]) {
				t.Errorf("P2.3: Sum of %d bytes = %x, want %x", n, got, want)
			}
		}
	}
}

func TestSumIsSteps(t *testing.T) {
	for n := range 200 {
		s := drawn(n, n+1)
		pad, ok := Pad(n)
		if !ok {
			t.Fatalf("P2.1: Pad(%d) is false", n)
		}
		state, rest := Start(), s+pad
		for rest != "" {
			if state, ok = Step(state, rest[:64]); !ok {
				t.Fatalf("P2.2: Step of a block of %d bytes is false", n)
			}
			rest = rest[64:]
		}
		want, _ := word.Join(state[:], true)
		if got := Sum(s); got != want {
			t.Errorf("P2.4: Sum of %d bytes = %x, but the steps make %x", n, got, want)
		}
	}
}

func TestSumOfTheLongest(t *testing.T) {
	t.Parallel()
	s := longText(t, 1000000000)
	want := sha256.Sum256(unsafe.Slice(unsafe.StringData(s), len(s)))
	if got := Sum(s); got != string(want[:]) {
		t.Errorf("P2.3: Sum of 1000000000 bytes 0 = %x, want %x", got, want)
	}
}

func TestSumOfTooLong(t *testing.T) {
	for _, n := range []int{1000000001, 1000000064} {
		if got := Sum(longText(t, n)); got != "" {
			t.Errorf("P2.3: Sum of %d bytes = %x, want none", n, got)
		}
	}
}

func TestSumsAreUnlike(t *testing.T) {
	seen := map[string]int{}
	for n := range 200 {
		for _, s := range []string{strings.Repeat("\x00", n), strings.Repeat("\x00", n) + "\x80"} {
			sum := Sum(s)
			if len(sum) != 32 {
				t.Errorf("P2.3: Sum of %x has %d bytes", s, len(sum))
			}
			if again := Sum(s); again != sum {
				t.Errorf("P2.4: %x has two Sums, %x and %x", s, sum, again)
			}
			seen[sum]++
		}
	}
	if len(seen) != 400 {
		t.Errorf("P2.4: 400 unlike texts have %d Sums", len(seen))
	}
}

func TestBlocksMayStop(t *testing.T) {
	s := drawn(100, 5)
	pad, _ := Pad(len(s))
	for stop := range 3 {
		var got []string
		for block := range blocks(s, pad) {
			got = append(got, block)
			if len(got) > stop {
				break
			}
		}
		if want := (s + pad)[:64*min(stop+1, 2)]; strings.Join(got, "") != want {
			t.Errorf("P2.3: the first %d blocks are %x, want %x", stop+1, got, want)
		}
	}
}

func TestSame(t *testing.T) {
	for _, c := range []struct {
		a, b string
		want bool
	}{
		{"", "", true},
		{"abc", "abc", true},
		{"\x00\xff", "\x00\xff", true},
		{"", "\x00", false},
		{"abc", "abd", false},
		{"abc", "bbc", false},
		{"abc", "ABC", false},
		{"abc", "abc\x00", false},
		{"abc", "ab", false},
		{"abc", Sum("abc"), false},
		{drawn(5000, 1), drawn(5000, 1), true},
		{drawn(5000, 1), drawn(4999, 1) + "!", false},
	} {
		if Same(c.a, c.b) != c.want || Same(c.b, c.a) != c.want {
			t.Errorf("P2.3: Same(%q, %q) is not %t", c.a, c.b, c.want)
		}
	}
	// Both of these have no Sum, so that only the texts tell them apart.
	long, longer := longText(t, 1000000001), longText(t, 1000000002)
	if Same(long, longer) {
		t.Error("P2.3: Same of two unlike texts without a Sum is true")
	}
}
