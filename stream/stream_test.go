package stream

import (
	"encoding/hex"
	"math"
	"strings"
	"testing"

	"keyhole/api"
)

// drawn is n bytes that look like none of a rule, the same each time.
func drawn(n, seed int) string {
	b := make([]byte, n)
	x := uint64(seed)*2654435769 + 12345
	for i := range b {
		x = x*6364136223846793005 + 1442695040888963407
		b[i] = byte(x >> 56)
	}
	return string(b)
}

func inSixteens(s string) string {
	return hex.EncodeToString([]byte(s))
}

func fromSixteens(t *testing.T, s string) string {
	t.Helper()
	b, err := hex.DecodeString(s)
	if err != nil {
		t.Fatal(err)
	}
	return string(b)
}

// rising is the bytes 0, 1, 2 .. as a key.
func rising() string {
	b := make([]byte, 32)
	for i := range b {
		b[i] = byte(i)
	}
	return string(b)
}

func zeros(n int) string {
	return strings.Repeat("\x00", n)
}

// counters are words of the ends, and some between.
func counters() []int {
	return []int{0, 1, 2, 255, 256, 65535, 65536, 1<<31 - 1, 1 << 31, 4294967294, 4294967295}
}

// noWords are numbers that are no words; some are right ones as 32 digits.
func noWords() []int {
	return []int{-1, -2, -1 << 31, math.MinInt, 1 << 32, 1<<32 + 1, 1 << 40, math.MaxInt}
}

// sizes are lengths of texts; a part ends at each multiple of 64.
func sizes() []int {
	return []int{0, 1, 2, 12, 31, 32, 33, 62, 63, 64, 65, 66, 127, 128, 129, 191, 192, 193, 1000, 3967, 3968, 3969, 3999, 4000}
}

// rotOf is x with its digits n places higher up, one place at a time.
func rotOf(x uint32, n int) uint32 {
	for range n {
		x = x*2 + x/(1<<31)
	}
	return x
}

// turnOf is P4.1 as it is written, of four places of a state.
func turnOf(s *[16]uint32, a, b, c, d int) {
	s[a] += s[b]
	s[d] = rotOf(s[d]^s[a], 16)
	s[c] += s[d]
	s[b] = rotOf(s[b]^s[c], 12)
	s[a] += s[b]
	s[d] = rotOf(s[d]^s[a], 8)
	s[c] += s[d]
	s[b] = rotOf(s[b]^s[c], 7)
}

// wordOf is four bytes of s, the lowest first.
func wordOf(s string) uint32 {
	return uint32(s[0]) + uint32(s[1])*256 + uint32(s[2])*65536 + uint32(s[3])*16777216
}

// blockOf is P4.2 as it is written.
func blockOf(key, nonce string, n int) string {
	first := [16]uint32{1634760805, 857760878, 2036477234, 1797285236}
	for i := range 8 {
		first[4+i] = wordOf(key[4*i:])
	}
	first[12] = uint32(n)
	for i := range 3 {
		first[13+i] = wordOf(nonce[4*i:])
	}
	s := first
	for range 10 {
		turnOf(&s, 0, 4, 8, 12)
		turnOf(&s, 1, 5, 9, 13)
		turnOf(&s, 2, 6, 10, 14)
		turnOf(&s, 3, 7, 11, 15)
		turnOf(&s, 0, 5, 10, 15)
		turnOf(&s, 1, 6, 11, 12)
		turnOf(&s, 2, 7, 8, 13)
		turnOf(&s, 3, 4, 9, 14)
	}
	var b []byte
	for i := range s {
		x := s[i] + first[i]
		b = append(b, byte(x), byte(x/256), byte(x/65536), byte(x/16777216))
	}
	return string(b)
}

// cryptOf is P4.3 as it is written, where there is no error.
func cryptOf(key, nonce string, n int, s string) string {
	b := []byte(s)
	for i := range b {
		b[i] ^= blockOf(key, nonce, n+i/64)[i%64]
	}
	return string(b)
}

func TestTurnExamples(t *testing.T) {
	for _, c := range []struct{ in, want [4]int }{
		{[4]int{286331153, 16909060, 2609737539, 19088743}, [4]int{3928658676, 3407673550, 1166100270, 1484899515}},
		{[4]int{0x516461b1, 0x2a5f714c, 0x53372767, 0x3d631689}, [4]int{0xbdb886dc, 0xcfacafd2, 0xe46bea80, 0xccc07c79}},
		{[4]int{0, 0, 0, 0}, [4]int{0, 0, 0, 0}},
		{[4]int{1, 0, 0, 0}, [4]int{0x10000001, 0x80808808, 0x01010110, 0x01000110}},
	} {
		p, q, r, s, ok := Turn(c.in[0], c.in[1], c.in[2], c.in[3])
		if got := [4]int{p, q, r, s}; got != c.want || !ok {
			t.Errorf("P4.1: Turn of %x = %x, %t, want %x", c.in, got, ok, c.want)
		}
	}
}

func TestTurn(t *testing.T) {
	l := []uint32{0, 1, 2, 0x7fffffff, 0x80000000, 0xdeadbeef, 0xfffffffe, 0xffffffff}
	for i := range len(l) * len(l) * len(l) * len(l) {
		in := [4]uint32{l[i%8], l[i/8%8], l[i/64%8], l[i/512]}
		want := [16]uint32{in[0], in[1], in[2], in[3]}
		turnOf(&want, 0, 1, 2, 3)
		a, b, c, d, ok := Turn(int(in[0]), int(in[1]), int(in[2]), int(in[3]))
		if !ok || a != int(want[0]) || b != int(want[1]) || c != int(want[2]) || d != int(want[3]) {
			t.Fatalf("P4.1: Turn of %x = %x, %x, %x, %x, %t, want %x", in, a, b, c, d, ok, want[:4])
		}
	}
}

func TestTurnOfNoWords(t *testing.T) {
	for _, x := range noWords() {
		for place := range 4 {
			in := [4]int{286331153, 16909060, 2609737539, 19088743}
			in[place] = x
			if a, b, c, d, ok := Turn(in[0], in[1], in[2], in[3]); a != 0 || b != 0 || c != 0 || d != 0 || ok {
				t.Errorf("P4.1: Turn of %v = %d, %d, %d, %d, %t, want zeros and false", in, a, b, c, d, ok)
			}
		}
		if a, b, c, d, ok := Turn(x, x, x, x); a != 0 || b != 0 || c != 0 || d != 0 || ok {
			t.Errorf("P4.1: Turn of %d four times = %d, %d, %d, %d, %t, want zeros and false", x, a, b, c, d, ok)
		}
	}
}

func TestBlockExamples(t *testing.T) {
	for _, c := range []struct {
		key, nonce string
		n          int
		want       string
	}{
		{zeros(32), zeros(12), 0, "76b8e0ada0f13d90405d6ae55386bd28bdd219b8a08ded1aa836efcc8b770dc7da41597c5157488d7724e03fb8d84a376a43b8f41518a11cc387b669b2ee6586"},
		{zeros(32), zeros(12), 1, "9f07e7be5551387a98ba977c732d080dcb0f29a048e3656912c6533e32ee7aed29b721769ce64e43d57133b074d839d531ed1f28510afb45ace10a1f4b794d6f"},
		{zeros(31) + "\x01", zeros(12), 1, "3aeb5224ecf849929b9d828db1ced4dd832025e8018b8160b82284f3c949aa5a8eca00bbb4a73bdad192b5c42f73f2fd4e273644c8b36125a64addeb006c13a0"},
		{"\x00\xff" + zeros(30), zeros(12), 2, "72d54dfbf12ec44b362692df94137f328fea8da73990265ec1bbbea1ae9af0ca13b25aa26cb4a648cb9b9d1be65b2c0924a66c54d545ec1b7374f4872e99f096"},
		{zeros(32), zeros(11) + "\x02", 0, "c2c64d378cd536374ae204b9ef933fcd1a8b2288b3dfa49672ab765b54ee27c78a970e0e955c14f3a88e741b97c286f75f8fc299e8148362fa198a39531bed6d"},
		{rising(), "\x00\x00\x00\x09\x00\x00\x00\x4a\x00\x00\x00\x00", 1, "10f1e7e4d13b5915500fdd1fa32071c4c7d1f4c733c068030422aa9ac3d46c4ed2826446079faa0914c2d705d98b02a2b5129cd1de164eb9cbd083e8a2503c4e"},
		{strings.Repeat("\xff", 32), strings.Repeat("\xff", 12), 4294967295, "d72b21cfa4b6b0c41d61f62b8a11159c6a4f63bc56c2035796c7ad37811121bbec56d54a530f3a933dd28a50feb23bfaf64f405be985f3718bdf4683e96be749"},
	} {
		got, e := Block(c.key, c.nonce, c.n)
		if inSixteens(got) != c.want || e != api.OK {
			t.Errorf("P4.2: Block of %x, %x, %d = %x, %d, want %s", c.key, c.nonce, c.n, got, e, c.want)
		}
	}
}

func TestBlock(t *testing.T) {
	for seed := range 20 {
		key, nonce := drawn(32, seed), drawn(12, seed+100)
		for _, n := range counters() {
			got, e := Block(key, nonce, n)
			if want := blockOf(key, nonce, n); got != want || e != api.OK {
				t.Fatalf("P4.2: Block of %x, %x, %d = %x, %d, want %x", key, nonce, n, got, e, want)
			}
		}
	}
}

// noKeys are texts that are no key; noNonces are texts that are no nonce.
func noKeys() []string {
	return []string{"", drawn(1, 1), drawn(12, 1), drawn(16, 1), drawn(31, 1), drawn(33, 1), drawn(64, 1), drawn(4001, 1)}
}

func noNonces() []string {
	return []string{"", drawn(1, 2), drawn(8, 2), drawn(11, 2), drawn(13, 2), drawn(16, 2), drawn(24, 2), drawn(32, 2), drawn(4001, 2)}
}

// wrong are keys, nonces and counters of which one at least is none.
func wrong() (keys, nonces []string, counts []int) {
	add := func(key, nonce string, n int) {
		keys, nonces, counts = append(keys, key), append(nonces, nonce), append(counts, n)
	}
	key, nonce := drawn(32, 3), drawn(12, 4)
	for _, x := range noKeys() {
		add(x, nonce, 7)
		add(x, "", -1)
	}
	for _, x := range noNonces() {
		add(key, x, 7)
	}
	for _, x := range noWords() {
		add(key, nonce, x)
	}
	// Each takes the other's place.
	add(nonce, key, 7)
	return keys, nonces, counts
}

func TestBlockOfWrong(t *testing.T) {
	keys, nonces, counts := wrong()
	for i := range keys {
		if got, e := Block(keys[i], nonces[i], counts[i]); got != "" || e != api.ErrArg {
			t.Errorf("P4.2: Block of a key of %d bytes, a nonce of %d, and %d = %x, %d, want none and ErrArg", len(keys[i]), len(nonces[i]), counts[i], got, e)
		}
	}
}

func TestCryptExample(t *testing.T) {
	nonce := "\x00\x00\x00\x00\x00\x00\x00\x4a\x00\x00\x00\x00"
	s := "Ladies and Gentlemen of the class of '99: If I could offer you only one tip for the future, sunscreen would be it."
	want := fromSixteens(t, "6e2e359a2568f98041ba0728dd0d6981e97e7aec1d4360c20a27afccfd9fae0bf91b65c5524733ab8f593dabcd62b3571639d624e65152ab8f530c359f0861d807ca0dbf500d6a6156a38e088a22b65e52bc514d16ccf806818ce91ab77937365af90bbf74a35be6b40b8eedf2785e42874d")
	if got, e := Crypt(rising(), nonce, 1, s); got != want || e != api.OK {
		t.Errorf("P4.3: Crypt of the example = %x, %d, want %x", got, e, want)
	}
}

func TestCrypt(t *testing.T) {
	for _, size := range sizes() {
		for _, n := range []int{0, 1, 255, 1<<31 - 2, 4294967296 - 63} {
			key, nonce, s := drawn(32, size), drawn(12, n), drawn(size, n+size)
			got, e := Crypt(key, nonce, n, s)
			if want := cryptOf(key, nonce, n, s); got != want || e != api.OK {
				t.Fatalf("P4.3: Crypt of %x, %x, %d and %d bytes = %x, %d, want %x", key, nonce, n, size, got, e, want)
			}
		}
	}
}

// Of bytes 0 there are the blocks themselves.
func TestCryptIsByBlocks(t *testing.T) {
	key, nonce := drawn(32, 5), drawn(12, 6)
	all, e := Crypt(key, nonce, 300, zeros(4000))
	if e != api.OK || len(all) != 4000 {
		t.Fatalf("P4.3: Crypt of 4000 bytes has %d, %d", len(all), e)
	}
	for at := 0; at < len(all); at += 64 {
		part, e := Block(key, nonce, 300+at/64)
		if e != api.OK || !strings.HasPrefix(part, all[at:min(at+64, len(all))]) {
			t.Errorf("P4.3: the bytes at %d are none of Block of %d", at, 300+at/64)
		}
	}
}

func TestCryptOfWrong(t *testing.T) {
	keys, nonces, counts := wrong()
	for i := range keys {
		// Block's error is named first: a text that is too long changes nothing in it, nor does an empty one.
		for _, size := range []int{0, 1, 64, 4000, 4001, 100000} {
			if got, e := Crypt(keys[i], nonces[i], counts[i], drawn(size, i)); got != "" || e != api.ErrArg {
				t.Errorf("P4.3: Crypt of a key of %d bytes, a nonce of %d, %d and %d bytes = %x, %d, want none and ErrArg", len(keys[i]), len(nonces[i]), counts[i], size, got, e)
			}
		}
	}
}

func TestCryptOfLongTexts(t *testing.T) {
	key, nonce := drawn(32, 7), drawn(12, 8)
	for _, size := range []int{4001, 4002, 4032, 4033, 8000, 100000} {
		for _, n := range counters() {
			if got, e := Crypt(key, nonce, n, zeros(size)); got != "" || e != api.ErrLimit {
				t.Errorf("P4.3: Crypt of %d and %d bytes = %d bytes, %d, want none and ErrLimit", n, size, len(got), e)
			}
		}
	}
}

func TestCryptAtTheLastCounter(t *testing.T) {
	key, nonce := drawn(32, 9), drawn(12, 10)
	for _, c := range []struct {
		left, size int // how many counters there are, from n on
		want       api.Errno
	}{
		{1, 0, api.OK}, {1, 1, api.OK}, {1, 63, api.OK}, {1, 64, api.OK}, {1, 65, api.ErrLimit}, {1, 128, api.ErrLimit}, {1, 4000, api.ErrLimit},
		{2, 0, api.OK}, {2, 65, api.OK}, {2, 128, api.OK}, {2, 129, api.ErrLimit}, {2, 192, api.ErrLimit},
		{62, 3968, api.OK}, {62, 3969, api.ErrLimit}, {62, 4000, api.ErrLimit}, {63, 3969, api.OK}, {63, 4000, api.OK}, {64, 4000, api.OK},
	} {
		n, s, want := 4294967296-c.left, drawn(c.size, c.left), ""
		if c.want == api.OK {
			want = cryptOf(key, nonce, n, s)
		}
		if got, e := Crypt(key, nonce, n, s); got != want || e != c.want {
			t.Errorf("P4.3: Crypt of %d and %d bytes = %x, %d, want %x, %d", n, c.size, got, e, want, c.want)
		}
	}
}

func TestCryptOfNoBytes(t *testing.T) {
	for _, n := range counters() {
		if got, e := Crypt(drawn(32, 11), drawn(12, 12), n, ""); got != "" || e != api.OK {
			t.Errorf("P4.3: Crypt of %d and no bytes = %x, %d, want none and OK", n, got, e)
		}
	}
}

func TestCryptOfCrypt(t *testing.T) {
	for _, size := range sizes() {
		key, nonce, s := drawn(32, size+1), drawn(12, size+2), drawn(size, size+3)
		hidden, e := Crypt(key, nonce, size, s)
		shown, f := Crypt(key, nonce, size, hidden)
		if shown != s || e != api.OK || f != api.OK {
			t.Errorf("P4.4: Crypt of Crypt of %d bytes = %x, %d, %d, want %x", size, shown, e, f, s)
		}
	}
}

func TestCryptByParts(t *testing.T) {
	key, nonce, s := drawn(32, 13), drawn(12, 14), drawn(4000, 15)
	for _, n := range []int{0, 1000, 4294967296 - 63} {
		all, _ := Crypt(key, nonce, n, s)
		for at := 0; at <= len(s); at += 64 {
			head, e := Crypt(key, nonce, n, s[:at])
			tail, f := Crypt(key, nonce, n+at/64, s[at:])
			if head+tail != all || e != api.OK || f != api.OK {
				t.Errorf("P4.4: parts of 4000 bytes, cut at %d, are others than the whole (%d, %d)", at, e, f)
			}
		}
	}
}

// Each call answers the same again, whatever was asked between (R2).
func TestNothingIsKept(t *testing.T) {
	key, nonce, s := drawn(32, 16), drawn(12, 17), drawn(200, 18)
	block, _ := Block(key, nonce, 5)
	hidden, _ := Crypt(key, nonce, 5, s)
	Block(drawn(32, 19), nonce, 6)
	Crypt(key, drawn(12, 20), 6, hidden)
	Crypt(key, nonce, -1, s)
	again, _ := Block(key, nonce, 5)
	hiddenAgain, _ := Crypt(key, nonce, 5, s)
	if again != block || hiddenAgain != hidden {
		t.Error("P4.2, P4.3: a call answers otherwise when it is asked again")
	}
	if key != drawn(32, 16) || nonce != drawn(12, 17) || s != drawn(200, 18) {
		t.Error("P4.3: what was handed in is changed")
	}
}
