package tape

import (
	"crypto/sha256"
	"encoding/binary"
	"encoding/hex"
	"math"
	"math/bits"
	"math/rand"
	"strings"
	"sync"
	"testing"

	"keyhole/api"
)

// seeded is how many bytes a tape has that New tells.
const seeded = 65536

// blockOf is chapter 4's Block of key, a nonce of bytes 0, and n, as it is written.
func blockOf(key [32]byte, n int) []byte {
	first := [16]uint32{1634760805, 857760878, 2036477234, 1797285236}
	for i := range 8 {
		first[4+i] = binary.LittleEndian.Uint32(key[4*i:])
	}
	first[12] = uint32(n)
	s := first
	turn := func(a, b, c, d int) {
		s[a] += s[b]
		s[d] = bits.RotateLeft32(s[d]^s[a], 16)
		s[c] += s[d]
		s[b] = bits.RotateLeft32(s[b]^s[c], 12)
		s[a] += s[b]
		s[d] = bits.RotateLeft32(s[d]^s[a], 8)
		s[c] += s[d]
		s[b] = bits.RotateLeft32(s[b]^s[c], 7)
	}
	for range 10 {
		turn(0, 4, 8, 12)
		turn(1, 5, 9, 13)
		turn(2, 6, 10, 14)
		turn(3, 7, 11, 15)
		turn(0, 5, 10, 15)
		turn(1, 6, 11, 12)
		turn(2, 7, 8, 13)
		turn(3, 4, 9, 14)
	}
	var b []byte
	for i := range s {
		b = binary.LittleEndian.AppendUint32(b, s[i]+first[i])
	}
	return b
}

// seededOf are the bytes of New(seed), as P12.1 is written.
func seededOf(seed string) string {
	return keyedOf(sha256.Sum256([]byte(seed)))
}

// keyedOf are the bytes of the tape whose seed has the Sum key.
func keyedOf(key [32]byte) string {
	var b []byte
	for n := range 1024 {
		b = append(b, blockOf(key, n)...)
	}
	return string(b)
}

// model is a tape as the chapter is written: all its bytes, and how many of them are taken.
type model struct {
	bytes string
	taken int
}

func (m *model) take(n int) (string, api.Errno) {
	if n < 0 {
		return "", api.ErrArg
	}
	if n > len(m.bytes)-m.taken {
		return "", api.ErrTape
	}
	m.taken += n
	return m.bytes[m.taken-n : m.taken], api.OK
}

func (m *model) number(below int) (int, api.Errno) {
	if below < 1 || below > 16777216 {
		return 0, api.ErrArg
	}
	s, e := m.take(3)
	if e != api.OK {
		return 0, e
	}
	return (65536*int(s[0]) + 256*int(s[1]) + int(s[2])) % below, api.OK
}

func (m *model) fork(name string) (*model, api.Errno) {
	s, e := m.take(32)
	if e != api.OK {
		return nil, e
	}
	return &model{bytes: seededOf(s + name)}, api.OK
}

// drawn are n bytes, by r.
func drawn(r *rand.Rand, n int) string {
	b := make([]byte, n)
	r.Read(b)
	return string(b)
}

// bytesFrom are n bytes that rise by 1 from b on.
func bytesFrom(b, n int) string {
	l := make([]byte, n)
	for i := range l {
		l[i] = byte(b + i)
	}
	return string(l)
}

// someSeeds are seeds of many lengths.
func someSeeds(r *rand.Rand) []string {
	l := []string{"seed", "seed/master", "seed\x00", "Seed", "\x00", "\xff"}
	for _, n := range []int{0, 1, 31, 32, 33, 55, 56, 63, 64, 65, 119, 128, 4000, 4001, 65535, 65536, 65537, 200001} {
		l = append(l, drawn(r, n))
	}
	return l
}

// someSizes are how many bytes the tapes have that are told by Of.
func someSizes() []int {
	return []int{0, 1, 2, 3, 4, 31, 32, 33, 62, 63, 64, 65, 66, 127, 128, 129, 192, 1000, 4000, 4001, 65535, 65536, 65537, 65600, 200001}
}

// belowNone are numbers that are below 0.
func belowNone() []int {
	return []int{-1, -2, -3, -32, -64, -65536, -1 << 31, -1 << 32, -1<<32 + 1, -1 << 62, math.MinInt, math.MinInt + 1}
}

func wantTaken(t *testing.T, tape *Tape, want int) {
	t.Helper()
	if got := tape.Taken(); got != want {
		t.Errorf("P12.1: Taken() = %d, want %d", got, want)
	}
}

func wantTake(t *testing.T, tape *Tape, n int, want string) {
	t.Helper()
	before := tape.Taken()
	if got, e := tape.Take(n); e != api.OK || got != want {
		t.Errorf("P12.2: Take(%d) behind %d = %d bytes %.40x, error %d, want %d bytes %.40x", n, before, len(got), got, e, len(want), want)
	}
	wantTaken(t, tape, before+n)
}

func wantNoTake(t *testing.T, tape *Tape, n int, want api.Errno) {
	t.Helper()
	before := tape.Taken()
	if got, e := tape.Take(n); e != want || got != "" {
		t.Errorf("P12.2: Take(%d) behind %d = %d bytes, error %d, want error %d", n, before, len(got), e, want)
	}
	wantTaken(t, tape, before)
}

func wantNumber(t *testing.T, tape *Tape, below, want int) {
	t.Helper()
	before := tape.Taken()
	if got, e := tape.Number(below); e != api.OK || got != want {
		t.Errorf("P12.2: Number(%d) behind %d = %d, error %d, want %d", below, before, got, e, want)
	}
	wantTaken(t, tape, before+3)
}

func wantNoNumber(t *testing.T, tape *Tape, below int, want api.Errno) {
	t.Helper()
	before := tape.Taken()
	if got, e := tape.Number(below); e != want || got != 0 {
		t.Errorf("P12.2: Number(%d) behind %d = %d, error %d, want error %d", below, before, got, e, want)
	}
	wantTaken(t, tape, before)
}

// fork is the tape of Fork, all of its other answers being faults.
func fork(t *testing.T, tape *Tape, name string) *Tape {
	t.Helper()
	before := tape.Taken()
	f, e := tape.Fork(name)
	if e != api.OK || f == nil {
		t.Fatalf("P12.3: Fork(%.40q) behind %d: error %d", name, before, e)
	}
	wantTaken(t, f, 0)
	wantTaken(t, tape, before+32)
	return f
}

func wantNoFork(t *testing.T, tape *Tape, name string, want api.Errno) {
	t.Helper()
	before := tape.Taken()
	if f, e := tape.Fork(name); e != want || f != nil {
		t.Errorf("P12.3: Fork(%.40q) behind %d: error %d, want error %d", name, before, e, want)
	}
	wantTaken(t, tape, before)
}

// wantLeft takes all that is left of tape: it is want, and nothing is behind it.
func wantLeft(t *testing.T, tape *Tape, want string) {
	t.Helper()
	wantNoTake(t, tape, len(want)+1, api.ErrTape)
	wantTake(t, tape, len(want), want)
	wantTake(t, tape, 0, "")
	wantNoTake(t, tape, 1, api.ErrTape)
	wantNoTake(t, tape, -1, api.ErrArg)
	wantNoNumber(t, tape, 1, api.ErrTape)
	wantNoFork(t, tape, "", api.ErrTape)
}

// The tapes' bytes were told by another program.
func TestNewTellsKnownBytes(t *testing.T) {
	for _, c := range []struct{ seed, first, last, sum string }{
		{"", "98c37c1a7542eb45daa0d48d9c1adee0", "4f8de4ef0a590001", "048d6a5555ef3ede5a358c015a215eebc56427cf5bed966636833f05d9117a8f"},
		{"seed", "e9f5d902aebb39aa57fc233bacb995bf", "5c50e9d52ef35582", "9cece572068c4531754a4f53d9cae598994a518168d47a0699c5ee12997788a3"},
		{"seed/master", "13888c9ffe6a41285a107c5961e99ec5", "a449beb7c049ae53", "d394644c2e6f1ceeb71e84528c406f0ee5fda883eb9ae55af80b58ca59f9cfdd"},
		{"\x00", "466e87624c1c7b0fa0ac0794b3562bb2", "e798a37ba43a52d8", "f328e6190b9a83dec995e94375172a2e048efc8d667a271d1bba5e833b067a85"},
		{bytesFrom(0, 768), "c672610ef7b94e572c27f46559500351", "6c4ab1563804be73", "c7b7935887ec8a90b97dbb0725b85866916e82894a64ccff16e689652f2d5c99"},
	} {
		s, e := New(c.seed).Take(seeded)
		if e != api.OK || len(s) != seeded {
			t.Fatalf("P12.1: New(%.20q): %d bytes, error %d", c.seed, len(s), e)
		}
		sum := sha256.Sum256([]byte(s))
		if hex.EncodeToString([]byte(s[:16])) != c.first || hex.EncodeToString([]byte(s[seeded-8:])) != c.last || hex.EncodeToString(sum[:]) != c.sum {
			t.Errorf("P12.1: New(%.20q) has %x .. %x, Sum %x", c.seed, s[:16], s[seeded-8:], sum)
		}
	}
}

func TestNewTellsTheBytesOfItsSeed(t *testing.T) {
	seen := map[string]string{}
	for _, seed := range someSeeds(rand.New(rand.NewSource(1))) {
		tape := New(seed)
		wantTaken(t, tape, 0)
		all := seededOf(seed)
		wantLeft(t, tape, all)
		wantTaken(t, tape, seeded)
		if other, there := seen[all]; there && other != seed {
			t.Errorf("P12.1: the seeds %.20q and %.20q have one tape", seed, other)
		}
		seen[all] = seed
	}
}

func TestOfTellsItsBytes(t *testing.T) {
	r := rand.New(rand.NewSource(2))
	for _, n := range someSizes() {
		for _, s := range []string{drawn(r, n), strings.Repeat("\x00", n), bytesFrom(200, n)} {
			tape := Of(s)
			wantTaken(t, tape, 0)
			wantLeft(t, tape, s)
			wantTaken(t, tape, n)
		}
	}
}

func TestTakeOfTheExample(t *testing.T) {
	tape := Of("abcde")
	wantTake(t, tape, 2, "ab")
	wantNoTake(t, tape, 4, api.ErrTape)
	wantTake(t, tape, 3, "cde")
}

func TestTakenCountsWhatIsTaken(t *testing.T) {
	tape, want := New("counted"), 0
	for _, n := range []int{1, 0, 63, 64, 65, 0, 1000, 3, 4000} {
		tape.Take(n)
		want += n
		wantTaken(t, tape, want)
		tape.Take(-n - 1)
		tape.Take(seeded)
		tape.Number(0)
		wantTaken(t, tape, want)
		tape.Number(7)
		want += 3
		wantTaken(t, tape, want)
		tape.Fork("name")
		want += 32
		wantTaken(t, tape, want)
	}
}

func TestTakeOfWrongNumbers(t *testing.T) {
	all := bytesFrom(3, 130)
	for _, taken := range []int{0, 1, 63, 64, 65, 127, 128, 129, 130} {
		left := len(all) - taken
		tape := Of(all)
		wantTake(t, tape, taken, all[:taken])
		for _, n := range belowNone() {
			wantNoTake(t, tape, n, api.ErrArg)
		}
		for _, n := range []int{left + 1, left + 2, left + 64, 131, 65536, 65537, 1 << 31, 1 << 32, 1<<32 + 1, 1 << 62, math.MaxInt - taken, math.MaxInt - 1, math.MaxInt} {
			wantNoTake(t, tape, n, api.ErrTape)
		}
		wantLeft(t, tape, all[taken:])
	}
}

func TestTakeFromASeedOfWrongNumbers(t *testing.T) {
	all := seededOf("edge")
	for _, taken := range []int{0, 1, 64, 65535, 65536} {
		tape := New("edge")
		wantTake(t, tape, taken, all[:taken])
		for _, n := range []int{seeded - taken + 1, seeded + 1, seeded + 64, 1 << 32, 1<<32 + 1, math.MaxInt - taken, math.MaxInt} {
			wantNoTake(t, tape, n, api.ErrTape)
		}
		for _, n := range belowNone() {
			wantNoTake(t, tape, n, api.ErrArg)
		}
		wantLeft(t, tape, all[taken:])
	}
}

func TestNumberOfKnownBytes(t *testing.T) {
	for _, c := range []struct {
		bytes       string
		below, want int
	}{
		{"\x00\x01\x02", 100, 58},
		{"\x00\x01\x02", 258, 0},
		{"\x00\x01\x02", 259, 258},
		{"\x00\x01\x02", 16777216, 258},
		{"\x01\x00\x00", 16777216, 65536},
		{"\x00\x01\x00", 16777216, 256},
		{"\x00\x00\x01", 16777216, 1},
		{"\x80\x00\x00", 16777216, 8388608},
		{"\x00\x00\x00", 16777216, 0},
		{"\x00\x00\x00", 1, 0},
		{"\xff\xff\xff", 16777216, 16777215},
		{"\xff\xff\xff", 16777215, 0},
		{"\xff\xff\xff", 16777214, 1},
		{"\xff\xff\xff", 10, 5},
		{"\xff\xff\xff", 2, 1},
		{"\xff\xff\xff", 1, 0},
		{"abc", 1000, 179},
		{"abc", 65536, 25187},
		{"abc", 256, 99},
	} {
		tape := Of(c.bytes)
		wantNumber(t, tape, c.below, c.want)
		wantLeft(t, tape, "")
		tape = Of("y" + c.bytes + "z")
		wantTake(t, tape, 1, "y")
		wantNumber(t, tape, c.below, c.want)
		wantLeft(t, tape, "z")
	}
}

func TestNumberTakesNoOtherBound(t *testing.T) {
	for _, size := range []int{0, 1, 2, 3, 4, 64, 70} {
		all := bytesFrom(9, size)
		tape := Of(all)
		for _, below := range append(belowNone(), 0, 16777217, 16777218, 1<<25, 1<<32, 1<<32+1, 1<<32+100, 1<<62, math.MaxInt) {
			wantNoNumber(t, tape, below, api.ErrArg)
		}
		wantLeft(t, tape, all)
	}
}

func TestNumberTakesThreeBytesOrNone(t *testing.T) {
	for _, over := range []int{0, 1, 61, 62, 63, 64, 65, 127} {
		for left := range 6 {
			all := bytesFrom(0, over+left)
			tape := Of(all)
			wantTake(t, tape, over, all[:over])
			rest := all[over:]
			if left < 3 {
				for _, below := range []int{1, 2, 100, 16777215, 16777216} {
					wantNoNumber(t, tape, below, api.ErrTape)
				}
			} else {
				wantNumber(t, tape, 16777216, 65536*int(rest[0])+256*int(rest[1])+int(rest[2]))
				rest = rest[3:]
			}
			wantLeft(t, tape, rest)
		}
	}
}

func TestNumbersOfAWholeTape(t *testing.T) {
	for _, below := range []int{1, 2, 6, 100, 256, 65537, 16777215, 16777216} {
		tape, m := New("numbers"), &model{bytes: seededOf("numbers")}
		for range seeded / 3 {
			want, _ := m.number(below)
			wantNumber(t, tape, below, want)
		}
		wantNoNumber(t, tape, below, api.ErrTape)
		wantLeft(t, tape, m.bytes[seeded-seeded%3:])
	}
}

// The forks' bytes were told by another program.
func TestForkTellsKnownBytes(t *testing.T) {
	for seed, first := range map[string]string{
		"":            "ff0379d6081c48c6c50e54b204730519",
		"seed":        "78c309f1db18865f4db8a6f9b96b7251",
		"seed/master": "b8348f82962f1de2f768a5795dc02374",
		"\x00":        "02beded5ee7318092d7d018c10e5476d",
	} {
		s, e := fork(t, New(seed), "name").Take(16)
		if e != api.OK || hex.EncodeToString([]byte(s)) != first {
			t.Errorf("P12.3: New(%q), Fork(`name`): %x, error %d, want %s", seed, s, e, first)
		}
	}
}

func TestForkIsNewOfBytesAndName(t *testing.T) {
	r := rand.New(rand.NewSource(3))
	for _, name := range []string{"", "a", "b", "name", "\x00", "\xff\xfe", drawn(r, 23), drawn(r, 24), drawn(r, 32), drawn(r, 33), drawn(r, 4001), drawn(r, 70000)} {
		for _, over := range []int{0, 1, 31, 32, 33, 64, 100} {
			all := drawn(r, over+32+5)
			tape := Of(all)
			wantTake(t, tape, over, all[:over])
			wantLeft(t, fork(t, tape, name), seededOf(all[over:over+32]+name))
			wantLeft(t, tape, all[over+32:])
		}
	}
}

func TestForkTakesThirtyTwoBytesOrNone(t *testing.T) {
	for _, left := range []int{0, 1, 3, 16, 30, 31, 32, 33, 63, 64} {
		for _, name := range []string{"", "name", strings.Repeat("n", 100)} {
			all := bytesFrom(7, 50+left)
			tape := Of(all)
			wantTake(t, tape, 50, all[:50])
			if left < 32 {
				wantNoFork(t, tape, name, api.ErrTape)
				wantLeft(t, tape, all[50:])
				continue
			}
			wantLeft(t, fork(t, tape, name), seededOf(all[50:82]+name))
			wantLeft(t, tape, all[82:])
		}
	}
}

func TestForksOfForks(t *testing.T) {
	tape, m := New("first"), &model{bytes: seededOf("first")}
	for _, name := range []string{"a", "", "a", "bb", "\x00"} {
		tape = fork(t, tape, name)
		m, _ = m.fork(name)
		want, _ := m.take(33)
		wantTake(t, tape, 33, want)
	}
	wantLeft(t, tape, m.bytes[33:])
}

func TestForksAreUnlike(t *testing.T) {
	twice := New("s")
	seen := map[string]bool{}
	for i, tape := range []*Tape{fork(t, twice, "a"), fork(t, twice, "a"), fork(t, New("s"), "b"), fork(t, New("s"), ""), fork(t, New("r"), "a"), New("s"), New("a")} {
		s, _ := tape.Take(32)
		if seen[s] {
			t.Errorf("P12.3: tape %d is one of those ahead of it", i)
		}
		seen[s] = true
	}
}

func TestNoTape(t *testing.T) {
	var none *Tape
	for _, n := range append(belowNone(), 0, 1, 3, 32, 65536, 16777216, 16777217, math.MaxInt) {
		if s, e := none.Take(n); s != "" || e != api.ErrNil {
			t.Errorf("P12.3: no tape: Take(%d) = %q, error %d, want ErrNil", n, s, e)
		}
		if x, e := none.Number(n); x != 0 || e != api.ErrNil {
			t.Errorf("P12.3: no tape: Number(%d) = %d, error %d, want ErrNil", n, x, e)
		}
	}
	for _, name := range []string{"", "name", strings.Repeat("n", 5000)} {
		if f, e := none.Fork(name); f != nil || e != api.ErrNil {
			t.Errorf("P12.3: no tape: Fork(%.20q): error %d, want ErrNil", name, e)
		}
	}
	if n := none.Taken(); n != 0 {
		t.Errorf("P12.3: no tape: Taken() = %d, want 0", n)
	}
}

func TestPartsAreTheSameBytes(t *testing.T) {
	r := rand.New(rand.NewSource(4))
	texts := map[*Tape]string{New("parts"): seededOf("parts")}
	for _, n := range someSizes() {
		s := drawn(r, n)
		texts[Of(s)] = s
	}
	for tape, all := range texts {
		var b strings.Builder
		for b.Len() < len(all) {
			tape.Take(-1)
			part := min([]int{1, 2, 3, 31, 63, 64, 65, 128, 1000}[r.Intn(9)], len(all)-b.Len())
			s, e := tape.Take(part)
			if e != api.OK || len(s) != part {
				t.Fatalf("P12.4: Take(%d) behind %d of %d: %d bytes, error %d", part, b.Len(), len(all), len(s), e)
			}
			b.WriteString(s)
			tape.Take(len(all) - b.Len() + 1)
		}
		if b.String() != all {
			t.Errorf("P12.4: %d bytes are others, taken in parts", len(all))
		}
		wantLeft(t, tape, "")
	}
}

func TestTakenOneByOne(t *testing.T) {
	all := seededOf("one by one")
	tape := New("one by one")
	for i := range len(all) {
		wantTake(t, tape, 1, all[i:i+1])
		wantNoTake(t, tape, seeded-i, api.ErrTape)
	}
}

// walker is a tape, and what it should be.
type walker struct {
	tape *Tape
	m    *model
}

// step does one deed at both, by r, and tells a fork, if that was the deed.
func (w walker) step(t *testing.T, r *rand.Rand) []walker {
	t.Helper()
	switch r.Intn(8) {
	case 0:
		below := []int{-1, 0, 1, 100, 1 + r.Intn(16777216), 16777216, 16777217}[r.Intn(7)]
		got, e := w.tape.Number(below)
		if want, f := w.m.number(below); got != want || e != f {
			t.Fatalf("P12.2: Number(%d) = %d, error %d, want %d, error %d", below, got, e, want, f)
		}
	case 1:
		name := drawn(r, r.Intn(40))
		got, e := w.tape.Fork(name)
		want, f := w.m.fork(name)
		if e != f || (got == nil) != (want == nil) {
			t.Fatalf("P12.3: Fork(%q): error %d, want error %d", name, e, f)
		}
		if want != nil {
			return []walker{{got, want}}
		}
	default:
		n := []int{-1 - r.Intn(100), 0, 1, r.Intn(70), r.Intn(70), 64, r.Intn(len(w.m.bytes) + 2), len(w.m.bytes) - w.m.taken + 1}[r.Intn(8)]
		got, e := w.tape.Take(n)
		if want, f := w.m.take(n); got != want || e != f {
			t.Fatalf("P12.2: Take(%d) = %d bytes, error %d, want %d bytes, error %d", n, len(got), e, len(want), f)
		}
	}
	return nil
}

// Deeds of all kinds, the refused ones among them, at tapes of which none is moved by what is done to another.
func TestManyTapesInTurns(t *testing.T) {
	r := rand.New(rand.NewSource(5))
	for range 20 {
		seed, s := drawn(r, r.Intn(50)), drawn(r, r.Intn(3000))
		all := []walker{{New(seed), &model{bytes: seededOf(seed)}}, {New(seed), &model{bytes: seededOf(seed)}}, {Of(s), &model{bytes: s}}, {Of(s), &model{bytes: s}}}
		for range 200 {
			all = append(all, all[r.Intn(len(all))].step(t, r)...)
		}
		for _, w := range all {
			wantTaken(t, w.tape, w.m.taken)
			wantLeft(t, w.tape, w.m.bytes[w.m.taken:])
		}
	}
}

func TestTwoTapesOfOneSeed(t *testing.T) {
	r := rand.New(rand.NewSource(6))
	for _, seed := range someSeeds(r) {
		a, b := New(seed), New(seed)
		for range 50 {
			n := r.Intn(400)
			s, _ := a.Take(n)
			wantTake(t, b, n, s)
		}
		f, _ := a.Fork("same")
		s, _ := f.Take(seeded)
		wantLeft(t, fork(t, b, "same"), s)
	}
}

func TestTapesAtOnce(t *testing.T) {
	all := seededOf("at once")
	var there sync.WaitGroup
	for n := 1; n <= 16; n++ {
		there.Go(func() {
			tape := New("at once")
			for at := 0; at+n <= len(all); at += n {
				if s, _ := tape.Take(n); s != all[at:at+n] {
					t.Errorf("P12.4: Take(%d) behind %d tells other bytes", n, at)
				}
			}
		})
	}
	there.Wait()
}

// Of tapes of which the chapter says nothing R1 holds, still: the calls end, and none panics.
func TestTapesThatNothingIsSaidOf(t *testing.T) {
	bare := new(Tape)
	for _, n := range append(belowNone(), 0, 1, 32, math.MaxInt) {
		bare.Take(n)
		bare.Number(n)
	}
	bare.Fork("name")
	bare.Taken()
}

// A seed may have a billion bytes; of a longer one nothing is said, and R1 holds.
func TestSeedsOfABillionBytes(t *testing.T) {
	long := strings.Repeat("\x00", 1000000001)
	sum, _ := hex.DecodeString("bc17f06f9d9b5f6f79ca189a1772b1a3a38d6e40c45bec50f9c4f28144efddca")
	wantLeft(t, New(long[:1000000000]), keyedOf([32]byte(sum)))
	fork, _ := Of(long).Fork(long[:999999969])
	for _, tape := range []*Tape{New(long), fork} {
		tape.Taken()
		tape.Take(-1)
		tape.Take(1)
		tape.Number(100)
		tape.Fork("name")
	}
}

// What a tape of bytes has is bounded by nothing.
func TestOfManyBytes(t *testing.T) {
	all := strings.Repeat("a", 20000000) + "bcd"
	tape := Of(all)
	wantTake(t, tape, 16777217, all[:16777217])
	wantTake(t, tape, 20000000-16777217, all[16777217:20000000])
	wantTake(t, tape, 1, "b")
	wantLeft(t, tape, "cd")
}
