package word

import (
	"slices"
	"testing"
)

const top = 4294967295

// edges are words at which carries, turns and signs might go wrong.
func edges() []int {
	return []int{0, 1, 2, 10, 12, 255, 256, 65535, 65536, 305419896, 2147483647, 2147483648, 2147483649, 2863311530, 4278190080, top - 1, top}
}

// notWords are numbers that are no word; some have a word as their low 32 digits.
func notWords() []int {
	return []int{-1, -2147483648, -top, -top - 1, top + 1, top + 2, 2 * (top + 1), 1 << 62, -1 << 63, 1<<63 - 1}
}

// digit is x's digit number i, the lowest first.
func digit(x, i int) int {
	for range i {
		x /= 2
	}
	return x % 2
}

// fromDigits is the word of which f tells each digit.
func fromDigits(f func(i int) int) int {
	x := 0
	for i := 31; i >= 0; i-- {
		x = 2*x + f(i)
	}
	return x
}

func TestIs(t *testing.T) {
	if !Is() {
		t.Error("P1.1: Is of no arguments is false")
	}
	if !Is(edges()...) {
		t.Error("P1.1: Is of words is false")
	}
	for _, x := range edges() {
		if !Is(x) {
			t.Errorf("P1.1: Is(%d) is false", x)
		}
	}
	for _, x := range notWords() {
		for _, l := range [][]int{{x}, {x, 1}, {1, x}, {0, x, top}, {x, -x}} {
			if Is(l...) {
				t.Errorf("P1.1: Is(%v) is true", l)
			}
		}
	}
}

func TestAdd(t *testing.T) {
	for _, c := range []struct {
		l    []int
		want int
	}{
		{nil, 0},
		{[]int{0}, 0},
		{[]int{top}, top},
		{[]int{top, 0}, top},
		{[]int{top, 1}, 0},
		{[]int{top, 2}, 1},
		{[]int{top, top}, top - 1},
		{[]int{2147483648, 2147483648}, 0},
		{[]int{1, 2, 3, 4}, 10},
		{[]int{top, top, top, top, 5}, 1},
	} {
		if got, ok := Add(c.l...); got != c.want || !ok {
			t.Errorf("P1.1: Add(%v) = %d, %t; want %d", c.l, got, ok, c.want)
		}
	}
	for _, x := range notWords() {
		for _, l := range [][]int{{x}, {x, 1}, {1, x}, {top, x, 1}, {x, -x}} {
			if got, ok := Add(l...); got != 0 || ok {
				t.Errorf("P1.1: Add(%v) = %d, %t; want 0, false", l, got, ok)
			}
		}
	}
}

func TestAddMany(t *testing.T) {
	for _, c := range []struct{ n, want int }{{65536, 4294901760}, {1000000, 4293967296}} {
		if got, ok := Add(slices.Repeat([]int{top}, c.n)...); got != c.want || !ok {
			t.Errorf("P1.1: Add of %d times %d = %d, %t; want %d", c.n, top, got, ok, c.want)
		}
	}
}

func TestXorAnd(t *testing.T) {
	for _, a := range edges() {
		for _, b := range edges() {
			xor := fromDigits(func(i int) int { return (digit(a, i) + digit(b, i)) % 2 })
			and := fromDigits(func(i int) int { return digit(a, i) * digit(b, i) })
			if got, ok := Xor(a, b); got != xor || !ok {
				t.Errorf("P1.1: Xor(%d, %d) = %d, %t; want %d", a, b, got, ok, xor)
			}
			if got, ok := And(a, b); got != and || !ok {
				t.Errorf("P1.1: And(%d, %d) = %d, %t; want %d", a, b, got, ok, and)
			}
		}
	}
	if x, _ := Xor(12, 10); x != 6 {
		t.Errorf("P1.1: Xor(12, 10) = %d", x)
	}
	if x, _ := And(12, 10); x != 8 {
		t.Errorf("P1.1: And(12, 10) = %d", x)
	}
}

func TestXorAndOfNoWord(t *testing.T) {
	for _, x := range notWords() {
		for _, c := range [][2]int{{x, 1}, {1, x}, {x, x}, {0, x}, {x, 0}} {
			if got, ok := Xor(c[0], c[1]); got != 0 || ok {
				t.Errorf("P1.1: Xor(%d, %d) = %d, %t; want 0, false", c[0], c[1], got, ok)
			}
			if got, ok := And(c[0], c[1]); got != 0 || ok {
				t.Errorf("P1.1: And(%d, %d) = %d, %t; want 0, false", c[0], c[1], got, ok)
			}
		}
	}
}

func TestRot(t *testing.T) {
	for _, x := range edges() {
		for n := 0; n <= 32; n++ {
			want := fromDigits(func(i int) int { return digit(x, (i+32-n)%32) })
			if got, ok := Rot(x, n); got != want || !ok {
				t.Errorf("P1.1: Rot(%d, %d) = %d, %t; want %d", x, n, got, ok, want)
			}
		}
		for _, n := range []int{-1, -32, -33, 33, 64, 1 << 32, 1<<32 + 1, -1 << 63, 1<<63 - 1} {
			if got, ok := Rot(x, n); got != 0 || ok {
				t.Errorf("P1.1: Rot(%d, %d) = %d, %t; want 0, false", x, n, got, ok)
			}
		}
	}
	for _, x := range notWords() {
		for _, n := range []int{-1, 0, 1, 32, 33} {
			if got, ok := Rot(x, n); got != 0 || ok {
				t.Errorf("P1.1: Rot(%d, %d) = %d, %t; want 0, false", x, n, got, ok)
			}
		}
	}
	if x, _ := Rot(2147483649, 1); x != 3 {
		t.Errorf("P1.1: Rot(2147483649, 1) = %d", x)
	}
}

func TestCutAndJoin(t *testing.T) {
	for _, c := range []struct {
		s         string
		high, low []int
	}{
		{"", nil, nil},
		{"\x01\x02\x03\x04", []int{16909060}, []int{67305985}},
		{"\x00\x00\x00\x00", []int{0}, []int{0}},
		{"\xff\xff\xff\xff", []int{top}, []int{top}},
		{"\x80\x00\x00\x00", []int{2147483648}, []int{128}},
		{"\x00\x00\x00\x80\xff\x00\x00\x00", []int{128, 4278190080}, []int{2147483648, 255}},
		{"abcdefgh\x00\x00\x00\x01", []int{1633837924, 1701209960, 1}, []int{1684234849, 1751606885, 16777216}},
	} {
		for _, x := range []struct {
			high  bool
			words []int
		}{{true, c.high}, {false, c.low}} {
			if got, ok := Cut(c.s, x.high); !slices.Equal(got, x.words) || !ok {
				t.Errorf("P1.2: Cut(%q, %t) = %v, %t; want %v", c.s, x.high, got, ok, x.words)
			}
			if got, ok := Join(x.words, x.high); got != c.s || !ok {
				t.Errorf("P1.2: Join(%v, %t) = %q, %t; want %q", x.words, x.high, got, ok, c.s)
			}
		}
	}
}

func TestCutOfNoWords(t *testing.T) {
	for _, s := range []string{"a", "ab", "abc", "abcde", "abcdef", "abcdefg", "\x00\x00\x00", "äö!"} {
		for _, high := range []bool{true, false} {
			if got, ok := Cut(s, high); got != nil || ok {
				t.Errorf("P1.2: Cut(%q, %t) = %v, %t; want none, false", s, high, got, ok)
			}
		}
	}
}

func TestJoinOfNoWord(t *testing.T) {
	for _, x := range notWords() {
		for _, l := range [][]int{{x}, {x, 1}, {1, x}, {1, x, 2}} {
			for _, high := range []bool{true, false} {
				if got, ok := Join(l, high); got != "" || ok {
					t.Errorf("P1.2: Join(%v, %t) = %q, %t; want none, false", l, high, got, ok)
				}
			}
		}
	}
}

func TestCutAndJoinUndoOneAnother(t *testing.T) {
	all := make([]byte, 256)
	for i := range all {
		all[i] = byte(i*37 + 200)
	}
	for n := 0; n <= len(all); n += 4 {
		s := string(all[:n])
		for _, high := range []bool{true, false} {
			l, ok := Cut(s, high)
			if got, same := Join(l, high); !ok || !same || got != s {
				t.Errorf("P1.3: Join of Cut of %q, %t is %q", s, high, got)
			}
		}
	}
	for n := range edges() {
		l := edges()[:n+1]
		for _, high := range []bool{true, false} {
			s, ok := Join(l, high)
			if got, same := Cut(s, high); !ok || !same || !slices.Equal(got, l) {
				t.Errorf("P1.3: Cut of Join of %v, %t is %v", l, high, got)
			}
		}
	}
}

func TestXorTwiceAndRotBack(t *testing.T) {
	for _, a := range edges() {
		for _, b := range edges() {
			x, _ := Xor(a, b)
			if got, ok := Xor(x, b); got != a || !ok {
				t.Errorf("P1.3: %d xor %d twice is %d", a, b, got)
			}
		}
		for n := 0; n <= 32; n++ {
			x, _ := Rot(a, n)
			if got, ok := Rot(x, 32-n); got != a || !ok {
				t.Errorf("P1.3: %d turned by %d and back is %d", a, n, got)
			}
		}
	}
}

func TestOrderOfAdd(t *testing.T) {
	for _, l := range [][]int{{1, top}, {top, 2147483648, 5, top, 0, 7}, edges()} {
		want, _ := Add(l...)
		turned := slices.Clone(l)
		for range l {
			turned = append(turned[1:], turned[0])
			back := slices.Clone(turned)
			slices.Reverse(back)
			for _, m := range [][]int{turned, back} {
				if got, ok := Add(m...); got != want || !ok {
					t.Errorf("P1.3: Add(%v) = %d, %t; want %d", m, got, ok, want)
				}
			}
		}
	}
}

func TestNothingIsChangedOrKept(t *testing.T) {
	l := edges()
	Is(l...)
	Add(l...)
	Join(l, true)
	Join(l, false)
	if !slices.Equal(l, edges()) {
		t.Errorf("R2: words that were handed in became %v", l)
	}
	first, _ := Cut("abcdefgh", true)
	want := slices.Clone(first)
	second, _ := Cut("abcdefgh", true)
	second[0], second[1] = 0, 0
	if !slices.Equal(first, want) {
		t.Errorf("R2: two answers of Cut share their memory: %v", first)
	}
}
