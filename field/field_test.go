package field

import (
	"math"
	"math/rand"
	"strings"
	"sync"
	"testing"
)

// notDigits are numbers that are no digit; some have a digit as their low places.
func notDigits() []int {
	return []int{-1, -2, -27, -255, -256, -257, -65536, 256, 257, 283, 511, 512, 65535, 65536, 1 << 32, 1<<32 + 1, -1 << 32, 1 << 62, math.MinInt, math.MinInt + 1, math.MaxInt}
}

// someDigits are digits at which a double goes over, tables begin or end, or the examples stand.
func someDigits() []int {
	return []int{0, 1, 2, 3, 4, 27, 83, 127, 128, 129, 202, 246, 254, 255}
}

// digitsOf are the eight digits of x in base 2, the lowest first.
func digitsOf(x int) [8]int {
	var l [8]int
	for i := range l {
		l[i] = x % 2
		x /= 2
	}
	return l
}

// sumOf is the xor of two digits, done place by place.
func sumOf(a, b int) int {
	x, y, sum := digitsOf(a), digitsOf(b), 0
	for i := 7; i >= 0; i-- {
		sum = 2*sum + (x[i]+y[i])%2
	}
	return sum
}

// doubleOf is the chapter's double, as it is written.
func doubleOf(x int) int {
	if 2*x < 256 {
		return 2 * x
	}
	return sumOf(2*x-256, 27)
}

// productOf is the chapter's product, as it is written.
func productOf(a, b int) int {
	sum := 0
	for _, d := range digitsOf(b) {
		if d == 1 {
			sum = sumOf(sum, a)
		}
		a = doubleOf(a)
	}
	return sum
}

// productsOf are the products of all digits.
func productsOf() *[256][256]int {
	var l [256][256]int
	for a := range l {
		for b := range l[a] {
			l[a][b] = productOf(a, b)
		}
	}
	return &l
}

// mul is Mul of digits; all of them have a product.
func mul(t *testing.T, f *Field, a, b int) int {
	product, ok := f.Mul(a, b)
	if !ok || product < 0 || product > 255 {
		t.Fatalf("P7.1: Mul(%d, %d) = %d, %t, which is no digit", a, b, product, ok)
	}
	return product
}

// drawn is n bytes, by seed alone.
func drawn(n, seed int) string {
	r := rand.New(rand.NewSource(int64(seed)))
	b := make([]byte, n)
	for i := range b {
		b[i] = byte(r.Intn(256))
	}
	return string(b)
}

func allBytes() string {
	b := make([]byte, 256)
	for i := range b {
		b[i] = byte(i)
	}
	return string(b)
}

// bytesOf is P7.2 as it is written.
func bytesOf(a int, s string) string {
	b := []byte(s)
	for i := range b {
		b[i] = byte(productOf(a, int(b[i])))
	}
	return string(b)
}

func TestAdd(t *testing.T) {
	for a := range 256 {
		for b := range 256 {
			if got, ok := Add(a, b); !ok || got != sumOf(a, b) {
				t.Errorf("P7.1: Add(%d, %d) = %d, %t, want %d", a, b, got, ok, sumOf(a, b))
			}
		}
	}
}

func TestMul(t *testing.T) {
	f := New()
	for a := range 256 {
		for b := range 256 {
			if got, ok := f.Mul(a, b); !ok || got != productOf(a, b) {
				t.Errorf("P7.1: Mul(%d, %d) = %d, %t, want %d", a, b, got, ok, productOf(a, b))
			}
		}
	}
}

// The examples of FIPS 197, chapter 4.2.
func TestMulOfKnownDigits(t *testing.T) {
	f := New()
	for _, x := range [][3]int{
		{0x57, 0x83, 0xc1}, {0x57, 0x13, 0xfe}, {0x57, 0x02, 0xae}, {0x57, 0x04, 0x47}, {0x57, 0x08, 0x8e}, {0x57, 0x10, 0x07},
		{83, 202, 1}, {2, 128, 27}, {3, 246, 1}, {128, 128, 154}, {255, 255, 19}, {1, 255, 255}, {0, 255, 0}, {0, 0, 0},
	} {
		if got, ok := f.Mul(x[0], x[1]); !ok || got != x[2] {
			t.Errorf("P7.1: Mul(%d, %d) = %d, %t, want %d", x[0], x[1], got, ok, x[2])
		}
		if got, ok := f.Mul(x[1], x[0]); !ok || got != x[2] {
			t.Errorf("P7.1: Mul(%d, %d) = %d, %t, want %d", x[1], x[0], got, ok, x[2])
		}
	}
}

func TestAddAndMulOfNoDigit(t *testing.T) {
	f := New()
	for _, x := range notDigits() {
		for _, y := range append(someDigits(), notDigits()...) {
			for _, c := range [][2]int{{x, y}, {y, x}} {
				if got, ok := Add(c[0], c[1]); ok || got != 0 {
					t.Errorf("P7.1: Add(%d, %d) = %d, %t, want 0, false", c[0], c[1], got, ok)
				}
				if got, ok := f.Mul(c[0], c[1]); ok || got != 0 {
					t.Errorf("P7.1: Mul(%d, %d) = %d, %t, want 0, false", c[0], c[1], got, ok)
				}
			}
		}
	}
}

func TestInv(t *testing.T) {
	f := New()
	for a := 1; a < 256; a++ {
		got, ok := f.Inv(a)
		if !ok || got < 1 || got > 255 || productOf(got, a) != 1 {
			t.Errorf("P7.1: Inv(%d) = %d, %t", a, got, ok)
		}
		if back, ok := f.Inv(got); !ok || back != a {
			t.Errorf("P7.1: Inv(%d) = %d, %t, want %d", got, back, ok, a)
		}
	}
	for _, x := range [][2]int{{1, 1}, {2, 141}, {3, 246}, {83, 202}, {202, 83}, {246, 3}, {255, 28}} {
		if got, ok := f.Inv(x[0]); !ok || got != x[1] {
			t.Errorf("P7.1: Inv(%d) = %d, %t, want %d", x[0], got, ok, x[1])
		}
	}
}

func TestInvOfNone(t *testing.T) {
	f := New()
	for _, a := range append(notDigits(), 0) {
		if got, ok := f.Inv(a); ok || got != 0 {
			t.Errorf("P7.1: Inv(%d) = %d, %t, want 0, false", a, got, ok)
		}
	}
}

func TestDiv(t *testing.T) {
	f, products := New(), productsOf()
	for a := range 256 {
		for b := 1; b < 256; b++ {
			if got, ok := f.Div(a, b); !ok || got < 0 || got > 255 || products[got][b] != a {
				t.Errorf("P7.1: Div(%d, %d) = %d, %t", a, b, got, ok)
			}
		}
	}
	for _, x := range [][3]int{{0, 1, 0}, {0, 255, 0}, {1, 1, 1}, {1, 3, 246}, {83, 83, 1}, {1, 83, 202}, {27, 2, 128}, {255, 1, 255}} {
		if got, ok := f.Div(x[0], x[1]); !ok || got != x[2] {
			t.Errorf("P7.1: Div(%d, %d) = %d, %t, want %d", x[0], x[1], got, ok, x[2])
		}
	}
}

func TestDivOfNone(t *testing.T) {
	f := New()
	for a := range 256 {
		if got, ok := f.Div(a, 0); ok || got != 0 {
			t.Errorf("P7.1: Div(%d, 0) = %d, %t, want 0, false", a, got, ok)
		}
	}
	for _, x := range notDigits() {
		for _, y := range append(someDigits(), notDigits()...) {
			for _, c := range [][2]int{{x, y}, {y, x}} {
				if got, ok := f.Div(c[0], c[1]); ok || got != 0 {
					t.Errorf("P7.1: Div(%d, %d) = %d, %t, want 0, false", c[0], c[1], got, ok)
				}
			}
		}
	}
}

func TestPow(t *testing.T) {
	f, products := New(), productsOf()
	for a := range 256 {
		want := 1
		for n := range 800 {
			if got, ok := f.Pow(a, n); !ok || got != want {
				t.Errorf("P7.1: Pow(%d, %d) = %d, %t, want %d", a, n, got, ok, want)
			}
			want = products[want][a]
		}
	}
	for _, x := range [][3]int{{0, 0, 1}, {0, 1, 0}, {0, 1000000, 0}, {1, 0, 1}, {1, 1000000, 1}, {255, 0, 1}, {2, 8, 27}, {3, 255, 1}, {3, 254, 246}} {
		if got, ok := f.Pow(x[0], x[1]); !ok || got != x[2] {
			t.Errorf("P7.1: Pow(%d, %d) = %d, %t, want %d", x[0], x[1], got, ok, x[2])
		}
	}
}

func TestPowOfManyTimes(t *testing.T) {
	f, products := New(), productsOf()
	for a := range 256 {
		want := 1
		for n := 0; n <= 1000000; n++ {
			if n%99991 == 0 || n > 999999-20 {
				if got, ok := f.Pow(a, n); !ok || got != want {
					t.Errorf("P7.1: Pow(%d, %d) = %d, %t, want %d", a, n, got, ok, want)
				}
			}
			want = products[want][a]
		}
	}
}

func TestPowOfNone(t *testing.T) {
	f := New()
	for _, a := range notDigits() {
		for _, n := range []int{0, 1, 2, 255, 1000000, 1000001, -1} {
			if got, ok := f.Pow(a, n); ok || got != 0 {
				t.Errorf("P7.1: Pow(%d, %d) = %d, %t, want 0, false", a, n, got, ok)
			}
		}
	}
	for a := range 256 {
		for _, n := range []int{-1, -2, -255, -256, -1000000, 1000001, 1000002, 1000255, 1 << 32, 1 << 62, math.MinInt, math.MinInt + 1, math.MaxInt} {
			if got, ok := f.Pow(a, n); ok || got != 0 {
				t.Errorf("P7.1: Pow(%d, %d) = %d, %t, want 0, false", a, n, got, ok)
			}
		}
	}
}

func TestNoField(t *testing.T) {
	var f *Field
	all := append(someDigits(), notDigits()...)
	for _, a := range all {
		if got, ok := f.Inv(a); ok || got != 0 {
			t.Errorf("P7.1: of no field Inv(%d) = %d, %t, want 0, false", a, got, ok)
		}
		for _, b := range all {
			if got, ok := f.Mul(a, b); ok || got != 0 {
				t.Errorf("P7.1: of no field Mul(%d, %d) = %d, %t, want 0, false", a, b, got, ok)
			}
			if got, ok := f.Div(a, b); ok || got != 0 {
				t.Errorf("P7.1: of no field Div(%d, %d) = %d, %t, want 0, false", a, b, got, ok)
			}
			if got, ok := f.Pow(a, b); ok || got != 0 {
				t.Errorf("P7.1: of no field Pow(%d, %d) = %d, %t, want 0, false", a, b, got, ok)
			}
		}
		for _, s := range []string{"", "\x00", "abc", allBytes()} {
			if got, ok := Bytes(nil, a, s); ok || got != "" {
				t.Errorf("P7.2: Bytes of no field, %d, %x = %x, %t, want none, false", a, s, got, ok)
			}
		}
	}
}

// Of a field that New did not tell nothing is said but that its calls end (R1).
func TestZeroField(t *testing.T) {
	var f Field
	for _, a := range append(someDigits(), notDigits()...) {
		for _, b := range append(someDigits(), notDigits()...) {
			f.Mul(a, b)
			f.Div(a, b)
			f.Pow(a, b)
		}
		f.Inv(a)
		Bytes(&f, a, allBytes())
	}
}

func TestBytes(t *testing.T) {
	f := New()
	for a := range 256 {
		for _, s := range []string{"", "\x00", "\x01", "\xff", "abc", "\xc3\xa4\xff\xfe\x00", strings.Repeat("\x00", 40), drawn(33, a), allBytes()} {
			if got, ok := Bytes(f, a, s); !ok || got != bytesOf(a, s) {
				t.Errorf("P7.2: Bytes of %d, %x = %x, %t, want %x", a, s, got, ok, bytesOf(a, s))
			}
		}
	}
}

func TestBytesOfKnownTexts(t *testing.T) {
	f := New()
	for _, x := range []struct {
		a       int
		s, want string
	}{
		{0, "abc", "\x00\x00\x00"}, {1, "abc", "abc"}, {2, "\x01\x80\xff", "\x02\x1b\xe5"}, {3, "\xf6\x01", "\x01\x03"}, {202, "SS", "\x01\x01"}, {0, "", ""}, {255, "", ""},
	} {
		if got, ok := Bytes(f, x.a, x.s); !ok || got != x.want {
			t.Errorf("P7.2: Bytes of %d, %x = %x, %t, want %x", x.a, x.s, got, ok, x.want)
		}
	}
}

func TestBytesOfLongTexts(t *testing.T) {
	f := New()
	for _, n := range []int{255, 256, 257, 4000, 4001, 65536, 1000003} {
		s := drawn(n, n)
		for _, a := range []int{0, 1, 2, 142, 255} {
			if got, ok := Bytes(f, a, s); !ok || got != bytesOf(a, s) {
				t.Errorf("P7.2: Bytes of %d and %d bytes: %d others, %t", a, n, len(got), ok)
			}
		}
	}
}

func TestBytesOfNoDigit(t *testing.T) {
	f := New()
	for _, a := range notDigits() {
		for _, s := range []string{"", "\x00", "abc", allBytes()} {
			if got, ok := Bytes(f, a, s); ok || got != "" {
				t.Errorf("P7.2: Bytes of %d, %x = %x, %t, want none, false", a, s, got, ok)
			}
		}
	}
}

func TestProductsMayBeTurnedRound(t *testing.T) {
	f := New()
	for a := range 256 {
		for b := range 256 {
			if ab, ba := mul(t, f, a, b), mul(t, f, b, a); ab != ba {
				t.Errorf("P7.3: %d times %d is %d, and turned round %d", a, b, ab, ba)
			}
		}
	}
}

func TestProductsMayBePutTogetherInAnyWay(t *testing.T) {
	f := New()
	for a := range 256 {
		for b := range 256 {
			ab := mul(t, f, a, b)
			for c := range 256 {
				if mul(t, f, ab, c) != mul(t, f, a, mul(t, f, b, c)) {
					t.Fatalf("P7.3: products of %d, %d and %d differ", a, b, c)
				}
			}
		}
	}
}

func TestProductsOfSums(t *testing.T) {
	f := New()
	for a := range 256 {
		for b := range 256 {
			sum, _ := Add(a, b)
			for c := range 256 {
				want, ok := Add(mul(t, f, a, c), mul(t, f, b, c))
				if got := mul(t, f, sum, c); !ok || got != want {
					t.Fatalf("P7.3: the sum of %d and %d, times %d, is %d, not %d", a, b, c, got, want)
				}
			}
		}
	}
}

func TestMultipliedAndDivided(t *testing.T) {
	f := New()
	for a := range 256 {
		for b := 1; b < 256; b++ {
			if got, ok := f.Div(mul(t, f, a, b), b); !ok || got != a {
				t.Errorf("P7.3: %d times %d, divided by it, is %d, %t", a, b, got, ok)
			}
			quotient, _ := f.Div(a, b)
			if got := mul(t, f, quotient, b); got != a {
				t.Errorf("P7.3: %d divided by %d, times it, is %d", a, b, got)
			}
		}
	}
	s := drawn(300, 7)
	for b := 1; b < 256; b++ {
		inverse, _ := f.Inv(b)
		there, _ := Bytes(f, b, s)
		if back, ok := Bytes(f, inverse, there); !ok || back != s {
			t.Errorf("P7.3: bytes times %d, times %d, are %x, %t", b, inverse, back, ok)
		}
	}
}

func TestPowOf255(t *testing.T) {
	f := New()
	for a := 1; a < 256; a++ {
		if got, ok := f.Pow(a, 255); !ok || got != 1 {
			t.Errorf("P7.3: Pow(%d, 255) = %d, %t, want 1", a, got, ok)
		}
		inverse, _ := f.Inv(a)
		if got, ok := f.Pow(a, 254); !ok || got != inverse {
			t.Errorf("P7.3: Pow(%d, 254) = %d, %t, want %d", a, got, ok, inverse)
		}
	}
	if got, ok := f.Pow(0, 255); !ok || got != 0 {
		t.Errorf("P7.3: Pow(0, 255) = %d, %t, want 0", got, ok)
	}
}

// A field has no memory of what was asked, and shares none with another one (R2).
func TestNothingIsKept(t *testing.T) {
	f, other := New(), New()
	if f == nil || other == nil || f == other {
		t.Fatal("P7.1: New does not tell a new field")
	}
	first := *f
	f.Mul(83, 202)
	f.Mul(256, -1)
	f.Inv(0)
	f.Div(1, 0)
	f.Pow(2, 1000001)
	s := allBytes()
	Bytes(f, 255, s)
	if *f != first || *f != *other || s != allBytes() {
		t.Error("R2: a call changed its field, or what was handed in")
	}
	*other = Field{}
	if *f != first || *New() != first {
		t.Error("R2: fields share their memory")
	}
}

// Many may ask one field at the same time.
func TestOneFieldForMany(t *testing.T) {
	f, s := New(), allBytes()
	var all sync.WaitGroup
	var got [8]string
	for i := range got {
		all.Go(func() { got[i], _ = Bytes(f, 200+i, s) })
	}
	all.Wait()
	for i := range got {
		if got[i] != bytesOf(200+i, s) {
			t.Errorf("P7.2: Bytes of %d, asked by many, differ", 200+i)
		}
	}
}
