package poly

import (
	"math"
	"math/rand"
	"slices"
	"sync"
	"testing"
)

// notDigits are numbers that are no digit; some have a digit as their low places.
func notDigits() []int {
	return []int{-1, -2, -255, -256, -257, 256, 257, 283, 511, 512, 65536, 1 << 32, 1<<32 + 1, -1 << 32, 1 << 62, math.MinInt, math.MinInt + 1, math.MaxInt}
}

// someDigits are digits at which a double goes over, a row begins or ends, or the examples stand.
func someDigits() []int {
	return []int{0, 1, 2, 3, 27, 127, 128, 129, 202, 254, 255}
}

// someLengths are lengths of rows that are not too long, the edges among them.
func someLengths() []int {
	return []int{1, 2, 3, 4, 5, 8, 16, 17, 32, 33, 127, 128, 253, 254, 255}
}

// productOf is chapter 7's product, as it is written.
func productOf(a, b int) int {
	sum := 0
	for ; b > 0; b /= 2 {
		if b%2 == 1 {
			sum ^= a
		}
		a *= 2
		if a > 255 {
			a = (a - 256) ^ 27
		}
	}
	return sum
}

// products are those of all digits, and inverses the digits whose product with each is 1.
var products, inverses = func() (all [256][256]int, back [256]int) {
	for a := range all {
		for b := range all[a] {
			all[a][b] = productOf(a, b)
			if all[a][b] == 1 {
				back[a] = b
			}
		}
	}
	return
}()

// evalOf is P8.1's sum, as it is written.
func evalOf(l []int, x int) int {
	sum := 0
	for place, digit := range l {
		power := 1
		for range place {
			power = products[power][x]
		}
		sum ^= products[digit][power]
	}
	return sum
}

// weightsOf are P8.2's products, as they are written.
func weightsOf(xs []int, x int) []int {
	var l []int
	for i := range xs {
		product := 1
		for k := range xs {
			if k != i {
				product = products[product][products[x^xs[k]][inverses[xs[i]^xs[k]]]]
			}
		}
		l = append(l, product)
	}
	return l
}

// throughOf is P8.3's sum, as it is written.
func throughOf(xs, ys []int, x int) int {
	sum := 0
	for i, w := range weightsOf(xs, x) {
		sum ^= products[ys[i]][w]
	}
	return sum
}

// drawn are n digits, by r.
func drawn(r *rand.Rand, n int) []int {
	l := make([]int, n)
	for i := range l {
		l[i] = r.Intn(256)
	}
	return l
}

// different are n digits that are all different, by r.
func different(r *rand.Rand, n int) []int {
	return r.Perm(256)[:n]
}

// evals are the polynomial's digits at each of xs.
func evals(t *testing.T, l, xs []int) []int {
	var ys []int
	for _, x := range xs {
		y, ok := Eval(l, x)
		if !ok {
			t.Fatalf("P8.1: Eval(%v, %d) tells none", l, x)
		}
		ys = append(ys, y)
	}
	return ys
}

// with is l with d at place i.
func with(l []int, i, d int) []int {
	l = slices.Clone(l)
	l[i] = d
	return l
}

func wantEval(t *testing.T, l []int, x, want int) {
	t.Helper()
	if got, ok := Eval(l, x); !ok || got != want {
		t.Errorf("P8.1: Eval(%v, %d) = %d, %t, want %d", l, x, got, ok, want)
	}
}

func wantNoEval(t *testing.T, l []int, x int) {
	t.Helper()
	if got, ok := Eval(l, x); ok || got != 0 {
		t.Errorf("P8.1: Eval(%v, %d) = %d, %t, want 0, false", l, x, got, ok)
	}
}

func wantWeights(t *testing.T, xs []int, x int, want []int) {
	t.Helper()
	if got, ok := Weights(xs, x); !ok || !slices.Equal(got, want) {
		t.Errorf("P8.2: Weights(%v, %d) = %v, %t, want %v", xs, x, got, ok, want)
	}
}

func wantThrough(t *testing.T, xs, ys []int, x, want int) {
	t.Helper()
	if got, ok := Through(xs, ys, x); !ok || got != want {
		t.Errorf("P8.3: Through(%v, %v, %d) = %d, %t, want %d", xs, ys, x, got, ok, want)
	}
}

func wantNoThrough(t *testing.T, xs, ys []int, x int) {
	t.Helper()
	if got, ok := Through(xs, ys, x); ok || got != 0 {
		t.Errorf("P8.3: Through(%v, %v, %d) = %d, %t, want 0, false", xs, ys, x, got, ok)
	}
}

// wantNoWeights asks Through, too: where there are no weights, nothing goes through.
func wantNoWeights(t *testing.T, xs []int, x int) {
	t.Helper()
	if got, ok := Weights(xs, x); ok || got != nil {
		t.Errorf("P8.2: Weights(%v, %d) = %v, %t, want none, false", xs, x, got, ok)
	}
	wantNoThrough(t, xs, make([]int, len(xs)), x)
}

func TestEvalOfKnownDigits(t *testing.T) {
	for _, c := range []struct {
		l       []int
		x, want int
	}{
		{[]int{5, 2, 1}, 3, 6}, {[]int{5, 2, 1}, 0, 5}, {[]int{5, 2, 1}, 1, 6}, {[]int{5, 2, 1}, 2, 5},
		{nil, 0, 0}, {[]int{}, 255, 0}, {[]int{0}, 7, 0}, {[]int{255}, 0, 255}, {[]int{255}, 255, 255},
		{[]int{0, 1}, 0, 0}, {[]int{0, 1}, 77, 77}, {[]int{0, 202}, 83, 1}, {[]int{1, 202}, 83, 0},
		{[]int{0, 0, 1}, 128, 154}, {[]int{0, 0, 0, 0, 0, 0, 0, 0, 1}, 2, 27}, {[]int{1, 1, 1, 1}, 1, 0}, {[]int{9, 0, 0, 0}, 0, 9},
	} {
		wantEval(t, c.l, c.x, c.want)
	}
}

func TestEval(t *testing.T) {
	r := rand.New(rand.NewSource(81))
	for _, n := range append(someLengths(), 0) {
		l := drawn(r, n)
		for x := range 256 {
			wantEval(t, l, x, evalOf(l, x))
		}
	}
	for range 200 {
		l, x := drawn(r, r.Intn(256)), r.Intn(256)
		wantEval(t, l, x, evalOf(l, x))
	}
}

// Each place counts by itself: the last of 255, too, and place 0 at x 0.
func TestEvalOfOneDigit(t *testing.T) {
	for place := range 255 {
		for _, d := range []int{1, 2, 255} {
			l := with(make([]int, 255), place, d)
			for _, x := range someDigits() {
				wantEval(t, l, x, evalOf(l, x))
				wantEval(t, l[:place+1], x, evalOf(l, x))
			}
		}
	}
}

func TestEvalOfTooMany(t *testing.T) {
	for _, n := range []int{256, 257, 511, 512, 65536, 65536 + 255, 1000003} {
		l := make([]int, n)
		for _, x := range someDigits() {
			if got, ok := Eval(l, x); ok || got != 0 {
				t.Errorf("P8.1: Eval of %d elements, %d = %d, %t, want 0, false", n, x, got, ok)
			}
		}
	}
	wantEval(t, make([]int, 255), 255, 0)
}

func TestEvalOfNoDigit(t *testing.T) {
	r := rand.New(rand.NewSource(82))
	for _, none := range notDigits() {
		for _, n := range append(someLengths(), 0) {
			l := drawn(r, n)
			wantNoEval(t, l, none)
			wantNoEval(t, make([]int, n), none)
			for _, place := range []int{0, n / 2, n - 1} {
				if place >= 0 && place < n {
					for _, x := range []int{0, 1, 255, none} {
						wantNoEval(t, with(l, place, none), x)
					}
				}
			}
		}
	}
}

func TestDegree(t *testing.T) {
	for _, c := range []struct {
		l    []int
		want int
	}{
		{nil, -1}, {[]int{}, -1}, {[]int{0}, -1}, {[]int{0, 0, 0}, -1}, {[]int{5}, 0}, {[]int{-1}, 0}, {[]int{5, 2, 1}, 2}, {[]int{5, 0, 0}, 0},
		{[]int{0, 256}, 1}, {[]int{0, 512, 0}, 1}, {[]int{0, 1 << 32, 0}, 1}, {[]int{math.MinInt, 0}, 0}, {[]int{0, 0, math.MaxInt}, 2}, {[]int{1, -1, 0, 0}, 1},
	} {
		if got := Degree(c.l); got != c.want {
			t.Errorf("P8.1: Degree(%v) = %d, want %d", c.l, got, c.want)
		}
	}
}

func TestDegreeOfMany(t *testing.T) {
	for _, n := range []int{1, 2, 254, 255, 256, 257, 65536, 1000003} {
		l := make([]int, n)
		if got := Degree(l); got != -1 {
			t.Errorf("P8.1: Degree of %d zeros = %d, want -1", n, got)
		}
		for _, place := range []int{0, n / 3, n / 2, n - 1} {
			l[place] = -256
			if got := Degree(l); got != place {
				t.Errorf("P8.1: Degree of %d elements, the last of which stands at %d, = %d", n, place, got)
			}
		}
	}
}

func TestWeightsOfKnownDigits(t *testing.T) {
	for _, c := range []struct {
		xs   []int
		x    int
		want []int
	}{
		{[]int{0}, 0, []int{1}}, {[]int{0}, 255, []int{1}}, {[]int{255}, 7, []int{1}},
		{[]int{1, 2}, 0, []int{247, 246}}, {[]int{2, 1}, 0, []int{246, 247}}, {[]int{1, 3}, 0, []int{140, 141}}, {[]int{0, 1}, 77, []int{76, 77}},
		{[]int{1, 2, 3}, 0, []int{1, 1, 1}}, {[]int{1, 2, 3}, 2, []int{0, 1, 0}}, {[]int{0, 255}, 255, []int{0, 1}}, {[]int{0, 255}, 0, []int{1, 0}},
	} {
		wantWeights(t, c.xs, c.x, c.want)
	}
}

func TestWeights(t *testing.T) {
	r := rand.New(rand.NewSource(83))
	for _, n := range someLengths() {
		xs := different(r, n)
		for _, x := range append(someDigits(), xs[0], xs[n-1]) {
			wantWeights(t, xs, x, weightsOf(xs, x))
		}
	}
	for range 300 {
		xs, x := different(r, 1+r.Intn(20)), r.Intn(256)
		wantWeights(t, xs, x, weightsOf(xs, x))
	}
}

func TestWeightsOfAllPairs(t *testing.T) {
	for a := range 256 {
		for b := range 256 {
			if a != b {
				x := (a*7 + b*13) % 256
				wantWeights(t, []int{a, b}, x, weightsOf([]int{a, b}, x))
			}
		}
	}
}

func TestWeightsOfTooManyOrNone(t *testing.T) {
	for _, x := range append(someDigits(), notDigits()...) {
		wantNoWeights(t, nil, x)
		wantNoWeights(t, []int{}, x)
	}
	r := rand.New(rand.NewSource(84))
	for _, x := range someDigits() {
		wantNoWeights(t, different(r, 256), x)
		if got, ok := Weights(different(r, 255), x); !ok || len(got) != 255 {
			t.Errorf("P8.2: Weights of 255 digits, %d: %v, %t", x, got, ok)
		}
	}
	for _, n := range []int{256, 257, 512, 65537, 1000003} {
		xs := make([]int, n)
		for i := range xs {
			xs[i] = i
		}
		if got, ok := Weights(xs, 1); ok || got != nil {
			t.Errorf("P8.2: Weights of %d elements: %d of them, %t, want none, false", n, len(got), ok)
		}
		if got, ok := Through(xs, make([]int, n), 1); ok || got != 0 {
			t.Errorf("P8.3: Through %d elements: %d, %t, want 0, false", n, got, ok)
		}
	}
}

func TestWeightsOfNoDigit(t *testing.T) {
	r := rand.New(rand.NewSource(85))
	for _, none := range notDigits() {
		for _, n := range someLengths() {
			xs := different(r, n)
			wantNoWeights(t, xs, none)
			for _, place := range []int{0, n / 2, n - 1} {
				for _, x := range []int{0, 255, xs[place], none} {
					wantNoWeights(t, with(xs, place, none), x)
				}
			}
		}
	}
}

func TestWeightsOfTheSame(t *testing.T) {
	r := rand.New(rand.NewSource(86))
	for _, n := range someLengths() {
		xs := different(r, n)
		for _, c := range [][2]int{{0, n - 1}, {0, n / 2}, {n / 2, n - 1}, {n - 1, n - 2}} {
			if c[0] != c[1] && c[1] >= 0 {
				for _, x := range []int{0, 1, 255, xs[c[1]], xs[c[0]]} {
					wantNoWeights(t, with(xs, c[0], xs[c[1]]), x)
				}
			}
		}
	}
	for a := range 256 {
		wantNoWeights(t, []int{a, a}, 255-a)
		wantNoWeights(t, []int{a, a}, a)
		wantNoWeights(t, []int{a, a, a, a}, 0)
	}
}

func TestThroughOfKnownDigits(t *testing.T) {
	for _, c := range []struct {
		xs, ys  []int
		x, want int
	}{
		{[]int{1, 2, 3}, []int{6, 5, 6}, 0, 5}, {[]int{1, 3}, []int{7, 3}, 0, 5}, {[]int{1, 3}, []int{7, 3}, 2, 1},
		{[]int{9}, []int{77}, 0, 77}, {[]int{9}, []int{77}, 255, 77}, {[]int{0, 1}, []int{0, 1}, 200, 200}, {[]int{0, 255}, []int{255, 0}, 1, 254},
		{[]int{1, 2, 3}, []int{0, 0, 0}, 5, 0}, {[]int{0, 128, 255}, []int{3, 4, 5}, 128, 4},
	} {
		wantThrough(t, c.xs, c.ys, c.x, c.want)
	}
}

func TestThrough(t *testing.T) {
	r := rand.New(rand.NewSource(87))
	for _, n := range someLengths() {
		xs, ys := different(r, n), drawn(r, n)
		for _, x := range append(someDigits(), xs[n/2]) {
			wantThrough(t, xs, ys, x, throughOf(xs, ys, x))
		}
	}
	for range 300 {
		n, x := 1+r.Intn(20), r.Intn(256)
		xs, ys := different(r, n), drawn(r, n)
		wantThrough(t, xs, ys, x, throughOf(xs, ys, x))
	}
}

func TestThroughOfOtherLengths(t *testing.T) {
	r := rand.New(rand.NewSource(88))
	for _, n := range someLengths() {
		xs := different(r, n)
		for _, x := range []int{0, 255, xs[0]} {
			for _, m := range []int{0, n - 1, n + 1, 2 * n, n + 256, 1000} {
				if m != n {
					wantNoThrough(t, xs, make([]int, m), x)
				}
			}
			wantNoThrough(t, xs, nil, x)
		}
	}
	wantNoThrough(t, nil, nil, 0)
	wantNoThrough(t, nil, []int{1}, 0)
	wantNoThrough(t, []int{}, []int{}, 0)
}

func TestThroughOfNoDigit(t *testing.T) {
	r := rand.New(rand.NewSource(89))
	for _, none := range notDigits() {
		for _, n := range someLengths() {
			xs, ys := different(r, n), drawn(r, n)
			wantNoThrough(t, xs, ys, none)
			for _, place := range []int{0, n / 2, n - 1} {
				for _, x := range []int{0, 255, xs[0], xs[place]} {
					wantNoThrough(t, xs, with(ys, place, none), x)
					wantNoThrough(t, with(xs, place, none), ys, x)
				}
			}
		}
	}
}

func TestThatPolynomialGoesThrough(t *testing.T) {
	r := rand.New(rand.NewSource(90))
	for _, n := range someLengths() {
		for _, m := range []int{0, 1, n / 2, n - 1, n} {
			l, xs := drawn(r, m), different(r, n)
			ys := evals(t, l, xs)
			for _, x := range append(someDigits(), xs[n-1], r.Intn(256)) {
				want, _ := Eval(l, x)
				if got, ok := Through(xs, ys, x); !ok || got != want {
					t.Errorf("P8.4: through the values of %v at %v goes %d at %d, %t, want %d", l, xs, got, x, ok, want)
				}
			}
		}
	}
}

// One digit more than there are places, and the polynomial is not told by them: P8.4 says no more than it can.
func TestOneDigitTooMany(t *testing.T) {
	l := []int{5, 2, 1}
	wantThrough(t, []int{1, 2}, evals(t, l, []int{1, 2}), 0, 7)
	wantThrough(t, []int{1, 2, 3}, evals(t, l, []int{1, 2, 3}), 0, 5)
}

func TestAtOneOfThem(t *testing.T) {
	r := rand.New(rand.NewSource(91))
	for _, n := range []int{1, 2, 3, 5, 16, 40, 255} {
		xs, ys := different(r, n), drawn(r, n)
		for i := 0; i < n; i += 1 + n/20 {
			if got, ok := Through(xs, ys, xs[i]); !ok || got != ys[i] {
				t.Errorf("P8.4: Through(%v, %v, %d) = %d, %t, want %d", xs, ys, xs[i], got, ok, ys[i])
			}
		}
	}
}

func TestSumOfWeights(t *testing.T) {
	r := rand.New(rand.NewSource(92))
	for _, n := range someLengths() {
		xs := different(r, n)
		for _, x := range append(someDigits(), xs[0]) {
			l, ok := Weights(xs, x)
			sum := 0
			for _, w := range l {
				sum ^= w
			}
			if !ok || sum != 1 {
				t.Errorf("P8.4: the weights of %v at %d: %v, %t; their sum is %d", xs, x, l, ok, sum)
			}
		}
	}
}

// What is handed in stays as it is, behind its end, too; what comes out is new (R2).
func TestNothingIsKept(t *testing.T) {
	xs, ys := []int{1, 2, 3, 99, 98}, []int{6, 5, 6, 97, 96}
	first, _ := Weights(xs[:3], 0)
	second, _ := Weights(xs[:3], 0)
	Through(xs[:3], ys[:3], 4)
	Eval(ys[:3], 4)
	Degree(ys[:3])
	if !slices.Equal(xs, []int{1, 2, 3, 99, 98}) || !slices.Equal(ys, []int{6, 5, 6, 97, 96}) {
		t.Errorf("R2: what was handed in is %v and %v now", xs, ys)
	}
	first[0], first[1], first[2] = 7, 8, 9
	if !slices.Equal(second, []int{1, 1, 1}) || !slices.Equal(xs[:3], []int{1, 2, 3}) {
		t.Errorf("R2: weights share their memory: %v, %v", second, xs)
	}
	wantWeights(t, xs[:3], 0, []int{1, 1, 1})
	one := []int{1}
	weights, _ := Weights(one, 1)
	weights[0] = 9
	if one[0] != 1 {
		t.Error("R2: weights share their memory with what was handed in")
	}
}

// Many may ask at the same time.
func TestForMany(t *testing.T) {
	xs, ys := []int{1, 2, 3}, []int{6, 5, 6}
	var all sync.WaitGroup
	var got [8]int
	for i := range got {
		all.Go(func() { got[i], _ = Through(xs, ys, i) })
	}
	all.Wait()
	for i, y := range got {
		if y != evalOf([]int{5, 2, 1}, i) {
			t.Errorf("P8.3: Through at %d, asked by many, is %d", i, y)
		}
	}
}
