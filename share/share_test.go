package share

import (
	"math"
	"math/rand"
	"slices"
	"strings"
	"sync"
	"testing"

	"keyhole/api"
)

// productOf is chapter 7's product, as it is written.
func productOf(a, b int) int {
	sum := 0
	for ; b > 0; b /= 2 {
		if b%2 == 1 {
			sum ^= a
		}
		a *= 2
		if a > 255 {
			a = (a - 256) ^ 27
		}
	}
	return sum
}

// products are those of all digits, and inverses the digits whose product with each is 1.
var products, inverses = func() (all [256][256]int, back [256]int) {
	for a := range all {
		for b := range all[a] {
			all[a][b] = productOf(a, b)
			if all[a][b] == 1 {
				back[a] = b
			}
		}
	}
	return
}()

// evalOf is P8.1's sum, as it is written.
func evalOf(l []int, x int) int {
	sum, power := 0, 1
	for _, digit := range l {
		sum ^= products[digit][power]
		power = products[power][x]
	}
	return sum
}

// splitOf is what P9.1 tells, as it is written.
func splitOf(secret string, n, k int, tape string) []api.Share {
	var l []api.Share
	for x := 1; x <= n; x++ {
		var b []byte
		for j := range 32 {
			digits := []int{int(secret[j])}
			for p := range k - 1 {
				digits = append(digits, int(tape[32*p+j]))
			}
			b = append(b, byte(evalOf(digits, x)))
		}
		l = append(l, api.Share{X: x, Bytes: string(b)})
	}
	return l
}

// atOf is what P9.2 tells, as it is written, with P8.2's weights.
func atOf(l []api.Share, x int) string {
	b := make([]byte, 32)
	for i := range l {
		weight := 1
		for k := range l {
			if k != i {
				weight = products[weight][products[x^l[k].X][inverses[l[i].X^l[k].X]]]
			}
		}
		for j := range b {
			b[j] ^= byte(products[weight][l[i].Bytes[j]])
		}
	}
	return string(b)
}

// drawn are n bytes, by r.
func drawn(r *rand.Rand, n int) string {
	b := make([]byte, n)
	r.Read(b)
	return string(b)
}

// of are 32 bytes b.
func of(b byte) string {
	return strings.Repeat(string([]byte{b}), 32)
}

// sharesAt are shares of drawn bytes, one at each of xs.
func sharesAt(r *rand.Rand, xs ...int) []api.Share {
	var l []api.Share
	for _, x := range xs {
		l = append(l, api.Share{X: x, Bytes: drawn(r, 32)})
	}
	return l
}

// different are n digits from least on that are all different, by r.
func different(r *rand.Rand, n, least int) []int {
	xs := r.Perm(256 - least)[:n]
	for i := range xs {
		xs[i] += least
	}
	return xs
}

// some are k of l, in any order, by r.
func some(r *rand.Rand, l []api.Share, k int) []api.Share {
	var picked []api.Share
	for _, i := range r.Perm(len(l))[:k] {
		picked = append(picked, l[i])
	}
	return picked
}

// with is l with s at place i.
func with(l []api.Share, i int, s api.Share) []api.Share {
	l = slices.Clone(l)
	l[i] = s
	return l
}

// notDigits are numbers that are no X; some have a digit as their low places.
func notDigits() []int {
	return []int{-1, -2, -255, -256, 256, 257, 511, 512, 65536, 1 << 32, 1<<32 + 1, -1 << 32, 1 << 62, math.MinInt, math.MinInt + 1, math.MaxInt}
}

// notSizes are lengths that no secret and no share has.
func notSizes() []int {
	return []int{0, 1, 16, 31, 33, 63, 64, 96, 255, 256, 288, 4000, 65568}
}

// someSplits are n and k, the edges among them.
func someSplits() [][2]int {
	return [][2]int{{1, 1}, {2, 1}, {2, 2}, {3, 2}, {3, 3}, {5, 3}, {16, 1}, {16, 9}, {16, 16}, {33, 32}, {100, 7}, {254, 254}, {255, 1}, {255, 2}, {255, 128}, {255, 254}, {255, 255}}
}

// split are the shares of Split, all of its other answers being faults.
func split(t *testing.T, secret string, n, k int, tape string) []api.Share {
	t.Helper()
	l, e := Split(secret, n, k, tape)
	if e != api.OK || len(l) != n {
		t.Fatalf("P9.1: Split of %d bytes, %d, %d, %d bytes: %d shares, error %d", len(secret), n, k, len(tape), len(l), e)
	}
	return l
}

func wantNoSplit(t *testing.T, secret string, n, k int, tape string) {
	t.Helper()
	if l, e := Split(secret, n, k, tape); e != api.ErrArg || l != nil {
		t.Errorf("P9.1: Split of %d bytes, %d, %d, %d bytes: %d shares, error %d, want ErrArg", len(secret), n, k, len(tape), len(l), e)
	}
}

func wantCombine(t *testing.T, l []api.Share, want string) {
	t.Helper()
	if got, e := Combine(l); e != api.OK || got != want {
		t.Errorf("P9.2: Combine of %d shares = %x, error %d, want %x", len(l), got, e, want)
	}
}

func wantAt(t *testing.T, l []api.Share, x int, want string) {
	t.Helper()
	if got, e := At(l, x); e != api.OK || got != want {
		t.Errorf("P9.2: At of %d shares, %d = %x, error %d, want %x", len(l), x, got, e, want)
	}
}

func wantNoAt(t *testing.T, l []api.Share, x int, want api.Errno) {
	t.Helper()
	if got, e := At(l, x); e != want || got != "" {
		t.Errorf("P9.2: At of %d shares, %d = %x, error %d, want error %d", len(l), x, got, e, want)
	}
}

func wantNoCombine(t *testing.T, l []api.Share) {
	t.Helper()
	if got, e := Combine(l); e != api.ErrShares || got != "" {
		t.Errorf("P9.2: Combine of %d shares = %x, error %d, want ErrShares", len(l), got, e)
	}
}

func wantNoTape(t *testing.T, secret string, l []api.Share, want api.Errno) {
	t.Helper()
	if got, e := Tape(secret, l); e != want || got != "" {
		t.Errorf("P9.3: Tape of %d bytes, %d shares: %d bytes, error %d, want error %d", len(secret), len(l), len(got), e, want)
	}
}

// wantWrong asks all calls that take shares: l are not right. An x and a secret that are wrong, too, come behind
// and ahead of that.
func wantWrong(t *testing.T, l []api.Share) {
	t.Helper()
	wantNoCombine(t, l)
	for _, x := range []int{0, 1, 255, -1, 256, math.MinInt} {
		wantNoAt(t, l, x, api.ErrShares)
	}
	wantNoTape(t, of(7), l, api.ErrShares)
	wantNoTape(t, of(7)[1:], l, api.ErrArg)
}

func TestSplitOfKnownBytes(t *testing.T) {
	for _, c := range []struct {
		secret byte
		tape   []byte
		want   []byte
	}{
		{5, []byte{2}, []byte{7, 1, 3}},
		{5, []byte{2, 1}, []byte{6, 5, 6}},
		{0, []byte{0, 0}, []byte{0, 0, 0}},
		{255, nil, []byte{255, 255, 255, 255}},
		{1, []byte{202}, []byte{203, 142}},
		{27, []byte{0, 0, 1}, []byte{26, 19}},
	} {
		var tape string
		for _, b := range c.tape {
			tape += of(b)
		}
		n, k := max(len(c.want), len(c.tape)+1), len(c.tape)+1
		l := split(t, of(c.secret), n, k, tape)
		for i, b := range c.want {
			if want := (api.Share{X: i + 1, Bytes: of(b)}); l[i] != want {
				t.Errorf("P9.1: of %d by %v share %d is %d, %x, want bytes %d", c.secret, c.tape, i+1, l[i].X, l[i].Bytes, b)
			}
		}
	}
}

func TestExamples(t *testing.T) {
	l := split(t, of(5), 3, 2, of(2))
	want := []api.Share{{X: 1, Bytes: of(7)}, {X: 2, Bytes: of(1)}, {X: 3, Bytes: of(3)}}
	if !slices.Equal(l, want) {
		t.Errorf("P9.1: the example's shares are %v", l)
	}
	wantCombine(t, []api.Share{l[0], l[2]}, of(5))
}

func TestSplit(t *testing.T) {
	r := rand.New(rand.NewSource(901))
	for _, c := range someSplits() {
		secret, tape := drawn(r, 32), drawn(r, 32*(c[1]-1))
		if l := split(t, secret, c[0], c[1], tape); !slices.Equal(l, splitOf(secret, c[0], c[1], tape)) {
			t.Errorf("P9.1: Split of %x, %d, %d tells other shares", secret, c[0], c[1])
		}
	}
	for range 300 {
		n := 1 + r.Intn(20)
		k := 1 + r.Intn(n)
		secret, tape := drawn(r, 32), drawn(r, 32*(k-1))
		if l := split(t, secret, n, k, tape); !slices.Equal(l, splitOf(secret, n, k, tape)) {
			t.Errorf("P9.1: Split of %x, %d, %d, %x tells other shares", secret, n, k, tape)
		}
	}
}

// Each byte of the secret and of the tape stands at its own place.
func TestSplitOfOneByte(t *testing.T) {
	zeros := strings.Repeat("\x00", 32*5)
	for at := range zeros {
		all := zeros[:at] + "\x01" + zeros[at+1:]
		for _, s := range split(t, all[:32], 7, 5, all[32:]) {
			power := 1
			for range at / 32 {
				power = products[power][s.X]
			}
			want := zeros[:at%32] + string([]byte{byte(power)}) + zeros[:31-at%32]
			if s.Bytes != want {
				t.Errorf("P9.1: byte %d alone makes share %d %x, want %x", at, s.X, s.Bytes, want)
			}
		}
	}
}

func TestSplitOfOneShareEach(t *testing.T) {
	secret := drawn(rand.New(rand.NewSource(902)), 32)
	for _, n := range []int{1, 2, 255} {
		for i, s := range split(t, secret, n, 1, "") {
			if s.X != i+1 || s.Bytes != secret {
				t.Errorf("P9.1: with k 1, share %d of %d is %d, %x", i+1, n, s.X, s.Bytes)
			}
		}
	}
}

func TestSplitOfWrongSecrets(t *testing.T) {
	r := rand.New(rand.NewSource(903))
	for _, size := range notSizes() {
		secret := drawn(r, size)
		wantNoSplit(t, secret, 1, 1, "")
		wantNoSplit(t, secret, 3, 2, of(2))
		wantNoSplit(t, secret, 3, 2, drawn(r, 64-min(size, 64)))
		wantNoSplit(t, secret, 0, 0, "")
	}
}

func TestSplitOfWrongNumbers(t *testing.T) {
	secret := of(5)
	for _, none := range append(notDigits(), 0) {
		for _, tape := range []string{"", of(2), of(2) + of(3)} {
			for _, k := range []int{none, 0, 1, 2, 3, 255} {
				wantNoSplit(t, secret, none, k, tape)
			}
			for _, n := range []int{1, 2, 3, 255} {
				wantNoSplit(t, secret, n, none, tape)
			}
		}
	}
	for _, n := range []int{1, 2, 3, 16, 254} {
		for _, k := range []int{n + 1, n + 2, 255, 256} {
			if k > n {
				wantNoSplit(t, secret, n, k, strings.Repeat("x", 32*(k-1)))
			}
		}
	}
	wantNoSplit(t, secret, 256, 1, "")
	wantNoSplit(t, secret, 256, 255, strings.Repeat("x", 32*254))
	wantNoSplit(t, secret, 256, 256, strings.Repeat("x", 32*255))
	// 32 times k less 1 goes round to the length of the tape here.
	wantNoSplit(t, secret, 255, 1<<59+2, of(2))
	wantNoSplit(t, secret, 1<<62, 1<<59+1, "")
}

func TestSplitOfWrongTapes(t *testing.T) {
	for _, c := range someSplits() {
		right := 32 * (c[1] - 1)
		for _, size := range []int{0, 1, 31, right - 32, right - 1, right + 1, right + 32, 32 * c[0], 32 * 255, 1000000} {
			if size != right && size >= 0 {
				wantNoSplit(t, of(5), c[0], c[1], strings.Repeat("x", size))
			}
		}
	}
}

func TestCombineAndAtOfKnownBytes(t *testing.T) {
	l := []api.Share{{X: 1, Bytes: of(6)}, {X: 2, Bytes: of(5)}, {X: 3, Bytes: of(6)}}
	wantCombine(t, l, of(5))
	wantCombine(t, []api.Share{l[2], l[0], l[1]}, of(5))
	wantCombine(t, l[:1], of(6))
	wantCombine(t, l[:2], of(7))
	wantAt(t, l, 0, of(5))
	wantAt(t, l, 1, of(6))
	wantAt(t, l, 2, of(5))
	wantAt(t, []api.Share{{X: 0, Bytes: of(0)}, {X: 1, Bytes: of(1)}}, 200, of(200))
	wantAt(t, []api.Share{{X: 0, Bytes: of(9)}}, 255, of(9))
	wantAt(t, []api.Share{{X: 255, Bytes: of(0)}, {X: 0, Bytes: of(255)}}, 1, of(254))
}

func TestAt(t *testing.T) {
	r := rand.New(rand.NewSource(904))
	for _, n := range []int{1, 2, 3, 5, 16, 33} {
		l := sharesAt(r, different(r, n, 0)...)
		for x := range 256 {
			wantAt(t, l, x, atOf(l, x))
		}
	}
	for _, n := range []int{128, 254, 255} {
		l := sharesAt(r, different(r, n, 0)...)
		for _, x := range []int{0, 1, 2, 127, 128, 254, 255, l[0].X, l[n-1].X} {
			wantAt(t, l, x, atOf(l, x))
		}
	}
	for range 300 {
		l, x := sharesAt(r, different(r, 1+r.Intn(20), 0)...), r.Intn(256)
		wantAt(t, l, x, atOf(l, x))
	}
}

func TestAtOneOfThem(t *testing.T) {
	r := rand.New(rand.NewSource(905))
	for _, n := range []int{1, 2, 3, 16, 40} {
		l := sharesAt(r, different(r, n, 0)...)
		for _, s := range l {
			wantAt(t, l, s.X, s.Bytes)
		}
	}
}

func TestCombine(t *testing.T) {
	r := rand.New(rand.NewSource(906))
	for range 300 {
		l := sharesAt(r, different(r, 1+r.Intn(20), 1)...)
		wantCombine(t, l, atOf(l, 0))
	}
	for _, n := range []int{1, 254, 255} {
		l := sharesAt(r, different(r, n, 1)...)
		wantCombine(t, l, atOf(l, 0))
	}
}

func TestAtNoDigit(t *testing.T) {
	r := rand.New(rand.NewSource(907))
	for _, n := range []int{1, 2, 16, 255} {
		l := sharesAt(r, different(r, n, 0)...)
		for _, x := range notDigits() {
			wantNoAt(t, l, x, api.ErrArg)
		}
	}
}

// A share where the secret stands is right, but only At takes it.
func TestSharesAtTheSecret(t *testing.T) {
	r := rand.New(rand.NewSource(908))
	for _, n := range []int{1, 2, 3, 16, 254, 255} {
		for _, place := range []int{0, n / 2, n - 1} {
			l := sharesAt(r, different(r, n, 1)...)
			l[place].X = 0
			wantAt(t, l, 0, l[place].Bytes)
			wantAt(t, l, 77, atOf(l, 77))
			wantNoAt(t, l, 256, api.ErrArg)
			wantNoCombine(t, l)
			wantNoTape(t, of(7), l, api.ErrShares)
			wantNoTape(t, "", l, api.ErrArg)
		}
	}
}

func TestTooManySharesOrNone(t *testing.T) {
	r := rand.New(rand.NewSource(909))
	wantWrong(t, nil)
	wantWrong(t, []api.Share{})
	wantWrong(t, sharesAt(r, different(r, 256, 0)...))
	for _, n := range []int{256, 257, 512, 100003} {
		l := make([]api.Share, n)
		for i := range l {
			l[i] = api.Share{X: 1 + i%255, Bytes: of(5)}
		}
		wantWrong(t, l)
	}
}

func TestSharesAtNoDigit(t *testing.T) {
	r := rand.New(rand.NewSource(910))
	for _, none := range notDigits() {
		for _, n := range []int{1, 2, 3, 16, 255} {
			l := sharesAt(r, different(r, n, 1)...)
			for _, place := range []int{0, n / 2, n - 1} {
				wantWrong(t, with(l, place, api.Share{X: none, Bytes: of(5)}))
			}
		}
	}
}

func TestSharesAtTheSame(t *testing.T) {
	r := rand.New(rand.NewSource(911))
	for _, n := range []int{2, 3, 16, 255} {
		l := sharesAt(r, different(r, n, 1)...)
		for _, c := range [][2]int{{0, n - 1}, {n - 1, 0}, {n / 2, (n/2 + 1) % n}} {
			wantWrong(t, with(l, c[0], l[c[1]]))
			wantWrong(t, with(l, c[0], api.Share{X: l[c[1]].X, Bytes: l[c[0]].Bytes}))
		}
	}
	for x := range 256 {
		wantWrong(t, sharesAt(r, x, x))
	}
}

func TestSharesOfOtherSizes(t *testing.T) {
	r := rand.New(rand.NewSource(912))
	for _, size := range notSizes() {
		for _, n := range []int{1, 2, 3, 16, 255} {
			l := sharesAt(r, different(r, n, 1)...)
			for _, place := range []int{0, n / 2, n - 1} {
				wantWrong(t, with(l, place, api.Share{X: l[place].X, Bytes: drawn(r, size)}))
			}
		}
	}
}

func TestTapeOfKnownBytes(t *testing.T) {
	for _, c := range []struct {
		secret byte
		l      []api.Share
		want   string
	}{
		{5, []api.Share{{X: 1, Bytes: of(7)}}, of(2)},
		{5, []api.Share{{X: 3, Bytes: of(3)}}, of(2)},
		{5, []api.Share{{X: 1, Bytes: of(6)}, {X: 2, Bytes: of(5)}}, of(2) + of(1)},
		{5, []api.Share{{X: 3, Bytes: of(6)}, {X: 1, Bytes: of(6)}}, of(2) + of(1)},
		{0, []api.Share{{X: 255, Bytes: of(0)}}, of(0)},
		{9, []api.Share{{X: 255, Bytes: of(9)}, {X: 254, Bytes: of(9)}}, of(0) + of(0)},
	} {
		if got, e := Tape(of(c.secret), c.l); e != api.OK || got != c.want {
			t.Errorf("P9.3: Tape of bytes %d, %v = %x, error %d, want %x", c.secret, c.l, got, e, c.want)
		}
	}
}

// wantTape asks for the tape, and splits by it as P9.1 is written, not by Split.
func wantTape(t *testing.T, secret string, l []api.Share) string {
	t.Helper()
	tape, e := Tape(secret, l)
	if e != api.OK || len(tape) != 32*len(l) {
		t.Fatalf("P9.3: Tape of %d shares has %d bytes, error %d", len(l), len(tape), e)
	}
	all := splitOf(secret, 255, len(l)+1, tape)
	for _, s := range l {
		if all[s.X-1] != s {
			t.Errorf("P9.3: by the tape of %d shares share %d is %x, want %x", len(l), s.X, all[s.X-1].Bytes, s.Bytes)
		}
	}
	return tape
}

func TestTape(t *testing.T) {
	r := rand.New(rand.NewSource(913))
	for _, n := range []int{1, 2, 3, 15, 16, 100, 253, 254} {
		wantTape(t, drawn(r, 32), sharesAt(r, different(r, n, 1)...))
	}
	for range 100 {
		wantTape(t, drawn(r, 32), sharesAt(r, different(r, 1+r.Intn(12), 1)...))
	}
	for x := 1; x < 256; x++ {
		wantTape(t, drawn(r, 32), sharesAt(r, x))
	}
}

// Whatever n it is that has these X and is not below k, Split tells these shares by the tape.
func TestTapeOfEachNumber(t *testing.T) {
	r := rand.New(rand.NewSource(914))
	secret := drawn(r, 32)
	l := sharesAt(r, 4, 1)
	tape := wantTape(t, secret, l)
	for _, n := range []int{4, 5, 16, 255} {
		all := split(t, secret, n, 3, tape)
		if all[3] != l[0] || all[0] != l[1] {
			t.Errorf("P9.3: of %d shares, by the tape, 4 and 1 are %x and %x", n, all[3].Bytes, all[0].Bytes)
		}
	}
}

// The order of the shares plays no part, and there is one such tape: that by which they were split.
func TestTapeOfWhatWasSplit(t *testing.T) {
	r := rand.New(rand.NewSource(915))
	for _, c := range someSplits() {
		if c[1] < 2 {
			continue
		}
		secret, tape := drawn(r, 32), drawn(r, 32*(c[1]-1))
		l := split(t, secret, c[0], c[1], tape)
		for range 3 {
			if got, e := Tape(secret, some(r, l, c[1]-1)); e != api.OK || got != tape {
				t.Errorf("P9.3: Tape of %d of %d shares is another one than that of Split, error %d", c[1]-1, c[0], e)
			}
		}
	}
}

func TestTapeOfWrongSecrets(t *testing.T) {
	r := rand.New(rand.NewSource(916))
	for _, size := range notSizes() {
		for _, l := range [][]api.Share{nil, sharesAt(r, 1), sharesAt(r, 0), sharesAt(r, 1, 1), sharesAt(r, different(r, 255, 1)...)} {
			wantNoTape(t, drawn(r, size), l, api.ErrArg)
		}
	}
}

func TestTapeOfAllShares(t *testing.T) {
	r := rand.New(rand.NewSource(917))
	l := sharesAt(r, different(r, 255, 1)...)
	wantNoTape(t, of(7), l, api.ErrShares)
	wantTape(t, of(7), l[:254])
	wantCombine(t, l, atOf(l, 0))
}

func TestAnyOfTheShares(t *testing.T) {
	r := rand.New(rand.NewSource(918))
	for _, c := range someSplits() {
		n, k := c[0], c[1]
		secret := drawn(r, 32)
		l := split(t, secret, n, k, drawn(r, 32*(k-1)))
		for _, m := range []int{k, min(k+1, n), (k + n) / 2, n} {
			wantCombine(t, some(r, l, m), secret)
		}
		picked := some(r, l, k)
		for i := 0; i < n; i += 1 + n/20 {
			wantAt(t, picked, l[i].X, l[i].Bytes)
		}
		wantAt(t, picked, l[n-1].X, l[n-1].Bytes)
		wantAt(t, picked, 0, secret)
	}
}

func TestEachSetOfShares(t *testing.T) {
	secret := drawn(rand.New(rand.NewSource(919)), 32)
	for k := 1; k <= 6; k++ {
		l := split(t, secret, 6, k, drawn(rand.New(rand.NewSource(int64(k))), 32*(k-1)))
		for set := range 1 << 6 {
			var picked []api.Share
			for i, s := range l {
				if set>>i%2 == 1 {
					picked = append(picked, s)
				}
			}
			if len(picked) >= k {
				wantCombine(t, picked, secret)
				for _, s := range l {
					wantAt(t, picked, s.X, s.Bytes)
				}
			} else if len(picked) > 0 {
				if got, e := Combine(picked); e != api.OK || got == secret {
					t.Errorf("P9.4: %d shares of k %d tell the secret, or error %d", len(picked), k, e)
				}
			}
		}
	}
}

// One who sees k less 1 shares sees the same of any other secret (T3).
func TestFewerTellNothing(t *testing.T) {
	r := rand.New(rand.NewSource(920))
	for _, c := range someSplits() {
		n, k := c[0], c[1]
		if k < 2 {
			continue
		}
		seen := some(r, split(t, drawn(r, 32), n, k, drawn(r, 32*(k-1))), k-1)
		for _, other := range []string{of(0), of(255), drawn(r, 32)} {
			tape, e := Tape(other, seen)
			if e != api.OK {
				t.Fatalf("P9.4: there is no tape of another secret, error %d", e)
			}
			l := split(t, other, n, k, tape)
			for _, s := range seen {
				if l[s.X-1] != s {
					t.Errorf("P9.4: of another secret share %d of %d, k %d, is another one", s.X, n, k)
				}
			}
			wantCombine(t, some(r, l, k), other)
		}
	}
}

// Of all tapes of a byte each one makes the share that is seen another one: none is likelier than others.
func TestEachTapeMakesAnotherShare(t *testing.T) {
	for x := range 3 {
		var there [256]bool
		for d := range 256 {
			there[split(t, of(77), 3, 2, of(byte(d)))[x].Bytes[0]] = true
		}
		if slices.Contains(there[:], false) {
			t.Errorf("P9.4: share %d is not each byte by a tape", x+1)
		}
	}
}

// What is handed in stays as it is, behind its end, too; what comes out is new (R2).
func TestNothingIsKept(t *testing.T) {
	r := rand.New(rand.NewSource(921))
	l := sharesAt(r, 3, 1, 2, 9)
	before := slices.Clone(l)
	first, e := Combine(l[:3])
	tape, _ := Tape(of(7), l[:3])
	At(l[:3], 5)
	if !slices.Equal(l, before) {
		t.Error("R2: what was handed in is another now")
	}
	if again, f := Combine(l[:3]); e != f || again != first {
		t.Error("R2: asked again, Combine tells another secret")
	}
	if again, _ := Tape(of(7), l[:3]); again != tape {
		t.Error("R2: asked again, Tape tells another tape")
	}
	one, two := split(t, of(5), 3, 2, of(2)), split(t, of(5), 3, 2, of(2))
	one[0] = api.Share{}
	if two[0] != (api.Share{X: 1, Bytes: of(7)}) || split(t, of(5), 3, 2, of(2))[0] != two[0] {
		t.Error("R2: shares share their memory")
	}
}

// Many may ask at the same time.
func TestForMany(t *testing.T) {
	l := split(t, of(5), 8, 3, of(2)+of(1))
	var all sync.WaitGroup
	var got [6]string
	for i := range got {
		all.Go(func() { got[i], _ = Combine(l[i : i+3]) })
	}
	all.Wait()
	for i, s := range got {
		if s != of(5) {
			t.Errorf("P9.2: Combine, asked by many, is %x at %d", s, i)
		}
	}
}
