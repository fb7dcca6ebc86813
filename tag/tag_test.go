package tag

import (
	"encoding/hex"
	"math"
	"math/big"
	"slices"
	"strings"
	"testing"

	"keyhole/api"
)

// drawn is n bytes that look like none of a rule, the same each time.
func drawn(n, seed int) string {
	b := make([]byte, n)
	x := uint64(seed)*2654435769 + 12345
	for i := range b {
		x = x*6364136223846793005 + 1442695040888963407
		b[i] = byte(x >> 56)
	}
	return string(b)
}

func zeros(n int) string {
	return strings.Repeat("\x00", n)
}

func inSixteens(s string) string {
	return hex.EncodeToString([]byte(s))
}

func fromSixteens(t *testing.T, s string) string {
	t.Helper()
	b, err := hex.DecodeString(s)
	if err != nil {
		t.Fatal(err)
	}
	return string(b)
}

// power is 2 to the power of n.
func power(n uint) *big.Int {
	return new(big.Int).Lsh(big.NewInt(1), n)
}

// prime is the chapter's P, with d added.
func prime(d int64) *big.Int {
	return new(big.Int).Add(power(130), big.NewInt(d-5))
}

// numberOf is the number of a text's bytes, the lowest first.
func numberOf(s string) *big.Int {
	n := new(big.Int)
	for i := len(s) - 1; i >= 0; i-- {
		n.Mul(n, big.NewInt(256))
		n.Add(n, big.NewInt(int64(s[i])))
	}
	return n
}

// numberOfRow is the number of digits in base 256, the lowest first.
func numberOfRow(l []int) *big.Int {
	n := new(big.Int)
	for i := len(l) - 1; i >= 0; i-- {
		n.Mul(n, big.NewInt(256))
		n.Add(n, big.NewInt(int64(l[i])))
	}
	return n
}

// digitsOf is size digits in base 256 of n, the lowest first.
func digitsOf(n *big.Int, size int) []int {
	l := make([]int, size)
	rest, d := new(big.Int).Set(n), new(big.Int)
	for i := range l {
		rest.DivMod(rest, big.NewInt(256), d)
		l[i] = int(d.Int64())
	}
	return l
}

// textOf is size bytes of n, the lowest first.
func textOf(n *big.Int, size int) string {
	b := make([]byte, size)
	for i, d := range digitsOf(n, size) {
		b[i] = byte(d)
	}
	return string(b)
}

func row(n *big.Int) []int {
	return digitsOf(n, 17)
}

// clampOf is P5.1 as it is written.
func clampOf(r string) string {
	b := []byte(r)
	for _, i := range []int{3, 7, 11, 15} {
		b[i] = b[i] % 16
	}
	for _, i := range []int{4, 8, 12} {
		b[i] = b[i] - b[i]%4
	}
	return string(b)
}

// stepOf is P5.2 as it is written, of numbers.
func stepOf(x, r *big.Int, part string) *big.Int {
	n := new(big.Int).Add(x, numberOf(part+"\x01"))
	n.Mul(n, r)
	return n.Mod(n, prime(0))
}

// tagOf is P5.3 as it is written, of a key and a text that have a Tag.
func tagOf(key, s string) string {
	r := numberOf(clampOf(key[:16]))
	acc := new(big.Int)
	for s != "" {
		size := min(16, len(s))
		acc = stepOf(acc, r, s[:size])
		s = s[size:]
	}
	acc.Add(acc, numberOf(key[16:]))
	for acc.Cmp(power(128)) >= 0 {
		acc.Sub(acc, power(128))
	}
	return textOf(acc, 16)
}

// numbers are those of the edges of digits, of parts and of P, and some drawn ones: all below P.
func numbers() []*big.Int {
	var l []*big.Int
	for _, n := range []int64{0, 1, 2, 3, 4, 5, 6, 97, 255, 256, 257, 65535, 65536} {
		l = append(l, big.NewInt(n))
	}
	for _, n := range []uint{25, 26, 27, 31, 32, 51, 52, 63, 64, 77, 78, 103, 104, 120, 127, 128, 129} {
		l = append(l, new(big.Int).Sub(power(n), big.NewInt(1)), power(n), new(big.Int).Add(power(n), big.NewInt(1)))
	}
	for _, d := range []int64{-1, -2, -3, -5, -6, -250, -251, -252, -256, -65536} {
		l = append(l, prime(d))
	}
	l = append(l, new(big.Int).Rsh(prime(0), 1), new(big.Int).Sub(prime(0), power(128)), new(big.Int).Sub(prime(0), power(104)))
	for i := range 12 {
		n := numberOf(drawn(17, i))
		l = append(l, n.Mod(n, prime(0)))
	}
	return l
}

// ends are parts of each length, of the lowest, the highest and drawn bytes.
func ends() []string {
	var l []string
	for n := 1; n <= 16; n++ {
		l = append(l, zeros(n), strings.Repeat("\xff", n), drawn(n, 100+n))
	}
	return append(l, "a", "\xfb"+strings.Repeat("\xff", 15), "\xfa"+strings.Repeat("\xff", 15), strings.Repeat("\xff", 15)+"\x00", zeros(15)+"\x80")
}

// noRows are lists that are no rows of digits.
func noRows() map[string][]int {
	ones := slices.Repeat([]int{1}, 17)
	with := func(i, d int) []int {
		l := slices.Clone(ones)
		l[i] = d
		return l
	}
	return map[string][]int{
		"nil": nil, "empty": {}, "one digit": {1}, "16 digits": ones[:16], "18 digits": append(slices.Clone(ones), 0),
		"34 digits": append(slices.Clone(ones), ones...),
		"P":         row(prime(0)), "P and 1": row(prime(1)), "P and 4": row(prime(4)), "2 to 130": row(prime(5)), "P and 6": row(prime(6)),
		"P and 255": row(prime(255)), "twice P": row(new(big.Int).Lsh(prime(0), 1)), "2 to 131": row(power(131)),
		"2 to 135": row(power(135)), "all 255": slices.Repeat([]int{255}, 17),
		"first below 0": with(0, -1), "first 256": with(0, 256), "middle below 0": with(8, -1), "middle 256": with(8, 256),
		"last below 0": with(16, -1), "last 4": with(16, 4), "last 255": with(16, 255), "last 256": with(16, 256),
		"first lowest int": with(0, math.MinInt), "first highest int": with(0, math.MaxInt), "middle lowest int": with(9, math.MinInt),
		"last lowest int": with(16, math.MinInt), "last highest int": with(16, math.MaxInt), "2 to 32": with(3, 1<<32), "2 to 40": with(5, 1<<40+1),
	}
}

func TestClamp(t *testing.T) {
	for i := range 300 {
		r := drawn(16, i)
		if got, ok := Clamp(r); !ok || got != clampOf(r) {
			t.Errorf("P5.1: %x: %x, %t, not %x", r, got, ok, clampOf(r))
		}
	}
	for _, x := range [][2]string{
		{strings.Repeat("\xff", 16), "ffffff0ffcffff0ffcffff0ffcffff0f"},
		{strings.Repeat("\x13", 16), "13131303101313031013130310131303"},
		{zeros(16), "00000000000000000000000000000000"},
		{"\x85\xd6\xbe\x78\x57\x55\x6d\x33\x7f\x44\x52\xfe\x42\xd5\x06\xa8", "85d6be0854556d037c44520e40d50608"},
	} {
		if got, ok := Clamp(x[0]); !ok || inSixteens(got) != x[1] {
			t.Errorf("P5.1: %x: %x, %t, not %s", x[0], got, ok, x[1])
		}
	}
}

func TestClampOfEachByte(t *testing.T) {
	for i := range 16 {
		for d := range 256 {
			b := []byte(drawn(16, i))
			b[i] = byte(d)
			if got, ok := Clamp(string(b)); !ok || got != clampOf(string(b)) {
				t.Errorf("P5.1: %d at %d: %x, %t", d, i, got, ok)
			}
		}
	}
}

func TestClampOfWrongLengths(t *testing.T) {
	for _, n := range []int{0, 1, 3, 4, 8, 12, 15, 17, 20, 31, 32, 64, 8200} {
		if got, ok := Clamp(drawn(n, n)); ok || got != "" {
			t.Errorf("P5.1: %d bytes: %x, %t", n, got, ok)
		}
	}
}

func TestStep(t *testing.T) {
	l := numbers()
	for i, x := range l {
		for j, r := range l {
			part := ends()[(i*7+j)%len(ends())]
			got, ok := Step(row(x), row(r), part)
			if want := row(stepOf(x, r, part)); !ok || !slices.Equal(got, want) {
				t.Errorf("P5.2: %x, %x, %x: %v, %t, not %v", x, r, part, got, ok, want)
			}
		}
	}
}

func TestStepOfEachPart(t *testing.T) {
	for _, part := range ends() {
		for _, x := range []*big.Int{big.NewInt(0), prime(-1), numberOf(drawn(16, 3))} {
			for _, r := range []*big.Int{big.NewInt(1), prime(-1), numberOf(clampOf(drawn(16, 4)))} {
				got, ok := Step(row(x), row(r), part)
				if want := row(stepOf(x, r, part)); !ok || !slices.Equal(got, want) {
					t.Errorf("P5.2: %x, %x, %x: %v, %t, not %v", x, r, part, got, ok, want)
				}
			}
		}
	}
}

func TestStepOfTheExample(t *testing.T) {
	got, ok := Step(row(big.NewInt(0)), row(big.NewInt(1)), "a")
	if want := append([]int{97, 1}, make([]int, 15)...); !ok || !slices.Equal(got, want) {
		t.Errorf("P5.2: %v, %t", got, ok)
	}
}

// The sum may be P itself or a little beside it; what is left by P is then least or greatest.
func TestStepWhereTheSumIsAtP(t *testing.T) {
	part := strings.Repeat("\xff", 16)
	for _, d := range []int64{-3, -2, -1, 0, 1, 2, 3} {
		x := new(big.Int).Sub(prime(d), numberOf(part+"\x01"))
		got, ok := Step(row(x), row(big.NewInt(1)), part)
		want := row(new(big.Int).Mod(prime(d), prime(0)))
		if !ok || !slices.Equal(got, want) {
			t.Errorf("P5.2: P and %d: %v, %t, not %v", d, got, ok, want)
		}
	}
}

func TestStepOfWrongRows(t *testing.T) {
	fine := row(numberOf(drawn(16, 1)))
	for name, l := range noRows() {
		for _, x := range []struct{ acc, r []int }{{l, fine}, {fine, l}, {l, l}} {
			if got, ok := Step(x.acc, x.r, "part"); ok || len(got) != 0 {
				t.Errorf("P5.2: %s: %v, %t", name, got, ok)
			}
		}
	}
	if got, ok := Step(row(prime(-1)), row(prime(-1)), "part"); !ok || len(got) != 17 {
		t.Errorf("P5.2: P less 1: %v, %t", got, ok)
	}
}

func TestStepOfWrongParts(t *testing.T) {
	fine := row(numberOf(drawn(16, 1)))
	for _, n := range []int{0, 17, 18, 32, 100, 8200} {
		if got, ok := Step(fine, fine, drawn(n, n)); ok || len(got) != 0 {
			t.Errorf("P5.2: %d bytes: %v, %t", n, got, ok)
		}
	}
}

func TestStepLeavesWhatIsHandedIn(t *testing.T) {
	acc, r := row(prime(-1)), row(numberOf(drawn(16, 5)))
	keptAcc, keptR := slices.Clone(acc), slices.Clone(r)
	first, _ := Step(acc, r, "part")
	kept := slices.Clone(first)
	if !slices.Equal(acc, keptAcc) || !slices.Equal(r, keptR) {
		t.Error("R2: Step changed what was handed in")
	}
	clear(acc)
	clear(r)
	second, _ := Step(keptAcc, keptR, "part")
	if !slices.Equal(first, kept) || !slices.Equal(second, kept) {
		t.Error("R2: Step's answer hangs on what was changed later")
	}
	clear(first)
	if !slices.Equal(second, kept) {
		t.Error("R2: two answers share their memory")
	}
	same, ok := Step(keptAcc, keptAcc, "part")
	if want := row(stepOf(prime(-1), prime(-1), "part")); !ok || !slices.Equal(same, want) {
		t.Errorf("P5.2: one list twice: %v, %t", same, ok)
	}
}

// The examples of RFC 8439, 2.5.2 and A.3.
func TestTagOfKnownTexts(t *testing.T) {
	long := "Any submission to the IETF intended by the Contributor for publication as all or part of an IETF Internet-Draft or RFC and any statement made within the context of an IETF activity is considered an \"IETF Contribution\". Such statements include oral statements in IETF sessions, as well as written and electronic communications made at any time or place, which are addressed to"
	half := "36e5f6b5c5e06070f0efca96227a863e"
	sixteen := func(first string) string { return first + strings.Repeat("00", 16-len(first)/2) }
	for i, x := range [][3]string{
		{"85d6be7857556d337f4452fe42d506a80103808afb0db2fd4abff6af4149f51b", inSixteens("Cryptographic Forum Research Group"), "a8061dc1305136c6c22b8baf0c0127a9"},
		{inSixteens(zeros(32)), inSixteens(zeros(64)), inSixteens(zeros(16))},
		{inSixteens(zeros(16)) + half, inSixteens(long), half},
		{half + inSixteens(zeros(16)), inSixteens(long), "f3477e7cd95417af89a6b8794c310cf0"},
		{sixteen("02") + sixteen(""), strings.Repeat("ff", 16), sixteen("03")},
		{sixteen("02") + strings.Repeat("ff", 16), sixteen("02"), sixteen("03")},
		{sixteen("01") + sixteen(""), strings.Repeat("ff", 16) + "f0" + strings.Repeat("ff", 15) + sixteen("11"), sixteen("05")},
		{sixteen("01") + sixteen(""), strings.Repeat("ff", 16) + "fb" + strings.Repeat("fe", 15) + strings.Repeat("01", 16), sixteen("")},
		{sixteen("02") + sixteen(""), "fd" + strings.Repeat("ff", 15), "fa" + strings.Repeat("ff", 15)},
		{sixteen("010000000000000004") + sixteen(""), "e33594d7505e43b900000000000000003394d7505e4379cd01000000000000000000000000000000000000000000000001000000000000000000000000000000", sixteen("140000000000000055")},
		{sixteen("010000000000000004") + sixteen(""), "e33594d7505e43b900000000000000003394d7505e4379cd010000000000000000000000000000000000000000000000", sixteen("13")},
	} {
		got, e := Tag(fromSixteens(t, x[0]), fromSixteens(t, x[1]))
		if e != api.OK || inSixteens(got) != x[2] {
			t.Errorf("P5.3: %d: %x, %d, not %s", i, got, e, x[2])
		}
	}
}

func TestTag(t *testing.T) {
	for n := range 100 {
		key, s := drawn(32, n), drawn(n, n+1)
		if got, e := Tag(key, s); e != api.OK || got != tagOf(key, s) {
			t.Errorf("P5.3: %d bytes: %x, %d, not %x", n, got, e, tagOf(key, s))
		}
	}
	for _, n := range []int{1000, 3999, 4000, 4001, 4016, 8000, 8175, 8176, 8177, 8184, 8191, 8192, 8193, 8199, 8200} {
		key, s := drawn(32, n), drawn(n, n+1)
		if got, e := Tag(key, s); e != api.OK || got != tagOf(key, s) {
			t.Errorf("P5.3: %d bytes: %x, %d, not %x", n, got, e, tagOf(key, s))
		}
	}
}

// Of bytes 255 all sums are as great as they come, and those that go beyond 2 to the power of 128 are among them.
func TestTagOfGreatNumbers(t *testing.T) {
	high := strings.Repeat("\xff", 32)
	for _, key := range []string{high, high[:16] + zeros(16), zeros(16) + high[:16], "\x01" + zeros(15) + high[:16], drawn(16, 9) + high[:16]} {
		for _, n := range []int{0, 1, 15, 16, 17, 31, 32, 33, 48, 160, 8200} {
			for _, s := range []string{strings.Repeat("\xff", n), zeros(n), strings.Repeat("\x01", n)} {
				if got, e := Tag(key, s); e != api.OK || got != tagOf(key, s) {
					t.Errorf("P5.3: key %x, %d bytes: %x, %d, not %x", key, n, got, e, tagOf(key, s))
				}
			}
		}
	}
}

func TestTagIsMadeOfSteps(t *testing.T) {
	for _, n := range []int{0, 1, 16, 17, 50, 640} {
		key, s := drawn(32, n+70), drawn(n, n+71)
		clamped, _ := Clamp(key[:16])
		r := row(numberOf(clamped))
		acc := make([]int, 17)
		for at := 0; at < n; at += 16 {
			next, ok := Step(acc, r, s[at:min(at+16, n)])
			if !ok {
				t.Fatalf("P5.2: %d bytes at %d: no Step", n, at)
			}
			acc = next
		}
		sum := new(big.Int).Add(numberOfRow(acc), numberOf(key[16:]))
		want := textOf(sum.Mod(sum, power(128)), 16)
		if got, e := Tag(key, s); e != api.OK || got != want {
			t.Errorf("P5.3: %d bytes: %x, %d, not %x", n, got, e, want)
		}
	}
}

// One more 0 behind a text, or one less, is another text.
func TestTagOfTextsThatEndInZeros(t *testing.T) {
	key := drawn(32, 8)
	seen := map[string]int{}
	for n := range 70 {
		got, e := Tag(key, zeros(n))
		if e != api.OK || len(got) != 16 {
			t.Errorf("P5.3: %d zeros: %x, %d", n, got, e)
		}
		if m, is := seen[got]; is {
			t.Errorf("P5.3: %d and %d zeros have one Tag", m, n)
		}
		seen[got] = n
	}
}

func TestTagOfWrongKeys(t *testing.T) {
	for _, n := range []int{0, 1, 15, 16, 17, 31, 33, 48, 64, 8200} {
		for _, size := range []int{0, 1, 8200, 8201, 100000} {
			if got, e := Tag(drawn(n, n), drawn(size, 1)); e != api.ErrArg || got != "" {
				t.Errorf("P5.3: a key of %d bytes, %d bytes: %x, %d", n, size, got, e)
			}
		}
	}
}

func TestTagOfLongTexts(t *testing.T) {
	for _, n := range []int{8201, 8202, 8208, 8216, 10000, 1 << 20} {
		if got, e := Tag(drawn(32, 1), drawn(n, n)); e != api.ErrLimit || got != "" {
			t.Errorf("P5.3: %d bytes: %x, %d", n, got, e)
		}
	}
}

func TestTagOfAKeyThatBeginsWithZeros(t *testing.T) {
	for _, end := range []string{"abcdefghijklmnop", zeros(16), strings.Repeat("\xff", 16), drawn(16, 2)} {
		for _, n := range []int{0, 1, 15, 16, 17, 32, 333, 8200} {
			for _, s := range []string{drawn(n, n), strings.Repeat("\xff", n)} {
				if got, e := Tag(zeros(16)+end, s); e != api.OK || got != end {
					t.Errorf("P5.4: %d bytes: %x, %d, not %x", n, got, e, end)
				}
			}
		}
	}
}

func TestTagOfKeysThatAreClampedAlike(t *testing.T) {
	for i := range 20 {
		begin, end := drawn(16, i), drawn(16, i+50)
		b := []byte(begin)
		for _, at := range []int{3, 7, 11, 15} {
			b[at] ^= byte(16 * (i%15 + 1))
		}
		for _, at := range []int{4, 8, 12} {
			b[at] ^= byte(i%3 + 1)
		}
		for _, n := range []int{0, 1, 16, 40, 1000} {
			one, e := Tag(begin+end, drawn(n, i))
			two, f := Tag(string(b)+end, drawn(n, i))
			if string(b) == begin || e != api.OK || f != api.OK || one != two {
				t.Errorf("P5.4: %x, %x: %x, %d and %x, %d", begin, b, one, e, two, f)
			}
		}
	}
}
