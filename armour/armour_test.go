package armour

import (
	"crypto/sha256"
	"encoding/base32"
	"fmt"
	"math"
	"math/rand"
	"slices"
	"strings"
	"sync"
	"testing"

	"keyhole/api"
)

// theLetters are the 32 letters, for 0 to 31.
const theLetters = "abcdefghijklmnopqrstuvwxyz234567"

// lettersOf is what P10.1 tells, as it is written: all digits, as few 0 behind, five of them a letter.
func lettersOf(s string) string {
	digits := ""
	for i := range len(s) {
		digits += fmt.Sprintf("%08b", s[i])
	}
	for len(digits)%5 != 0 {
		digits += "0"
	}
	letters := ""
	for ; digits != ""; digits = digits[5:] {
		x := 0
		for _, d := range digits[:5] {
			x = 2*x + int(d-'0')
		}
		letters += theLetters[x : x+1]
	}
	return letters
}

// library is another one's way to the same letters, for texts that are long.
var library = base32.NewEncoding(theLetters).WithPadding(base32.NoPadding)

// putOf is what P10.2 tells, as it is written, of a text of any size.
func putOf(s string) string {
	sum := sha256.Sum256([]byte(s))
	letters := library.EncodeToString([]byte(s + string(sum[:3])))
	put := ""
	for len(letters) > 5 {
		put += letters[:5] + "-"
		letters = letters[5:]
	}
	return put + letters
}

// getOf is the text whose Put is w, and whether there is one: the only one that it could be is tried.
func getOf(w string) (string, bool) {
	b, _ := library.DecodeString(strings.ReplaceAll(w, "-", ""))
	if len(b) < 3 || len(b) > 203 {
		return "", false
	}
	s := string(b[:len(b)-3])
	return s, putOf(s) == w
}

// drawn are n bytes, by r.
func drawn(r *rand.Rand, n int) string {
	b := make([]byte, n)
	r.Read(b)
	return string(b)
}

// of are n bytes b.
func of(b byte, n int) string {
	return strings.Repeat(string([]byte{b}), n)
}

// with is w with c at place i.
func with(w string, i int, c byte) string {
	return w[:i] + string([]byte{c}) + w[i+1:]
}

// notLetters are all bytes that are none of the 32 letters.
func notLetters() []byte {
	var l []byte
	for c := range 256 {
		if !strings.Contains(theLetters, string([]byte{byte(c)})) {
			l = append(l, byte(c))
		}
	}
	return l
}

func wantLetters(t *testing.T, s, want string) {
	t.Helper()
	if got := Letters(s); got != want {
		t.Errorf("P10.1: Letters(%q) = %q, want %q", s, got, want)
	}
	if got, e := Bytes(want); got != s || e != api.OK {
		t.Errorf("P10.1: Bytes(%q) = %q, error %d, want %q", want, got, e, s)
	}
}

func wantNoBytes(t *testing.T, w string) {
	t.Helper()
	if got, e := Bytes(w); got != "" || e != api.ErrArmour {
		t.Errorf("P10.1: Bytes(%q) = %q, error %d, want ErrArmour", w, got, e)
	}
}

func wantPut(t *testing.T, s, want string) {
	t.Helper()
	if got, e := Put(s); got != want || e != api.OK {
		t.Errorf("P10.2: Put(%q) = %q, error %d, want %q", s, got, e, want)
	}
	if got, e := Get(want); got != s || e != api.OK {
		t.Errorf("P10.2: Get(%q) = %q, error %d, want %q", want, got, e, s)
	}
}

func wantNoPut(t *testing.T, s string) {
	t.Helper()
	if got, e := Put(s); got != "" || e != api.ErrLimit {
		t.Errorf("P10.2: Put of %d bytes = %q, error %d, want ErrLimit", len(s), got, e)
	}
}

// wantGet holds Get of w against getOf.
func wantGet(t *testing.T, w string) {
	t.Helper()
	want, ok := getOf(w)
	if !ok {
		wantNoGet(t, w)
		return
	}
	if got, e := Get(w); got != want || e != api.OK {
		t.Errorf("P10.2: Get(%q) = %q, error %d, want %q", w, got, e, want)
	}
}

// wantNoGet asks both calls that get: there is nothing whose Put is w.
func wantNoGet(t *testing.T, w string) {
	t.Helper()
	if got, e := Get(w); got != "" || e != api.ErrArmour {
		t.Errorf("P10.2: Get(%q) = %q, error %d, want ErrArmour", w, got, e)
	}
	wantNoGetShare(t, w)
}

func wantNoGetShare(t *testing.T, w string) {
	t.Helper()
	if got, e := GetShare(w); got != (api.Share{}) || e != api.ErrArmour {
		t.Errorf("P10.3: GetShare(%q) = %v, error %d, want ErrArmour", w, got, e)
	}
}

func wantPutShare(t *testing.T, x api.Share) {
	t.Helper()
	want := putOf(string([]byte{byte(x.X)}) + x.Bytes)
	if got, e := PutShare(x); got != want || e != api.OK {
		t.Errorf("P10.3: PutShare(%v) = %q, error %d, want %q", x, got, e, want)
	}
	if got, e := GetShare(want); got != x || e != api.OK {
		t.Errorf("P10.3: GetShare(%q) = %v, error %d, want %v", want, got, e, x)
	}
}

func wantNoPutShare(t *testing.T, x api.Share) {
	t.Helper()
	if got, e := PutShare(x); got != "" || e != api.ErrArg {
		t.Errorf("P10.3: PutShare of X %d, %d bytes = %q, error %d, want ErrArg", x.X, len(x.Bytes), got, e)
	}
}

func TestExamples(t *testing.T) {
	wantLetters(t, "f", "my")
	wantLetters(t, "fo", "mzxq")
	wantLetters(t, "foobar", "mzxw6ytboi")
	for _, w := range []string{"mz", "m", "MY"} {
		wantNoBytes(t, w)
	}
}

// These are the examples of RFC 4648 (10), in small letters, and what is told of bytes at the ends.
func TestKnownLetters(t *testing.T) {
	for _, c := range [][2]string{
		{"", ""},
		{"foo", "mzxw6"},
		{"foob", "mzxw6yq"},
		{"fooba", "mzxw6ytb"},
		{"\x00", "aa"},
		{"\x01", "ae"},
		{"\x08", "ba"},
		{"\x80", "qa"},
		{"\xff", "74"},
		{"\xff\xff\xff\xff\xff", "77777777"},
		{"\x00\x00\x00\x00\x00", "aaaaaaaa"},
		{"\x00\x00\x00\x00\x01", "aaaaaaab"},
		{"\x00\x44\x32\x14\xc7\x42\x54\xb6\x35\xcf\x84\x65\x3a\x56\xd7\xc6\x75\xbe\x77\xdf", theLetters},
	} {
		wantLetters(t, c[0], c[1])
	}
}

func TestLetters(t *testing.T) {
	r := rand.New(rand.NewSource(1001))
	for n := range 120 {
		for _, s := range []string{drawn(r, n), drawn(r, n), of(0, n), of(255, n), of(0x55, n)} {
			wantLetters(t, s, lettersOf(s))
		}
	}
	for _, n := range []int{199, 200, 201, 203, 255, 256, 3999, 4000, 4001, 65535, 65536, 1000003} {
		s := drawn(r, n)
		if want := library.EncodeToString([]byte(s)); Letters(s) != want {
			t.Errorf("P10.1: Letters of %d bytes are others", n)
		} else if got, e := Bytes(want); got != s || e != api.OK {
			t.Errorf("P10.1: Bytes of the letters of %d bytes are %d others, error %d", n, len(got), e)
		}
	}
}

// Each digit of the bytes stands at its own place of the letters.
func TestLettersOfOneDigit(t *testing.T) {
	for n := 1; n <= 16; n++ {
		for at := range 8 * n {
			s := with(of(0, n), at/8, 128>>(at%8))
			want := with(of('a', (8*n+4)/5), at/5, theLetters[16>>(at%5)])
			wantLetters(t, s, want)
		}
	}
}

// Of all texts of up to four letters there are no bytes but of those that are letters of some.
func TestBytesOfAllShortTexts(t *testing.T) {
	bytesOf := map[string]string{"": ""}
	for a := range 256 {
		s := string([]byte{byte(a)})
		bytesOf[lettersOf(s)] = s
		for b := range 256 {
			s := string([]byte{byte(a), byte(b)})
			bytesOf[lettersOf(s)] = s
		}
	}
	var ask func(w string)
	ask = func(w string) {
		if s, there := bytesOf[w]; there {
			wantLetters(t, s, w)
		} else {
			wantNoBytes(t, w)
		}
		for i := 0; i < 32 && len(w) < 4; i++ {
			ask(w + theLetters[i:i+1])
		}
	}
	ask("")
}

// What stands behind the bytes is less than a letter's digits, and each of them is 0.
func TestBytesOfWrongEnds(t *testing.T) {
	r := rand.New(rand.NewSource(1002))
	for n := range 25 {
		s := drawn(r, n)
		w := lettersOf(s)
		spare := 5*len(w) - 8*n
		for more := 1; more < 1<<spare; more++ {
			last := strings.IndexByte(theLetters, w[len(w)-1])
			wantNoBytes(t, w[:len(w)-1]+theLetters[last+more:last+more+1])
		}
		if (len(w)+1)*5%8 >= 5 {
			wantNoBytes(t, w+"a")
		}
	}
	for n := range 200 {
		if n*5%8 >= 5 {
			wantNoBytes(t, of('a', n))
		} else {
			wantLetters(t, of(0, n*5/8), of('a', n))
		}
	}
}

func TestBytesOfOtherLetters(t *testing.T) {
	w := lettersOf("ten bytes.")
	for _, c := range notLetters() {
		for i := range w {
			wantNoBytes(t, with(w, i, c))
		}
		wantNoBytes(t, string([]byte{c}))
		wantNoBytes(t, w+string([]byte{c}))
		wantNoBytes(t, string([]byte{c})+w)
		wantNoBytes(t, w+of(c, 6))
	}
	for _, wrong := range []string{strings.ToUpper(w), w + "======", w[:8] + "-" + w[8:], w + "\n", " " + w, "m0", "m1", "m8", "m9", "é", "\u017f\u017f", "ａａ", "my\x00"} {
		wantNoBytes(t, wrong)
	}
}

func TestKnownPuts(t *testing.T) {
	// The Sum of no bytes begins with e3 b0 c4, that of `abc` with ba 78 16.
	wantPut(t, "", "4oymi")
	wantPut(t, "abc", "mfrgh-otycy")
}

func TestPut(t *testing.T) {
	r := rand.New(rand.NewSource(1003))
	for n := range 201 {
		for _, s := range []string{drawn(r, n), of(0, n), of(255, n), of('-', n)} {
			wantPut(t, s, putOf(s))
		}
	}
	for _, n := range []int{201, 202, 203, 204, 255, 256, 400, 4000, 65736, 1000000} {
		wantNoPut(t, drawn(r, n))
	}
}

func TestPartsOfPut(t *testing.T) {
	r := rand.New(rand.NewSource(1004))
	for n := range 201 {
		w, _ := Put(drawn(r, n))
		l := strings.Split(w, "-")
		for i, part := range l {
			if len(part) != 5 && (i < len(l)-1 || len(part) < 1 || len(part) > 5) {
				t.Errorf("P10.2: of %d bytes part %d is %q", n, i, part)
			}
		}
		if want := (8*(n+3) + 4) / 5; len(strings.Join(l, "")) != want {
			t.Errorf("P10.2: of %d bytes there are %d letters, want %d", n, len(strings.Join(l, "")), want)
		}
	}
}

func TestGetOfTooLong(t *testing.T) {
	r := rand.New(rand.NewSource(1005))
	for _, n := range []int{201, 202, 204, 256, 400, 4000} {
		wantNoGet(t, putOf(drawn(r, n)))
	}
	wantNoGet(t, of('a', 1000000))
	wantNoGet(t, of('-', 1000000))
	wantNoGet(t, strings.Repeat("aaaaa-", 100000)+"aaaaa")
}

// Fewer than three bytes have no Sum among them.
func TestGetOfTooShort(t *testing.T) {
	for _, w := range []string{"", "-", "a", "aa", "aaa", "aaaa", "my", "mzxq", "aaaaa", "77777", "4oym", "4oym-", "-----"} {
		wantNoGet(t, w)
	}
	for a := range 256 {
		wantNoGet(t, lettersOf(string([]byte{byte(a)})))
		wantNoGet(t, lettersOf(string([]byte{0xe3, byte(a)})))
	}
}

// somePuts are what is put of texts that leave each number of letters in the last part, and of the greatest one.
func somePuts() []string {
	r := rand.New(rand.NewSource(1006))
	var l []string
	for _, n := range []int{0, 1, 2, 3, 4, 5, 6, 7, 22, 33, 200} {
		l = append(l, putOf(drawn(r, n)))
	}
	return l
}

func TestGetOfOtherLetters(t *testing.T) {
	for _, w := range somePuts() {
		for i := range w {
			for c := range 256 {
				wantGet(t, with(w, i, byte(c)))
			}
		}
		wantNoGet(t, strings.ToUpper(w))
	}
}

func TestGetOfOtherParts(t *testing.T) {
	for _, w := range somePuts() {
		if len(w) > 5 {
			wantNoGet(t, strings.ReplaceAll(w, "-", ""))
			wantNoGet(t, strings.ReplaceAll(w, "-", "--"))
			wantNoGet(t, strings.ReplaceAll(w, "-", " "))
			wantNoGet(t, strings.ReplaceAll(w, "-", "="))
		}
		letters := strings.ReplaceAll(w, "-", "")
		for i := range len(w) + 1 {
			wantNoGet(t, w[:i]+"-"+w[i:])
			wantNoGet(t, w[:i]+" "+w[i:])
			wantNoGet(t, w[:i]+"\n"+w[i:])
			wantGet(t, w[:i])
			wantGet(t, w[i:])
		}
		for i := range w {
			wantGet(t, w[:i]+w[i+1:])
		}
		for i := range len(letters) {
			if len(letters) != 10 || i != 5 {
				wantGet(t, letters[:i]+"-"+letters[i:])
			}
		}
		for i := 1; i < len(w); i++ {
			wantGet(t, w[:i-1]+w[i:i+1]+w[i-1:i]+w[i+1:])
		}
	}
}

// The three bytes that are behind a text are those of its own Sum, and the first ones.
func TestGetOfOtherSums(t *testing.T) {
	grouped := func(b string) string {
		return strings.Join(slices.Collect(parts(lettersOf(b))), "-")
	}
	s := "a text"
	sum := sha256.Sum256([]byte(s))
	other := sha256.Sum256([]byte("another text"))
	if grouped(s+string(sum[:3])) != putOf(s) {
		t.Fatal("the test's own parts are others")
	}
	wrong := []string{s, s + string(sum[:2]), s + string(sum[:4]), s + string(sum[:]), s + string(sum[1:4]), s + string(sum[29:]), s + string(other[:3]), s + "\x00\x00\x00", string(sum[:3]) + s}
	for _, b := range wrong {
		wantNoGet(t, grouped(b))
	}
	for i := range 3 {
		for x := 1; x < 256; x++ {
			turned := sum
			turned[i] ^= byte(x)
			wantNoGet(t, grouped(s+string(turned[:3])))
		}
	}
}

func TestShares(t *testing.T) {
	r := rand.New(rand.NewSource(1007))
	for x := 1; x <= 255; x++ {
		wantPutShare(t, api.Share{X: x, Bytes: drawn(r, 32)})
		wantPutShare(t, api.Share{X: x, Bytes: of(byte(x), 32)})
	}
	wantPutShare(t, api.Share{X: 1, Bytes: of(0, 32)})
	wantPutShare(t, api.Share{X: 255, Bytes: of(255, 32)})
}

func TestWrongShares(t *testing.T) {
	for _, x := range []int{0, -1, -255, -256, 256, 257, 511, 512, 65537, 1<<32 + 1, -1<<32 + 1, math.MinInt, math.MinInt + 1, math.MaxInt} {
		for _, n := range []int{0, 31, 32, 33, 200} {
			wantNoPutShare(t, api.Share{X: x, Bytes: of(7, n)})
		}
	}
	for _, x := range []int{1, 2, 255} {
		for _, n := range []int{0, 1, 16, 31, 33, 34, 64, 199, 200, 201, 288, 4000} {
			wantNoPutShare(t, api.Share{X: x, Bytes: of(7, n)})
		}
	}
	wantNoPutShare(t, api.Share{})
}

func TestGetShareOfOtherTexts(t *testing.T) {
	for n := range 201 {
		if n != 33 {
			wantNoGetShare(t, putOf(of(7, n)))
			wantNoGetShare(t, putOf(of(0, n)))
		}
	}
	wantNoGetShare(t, putOf(of(0, 33)))
	wantNoGetShare(t, putOf("\x00"+of(7, 32)))
	wantNoGetShare(t, putOf("\x00"+of(255, 32)))
}

func TestPutAndGet(t *testing.T) {
	r := rand.New(rand.NewSource(1008))
	for range 2000 {
		s := drawn(r, r.Intn(201))
		w, e := Put(s)
		if e != api.OK {
			t.Fatalf("P10.2: Put(%q): error %d", s, e)
		}
		if got, e := Get(w); got != s || e != api.OK {
			t.Errorf("P10.4: %q is put as %q, and got as %q, error %d", s, w, got, e)
		}
	}
	for range 200 {
		x := api.Share{X: 1 + r.Intn(255), Bytes: drawn(r, 32)}
		w, e := PutShare(x)
		if e != api.OK {
			t.Fatalf("P10.3: PutShare(%v): error %d", x, e)
		}
		if got, e := GetShare(w); got != x || e != api.OK {
			t.Errorf("P10.4: %v is put as %q, and got as %v, error %d", x, w, got, e)
		}
	}
}

// What is got, put, is the same text: of letters at random nearly nothing is, so their Sum is mended.
func TestGetAndPut(t *testing.T) {
	r := rand.New(rand.NewSource(1009))
	for range 5000 {
		letters := make([]byte, r.Intn(60))
		for i := range letters {
			letters[i] = theLetters[r.Intn(32)]
		}
		if b, e := Bytes(string(letters)); e == api.OK && Letters(b) != string(letters) {
			t.Errorf("P10.4: %q is got as %q, and put as %q", letters, b, Letters(b))
		}
		b, _ := library.DecodeString(string(letters))
		for _, w := range []string{string(letters), strings.Join(slices.Collect(parts(string(letters))), "-"), putOf(string(b))} {
			wantGet(t, w)
			if s, e := Get(w); e == api.OK {
				if again, e := Put(s); again != w || e != api.OK {
					t.Errorf("P10.4: %q is got as %q, and put as %q, error %d", w, s, again, e)
				}
			}
			if x, e := GetShare(w); e == api.OK {
				if again, e := PutShare(x); again != w || e != api.OK {
					t.Errorf("P10.4: %q is got as %v, and put as %q, error %d", w, x, again, e)
				}
			}
		}
	}
}

func TestPartsMayStop(t *testing.T) {
	for stop := 1; stop <= 4; stop++ {
		var got []string
		for part := range parts("aaaaabbbbbcc") {
			got = append(got, part)
			if len(got) == stop {
				break
			}
		}
		if want := []string{"aaaaa", "bbbbb", "cc"}[:min(stop, 3)]; !slices.Equal(got, want) {
			t.Errorf("P10.2: the first %d parts are %v, want %v", stop, got, want)
		}
	}
}

// What a call answers hangs on its arguments alone, whoever else calls.
func TestAtOnce(t *testing.T) {
	var all sync.WaitGroup
	for i := range 8 {
		all.Go(func() {
			r := rand.New(rand.NewSource(int64(1100 + i)))
			for range 200 {
				s := drawn(r, r.Intn(201))
				if w, e := Put(s); w != putOf(s) || e != api.OK {
					t.Errorf("R2: Put(%q) = %q, error %d", s, w, e)
				} else if got, e := Get(w); got != s || e != api.OK {
					t.Errorf("R2: Get(%q) = %q, error %d", w, got, e)
				}
			}
		})
	}
	all.Wait()
}
