package keyed

import (
	"crypto/hkdf"
	"crypto/hmac"
	"crypto/sha256"
	"encoding/hex"
	"math"
	"runtime/debug"
	"strings"
	"testing"
	"unsafe"

	"keyhole/api"
	"keyhole/digest"
)

// longest is how many bytes a text may have that has a Sum.
const longest = 1000000000

// sizes are lengths of keys and texts; a block ends at 64, and a Sum's own padding turns at 55, 56, 119 and 120.
func sizes() []int {
	return []int{0, 1, 2, 31, 32, 33, 54, 55, 56, 57, 63, 64, 65, 66, 92, 95, 96, 97, 119, 120, 127, 128, 129, 200, 1000, 4000, 4001}
}

// counts are the numbers of bytes that may be asked of Expand; a part ends at each multiple of 32.
func counts() []int {
	return []int{1, 2, 31, 32, 33, 63, 64, 65, 95, 96, 97, 128, 1000, 4096, 8127, 8128, 8129, 8159, 8160}
}

// wrongCounts are numbers of bytes of which Expand has none; some are right ones as a byte or as 16 or 32 digits.
func wrongCounts() []int {
	return []int{0, -1, -32, -8160, math.MinInt, 8161, 8162, 8192, 65536 + 32, 1<<32 + 32, math.MaxInt}
}

// drawn is n bytes that look like none of a rule, the same each time.
func drawn(n, seed int) string {
	b := make([]byte, n)
	x := uint64(seed)*2654435769 + 12345
	for i := range b {
		x = x*6364136223846793005 + 1442695040888963407
		b[i] = byte(x >> 56)
	}
	return string(b)
}

// longText is a text of n bytes 0. It stands on the very bytes that were made, which take no memory till they are written.
// What a test makes of it does take memory, and is given back at the test's end, since others' tests run beside this one.
func longText(t *testing.T, n int) string {
	t.Cleanup(debug.FreeOSMemory)
	b := make([]byte, n)
	return unsafe.String(unsafe.SliceData(b), n)
}

func inSixteens(s string) string {
	return hex.EncodeToString([]byte(s))
}

func fromSixteens(t *testing.T, s string) string {
	t.Helper()
	b, err := hex.DecodeString(s)
	if err != nil {
		t.Fatal(err)
	}
	return string(b)
}

// padOf is the 64 bytes of P3.1 that stand ahead of a text, each xor x.
func padOf(key string, x byte) string {
	if len(key) > 64 {
		key = digest.Sum(key)
	}
	b := []byte(key + strings.Repeat("\x00", 64-len(key)))
	for i := range b {
		b[i] ^= x
	}
	return string(b)
}

// macOf is P3.1 as it is written.
func macOf(key, s string) string {
	return digest.Sum(padOf(key, 92) + digest.Sum(padOf(key, 54)+s))
}

// expandOf is P3.2 as it is written, with all 255 parts.
func expandOf(key, info string, n int) string {
	last, all := "", ""
	for i := 1; i <= 255; i++ {
		last = macOf(key, last+info+string([]byte{byte(i)}))
		all += last
	}
	return all[:n]
}

func TestMacExamples(t *testing.T) {
	for _, c := range []struct{ key, s, want string }{
		{"Jefe", "what do ya want for nothing?", "5bdcc146bf60754e6a042426089575c75a003f089d2739839dec58b964ec3843"},
		{strings.Repeat("\x0b", 20), "Hi There", "b0344c61d8db38535ca8afceaf0bf12b881dc200c9833da726e9376c2e32cff7"},
		{strings.Repeat("\xaa", 20), strings.Repeat("\xdd", 50), "773ea91e36800e46854db8ebd09181a72959098b3ef8c122d9635514ced565fe"},
		{strings.Repeat("\xaa", 131), "Test Using Larger Than Block-Size Key - Hash Key First", "60e431591ee0b67f0d8a26aacbf5b77f8e0bc6213728c5140546040f0ee37f54"},
	} {
		if got := inSixteens(Mac(c.key, c.s)); got != c.want {
			t.Errorf("P3.1: Mac(%x, %q) = %s, want %s", c.key, c.s, got, c.want)
		}
	}
}

func TestMac(t *testing.T) {
	for _, k := range sizes() {
		for _, n := range sizes() {
			key, s := drawn(k, n+1), drawn(n, k+2)
			h := hmac.New(sha256.New, []byte(key))
			h.Write([]byte(s))
			want := string(h.Sum(nil))
			if byWords := macOf(key, s); byWords != want {
				t.Fatalf("P3.1: the words make %x of a key of %d bytes and %d bytes, want %x", byWords, k, n, want)
			}
			if got := Mac(key, s); got != want {
				t.Errorf("P3.1: Mac of a key of %d bytes and %d bytes = %x, want %x", k, n, got, want)
			}
		}
	}
}

func TestMacOfBytesOfAllKinds(t *testing.T) {
	for i := range 256 {
		one := string([]byte{byte(i)})
		for _, k := range []int{1, 32, 63, 64, 65} {
			key, s := strings.Repeat(one, k), strings.Repeat(one, 9)
			if got, want := Mac(key, s), macOf(key, s); got != want {
				t.Errorf("P3.1: Mac of %d and 9 bytes %d = %x, want %x", k, i, got, want)
			}
		}
	}
}

func TestKeyWithoutSum(t *testing.T) {
	key := longText(t, longest+1)
	want := macOf("", "abc")
	if got := Mac(key, "abc"); got != want {
		t.Errorf("P3.1: Mac of a key that has no Sum = %x, want that of no bytes, %x", got, want)
	}
	if !Check(key, "abc", want) {
		t.Error("P3.1: Check of a key that has no Sum is false")
	}
	if got := Extract(key, "abc"); got != want {
		t.Errorf("P3.2: Extract of a salt that has no Sum = %x, want %x", got, want)
	}
	if got, e := Expand(key, "abc", 40); got != expandOf("", "abc", 40) || e != api.OK {
		t.Errorf("P3.2: Expand of a key that has no Sum = %x, %d", got, e)
	}
}

func TestTextWithoutSum(t *testing.T) {
	// With 64 bytes ahead of it, this is the shortest text that has no Sum.
	s := longText(t, longest-63)
	want := digest.Sum(padOf("key", 92))
	if got := Mac("key", s); got != want {
		t.Errorf("P3.1: Mac of a text that has no Sum = %x, want %x", got, want)
	}
	// Behind info stands one more byte.
	if got, e := Expand("key", s[1:], 32); got != want || e != api.OK {
		t.Errorf("P3.2: Expand of an info that has no Sum = %x, %d; want %x", got, e, want)
	}
}

func TestLongestTextWithSum(t *testing.T) {
	s := longText(t, longest-64)
	h := hmac.New(sha256.New, []byte("key"))
	h.Write(unsafe.Slice(unsafe.StringData(s), len(s)))
	if got, want := Mac("key", s), string(h.Sum(nil)); got != want {
		t.Errorf("P3.1: Mac of the longest text that has a Sum = %x, want %x", got, want)
	}
}

func TestCheck(t *testing.T) {
	for _, k := range sizes() {
		key, s := drawn(k, 3), drawn(2*k, 4)
		mac := macOf(key, s)
		if !Check(key, s, mac) {
			t.Errorf("P3.1: Check of the Mac by a key of %d bytes is false", k)
		}
		for i := range mac {
			turned := []byte(mac)
			turned[i] ^= 1 << (i % 8)
			if Check(key, s, string(turned)) {
				t.Errorf("P3.1: Check is true, with byte %d of the Mac turned", i)
			}
		}
		wrong := []string{"", mac[:31], mac[1:], mac + "\x00", "\x00" + mac, mac + mac, inSixteens(mac), strings.Repeat("\x00", 32), s, digest.Sum(s), macOf(s+"!", key)}
		for _, m := range wrong {
			if Check(key, s, m) {
				t.Errorf("P3.1: Check(%x, %x, %x) is true", key, s, m)
			}
		}
		if Check(key+"!", s, mac) || Check(key, s+"!", mac) || Check(key, s+"\x00", mac) {
			t.Errorf("P3.1: Check of another key's or text's Mac is true, at %d bytes", k)
		}
	}
}

// TestDeriveExamples holds Extract, Expand and Derive against the examples of RFC 5869.
func TestDeriveExamples(t *testing.T) {
	for _, c := range []struct{ key, salt, info, extracted, expanded string }{
		{
			"0b0b0b0b0b0b0b0b0b0b0b0b0b0b0b0b0b0b0b0b0b0b", "000102030405060708090a0b0c", "f0f1f2f3f4f5f6f7f8f9",
			"077709362c2e32df0ddc3f0dc47bba6390b6c73bb50f9c3122ec844ad7c2b3e5",
			"3cb25f25faacd57a90434f64d0362f2a2d2d0a90cf1a5a4c5db02d56ecc4c5bf34007208d5b887185865",
		},
		{
			"0b0b0b0b0b0b0b0b0b0b0b0b0b0b0b0b0b0b0b0b0b0b", "", "",
			"19ef24a32c717b167f33a91d6f648bdf96596776afdb6377ac434c1c293ccb04",
			"8da4e775a563c18f715f802a063c5a31b8a11f5c5ee1879ec3454e5f3c738d2d9d201395faa4b61a96c8",
		},
	} {
		key, salt, info := fromSixteens(t, c.key), fromSixteens(t, c.salt), fromSixteens(t, c.info)
		extracted, n := Extract(salt, key), len(c.expanded)/2
		if got := inSixteens(extracted); got != c.extracted {
			t.Errorf("P3.2: Extract(%s, %s) = %s, want %s", c.salt, c.key, got, c.extracted)
		}
		if got, e := Expand(extracted, info, n); inSixteens(got) != c.expanded || e != api.OK {
			t.Errorf("P3.2: Expand(%s, %s, %d) = %x, %d; want %s", c.extracted, c.info, n, got, e, c.expanded)
		}
		if got, e := Derive(key, salt, info, n); inSixteens(got) != c.expanded || e != api.OK {
			t.Errorf("P3.2: Derive(%s, %s, %s, %d) = %x, %d; want %s", c.key, c.salt, c.info, n, got, e, c.expanded)
		}
	}
}

func TestExtract(t *testing.T) {
	for _, k := range sizes() {
		for _, n := range sizes() {
			salt, key := drawn(k, 5), drawn(n, 6)
			if got, want := Extract(salt, key), macOf(salt, key); got != want {
				t.Errorf("P3.2: Extract of a salt of %d bytes and a key of %d = %x, want %x", k, n, got, want)
			}
		}
	}
}

func TestExpand(t *testing.T) {
	for _, k := range []int{0, 1, 32, 63, 64, 65, 200} {
		for _, i := range []int{0, 1, 22, 23, 32, 64, 100} {
			key, info := drawn(k, 7), drawn(i, 8)
			all := expandOf(key, info, 8160)
			for _, n := range counts() {
				if got, e := Expand(key, info, n); got != all[:n] || e != api.OK {
					t.Errorf("P3.2: Expand(%x, %x, %d) = %d bytes, %d, and not the first of T1, T2 ..", key, info, n, len(got), e)
				}
			}
		}
	}
}

func TestDerive(t *testing.T) {
	for _, k := range []int{0, 1, 32, 64, 65, 200} {
		for _, s := range []int{0, 1, 32, 64, 65, 200} {
			key, salt, info := drawn(k, 9), drawn(s, 10), drawn(k+s, 11)
			for _, n := range counts() {
				want, err := hkdf.Key(sha256.New, []byte(key), []byte(salt), info, n)
				if err != nil {
					t.Fatal(err)
				}
				if got, e := Derive(key, salt, info, n); got != string(want) || e != api.OK {
					t.Errorf("P3.2: Derive(%x, %x, %x, %d) = %x, %d; want %x", key, salt, info, n, got, e, want)
				}
			}
		}
	}
}

func TestWrongCounts(t *testing.T) {
	for _, n := range wrongCounts() {
		for _, s := range []string{"", "abc", drawn(100, 12)} {
			if got, e := Expand(s, s, n); got != "" || e != api.ErrArg {
				t.Errorf("P3.2: Expand of %d bytes = %x, %d; want ErrArg", n, got, e)
			}
			if got, e := Derive(s, s, s, n); got != "" || e != api.ErrArg {
				t.Errorf("P3.2: Derive of %d bytes = %x, %d; want ErrArg", n, got, e)
			}
		}
	}
}

func TestKeyWithZerosBehind(t *testing.T) {
	for _, k := range []int{0, 1, 31, 32, 62, 63, 64} {
		key := drawn(k, 13)
		mac := Mac(key, "abc")
		made, _ := Expand(key, "abc", 100)
		for n := k; n <= 64; n++ {
			long := key + strings.Repeat("\x00", n-k)
			if got := Mac(long, "abc"); got != mac {
				t.Errorf("P3.3: Mac of %d bytes, and bytes 0 up to %d, = %x, want %x", k, n, got, mac)
			}
			if !Check(long, "abc", mac) {
				t.Errorf("P3.3: Check of %d bytes, and bytes 0 up to %d, is false", k, n)
			}
			if got := Extract(long, "abc"); got != mac {
				t.Errorf("P3.3: Extract of %d bytes, and bytes 0 up to %d, = %x, want %x", k, n, got, mac)
			}
			if got, e := Expand(long, "abc", 100); got != made || e != api.OK {
				t.Errorf("P3.3: Expand of %d bytes, and bytes 0 up to %d, = %x, %d; want %x", k, n, got, e, made)
			}
		}
		over := key + strings.Repeat("\x00", 65-k)
		if Mac(over, "abc") == mac {
			t.Errorf("P3.3: %d bytes, and bytes 0 up to 65, are as one with no more than 64", k)
		}
	}
}

func TestLesserIsBeginning(t *testing.T) {
	key, info := drawn(32, 14), drawn(20, 15)
	longer, e := Expand(key, info, 8160)
	if len(longer) != 8160 || e != api.OK {
		t.Fatalf("P3.2: Expand of 8160 bytes = %d bytes, %d", len(longer), e)
	}
	derived, _ := Derive(key, info, info, 8160)
	for n := 8159; n > 0; n -= 13 {
		if got, e := Expand(key, info, n); len(got) != n || !strings.HasPrefix(longer, got) || e != api.OK {
			t.Errorf("P3.3: Expand of %d bytes = %d bytes, %d, and not the beginning of more", n, len(got), e)
		}
		if got, e := Derive(key, info, info, n); len(got) != n || !strings.HasPrefix(derived, got) || e != api.OK {
			t.Errorf("P3.3: Derive of %d bytes = %d bytes, %d, and not the beginning of more", n, len(got), e)
		}
	}
}

func TestPartsMayStop(t *testing.T) {
	pad := blockOf("key").pad
	for stop := 1; stop <= 255; stop += 127 {
		got := ""
		for part := range parts(pad, "info") {
			got += part
			if len(got) == 32*stop {
				break
			}
		}
		if want := expandOf("key", "info", 32*stop); got != want {
			t.Errorf("P3.2: the first %d parts are %x, want %x", stop, got, want)
		}
	}
	n := 0
	for range parts(pad, "info") {
		n++
	}
	if n != 255 {
		t.Errorf("P3.2: there are %d parts", n)
	}
}

func TestAnswersHangOnArgumentsAlone(t *testing.T) {
	first := Mac("key", "abc")
	made, _ := Expand("key", "abc", 70)
	Mac(drawn(100, 16), drawn(100, 17))
	Derive("another", "salt", "info", 8160)
	if Mac("key", "abc") != first {
		t.Error("R2: Mac answers the same arguments twice, and unlike")
	}
	if again, _ := Expand("key", "abc", 70); again != made {
		t.Error("R2: Expand answers the same arguments twice, and unlike")
	}
}
