package seal

import (
	"encoding/binary"
	"encoding/hex"
	"strings"
	"testing"

	"keyhole/api"
	"keyhole/stream"
	"keyhole/tag"
)

// drawn is n bytes that look like none of a rule, the same each time.
func drawn(n, seed int) string {
	b := make([]byte, n)
	x := uint64(seed)*2654435769 + 12345
	for i := range b {
		x = x*6364136223846793005 + 1442695040888963407
		b[i] = byte(x >> 56)
	}
	return string(b)
}

func zeros(n int) string {
	return strings.Repeat("\x00", n)
}

func inSixteens(s string) string {
	return hex.EncodeToString([]byte(s))
}

func fromSixteens(t *testing.T, s string) string {
	t.Helper()
	b, err := hex.DecodeString(strings.Join(strings.Fields(s), ""))
	if err != nil {
		t.Fatal(err)
	}
	return string(b)
}

// sizes are lengths of texts; a part ends at each multiple of 16, and a block that hides at each of 64.
func sizes() []int {
	return []int{0, 1, 2, 15, 16, 17, 31, 32, 33, 63, 64, 65, 127, 128, 129, 255, 256, 257, 1000, 3967, 3968, 3969, 3984, 3985, 3999, 4000}
}

// few are those of sizes at the edges of parts, and the greatest one.
func few() []int {
	return []int{0, 1, 15, 16, 17, 64, 65, 4000}
}

// wrongSizes are lengths of texts that are too long.
func wrongSizes() []int {
	return []int{4001, 4002, 4016, 4017, 8000, 8200, 8201, 100000}
}

// wrong are keys and nonces of which one at least is none.
func wrong() [][2]string {
	key, nonce := drawn(32, 1), drawn(12, 2)
	l := [][2]string{{"", ""}, {nonce, key}}
	for _, n := range []int{0, 1, 12, 16, 31, 33, 64, 4001} {
		l = append(l, [2]string{drawn(n, 3), nonce})
	}
	for _, n := range []int{0, 1, 8, 11, 13, 16, 24, 32, 4001} {
		l = append(l, [2]string{key, drawn(n, 4)})
	}
	return l
}

// paddedOf is s with a byte 0 behind it as often as it takes.
func paddedOf(s string) string {
	for len(s)%16 != 0 {
		s += "\x00"
	}
	return s
}

// toldOf is the second half of P6.1 as it is written.
func toldOf(beside, hidden string) string {
	b := []byte(paddedOf(beside) + paddedOf(hidden))
	b = binary.LittleEndian.AppendUint64(b, uint64(len(beside)))
	return string(binary.LittleEndian.AppendUint64(b, uint64(len(hidden))))
}

// markOf is the end of what is sealed, as P6.2 has it.
func markOf(t *testing.T, key, nonce, beside, hidden string) string {
	t.Helper()
	block, e := stream.Block(key, nonce, 0)
	if e != api.OK {
		t.Fatalf("a block's error %d", e)
	}
	m, e := tag.Tag(block[:32], toldOf(beside, hidden))
	if e != api.OK {
		t.Fatalf("a tag's error %d", e)
	}
	return m
}

// sealOf is P6.2 as it is written, where there is no error.
func sealOf(t *testing.T, key, nonce, beside, s string) string {
	t.Helper()
	hidden, e := stream.Crypt(key, nonce, 1, s)
	if e != api.OK {
		t.Fatalf("Crypt's error %d", e)
	}
	return hidden + markOf(t, key, nonce, beside, hidden)
}

// refused asks that Open answers ErrOpen, and nothing else.
func refused(t *testing.T, what, key, nonce, beside, sealed string) {
	t.Helper()
	if got, e := Open(key, nonce, beside, sealed); got != "" || e != api.ErrOpen {
		t.Errorf("P6.3: %s: Open = %x, %d, want none and ErrOpen", what, got, e)
	}
}

// example is a text that is sealed, in sixteens but for the text.
type example struct{ key, nonce, beside, s, sealed string }

// examples are those of RFC 8439, 2.8.2 and A.5.
func examples() []example {
	return []example{
		{
			"808182838485868788898a8b8c8d8e8f909192939495969798999a9b9c9d9e9f", "070000004041424344454647", "50515253c0c1c2c3c4c5c6c7",
			"Ladies and Gentlemen of the class of '99: If I could offer you only one tip for the future, sunscreen would be it.",
			"d31a8d34648e60db7b86afbc53ef7ec2 a4aded51296e08fea9e2b5a736ee62d6 3dbea45e8ca9671282fafb69da92728b 1a71de0a9e060b2905d6a5b67ecd3b36" +
				"92ddbd7f2d778b8c9803aee328091b58 fab324e4fad675945585808b4831d7bc 3ff4def08e4b7a9de576d26586cec64b 6116" +
				"1ae10b594f09e26a7e902ecbd0600691",
		},
		{
			"1c9240a5eb55d38af333888604f6b5f0473917c1402b80099dca5cbc207075c0", "000000000102030405060708", "f33388860000000000004e91",
			"Internet-Drafts are draft documents valid for a maximum of six months and may be updated, replaced, or obsoleted by other documents at any time. It is inappropriate to use Internet-Drafts as reference material or to cite them other than as /\u201cwork in progress./\u201d",
			"64a0861575861af460f062c79be643bd 5e805cfd345cf389f108670ac76c8cb2 4c6cfc18755d43eea09ee94e382d26b0 bdb7b73c321b0100d4f03b7f355894cf" +
				"332f830e710b97ce98c8a84abd0b9481 14ad176e008d33bd60f982b1ff37c855 9797a06ef4f0ef61c186324e2b350638 3606907b6a7c02b0f9f6157b53c867e4" +
				"b9166c767b804d46a59b5216cde7a4e9 9040c5a40433225ee282a1b0a06c523e af4534d7f83fa1155b0047718cbc546a 0d072b04b3564eea1b422273f548271a" +
				"0bb2316053fa76991955ebd63159434e cebb4e466dae5a1073a6727627097a10 49e617d91d361094fa68f0ff77987130 305beaba2eda04df997b714d6c6f2c29" +
				"a6ad5cb4022b02709b" +
				"eead9d67890cbb22392336fea1851f38",
		},
	}
}

// The examples of RFC 8439, 2.6.2 and A.4.
func TestOnceOfKnownKeys(t *testing.T) {
	for _, x := range [][3]string{
		{"808182838485868788898a8b8c8d8e8f909192939495969798999a9b9c9d9e9f", "000000000001020304050607", "8ad5a08b905f81cc815040274ab29471a833b637e3fd0da508dbb8e2fdd1a646"},
		{inSixteens(zeros(32)), inSixteens(zeros(12)), "76b8e0ada0f13d90405d6ae55386bd28bdd219b8a08ded1aa836efcc8b770dc7"},
		{inSixteens(zeros(31)) + "01", inSixteens(zeros(11)) + "02", "ecfa254f845f647473d3cb140da9e87606cb33066c447b87bc2666dde3fbb739"},
		{"1c9240a5eb55d38af333888604f6b5f0473917c1402b80099dca5cbc207075c0", inSixteens(zeros(11)) + "02", "965e3bc6f9ec7ed9560808f4d229f94b137ff275ca9b3fcbdd59deaad23310ae"},
	} {
		got, e := Once(fromSixteens(t, x[0]), fromSixteens(t, x[1]))
		if inSixteens(got) != x[2] || e != api.OK {
			t.Errorf("P6.1: Once of %s, %s = %x, %d, want %s", x[0], x[1], got, e, x[2])
		}
	}
}

func TestOnce(t *testing.T) {
	for seed := range 50 {
		key, nonce := drawn(32, seed), drawn(12, seed+100)
		block, _ := stream.Block(key, nonce, 0)
		if got, e := Once(key, nonce); got != block[:32] || e != api.OK {
			t.Errorf("P6.1: Once of %x, %x = %x, %d, want %x", key, nonce, got, e, block[:32])
		}
	}
}

func TestOnceOfWrong(t *testing.T) {
	for _, x := range wrong() {
		if got, e := Once(x[0], x[1]); got != "" || e != api.ErrArg {
			t.Errorf("P6.1: Once of a key of %d bytes and a nonce of %d = %x, %d, want none and ErrArg", len(x[0]), len(x[1]), got, e)
		}
	}
}

func TestToldOfKnownTexts(t *testing.T) {
	none := zeros(8)
	for _, x := range [][3]string{
		{"", "", none + none},
		{"a", "", "a" + zeros(15) + "\x01" + zeros(7) + none},
		{"", "a", "a" + zeros(15) + none + "\x01" + zeros(7)},
		{"ab", "xyz", "ab" + zeros(14) + "xyz" + zeros(13) + "\x02" + zeros(7) + "\x03" + zeros(7)},
		{"sixteen bytes....", "", "sixteen bytes...." + zeros(15) + "\x11" + zeros(7) + none},
		{"0123456789abcdef", "fedcba9876543210", "0123456789abcdeffedcba9876543210\x10" + zeros(7) + "\x10" + zeros(7)},
		{"", strings.Repeat("b", 258), strings.Repeat("b", 258) + zeros(14) + none + "\x02\x01" + zeros(6)},
	} {
		if got := Told(x[0], x[1]); got != x[2] {
			t.Errorf("P6.1: Told of %q, %q = %x, want %x", x[0], x[1], got, x[2])
		}
	}
}

func TestTold(t *testing.T) {
	for a := range 66 {
		for b := range 66 {
			beside, hidden := drawn(a, b), drawn(b, a)
			if got, want := Told(beside, hidden), toldOf(beside, hidden); got != want {
				t.Fatalf("P6.1: Told of %x, %x = %x, want %x", beside, hidden, got, want)
			}
		}
	}
}

// Told has no limit, and its numbers of bytes may be above a byte, two and three.
func TestToldOfLongTexts(t *testing.T) {
	for _, n := range []int{255, 256, 257, 4000, 4001, 8200, 8201, 65535, 65536, 65537, 1<<24 - 1, 1<<24 + 3} {
		for _, x := range [][2]string{{drawn(n, 1), "abc"}, {"abc", drawn(n, 2)}, {drawn(n, 3), drawn(n, 4)}} {
			if got, want := Told(x[0], x[1]), toldOf(x[0], x[1]); got != want {
				t.Errorf("P6.1: Told of %d and %d bytes has %d, want %d others", len(x[0]), len(x[1]), len(got), len(want))
			}
		}
	}
}

// Bytes 0 at an end, and bytes that go over from one text to the other, make other texts.
func TestToldOfUnlikeTexts(t *testing.T) {
	seen := map[string][2]int{}
	for a := range 40 {
		for b := range 40 {
			got := Told(zeros(a), zeros(b))
			if x, is := seen[got]; is {
				t.Errorf("P6.1: %d and %d bytes 0 are told as %d and %d are", a, b, x[0], x[1])
			}
			seen[got] = [2]int{a, b}
		}
	}
}

func TestKnownSeals(t *testing.T) {
	for i, x := range examples() {
		key, nonce, beside, sealed := fromSixteens(t, x.key), fromSixteens(t, x.nonce), fromSixteens(t, x.beside), fromSixteens(t, x.sealed)
		if got, e := Seal(key, nonce, beside, x.s); got != sealed || e != api.OK {
			t.Errorf("P6.2: %d: Seal = %x, %d, want %x", i, got, e, sealed)
		}
		if got, e := Open(key, nonce, beside, sealed); got != x.s || e != api.OK {
			t.Errorf("P6.3: %d: Open = %q, %d, want %q", i, got, e, x.s)
		}
	}
}

func TestSeal(t *testing.T) {
	for _, size := range sizes() {
		for _, n := range few() {
			for _, x := range [][2]string{{drawn(n, size), drawn(size, n)}, {drawn(size, n), drawn(n, size)}, {zeros(n), zeros(size)}} {
				key, nonce := drawn(32, size+n), drawn(12, size-n)
				got, e := Seal(key, nonce, x[0], x[1])
				if want := sealOf(t, key, nonce, x[0], x[1]); got != want || e != api.OK {
					t.Fatalf("P6.2: Seal of %d and %d bytes = %x, %d, want %x", len(x[0]), len(x[1]), got, e, want)
				}
			}
		}
	}
}

func TestSealOfWrongKeys(t *testing.T) {
	for _, x := range wrong() {
		// Once's error is named first: texts that are too long change nothing in it.
		for _, n := range []int{0, 3, 4000, 4001, 100000} {
			for _, size := range []int{0, 3, 4000, 4001, 100000} {
				if got, e := Seal(x[0], x[1], zeros(n), zeros(size)); got != "" || e != api.ErrArg {
					t.Errorf("P6.2: Seal of a key of %d bytes, a nonce of %d, %d and %d bytes = %x, %d, want none and ErrArg", len(x[0]), len(x[1]), n, size, got, e)
				}
			}
		}
	}
}

func TestSealOfLongTexts(t *testing.T) {
	key, nonce := drawn(32, 5), drawn(12, 6)
	for _, n := range wrongSizes() {
		for _, x := range [][2]string{{zeros(n), ""}, {zeros(n), zeros(4000)}, {"", zeros(n)}, {zeros(4000), zeros(n)}, {zeros(n), zeros(n)}} {
			if got, e := Seal(key, nonce, x[0], x[1]); got != "" || e != api.ErrLimit {
				t.Errorf("P6.2: Seal of %d and %d bytes has %d, %d, want none and ErrLimit", len(x[0]), len(x[1]), len(got), e)
			}
		}
	}
}

func TestOpen(t *testing.T) {
	for _, size := range sizes() {
		for _, n := range few() {
			key, nonce, beside, s := drawn(32, size), drawn(12, n), drawn(n, size), drawn(size, n)
			sealed := sealOf(t, key, nonce, beside, s)
			if got, e := Open(key, nonce, beside, sealed); got != s || e != api.OK {
				t.Fatalf("P6.3: Open of %d and %d bytes = %x, %d, want %x", n, len(sealed), got, e, s)
			}
		}
	}
}

func TestOpenOfWrongKeys(t *testing.T) {
	sealed := sealOf(t, drawn(32, 1), drawn(12, 2), "beside", "text")
	for _, x := range wrong() {
		// Once's error is named first, ahead of ErrLimit and of ErrOpen.
		for _, s := range []string{sealed, "", "abc", zeros(16), zeros(4016), zeros(4017), zeros(100000)} {
			for _, beside := range []string{"beside", "", zeros(4001)} {
				if got, e := Open(x[0], x[1], beside, s); got != "" || e != api.ErrArg {
					t.Errorf("P6.3: Open of a key of %d bytes, a nonce of %d, %d and %d bytes = %x, %d, want none and ErrArg", len(x[0]), len(x[1]), len(beside), len(s), got, e)
				}
			}
		}
	}
}

func TestOpenOfLongTexts(t *testing.T) {
	key, nonce := drawn(32, 7), drawn(12, 8)
	for _, n := range wrongSizes() {
		// ErrLimit is named ahead of ErrOpen: what is sealed may be too short for a tag, or have none that fits.
		for _, size := range []int{0, 1, 15, 16, 17, 4016, 4017} {
			if got, e := Open(key, nonce, zeros(n), drawn(size, n)); got != "" || e != api.ErrLimit {
				t.Errorf("P6.3: Open of %d and %d bytes = %x, %d, want none and ErrLimit", n, size, got, e)
			}
		}
	}
	for _, size := range []int{4017, 4018, 8000, 8200, 8216, 100000} {
		for _, n := range []int{0, 1, 4000} {
			if got, e := Open(key, nonce, zeros(n), drawn(size, n)); got != "" || e != api.ErrLimit {
				t.Errorf("P6.3: Open of %d and %d bytes = %x, %d, want none and ErrLimit", n, size, got, e)
			}
		}
	}
}

// Texts that are one byte too long are refused by their length, though their tag fits.
func TestOpenOfLongTextsWhoseTagFits(t *testing.T) {
	key, nonce := drawn(32, 9), drawn(12, 10)
	hidden := drawn(4001, 11)
	if got, e := Open(key, nonce, "", hidden+markOf(t, key, nonce, "", hidden)); got != "" || e != api.ErrLimit {
		t.Errorf("P6.3: Open of 4017 bytes = %x, %d, want none and ErrLimit", got, e)
	}
	beside := drawn(4001, 12)
	if got, e := Open(key, nonce, beside, hidden[:5]+markOf(t, key, nonce, beside, hidden[:5])); got != "" || e != api.ErrLimit {
		t.Errorf("P6.3: Open beside 4001 bytes = %x, %d, want none and ErrLimit", got, e)
	}
}

// What is as long as it may be is asked for its tag.
func TestOpenAtTheLimits(t *testing.T) {
	key, nonce := drawn(32, 13), drawn(12, 14)
	for _, n := range []int{0, 3999, 4000} {
		for _, size := range []int{16, 17, 4015, 4016} {
			refused(t, "drawn bytes", key, nonce, drawn(n, 15), drawn(size, 16))
		}
	}
}

func TestOpenOfShortTexts(t *testing.T) {
	key, nonce := drawn(32, 17), drawn(12, 18)
	refused(t, "abc", key, nonce, "", "abc")
	for _, beside := range []string{"", "a", zeros(16), drawn(4000, 19)} {
		end := sealOf(t, key, nonce, beside, "")
		for n := range 16 {
			refused(t, "bytes 0", key, nonce, beside, zeros(n))
			refused(t, "a tag's beginning", key, nonce, beside, end[:n])
			refused(t, "a tag's end", key, nonce, beside, end[16-n:])
		}
		if got, e := Open(key, nonce, beside, end); got != "" || e != api.OK {
			t.Errorf("P6.3: Open of a tag alone = %x, %d, want none and OK", got, e)
		}
	}
}

// Each digit of what is sealed, and of what it is sealed by, plays a part.
func TestOpenOfTurnedDigits(t *testing.T) {
	whole := [4]string{drawn(32, 20), drawn(12, 21), drawn(20, 22), ""}
	whole[3] = sealOf(t, whole[0], whole[1], whole[2], drawn(37, 23))
	for which, s := range whole {
		for i := range 8 * len(s) {
			b := []byte(s)
			b[i/8] ^= 1 << (i % 8)
			x := whole
			x[which] = string(b)
			refused(t, "a digit is turned", x[0], x[1], x[2], x[3])
		}
	}
}

// Bytes that are missing, are there twice, or stand elsewhere, make another text.
func TestOpenOfOtherTexts(t *testing.T) {
	for _, size := range []int{0, 1, 15, 16, 17, 32, 40} {
		key, nonce, beside, s := drawn(32, size), drawn(12, size), "beside", drawn(size, size)
		sealed := sealOf(t, key, nonce, beside, s)
		hidden, end := sealed[:size], sealed[size:]
		for _, x := range []string{"", "besid", "eside", "beside\x00", "\x00beside", "Beside", "besides", "beside" + hidden + "x", paddedOf(beside)} {
			refused(t, "another beside", key, nonce, x, sealed)
		}
		for _, x := range []string{end + hidden + "x", hidden + "\x00" + end, "\x00" + sealed, sealed + "\x00", sealed + sealed, sealed[1:], sealed[:len(sealed)-1], hidden, s, s + "x" + end} {
			refused(t, "another text", key, nonce, beside, x)
		}
		refused(t, "a byte over to beside", key, nonce, beside+sealed[:1], sealed[1:])
		refused(t, "a byte over from beside", key, nonce, beside[:5], beside[5:]+sealed)
		refused(t, "another key", drawn(32, 99), nonce, beside, sealed)
		refused(t, "another nonce", key, drawn(12, 99), beside, sealed)
	}
}

// A tag is made of what is told: not of the texts one behind the other, nor by another block than the first.
func TestOpenOfOtherTags(t *testing.T) {
	key, nonce, beside := drawn(32, 24), drawn(12, 25), "beside"
	hidden, _ := stream.Crypt(key, nonce, 1, "a text")
	first, _ := stream.Block(key, nonce, 0)
	second, _ := stream.Block(key, nonce, 1)
	for _, x := range [][2]string{
		{first[:32], beside + hidden}, {first[:32], toldOf(hidden, beside)}, {first[:32], toldOf(beside, "a text")},
		{first[32:], toldOf(beside, hidden)}, {second[:32], toldOf(beside, hidden)}, {key, toldOf(beside, hidden)},
	} {
		end, _ := tag.Tag(x[0], x[1])
		refused(t, "another tag", key, nonce, beside, hidden+end)
	}
}

func TestSealedIsOpened(t *testing.T) {
	for _, size := range sizes() {
		for _, n := range few() {
			key, nonce, beside, s := drawn(32, size+1), drawn(12, n+1), drawn(n, size+2), drawn(size, n+2)
			sealed, e := Seal(key, nonce, beside, s)
			if e != api.OK || len(sealed) != size+16 {
				t.Fatalf("P6.4: Seal of %d and %d bytes has %d, %d, want %d", n, size, len(sealed), e, size+16)
			}
			opened, e := Open(key, nonce, beside, sealed)
			if opened != s || e != api.OK {
				t.Fatalf("P6.4: Open of Seal of %d and %d bytes = %x, %d, want %x", n, size, opened, e, s)
			}
			if again, e := Seal(key, nonce, beside, opened); again != sealed || e != api.OK {
				t.Fatalf("P6.4: Seal of what was opened = %x, %d, want %x", again, e, sealed)
			}
		}
	}
}

// What is opened was not made by Seal here: any hidden bytes are, if their tag fits.
func TestOpenedIsSealed(t *testing.T) {
	for _, size := range sizes() {
		key, nonce, beside, hidden := drawn(32, size+3), drawn(12, size+4), drawn(size, size+5), drawn(size, size+6)
		sealed := hidden + markOf(t, key, nonce, beside, hidden)
		opened, e := Open(key, nonce, beside, sealed)
		if e != api.OK || len(opened) != size {
			t.Fatalf("P6.4: Open of %d bytes = %x, %d", len(sealed), opened, e)
		}
		if again, e := Seal(key, nonce, beside, opened); again != sealed || e != api.OK {
			t.Fatalf("P6.4: Seal of what was opened = %x, %d, want %x", again, e, sealed)
		}
	}
}

func TestAnotherLastByte(t *testing.T) {
	for _, size := range []int{0, 1, 16, 64, 4000} {
		key, nonce, beside := drawn(32, size+7), drawn(12, size+8), drawn(size, size+9)
		sealed, _ := Seal(key, nonce, beside, drawn(size, size+10))
		for d := 1; d < 256; d++ {
			b := []byte(sealed)
			b[len(b)-1] ^= byte(d)
			refused(t, "another last byte", key, nonce, beside, string(b))
		}
	}
}

// Each call answers the same again, whatever was asked between, and leaves what is handed in (R2).
func TestNothingIsKept(t *testing.T) {
	key, nonce, beside, s := drawn(32, 26), drawn(12, 27), drawn(50, 28), drawn(200, 29)
	sealed, _ := Seal(key, nonce, beside, s)
	once, _ := Once(key, nonce)
	Seal(drawn(32, 30), nonce, beside, s)
	Open(key, drawn(12, 31), beside, sealed)
	Told(s, beside)
	Seal("", "", "", "")
	again, _ := Seal(key, nonce, beside, s)
	onceAgain, _ := Once(key, nonce)
	opened, e := Open(key, nonce, beside, sealed)
	if again != sealed || onceAgain != once || opened != s || e != api.OK {
		t.Error("P6.1, P6.2, P6.3: a call answers otherwise when it is asked again")
	}
	if key != drawn(32, 26) || nonce != drawn(12, 27) || beside != drawn(50, 28) || s != drawn(200, 29) {
		t.Error("P6.2, P6.3: what was handed in is changed")
	}
}
