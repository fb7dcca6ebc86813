package tree

import (
	"crypto/sha256"
	"encoding/hex"
	"encoding/json"
	"fmt"
	"math"
	"math/rand"
	"os"
	"os/exec"
	"path/filepath"
	"slices"
	"strings"
	"sync"
	"syscall"
	"testing"
	"unsafe"

	"keyhole/api"
	"keyhole/digest"
)

// longest is how many bytes a text may have whose Leaf is not none.
const longest = 999999999

// sha is the Sum of s, if s is not too long, by the library.
func sha(s string) string {
	if len(s) > 1000000000 {
		return ""
	}
	sum := sha256.Sum256([]byte(s))
	return string(sum[:])
}

// model is what chapter 11 tells, as it is written, by any Sum: each digest is asked of its half rows anew.
type model struct {
	sum func(string) string
}

var strong = model{sha}

// under is the text whose Sum is the digest above the texts l.
func (m model) under(l []string) string {
	if len(l) == 1 {
		return "\x00" + l[0]
	}
	half := len(l) / 2
	return "\x01" + m.root(l[:half]) + m.root(l[half:])
}

func (m model) root(l []string) string {
	return m.sum(m.under(l))
}

func (m model) path(l []string, i int) []string {
	half := len(l) / 2
	switch {
	case half == 0:
		return nil
	case i < half:
		return append(m.path(l[:half], i), m.root(l[half:]))
	default:
		return append(m.path(l[half:], i-half), m.root(l[:half]))
	}
}

// top is the text whose Sum is what s climbs to.
func (m model) top(i int, s string, path []string) string {
	if len(path) == 0 {
		return "\x00" + s
	}
	last := len(path) - 1
	if half := 1 << last; i >= half {
		return "\x01" + path[last] + m.climb(i-half, s, path[:last])
	}
	return "\x01" + m.climb(i, s, path[:last]) + path[last]
}

func (m model) climb(i int, s string, path []string) string {
	return m.sum(m.top(i, s, path))
}

func (m model) mayHaveRoot(l []string) bool {
	return slices.Contains([]int{1, 2, 4, 8, 16, 32, 64, 128, 256, 512, 1024}, len(l))
}

func (m model) collide(l, o []string) (string, string, bool) {
	if len(l) != len(o) || !m.mayHaveRoot(l) || slices.Equal(l, o) || m.root(l) != m.root(o) {
		return "", "", false
	}
	for size := len(l); size > 0; size /= 2 {
		for at := 0; at < len(l); at += size {
			x, y := m.under(l[at:at+size]), m.under(o[at:at+size])
			if x != y {
				return x, y, true
			}
		}
	}
	panic("no such texts")
}

func (m model) trace(l []string, i int, s string, path []string) (string, string, bool) {
	if !m.mayHaveRoot(l) || i < 0 || i >= len(l) || len(path) != len(m.path(l, i)) || l[i] == s {
		return "", "", false
	}
	for _, d := range path {
		if len(d) != 32 {
			return "", "", false
		}
	}
	if m.climb(i, s, path) != m.root(l) {
		return "", "", false
	}
	for n := len(path); n >= 0; n-- {
		size := 1 << n
		at := i / size * size
		x, y := m.under(l[at:at+size]), m.top(i-at, s, path[:n])
		if x != y {
			return x, y, true
		}
	}
	panic("no such texts")
}

// drawn are n bytes, by r.
func drawn(r *rand.Rand, n int) string {
	b := make([]byte, n)
	r.Read(b)
	return string(b)
}

// row are n texts of up to 80 bytes, by r, some of them the same.
func row(r *rand.Rand, n int) []string {
	l := make([]string, n)
	for i := range l {
		l[i] = drawn(r, r.Intn(80))
		if r.Intn(4) == 0 {
			l[i] = l[r.Intn(i+1)]
		}
	}
	return l
}

// with is l with s at place i.
func with(l []string, i int, s string) []string {
	l = slices.Clone(l)
	l[i] = s
	return l
}

// sizes are how many texts a row may have that has a root.
func sizes() []int {
	return []int{1, 2, 4, 8, 16, 32, 64, 128, 256, 512, 1024}
}

// wrongSizes are how many texts a row has that has none.
func wrongSizes() []int {
	l := []int{0}
	for n := 1; n <= 1025; n++ {
		if !slices.Contains(sizes(), n) {
			l = append(l, n)
		}
	}
	return append(l, 1536, 2047, 2048, 4096, 65536, 66560)
}

// wrongPlaces are no places of a row of n texts.
func wrongPlaces(n int) []int {
	return []int{-1, -2, -n, n, n + 1, 2 * n, 1 << 20, 1 << 32, math.MaxInt, math.MaxInt - 1, math.MinInt, math.MinInt + 1}
}

var zeros = sync.OnceValues(func() (string, error) {
	b, err := syscall.Mmap(-1, 0, longest+4, syscall.PROT_READ, syscall.MAP_ANON|syscall.MAP_PRIVATE)
	return unsafe.String(unsafe.SliceData(b), len(b)), err
})

// longText is a text of n bytes 0. (It is also what Leaf is the Sum of for one that has a byte less.)
func longText(t *testing.T, n int) string {
	t.Helper()
	s, err := zeros()
	if err != nil {
		t.Skip("no room for a text that is so long: ", err)
	}
	return s[:n]
}

// shown is a text as it is told in a fault: its beginning, and how long it is.
func shown(s string) string {
	return fmt.Sprintf("%q of %d bytes", s[:min(len(s), 70)], len(s))
}

func wantRoot(t *testing.T, l []string, want string) {
	t.Helper()
	if got, e := Root(l); got != want || e != api.OK {
		t.Errorf("P11.1: Root of %d texts = %x, error %d, want %x", len(l), got, e, want)
	}
}

func wantNoRoot(t *testing.T, l []string) {
	t.Helper()
	if got, e := Root(l); got != "" || e != api.ErrArg {
		t.Errorf("P11.1: Root of %d texts = %x, error %d, want ErrArg", len(l), got, e)
	}
}

func wantPath(t *testing.T, l []string, i int, want []string) {
	t.Helper()
	if got, e := Path(l, i); !slices.Equal(got, want) || e != api.OK {
		t.Errorf("P11.1: Path of %d texts, of %d = %x, error %d, want %x", len(l), i, got, e, want)
	}
}

func wantNoPath(t *testing.T, l []string, i int) {
	t.Helper()
	if got, e := Path(l, i); len(got) != 0 || e != api.ErrArg {
		t.Errorf("P11.1: Path of %d texts, of %d = %x, error %d, want ErrArg", len(l), i, got, e)
	}
}

// wantClimb asks both calls that climb.
func wantClimb(t *testing.T, i int, s string, path []string, want string) {
	t.Helper()
	if got, e := Climb(i, s, path); got != want || e != api.OK {
		t.Errorf("P11.2: Climb of %d, %s, %d = %x, error %d, want %x", i, shown(s), len(path), got, e, want)
	}
	if !Check(want, i, s, path) {
		t.Errorf("P11.2: Check of %x, %d, %s, %d is false", want, i, shown(s), len(path))
	}
}

// wantNoClimb asks both calls that climb: there is an error, and no root fits it, none neither.
func wantNoClimb(t *testing.T, i int, s string, path []string) {
	t.Helper()
	if got, e := Climb(i, s, path); got != "" || e != api.ErrArg {
		t.Errorf("P11.2: Climb of %d, %s, %d = %x, error %d, want ErrArg", i, shown(s), len(path), got, e)
	}
	for _, root := range []string{"", Leaf(s), strings.Repeat("\x00", 32)} {
		wantNoCheck(t, root, i, s, path)
	}
}

func wantNoCheck(t *testing.T, root string, i int, s string, path []string) {
	t.Helper()
	if Check(root, i, s, path) {
		t.Errorf("P11.2: Check of %x, %d, %s, %d is true", root, i, shown(s), len(path))
	}
}

// wantCollide asks both ways round.
func wantCollide(t *testing.T, l, m []string, x, y string, ok bool) {
	t.Helper()
	if a, b, got := Collide(l, m); a != x || b != y || got != ok {
		t.Errorf("P11.3: Collide of %d and %d texts = %s, %s, %t, want %s, %s, %t", len(l), len(m), shown(a), shown(b), got, shown(x), shown(y), ok)
	}
	if b, a, got := Collide(m, l); a != x || b != y || got != ok {
		t.Errorf("P11.3: Collide, turned, of %d and %d texts = %s, %s, %t, want %s, %s, %t", len(m), len(l), shown(b), shown(a), got, shown(y), shown(x), ok)
	}
}

func wantNoCollide(t *testing.T, l, m []string) {
	t.Helper()
	wantCollide(t, l, m, "", "", false)
}

func wantTrace(t *testing.T, l []string, i int, s string, path []string, x, y string, ok bool) {
	t.Helper()
	if a, b, got := Trace(l, i, s, path); a != x || b != y || got != ok {
		t.Errorf("P11.3: Trace of %d texts, %d, %s, %d = %s, %s, %t, want %s, %s, %t", len(l), i, shown(s), len(path), shown(a), shown(b), got, shown(x), shown(y), ok)
	}
}

func wantNoTrace(t *testing.T, l []string, i int, s string, path []string) {
	t.Helper()
	wantTrace(t, l, i, s, path, "", "", false)
}

func TestExamples(t *testing.T) {
	l := []string{"a", "b"}
	wantRoot(t, l, Node(Leaf("a"), Leaf("b")))
	wantPath(t, l, 1, []string{Leaf("a")})
	wantClimb(t, 1, "b", []string{Leaf("a")}, Node(Leaf("a"), Leaf("b")))
	wantNoRoot(t, []string{"a", "b", "c"})
	wantNoPath(t, []string{"a", "b", "c"}, 0)
}

// RFC 6962 (2.1) makes its trees in the same way; these are the texts and roots of its known examples.
func TestKnownRoots(t *testing.T) {
	var l []string
	for _, s := range []string{"", "00", "10", "2021", "3031", "40414243", "5051525354555657", "606162636465666768696a6b6c6d6e6f"} {
		b, _ := hex.DecodeString(s)
		l = append(l, string(b))
	}
	for n, want := range map[int]string{
		1: "6e340b9cffb37a989ca544e6bb780a2c78901d3fb33738768511a30617afa01d",
		2: "fac54203e7cc696cf0dfcb42c92a1d9dbaf70ad9e621f4bd8d98662f00e3c125",
		4: "d37ee418976dd95753c1c73862b9398fa2a2cf9b4ff0fdfe8b30cd95209614b7",
		8: "5dc9da79a70659a9ad559cb701ded9a2ab9d823aad2f4960cfe370eff4604328",
	} {
		root, _ := hex.DecodeString(want)
		wantRoot(t, l[:n], string(root))
	}
}

func TestLeafAndNode(t *testing.T) {
	r := rand.New(rand.NewSource(1101))
	for n := range 200 {
		s, a, b := drawn(r, n), drawn(r, r.Intn(100)), drawn(r, r.Intn(100))
		if got, want := Leaf(s), sha("\x00"+s); got != want {
			t.Errorf("P11.1: Leaf(%q) = %x, want %x", s, got, want)
		}
		if got, want := Node(a, b), sha("\x01"+a+b); got != want {
			t.Errorf("P11.1: Node(%q, %q) = %x, want %x", a, b, got, want)
		}
		if Leaf(a+b) == Node(a, b) {
			t.Errorf("P11.1: Leaf and Node of %q and %q are the same", a, b)
		}
	}
	for _, c := range [][3]string{{Leaf(""), "\x00"}, {Node("", ""), "\x01"}, {Leaf("\x00"), "\x00\x00"}, {Leaf("\x01"), "\x00\x01"}, {Node("\x00", ""), "\x01\x00"}, {Node("", "\x01"), "\x01\x01"}} {
		if c[0] != sha(c[1]) {
			t.Errorf("P11.1: there is %x, want the Sum of %x", c[0], c[1])
		}
	}
}

func TestLongLeaves(t *testing.T) {
	s := longText(t, longest+1)
	want := sha256.Sum256(unsafe.Slice(unsafe.StringData(s), len(s)))
	if got := Leaf(s[1:]); got != string(want[:]) {
		t.Errorf("P11.1: Leaf of %d bytes = %x, want %x", longest, got, want)
	}
	if got := Leaf(s); got != "" {
		t.Errorf("P11.1: Leaf of %d bytes = %x, want none", longest+1, got)
	}
}

// A text that is too long has none as its Leaf, which is as any other digest below a Node, but is none of a Path.
func TestRowsOfLongTexts(t *testing.T) {
	long := longText(t, longest+1)
	wantRoot(t, []string{"a", long}, sha("\x01"+sha("\x00a")))
	wantPath(t, []string{"a", long}, 0, []string{""})
	wantNoClimb(t, 0, "a", []string{""})
	if got, e := Climb(0, long, nil); got != "" || e != api.OK {
		t.Errorf("P11.2: Climb of a long text = %x, error %d, want none and no error", got, e)
	}
}

func TestRootAndPath(t *testing.T) {
	r := rand.New(rand.NewSource(1102))
	for _, n := range sizes() {
		for range 1 + 64/n {
			l := row(r, n)
			wantRoot(t, l, strong.root(l))
			for range min(n, 40) {
				i := r.Intn(n)
				wantPath(t, l, i, strong.path(l, i))
			}
			for _, i := range []int{0, n / 2, max(0, n/2-1), n - 1} {
				wantPath(t, l, i, strong.path(l, i))
			}
		}
		wantRoot(t, make([]string, n), strong.root(make([]string, n)))
	}
}

func TestAllPathsOfSmallRows(t *testing.T) {
	r := rand.New(rand.NewSource(1103))
	for _, n := range []int{1, 2, 4, 8, 16, 32} {
		l := row(r, n)
		for i := range n {
			wantPath(t, l, i, strong.path(l, i))
		}
	}
}

func TestNoRoot(t *testing.T) {
	wantNoRoot(t, nil)
	for _, n := range wrongSizes() {
		l := make([]string, n)
		wantNoRoot(t, l)
		for _, i := range append(wrongPlaces(n), 0, 1, n/2, n-1) {
			wantNoPath(t, l, i)
		}
	}
}

func TestNoPlace(t *testing.T) {
	r := rand.New(rand.NewSource(1104))
	for _, n := range sizes() {
		l := row(r, n)
		for _, i := range wrongPlaces(n) {
			wantNoPath(t, l, i)
		}
	}
}

// The partners need not be those of a row: any digests are climbed by.
func TestClimb(t *testing.T) {
	r := rand.New(rand.NewSource(1105))
	for n := range 11 {
		path := make([]string, n)
		for k := range path {
			path[k] = drawn(r, 32)
		}
		for i := range 1 << n {
			s := drawn(r, r.Intn(100))
			wantClimb(t, i, s, path, strong.climb(i, s, path))
		}
		for _, i := range wrongPlaces(1 << n) {
			wantNoClimb(t, i, "a text", path)
		}
	}
	same := slices.Repeat([]string{strings.Repeat("\x00", 32)}, 10)
	for i := range 1024 {
		wantClimb(t, i, "", same, strong.climb(i, "", same))
	}
}

func TestClimbOfWrongPaths(t *testing.T) {
	r := rand.New(rand.NewSource(1106))
	for _, n := range []int{11, 12, 16, 31, 32, 63, 64, 65, 1000} {
		path := slices.Repeat([]string{drawn(r, 32)}, n)
		for _, i := range []int{0, 1, 1023, 1024, 2047, -1, math.MaxInt, math.MinInt} {
			wantNoClimb(t, i, "a text", path)
		}
	}
	for n := 1; n <= 10; n++ {
		path := slices.Repeat([]string{drawn(r, 32)}, n)
		for k := range path {
			for _, size := range []int{0, 1, 16, 31, 33, 64, 4000} {
				wantNoClimb(t, r.Intn(1<<n), "a text", with(path, k, drawn(r, size)))
			}
		}
		wantNoClimb(t, 0, "a text", make([]string, n))
	}
}

func TestCheck(t *testing.T) {
	r := rand.New(rand.NewSource(1107))
	for range 300 {
		n := r.Intn(11)
		path := make([]string, n)
		for k := range path {
			path[k] = drawn(r, 32)
		}
		i, s := r.Intn(1<<n), drawn(r, r.Intn(50))
		root := strong.climb(i, s, path)
		if !Check(root, i, s, path) {
			t.Errorf("P11.2: Check of %d, %q, %d is false", i, s, n)
		}
		for at := range 32 {
			turned := []byte(root)
			turned[at] ^= 1 << r.Intn(8)
			wantNoCheck(t, string(turned), i, s, path)
		}
		for _, wrong := range []string{"", root[:31], root[1:], root + "\x00", root + root, hex.EncodeToString([]byte(root))} {
			wantNoCheck(t, wrong, i, s, path)
		}
		wantNoCheck(t, root, i, s+"\x00", path)
		wantNoCheck(t, root, i+1<<n, s, path)
		wantNoCheck(t, root, i-1<<n, s, path)
		wantNoCheck(t, root, i, s, append(slices.Clone(path), drawn(r, 32)))
		for k := range path {
			wantNoCheck(t, root, i^1<<k, s, path)
			wantNoCheck(t, root, i, s, with(path, k, drawn(r, 32)))
			wantNoCheck(t, root, i, s, slices.Delete(slices.Clone(path), k, k+1))
		}
	}
}

// What stands at a Node is no text that may be there: a row is not another one that is half as long.
func TestNodesAreNoLeaves(t *testing.T) {
	l := []string{"a", "b", "c", "d"}
	root, _ := Root(l)
	ab, cd := Node(Leaf("a"), Leaf("b")), Node(Leaf("c"), Leaf("d"))
	for _, s := range []string{ab + cd, "\x01" + ab + cd, ab, Leaf("a") + Leaf("b"), "\x00" + Leaf("a") + Leaf("b")} {
		wantNoCheck(t, root, 0, s, nil)
		wantNoCheck(t, root, 0, s, []string{cd})
		wantNoCheck(t, root, 1, s, []string{ab})
		wantNoTrace(t, l, 0, s, nil)
		wantNoTrace(t, l, 0, s, []string{cd})
		wantNoTrace(t, l, 0, s, []string{Leaf("b"), cd})
	}
	wantNoCollide(t, l, []string{ab, cd})
	wantNoCollide(t, l, []string{Leaf("a") + Leaf("b"), Leaf("c") + Leaf("d")})
}

func TestEachTextClimbs(t *testing.T) {
	r := rand.New(rand.NewSource(1108))
	for _, n := range sizes() {
		l := row(r, n)
		root, e := Root(l)
		if e != api.OK || len(root) != 32 {
			t.Fatalf("P11.1: Root of %d texts: %x, error %d", n, root, e)
		}
		for range min(n, 60) {
			i := r.Intn(n)
			path, e := Path(l, i)
			if e != api.OK || 1<<len(path) != n {
				t.Errorf("P11.1: Path of %d texts, of %d: %d, error %d", n, i, len(path), e)
			}
			wantClimb(t, i, l[i], path, root)
			wantNoTrace(t, l, i, l[i], path)
			other := drawn(r, 81)
			wantNoCheck(t, root, i, other, path)
			wantNoTrace(t, l, i, other, path)
		}
	}
}

func TestNoCollide(t *testing.T) {
	r := rand.New(rand.NewSource(1109))
	wantNoCollide(t, nil, nil)
	wantNoCollide(t, nil, []string{})
	for _, n := range sizes() {
		l := row(r, n)
		wantNoCollide(t, l, l)
		wantNoCollide(t, l, slices.Clone(l))
		wantNoCollide(t, l, row(r, n))
		wantNoCollide(t, l, with(l, r.Intn(n), "another text"))
		wantNoCollide(t, l, nil)
		wantNoCollide(t, l, l[:n/2])
		wantNoCollide(t, l, append(slices.Clone(l), ""))
		wantNoCollide(t, l, row(r, 2*n))
		turned := slices.Clone(l)
		slices.Reverse(turned)
		if !slices.Equal(l, turned) {
			wantNoCollide(t, l, turned)
		}
	}
	for _, n := range []int{0, 3, 5, 6, 7, 1023, 1025, 2048} {
		wantNoCollide(t, make([]string, n), slices.Repeat([]string{"a"}, n))
		wantNoCollide(t, make([]string, n), make([]string, n))
	}
}

func TestNoTrace(t *testing.T) {
	r := rand.New(rand.NewSource(1110))
	for _, n := range sizes() {
		l := row(r, n)
		i := r.Intn(n)
		path := strong.path(l, i)
		wantNoTrace(t, l, i, l[i], path)
		wantNoTrace(t, l, i, "another text", path)
		wantNoTrace(t, l, i, "another text", append(slices.Clone(path), drawn(r, 32)))
		for k := range path {
			wantNoTrace(t, l, i, l[i], with(path, k, drawn(r, 32)))
			wantNoTrace(t, l, i, "another text", path[:k])
			wantNoTrace(t, l, i, "another text", with(path, k, ""))
		}
		for _, i := range wrongPlaces(n) {
			wantNoTrace(t, l, i, "another text", path)
		}
	}
	for _, n := range wrongSizes() {
		for _, i := range append(wrongPlaces(n), 0, 1) {
			wantNoTrace(t, make([]string, n), i, "a text", nil)
			wantNoTrace(t, make([]string, n), i, "a text", slices.Repeat([]string{drawn(r, 32)}, 10))
		}
	}
}

// Texts that are too long have none as their Leaf, all of them the same: these are unlike texts with one Leaf.
func TestCollideAndTraceOfLongTexts(t *testing.T) {
	a, b := longText(t, longest+1), longText(t, longest+2)
	x, y := longText(t, longest+2), longText(t, longest+3)
	if c, d, ok := Collide([]string{"x", a}, []string{"x", b}); c != x || d != y || !ok {
		t.Errorf("P11.3: Collide of long texts = %s, %s, %t", shown(c), shown(d), ok)
	}
	wantTrace(t, []string{a}, 0, b, nil, x, y, true)
	wantNoTrace(t, nil, 0, a, nil)
}

// What comes out is new, and what is handed in stays as it is.
func TestListsAreNew(t *testing.T) {
	r := rand.New(rand.NewSource(1111))
	for _, n := range sizes() {
		l, i := row(r, n), r.Intn(n)
		kept := slices.Clone(l)
		path, _ := Path(l, i)
		again, _ := Path(l, i)
		keptPath := slices.Clone(path)
		Root(l)
		Climb(i, l[i], path)
		Check("", i, l[i], path)
		Collide(l, with(l, i, "another text"))
		Trace(l, i, "another text", path)
		if !slices.Equal(l, kept) || !slices.Equal(path, keptPath) {
			t.Errorf("R2: of %d texts some list that was handed in is another one", n)
		}
		clear(path)
		if !slices.Equal(l, kept) || !slices.Equal(again, keptPath) {
			t.Errorf("R2: of %d texts some lists share their memory", n)
		}
		wantPath(t, l, i, keptPath)
	}
}

// What a call answers hangs on its arguments alone, whoever else calls.
func TestAtOnce(t *testing.T) {
	var all sync.WaitGroup
	for k := range 8 {
		all.Go(func() {
			r := rand.New(rand.NewSource(int64(1200 + k)))
			for range 30 {
				l := row(r, 1<<r.Intn(7))
				i := r.Intn(len(l))
				wantRoot(t, l, strong.root(l))
				wantPath(t, l, i, strong.path(l, i))
				wantClimb(t, i, l[i], strong.path(l, i), strong.root(l))
			}
		})
	}
	all.Wait()
}

// weakSource is a digest of which unlike texts often have one Sum.
const weakSource = `package digest

import (
	"crypto/sha256"
	"strings"
)

func Sum(s string) string {
	sum := sha256.Sum256([]byte(s))
	return strings.Repeat(string([]byte{sum[0] % 3}), 32)
}

func Same(a, b string) bool { return a == b }
`

// weak is chapter 11 by the Sum that there is, if that is the weak one.
func weak(t *testing.T) model {
	t.Helper()
	if digest.Sum("abc") == sha("abc") {
		t.Skip("TestByWeakSums runs this one")
	}
	return model{digest.Sum}
}

// Of a Sum by which texts collide nothing is known but the weak one: these tests are run again, by it.
func TestByWeakSums(t *testing.T) {
	if digest.Sum("abc") != sha("abc") {
		t.Skip("this is the run by weak Sums")
	}
	dir := t.TempDir()
	source := filepath.Join(dir, "weak.go")
	if err := os.WriteFile(source, []byte(weakSource), 0o600); err != nil {
		t.Fatal(err)
	}
	files, err := filepath.Glob(filepath.Join("..", "digest", "*.go"))
	if err != nil || len(files) == 0 {
		t.Fatalf("there is no package digest: %v", err)
	}
	replace := map[string]string{}
	for i, f := range files {
		full, err := filepath.Abs(f)
		if err != nil {
			t.Fatal(err)
		}
		replace[full] = "" // as if it were not there
		if i == 0 {
			replace[full] = source
		}
	}
	told, err := json.Marshal(map[string]map[string]string{"Replace": replace})
	if err != nil {
		t.Fatal(err)
	}
	overlay := filepath.Join(dir, "overlay.json")
	if err := os.WriteFile(overlay, told, 0o600); err != nil {
		t.Fatal(err)
	}
	out, err := exec.Command("go", "test", "-vet=off", "-count=1", "-v", "-run", "^TestWeak", "-overlay", overlay, ".").CombinedOutput()
	if err != nil {
		t.Fatalf("by weak Sums: %v\n%s", err, out)
	}
	for _, name := range []string{"TestWeakRoots", "TestWeakCollide", "TestWeakTrace"} {
		if !strings.Contains(string(out), "--- PASS: "+name) {
			t.Errorf("by weak Sums %s did not run:\n%s", name, out)
		}
	}
}

// letters are n texts of few letters, by r.
func letters(r *rand.Rand, n int) []string {
	l := make([]string, n)
	for i := range l {
		l[i] = strings.Repeat(string(rune('a'+r.Intn(5))), r.Intn(4))
	}
	return l
}

func TestWeakRoots(t *testing.T) {
	m := weak(t)
	r := rand.New(rand.NewSource(1112))
	for range 2000 {
		l := letters(r, 1<<r.Intn(5))
		i := r.Intn(len(l))
		wantRoot(t, l, m.root(l))
		wantPath(t, l, i, m.path(l, i))
		wantClimb(t, i, l[i], m.path(l, i), m.root(l))
	}
}

// met counts of a row of n texts at which digests what is shown stands.
type met map[string]int

// add tells of x whether it is a Node's or a Leaf's text.
func (m met) add(n int, x string, ok bool) {
	if ok {
		m[fmt.Sprint(n, " ", x[0])]++
	}
}

func wantMet(t *testing.T, m met) {
	t.Helper()
	for _, n := range []int{1, 2, 4, 8, 16} {
		for kind := range 2 {
			if name := fmt.Sprint(n, " ", kind); m[name] < 5 && name != "1 1" {
				t.Errorf("%s are shown %d times: these tests tell nothing of it", name, m[name])
			}
		}
	}
}

func TestWeakCollide(t *testing.T) {
	w := weak(t)
	r := rand.New(rand.NewSource(1113))
	m := met{}
	for range 20000 {
		l := letters(r, 1<<r.Intn(5))
		o := letters(r, len(l))
		for i := range o { // most of them the same, so that some stand below equal Nodes
			if r.Intn(4) > 0 {
				o[i] = l[i]
			}
		}
		x, y, ok := w.collide(l, o)
		wantCollide(t, l, o, x, y, ok)
		m.add(len(l), x, ok)
		if ok && (x == y || digest.Sum(x) != digest.Sum(y)) {
			t.Errorf("P11.4: %q and %q are shown", x, y)
		}
		if root, _ := Root(l); len(l) == len(o) && !slices.Equal(l, o) && !ok && root == w.root(o) {
			t.Errorf("P11.4: of %q and %q nothing is shown", l, o)
		}
	}
	wantMet(t, m)
	wantNoCollide(t, []string{"a", "b", "c"}, []string{"a", "b", "d"})
	wantNoCollide(t, nil, []string{"a"})
}

func TestWeakTrace(t *testing.T) {
	w := weak(t)
	r := rand.New(rand.NewSource(1114))
	m := met{}
	for range 20000 {
		l := letters(r, 1<<r.Intn(5))
		i := r.Intn(len(l))
		s, path := letters(r, 1)[0], w.path(l, i)
		if r.Intn(8) == 0 {
			s = l[i]
		}
		for k := range path {
			if r.Intn(4) == 0 {
				path[k] = digest.Sum(drawn(r, 8))
			}
			if r.Intn(40) == 0 {
				path[k] = drawn(r, 32)
			}
			if r.Intn(40) == 0 {
				path[k] = drawn(r, r.Intn(40))
			}
		}
		x, y, ok := w.trace(l, i, s, path)
		wantTrace(t, l, i, s, path, x, y, ok)
		m.add(len(l), x, ok)
		if ok && (x == y || digest.Sum(x) != digest.Sum(y)) {
			t.Errorf("P11.4: %q and %q are shown", x, y)
		}
		if root, _ := Root(l); !ok && s != l[i] && Check(root, i, s, path) {
			t.Errorf("P11.4: of %q, %d, %q nothing is shown", l, i, s)
		}
		for _, n := range []int{0, 1, 2, 3, 4, 5} { // a path of another length shows nothing, whatever its root
			if n != len(path) {
				wantNoTrace(t, l, i, s, slices.Repeat([]string{digest.Sum(s)}, n))
			}
		}
		if len(l) > 1 { // so does a row that may have no root, though it begins with one that may
			more := append(slices.Clone(l), letters(r, 1+r.Intn(len(l)-1))...)
			wantNoTrace(t, more, i, s, path)
			wantNoCollide(t, more, with(more, i, s))
		}
	}
	wantMet(t, m)
}
