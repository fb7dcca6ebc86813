package platter

import (
	"fmt"
	"math"
	"math/rand"
	"slices"
	"strings"
	"sync"
	"testing"

	"keyhole/api"
)

// model is a disk as the chapter is written, each sector a list of bytes.
type model struct {
	sectors [][]byte
	at      []int
	texts   [][]byte
}

func modelOf(p api.Platter) *model {
	m := &model{}
	for _, s := range p.Sectors {
		m.sectors = append(m.sectors, []byte(s))
	}
	for _, w := range p.Cache {
		m.at = append(m.at, w.At)
		m.texts = append(m.texts, []byte(w.Text))
	}
	return m
}

func (m *model) told() api.Platter {
	var p api.Platter
	for _, s := range m.sectors {
		p.Sectors = append(p.Sectors, string(s))
	}
	for i := range m.at {
		p.Cache = append(p.Cache, api.Put{At: m.at[i], Text: string(m.texts[i])})
	}
	return p
}

// may is the error of the calls that are told a sector and a text.
func (m *model) may(at int, s string) api.Errno {
	if at < 0 || at > len(m.sectors)-1 {
		return api.ErrSector
	}
	if len(s) > 128 {
		return api.ErrLimit
	}
	return api.OK
}

func (m *model) write(at int, s string) api.Errno {
	e := m.may(at, s)
	if e == api.OK && len(m.at) == 100 {
		e = api.ErrFull
	}
	if e == api.OK {
		m.at = append(m.at, at)
		m.texts = append(m.texts, []byte(s))
	}
	return e
}

func (m *model) read(at int) (string, api.Errno) {
	if e := m.may(at, ""); e != api.OK {
		return "", e
	}
	last := m.sectors[at]
	for i, a := range m.at {
		if a == at {
			last = m.texts[i]
		}
	}
	return string(last), api.OK
}

func (m *model) sync() {
	for i, at := range m.at {
		m.sectors[at] = m.texts[i]
	}
	m.at, m.texts = nil, nil
}

func (m *model) crash(fates []int) {
	for i, at := range m.at {
		fate := 0
		if i < len(fates) {
			fate = fates[i]
		}
		if fate < 1 {
			continue
		}
		if fate == 1 {
			m.sectors[at] = m.texts[i]
			continue
		}
		var made []byte
		for j, b := range m.texts[i] {
			if j < fate-2 {
				made = append(made, b)
			}
		}
		for j, b := range m.sectors[at] {
			if j >= fate-2 {
				made = append(made, b)
			}
		}
		m.sectors[at] = made
	}
	m.at, m.texts = nil, nil
}

func (m *model) tamper(at int, s string) api.Errno {
	e := m.may(at, s)
	if e == api.OK {
		m.sectors[at] = []byte(s)
	}
	return e
}

// same tells whether a and b are the same platter.
func same(a, b api.Platter) bool {
	return slices.Equal(a.Sectors, b.Sectors) && slices.Equal(a.Cache, b.Cache)
}

// twin is p in memory of its own.
func twin(p api.Platter) api.Platter {
	return modelOf(p).told()
}

// drawn are n bytes, by r.
func drawn(r *rand.Rand, n int) string {
	b := make([]byte, n)
	r.Read(b)
	return string(b)
}

// letters are n letters that rise from first on, and begin again.
func letters(first byte, n int) string {
	b := make([]byte, n)
	for i := range b {
		b[i] = first + byte(i%20)
	}
	return string(b)
}

// filled is a right platter of n sectors with texts, and puts that wait, by r.
func filled(r *rand.Rand, sectors, puts int) api.Platter {
	var p api.Platter
	for range sectors {
		p.Sectors = append(p.Sectors, drawn(r, r.Intn(129)))
	}
	for range puts {
		p.Cache = append(p.Cache, api.Put{At: r.Intn(sectors), Text: drawn(r, r.Intn(129))})
	}
	return p
}

// of is a platter of these sectors.
func of(sectors ...string) api.Platter {
	return api.Platter{Sectors: sectors}
}

// waiting is p with s waiting for the sector at, behind what waits.
func waiting(p api.Platter, at int, s string) api.Platter {
	p = twin(p)
	p.Cache = append(p.Cache, api.Put{At: at, Text: s})
	return p
}

// noSectors are numbers at which a platter of n sectors has none.
func noSectors(n int) []int {
	return []int{-1, -2, -n, -200, n, n + 1, 2 * n, 201, 1000, 1 << 31, 1 << 32, 1<<32 + n - 1, 1 << 62, -1 << 31, -1 << 32, math.MaxInt - 1, math.MaxInt, math.MinInt, math.MinInt + 1}
}

// tooLong are texts that no sector holds.
func tooLong() []string {
	return []string{letters('a', 129), letters('a', 130), letters('a', 256), letters('a', 4001), strings.Repeat("\x00", 65536+5)}
}

// rightPlatters are platters on the edges of what is right.
func rightPlatters() map[string]api.Platter {
	r := rand.New(rand.NewSource(1301))
	full := api.Platter{Sectors: slices.Repeat([]string{letters('a', 128)}, 200)}
	for i := range 100 {
		full.Cache = append(full.Cache, api.Put{At: 2 * i, Text: letters('b', 128)})
	}
	return map[string]api.Platter{
		"one empty sector":              of(""),
		"200 empty sectors":             of(make([]string, 200)...),
		"an empty cache that is there":  {Sectors: []string{"a"}, Cache: []api.Put{}},
		"one sector of 128 bytes":       of(letters('a', 128)),
		"100 puts at one sector":        {Sectors: []string{"a"}, Cache: slices.Repeat([]api.Put{{At: 0, Text: "b"}}, 100)},
		"a put at the last sector":      {Sectors: []string{"a", "b", "c"}, Cache: []api.Put{{At: 2, Text: letters('c', 128)}}},
		"all that there may be":         full,
		"drawn, of 3 sectors":           filled(r, 3, 10),
		"drawn, of 199 sectors":         filled(r, 199, 99),
		"bytes that are no letters":     {Sectors: []string{"\x00\xff", "\xfe"}, Cache: []api.Put{{At: 1, Text: "\x80\x00"}}},
		"a text that is not cut at 128": {Sectors: []string{strings.Repeat("é", 64)}, Cache: []api.Put{{Text: strings.Repeat("é", 64)}}},
	}
}

// wrongPlatters are platters that are right but for one thing.
func wrongPlatters() map[string]api.Platter {
	l := map[string]api.Platter{
		"none":                   {},
		"no sectors":             {Sectors: []string{}, Cache: []api.Put{}},
		"no sectors, but a put":  {Cache: []api.Put{{}}},
		"201 sectors":            of(make([]string, 201)...),
		"400 sectors":            of(make([]string, 400)...),
		"65537 sectors":          of(make([]string, 65537)...),
		"101 puts":               {Sectors: []string{"a"}, Cache: make([]api.Put, 101)},
		"357 puts":               {Sectors: []string{"a"}, Cache: make([]api.Put, 357)},
		"64 letters of 2 bytes":  of(strings.Repeat("é", 64) + "a"),
		"a put at 200 of 200":    {Sectors: make([]string, 200), Cache: []api.Put{{At: 200}}},
		"wrong in all its parts": {Sectors: slices.Repeat([]string{letters('a', 129)}, 201), Cache: slices.Repeat([]api.Put{{At: -1, Text: letters('a', 129)}}, 101)},
	}
	r := rand.New(rand.NewSource(1302))
	for _, i := range []int{0, 1, 4, 7} {
		for _, s := range tooLong() {
			p, q := filled(r, 8, 8), filled(r, 8, 8)
			p.Sectors[i], q.Cache[i].Text = s, s
			l[fmt.Sprintf("sector %d of %d bytes", i, len(s))] = p
			l[fmt.Sprintf("put %d of %d bytes", i, len(s))] = q
		}
		for _, at := range noSectors(8) {
			p := filled(r, 8, 8)
			p.Cache[i].At = at
			l[fmt.Sprintf("put %d at %d of 8", i, at)] = p
		}
	}
	return l
}

// shown is p as it is told in a fault.
func shown(p api.Platter) string {
	s := fmt.Sprintf("%q, waiting %#v", p.Sectors, p.Cache)
	return s[:min(len(s), 300)]
}

func wantPlatter(t *testing.T, call string, got api.Platter, e api.Errno, want api.Platter) {
	t.Helper()
	if e != api.OK || !same(got, want) {
		t.Errorf("%s = %s, error %d, want %s", call, shown(got), e, shown(want))
	}
}

func wantNoPlatter(t *testing.T, call string, got api.Platter, e, want api.Errno) {
	t.Helper()
	if e != want || got.Sectors != nil || got.Cache != nil {
		t.Errorf("%s = %s, error %d, want error %d", call, shown(got), e, want)
	}
}

func wantWrite(t *testing.T, p api.Platter, at int, s string, want api.Platter) api.Platter {
	t.Helper()
	got, e := Write(p, at, s)
	wantPlatter(t, fmt.Sprintf("P13.2: Write(%d sectors, %d, %.20q)", len(p.Sectors), at, s), got, e, want)
	return got
}

func wantNoWrite(t *testing.T, p api.Platter, at int, s string, want api.Errno) {
	t.Helper()
	got, e := Write(p, at, s)
	wantNoPlatter(t, fmt.Sprintf("P13.2: Write(%d sectors, %d, %d bytes)", len(p.Sectors), at, len(s)), got, e, want)
}

func wantRead(t *testing.T, p api.Platter, at int, want string) {
	t.Helper()
	if got, e := Read(p, at); e != api.OK || got != want {
		t.Errorf("P13.2: Read(%s, %d) = %q, error %d, want %q", shown(p), at, got, e, want)
	}
}

func wantNoRead(t *testing.T, p api.Platter, at int, want api.Errno) {
	t.Helper()
	if got, e := Read(p, at); e != want || got != "" {
		t.Errorf("P13.2: Read(%d sectors, %d) = %q, error %d, want error %d", len(p.Sectors), at, got, e, want)
	}
}

func wantSync(t *testing.T, p, want api.Platter) {
	t.Helper()
	got, e := Sync(p)
	wantPlatter(t, "P13.2: Sync("+shown(p)+")", got, e, want)
}

func wantCrash(t *testing.T, p api.Platter, fates []int, want api.Platter) {
	t.Helper()
	got, e := Crash(p, fates)
	wantPlatter(t, fmt.Sprintf("P13.3: Crash(%s, %d)", shown(p), fates), got, e, want)
}

func wantTamper(t *testing.T, p api.Platter, at int, s string, want api.Platter) {
	t.Helper()
	got, e := Tamper(p, at, s)
	wantPlatter(t, fmt.Sprintf("P13.3: Tamper(%d sectors, %d, %.20q)", len(p.Sectors), at, s), got, e, want)
}

func wantNoTamper(t *testing.T, p api.Platter, at int, s string, want api.Errno) {
	t.Helper()
	got, e := Tamper(p, at, s)
	wantNoPlatter(t, fmt.Sprintf("P13.3: Tamper(%d sectors, %d, %d bytes)", len(p.Sectors), at, len(s)), got, e, want)
}

func TestExamples(t *testing.T) {
	p, e := New(2)
	wantPlatter(t, "P13.1: New(2)", p, e, of("", ""))
	wantNoWrite(t, p, 2, "a", api.ErrSector)
	wantNoWrite(t, p, 0, letters('a', 129), api.ErrLimit)
	p, _ = Write(p, 0, "abc")
	p, _ = Sync(p)
	p, _ = Write(p, 0, "xy")
	p, _ = Crash(p, []int{3})
	wantRead(t, p, 0, "xbc")

	p, _ = Write(of("abcdef"), 0, "xy")
	wantCrash(t, p, []int{6}, of("xyef"))
}

func TestNewTellsEmptySectors(t *testing.T) {
	for n := 1; n <= 200; n++ {
		p, e := New(n)
		wantPlatter(t, fmt.Sprintf("P13.1: New(%d)", n), p, e, of(slices.Repeat([]string{""}, n)...))
		if !Check(p) {
			t.Errorf("P13.1: New(%d) is not right", n)
		}
	}
}

func TestNewTakesNoOtherNumber(t *testing.T) {
	for _, n := range append(noSectors(201), 0, 255, 256, 257, 1<<32+1, 1<<32+200, math.MinInt+200) {
		p, e := New(n)
		wantNoPlatter(t, fmt.Sprintf("P13.1: New(%d)", n), p, e, api.ErrArg)
	}
}

func TestCheckOfRightPlatters(t *testing.T) {
	for name, p := range rightPlatters() {
		if !Check(p) {
			t.Errorf("P13.1: %s: Check is false", name)
		}
	}
}

func TestCheckOfWrongPlatters(t *testing.T) {
	for name, p := range wrongPlatters() {
		if Check(p) {
			t.Errorf("P13.1: %s: Check is true", name)
		}
	}
}

// Whatever else is wrong, too.
func TestNoCallTakesAWrongPlatter(t *testing.T) {
	for name, p := range wrongPlatters() {
		t.Run(name, func(t *testing.T) {
			for _, at := range []int{0, 1, 7, -1, 8, 200, math.MinInt, math.MaxInt} {
				wantNoRead(t, p, at, api.ErrArg)
				for _, s := range append(tooLong(), "", "a", letters('a', 128)) {
					wantNoWrite(t, p, at, s, api.ErrArg)
					wantNoTamper(t, p, at, s, api.ErrArg)
				}
			}
			got, e := Sync(p)
			wantNoPlatter(t, "P13.2: Sync", got, e, api.ErrArg)
			for _, fates := range [][]int{nil, {}, {0}, {1}, {2, 3}, {-1, math.MaxInt}, slices.Repeat([]int{1}, 500)} {
				got, e := Crash(p, fates)
				wantNoPlatter(t, fmt.Sprintf("P13.3: Crash by %d fates", len(fates)), got, e, api.ErrArg)
			}
		})
	}
}

func TestWriteAddsBehindTheCache(t *testing.T) {
	for name, p := range rightPlatters() {
		if len(p.Cache) == 100 {
			continue
		}
		for _, at := range []int{0, len(p.Sectors) / 2, len(p.Sectors) - 1} {
			for _, s := range []string{"", "a", "\x00", letters('f', 127), letters('f', 128)} {
				got := wantWrite(t, p, at, s, waiting(p, at, s))
				if !Check(got) {
					t.Errorf("P13.2: %s: what Write tells is not right", name)
				}
			}
		}
	}
}

func TestWriteTillTheCacheIsFull(t *testing.T) {
	r := rand.New(rand.NewSource(1303))
	p := filled(r, 5, 0)
	for range 100 {
		at, s := r.Intn(5), drawn(r, r.Intn(129))
		p = wantWrite(t, p, at, s, waiting(p, at, s))
	}
	wantNoWrite(t, p, 0, "", api.ErrFull)
	wantNoWrite(t, p, 4, letters('a', 128), api.ErrFull)
	wantNoWrite(t, p, 4, letters('a', 129), api.ErrLimit)
	wantNoWrite(t, p, 5, "", api.ErrSector)
	tampered := twin(p)
	tampered.Sectors[1] = "t"
	wantTamper(t, p, 1, "t", tampered)
	synced, _ := Sync(p)
	wantWrite(t, synced, 3, "again", waiting(synced, 3, "again"))
}

func TestSectorsThatAreNotThere(t *testing.T) {
	for _, p := range rightPlatters() {
		for _, at := range noSectors(len(p.Sectors)) {
			wantNoRead(t, p, at, api.ErrSector)
			for _, s := range append(tooLong(), "", "a", letters('a', 128)) {
				wantNoWrite(t, p, at, s, api.ErrSector)
				wantNoTamper(t, p, at, s, api.ErrSector)
			}
		}
	}
}

func TestTextsThatAreTooLong(t *testing.T) {
	for _, p := range rightPlatters() {
		for _, s := range tooLong() {
			for _, at := range []int{0, len(p.Sectors) - 1} {
				wantNoWrite(t, p, at, s, api.ErrLimit)
				wantNoTamper(t, p, at, s, api.ErrLimit)
			}
		}
	}
}

func TestReadTellsTheLastText(t *testing.T) {
	p := of("zero", "one", "two")
	p.Cache = []api.Put{{At: 1, Text: "a"}, {At: 2, Text: "b"}, {At: 1, Text: "c"}, {At: 2, Text: ""}}
	wantRead(t, p, 0, "zero")
	wantRead(t, p, 1, "c")
	wantRead(t, p, 2, "")
	for _, p := range rightPlatters() {
		for at := range p.Sectors {
			want, _ := modelOf(p).read(at)
			wantRead(t, p, at, want)
		}
	}
}

func TestSyncStoresInOrder(t *testing.T) {
	p := of("zero", "one", "two")
	wantSync(t, p, p)
	p.Cache = []api.Put{{At: 1, Text: "a long text"}, {At: 2, Text: "b"}, {At: 1, Text: "c"}, {At: 2, Text: ""}}
	wantSync(t, p, of("zero", "c", ""))
	for _, p := range rightPlatters() {
		m := modelOf(p)
		m.sync()
		wantSync(t, p, m.told())
	}
}

func TestFatesOfOneText(t *testing.T) {
	for _, c := range []struct {
		there, text string
		fate        int
		want        string
	}{
		{"abcdef", "xy", math.MinInt, "abcdef"},
		{"abcdef", "xy", -1, "abcdef"},
		{"abcdef", "xy", 0, "abcdef"},
		{"abcdef", "xy", 1, "xy"},
		{"abcdef", "xy", 2, "abcdef"},
		{"abcdef", "xy", 3, "xbcdef"},
		{"abcdef", "xy", 4, "xycdef"},
		{"abcdef", "xy", 5, "xydef"},
		{"abcdef", "xy", 6, "xyef"},
		{"abcdef", "xy", 7, "xyf"},
		{"abcdef", "xy", 8, "xy"},
		{"abcdef", "xy", 9, "xy"},
		{"abcdef", "xy", math.MaxInt, "xy"},
		{"ab", "uvwxyz", 1, "uvwxyz"},
		{"ab", "uvwxyz", 2, "ab"},
		{"ab", "uvwxyz", 3, "ub"},
		{"ab", "uvwxyz", 4, "uv"},
		{"ab", "uvwxyz", 5, "uvw"},
		{"ab", "uvwxyz", 7, "uvwxy"},
		{"ab", "uvwxyz", 8, "uvwxyz"},
		{"ab", "uvwxyz", 9, "uvwxyz"},
		{"ab", "uvwxyz", math.MaxInt - 1, "uvwxyz"},
		{"", "uv", 2, ""},
		{"", "uv", 3, "u"},
		{"", "uv", 4, "uv"},
		{"abc", "", 0, "abc"},
		{"abc", "", 1, ""},
		{"abc", "", 2, "abc"},
		{"abc", "", 3, "bc"},
		{"abc", "", 5, ""},
		{"abc", "", 100, ""},
		{"", "", 3, ""},
	} {
		wantCrash(t, waiting(of("l", c.there, "r"), 1, c.text), []int{c.fate}, of("l", c.want, "r"))
	}
}

func TestAllFatesOfOneText(t *testing.T) {
	for _, n := range []int{0, 1, 2, 63, 127, 128} {
		for _, k := range []int{0, 1, 2, 64, 127, 128} {
			p := waiting(of(letters('A', n)), 0, letters('a', k))
			for fate := -3; fate <= 135; fate++ {
				m := modelOf(p)
				m.crash([]int{fate})
				wantCrash(t, p, []int{fate}, m.told())
			}
		}
	}
}

// Each text is done on what those ahead of it made.
func TestFatesOfManyTexts(t *testing.T) {
	p := of("abcd", "efgh")
	p.Cache = []api.Put{{At: 0, Text: "123"}, {At: 1, Text: "45"}, {At: 0, Text: "67"}, {At: 0, Text: "8"}}
	for _, c := range []struct {
		fates []int
		want  api.Platter
	}{
		{nil, of("abcd", "efgh")},
		{[]int{}, of("abcd", "efgh")},
		{[]int{0, 0, 0, 0}, of("abcd", "efgh")},
		{[]int{1}, of("123", "efgh")},
		{[]int{0, 1}, of("abcd", "45")},
		{[]int{3, 1, 4}, of("67cd", "45")},
		{[]int{1, 0, 3}, of("623", "efgh")},
		{[]int{1, 2, 1, 3}, of("87", "efgh")},
		{[]int{5, 4, 5, 2}, of("67d", "45gh")},
		{[]int{1, 1, 1, 1}, of("8", "45")},
		{[]int{1, 1, 1, 1, 1, 3, 0}, of("8", "45")},
		{[]int{0, 0, 0, 0, 1, 1, 1}, of("abcd", "efgh")},
		{[]int{-1, -1, -1, 1}, of("8", "efgh")},
	} {
		wantCrash(t, p, c.fates, c.want)
	}
	for i := range 1296 {
		fates := []int{i % 6, i / 6 % 6, i / 36 % 6, i / 216}
		m := modelOf(p)
		m.crash(fates)
		wantCrash(t, p, fates, m.told())
	}
}

func TestCrashOfRightPlatters(t *testing.T) {
	r := rand.New(rand.NewSource(1304))
	for name, p := range rightPlatters() {
		for _, n := range []int{0, 1, 50, 99, 100, 101, 1000, 70000} {
			fates := make([]int, n)
			for i := range fates {
				fates[i] = r.Intn(140) - 5
			}
			m := modelOf(p)
			m.crash(fates)
			wantCrash(t, p, fates, m.told())
			if got, _ := Crash(p, fates); !Check(got) {
				t.Errorf("P13.3: %s: what Crash tells is not right", name)
			}
		}
	}
}

func TestTamperLeavesTheCache(t *testing.T) {
	p := of("zero", "one")
	p.Cache = []api.Put{{At: 1, Text: "waits"}}
	want := of("zero", "tampered")
	want.Cache = []api.Put{{At: 1, Text: "waits"}}
	wantTamper(t, p, 1, "tampered", want)
	wantRead(t, want, 1, "waits")
	wantCrash(t, want, nil, of("zero", "tampered"))
	for name, p := range rightPlatters() {
		for _, at := range []int{0, len(p.Sectors) / 2, len(p.Sectors) - 1} {
			for _, s := range []string{"", "a", "\x00", letters('f', 127), letters('f', 128)} {
				m := modelOf(p)
				m.tamper(at, s)
				wantTamper(t, p, at, s, m.told())
				if !Check(m.told()) {
					t.Errorf("P13.3: %s: what Tamper tells is not right", name)
				}
			}
		}
	}
}

func TestWhatIsReadIsWhatWasWrittenLast(t *testing.T) {
	r := rand.New(rand.NewSource(1305))
	for range 30 {
		n := 1 + r.Intn(8)
		p, _ := New(n)
		last := make([]string, n)
		for range 300 {
			at, s := r.Intn(n), drawn(r, r.Intn(129))
			q, e := Write(p, at, s)
			if e == api.ErrFull || r.Intn(40) == 0 {
				p, _ = Sync(p)
			} else {
				p, last[at] = q, s
			}
			for at, s := range last {
				if got, e := Read(p, at); e != api.OK || got != s {
					t.Fatalf("P13.4: Read(%d) = %q, error %d, want %q", at, got, e, s)
				}
			}
		}
	}
}

func TestWhatWasSyncedOutlivesACrash(t *testing.T) {
	r := rand.New(rand.NewSource(1306))
	for range 300 {
		p := filled(r, 1+r.Intn(20), r.Intn(30))
		synced, _ := Sync(p)
		written := map[int]bool{}
		q := synced
		for range r.Intn(20) {
			at := r.Intn(len(p.Sectors))
			written[at] = true
			q, _ = Write(q, at, drawn(r, r.Intn(129)))
		}
		fates := make([]int, r.Intn(25))
		for i := range fates {
			fates[i] = r.Intn(140) - 5
		}
		q, _ = Crash(q, fates)
		for at, s := range synced.Sectors {
			if got, _ := Read(q, at); got != s && !written[at] {
				t.Errorf("P13.4: behind a crash sector %d is %q, want %q", at, got, s)
			}
		}
	}
}

func TestACrashOfFatesOneIsASync(t *testing.T) {
	for _, p := range rightPlatters() {
		want, _ := Sync(p)
		for _, more := range []int{0, 1, 100} {
			wantCrash(t, p, slices.Repeat([]int{1}, len(p.Cache)+more), want)
		}
		wantCrash(t, p, nil, of(p.Sectors...))
	}
}

// deed is a call, done at a platter and at a model of it.
func deed(t *testing.T, r *rand.Rand, p api.Platter, m *model) api.Platter {
	t.Helper()
	at := r.Intn(len(p.Sectors)+2) - 1
	s := drawn(r, []int{r.Intn(5), r.Intn(5), r.Intn(133), 128}[r.Intn(4)])
	var q api.Platter
	var e, f api.Errno
	switch k := r.Intn(40); {
	case k == 0:
		q, e = Sync(p)
		m.sync()
	case k == 1:
		fates := make([]int, r.Intn(len(p.Cache)+3))
		for i := range fates {
			fates[i] = r.Intn(8)
		}
		q, e = Crash(p, fates)
		m.crash(fates)
	case k < 5:
		q, e = Tamper(p, at, s)
		f = m.tamper(at, s)
	case k < 10:
		got, e := Read(p, at)
		if want, f := m.read(at); got != want || e != f {
			t.Fatalf("P13.2: Read(%d) = %q, error %d, want %q, error %d", at, got, e, want, f)
		}
		return p
	default:
		q, e = Write(p, at, s)
		f = m.write(at, s)
	}
	if e != f || e == api.OK && !same(q, m.told()) || e != api.OK && (q.Sectors != nil || q.Cache != nil) {
		t.Fatalf("P13: there is %s, error %d, want %s, error %d", shown(q), e, shown(m.told()), f)
	}
	if e != api.OK {
		return p
	}
	return q
}

func TestDeedsOfAllKinds(t *testing.T) {
	r := rand.New(rand.NewSource(1307))
	for range 20 {
		n := []int{1, 2, 3, 10, 200}[r.Intn(5)]
		p, _ := New(n)
		m := modelOf(p)
		for range 600 {
			p = deed(t, r, p, m)
		}
		if !Check(p) {
			t.Error("P13.1: Check is false")
		}
	}
}

// answers are all platters that the calls tell of p.
func answers(p api.Platter, fates []int) map[string]api.Platter {
	l := map[string]api.Platter{}
	l["Write"], _ = Write(p, 0, "new")
	l["Sync"], _ = Sync(p)
	l["Crash"], _ = Crash(p, fates)
	l["Crash by no fates"], _ = Crash(p, nil)
	l["Tamper"], _ = Tamper(p, 0, "new")
	return l
}

// roomy is p with room behind its lists, in which a copy that is none could put something.
func roomy(p api.Platter) api.Platter {
	q := api.Platter{Sectors: make([]string, 0, 300), Cache: make([]api.Put, 0, 200)}
	return api.Platter{Sectors: append(q.Sectors, p.Sectors...), Cache: append(q.Cache, p.Cache...)}
}

// spoil changes all of p, the room behind its lists included.
func spoil(p api.Platter) {
	sectors, cache := p.Sectors[:cap(p.Sectors)], p.Cache[:cap(p.Cache)]
	for i := range sectors {
		sectors[i] = "spoilt"
	}
	for i := range cache {
		cache[i] = api.Put{At: 77, Text: "spoilt"}
	}
}

func TestNothingIsChangedOrShared(t *testing.T) {
	r := rand.New(rand.NewSource(1308))
	for _, p := range []api.Platter{of("a", "b"), {Sectors: []string{"a"}, Cache: []api.Put{}}, filled(r, 4, 9), filled(r, 200, 99)} {
		fates := []int{1, 0, 3, 50, 1, 1}
		want, clean := answers(twin(p), fates), roomy(p)
		Read(clean, 0)
		Check(clean)
		told := answers(clean, fates)
		if !same(clean, p) || !slices.Equal(fates, []int{1, 0, 3, 50, 1, 1}) {
			t.Error("R2: what was handed in is changed")
		}
		for _, s := range clean.Sectors[len(p.Sectors):cap(clean.Sectors)] {
			if s != "" {
				t.Errorf("R2: behind what was handed in there is %q", s)
			}
		}
		for _, w := range clean.Cache[len(p.Cache):cap(clean.Cache)] {
			if w != (api.Put{}) {
				t.Errorf("R2: behind what was handed in there is %v", w)
			}
		}
		spoil(clean)
		for name, q := range told {
			if !same(q, want[name]) {
				t.Errorf("R2: %s shares its memory with what was handed in, or with another", name)
			}
			spoil(q)
		}
	}
	a, _ := New(3)
	spoil(a)
	b, e := New(3)
	wantPlatter(t, "R2: New(3), again", b, e, of("", "", ""))
}

func TestCallsAtOnce(t *testing.T) {
	r := rand.New(rand.NewSource(1309))
	p := filled(r, 20, 60)
	fates := []int{1, 4, 0, 1, 90}
	want := answers(p, fates)
	var there sync.WaitGroup
	for range 8 {
		there.Go(func() {
			for range 50 {
				for name, q := range answers(p, fates) {
					if !same(q, want[name]) {
						t.Errorf("R2: %s tells another platter at another time", name)
					}
				}
			}
		})
	}
	there.Wait()
}
