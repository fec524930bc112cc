package disk_test

import (
	"fmt"
	"math"
	"math/rand"
	"slices"
	"sort"
	"strings"
	"testing"

	"wapentake/api"
	"wapentake/disk"
)

// The model tells the document's disk another way: files are texts, in the order in which they came, an act has its number among all acts, and what a disk would have is counted anew each time.

type modelFile struct {
	name, safe, waits string
}

type modelDisk struct {
	files []modelFile
	down  bool
	acts  uint64
	last  uint64 // the number of the act in which the power goes; 0: of none
	keep  int
}

// ask is one call, of any kind.
type ask struct {
	kind int
	name string // of Append, Sync, Install and Read
	data string // of Append and Install
	n    int    // of Arm
	keep int    // of Off and Arm
}

const (
	askAppend = iota
	askSync
	askInstall
	askRead
	askNames
	askOff
	askOn
	askArm
	askActs
	askDown
)

var kinds = []string{"Append", "Sync", "Install", "Read", "Names", "Off", "On", "Arm", "Acts", "Down"}

func (q ask) String() string {
	data := q.data
	if len(data) > 20 {
		data = fmt.Sprintf("%d bytes", len(data))
	}
	return fmt.Sprintf("%s(%q, %q, %d, %d)", kinds[q.kind], q.name, data, q.n, q.keep)
}

// answer is all that any call answers.
type answer struct {
	data  string
	names string // joined, each quoted
	n     int
	is    bool
	err   api.Errno
}

func quoted(names []string) string { return fmt.Sprintf("%q", names) }

func program(d *disk.Disk, q ask) answer {
	var a answer
	switch q.kind {
	case askAppend:
		a.err = d.Append(q.name, []byte(q.data))
	case askSync:
		a.err = d.Sync(q.name)
	case askInstall:
		a.err = d.Install(q.name, []byte(q.data))
	case askRead:
		b, e := d.Read(q.name)
		a.data, a.err = string(b), e
	case askNames:
		a.names = quoted(d.Names())
	case askOff:
		d.Off(q.keep)
	case askOn:
		d.On()
	case askArm:
		d.Arm(q.n, q.keep)
	case askActs:
		a.n = d.Acts()
	case askDown:
		a.is = d.Down()
	}
	return a
}

func (m *modelDisk) answer(q ask) answer {
	switch q.kind {
	case askAppend, askSync, askInstall:
		return answer{err: m.act(q)}
	case askRead:
		return m.read(q.name)
	case askNames:
		return answer{names: quoted(m.names())}
	case askOff:
		m.off(q.keep)
	case askOn:
		m.down = false
	case askArm:
		m.last, m.keep = 0, q.keep
		if q.n >= 1 {
			m.last = m.acts + uint64(q.n)
		}
	case askActs:
		return answer{n: int(m.acts)}
	case askDown:
		return answer{is: m.down}
	}
	return answer{}
}

// find: a file's place; behind all of them, if it isn't there.
func (m *modelDisk) find(name string) int {
	for i, f := range m.files {
		if f.name == name {
			return i
		}
	}
	return len(m.files)
}

// becomes: the files as an act makes them, in a list of their own.
func (m *modelDisk) becomes(q ask) []modelFile {
	files := append([]modelFile{}, m.files...)
	i := m.find(q.name)
	if i == len(files) {
		files = append(files, modelFile{name: q.name})
	}
	f := &files[i]
	switch q.kind {
	case askAppend:
		f.waits += q.data
	case askSync:
		f.safe, f.waits = f.safe+f.waits, ""
	case askInstall:
		f.safe, f.waits = q.data, ""
	}
	return files
}

func (m *modelDisk) act(q ask) api.Errno {
	if m.down {
		return api.ErrDown
	}
	files, all := m.becomes(q), 0
	for _, f := range files {
		all += len(f.safe + f.waits)
	}
	if all > 1<<22 {
		return api.ErrFull
	}
	m.acts++
	if m.acts != m.last {
		m.files = files
		return api.OK
	}
	if q.kind == askAppend {
		m.files = files
	}
	m.off(m.keep)
	return api.ErrDown
}

func (m *modelDisk) off(keep int) {
	if m.down {
		return
	}
	m.down, m.last = true, 0
	var files []modelFile
	for _, f := range m.files {
		switch {
		case keep < 0:
		case keep > len(f.waits):
			f.safe += f.waits
		default:
			f.safe += f.waits[:keep]
		}
		files = append(files, modelFile{name: f.name, safe: f.safe})
	}
	m.files = files
}

func (m *modelDisk) read(name string) answer {
	i := m.find(name)
	switch {
	case m.down:
		return answer{err: api.ErrDown}
	case i == len(m.files):
		return answer{err: api.ErrNone}
	}
	return answer{data: m.files[i].safe + m.files[i].waits}
}

func (m *modelDisk) names() []string {
	var names []string
	if !m.down {
		for _, f := range m.files {
			names = append(names, f.name)
		}
	}
	sort.Strings(names)
	return names
}

// looks: what there is to be seen of a disk without changing it.
func looks(names ...string) []ask {
	list := []ask{{kind: askNames}, {kind: askActs}, {kind: askDown}}
	for _, name := range names {
		list = append(list, ask{kind: askRead, name: name})
	}
	return list
}

// pair is a disk and its model, and what was asked of both.
type pair struct {
	disk  *disk.Disk
	model *modelDisk
	past  []ask
}

func newPair() *pair { return &pair{disk: disk.New(), model: &modelDisk{}} }

func (p *pair) told() string {
	var b strings.Builder
	for _, q := range p.past {
		b.WriteString(q.String() + " ")
	}
	return b.String()
}

// same: that a call is answered alike by both; its answer.
func (p *pair) same(t *testing.T, q ask) answer {
	t.Helper()
	got, wanted := program(p.disk, q), p.model.answer(q)
	p.past = append(p.past, q)
	if got != wanted {
		t.Fatalf("%s: %d bytes, %s, %d, %t, %d, not %d bytes, %s, %d, %t, %d", p.told(),
			len(got.data), got.names, got.n, got.is, got.err, len(wanted.data), wanted.names, wanted.n, wanted.is, wanted.err)
	}
	return got
}

// does asks each call of both, and looks at all there is behind it.
func (p *pair) does(t *testing.T, list []ask, seen []ask) {
	t.Helper()
	for _, q := range list {
		p.same(t, q)
		for _, l := range seen {
			p.same(t, l)
			p.past = p.past[:len(p.past)-1]
		}
	}
}

// TestP16_1AllOrders asks all orders of five calls upon two files.
func TestP16_1AllOrders(t *testing.T) {
	calls := []ask{
		{kind: askAppend, name: "a", data: "xyz"},
		{kind: askAppend, name: "b", data: "q"},
		{kind: askAppend, name: "b"},
		{kind: askSync, name: "a"},
		{kind: askInstall, name: "a", data: "new"},
		{kind: askOff, keep: -1},
		{kind: askOff, keep: 2},
		{kind: askOn},
		{kind: askArm, n: 1, keep: 1},
		{kind: askArm, n: 2, keep: 9},
		{kind: askArm},
	}
	seen := looks("a", "b")
	list := make([]ask, 5)
	var all func(at int)
	all = func(at int) {
		if at == len(list) {
			p := newPair()
			for _, q := range list {
				p.same(t, q)
			}
			for _, l := range seen {
				p.same(t, l)
			}
			return
		}
		for _, q := range calls {
			list[at] = q
			all(at + 1)
		}
	}
	all(0)
}

// someCall: any call, upon a few files.
func someCall(r *rand.Rand) ask {
	often := []int{askAppend, askAppend, askAppend, askAppend, askSync, askSync, askInstall, askInstall, askOff, askOn, askOn, askArm, askRead, askNames, askActs, askDown}
	q := ask{kind: often[r.Intn(len(often))], name: []string{"", "a", "b", "ab"}[r.Intn(4)]}
	q.n = []int{-1, 0, 1, 1, 2, 3, 5, 20, math.MaxInt}[r.Intn(9)]
	q.keep = []int{math.MinInt, -1, 0, 0, 1, 2, 5, 9, math.MaxInt}[r.Intn(9)]
	q.data = someData(r, r.Intn(8))
	return q
}

func someData(r *rand.Rand, size int) string {
	return strings.Repeat(string(rune('a'+r.Intn(26))), size)
}

// someBig: a number of bytes of which a few fill a disk, or nearly, or a bit more.
func someBig(r *rand.Rand) int { return (1<<22)/(1+r.Intn(4)) - 4 + r.Intn(8) }

// TestP16_1Random asks long random lists of calls; each error must come often.
func TestP16_1Random(t *testing.T) {
	r := rand.New(rand.NewSource(161))
	met := map[api.Errno]int{}
	for range 60 {
		p := newPair()
		for range 100 {
			q := someCall(r)
			if r.Intn(6) == 0 {
				q.data = someData(r, someBig(r))
			}
			met[p.same(t, q).err]++
		}
		for _, l := range looks("", "a", "b", "ab") {
			p.same(t, l)
		}
	}
	for _, e := range []api.Errno{api.OK, api.ErrNone, api.ErrFull, api.ErrDown} {
		if met[e] < 20 {
			t.Errorf("error %d came %d times alone", e, met[e])
		}
	}
}

// TestP16_1RandomSmall likewise, of small files alone, and all is looked at behind each call.
func TestP16_1RandomSmall(t *testing.T) {
	r := rand.New(rand.NewSource(1611))
	seen := looks("", "a", "b", "ab", "c")
	for range 300 {
		p := newPair()
		for range 60 {
			p.does(t, []ask{someCall(r)}, seen)
		}
	}
}

// history is what P16.2 speaks of, of one file: what was made sure, and what it would have if nothing were lost.
type history struct {
	sure, all string
}

// kept: what the history of a file is behind a loss of which it has so much.
func (h history) kept(t *testing.T, what string, have string) history {
	t.Helper()
	if !strings.HasPrefix(have, h.sure) || !strings.HasPrefix(h.all, have) {
		t.Fatalf("%s: %q is there; sure was %q, and all %q", what, have, h.sure, h.all)
	}
	return history{have, have}
}

// TestP16_2Random looks, behind each loss of power, whether each file has what is sure, and nothing but a beginning of what came.
func TestP16_2Random(t *testing.T) {
	r := rand.New(rand.NewSource(162))
	losses, partly := 0, 0
	for range 2000 {
		d, files := disk.New(), map[string]history{}
		for range 40 {
			q := someCall(r)
			remember(files, q, program(d, q).err)
			if !d.Down() {
				continue
			}
			losses++
			d.On()
			for name, h := range files {
				b, _ := d.Read(name)
				if files[name] = h.kept(t, q.String(), string(b)); string(b) != h.all && string(b) != h.sure {
					partly++
				}
			}
			if names := d.Names(); len(names) != len(files) {
				t.Fatalf("%s: files %q, of %d", q, names, len(files))
			}
		}
	}
	if losses < 5000 || partly < 1000 {
		t.Errorf("%d losses, %d of them of a part alone", losses, partly)
	}
}

// remember: what an act makes of its file's history; in an Append that the power ended bytes came all the same.
func remember(files map[string]history, q ask, e api.Errno) {
	h, is := files[q.name]
	switch {
	case q.kind == askAppend && (e == api.OK || e == api.ErrDown):
		h.all += q.data
	case q.kind == askSync && e == api.OK:
		h.sure = h.all
	case q.kind == askInstall && e == api.OK:
		h = history{q.data, q.data}
	case !is:
		return
	}
	files[q.name] = h
}

// cuts are places at which the power may go, and how much is kept then.
func cuts(acts int) []ask {
	var list []ask
	for n := 1; n <= acts; n++ {
		for keep := range 8 {
			list = append(list, ask{kind: askArm, n: n, keep: keep - 1})
		}
	}
	return list
}

// TestP16_2EachPlace has the power go in each act of one story, with each number of bytes kept; the story then goes on to its end.
func TestP16_2EachPlace(t *testing.T) {
	story := []ask{
		{kind: askAppend, name: "log", data: "one"},
		{kind: askSync, name: "log"},
		{kind: askAppend, name: "log", data: "two"},
		{kind: askInstall, name: "snap", data: "first"},
		{kind: askAppend, name: "log", data: "three"},
		{kind: askAppend, name: "snap", data: "tail"},
		{kind: askSync, name: "other"},
		{kind: askInstall, name: "log", data: "short"},
		{kind: askInstall, name: "snap"},
		{kind: askAppend, name: "snap", data: "again"},
		{kind: askSync, name: "snap"},
	}
	seen := looks("log", "snap", "other", "none")
	for _, cut := range cuts(len(story)) {
		p := newPair()
		p.does(t, append([]ask{cut}, story[:cut.n]...), seen)
		if !p.disk.Down() || p.disk.Acts() != cut.n {
			t.Fatalf("%s: down %t, %d acts", cut, p.disk.Down(), p.disk.Acts())
		}
		p.does(t, []ask{{kind: askOn}}, seen)
		p.does(t, story[cut.n-1:], seen)
		if got, wanted := p.disk.Names(), []string{"log", "other", "snap"}; !slices.Equal(got, wanted) {
			t.Errorf("%s: %q", cut, got)
		}
	}
}
