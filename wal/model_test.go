package wal_test

import (
	"crypto/sha256"
	"encoding/binary"
	"fmt"
	"math"
	"math/rand"
	"slices"
	"strings"
	"testing"

	"wapentake/api"
	"wapentake/disk"
	"wapentake/wal"
)

// The model tells the document's log another way: the library's digests and numbers, and a disk of texts, on which an act has its number among all acts.

// modelSeal: the first 8 bytes of a text's digest.
func modelSeal(text string) string {
	sum := sha256.Sum256([]byte(text))
	return string(sum[:8])
}

// modelBytes: the bytes of records.
func modelBytes(list ...string) string {
	all := ""
	for _, b := range list {
		text := string(binary.BigEndian.AppendUint32(nil, uint32(len(b)))) + b
		all += modelSeal(text) + text
	}
	return all
}

// modelSplit: the records of bytes, and what stands behind them.
func modelSplit(b string) ([]string, string) {
	list := []string{}
	for len(b) >= 12 {
		end := 12 + int(binary.BigEndian.Uint32([]byte(b[8:12])))
		if end > len(b) || b[:8] != modelSeal(b[8:end]) {
			break
		}
		list = append(list, b[12:end])
		b = b[end:]
	}
	return list, b
}

type modelFile struct{ safe, waits string }

type modelDisk struct {
	files map[string]modelFile
	down  bool
	acts  int
	last  int // the number of the act in which the power goes; 0: of none
	keep  int
}

// ask is one call, of any kind, of a disk or of a log.
type ask struct {
	kind int
	name string   // the file's
	list []string // of Append, Reset; and of the disk's Append and Install, joined
	n    int      // of Arm
	keep int      // of Off and Arm
}

const (
	askOpen = iota
	askAppend
	askSync
	askReset
	askRawAppend
	askRawInstall
	askOff
	askOn
	askArm
)

var kinds = []string{"Open", "Append", "Sync", "Reset", "disk's Append", "disk's Install", "Off", "On", "Arm"}

func (q ask) String() string {
	return fmt.Sprintf("%s(%q, %s, %d, %d)", kinds[q.kind], q.name, short(q.list), q.n, q.keep)
}

// answer is all that any call answers, and what is to be seen behind it.
type answer struct {
	log  bool
	list string // records, each quoted
	err  api.Errno
	acts int
	down bool
	file string
	read api.Errno
}

// pair is a disk and its model, the log that was opened last of each file, and what was asked of both.
type pair struct {
	disk  *disk.Disk
	logs  map[string]*wal.Log
	model *modelDisk
	open  map[string]bool // of which files the model has a log
	past  []string
}

func newPair() *pair {
	return &pair{disk.New(), map[string]*wal.Log{}, &modelDisk{files: map[string]modelFile{}}, map[string]bool{}, nil}
}

// program asks the program.
func (p *pair) program(q ask) answer {
	var a answer
	l := p.logs[q.name]
	switch q.kind {
	case askOpen:
		l, list, e := wal.Open(p.disk, q.name)
		a.log, a.list, a.err = l != nil, fmt.Sprintf("%q", texts(list)), e
		if l != nil {
			p.logs[q.name] = l
		}
	case askAppend:
		a.err = l.Append(lists(q.list...)...)
	case askSync:
		a.err = l.Sync()
	case askReset:
		a.err = l.Reset(lists(q.list...)...)
	case askRawAppend:
		a.err = p.disk.Append(q.name, []byte(strings.Join(q.list, "")))
	case askRawInstall:
		a.err = p.disk.Install(q.name, []byte(strings.Join(q.list, "")))
	case askOff:
		p.disk.Off(q.keep)
	case askOn:
		p.disk.On()
	case askArm:
		p.disk.Arm(q.n, q.keep)
	}
	b, e := p.disk.Read(q.name)
	a.acts, a.down, a.file, a.read = p.disk.Acts(), p.disk.Down(), string(b), e
	return a
}

// told asks the model.
func (p *pair) told(q ask) answer {
	var a answer
	m := p.model
	switch q.kind {
	case askOpen:
		list, e := p.opened(q.name)
		a.log, a.list, a.err = e == api.OK, fmt.Sprintf("%q", list), e
	case askAppend, askSync, askReset:
		a.err = api.ErrNil
		if p.open[q.name] {
			a.err = m.act(q.kind, q.name, modelBytes(q.list...))
		}
	case askRawAppend:
		a.err = m.act(askAppend, q.name, strings.Join(q.list, ""))
	case askRawInstall:
		a.err = m.act(askReset, q.name, strings.Join(q.list, ""))
	case askOff:
		m.off(q.keep)
	case askOn:
		m.down = false
	case askArm:
		m.last, m.keep = 0, q.keep
		if q.n >= 1 && q.n < 1<<40 {
			m.last = m.acts + q.n
		}
	}
	a.acts, a.down = m.acts, m.down
	f, is := m.files[q.name]
	switch {
	case m.down:
		a.read = api.ErrDown
	case !is:
		a.read = api.ErrNone
	default:
		a.file = f.safe + f.waits
	}
	return a
}

func (p *pair) opened(name string) ([]string, api.Errno) {
	m := p.model
	f, is := m.files[name]
	if m.down {
		return []string{}, api.ErrDown
	}
	list, rest := modelSplit(f.safe + f.waits)
	if is && rest != "" {
		if e := m.act(askReset, name, modelBytes(list...)); e != api.OK {
			return []string{}, e
		}
	}
	if is {
		if e := m.act(askSync, name, ""); e != api.OK {
			return []string{}, e
		}
	}
	p.open[name] = true
	return list, api.OK
}

// act is an Append, a Sync, or an Install (told as a Reset), of a file.
func (m *modelDisk) act(kind int, name, b string) api.Errno {
	if m.down {
		return api.ErrDown
	}
	f := m.files[name]
	all := len(b)
	for other, g := range m.files {
		if other != name || kind != askReset {
			all += len(g.safe) + len(g.waits)
		}
	}
	if all > 1<<22 && kind != askSync {
		return api.ErrFull
	}
	m.acts++
	burns := m.acts == m.last
	switch {
	case kind == askAppend:
		m.files[name] = modelFile{f.safe, f.waits + b}
	case burns:
	case kind == askSync:
		m.files[name] = modelFile{f.safe + f.waits, ""}
	case kind == askReset:
		m.files[name] = modelFile{b, ""}
	}
	if burns {
		m.off(m.keep)
		return api.ErrDown
	}
	return api.OK
}

func (m *modelDisk) off(keep int) {
	if m.down {
		return
	}
	m.down, m.last = true, 0
	for name, f := range m.files {
		m.files[name] = modelFile{safe: f.safe + f.waits[:min(max(0, keep), len(f.waits))]}
	}
}

// same: that a call is answered alike by both; its answer.
func (p *pair) same(t *testing.T, q ask) answer {
	t.Helper()
	p.past = append(p.past, q.String())
	got, wanted := p.program(q), p.told(q)
	if got != wanted {
		t.Fatalf("%s: log %t, %.300s, error %d, %d acts, down %t, %d bytes (%d), not %t, %.300s, %d, %d, %t, %d (%d)", strings.Join(p.past, " "),
			got.log, got.list, got.err, got.acts, got.down, len(got.file), got.read,
			wanted.log, wanted.list, wanted.err, wanted.acts, wanted.down, len(wanted.file), wanted.read)
	}
	return got
}

// TestP17_1AllOrders asks all orders of four calls upon one file, with an Open ahead of them or without.
func TestP17_1AllOrders(t *testing.T) {
	calls := []ask{
		{kind: askOpen},
		{kind: askAppend, list: []string{"a", ""}},
		{kind: askAppend},
		{kind: askSync},
		{kind: askReset, list: []string{"new"}},
		{kind: askRawAppend, list: []string{"torn"}},
		{kind: askOff, keep: 0},
		{kind: askOff, keep: 14},
		{kind: askOn},
		{kind: askArm, n: 1, keep: 13},
		{kind: askArm, n: 2, keep: 99},
	}
	list := make([]ask, 4)
	var all func(at int, opened bool)
	all = func(at int, opened bool) {
		if at == len(list) {
			p := newPair()
			if opened {
				p.same(t, ask{})
			}
			for _, q := range list {
				p.same(t, q)
			}
			p.same(t, ask{kind: askOn})
			p.same(t, ask{})
			p.same(t, ask{})
			return
		}
		for _, q := range calls {
			list[at] = q
			all(at+1, opened)
		}
	}
	all(0, false)
	all(0, true)
}

// someCall: any call, upon a few files.
func someCall(r *rand.Rand) ask {
	often := []int{askOpen, askOpen, askOpen, askAppend, askAppend, askAppend, askAppend, askSync, askReset, askRawAppend, askRawInstall, askOff, askOn, askOn, askArm}
	q := ask{kind: often[r.Intn(len(often))], name: []string{"", "log", "lo"}[r.Intn(3)]}
	q.n = []int{-1, 0, 1, 1, 2, 3, 5, 20, math.MaxInt}[r.Intn(9)]
	q.keep = []int{math.MinInt, -1, 0, 0, 1, 7, 8, 11, 12, 13, 15, 30, 60, math.MaxInt}[r.Intn(14)]
	q.list = someList(r)
	switch {
	case q.kind == askRawInstall:
		q.list = []string{someFile(r)}
	case q.kind == askRawAppend && r.Intn(2) == 0:
		q.list = []string{modelBytes(q.list...)}
	}
	return q
}

// someList: a few records, short ones for the most part.
func someList(r *rand.Rand) []string {
	var list []string
	for range r.Intn(4) {
		list = append(list, strings.Repeat(string(rune('a'+r.Intn(26))), []int{0, 1, 2, 3, 9, 40}[r.Intn(6)]))
	}
	return list
}

// someFile: records' bytes, of which some are turned, gone, twice there or new.
func someFile(r *rand.Rand) string {
	b := []byte(modelBytes(append(someList(r), someList(r)...)...))
	if len(b) == 0 {
		return ""
	}
	at := r.Intn(len(b))
	switch r.Intn(7) {
	case 0:
		b[at] ^= 1 << r.Intn(8)
	case 1:
		b = b[:at]
	case 2:
		b = slices.Delete(b, at, at+1)
	case 3:
		b = slices.Insert(b, at, byte(r.Intn(256)))
	case 4:
		b = append(b, b[at:]...)
	case 5:
		b = append(b, make([]byte, r.Intn(30))...)
	}
	return string(b)
}

// TestP17_1Random asks long random lists of calls; each error must come often, and of each kind of call.
func TestP17_1Random(t *testing.T) {
	r := rand.New(rand.NewSource(171))
	met := map[string]int{}
	for range 1500 {
		p := newPair()
		for range 60 {
			q := someCall(r)
			a := p.same(t, q)
			met[fmt.Sprint(kinds[q.kind], a.err)]++
		}
	}
	for _, wanted := range []string{"Open0", "Open21", "Append0", "Append2", "Append21", "Sync0", "Sync2", "Sync21", "Reset0", "Reset2", "Reset21"} {
		if met[wanted] < 500 {
			t.Errorf("%s came %d times alone: %v", wanted, met[wanted], met)
		}
	}
}

// TestP17_1RandomFull likewise, of a disk that is nearly full.
func TestP17_1RandomFull(t *testing.T) {
	r := rand.New(rand.NewSource(1711))
	met := map[string]int{}
	for range 100 {
		p := newPair()
		p.same(t, ask{kind: askRawAppend, name: "other", list: []string{many(1<<22 - r.Intn(90))}})
		p.same(t, ask{kind: askRawAppend, name: "log"})
		for range 100 {
			q := someCall(r)
			q.name = "log"
			a := p.same(t, q)
			met[fmt.Sprint(kinds[q.kind], a.err)]++
		}
	}
	for _, wanted := range []string{"Open0", "Open21", "Append0", "Append20", "Append21", "Reset0", "Reset20", "Reset21"} {
		if met[wanted] < 25 {
			t.Errorf("%s came %d times alone: %v", wanted, met[wanted], met)
		}
	}
}

// TestP17_1AnyBytes opens files of all kinds of bytes; whole ones, torn ones and such without records must come often.
func TestP17_1AnyBytes(t *testing.T) {
	r := rand.New(rand.NewSource(1712))
	whole, torn, none := 0, 0, 0
	for range 20000 {
		b := someFile(r)
		if r.Intn(8) == 0 {
			noise := make([]byte, r.Intn(40))
			r.Read(noise)
			b = string(noise)
		}
		p := newPair()
		p.same(t, ask{kind: askRawInstall, list: []string{b}})
		p.same(t, ask{kind: askOpen})
		p.same(t, ask{kind: askOpen})
		list, rest := modelSplit(b)
		switch {
		case len(list) == 0:
			none++
		case rest == "":
			whole++
		default:
			torn++
		}
	}
	if whole < 2000 || torn < 2000 || none < 2000 {
		t.Errorf("%d whole ones, %d torn ones, %d without records", whole, torn, none)
	}
}

// history is what P17.2 speaks of: records that were made sure, all that came, and other ones that a Reset may have put in their place.
type history struct {
	sure, all int // how many
	list      []string
	other     []string
	may       bool // whether other may be there
}

// kept: that these records are what the document says of a history, and the history behind them.
func (h history) kept(t *testing.T, what string, have []string) history {
	t.Helper()
	old := len(have) >= h.sure && len(have) <= h.all && slices.Equal(have, h.list[:len(have)])
	if !old && !(h.may && slices.Equal(have, h.other)) {
		t.Fatalf("%s: %s is there; of %s were sure %d; other %s", what, short(have), short(h.list), h.sure, short(h.other))
	}
	return history{sure: len(have), all: len(have), list: have}
}

// goes: what a call makes of a history.
func (h history) goes(q ask, e api.Errno) history {
	switch {
	case q.kind == askAppend && (e == api.OK || e == api.ErrDown):
		h.list = append(slices.Clone(h.list), q.list...)
		h.all = len(h.list)
	case q.kind == askSync && e == api.OK:
		h.sure = h.all
	case q.kind == askReset && e == api.OK:
		h = history{sure: len(q.list), all: len(q.list), list: q.list}
	case q.kind == askReset && e == api.ErrDown:
		h.other, h.may = q.list, true
	}
	return h
}

// does asks a log a call.
func does(l *wal.Log, q ask) api.Errno {
	switch q.kind {
	case askAppend:
		return l.Append(lists(q.list...)...)
	case askSync:
		return l.Sync()
	}
	return l.Reset(lists(q.list...)...)
}

// again opens a file till no power goes any more, and once more, and holds what Open answers against its history.
func again(t *testing.T, d *disk.Disk, what string, h history, fuses ...ask) (*wal.Log, history) {
	t.Helper()
	for _, cut := range fuses {
		d.On()
		d.Arm(cut.n, cut.keep)
		if _, list, e := wal.Open(d, "log"); e == api.OK {
			h = h.kept(t, what, texts(list))
		}
	}
	d.Off(-1)
	d.On()
	_, list, e := wal.Open(d, "log")
	if e != api.OK {
		t.Fatalf("%s: error %d", what, e)
	}
	h = h.kept(t, what, texts(list))
	d.Off(-1)
	d.On()
	return opens(t, d, "log", h.list...), h
}

// stories are lists of calls of one log, each with none, one and many records.
func stories() [][]ask {
	return [][]ask{
		{
			{kind: askAppend, list: []string{"one"}},
			{kind: askSync},
			{kind: askAppend, list: []string{"two", "", "three"}},
			{kind: askAppend},
			{kind: askAppend, list: []string{many(30)}},
			{kind: askSync},
			{kind: askAppend, list: []string{"four"}},
		},
		{
			{kind: askReset, list: []string{"first", "second"}},
			{kind: askAppend, list: []string{"third"}},
			{kind: askReset, list: []string{"first"}},
			{kind: askReset},
			{kind: askAppend, list: []string{"", ""}},
			{kind: askSync},
			{kind: askAppend, list: []string{"", "x"}},
			{kind: askReset, list: []string{"", "", "y"}},
		},
	}
}

// TestP17_2EachPlace has the power go in each act of two stories, with each number of waiting bytes kept, and in each act of the Open behind it; the story then goes on to its end.
func TestP17_2EachPlace(t *testing.T) {
	var fuses [][]ask
	fuses = append(fuses, nil)
	for n := 1; n <= 3; n++ {
		for _, keep := range []int{-1, 0, 5, 1000} {
			fuses = append(fuses, []ask{{n: n, keep: keep}}, []ask{{n: n, keep: keep}, {n: 1, keep: keep}, {n: 2, keep: 0}})
		}
	}
	for _, story := range stories() {
		for n := 1; n <= len(story); n++ {
			for keep := -1; keep < 130; keep++ {
				for _, fuse := range fuses {
					place(t, story, n, keep, fuse)
				}
			}
		}
	}
}

// place plays a story, with the power going in its n-th act, and in the Opens behind it.
func place(t *testing.T, story []ask, n, keep int, fuse []ask) {
	t.Helper()
	d, h := disk.New(), history{}
	l := opens(t, d, "log")
	what := fmt.Sprintf("act %d, %d kept, then %v", n, keep, fuse)
	d.Arm(n, keep)
	for at, q := range story {
		e := does(l, q)
		h = h.goes(q, e)
		if (e == api.ErrDown) != (at == n-1) {
			t.Fatalf("%s: error %d in call %d", what, e, at+1)
		}
		if e == api.ErrDown {
			l, h = again(t, d, what, h, fuse...)
		}
	}
	again(t, d, what, h)
}

// TestP17_2Random likewise in long random lists of calls; losses in which all is kept, nothing and a part must come often.
func TestP17_2Random(t *testing.T) {
	r := rand.New(rand.NewSource(172))
	losses, all, part := 0, 0, 0
	for range 6000 {
		d, h := disk.New(), history{}
		l := opens(t, d, "log")
		for range 30 {
			q := someCall(r)
			switch q.kind {
			case askArm:
				d.Arm(q.n, q.keep)
			case askOff:
				d.Off(q.keep)
			case askAppend, askSync, askReset:
				h = h.goes(q, does(l, q))
			case askOpen:
				if next, list, e := wal.Open(d, "log"); e == api.OK {
					l, h = next, h.kept(t, q.String(), texts(list))
				}
			}
			if !d.Down() {
				continue
			}
			losses++
			before := h
			l, h = again(t, d, q.String(), h, ask{n: r.Intn(4), keep: q.keep})
			switch {
			case len(h.list) == before.all:
				all++
			case len(h.list) > before.sure:
				part++
			}
		}
	}
	if losses < 5000 || all < 1000 || part < 500 {
		t.Errorf("%d losses, %d of nothing, %d of a part", losses, all, part)
	}
}

// TestP17_2Kept: of records of one call a beginning is there behind a loss, those that were kept whole.
func TestP17_2Kept(t *testing.T) {
	list := []string{"a", "", "twelve bytes", many(40)}
	size := len(modelBytes(list...))
	for keep := range size + 2 {
		d := disk.New()
		l := opens(t, d, "log")
		appends(t, l, api.OK, "sure")
		syncs(t, l, api.OK)
		appends(t, l, api.OK, list...)
		fails(d, keep)
		n := len(list)
		for len(modelBytes(list[:n]...)) > keep {
			n--
		}
		opens(t, d, "log", append([]string{"sure"}, list[:n]...)...)
		opens(t, d, "log", append([]string{"sure"}, list[:n]...)...)
	}
}
