package wal_test

import (
	"encoding/hex"
	"fmt"
	"math"
	"slices"
	"strings"
	"testing"

	"wapentake/api"
	"wapentake/disk"
	"wapentake/wal"
)

// many: so many bytes.
func many(n int) string { return strings.Repeat("m", n) }

// lists: texts as a call takes them.
func lists(texts ...string) [][]byte {
	var list [][]byte
	for _, text := range texts {
		list = append(list, []byte(text))
	}
	return list
}

// texts: records as they are told.
func texts(list [][]byte) []string {
	out := []string{}
	for _, b := range list {
		out = append(out, string(b))
	}
	return out
}

// short tells long texts by their length.
func short(list []string) string {
	var out []string
	for _, text := range list {
		if len(text) > 40 {
			text = fmt.Sprintf("%.10q .. %d bytes", text, len(text))
		}
		out = append(out, fmt.Sprintf("%q", text))
	}
	return strings.Join(out, " ")
}

// opens: that a file has these records; the log.
func opens(t *testing.T, d *disk.Disk, name string, wanted ...string) *wal.Log {
	t.Helper()
	l, list, e := wal.Open(d, name)
	if l == nil || e != api.OK || !slices.Equal(texts(list), wanted) {
		t.Fatalf("Open of %q: a log %t, %s, error %d, not %s", name, l != nil, short(texts(list)), e, short(wanted))
	}
	return l
}

// refuses: that Open answers an error, and nothing else.
func refuses(t *testing.T, d *disk.Disk, name string, e api.Errno) {
	t.Helper()
	if l, list, got := wal.Open(d, name); l != nil || len(list) != 0 || got != e {
		t.Errorf("Open of %q: a log %t, %s, error %d, not %d", name, l != nil, short(texts(list)), got, e)
	}
}

// appends, syncs and resets: that the call answers this.
func appends(t *testing.T, l *wal.Log, e api.Errno, list ...string) {
	t.Helper()
	if got := l.Append(lists(list...)...); got != e {
		t.Errorf("Append of %s: %d, not %d", short(list), got, e)
	}
}

func syncs(t *testing.T, l *wal.Log, e api.Errno) {
	t.Helper()
	if got := l.Sync(); got != e {
		t.Errorf("Sync: %d, not %d", got, e)
	}
}

func resets(t *testing.T, l *wal.Log, e api.Errno, list ...string) {
	t.Helper()
	if got := l.Reset(lists(list...)...); got != e {
		t.Errorf("Reset to %s: %d, not %d", short(list), got, e)
	}
}

// is: that a file has these bytes.
func is(t *testing.T, d *disk.Disk, name, wanted string) {
	t.Helper()
	if b, e := d.Read(name); string(b) != wanted || e != api.OK {
		t.Errorf("%q: %d bytes %.60q, error %d, not %d bytes %.60q", name, len(b), b, e, len(wanted), wanted)
	}
}

// stands: how many acts there were, and whether the power is off.
func stands(t *testing.T, d *disk.Disk, acts int, down bool) {
	t.Helper()
	if d.Acts() != acts || d.Down() != down {
		t.Errorf("%d acts, down %t, not %d and %t", d.Acts(), d.Down(), acts, down)
	}
}

// fails: the power goes, keeping so many, and is back.
func fails(d *disk.Disk, keep int) {
	d.Off(keep)
	d.On()
}

// holding: a disk whose file "log" has these bytes, the first safe ones of them safe.
func holding(t *testing.T, b string, safe int) *disk.Disk {
	t.Helper()
	d := disk.New()
	if e := d.Install("log", []byte(b[:safe])); e != api.OK {
		t.Fatalf("error %d", e)
	}
	if e := d.Append("log", []byte(b[safe:])); e != api.OK {
		t.Fatalf("error %d", e)
	}
	return d
}

// TestP17_1Example is the chapter's.
func TestP17_1Example(t *testing.T) {
	d := disk.New()
	l := opens(t, d, "log")
	appends(t, l, api.OK, "a", "b")
	syncs(t, l, api.OK)
	appends(t, l, api.OK, "c")
	fails(d, 0)
	opens(t, d, "log", "a", "b")
}

// TestP17_1Nil asks a nil log everything, and opens a nil disk.
func TestP17_1Nil(t *testing.T) {
	var l *wal.Log
	for _, list := range [][]string{{}, {""}, {"a"}, {"a", "", many(100)}, {many(1<<22 + 1)}} {
		appends(t, l, api.ErrNil, list...)
		resets(t, l, api.ErrNil, list...)
		syncs(t, l, api.ErrNil)
	}
	if l.Append(nil) != api.ErrNil || l.Reset(nil) != api.ErrNil {
		t.Error("a nil record")
	}
	for _, name := range []string{"", "log", many(3000)} {
		refuses(t, nil, name, api.ErrNil)
	}
}

// known are records, and the first twelve of their bytes, which another program made.
func known() []struct{ text, head string } {
	all := ""
	for c := range 256 {
		all += string([]byte{byte(c)})
	}
	return []struct{ text, head string }{
		{"", "df3f619804a92fdb00000000"},
		{"a", "72ff6b02949dad9500000001"},
		{"ab", "d2f295bb8c9d190a00000002"},
		{"\x00", "060dc63e5595dffb00000001"},
		{"\xff\xfe\x00\x01", "99c2e53087d06d4e00000004"},
		{all, "30b56fe2d92d9d7600000100"},
		{many(255), "4fe5e6f429fa3400000000ff"},
		{many(256), "8d35dc440305302a00000100"},
		{many(65535), "2a59eba74ce6de770000ffff"},
		{many(65536), "da525ecc0e0a6e4900010000"},
		{many(100000), "943fcf5d17201790000186a0"},
	}
}

// TestP17_1KnownBytes: of each record alone, and of all of them behind one another, by Append and by Reset; and Open reads them.
func TestP17_1KnownBytes(t *testing.T) {
	d := disk.New()
	var all []string
	whole := ""
	for _, k := range known() {
		head, _ := hex.DecodeString(k.head)
		all = append(all, k.text)
		whole += string(head) + k.text
		l := opens(t, d, "one")
		resets(t, l, api.OK, k.text)
		is(t, d, "one", string(head)+k.text)
		opens(t, d, "one", k.text)
		resets(t, l, api.OK)
		appends(t, l, api.OK, k.text)
		is(t, d, "one", string(head)+k.text)
		opens(t, d, "one", k.text)
		resets(t, l, api.OK)
	}
	appends(t, opens(t, d, "appended"), api.OK, all...)
	resets(t, opens(t, d, "reset"), api.OK, all...)
	for _, name := range []string{"appended", "reset"} {
		is(t, d, name, whole)
		opens(t, d, name, all...)
	}
	d = disk.New()
	d.Append("read", []byte(whole))
	opens(t, d, "read", all...)
}

// TestP17_1OpenNone: a file that isn't there has no records, and isn't there behind Open either, till something is put into it.
func TestP17_1OpenNone(t *testing.T) {
	for _, name := range []string{"", "log", "LOG", "log\x00", many(2000)} {
		d := disk.New()
		d.Append("lo", []byte("other"))
		d.Arm(1, 0)
		opens(t, d, name)
		l := opens(t, d, name)
		stands(t, d, 1, false)
		if got := d.Names(); !slices.Equal(got, []string{"lo"}) {
			t.Errorf("%q: files %q", name, got)
		}
		d.Arm(0, 0)
		appends(t, l, api.OK, "a")
		is(t, d, name, modelBytes("a"))
		is(t, d, "lo", "other")
		stands(t, d, 2, false)
	}
	d := disk.New()
	syncs(t, opens(t, d, "synced"), api.OK)
	resets(t, opens(t, d, "reset"), api.OK)
	appends(t, opens(t, d, "appended"), api.OK)
	for _, name := range []string{"synced", "reset", "appended"} {
		is(t, d, name, "")
	}
	stands(t, d, 3, false)
}

// TestP17_1OpenAlone: where nothing stands behind the records, none among them, Open syncs alone.
func TestP17_1OpenAlone(t *testing.T) {
	for _, list := range [][]string{{}, {""}, {"a"}, {"", ""}, {"a", "", "b"}, {many(3000), "b"}} {
		b := modelBytes(list...)
		for safe := 0; safe <= len(b); safe += 1 + len(b)/7 {
			d := holding(t, b, safe)
			opens(t, d, "log", list...)
			stands(t, d, 3, false)
			is(t, d, "log", b)
			fails(d, 0)
			is(t, d, "log", b)
			opens(t, d, "log", list...)
			stands(t, d, 4, false)
		}
	}
}

// TestP17_1OpenTail: what stands behind the records is gone, and they are safe, by two acts; the next Open is one.
func TestP17_1OpenTail(t *testing.T) {
	for _, list := range [][]string{{}, {""}, {"a"}, {"a", "", "b"}, {many(3000), "b"}} {
		b := modelBytes(list...)
		for _, tail := range tails() {
			for _, safe := range []int{0, len(b) / 2, len(b), len(b) + len(tail)} {
				d := holding(t, b+tail, safe)
				d.Append("other", []byte("waits"))
				opens(t, d, "log", list...)
				stands(t, d, 5, false)
				is(t, d, "log", b)
				fails(d, 0)
				is(t, d, "other", "")
				is(t, d, "log", b)
				l := opens(t, d, "log", list...)
				stands(t, d, 6, false)
				appends(t, l, api.OK, "next")
				opens(t, d, "log", append(slices.Clone(list), "next")...)
			}
		}
	}
}

// tails are bytes that begin no whole record.
func tails() []string {
	a := modelBytes("abc")
	return []string{
		"x", "\x00", "\xff", many(7), many(8), many(11), many(12), many(500),
		strings.Repeat("\x00", 12), strings.Repeat("\x00", 1000), strings.Repeat("\xff", 12), strings.Repeat("\xff", 1000),
		a[:1], a[:7], a[:8], a[:9], a[:11], a[:12], a[:14],
		a[1:], a[:8] + a[9:], a[:len(a)-1] + "d", "x" + a + a,
		modelSeal("\x00\x00\x00\x00")[:7] + "\x00\x00\x00\x00",
		modelSeal("abc") + "\x00\x00\x00\x03abc",
		modelSeal("\x03\x00\x00\x00abc") + "\x03\x00\x00\x00abc",
		modelSeal("\x00\x00\x00\x04abc") + "\x00\x00\x00\x04abc",
		modelSeal("\x00\x00\x00\x04abc") + "\x00\x00\x00\x03abc",
		modelSeal("\x7f\xff\xff\xffabc") + "\x7f\xff\xff\xffabc",
		modelSeal("\x80\x00\x00\x00abc") + "\x80\x00\x00\x00abc",
		modelSeal("\xff\xff\xff\xffabc") + "\xff\xff\xff\xffabc",
		modelSeal("\x00\x40\x00\x00abc") + "\x00\x40\x00\x00abc",
		"\x00\x00\x00\x03abc" + modelSeal("\x00\x00\x00\x03abc"),
	}
}

// TestP17_1Short: a text that is longer than its length tells is a record of so many bytes, and the others stand behind it.
func TestP17_1Short(t *testing.T) {
	b := modelBytes("ab")
	d := holding(t, b+"c"+modelBytes("d"), 3)
	opens(t, d, "log", "ab")
	is(t, d, "log", b)
}

// TestP17_1Cut ends a file's bytes at each place: within 8 bytes, within a length, within a text, and between records.
func TestP17_1Cut(t *testing.T) {
	list := []string{"", "a", "twelve bytes", "", many(30)}
	b := modelBytes(list...)
	for at := range len(b) + 1 {
		n := 0
		for n < len(list) && len(modelBytes(list[:n+1]...)) <= at {
			n++
		}
		d := holding(t, b[:at], at/2)
		opens(t, d, "log", list[:n]...)
		is(t, d, "log", modelBytes(list[:n]...))
		opens(t, d, "log", list[:n]...)
	}
}

// TestP17_1Turned turns each byte of a file: the records ahead of it are left alone, though whole ones stand behind.
func TestP17_1Turned(t *testing.T) {
	list := []string{"first", "", "second", many(20)}
	b := modelBytes(list...)
	for at := range b {
		for _, by := range []byte{1, 2, 0x40, 0x80, 0xff} {
			turned := []byte(b)
			turned[at] ^= by
			n := 0
			for len(modelBytes(list[:n+1]...)) <= at {
				n++
			}
			d := holding(t, string(turned), len(b))
			opens(t, d, "log", list[:n]...)
			is(t, d, "log", modelBytes(list[:n]...))
		}
	}
}

// TestP17_1Append: none, one and many records come behind all, by one act, and wait.
func TestP17_1Append(t *testing.T) {
	d := disk.New()
	l := opens(t, d, "log")
	var all []string
	for n, list := range [][]string{{}, {"a"}, {}, {"", "b"}, {"c", "c", "c", "", many(5000)}, {""}} {
		appends(t, l, api.OK, list...)
		all = append(all, list...)
		stands(t, d, n+1, false)
		is(t, d, "log", modelBytes(all...))
	}
	if e := l.Append(nil, []byte{}, nil); e != api.OK {
		t.Errorf("error %d", e)
	}
	is(t, d, "log", modelBytes(append(all, "", "", "")...))
	fails(d, 20)
	is(t, d, "log", modelBytes(all...)[:20])
	opens(t, d, "log", "a")
}

// TestP17_1Sync: all records are safe, of one file alone.
func TestP17_1Sync(t *testing.T) {
	d := disk.New()
	l, other := opens(t, d, "log"), opens(t, d, "other")
	appends(t, l, api.OK, "a", "b")
	appends(t, l, api.OK, "c")
	appends(t, other, api.OK, "d")
	syncs(t, l, api.OK)
	syncs(t, l, api.OK)
	stands(t, d, 5, false)
	fails(d, 0)
	opens(t, d, "log", "a", "b", "c")
	opens(t, d, "other")
}

// TestP17_1Reset: none, one and many records are all, and safe, whatever the file had.
func TestP17_1Reset(t *testing.T) {
	for _, safe := range [][]string{{}, {"old"}, {"", many(100)}} {
		for _, waits := range [][]string{{}, {"w"}, {many(200), ""}} {
			for _, list := range [][]string{{}, {""}, {"n"}, {"new", "", many(300)}, {"old"}} {
				d := disk.New()
				l := opens(t, d, "log")
				appends(t, l, api.OK, safe...)
				syncs(t, l, api.OK)
				appends(t, l, api.OK, waits...)
				appends(t, opens(t, d, "other"), api.OK, "o")
				resets(t, l, api.OK, list...)
				stands(t, d, 5, false)
				is(t, d, "log", modelBytes(list...))
				appends(t, l, api.OK, "tail")
				fails(d, 5)
				is(t, d, "log", modelBytes(list...)+modelBytes("tail")[:5])
				is(t, d, "other", modelBytes("o")[:5])
				opens(t, d, "log", list...)
			}
		}
	}
}

// TestP17_1Full: records whose bytes a disk has no room for are refused, all of a call, and nothing is changed.
func TestP17_1Full(t *testing.T) {
	d := disk.New()
	l := opens(t, d, "log")
	appends(t, l, api.ErrFull, many(1<<22-11))
	resets(t, l, api.ErrFull, many(1<<22-11))
	appends(t, l, api.ErrFull, "a", many(1<<22-24))
	stands(t, d, 0, false)
	if got := d.Names(); len(got) != 0 {
		t.Errorf("files %q", got)
	}
	appends(t, l, api.OK, many(1<<22-12))
	full(t, d, l, many(1<<22-12))
	resets(t, l, api.OK, "a", many(1<<22-25))
	full(t, d, l, "a", many(1<<22-25))
	resets(t, l, api.OK, "a")
	d.Append("other", []byte(many(1<<22-13-30)))
	appends(t, l, api.ErrFull, "1", "2", "12345")
	appends(t, l, api.OK, "123456", "")
	full(t, d, l, "a", "123456", "")
}

// full: that nothing more has room, and that what takes no room is done, Open among it, though bytes stand behind the records.
func full(t *testing.T, d *disk.Disk, l *wal.Log, list ...string) {
	t.Helper()
	acts := d.Acts()
	b, _ := d.Read("log")
	appends(t, l, api.ErrFull, "")
	appends(t, l, api.ErrFull, "", "a")
	resets(t, l, api.ErrFull, append(slices.Clone(list), "")...)
	resets(t, l, api.ErrFull, many(1<<22))
	stands(t, d, acts, false)
	is(t, d, "log", string(b))
	appends(t, l, api.OK)
	syncs(t, l, api.OK)
	resets(t, l, api.OK, list...)
	opens(t, d, "log", list...)
	stands(t, d, acts+4, false)
	is(t, d, "log", string(b))
	if e := d.Install("log", append(b[:len(b)-1:len(b)-1], b[len(b)-1]^1)); e != api.OK {
		t.Errorf("error %d", e)
	}
	opens(t, d, "log", list[:len(list)-1]...)
	resets(t, l, api.OK, list...)
}

// TestP17_1Long: one record, and many, that fill a disk, are answered as they came.
func TestP17_1Long(t *testing.T) {
	d := disk.New()
	l := opens(t, d, "log")
	list := make([]string, 100000)
	for i := range list {
		list[i] = string([]byte{byte(i), byte(i >> 8), byte(i >> 16)}[:i%4])
	}
	appends(t, l, api.OK, list...)
	stands(t, d, 1, false)
	opens(t, d, "log", list...)
	resets(t, l, api.OK, make([]string, 1<<22/12)...)
	opens(t, d, "log", make([]string, 1<<22/12)...)
	resets(t, l, api.OK, many(1<<22-12))
	opens(t, d, "log", many(1<<22-12))
}

// TestP17_1PowerOff: ErrDown of everything, be the file there or not, and ahead of ErrFull; and all is as it was.
func TestP17_1PowerOff(t *testing.T) {
	d := disk.New()
	l := opens(t, d, "log")
	appends(t, l, api.OK, "a")
	syncs(t, l, api.OK)
	d.Append("torn", []byte("torn"))
	d.Off(9)
	for _, name := range []string{"log", "torn", "none", ""} {
		refuses(t, d, name, api.ErrDown)
	}
	for _, list := range [][]string{{}, {""}, {"b", "c"}, {many(1 << 22)}} {
		appends(t, l, api.ErrDown, list...)
		resets(t, l, api.ErrDown, list...)
		syncs(t, l, api.ErrDown)
	}
	stands(t, d, 3, true)
	d.On()
	is(t, d, "torn", "torn")
	appends(t, l, api.OK, "b")
	opens(t, d, "log", "a", "b")
	opens(t, d, "none")
}

// TestP17_1Torn: an elder log goes on behind a loss, too; what it appends behind a torn record is no record of Open's.
func TestP17_1Torn(t *testing.T) {
	d := disk.New()
	l := opens(t, d, "log")
	appends(t, l, api.OK, "a", "b")
	fails(d, 20)
	appends(t, l, api.OK, "c")
	syncs(t, l, api.OK)
	is(t, d, "log", modelBytes("a", "b")[:20]+modelBytes("c"))
	opens(t, d, "log", "a")
	appends(t, l, api.OK, "d")
	opens(t, d, "log", "a", "d")
}

// TestP17_1OpenFuse has the power go in an Open: in its Install the file stays as it was, in its Sync the records alone are left.
func TestP17_1OpenFuse(t *testing.T) {
	list := []string{"a", ""}
	b := modelBytes(list...)
	for _, tail := range append(tails(), "") {
		for safe := range len(b+tail) + 1 {
			d := holding(t, b+tail, safe)
			d.Arm(1, 2)
			refuses(t, d, "log", api.ErrDown)
			stands(t, d, 3, true)
			refuses(t, d, "log", api.ErrDown)
			d.On()
			is(t, d, "log", (b + tail)[:min(safe+2, len(b+tail))])
			if tail == "" || safe%5 != 0 {
				continue
			}
			d = holding(t, b+tail, safe)
			d.Arm(2, 0)
			refuses(t, d, "log", api.ErrDown)
			stands(t, d, 4, true)
			d.On()
			is(t, d, "log", b)
			opens(t, d, "log", list...)
		}
	}
}

// TestP17_1Fuse has the power go in an Append, a Sync and a Reset.
func TestP17_1Fuse(t *testing.T) {
	old := []string{"old", "older"}
	for _, keep := range []int{math.MinInt, -1, 0, 1, 12, 13, 27, 1000, math.MaxInt} {
		for how := range 3 {
			d := disk.New()
			l := opens(t, d, "log")
			appends(t, l, api.OK, old...)
			syncs(t, l, api.OK)
			appends(t, l, api.OK, "w")
			waits := modelBytes("w")
			d.Arm(1, keep)
			switch how {
			case 0:
				appends(t, l, api.ErrDown, "x", "y")
				waits += modelBytes("x", "y")
			case 1:
				syncs(t, l, api.ErrDown)
			case 2:
				resets(t, l, api.ErrDown, "x", "y")
			}
			stands(t, d, 4, true)
			d.On()
			is(t, d, "log", modelBytes(old...)+waits[:min(max(0, keep), len(waits))])
		}
	}
}

// TestP17_1TwoLogs: two logs of one file are of one file, and those of two files, or of two disks, know nothing of one another.
func TestP17_1TwoLogs(t *testing.T) {
	d, far := disk.New(), disk.New()
	one, two := opens(t, d, "log"), opens(t, d, "log")
	other, away := opens(t, d, "lo"), opens(t, far, "log")
	appends(t, one, api.OK, "a")
	appends(t, two, api.OK, "b")
	appends(t, other, api.OK, "c")
	appends(t, away, api.OK, "d")
	syncs(t, two, api.OK)
	fails(d, 0)
	opens(t, d, "log", "a", "b")
	opens(t, d, "lo")
	opens(t, far, "log", "d")
	resets(t, one, api.OK, "e")
	appends(t, two, api.OK, "f")
	opens(t, d, "log", "e", "f")
	opens(t, far, "log", "d")
	stands(t, far, 3, false)
}

// roomy: records of which each has spare room behind it, in a list that has some, too.
func roomy(list ...string) [][]byte {
	var out [][]byte
	for _, text := range list {
		b := []byte(text + strings.Repeat("#", 64))
		out = append(out, b[:len(text)])
	}
	return append(out, []byte("spare"))[:len(out)]
}

// untouched: that they are as roomy made them.
func untouched(t *testing.T, got [][]byte, list ...string) {
	t.Helper()
	for i, text := range list {
		if b := got[i]; string(b[:len(b)+64]) != text+strings.Repeat("#", 64) {
			t.Errorf("%q became %q", text, b[:len(b)+64])
		}
	}
	if len(got) != len(list) || string(got[:len(list)+1][len(list)]) != "spare" {
		t.Errorf("the list became %q", got[:len(list)+1])
	}
}

// TestP17_3HandedIn: records that are handed in, and their list, stay as they are, spare room included, and aren't kept.
func TestP17_3HandedIn(t *testing.T) {
	for _, texts := range [][]string{{}, {""}, {"hello"}, {"a", "", many(100)}} {
		d := disk.New()
		l := opens(t, d, "log")
		for _, call := range []func(list ...[]byte) api.Errno{l.Append, l.Reset} {
			list := roomy(texts...)
			resets(t, l, api.OK)
			if e := call(list...); e != api.OK {
				t.Errorf("error %d", e)
			}
			appends(t, l, api.OK, "tail")
			untouched(t, list, texts...)
			for i, b := range list {
				clear(b[:len(b)+64])
				list[i] = []byte("else")
			}
			list = append(list, []byte("more"))
			opens(t, d, "log", append(slices.Clone(texts), "tail")...)
			syncs(t, l, api.OK)
			fails(d, 0)
			opens(t, d, "log", append(slices.Clone(texts), "tail")...)
		}
		list := roomy(texts...)
		d.Arm(1, 9)
		l.Append(list...)
		l.Append(list...)
		l.Reset(list...)
		untouched(t, list, texts...)
	}
}

// TestP17_3SameTwice: one record many times in a call is as many records.
func TestP17_3SameTwice(t *testing.T) {
	d, b := disk.New(), []byte("same")
	l := opens(t, d, "log")
	l.Append(b, b[:2], b)
	_, list, _ := wal.Open(d, "log")
	l.Append(list...)
	clear(b)
	clear(list[0])
	opens(t, d, "log", "same", "sa", "same", "same", "sa", "same")
	_, list, _ = wal.Open(d, "log")
	l.Reset(list[1], list[1], list[0])
	clear(list[1])
	opens(t, d, "log", "sa", "sa", "same")
}

// TestP17_3Answers: the records of an Open are new, each by itself, and neither the disk nor another Open sees what is written into them.
func TestP17_3Answers(t *testing.T) {
	d := disk.New()
	texts := []string{"first", "", "second", many(100), "second"}
	appends(t, opens(t, d, "log"), api.OK, texts...)
	b, _ := d.Read("log")
	l, one, _ := wal.Open(d, "log")
	_, two, _ := wal.Open(d, "log")
	for i, text := range texts {
		if string(one[i]) != text {
			t.Errorf("record %d became %q", i, one[i])
		}
		room := one[i][:cap(one[i])]
		for k := range room {
			room[k] = 9
		}
	}
	one[0] = nil
	is(t, d, "log", string(b))
	for i, text := range texts {
		if string(two[i]) != text {
			t.Errorf("record %d became %q", i, two[i])
		}
	}
	opens(t, d, "log", texts...)
	resets(t, l, api.OK, "new")
	appends(t, l, api.OK, "newer")
	fails(d, 3)
	opens(t, d, "log", "new")
	if string(two[0]) != "first" || string(two[2]) != "second" {
		t.Errorf("%q", two)
	}
}
