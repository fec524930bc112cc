package disk_test

import (
	"bytes"
	"math"
	"slices"
	"strings"
	"testing"

	"wapentake/api"
	"wapentake/disk"
)

// odd are numbers of bytes to keep, or of acts, at which a sum or a difference may go wrong.
func odd() []int {
	return []int{math.MinInt, math.MinInt + 1, -1 << 31, -2, -1, 0, 1, 2, 3, 4, 5, 6, 7, 1 << 22, 1 << 31, math.MaxInt - 1, math.MaxInt}
}

// is: that a file has these bytes.
func is(t *testing.T, d *disk.Disk, name, wanted string) {
	t.Helper()
	if b, e := d.Read(name); string(b) != wanted || e != api.OK {
		t.Errorf("%q: %d bytes %.40q, error %d, not %d bytes %.40q", name, len(b), b, e, len(wanted), wanted)
	}
}

// none: that Read answers an error, and nothing else.
func none(t *testing.T, d *disk.Disk, name string, e api.Errno) {
	t.Helper()
	if b, got := d.Read(name); len(b) != 0 || got != e {
		t.Errorf("%q: %.40q, error %d, not %d", name, b, got, e)
	}
}

// named: that these are all files.
func named(t *testing.T, d *disk.Disk, wanted ...string) {
	t.Helper()
	if got := d.Names(); !slices.Equal(got, wanted) {
		t.Errorf("files %q, not %q", got, wanted)
	}
}

// stands: how many acts there were, and whether the power is off.
func stands(t *testing.T, d *disk.Disk, acts int, down bool) {
	t.Helper()
	if d.Acts() != acts || d.Down() != down {
		t.Errorf("%d acts, down %t, not %d and %t", d.Acts(), d.Down(), acts, down)
	}
}

// puts, syncs and installs: that the call answers this.
func puts(t *testing.T, d *disk.Disk, name, b string, e api.Errno) {
	t.Helper()
	if got := d.Append(name, []byte(b)); got != e {
		t.Errorf("Append of %d bytes to %q: %d, not %d", len(b), name, got, e)
	}
}

func syncs(t *testing.T, d *disk.Disk, name string, e api.Errno) {
	t.Helper()
	if got := d.Sync(name); got != e {
		t.Errorf("Sync of %q: %d, not %d", name, got, e)
	}
}

func installs(t *testing.T, d *disk.Disk, name, b string, e api.Errno) {
	t.Helper()
	if got := d.Install(name, []byte(b)); got != e {
		t.Errorf("Install of %d bytes as %q: %d, not %d", len(b), name, got, e)
	}
}

// fails: the power goes, keeping so many, and is back.
func fails(t *testing.T, d *disk.Disk, keep int) {
	t.Helper()
	d.Off(keep)
	stands(t, d, d.Acts(), true)
	d.On()
	stands(t, d, d.Acts(), false)
}

// many: so many bytes.
func many(n int) string { return strings.Repeat("m", n) }

// TestP16_1Example is the chapter's.
func TestP16_1Example(t *testing.T) {
	d := disk.New()
	puts(t, d, "a", "xy", api.OK)
	syncs(t, d, "a", api.OK)
	puts(t, d, "a", "z", api.OK)
	is(t, d, "a", "xyz")
	fails(t, d, 0)
	is(t, d, "a", "xy")
	stands(t, d, 3, false)
}

// TestP16_1New: one without files, whose power is on.
func TestP16_1New(t *testing.T) {
	d := disk.New()
	named(t, d)
	stands(t, d, 0, false)
	none(t, d, "", api.ErrNone)
	none(t, d, "a", api.ErrNone)
	fails(t, d, 9)
	named(t, d)
	stands(t, d, 0, false)
}

// TestP16_1Nil asks a nil disk everything, with good arguments and bad ones.
func TestP16_1Nil(t *testing.T) {
	var d *disk.Disk
	for _, name := range []string{"", "a"} {
		for _, b := range []string{"", "x", many(1<<22 + 1)} {
			puts(t, d, name, b, api.ErrNil)
			installs(t, d, name, b, api.ErrNil)
		}
		syncs(t, d, name, api.ErrNil)
		none(t, d, name, api.ErrNil)
	}
	for _, n := range odd() {
		d.Off(n)
		stands(t, d, 0, false)
		d.Arm(n, n)
		puts(t, d, "a", "x", api.ErrNil)
		d.On()
		stands(t, d, 0, false)
	}
	named(t, d)
}

// TestP16_1Append: bytes come behind a file's; nil and no bytes are the same, and make a file, too.
func TestP16_1Append(t *testing.T) {
	d := disk.New()
	if e := d.Append("nil", nil); e != api.OK {
		t.Errorf("error %d", e)
	}
	puts(t, d, "empty", "", api.OK)
	named(t, d, "empty", "nil")
	is(t, d, "empty", "")
	is(t, d, "nil", "")
	puts(t, d, "a", "x", api.OK)
	puts(t, d, "a", "", api.OK)
	puts(t, d, "a", "yz", api.OK)
	is(t, d, "a", "xyz")
	syncs(t, d, "a", api.OK)
	puts(t, d, "a", "\x00\xff", api.OK)
	is(t, d, "a", "xyz\x00\xff")
	stands(t, d, 7, false)
	fails(t, d, 0)
	is(t, d, "a", "xyz")
	puts(t, d, "a", "q", api.OK)
	is(t, d, "a", "xyzq")
	is(t, d, "empty", "")
}

// TestP16_1Sync: all bytes are safe, and a file that wasn't there is; of one file alone.
func TestP16_1Sync(t *testing.T) {
	d := disk.New()
	syncs(t, d, "none", api.OK)
	syncs(t, d, "", api.OK)
	named(t, d, "", "none")
	is(t, d, "none", "")
	puts(t, d, "a", "x", api.OK)
	puts(t, d, "a", "y", api.OK)
	puts(t, d, "b", "z", api.OK)
	syncs(t, d, "a", api.OK)
	syncs(t, d, "a", api.OK)
	stands(t, d, 7, false)
	fails(t, d, -1)
	named(t, d, "", "a", "b", "none")
	is(t, d, "a", "xy")
	is(t, d, "b", "")
	syncs(t, d, "a", api.OK)
	fails(t, d, 0)
	is(t, d, "a", "xy")
}

// TestP16_1Install: just these bytes, and safe, whatever the file had; and of one file alone.
func TestP16_1Install(t *testing.T) {
	for _, safe := range []string{"", "old", many(100)} {
		for _, waits := range []string{"", "w", many(200)} {
			for _, b := range []string{"", "n", "new", many(300)} {
				d := disk.New()
				puts(t, d, "b", "other", api.OK)
				puts(t, d, "a", safe, api.OK)
				syncs(t, d, "a", api.OK)
				puts(t, d, "a", waits, api.OK)
				installs(t, d, "a", b, api.OK)
				is(t, d, "a", b)
				stands(t, d, 5, false)
				puts(t, d, "a", "tail", api.OK)
				is(t, d, "a", b+"tail")
				fails(t, d, 2)
				is(t, d, "a", b+"ta")
				is(t, d, "b", "ot")
			}
		}
	}
	d := disk.New()
	installs(t, d, "", "x", api.OK)
	if e := d.Install("nil", nil); e != api.OK {
		t.Errorf("error %d", e)
	}
	fails(t, d, 0)
	named(t, d, "", "nil")
	is(t, d, "", "x")
	is(t, d, "nil", "")
}

// TestP16_1Read: a file that isn't there is none, and is none behind the question, too.
func TestP16_1Read(t *testing.T) {
	d := disk.New()
	puts(t, d, "ab", "x", api.OK)
	for _, name := range []string{"", "a", "abc", "AB", "ab\x00", " ab"} {
		none(t, d, name, api.ErrNone)
	}
	named(t, d, "ab")
	stands(t, d, 1, false)
}

// TestP16_1Names: any texts are names, and rise by their bytes, in whatever order they come.
func TestP16_1Names(t *testing.T) {
	names := []string{"", "\x00", "\x00\x00", " ", "/", "A", "B", "a", "a\x00", "a/b", "ab", "b", many(5000), many(5001), "\xc3", "é", "\xff", "\xff\xfe"}
	slices.Sort(names)
	for turn := range names {
		d := disk.New()
		for i := range names {
			name := names[(i*7+turn)%len(names)]
			switch i % 3 {
			case 0:
				puts(t, d, name, name, api.OK)
			case 1:
				installs(t, d, name, name, api.OK)
			case 2:
				syncs(t, d, name, api.OK)
				puts(t, d, name, name, api.OK)
			}
		}
		named(t, d, names...)
		for _, name := range names {
			is(t, d, name, name)
		}
		d.Off(1 << 20)
		named(t, d)
		d.On()
		named(t, d, names...)
	}
}

// TestP16_1ManyNames: names rise though there are many.
func TestP16_1ManyNames(t *testing.T) {
	d, wanted := disk.New(), []string{}
	for n := range 5000 {
		name := string([]byte{byte(n * 77), byte(n >> 8), byte(n)})
		wanted = append(wanted, name)
		syncs(t, d, name, api.OK)
	}
	slices.Sort(wanted)
	named(t, d, wanted...)
}

// TestP16_1Full: just MaxDisk bytes of all files together can be, and not one more, be they safe or not.
func TestP16_1Full(t *testing.T) {
	for _, parts := range [][]int{{1 << 22}, {1 << 21, 1 << 21}, {1, 1<<22 - 1}, {1<<22 - 1, 1}, {0, 1 << 22, 0}, {1 << 20, 3, 1<<21 - 3, 1 << 20}} {
		for how := range 3 {
			d := disk.New()
			for i, n := range parts {
				name := string(rune('a' + i))
				switch how {
				case 0:
					puts(t, d, name, many(n), api.OK)
				case 1:
					puts(t, d, name, many(n), api.OK)
					syncs(t, d, name, api.OK)
				case 2:
					installs(t, d, name, many(n), api.OK)
				}
			}
			full(t, d)
		}
	}
	d := disk.New()
	puts(t, d, "a", many(1<<22+1), api.ErrFull)
	installs(t, d, "a", many(1<<22+1), api.ErrFull)
	none(t, d, "a", api.ErrNone)
	named(t, d)
	stands(t, d, 0, false)
}

// full: that nothing more has room on a disk, and that what takes no room is done.
func full(t *testing.T, d *disk.Disk) {
	t.Helper()
	names, acts := d.Names(), d.Acts()
	a, _ := d.Read("a")
	puts(t, d, "a", "x", api.ErrFull)
	puts(t, d, "new", "x", api.ErrFull)
	installs(t, d, "a", string(a)+"x", api.ErrFull)
	installs(t, d, "new", "x", api.ErrFull)
	puts(t, d, "new", many(1<<22+1), api.ErrFull)
	stands(t, d, acts, false)
	named(t, d, names...)
	is(t, d, "a", string(a))
	puts(t, d, "a", "", api.OK)
	puts(t, d, "new", "", api.OK)
	installs(t, d, "newer", "", api.OK)
	syncs(t, d, "a", api.OK)
	installs(t, d, "a", string(a), api.OK)
	stands(t, d, acts+5, false)
	puts(t, d, "new", "x", api.ErrFull)
	is(t, d, "a", string(a))
}

// TestP16_1FullInstall: Install takes the place of all that the file had, safe or not, and of nothing else.
func TestP16_1FullInstall(t *testing.T) {
	d := disk.New()
	puts(t, d, "a", many(1000), api.OK)
	syncs(t, d, "a", api.OK)
	puts(t, d, "a", many(1000), api.OK)
	puts(t, d, "b", many(50), api.OK)
	installs(t, d, "a", many(1<<22-49), api.ErrFull)
	is(t, d, "a", many(2000))
	installs(t, d, "c", many(1<<22-2049), api.ErrFull)
	none(t, d, "c", api.ErrNone)
	installs(t, d, "a", many(1<<22-50), api.OK)
	puts(t, d, "b", "x", api.ErrFull)
	installs(t, d, "a", many(7), api.OK)
	puts(t, d, "b", many(1<<22-56), api.ErrFull)
	puts(t, d, "b", many(1<<22-57), api.OK)
	installs(t, d, "b", "", api.OK)
	installs(t, d, "a", many(1<<22), api.OK)
	installs(t, d, "a", many(1<<22), api.OK)
	installs(t, d, "a", many(1<<22+1), api.ErrFull)
	installs(t, d, "b", "x", api.ErrFull)
	is(t, d, "a", many(1<<22))
	is(t, d, "b", "")
}

// TestP16_1FullLoss: what is gone with the power makes room, and what is kept doesn't.
func TestP16_1FullLoss(t *testing.T) {
	for _, keep := range []int{-1, 0, 1, 1 << 20, 1 << 21, 1 << 22, math.MaxInt} {
		d := disk.New()
		installs(t, d, "a", many(1<<21), api.OK)
		puts(t, d, "b", many(1<<20), api.OK)
		puts(t, d, "a", many(1<<20), api.OK)
		fails(t, d, keep)
		kept := min(max(0, keep), 1<<20)
		is(t, d, "a", many(1<<21+kept))
		is(t, d, "b", many(kept))
		puts(t, d, "c", many(1<<21-2*kept+1), api.ErrFull)
		puts(t, d, "c", many(1<<21-2*kept), api.OK)
		puts(t, d, "c", "x", api.ErrFull)
	}
}

// TestP16_1FullFuse: what is refused is no act, and burns no fuse; what the fuse's act lost makes room.
func TestP16_1FullFuse(t *testing.T) {
	d := disk.New()
	installs(t, d, "a", many(1<<22-10), api.OK)
	puts(t, d, "b", "12345", api.OK)
	d.Arm(2, 2)
	for range 3 {
		puts(t, d, "b", "123456", api.ErrFull)
		installs(t, d, "b", "12345678901", api.ErrFull)
		installs(t, d, "c", "123456", api.ErrFull)
	}
	stands(t, d, 2, false)
	puts(t, d, "c", "", api.OK)
	puts(t, d, "b", "123456", api.ErrFull)
	puts(t, d, "b", "67890", api.ErrDown)
	stands(t, d, 4, true)
	d.On()
	is(t, d, "b", "12")
	puts(t, d, "c", "123456789", api.ErrFull)
	puts(t, d, "c", "12345678", api.OK)
	d.Arm(1, 0)
	installs(t, d, "a", "x", api.ErrDown)
	d.On()
	puts(t, d, "c", "123456789", api.ErrFull)
	puts(t, d, "c", "12345678", api.OK)
}

// TestP16_1Keep: of each file's bytes that wait so many are kept, the first ones, and are safe from then on.
func TestP16_1Keep(t *testing.T) {
	for _, keep := range odd() {
		d := disk.New()
		puts(t, d, "waits", "12345", api.OK)
		puts(t, d, "both", "abc", api.OK)
		syncs(t, d, "both", api.OK)
		puts(t, d, "both", "de", api.OK)
		puts(t, d, "both", "", api.OK)
		puts(t, d, "both", "f", api.OK)
		installs(t, d, "safe", "xyz", api.OK)
		syncs(t, d, "empty", api.OK)
		fails(t, d, keep)
		for name, parts := range map[string][2]string{"waits": {"", "12345"}, "both": {"abc", "def"}, "safe": {"xyz", ""}, "empty": {"", ""}} {
			is(t, d, name, parts[0]+parts[1][:min(max(0, keep), len(parts[1]))])
		}
		kept, _ := d.Read("waits")
		puts(t, d, "waits", "more", api.OK)
		fails(t, d, 0)
		is(t, d, "waits", string(kept))
		named(t, d, "both", "empty", "safe", "waits")
		stands(t, d, 9, false)
	}
}

// TestP16_1PowerOff: each call while the power is off; Off once more changes nothing, whatever it would keep.
func TestP16_1PowerOff(t *testing.T) {
	d := disk.New()
	puts(t, d, "a", "12345", api.OK)
	d.Off(3)
	for _, keep := range odd() {
		for _, name := range []string{"", "a", "none"} {
			puts(t, d, name, "x", api.ErrDown)
			puts(t, d, name, "", api.ErrDown)
			puts(t, d, name, many(1<<22+1), api.ErrDown)
			syncs(t, d, name, api.ErrDown)
			installs(t, d, name, "x", api.ErrDown)
			installs(t, d, name, many(1<<22+1), api.ErrDown)
			none(t, d, name, api.ErrDown)
		}
		named(t, d)
		stands(t, d, 1, true)
		d.Off(keep)
	}
	d.On()
	named(t, d, "a")
	is(t, d, "a", "123")
	stands(t, d, 1, false)
}

// TestP16_1OnTwice: On while the power is on changes nothing, nor ends a fuse, nor makes bytes safe.
func TestP16_1OnTwice(t *testing.T) {
	d := disk.New()
	d.On()
	d.Arm(3, 1)
	puts(t, d, "a", "x", api.OK)
	d.On()
	puts(t, d, "a", "y", api.OK)
	d.On()
	puts(t, d, "a", "z", api.ErrDown)
	d.On()
	d.On()
	is(t, d, "a", "x")
	stands(t, d, 3, false)
}

// TestP16_1Arm: the power goes in the n-th act, of whatever kind the acts are; in none of an n below 1.
func TestP16_1Arm(t *testing.T) {
	for _, n := range odd() {
		for before := range 3 {
			d := disk.New()
			for range before {
				puts(t, d, "b", "x", api.OK)
			}
			d.Arm(n, 1)
			for i := 1; i <= 9; i++ {
				e := api.OK
				if i == n {
					e = api.ErrDown
				}
				switch i % 3 {
				case 0:
					puts(t, d, "a", "xy", e)
				case 1:
					syncs(t, d, "a", e)
				case 2:
					installs(t, d, "a", "z", e)
				}
				stands(t, d, before+i, i == n)
				d.On()
			}
		}
	}
}

// TestP16_1ArmFar: the power goes in an act far off, and in no earlier one.
func TestP16_1ArmFar(t *testing.T) {
	d := disk.New()
	d.Arm(20000, 3)
	for range 19999 {
		puts(t, d, "a", "1", api.OK)
	}
	d.Read("a")
	d.Names()
	stands(t, d, 19999, false)
	puts(t, d, "a", "1", api.ErrDown)
	d.On()
	is(t, d, "a", "111")
}

// TestP16_1ArmAgain: an Arm ends the elder one's fuse, and what it would keep, also one of an n below 1.
func TestP16_1ArmAgain(t *testing.T) {
	for _, n := range []int{math.MinInt, -1, 0, 1, 2, 3} {
		for elder := 1; elder <= 3; elder++ {
			d := disk.New()
			puts(t, d, "b", "12345", api.OK)
			d.Arm(elder, 1)
			d.Arm(n, 2)
			for i := 1; i <= 5; i++ {
				if i == n {
					syncs(t, d, "a", api.ErrDown)
					d.On()
					is(t, d, "b", "12")
				} else {
					syncs(t, d, "a", api.OK)
				}
			}
			stands(t, d, 6, false)
		}
	}
}

// TestP16_1ArmOnce: a fuse that has burnt burns no more.
func TestP16_1ArmOnce(t *testing.T) {
	for n := 1; n <= 3; n++ {
		d := disk.New()
		d.Arm(n, 0)
		for i := 1; i <= 10; i++ {
			if i == n {
				syncs(t, d, "a", api.ErrDown)
				d.On()
			} else {
				syncs(t, d, "a", api.OK)
			}
		}
	}
}

// TestP16_1ArmOff: a loss of power ends a fuse; one armed while it is off burns from the next act on, and Off once more, which is no loss, doesn't end it.
func TestP16_1ArmOff(t *testing.T) {
	d := disk.New()
	puts(t, d, "a", "12345", api.OK)
	d.Arm(1, 4)
	fails(t, d, 2)
	is(t, d, "a", "12")
	puts(t, d, "a", "67", api.OK)
	d.Off(0)
	d.Arm(2, 1)
	puts(t, d, "a", "x", api.ErrDown)
	syncs(t, d, "a", api.ErrDown)
	d.Off(9)
	d.On()
	puts(t, d, "a", "89", api.OK)
	stands(t, d, 3, false)
	puts(t, d, "a", "0", api.ErrDown)
	stands(t, d, 4, true)
	d.On()
	is(t, d, "a", "128")
}

// TestP16_1FuseAct: what the act leaves in which the power goes: of an Append bytes that waited, of a Sync and an Install nothing.
func TestP16_1FuseAct(t *testing.T) {
	for _, keep := range odd() {
		first := func(b string) string { return b[:min(max(0, keep), len(b))] }
		for _, c := range []struct {
			act  func(d *disk.Disk, name string) api.Errno
			adds string // what waits when the power goes
			is   bool   // whether it makes a file
		}{
			{func(d *disk.Disk, name string) api.Errno { return d.Append(name, []byte("fgh")) }, "fgh", true},
			{func(d *disk.Disk, name string) api.Errno { return d.Append(name, nil) }, "", true},
			{func(d *disk.Disk, name string) api.Errno { return d.Sync(name) }, "", false},
			{func(d *disk.Disk, name string) api.Errno { return d.Install(name, []byte("new")) }, "", false},
			{func(d *disk.Disk, name string) api.Errno { return d.Install(name, nil) }, "", false},
		} {
			for _, name := range []string{"a", "none"} {
				d := disk.New()
				installs(t, d, "a", "abc", api.OK)
				puts(t, d, "a", "de", api.OK)
				puts(t, d, "b", "123456", api.OK)
				d.Arm(1, keep)
				if e := c.act(d, name); e != api.ErrDown {
					t.Errorf("error %d", e)
				}
				stands(t, d, 4, true)
				d.On()
				is(t, d, "b", first("123456"))
				switch {
				case name == "a":
					is(t, d, "a", "abc"+first("de"+c.adds))
				case c.is:
					is(t, d, "none", first(c.adds))
				default:
					none(t, d, "none", api.ErrNone)
				}
				if name == "none" {
					is(t, d, "a", "abc"+first("de"))
				}
			}
		}
	}
}

// TestP16_1TwoDisks know nothing of one another.
func TestP16_1TwoDisks(t *testing.T) {
	a, b := disk.New(), disk.New()
	puts(t, a, "f", many(1<<22), api.OK)
	a.Arm(1, 0)
	puts(t, b, "f", "x", api.OK)
	puts(t, b, "g", "x", api.OK)
	a.Off(0)
	stands(t, a, 1, true)
	stands(t, b, 2, false)
	is(t, b, "f", "x")
	named(t, b, "f", "g")
	b.Off(9)
	a.On()
	stands(t, b, 2, true)
	is(t, a, "f", "")
	named(t, a, "f")
}

// TestP16_2Sure: what was synced or installed is there behind losses of every kind, one behind the other.
func TestP16_2Sure(t *testing.T) {
	d := disk.New()
	puts(t, d, "log", "one", api.OK)
	syncs(t, d, "log", api.OK)
	installs(t, d, "snap", "whole", api.OK)
	for i, keep := range odd() {
		puts(t, d, "log", "two", api.OK)
		puts(t, d, "snap", "tail", api.OK)
		d.Arm(i%3, keep)
		installs(t, d, "snap2", "x", []api.Errno{api.OK, api.ErrDown, api.OK}[i%3])
		fails(t, d, keep)
		log, _ := d.Read("log")
		snap, _ := d.Read("snap")
		if !bytes.HasPrefix(log, []byte("one")) || !bytes.HasPrefix(snap, []byte("whole")) {
			t.Errorf("keep %d: %q, %q", keep, log, snap)
		}
		installs(t, d, "log", "one", api.OK)
		installs(t, d, "snap", "whole", api.OK)
	}
	is(t, d, "log", "one")
	is(t, d, "snap", "whole")
}

// TestP16_2WholeInstall: an Install in which the power goes leaves the old file, and one that was ended is there as a whole.
func TestP16_2WholeInstall(t *testing.T) {
	for n := 1; n <= 4; n++ {
		for _, keep := range odd() {
			d := disk.New()
			installs(t, d, "snap", "old one", api.OK)
			d.Arm(n, keep)
			have := "old one"
			for _, b := range []string{"new", "", "newest of all"} {
				if d.Install("snap", []byte(b)) != api.OK {
					break
				}
				have = b
			}
			d.Off(keep)
			d.On()
			is(t, d, "snap", have)
		}
	}
}

// roomy: the bytes with spare room behind them, which is filled with ones.
func roomy(b string) []byte {
	all := append([]byte(b), bytes.Repeat([]byte{1}, 64)...)
	return all[:len(b)]
}

// untouched: that bytes that were handed in are as roomy made them.
func untouched(t *testing.T, got []byte, b string) {
	t.Helper()
	if !bytes.Equal(got[:len(b)+64], roomy(b)[:len(b)+64]) {
		t.Errorf("%q became %q", b, got[:len(b)+64])
	}
}

// TestP16_3HandedIn: bytes that are handed in stay as they are, spare room included, and aren't kept.
func TestP16_3HandedIn(t *testing.T) {
	for _, text := range []string{"", "x", "hello", many(100)} {
		d, b := disk.New(), roomy(text)
		for _, call := range []func(name string, b []byte) api.Errno{d.Append, d.Install} {
			for _, name := range []string{"a", "b"} {
				if e := call(name, b); e != api.OK {
					t.Errorf("error %d", e)
				}
				puts(t, d, name, "tail", api.OK)
				untouched(t, b, text)
				is(t, d, name, text+"tail")
				for i := range b[:len(b)+64] {
					b[:len(b)+64][i] = 9
				}
				is(t, d, name, text+"tail")
				syncs(t, d, name, api.OK)
				fails(t, d, 0)
				is(t, d, name, text+"tail")
				b = roomy(text)
				installs(t, d, name, "", api.OK)
			}
		}
		d.Arm(1, 9)
		d.Append("a", b)
		untouched(t, b, text)
		d.Append("a", b)
		d.Install("a", b)
		untouched(t, b, text)
	}
}

// TestP16_3SameTwice: the same bytes in two files, or twice in one, are copies.
func TestP16_3SameTwice(t *testing.T) {
	d, b := disk.New(), []byte("same")
	d.Install("a", b)
	d.Install("b", b)
	d.Append("c", b)
	d.Append("c", b)
	c, _ := d.Read("c")
	d.Install("d", c)
	d.Append("c", c)
	puts(t, d, "a", "1", api.OK)
	puts(t, d, "b", "2", api.OK)
	clear(b)
	clear(c)
	is(t, d, "a", "same1")
	is(t, d, "b", "same2")
	is(t, d, "c", "samesamesamesame")
	is(t, d, "d", "samesame")
}

// TestP16_3Answers: what Read and Names answer is new each time, and the disk doesn't see what is written into it, spare room included.
func TestP16_3Answers(t *testing.T) {
	d := disk.New()
	puts(t, d, "a", "first", api.OK)
	puts(t, d, "b", "second", api.OK)
	one, _ := d.Read("a")
	two, _ := d.Read("a")
	clear(one[:cap(one)])
	if string(two) != "first" {
		t.Errorf("%q", two)
	}
	is(t, d, "a", "first")
	puts(t, d, "a", "more", api.OK)
	clear(two[:cap(two)])
	is(t, d, "a", "firstmore")
	three, _ := d.Read("a")
	puts(t, d, "a", "!", api.OK)
	installs(t, d, "a", "gone", api.OK)
	fails(t, d, 0)
	if string(three) != "firstmore" {
		t.Errorf("%q", three)
	}
	names, others := d.Names(), d.Names()
	clear(names[:cap(names)])
	if !slices.Equal(others, []string{"a", "b"}) {
		t.Errorf("%q", others)
	}
	named(t, d, "a", "b")
	syncs(t, d, "0", api.OK)
	if !slices.Equal(others, []string{"a", "b"}) {
		t.Errorf("%q", others)
	}
}
