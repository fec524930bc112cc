package snap_test

import (
	"encoding/hex"
	"fmt"
	"math"
	"math/rand"
	"slices"
	"strings"
	"testing"

	"wapentake/api"
	"wapentake/chunk"
	"wapentake/disk"
	"wapentake/sha"
	"wapentake/snap"
	"wapentake/state"
	"wapentake/tree"
)

// reads: that bytes are this snapshot's; the model says so, too.
func reads(t *testing.T, what, b string, wanted api.Snap) {
	t.Helper()
	s, e := snap.Read([]byte(b))
	if model, code := modelRead(b); code != api.OK || !same(model, wanted) {
		t.Fatalf("%s: the model's error %d: %s", what, code, told(model))
	}
	if e != api.OK || !same(s, wanted) {
		t.Errorf("%s: error %d: %s, not %s", what, e, told(s), told(wanted))
	}
}

// refuses: that bytes are no snapshot's; the model says so, too.
func refuses(t *testing.T, what, b string) {
	t.Helper()
	if _, code := modelRead(b); code != api.ErrForm {
		t.Fatalf("%s: the model's error %d", what, code)
	}
	if s, e := snap.Read([]byte(b)); e != api.ErrForm || !same(s, api.Snap{}) {
		t.Errorf("%s: error %d: %s", what, e, told(s))
	}
}

// as: that bytes are read as the model reads them; whether they are a snapshot's.
func as(t *testing.T, what, b string) bool {
	t.Helper()
	s, e := snap.Read([]byte(b))
	if wanted, code := modelRead(b); e != code || !same(s, wanted) {
		t.Fatalf("%s: error %d: %s; the model's: %d: %s", what, e, told(s), code, told(wanted))
	}
	return e == api.OK
}

// saves: that a Save answers this.
func saves(t *testing.T, d *disk.Disk, name string, s api.Snap, e api.Errno) {
	t.Helper()
	if got := snap.Save(d, name, s); got != e {
		t.Errorf("Save to %.20q: error %d, not %d", name, got, e)
	}
}

// loads: that a file has this snapshot.
func loads(t *testing.T, d *disk.Disk, name string, wanted api.Snap) {
	t.Helper()
	if s, e := snap.Load(d, name); e != api.OK || !same(s, wanted) {
		t.Errorf("Load of %.20q: error %d: %s, not %s", name, e, told(s), told(wanted))
	}
}

// fails: that a Load answers an error, and nothing else.
func fails(t *testing.T, d *disk.Disk, name string, e api.Errno) {
	t.Helper()
	if s, got := snap.Load(d, name); got != e || !same(s, api.Snap{}) {
		t.Errorf("Load of %.20q: error %d, not %d: %s", name, got, e, told(s))
	}
}

// is: that a file has these bytes.
func is(t *testing.T, d *disk.Disk, name, wanted string) {
	t.Helper()
	if b, e := d.Read(name); string(b) != wanted || e != api.OK {
		t.Errorf("%.20q: %d bytes %.60q, error %d, not %d bytes %.60q", name, len(b), b, e, len(wanted), wanted)
	}
}

// stands: how many acts there were, and whether the power is off.
func stands(t *testing.T, d *disk.Disk, acts int, down bool) {
	t.Helper()
	if d.Acts() != acts || d.Down() != down {
		t.Errorf("%d acts, down %t, not %d and %t", d.Acts(), d.Down(), acts, down)
	}
}

// loses: the power goes, keeping so many, and is back.
func loses(d *disk.Disk, keep int) {
	d.Off(keep)
	d.On()
}

// TestP18_1Example is the chapter's: of a disk without files, and of one that has others.
func TestP18_1Example(t *testing.T) {
	d := disk.New()
	fails(t, d, "snap", api.ErrNone)
	saves(t, d, "sna", at(1, one()), api.OK)
	saves(t, d, "snaps", at(2, one()), api.OK)
	for _, name := range []string{"snap", "", "Snap", "snap\x00", "sna ", long(3000)} {
		fails(t, d, name, api.ErrNone)
	}
	stands(t, d, 2, false)
}

// known are snapshots, and the digests, the first bytes behind these, and the last ones, that another program made of the chapter's words.
func known() []struct {
	s                  api.Snap
	digest, head, tail string
} {
	two := api.State{Config: api.Config{Epoch: 2, Members: []api.Member{{Id: 3, Key: api.Key{Root: rising(), Height: 6}}, {Id: 63}}}}
	two.Pairs = []api.Pair{{Key: "", Val: "none"}, {Key: "k", Val: "v"}}
	two.Replies = []api.Reply{{Client: 1, Num: 7}, {Client: 64, Num: lastNum, Code: api.ErrOther, Vals: []string{"a", ""}}}
	none, full, up := strings.Repeat("00", 32), strings.Repeat("ff", 32), "0102030405060708090a0b0c0d0e0f101112131415161718191a1b1c1d1e1f20"
	alone := "0000000000000000" + "0000000000000001" + "0000000000000001" + "0000000000000000" + none + "0000000000000000" + "0000000000000000"
	return []struct {
		s                  api.Snap
		digest, head, tail string
	}{
		{api.Snap{}, "8a64a6610796fb1f8655d1c50289322b3f7f05a237436f4835e2b3693fddd71c", "0000000000000000" + none + "00000020", none},
		{api.Snap{State: one()}, "8934c4405050dcadfb1834a6c63996949b5c6219117fb5a58f10daac90570342", "0000000000000000" + none + "00000050", alone},
		{api.Snap{Height: 9, Tip: rising(), State: two}, "47574166eaa2b2d94663d19999509545ce2b0a89e31376145abc8ad0f6b57441", "0000000000000009" + up + "000000df",
			"0000000000000002000000000000000200000000000000030000000000000006" + up + "000000000000003f0000000000000000" + none +
				"000000000000000200000000000000046e6f6e65000000016b0000000176" +
				"00000000000000020000000000000001000000000000000700000000000000000000000000000000" +
				"0000000000000040000001000000000000000000000000090000000000000002000000016100000000"},
		{api.Snap{Height: 1024, Tip: ones(), State: one()}, "fcf50a216aace4c2cf51fc0edeb0b4e02ca0ef0e9f2c35a016c7f364f9a6cfd9", "0000000000000400" + full + "00000050", alone},
		{api.Snap{Height: 1025, Tip: ones(), State: one()}, "31a81894ac8d1f13c60e15ea035af013a4c17ba12a176481afe4e75bb541044e", "0000000000000401" + full + "00000050", alone},
		{api.Snap{Height: -1, Tip: rising(), State: one()}, "22122a6d7858ce1e6cec56aaa1305ff7784ef0e03800d13820af96e4cc1a1018", "ffffffffffffffff" + up + "00000050", alone},
		{api.Snap{Height: 513, Tip: rising(), State: great()}, "ef0b50ee8b5637abafb7eb14ba0c15c66c800a2a0c2ebbd5597b0185ebcd715a", "0000000000000201" + up + "00014493", ""},
	}
}

// great: a registry with as many members, keys and clients as there can be.
func great() api.State {
	s := api.State{Config: api.Config{Epoch: 1 << 30}}
	for i := 54; i < 64; i++ {
		s.Config.Members = append(s.Config.Members, api.Member{Id: i, Key: api.Key{Root: rising(), Height: i % 7}})
	}
	for i := range 256 {
		s.Pairs = append(s.Pairs, api.Pair{Key: fmt.Sprintf("%03d", i), Val: long(i % 5 * i)})
	}
	for i := range 64 {
		s.Replies = append(s.Replies, api.Reply{Client: i + 1, Num: i + 1, Code: api.Errno(16 * i), Vals: slices.Repeat([]string{fmt.Sprint(i + 1)}, i+1)})
	}
	return s
}

// TestP18_1Known holds bytes against another program's; those that can be are read, and loaded.
func TestP18_1Known(t *testing.T) {
	for i, c := range known() {
		b := snap.Bytes(c.s)
		if got := hex.EncodeToString(b); !strings.HasPrefix(got, c.digest+c.head+c.tail) || c.tail != "" && len(got) != 152+len(c.tail) {
			t.Errorf("%d: %d bytes: %.1000s", i, len(b), got)
		}
		if string(b) != modelBytes(c.s) {
			t.Errorf("%d: the model has other bytes", i)
		}
		d := disk.New()
		saves(t, d, "snap", c.s, api.OK)
		is(t, d, "snap", string(b))
		if len(c.s.State.Config.Members) == 0 || c.s.Height < 0 || c.s.Height > 1024 {
			refuses(t, fmt.Sprint(i), string(b))
			fails(t, d, "snap", api.ErrForm)
			continue
		}
		reads(t, fmt.Sprint(i), string(b), c.s)
		loads(t, d, "snap", c.s)
	}
}

// TestP18_1Any holds Bytes and Read against the model, of snapshots that can be and of others.
func TestP18_1Any(t *testing.T) {
	rnd := rand.New(rand.NewSource(181))
	var ok, no int
	try := func(s api.Snap) {
		b := modelBytes(s)
		if string(snap.Bytes(s)) != b {
			t.Fatalf("%s: other bytes", told(s))
		}
		if as(t, told(s), b) {
			ok++
		} else {
			no++
		}
	}
	for range 4000 {
		try(someAny(rnd))
	}
	for _, n := range odd() {
		s := at(n, pairsOf("b", "1", "a", "2", "a", "3"))
		s.State.Config = of(n, n, n, -n)
		s.State.Config.Members[1].Key = api.Key{Root: ones(), Height: n}
		s.State.Replies = []api.Reply{{Client: n, Num: -n, Code: api.Errno(n), Vals: []string{long(2000)}}, {}}
		try(s)
	}
	many := api.State{Config: of(0, upTo(20)...), Pairs: pairsOf(keys(300)...).Pairs, Replies: repliesOf(upTo(70)...).Replies}
	try(at(3, many))
	try(at(3, pairsOf(long(5000), long(5000))))
	if ok < 1000 || no < 1000 {
		t.Errorf("%d were snapshots, and %d none", ok, no)
	}
}

// TestP18_1Heights: a height is from 0 to 1024, all of these.
func TestP18_1Heights(t *testing.T) {
	for n := -3; n < 1030; n++ {
		s := at(n, one())
		if n >= 0 && n <= 1024 {
			reads(t, fmt.Sprint(n), modelBytes(s), s)
		} else {
			refuses(t, fmt.Sprint(n), modelBytes(s))
		}
	}
	for _, n := range odd() {
		if is := as(t, fmt.Sprint(n), modelBytes(at(n, one()))); is != (n >= 0 && n <= 1024) {
			t.Errorf("the height %d: %t", n, is)
		}
	}
}

// TestP18_1Tips: a tip is of any bytes.
func TestP18_1Tips(t *testing.T) {
	rnd := rand.New(rand.NewSource(1811))
	list := []api.Digest{{}, ones(), rising(), hash("snap")}
	for i := range 32 {
		one := api.Digest{}
		one[i] = 1 << (i % 8)
		list = append(list, one, someDigest(rnd))
	}
	d := disk.New()
	for i, tip := range list {
		s := api.Snap{Height: i, Tip: tip, State: one()}
		reads(t, fmt.Sprintf("%x", tip), string(snap.Bytes(s)), s)
		saves(t, d, "snap", s, api.OK)
		loads(t, d, "snap", s)
	}
}

// TestP18_1Limits: what is just within the limits of a state is read, and what is just beyond one isn't.
func TestP18_1Limits(t *testing.T) {
	withReply := func(a api.Reply) api.State { return api.State{Config: of(0, 1), Replies: []api.Reply{a}} }
	withMember := func(m api.Member) api.State { return api.State{Config: api.Config{Members: []api.Member{m}}} }
	for what, s := range map[string]api.State{
		"one member alone":  one(),
		"ten members":       {Config: of(1<<30, 1, 2, 3, 4, 5, 6, 7, 8, 9, 63)},
		"a key of height 6": withMember(api.Member{Id: 63, Key: api.Key{Root: ones(), Height: 6}}),
		"256 pairs":         pairsOf(keys(256)...),
		"64 replies":        repliesOf(upTo(64)...),
		"a key of 1024":     pairsOf(long(1024), ""),
		"a value of 1024":   pairsOf("", long(1024)),
		"a reply of 1024":   withReply(api.Reply{Client: 64, Num: lastNum, Code: 1024, Vals: []string{"", long(1024)}}),
		"a reply of 256":    withReply(api.Reply{Client: 1, Num: 1, Vals: make([]string, 256)}),
		"a great one":       great(),
	} {
		reads(t, what, modelBytes(at(7, s)), at(7, s))
	}
	for what, s := range map[string]api.State{
		"no member":             {},
		"eleven members":        {Config: of(0, upTo(11)...)},
		"a member 0":            {Config: of(0, 0)},
		"a member 64":           {Config: of(0, 64)},
		"members don't rise":    {Config: of(0, 2, 1)},
		"one member twice":      {Config: of(0, 2, 2)},
		"a key of height 7":     withMember(api.Member{Id: 63, Key: api.Key{Height: 7}}),
		"a key of height -1":    withMember(api.Member{Id: 63, Key: api.Key{Height: -1}}),
		"an epoch -1":           {Config: of(-1, 1)},
		"an epoch 2^30 and one": {Config: of(1<<30+1, 1)},
		"257 pairs":             pairsOf(keys(257)...),
		"65 replies":            repliesOf(upTo(65)...),
		"keys fall":             pairsOf("b", "", "a", ""),
		"one key twice":         pairsOf("a", "1", "a", "2"),
		"clients fall":          repliesOf(2, 1),
		"one client twice":      repliesOf(3, 3),
		"a key of 1025":         pairsOf(long(1025), ""),
		"a value of 1025":       pairsOf("", long(1025)),
		"a client 0":            repliesOf(0),
		"a client 65":           repliesOf(65),
		"a number 0":            withReply(api.Reply{Client: 1}),
		"a number beyond 2^40":  withReply(api.Reply{Client: 1, Num: lastNum + 1}),
		"a code 1025":           withReply(api.Reply{Client: 1, Num: 1, Code: 1025}),
	} {
		refuses(t, what, modelBytes(at(7, s)))
		d := disk.New()
		saves(t, d, "snap", at(7, s), api.OK)
		is(t, d, "snap", modelBytes(at(7, s)))
		fails(t, d, "snap", api.ErrForm)
	}
}

// TestP18_1Sizes: a state's bytes are 2^22 at most, though it is in order; what a disk has no room for is less by the 76 bytes ahead of them.
func TestP18_1Sizes(t *testing.T) {
	for _, n := range []int{1<<22 - 77, 1<<22 - 76, 1<<22 - 75, 1<<22 - 1, 1 << 22, 1<<22 + 1, 1<<22 + 76, 1<<22 + 1000} {
		s := at(1024, sized(n))
		b := string(snap.Bytes(s))
		if len(stateBytes(s.State)) != n || len(b) != n+76 || b != modelBytes(s) {
			t.Fatalf("%d bytes, not %d, of a state of %d", len(b), n+76, len(stateBytes(s.State)))
		}
		if n <= 1<<22 {
			reads(t, fmt.Sprint(n), b, s)
		} else {
			refuses(t, fmt.Sprint(n), b)
		}
		d := disk.New()
		if n+76 <= 1<<22 {
			saves(t, d, "snap", s, api.OK)
			loads(t, d, "snap", s)
		} else {
			saves(t, d, "snap", s, api.ErrFull)
			fails(t, d, "snap", api.ErrNone)
		}
	}
}

// TestP18_1Cut: bytes that are cut at any place are no snapshot's, nor those with more behind them, though the digest be right.
func TestP18_1Cut(t *testing.T) {
	rnd := rand.New(rand.NewSource(1812))
	all := []api.Snap{known()[1].s, known()[2].s, {Height: 1024, Tip: ones(), State: pairsOf(keys(9)...)}}
	for range 4 {
		all = append(all, someGood(rnd))
	}
	for _, s := range all {
		b := modelBytes(s)
		for i := range len(b) {
			refuses(t, fmt.Sprint("cut at ", i), b[:i])
			refuses(t, fmt.Sprint("begun at ", i+1), b[i+1:])
			if i >= 32 {
				refuses(t, fmt.Sprint("cut at ", i, " under its digest"), sealed(b[32:i]))
			}
			refuses(t, fmt.Sprint("without byte ", i), b[:i]+b[i+1:])
			refuses(t, fmt.Sprint("byte ", i, " twice"), b[:i]+b[i:i+1]+b[i:])
		}
		for _, more := range []string{"\x00", "\xff", num(0), texts(""), b, long(5000)} {
			refuses(t, "something is left", b+more)
			refuses(t, "something is left under its digest", sealed(b[32:]+more))
			refuses(t, "something is ahead", more+b)
		}
		reads(t, "whole", b, s)
	}
	refuses(t, "nothing", "")
	if s, e := snap.Read(nil); e != api.ErrForm || !same(s, api.Snap{}) {
		t.Errorf("nil bytes: error %d: %s", e, told(s))
	}
	refuses(t, "the digest of nothing", sealed(""))
	for n := range 200 {
		refuses(t, fmt.Sprint(n, " zeros"), strings.Repeat("\x00", n))
		refuses(t, fmt.Sprint(n, " zeros under their digest"), sealed(strings.Repeat("\x00", n)))
		refuses(t, fmt.Sprint(n, " ones under their digest"), sealed(strings.Repeat("\xff", n)))
	}
}

// TestP18_1Digest: no other digest is a snapshot's, though it be of what follows.
func TestP18_1Digest(t *testing.T) {
	for _, s := range []api.Snap{known()[1].s, known()[2].s, at(1024, great())} {
		b := modelBytes(s)
		body := b[32:]
		for what, d := range map[string]api.Digest{
			"none":                     {},
			"ones":                     ones(),
			"without the text":         hash(body),
			"the text behind":          hash(body, "snap"),
			"the text alone":           hash("snap"),
			"the text written":         hash(texts("snap"), body),
			"the text and a zero":      hash("snap\x00", body),
			"another text":             hash("state", body),
			"another case":             hash("Snap", body),
			"a part of the text":       hash("sna", body),
			"what follows as a text":   hash("snap", texts(body)),
			"without the height":       hash("snap", body[8:]),
			"without the height, tip":  hash("snap", body[40:]),
			"without the length":       hash("snap", body[:40], body[44:]),
			"of the state alone":       hash("snap", body[44:]),
			"without the last byte":    hash("snap", body[:len(body)-1]),
			"with a byte more":         hash("snap", body, "\x00"),
			"of another height":        hash("snap", modelBytes(at(s.Height^1, s.State))[32:]),
			"of a digest and the rest": hash("snap", b),
			"of the digest":            hash("snap", b[:32]),
			"twice":                    hash(text(hash("snap", body))),
			"the state's":              chunk.Root(s.State),
			"a leaf's":                 tree.Leaf([]byte(body)),
			"a pair's":                 sha.Pair('s', hash("snap"), hash(body)),
			"the tip":                  s.Tip,
		} {
			refuses(t, what, text(d)+body)
		}
		refuses(t, "the digest behind", body+b[:32])
		refuses(t, "the digest as a text", texts(b[:32])+body)
		refuses(t, "no digest", body)
		reads(t, "its own", b, s)
	}
}

// TestP18_1Lengths: a text's length that doesn't tell what follows is refused under its digest, too.
func TestP18_1Lengths(t *testing.T) {
	own := stateBytes(known()[2].s.State)
	head := num(9) + text(rising())
	for _, n := range []int{0, 1, len(own) - 1, len(own), len(own) + 1, 1 << 8, 1 << 16, 1 << 22, 1<<22 + 1, 1 << 24, 1<<31 - 1, 1 << 31, 1<<32 - len(own), 1<<32 - 1} {
		length := num(n)[4:]
		if n == len(own) {
			reads(t, "its own", sealed(head+length+own), known()[2].s)
			continue
		}
		refuses(t, fmt.Sprint("the length ", n), sealed(head+length+own))
		refuses(t, fmt.Sprint("the length ", n, " of nothing"), sealed(head+length))
		refuses(t, fmt.Sprint("the length ", n, " and more"), sealed(head+length+own+own))
	}
	refuses(t, "eight bytes of length", sealed(head+num(len(own))+own))
	refuses(t, "no length", sealed(head+own))
	refuses(t, "a length of the lowest byte first", sealed(head+"\xdf\x00\x00\x00"+own))
	refuses(t, "the tip as a text", sealed(num(9)+texts(text(rising()))+texts(own)))
	refuses(t, "the tip ahead of the height", sealed(text(rising())+num(9)+texts(own)))
	refuses(t, "the state ahead of the height", sealed(texts(own)+head))
}

// TestP18_1NoState: a text that is no state's bytes is refused under its digest, too, cut, turned or with more within it.
func TestP18_1NoState(t *testing.T) {
	own := stateBytes(known()[2].s.State)
	with := func(text string) string { return sealed(bodyOf(9, rising(), text)) }
	for _, text := range []string{"", "x", "state", own + "\x00", "\x00" + own, own + own, texts(own), modelBytes(known()[2].s), long(1 << 12), strings.Repeat("\x00", 32), strings.Repeat("\xff", 80)} {
		refuses(t, fmt.Sprintf("%.20q", text), with(text))
	}
	var ok, no int
	for i := range len(own) {
		refuses(t, fmt.Sprint("a state cut at ", i), with(own[:i]))
		for _, k := range []byte{1, 2, 4, 8, 16, 32, 64, 128, 255} {
			if as(t, fmt.Sprint("a state turned at ", i), with(own[:i]+string([]byte{own[i] ^ k})+own[i+1:])) {
				ok++
			} else {
				no++
			}
		}
	}
	if ok < 200 || no < 200 {
		t.Errorf("%d were states, and %d none", ok, no)
	}
}

// TestP18_1Behind: what reads a text must go no further: a state behind an empty text, or in two texts, is none.
func TestP18_1Behind(t *testing.T) {
	own := stateBytes(one())
	head := num(1) + text(rising())
	refuses(t, "a state behind an empty text", sealed(head+texts("")+own))
	refuses(t, "a text in two", sealed(head+texts(own[:40], own[40:])))
	refuses(t, "two texts", sealed(head+texts(own, own)))
	refuses(t, "a text and an empty one", sealed(head+texts(own, "")))
	reads(t, "one", sealed(head+texts(own)), at(1, one()))
}

// TestP18_1TurnedUnderItsDigest holds Read against the model, of bytes that are turned and have the digest of what they are then.
func TestP18_1TurnedUnderItsDigest(t *testing.T) {
	rnd := rand.New(rand.NewSource(1813))
	var ok, no int
	try := func(b string) {
		if as(t, fmt.Sprintf("%x", b), b) {
			ok++
		} else {
			no++
		}
	}
	b := modelBytes(known()[2].s)[32:]
	for i := range len(b) {
		for _, k := range []byte{1, 2, 4, 8, 16, 32, 64, 128, 255} {
			try(sealed(b[:i] + string([]byte{b[i] ^ k}) + b[i+1:]))
		}
	}
	for range 6000 {
		b := []byte(modelBytes(someAny(rnd)))[32:]
		for range rnd.Intn(2) {
			b[rnd.Intn(len(b))] += byte(1 + rnd.Intn(3))
		}
		try(sealed(string(b[:len(b)-rnd.Intn(2)*rnd.Intn(2)])))
	}
	if ok < 1000 || no < 1000 {
		t.Errorf("%d were snapshots, and %d none", ok, no)
	}
}

// TestP18_1AnyBytes: bytes of any kind, made by nobody, are no snapshot's.
func TestP18_1AnyBytes(t *testing.T) {
	rnd := rand.New(rand.NewSource(1814))
	for range 20000 {
		b := make([]byte, rnd.Intn(300))
		rnd.Read(b)
		refuses(t, "any bytes", string(b))
		refuses(t, "any bytes under their digest", sealed(string(b)))
	}
	for _, n := range []int{1 << 22, 1<<22 + 76, 1<<22 + 77, 1 << 23} {
		refuses(t, fmt.Sprint(n, " bytes"), long(n))
		refuses(t, fmt.Sprint(n, " bytes of a text"), sealed(bodyOf(0, rising(), long(n))))
	}
}

// TestP18_1Nil: lists that are nil are as those that are empty.
func TestP18_1Nil(t *testing.T) {
	a := api.Snap{Height: 1, State: api.State{Config: of(0, 1), Replies: []api.Reply{{Client: 1, Num: 1}}}}
	b := deep(a)
	b.State.Pairs, b.State.Replies[0].Vals = []api.Pair{}, []string{}
	if string(snap.Bytes(a)) != string(snap.Bytes(b)) {
		t.Error("an empty list isn't as a nil one")
	}
	a, b = api.Snap{}, api.Snap{State: api.State{Pairs: []api.Pair{}, Replies: []api.Reply{}, Config: api.Config{Members: []api.Member{}}}}
	if string(snap.Bytes(a)) != string(snap.Bytes(b)) {
		t.Error("a state of empty lists isn't as one of nil ones")
	}
}

// TestP18_1NilDisk: ErrNil of everything.
func TestP18_1NilDisk(t *testing.T) {
	for _, name := range []string{"", "snap", long(3000)} {
		for _, s := range []api.Snap{{}, at(1, one()), at(-1, one()), at(1, sized(1<<22))} {
			saves(t, nil, name, s, api.ErrNil)
			fails(t, nil, name, api.ErrNil)
		}
	}
}

// TestP18_1Save: a snapshot is all that its file has, whatever it had, by one act, and safe; a Load is none.
func TestP18_1Save(t *testing.T) {
	s := at(5, pairsOf("k", "v"))
	b := modelBytes(s)
	for _, name := range []string{"", "snap", "snap\x00", long(2000)} {
		for _, safe := range []string{"", "old", b, modelBytes(at(4, one())), long(5000)} {
			for _, waits := range []string{"", "w", b, long(300)} {
				d := disk.New()
				d.Install(name, []byte(safe))
				d.Append(name, []byte(waits))
				d.Append("other", []byte("waits"))
				saves(t, d, name, s, api.OK)
				loads(t, d, name, s)
				stands(t, d, 4, false)
				is(t, d, name, b)
				is(t, d, "other", "waits")
				loses(d, 0)
				is(t, d, "other", "")
				loads(t, d, name, s)
				loads(t, d, name, s)
				stands(t, d, 4, false)
			}
		}
	}
}

// TestP18_1SaveAgain: of many Saves of one file the last one is there, and those of other files, and of other disks, are there beside it.
func TestP18_1SaveAgain(t *testing.T) {
	rnd := rand.New(rand.NewSource(1815))
	d, far := disk.New(), disk.New()
	last := map[string]api.Snap{}
	for i := range 300 {
		name, s := fmt.Sprint(i%7), someGood(rnd)
		if i%3 == 0 {
			saves(t, far, name, someGood(rnd), api.OK)
		}
		saves(t, d, name, s, api.OK)
		last[name] = s
		for name, s := range last {
			loads(t, d, name, s)
		}
	}
	stands(t, d, 300, false)
	stands(t, far, 100, false)
}

// TestP18_1Load: a file that is empty, or holds something else, is ErrForm; what waits is loaded, too.
func TestP18_1Load(t *testing.T) {
	s := at(5, pairsOf("k", "v"))
	b := modelBytes(s)
	for _, other := range []string{"", "x", long(76), long(156), long(1 << 22), b[:len(b)-1], b + "\x00", "\x00" + b, b + b, b[32:], modelBytes(at(1025, one())), sealed(b[33:])} {
		d := disk.New()
		d.Install("snap", []byte(other))
		fails(t, d, "snap", api.ErrForm)
		is(t, d, "snap", other)
		d = disk.New()
		d.Append("snap", []byte(other))
		fails(t, d, "snap", api.ErrForm)
		stands(t, d, 1, false)
	}
	for at := range len(b) + 1 {
		d := disk.New()
		d.Install("snap", []byte(b[:at]))
		d.Append("snap", []byte(b[at:]))
		loads(t, d, "snap", s)
		loses(d, 0)
		if at < len(b) {
			fails(t, d, "snap", api.ErrForm)
		} else {
			loads(t, d, "snap", s)
		}
	}
	d := disk.New()
	d.Sync("snap")
	fails(t, d, "snap", api.ErrForm)
	saves(t, d, "snap", s, api.OK)
	loads(t, d, "snap", s)
	d.Append("snap", []byte("x"))
	fails(t, d, "snap", api.ErrForm)
	loses(d, 0)
	loads(t, d, "snap", s)
}

// TestP18_1Full: a snapshot that a disk has no room for is refused, by no act, and the old one is there; what its own file has makes room.
func TestP18_1Full(t *testing.T) {
	s := at(5, pairsOf("k", "v"))
	b := modelBytes(s)
	for spare := -2; spare <= 2; spare++ {
		d := disk.New()
		d.Install("other", []byte(long(1<<22-len(b)-spare)))
		if spare < 0 {
			saves(t, d, "snap", s, api.ErrFull)
			fails(t, d, "snap", api.ErrNone)
			stands(t, d, 1, false)
			continue
		}
		saves(t, d, "snap", s, api.OK)
		loads(t, d, "snap", s)
		saves(t, d, "more", s, api.ErrFull)
		saves(t, d, "snap", at(6, s.State), api.OK)
		longer := at(7, pairsOf("k", "v"+long(spare+1)))
		saves(t, d, "snap", longer, api.ErrFull)
		loads(t, d, "snap", at(6, s.State))
		longer = at(8, pairsOf("k", "v"+long(spare)))
		saves(t, d, "snap", longer, api.OK)
		loads(t, d, "snap", longer)
		saves(t, d, "snap", at(9, one()), api.OK)
		loses(d, 0)
		loads(t, d, "snap", at(9, one()))
		stands(t, d, 5, false)
	}
	d := disk.New()
	saves(t, d, "snap", s, api.OK)
	d.Arm(1, 0)
	saves(t, d, "snap", at(5, sized(1<<22)), api.ErrFull)
	loads(t, d, "snap", s)
	saves(t, d, "snap", s, api.ErrDown)
}

// TestP18_1PowerOff: ErrDown of everything, ahead of ErrFull and ErrNone; and all is as it was.
func TestP18_1PowerOff(t *testing.T) {
	d := disk.New()
	s := at(5, pairsOf("k", "v"))
	saves(t, d, "snap", s, api.OK)
	d.Append("torn", []byte("torn"))
	d.Off(9)
	for _, name := range []string{"snap", "torn", "none", ""} {
		fails(t, d, name, api.ErrDown)
		for _, other := range []api.Snap{{}, s, at(6, one()), at(6, sized(1<<22)), at(-1, one())} {
			saves(t, d, name, other, api.ErrDown)
		}
	}
	stands(t, d, 2, true)
	d.On()
	loads(t, d, "snap", s)
	fails(t, d, "torn", api.ErrForm)
	fails(t, d, "none", api.ErrNone)
	stands(t, d, 2, false)
}

// TestP18_1Random holds long lists of calls, upon a disk with room and upon one that is nearly full, against the model; each answer must come often.
func TestP18_1Random(t *testing.T) {
	rnd := rand.New(rand.NewSource(1816))
	met := map[string]int{}
	for i := range 400 {
		d, m := disk.New(), &modelDisk{files: map[string]modelFile{}}
		if i%4 == 0 {
			b := long(1<<22 - rnd.Intn(3000))
			d.Install("other", []byte(b))
			m.act("other", b, true)
		}
		for range 40 {
			someCall(t, rnd, d, m, met)
			if d.Acts() != m.acts || d.Down() != m.down {
				t.Fatalf("%d acts, down %t, not %d and %t", d.Acts(), d.Down(), m.acts, m.down)
			}
		}
	}
	for _, wanted := range []string{"Save0", "Save20", "Save21", "Load0", "Load4", "Load7", "Load21"} {
		if met[wanted] < 100 {
			t.Errorf("%s came %d times alone: %v", wanted, met[wanted], met)
		}
	}
}

// someCall asks a disk and its model any call, and holds the answers together.
func someCall(t *testing.T, rnd *rand.Rand, d *disk.Disk, m *modelDisk, met map[string]int) {
	t.Helper()
	name := []string{"", "snap", "sna"}[rnd.Intn(3)]
	keep := []int{math.MinInt, -1, 0, 1, 100, 200, math.MaxInt}[rnd.Intn(7)]
	switch k := rnd.Intn(16); {
	case k < 5:
		s := someAny(rnd)
		e, wanted := snap.Save(d, name, s), m.act(name, modelBytes(s), true)
		if e != wanted {
			t.Fatalf("Save of %s: error %d, not %d", told(s), e, wanted)
		}
		met[fmt.Sprint("Save", e)]++
	case k < 11:
		s, e := snap.Load(d, name)
		b, wanted := m.read(name)
		var model api.Snap
		if wanted == api.OK {
			model, wanted = modelRead(b)
		}
		if e != wanted || !same(s, model) {
			t.Fatalf("Load: error %d: %s, not %d: %s", e, told(s), wanted, told(model))
		}
		met[fmt.Sprint("Load", e)]++
	case k == 11:
		b := modelBytes(someGood(rnd))
		b = b[:rnd.Intn(len(b)+1)]
		if e, wanted := d.Append(name, []byte(b)), m.act(name, b, false); e != wanted {
			t.Fatalf("the disk's Append: error %d, not %d", e, wanted)
		}
	case k == 12:
		d.Off(keep)
		m.off(keep)
	case k == 13:
		n := 1 + rnd.Intn(3)
		d.Arm(n, keep)
		m.last, m.keep = m.acts+n, keep
	default:
		d.On()
		m.down = false
	}
}

// TestP18_2ThereAndBack: a snapshot of a height that can be, and of a state in order, is read as it was, and loaded so.
func TestP18_2ThereAndBack(t *testing.T) {
	rnd := rand.New(rand.NewSource(182))
	d := disk.New()
	for range 3000 {
		s := someGood(rnd)
		if read, e := snap.Read(snap.Bytes(s)); e != api.OK || !same(read, s) {
			t.Fatalf("%s: error %d: %s", told(s), e, told(read))
		}
		saves(t, d, "snap", s, api.OK)
		loses(d, rnd.Intn(3)-1)
		loads(t, d, "snap", s)
	}
}

// TestP18_2Registries: registries that requests made, up to the greatest numbers of keys and clients.
func TestP18_2Registries(t *testing.T) {
	s := state.New(of(2, 3, 7))
	d := disk.New()
	for i := range 600 {
		kind := 1 + i%6
		if i%3 > 0 {
			kind = api.OpPut
		}
		op := api.Op{Kind: kind, Key: fmt.Sprint(i * 7 % 300), Val: long(i % 40)}
		s, _ = state.Apply(s, api.Request{Client: 1 + i%64, Num: 1 + i, Op: op})
		if i%20 > 0 {
			continue
		}
		x := api.Snap{Height: i, Tip: chunk.Root(s), State: s}
		saves(t, d, "snap", x, api.OK)
		loads(t, d, "snap", x)
		read, _ := snap.Load(d, "snap")
		if chunk.Root(read.State) != x.Tip {
			t.Errorf("behind request %d: another registry", i)
		}
	}
	if len(s.Pairs) < 200 || len(s.Replies) != 64 {
		t.Errorf("%d pairs, %d replies", len(s.Pairs), len(s.Replies))
	}
}

// TestP18_2OneForm: bytes that are read are those of the snapshot that they are read as.
func TestP18_2OneForm(t *testing.T) {
	rnd := rand.New(rand.NewSource(1821))
	n := 0
	for range 3000 {
		b := modelBytes(someAny(rnd))
		s, e := snap.Read([]byte(b))
		if e != api.OK {
			continue
		}
		n++
		if string(snap.Bytes(s)) != b || !canBe(s) {
			t.Fatalf("%x was read as %s", b, told(s))
		}
	}
	if n < 1000 {
		t.Errorf("%d were read", n)
	}
}

// loadsOne: that the old snapshot is loaded, or, if it may be, the new one; the same behind each loss from then on.
func loadsOne(t *testing.T, what string, d *disk.Disk, wanted *api.Snap) {
	t.Helper()
	for _, keep := range []int{0, -1, 50, math.MaxInt} {
		s, e := snap.Load(d, "snap")
		switch {
		case wanted == nil && e == api.ErrNone:
		case wanted != nil && e == api.OK && same(s, *wanted):
		default:
			t.Fatalf("%s: error %d: %s", what, e, told(s))
		}
		d.Off(keep)
		fails(t, d, "snap", api.ErrDown)
		d.On()
	}
}

// TestP18_2EachAct has the power go in each act of a list of Saves, with none, some and all bytes kept: the one ahead is loaded, again and again, and the list goes on.
func TestP18_2EachAct(t *testing.T) {
	rnd := rand.New(rand.NewSource(1822))
	list := []api.Snap{at(0, one()), at(1, great()), at(1, one()), someGood(rnd), someGood(rnd), at(1024, pairsOf("k", ""))}
	for n := 1; n <= len(list)+1; n++ {
		for _, keep := range []int{math.MinInt, -1, 0, 1, 31, 32, 76, 100, 156, 1 << 16, 1 << 22, math.MaxInt} {
			d := disk.New()
			d.Arm(n, keep)
			var have *api.Snap
			for i, s := range list {
				what := fmt.Sprint("act ", n, ", ", keep, " kept, Save ", i+1)
				e := snap.Save(d, "snap", s)
				if (e == api.ErrDown) != (i+1 == n) || e != api.OK && e != api.ErrDown {
					t.Fatalf("%s: error %d", what, e)
				}
				if e == api.OK {
					have = &list[i]
				} else {
					stands(t, d, n, true)
					d.On()
					loadsOne(t, what, d, have)
				}
			}
			loadsOne(t, "behind all", d, have)
			stands(t, d, len(list), false)
		}
	}
}

// TestP18_2BesideOthers: a loss in a Save takes nothing of other snapshots, and a loss in another act, of another file, nothing of this one.
func TestP18_2BesideOthers(t *testing.T) {
	old, other := at(1, pairsOf("k", "old")), at(2, pairsOf("k", "other"))
	for n := 1; n <= 5; n++ {
		for keep := -1; keep < 12; keep++ {
			d := disk.New()
			saves(t, d, "snap", old, api.OK)
			saves(t, d, "other", other, api.OK)
			d.Arm(n, keep)
			acts := []func() api.Errno{
				func() api.Errno { return d.Append("log", []byte("a record")) },
				func() api.Errno { return snap.Save(d, "snap", at(3, one())) },
				func() api.Errno { return d.Sync("log") },
				func() api.Errno { return snap.Save(d, "snap", at(4, one())) },
				func() api.Errno { return d.Install("log", nil) },
			}
			for i, act := range acts[:n] {
				if e := act(); (e == api.ErrDown) != (i+1 == n) {
					t.Errorf("act %d: error %d", i+1, e)
				}
			}
			d.On()
			have := [][]api.Snap{{old}, {old}, {at(3, one())}, {at(3, one())}, {at(4, one())}}[n-1][0]
			loads(t, d, "snap", have)
			loads(t, d, "other", other)
			loses(d, keep)
			loads(t, d, "snap", have)
		}
	}
}

// TestP18_2Random: wherever the power goes in long lists of Saves of good snapshots, the last one that was saved is loaded, or the one under way.
func TestP18_2Random(t *testing.T) {
	rnd := rand.New(rand.NewSource(1823))
	losses := 0
	for range 200 {
		d := disk.New()
		var have *api.Snap
		for range 30 {
			if rnd.Intn(3) == 0 {
				d.Arm(1+rnd.Intn(3), rnd.Intn(300)-1)
			}
			s := someGood(rnd)
			switch snap.Save(d, "snap", s) {
			case api.OK:
				have = &s
			case api.ErrDown:
				losses++
				d.On()
				if read, e := snap.Load(d, "snap"); e == api.OK && same(read, s) {
					have = &s
				}
			default:
				t.Fatal("a Save was refused")
			}
			loadsOne(t, "a random list", d, have)
		}
	}
	if losses < 500 {
		t.Errorf("%d losses", losses)
	}
}

// TestP18_3EachByte turns each byte of small snapshots to each other one: none is a snapshot's, in the digest, the numbers, the text's length or the text.
func TestP18_3EachByte(t *testing.T) {
	for _, s := range []api.Snap{known()[1].s, known()[2].s, {Height: 1024, Tip: ones(), State: pairsOf("", "\x00", "\x00", "")}} {
		b := []byte(modelBytes(s))
		for i := range b {
			for k := 1; k < 256; k++ {
				b[i] ^= byte(k)
				if read, e := snap.Read(b); e != api.ErrForm || !same(read, api.Snap{}) {
					t.Errorf("byte %d turned by %d: error %d: %s", i, k, e, told(read))
				}
				b[i] ^= byte(k)
			}
		}
		reads(t, "unturned", string(b), s)
	}
}

// TestP18_3Any turns any byte of any snapshot, and of a file on a disk.
func TestP18_3Any(t *testing.T) {
	rnd := rand.New(rand.NewSource(183))
	d := disk.New()
	for range 5000 {
		b := []byte(modelBytes(someAny(rnd)))
		b[rnd.Intn(len(b))] ^= byte(1 + rnd.Intn(255))
		refuses(t, "any byte turned", string(b))
		d.Install("snap", b)
		fails(t, d, "snap", api.ErrForm)
	}
	s := at(1024, great())
	b := []byte(modelBytes(s))
	for range 100 {
		i, k := rnd.Intn(len(b)), byte(1+rnd.Intn(255))
		b[i] ^= k
		if _, e := snap.Read(b); e != api.ErrForm {
			t.Errorf("byte %d of %d: error %d", i, len(b), e)
		}
		b[i] ^= k
	}
	reads(t, "unturned", string(b), s)
}

// TestP18_3Apart: snapshots that differ in anything have other bytes, and other digests.
func TestP18_3Apart(t *testing.T) {
	all := []api.Snap{
		at(1, one()), at(2, one()), {Height: 1, State: one()}, {Height: 1, Tip: ones(), State: one()}, at(1<<8, one()), at(0, one()),
		at(1, pairsOf("a", "b")), at(1, pairsOf("ab", "")), at(1, pairsOf("", "ab")), at(1, pairsOf("a", "", "b", "")),
		at(1, repliesOf(1)), at(1, repliesOf(2)), at(1, repliesOf(1, 2)), at(1, api.State{Config: of(1, 1)}), at(1, api.State{Config: of(0, 2)}),
	}
	seen := map[string]bool{}
	for _, s := range all {
		b := string(snap.Bytes(s))
		if seen[b[:32]] || seen[b[32:]] {
			t.Errorf("%s has another's bytes, or digest", told(s))
		}
		seen[b[:32]], seen[b[32:]] = true, true
		for _, other := range all {
			if whole := string(snap.Bytes(other)); !same(s, other) {
				refuses(t, "another's digest", b[:32]+whole[32:])
			}
		}
	}
}

// roomy: a snapshot all of whose lists have room to spare, in which something stands.
func roomy(x api.Snap) api.Snap {
	x = deep(x)
	s := &x.State
	s.Pairs = append(s.Pairs, api.Pair{Key: "spare", Val: "pair"}, api.Pair{Key: "spare", Val: "pair"})[:len(s.Pairs)]
	s.Config.Members = append(s.Config.Members, of(0, 99, 98).Members...)[:len(s.Config.Members)]
	for i, a := range s.Replies {
		s.Replies[i].Vals = append(a.Vals, "spare", "val")[:len(a.Vals)]
	}
	s.Replies = append(s.Replies, api.Reply{Client: 77, Vals: []string{"spare"}}, api.Reply{Client: 78})[:len(s.Replies)]
	return x
}

// whole: a snapshot with all its room to spare.
func whole(x api.Snap) api.Snap {
	s := &x.State
	s.Pairs = s.Pairs[:cap(s.Pairs)]
	s.Replies = slices.Clone(s.Replies[:cap(s.Replies)])
	for i, a := range s.Replies {
		s.Replies[i].Vals = a.Vals[:cap(a.Vals)]
	}
	s.Config.Members = s.Config.Members[:cap(s.Config.Members)]
	return deep(x)
}

// scrawl writes over all of a snapshot's lists, spare room included.
func scrawl(x api.Snap) {
	s := x.State
	for i := range s.Pairs[:cap(s.Pairs)] {
		s.Pairs[:cap(s.Pairs)][i] = api.Pair{Key: "scrawl", Val: "scrawl"}
	}
	for i := range s.Config.Members[:cap(s.Config.Members)] {
		s.Config.Members[:cap(s.Config.Members)][i] = api.Member{Id: -8, Key: api.Key{Root: ones(), Height: -8}}
	}
	for i, a := range s.Replies[:cap(s.Replies)] {
		for k := range a.Vals[:cap(a.Vals)] {
			a.Vals[:cap(a.Vals)][k] = "scrawl"
		}
		s.Replies[:cap(s.Replies)][i] = api.Reply{Client: -8, Num: -8, Code: -8}
	}
}

// TestP18_4NothingIsChanged: by any call, in the room to spare either.
func TestP18_4NothingIsChanged(t *testing.T) {
	rnd := rand.New(rand.NewSource(184))
	for range 500 {
		s := roomy(someAny(rnd))
		before := whole(s)
		b := snap.Bytes(s)
		d := disk.New()
		snap.Save(nil, "snap", s)
		snap.Save(d, "snap", s)
		d.Arm(1, 9)
		snap.Save(d, "snap", s)
		snap.Save(d, "snap", s)
		if !same(whole(s), before) {
			t.Fatalf("%s became %s", told(before), told(whole(s)))
		}
		for _, n := range []int{0, 20, 32, len(b) - 1, len(b)} {
			room := append(slices.Clip(b), "spare"...)
			bytes := string(room)
			snap.Read(room[:n])
			if string(room) != bytes {
				t.Fatal("bytes were changed")
			}
		}
	}
}

// TestP18_4NothingIsKept: what is written into what was handed in, behind the call, isn't seen in what was answered, nor on the disk.
func TestP18_4NothingIsKept(t *testing.T) {
	rnd := rand.New(rand.NewSource(1841))
	for range 500 {
		s := roomy(someGood(rnd))
		wanted := deep(s)
		d := disk.New()
		b := snap.Bytes(s)
		bytes := string(b)
		saves(t, d, "snap", s, api.OK)
		scrawl(s)
		if string(b) != bytes {
			t.Fatal("bytes share memory with a snapshot")
		}
		is(t, d, "snap", bytes)
		loads(t, d, "snap", wanted)
		read, e := snap.Read(b)
		for i := range b[:cap(b)] {
			b[:cap(b)][i] = 9
		}
		if e != api.OK || !same(read, wanted) {
			t.Fatal("a snapshot shares memory with its bytes")
		}
	}
}

// TestP18_4AnswersAreNew: what is written into an answer is seen in no other one, not in what was handed in, and not on the disk.
func TestP18_4AnswersAreNew(t *testing.T) {
	rnd := rand.New(rand.NewSource(1842))
	for range 500 {
		s := roomy(someGood(rnd))
		before := whole(s)
		b, c := snap.Bytes(s), snap.Bytes(s)
		bytes := string(b)
		clear(c[:cap(c)])
		first, _ := snap.Read(b)
		second, _ := snap.Read(b)
		scrawl(second)
		if string(b) != bytes || !same(first, s) || !same(whole(s), before) {
			t.Fatal("bytes or snapshots share memory")
		}
		d := disk.New()
		saves(t, d, "snap", s, api.OK)
		first, _ = snap.Load(d, "snap")
		second, _ = snap.Load(d, "snap")
		scrawl(second)
		if !same(first, s) || !same(whole(s), before) {
			t.Fatal("snapshots share memory")
		}
		is(t, d, "snap", bytes)
		saves(t, d, "snap", at(0, one()), api.OK)
		if !same(first, s) {
			t.Fatal("a Save is seen in what was loaded")
		}
	}
}

// TestP18_4RepliesAreNew: no two lists of one answer share memory.
func TestP18_4RepliesAreNew(t *testing.T) {
	s := at(1, repliesOf(1, 2, 3))
	for i := range s.State.Replies {
		s.State.Replies[i].Vals = []string{"a", "b"}
	}
	read, _ := snap.Read(snap.Bytes(s))
	vals := read.State.Replies[1].Vals
	vals = vals[:cap(vals)]
	for i := range vals {
		vals[i] = "scrawl"
	}
	if !slices.Equal(read.State.Replies[0].Vals, []string{"a", "b"}) || !slices.Equal(read.State.Replies[2].Vals, []string{"a", "b"}) {
		t.Error("replies of one snapshot share memory")
	}
}
