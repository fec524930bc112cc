package chunk_test

import (
	"encoding/hex"
	"fmt"
	"math"
	"math/rand"
	"slices"
	"strings"
	"testing"

	"wapentake/api"
	"wapentake/chunk"
	"wapentake/state"
	"wapentake/tree"
)

// reads: that bytes are a state's, and which; the model says so, too.
func reads(t *testing.T, what, b string) api.State {
	t.Helper()
	s, e := chunk.State([]byte(b))
	wanted, code := modelState(b)
	if e != api.OK || e != code || !same(s, wanted) {
		t.Errorf("%s: error %d: %s; the model's: %d: %s", what, e, told(s), code, told(wanted))
	}
	return s
}

// refuses: that bytes are no state's.
func refuses(t *testing.T, what, b string) {
	t.Helper()
	s, e := chunk.State([]byte(b))
	if _, code := modelState(b); e != api.ErrForm || e != code || !same(s, api.State{}) {
		t.Errorf("%s: error %d: %s; the model's: %d", what, e, told(s), code)
	}
}

// joins: that pieces make a state.
func joins(t *testing.T, what string, root api.Digest, wanted api.State, list ...api.Piece) {
	t.Helper()
	if s, e := chunk.Join(root, list...); e != api.OK || !same(s, wanted) {
		t.Errorf("%s: error %d: %s, not %s", what, e, told(s), told(wanted))
	}
}

// fails: that pieces make no state, by that error.
func fails(t *testing.T, what string, root api.Digest, wanted api.Errno, list ...api.Piece) {
	t.Helper()
	if s, e := chunk.Join(root, list...); e != wanted || !same(s, api.State{}) {
		t.Errorf("%s: error %d, not %d: %s", what, e, wanted, told(s))
	}
}

// answers: that Bytes, Root and Pieces answer what the model does.
func answers(t *testing.T, s api.State) {
	t.Helper()
	b := modelBytes(s)
	root, list := piecesOf(modelParts(b)...)
	if string(chunk.Bytes(s)) != b {
		t.Errorf("%s: other bytes", told(s))
	}
	if d := chunk.Root(s); d != root {
		t.Errorf("%s: the digest %x, not %x", told(s), d, root)
	}
	if all := chunk.Pieces(s); !slices.EqualFunc(all, list, samePiece) {
		t.Errorf("%s: other pieces", told(s))
	}
}

// TestP11_1Example is the chapter's.
func TestP11_1Example(t *testing.T) {
	s := one()
	b := num(0, 1) + num(1, 0) + text(api.Digest{}) + num(0) + num(0)
	if len(b) != 16+48+16 || string(chunk.Bytes(s)) != b {
		t.Errorf("%x, not %x", chunk.Bytes(s), b)
	}
	list := chunk.Pieces(s)
	if len(list) != 1 || !samePiece(list[0], api.Piece{Count: 1, Tree: hash("\x00", b), Data: b}) {
		t.Errorf("%v", list)
	}
	if d := hash("state", num(1), text(hash("\x00", b))); chunk.Root(s) != d || !chunk.Check(d, list[0]) {
		t.Errorf("%x, not %x", chunk.Root(s), d)
	}
	joins(t, "the one piece", chunk.Root(s), s, list...)
}

// known are states, and digests and bytes that another program made of the chapter's words.
func known() []struct {
	s             api.State
	count         int
	digest, bytes string
} {
	two := api.State{Config: api.Config{Epoch: 2, Members: []api.Member{{Id: 3, Key: api.Key{Root: rising(), Height: 6}}, {Id: 63}}}}
	two.Pairs = []api.Pair{{Key: "", Val: "none"}, {Key: "k", Val: "v"}}
	two.Replies = []api.Reply{{Client: 1, Num: 7}, {Client: 64, Num: lastNum, Code: api.ErrOther, Vals: []string{"a", ""}}}
	great := api.State{Config: of(1, 1)}
	for i := range 100 {
		great.Pairs = append(great.Pairs, api.Pair{Key: fmt.Sprintf("%03d", i), Val: long(i % 7 * i)})
	}
	for i := range 64 {
		great.Replies = append(great.Replies, api.Reply{Client: i + 1, Num: i + 1, Vals: slices.Repeat([]string{fmt.Sprint(i + 1)}, i+1)})
	}
	return []struct {
		s             api.State
		count         int
		digest, bytes string
	}{
		{one(), 1, "da9b2d371306ce096d560906fcf52faaefd598186f636a86ffca7e9cb8638e0d",
			"00000000000000000000000000000001" + "00000000000000010000000000000000" + strings.Repeat("00", 32) + strings.Repeat("00", 16)},
		{two, 1, "15df5b8f56e5c5db170f2b21d8bbac949f421b43a3174cbba10f94ad46c82a53",
			"0000000000000002000000000000000200000000000000030000000000000006" +
				"0102030405060708090a0b0c0d0e0f101112131415161718191a1b1c1d1e1f20" +
				"000000000000003f0000000000000000" + strings.Repeat("00", 32) +
				"000000000000000200000000000000046e6f6e65000000016b0000000176" +
				"00000000000000020000000000000001000000000000000700000000000000000000000000000000" +
				"0000000000000040000001000000000000000000000000090000000000000002000000016100000000"},
		{api.State{}, 1, "80bd1319965d26e968e2642ceac2e2f3f242e73f512da12cd3e95b86597aefc7", strings.Repeat("00", 32)},
		{great, 119, "f53529f298d62e35915d2487008599701e9f245e2fa53018b648593ecffceb45", ""},
		{sized(255), 1, "9a3eb8c3809e26622b8ed242468ef8000510e75ffc6bfc4574487efe4997d638", ""},
		{sized(256), 1, "c2eb42eaeffdda8ad1a8248b92d94bf3550756c20cf5ae70053403e6532e2df7", ""},
		{sized(257), 2, "07f7cf8ab8a03924f7a74f955ffde22a03cc016fbf58fb335ac48cdc7834f626", ""},
		{sized(511), 2, "867d0c340a111d105a8f572ab36c5e92b76b07a2b681e9184a94a7bc6c26240b", ""},
		{sized(512), 2, "be31ad4f3ed8fbfd34d08aa11d5516c6a824f1581e49bc396a4f2befd4af1d37", ""},
		{sized(513), 3, "31b5747c5e985364d0c8588ed881032ab10424cb6abbfa8b32401df5ecbc275e", ""},
	}
}

// TestP11_1Known holds digests, bytes and the number of pieces against another program's.
func TestP11_1Known(t *testing.T) {
	for i, c := range known() {
		if d := chunk.Root(c.s); hex.EncodeToString(d[:]) != c.digest {
			t.Errorf("%d: the digest %x, not %s", i, d, c.digest)
		}
		if b := hex.EncodeToString(chunk.Bytes(c.s)); c.bytes != "" && b != c.bytes {
			t.Errorf("%d: the bytes %s, not %s", i, b, c.bytes)
		}
		if n := len(chunk.Pieces(c.s)); n != c.count {
			t.Errorf("%d: %d pieces, not %d", i, n, c.count)
		}
	}
}

// TestP11_1Any holds Bytes, Root and Pieces against the model, of states that can be and of others.
func TestP11_1Any(t *testing.T) {
	rnd := rand.New(rand.NewSource(1))
	for range 1500 {
		answers(t, someAny(rnd))
	}
	for _, n := range odd() {
		s := pairsOf("b", "1", "a", "2", "a", "3")
		s.Config = of(n, n, n, -n)
		s.Config.Members[1].Key = api.Key{Root: ones(), Height: n}
		s.Replies = []api.Reply{{Client: n, Num: -n, Code: api.Errno(n), Vals: []string{long(2000)}}, {}}
		answers(t, s)
	}
	many := api.State{Config: of(0, upTo(20)...), Pairs: pairsOf(keys(300)...).Pairs, Replies: repliesOf(upTo(70)...).Replies}
	answers(t, many)
	answers(t, pairsOf(long(5000), long(5000)))
}

// TestP11_1Sizes: states of all sizes about one piece, two and more: each piece but the last has 256 bytes.
func TestP11_1Sizes(t *testing.T) {
	for _, n := range []int{89, 90, 254, 255, 256, 257, 258, 511, 512, 513, 767, 768, 769, 1023, 1024, 1025, 1113} {
		s := sized(n)
		answers(t, s)
		var all string
		list := chunk.Pieces(s)
		for i, p := range list {
			if i < len(list)-1 && len(p.Data) != 256 || len(p.Data) < 1 || len(p.Data) > 256 || p.At != i || p.Count != len(list) {
				t.Errorf("%d bytes: piece %d, as it says %d of %d, has %d", n, i, p.At, p.Count, len(p.Data))
			}
			all += p.Data
		}
		if len(list) != (n+255)/256 || all != string(chunk.Bytes(s)) || len(all) != n {
			t.Errorf("%d bytes: %d pieces of %d", n, len(list), len(all))
		}
		joins(t, fmt.Sprint(n), chunk.Root(s), s, list...)
	}
}

// TestP11_1Trees: of every number of pieces up to 70 all have layer 3's root and paths.
func TestP11_1Trees(t *testing.T) {
	for n := 1; n <= 70; n++ {
		s := one()
		for i := 0; len(chunk.Bytes(s)) <= 256*(n-1); i++ {
			s.Pairs = append(s.Pairs, api.Pair{Key: fmt.Sprintf("%03d", i), Val: long(89 + i%5)})
		}
		var leaves []api.Digest
		for _, part := range modelParts(modelBytes(s)) {
			leaves = append(leaves, tree.Leaf([]byte(part)))
		}
		list := chunk.Pieces(s)
		if len(list) != n || len(leaves) != n {
			t.Fatalf("%d pieces, and %d leaves, not %d", len(list), len(leaves), n)
		}
		for i, p := range list {
			if path, _ := tree.Path(i, leaves...); p.Tree != tree.Root(leaves...) || !slices.Equal(p.Path, path) || !chunk.Check(chunk.Root(s), p) {
				t.Errorf("piece %d of %d: another tree", i, n)
			}
		}
	}
}

// TestP11_1DigestsApart: states that differ in anything have other bytes and another digest.
func TestP11_1DigestsApart(t *testing.T) {
	var all []api.State
	for _, c := range known() {
		all = append(all, c.s)
	}
	all = append(all, pairsOf("a", "b"), pairsOf("ab", ""), pairsOf("", "ab"), pairsOf("a", "", "b", ""), pairsOf("", "a", "b", ""),
		repliesOf(1), repliesOf(2), repliesOf(1, 2), repliesOf(2, 1), api.State{Config: of(1, 1)}, api.State{Config: of(0, 2)})
	for _, a := range []api.Reply{{Client: 1, Num: 2}, {Client: 1, Num: 1, Code: 1}, {Client: 1, Num: 1, Vals: []string{""}}, {Client: 1, Num: 1, Vals: []string{"", ""}}, {Client: 1, Num: 1, Vals: []string{"a"}}} {
		s := one()
		s.Replies = []api.Reply{a}
		all = append(all, s)
	}
	seen := map[api.Digest]api.State{}
	for _, s := range all {
		d := chunk.Root(s)
		if other, is := seen[d]; is {
			t.Errorf("%s and %s have one digest", told(s), told(other))
		}
		seen[d] = s
	}
}

// TestP11_1Nil: a list that is nil is as one that is empty.
func TestP11_1Nil(t *testing.T) {
	a := api.State{Replies: []api.Reply{{Client: 1}}}
	b := api.State{Pairs: []api.Pair{}, Replies: []api.Reply{{Client: 1, Vals: []string{}}}, Config: api.Config{Members: []api.Member{}}}
	if string(chunk.Bytes(a)) != string(chunk.Bytes(b)) || chunk.Root(a) != chunk.Root(b) || !slices.EqualFunc(chunk.Pieces(a), chunk.Pieces(b), samePiece) {
		t.Error("an empty list isn't as a nil one")
	}
	p := chunk.Pieces(one())[0]
	p.Path = []api.Digest{}
	if !chunk.Check(chunk.Root(one()), p) {
		t.Error("an empty path isn't as a nil one")
	}
	refuses(t, "nothing", "")
	if s, e := chunk.State(nil); e != api.ErrForm || !same(s, api.State{}) {
		t.Errorf("nil bytes: error %d: %s", e, told(s))
	}
}

// TestP11_1StateLimits: what is just within all limits is read, and what is just beyond one isn't.
func TestP11_1StateLimits(t *testing.T) {
	withReply := func(a api.Reply) api.State { return api.State{Config: of(0, 1), Replies: []api.Reply{a}} }
	withMember := func(m api.Member) api.State { return api.State{Config: api.Config{Members: []api.Member{m}}} }
	for what, s := range map[string]api.State{
		"one member alone":    one(),
		"ten members":         {Config: of(1<<30, 1, 2, 3, 4, 5, 6, 7, 8, 9, 63)},
		"a key of height 6":   withMember(api.Member{Id: 63, Key: api.Key{Root: ones(), Height: 6}}),
		"256 pairs":           pairsOf(keys(256)...),
		"64 replies":          repliesOf(upTo(64)...),
		"a key of 1024":       pairsOf(long(1024), ""),
		"a value of 1024":     pairsOf("", long(1024)),
		"a reply of 1024":     withReply(api.Reply{Client: 64, Num: lastNum, Code: 1024, Vals: []string{"", long(1024)}}),
		"a reply of 256":      withReply(api.Reply{Client: 1, Num: 1, Vals: make([]string, 256)}),
		"keys of any bytes":   pairsOf("", "1", "\x00", "2", "\x00\x00", "3", "\x7f", "4", "\x80", "5", "\xff", "6", "\xff\xff", "7"),
		"a key of a key":      pairsOf("a", "1", "aa", "2", "ab", "3", "b", "4"),
		"the outmost replies": repliesOf(1, 64),
	} {
		if read := reads(t, what, modelBytes(s)); !same(read, s) {
			t.Errorf("%s: %s was read as %s", what, told(s), told(read))
		}
	}
	for what, s := range map[string]api.State{
		"no member":             {},
		"eleven members":        {Config: of(0, upTo(11)...)},
		"a member 0":            {Config: of(0, 0)},
		"a member 64":           {Config: of(0, 64)},
		"members don't rise":    {Config: of(0, 2, 1)},
		"one member twice":      {Config: of(0, 2, 2)},
		"a key of height 7":     withMember(api.Member{Id: 63, Key: api.Key{Height: 7}}),
		"a key of height -1":    withMember(api.Member{Id: 63, Key: api.Key{Height: -1}}),
		"an epoch -1":           {Config: of(-1, 1)},
		"an epoch 2^30 and one": {Config: of(1<<30+1, 1)},
		"257 pairs":             pairsOf(keys(257)...),
		"65 replies":            repliesOf(upTo(65)...),
		"65 replies to 64":      repliesOf(append(upTo(64), 64)...),
		"a key of 1025":         pairsOf(long(1025), ""),
		"a value of 1025":       pairsOf("", long(1025)),
		"a reply of 1025":       withReply(api.Reply{Client: 1, Num: 1, Vals: []string{"", long(1025)}}),
		"a reply of 257":        withReply(api.Reply{Client: 1, Num: 1, Vals: make([]string, 257)}),
		"a client 0":            repliesOf(0),
		"a client 65":           repliesOf(65),
		"a number 0":            withReply(api.Reply{Client: 1}),
		"a number beyond 2^40":  withReply(api.Reply{Client: 1, Num: lastNum + 1}),
		"a code -1":             withReply(api.Reply{Client: 1, Num: 1, Code: -1}),
		"a code 1025":           withReply(api.Reply{Client: 1, Num: 1, Code: 1025}),
	} {
		refuses(t, what, modelBytes(s))
		fails(t, what, chunk.Root(s), api.ErrForm, chunk.Pieces(s)...)
	}
}

// TestP11_1Counts: of the numbers of pairs and replies those are refused that can't be, or don't tell what follows.
func TestP11_1Counts(t *testing.T) {
	head := modelBytes(one())[:64]
	for _, n := range append(odd(), 256, 257) {
		if n == 0 {
			reads(t, "none", head+num(0, 0))
			continue
		}
		refuses(t, fmt.Sprint(n, " pairs of none"), head+num(n, 0))
		refuses(t, fmt.Sprint(n, " pairs of some"), head+num(n)+strings.Repeat(texts("", ""), 300)+num(0))
		refuses(t, fmt.Sprint(n, " replies of none"), head+num(0, n))
		if two := head + num(0, n) + num(1, 1, 0, 0) + num(9, 1, 0, 0); n == 2 {
			reads(t, "two replies", two)
		} else {
			refuses(t, fmt.Sprint(n, " replies of two"), two)
		}
	}
}

// TestP11_1Rise: keys and clients that don't rise, at any place, are refused.
func TestP11_1Rise(t *testing.T) {
	for n := 2; n <= 9; n++ {
		for i := range n - 1 {
			s := pairsOf(keys(n)...)
			s.Pairs[i].Key = s.Pairs[i+1].Key
			refuses(t, fmt.Sprint("one key twice, ", i, " of ", n), modelBytes(s))
			s = pairsOf(keys(n)...)
			s.Pairs[i], s.Pairs[i+1] = s.Pairs[i+1], s.Pairs[i]
			refuses(t, fmt.Sprint("keys fall, ", i, " of ", n), modelBytes(s))
			s = repliesOf(upTo(n)...)
			s.Replies[i].Client = s.Replies[i+1].Client
			refuses(t, fmt.Sprint("one client twice, ", i, " of ", n), modelBytes(s))
			s = repliesOf(upTo(n)...)
			s.Replies[i], s.Replies[i+1] = s.Replies[i+1], s.Replies[i]
			refuses(t, fmt.Sprint("clients fall, ", i, " of ", n), modelBytes(s))
		}
	}
	for _, s := range []api.State{pairsOf("b", "", "a", ""), pairsOf("aa", "", "a", ""), pairsOf("a", "", "B", ""), pairsOf("\x80", "", "\x7f", ""), pairsOf("", "", "", ""), pairsOf("é", "", "z", "")} {
		refuses(t, told(s), modelBytes(s))
		fails(t, told(s), chunk.Root(s), api.ErrForm, chunk.Pieces(s)...)
	}
	s := repliesOf(3, 3)
	s.Replies[1].Num = 2
	refuses(t, "a client twice, by numbers that rise", modelBytes(s))
}

// TestP11_1Cut: bytes cut short anywhere, and with something behind, are refused.
func TestP11_1Cut(t *testing.T) {
	rnd := rand.New(rand.NewSource(2))
	all := []api.State{one(), known()[1].s}
	for range 6 {
		all = append(all, someGood(rnd))
	}
	for _, s := range all {
		b := modelBytes(s)
		for i := range len(b) {
			if _, e := chunk.State([]byte(b[:i])); e != api.ErrForm {
				t.Errorf("%s: cut at %d of %d: error %d", told(s), i, len(b), e)
			}
		}
		for _, more := range []string{"\x00", "\xff", num(0), num(0, 0), b} {
			refuses(t, "something is left", b+more)
		}
		reads(t, "whole", b)
	}
}

// TestP11_1Turned: bytes of which one is turned are read as the model reads them.
func TestP11_1Turned(t *testing.T) {
	rnd := rand.New(rand.NewSource(3))
	var ok, no int
	try := func(b string) {
		s, e := chunk.State([]byte(b))
		wanted, code := modelState(b)
		if e != code || !same(s, wanted) {
			t.Fatalf("%x: error %d: %s; the model's: %d: %s", b, e, told(s), code, told(wanted))
		}
		if e == api.OK {
			ok++
		} else {
			no++
		}
	}
	b := modelBytes(known()[1].s)
	for i := range len(b) {
		for _, k := range []byte{1, 2, 4, 8, 16, 32, 64, 128, 255} {
			try(b[:i] + string([]byte{b[i] ^ k}) + b[i+1:])
		}
	}
	for range 8000 {
		b := []byte(modelBytes(someAny(rnd)))
		for range rnd.Intn(2) {
			b[rnd.Intn(len(b))] += byte(1 + rnd.Intn(3))
		}
		try(string(b[:len(b)-rnd.Intn(2)*rnd.Intn(2)]))
	}
	if ok < 1000 || no < 1000 {
		t.Errorf("%d were states, and %d none", ok, no)
	}
}

// checks: that a piece is one of a digest's or none, as the model says.
func checks(t *testing.T, what string, root api.Digest, p api.Piece, wanted bool) {
	t.Helper()
	if is := chunk.Check(root, p); is != wanted || is != modelCheck(root, p) {
		t.Errorf("%s: piece %d of %d: %t; the model's: %t", what, p.At, p.Count, is, modelCheck(root, p))
	}
}

// TestP11_1CheckOfOthers: a piece is one of its own digest alone.
func TestP11_1CheckOfOthers(t *testing.T) {
	s, other := sized(1100), sized(1101)
	root := chunk.Root(s)
	for i, p := range chunk.Pieces(s) {
		checks(t, "its own", root, p, true)
		checks(t, "another's", chunk.Root(other), p, false)
		checks(t, "that of none", api.Digest{}, p, false)
		checks(t, "the tree's", p.Tree, p, false)
		for at := range root {
			d := root
			d[at] ^= 1
			checks(t, fmt.Sprint("turned at ", at), d, p, false)
		}
		for k, q := range chunk.Pieces(other) {
			checks(t, fmt.Sprint(i, k), root, q, false)
		}
	}
	checks(t, "no piece", root, api.Piece{}, false)
	checks(t, "no piece of none", api.Digest{}, api.Piece{}, false)
}

// TestP11_1CheckOfChanged: a piece that is changed in anything is none.
func TestP11_1CheckOfChanged(t *testing.T) {
	for _, n := range []int{89, 256, 257, 600, 1100} {
		s := sized(n)
		root, list := chunk.Root(s), chunk.Pieces(s)
		for i, p := range list {
			for at := range len(p.Data) {
				q := p
				q.Data = p.Data[:at] + string([]byte{p.Data[at] ^ 1}) + p.Data[at+1:]
				checks(t, "a byte is turned", root, q, false)
			}
			for _, data := range []string{"", p.Data[1:], p.Data[:len(p.Data)-1], p.Data + "\x00", "\x00" + p.Data} {
				q := p
				q.Data = data
				checks(t, "other bytes", root, q, false)
			}
			for at := -2; at < len(list)+2; at++ {
				q := p
				q.At = at
				checks(t, "another place", root, q, at == i)
			}
			for _, count := range append(odd(), len(list)-1, len(list)+1, -len(list)) {
				q := p
				q.Count = count
				checks(t, "another count", root, q, count == len(list))
			}
			for at := range p.Tree {
				q := p
				q.Tree[at] ^= 128
				checks(t, "another tree", root, q, false)
			}
			checkPaths(t, root, p)
		}
	}
}

// checkPaths: that with any other path a piece is none.
func checkPaths(t *testing.T, root api.Digest, p api.Piece) {
	t.Helper()
	with := func(what string, path ...api.Digest) {
		t.Helper()
		q := p
		q.Path = path
		checks(t, what, root, q, slices.Equal(path, p.Path))
	}
	with("a longer path", append(slices.Clone(p.Path), api.Digest{})...)
	with("a path with one ahead", append([]api.Digest{p.Tree}, p.Path...)...)
	with("no path")
	for i := range p.Path {
		with("a path with one missing", slices.Delete(slices.Clone(p.Path), i, i+1)...)
		path := slices.Clone(p.Path)
		path[i][31] ^= 1
		with("a path that is turned", path...)
	}
	path := slices.Clone(p.Path)
	slices.Reverse(path)
	with("a path from above", path...)
}

// TestP11_1CheckEdges: places and counts at the edges, under digests that somebody made of them.
func TestP11_1CheckEdges(t *testing.T) {
	places := []int{math.MinInt, -2, -1, 0, 1, 2, 3, math.MaxInt - 1, math.MaxInt}
	for _, count := range []int{math.MinInt, -1, 0, 1, 2, 3, 1 << 32, 1 << 62, math.MaxInt} {
		for _, at := range places {
			p := api.Piece{At: at, Count: count, Tree: hash("\x00", "data"), Data: "data"}
			checks(t, "without a path", modelDigest(count, p.Tree), p, at == 0 && count == 1)
			p = climber(at, count)
			checks(t, "with a path", modelDigest(count, p.Tree), p, 0 <= at && at < count)
		}
	}
}

// climber: a piece at a place of any count, with a path made up, and the root that both make.
func climber(at, count int) api.Piece {
	p := api.Piece{At: at, Count: count, Data: "data", Tree: hash("\x00", "data")}
	if at < 0 || at >= count {
		return p
	}
	for {
		top, ok := climb(hash("\x00", p.Data), at, count, p.Path)
		if ok {
			p.Tree = top
			return p
		}
		p.Path = append(p.Path, api.Digest{byte(len(p.Path))})
	}
}

// TestP11_1CheckAny holds Check against the model, of pieces of any parts, changed here and there.
func TestP11_1CheckAny(t *testing.T) {
	rnd := rand.New(rand.NewSource(4))
	var yes, no int
	for range 4000 {
		root, list := piecesOf(someParts(rnd)...)
		p := list[rnd.Intn(len(list))]
		if rnd.Intn(2) == 0 {
			p, root = changed(rnd, p, root)
		}
		is := modelCheck(root, p)
		checks(t, "any", root, p, is)
		if is {
			yes++
		} else {
			no++
		}
	}
	if yes < 1000 || no < 1000 {
		t.Errorf("%d were pieces, and %d none", yes, no)
	}
}

// someParts: one to twenty texts.
func someParts(rnd *rand.Rand) []string {
	list := []string{someText(rnd)}
	for range rnd.Intn(20) {
		list = append(list, someText(rnd))
	}
	return list
}

// changed: a piece and a digest, one of which is changed, though it may still be right.
func changed(rnd *rand.Rand, p api.Piece, root api.Digest) (api.Piece, api.Digest) {
	p.Path = slices.Clone(p.Path)
	switch k := rnd.Intn(8); {
	case k == 0:
		p.At += rnd.Intn(5) - 2
	case k == 1:
		p.Count += rnd.Intn(5) - 2
	case k == 2: // the digest is made for it
		p.Count += rnd.Intn(5) - 2
		root = modelDigest(p.Count, p.Tree)
	case k == 3:
		p.Tree = someDigest(rnd)
	case k == 4:
		p.Data += "x"
	case k == 5 && len(p.Path) > 0:
		p.Path = p.Path[1:]
	case k == 6:
		p.Path = append(p.Path, someDigest(rnd))
	default:
		root[rnd.Intn(32)] ^= 1
	}
	return p, root
}

// TestP11_1JoinOfFew: ErrFew, if none counts, or a place is missing, whichever.
func TestP11_1JoinOfFew(t *testing.T) {
	for _, n := range []int{89, 256, 257, 600, 1100} {
		s := sized(n)
		root, list := chunk.Root(s), chunk.Pieces(s)
		fails(t, "none at all", root, api.ErrFew)
		fails(t, "another digest", api.Digest{}, api.ErrFew, list...)
		fails(t, "the tree's digest", list[0].Tree, api.ErrFew, list...)
		fails(t, "another's pieces", root, api.ErrFew, chunk.Pieces(sized(n+1))...)
		for i := range list {
			without := slices.Delete(slices.Clone(list), i, i+1)
			fails(t, "one missing", root, api.ErrFew, without...)
			fails(t, "one missing, the others twice", root, api.ErrFew, append(without, without...)...)
			turned := slices.Clone(list)
			turned[i].Data = "\x01" + turned[i].Data[1:]
			fails(t, "one turned", root, api.ErrFew, turned...)
			turned[i] = list[i]
			turned[i].At++
			fails(t, "one of another place", root, api.ErrFew, turned...)
			fails(t, "another one's for it", root, api.ErrFew, append(without, chunk.Pieces(sized(n+1))...)...)
		}
	}
	fails(t, "none under no digest", api.Digest{}, api.ErrFew)
	fails(t, "no pieces under no digest", api.Digest{}, api.ErrFew, make([]api.Piece, 3)...)
}

// TestP11_1JoinOfSeveral: several of one place, and with several Counts, of which those that don't check stand in nobody's way, be they ahead or behind.
func TestP11_1JoinOfSeveral(t *testing.T) {
	for _, n := range []int{89, 256, 257, 600, 1100} {
		s := sized(n)
		root, list := chunk.Root(s), chunk.Pieces(s)
		var others []api.Piece
		for _, p := range list {
			for _, count := range []int{-1, 0, p.Count - 1, p.Count + 1, 2 * p.Count, math.MaxInt} {
				q := p
				q.Count = count
				others = append(others, q)
			}
			q := p
			q.Data += "x"
			others = append(others, q, climber(p.At, p.Count), climber(p.At, p.Count+1))
		}
		joins(t, "others ahead", root, s, append(slices.Clone(others), list...)...)
		joins(t, "others behind", root, s, append(slices.Clone(list), others...)...)
		joins(t, "each thrice", root, s, slices.Concat(list, others, list, others, list)...)
		fails(t, "others alone", root, api.ErrFew, others...)
		fails(t, "others for the last one", root, api.ErrFew, append(list[:len(list)-1], others...)...)
	}
}

// TestP11_1JoinOfMany: a count that is far beyond all pieces is ErrFew, and at once.
func TestP11_1JoinOfMany(t *testing.T) {
	for _, count := range []int{2, 3, 1 << 20, 1 << 40, 1 << 62, math.MaxInt} {
		for _, at := range []int{0, 1, count - 1} {
			p := climber(at, count)
			root := modelDigest(count, p.Tree)
			checks(t, "one of many", root, p, true)
			fails(t, fmt.Sprint("place ", at, " of ", count), root, api.ErrFew, p, p, p)
		}
	}
}

// TestP11_1JoinOfAnyParts: pieces needn't have 256 bytes, where somebody made their digest: what counts is the bytes, one behind the other.
func TestP11_1JoinOfAnyParts(t *testing.T) {
	rnd := rand.New(rand.NewSource(5))
	for range 500 {
		s := someAny(rnd)
		b := modelBytes(s)
		var parts []string
		for rest := b; ; {
			if len(parts) > 12 {
				parts = append(parts, rest)
				break
			}
			k := rnd.Intn(len(rest) + 1)
			parts = append(parts, rest[:k])
			rest = rest[k:]
		}
		root, list := piecesOf(parts...)
		if wanted, e := modelState(b); e == api.OK {
			joins(t, "any parts", root, wanted, shuffled(rnd, list)...)
		} else {
			fails(t, "any parts of none", root, api.ErrForm, shuffled(rnd, list)...)
		}
	}
	for _, parts := range [][]string{{""}, {"", ""}, {"x"}, {modelBytes(one()), "\x00"}, {modelBytes(one())[:79]}, {modelBytes(one())[1:], "\x00"}} {
		root, list := piecesOf(parts...)
		fails(t, fmt.Sprintf("%q", parts), root, api.ErrForm, list...)
		if len(list) > 1 {
			fails(t, "without the last one", root, api.ErrFew, list[:len(list)-1]...)
		}
	}
	root, list := piecesOf("", modelBytes(one()), "", "")
	joins(t, "parts of nothing", root, one(), list...)
}

// TestP11_1JoinAny holds Join against the model, of lists in which something is missing, changed, twice or another's.
func TestP11_1JoinAny(t *testing.T) {
	rnd := rand.New(rand.NewSource(6))
	seen := map[api.Errno]int{}
	for range 3000 {
		s, other := someAny(rnd), someGood(rnd)
		root := chunk.Root(s)
		list := chunk.Pieces(s)
		for range rnd.Intn(3) {
			list = append(list, list[rnd.Intn(len(list))])
			p, _ := changed(rnd, list[rnd.Intn(len(list))], root)
			list = append(list, p)
		}
		list = shuffled(rnd, append(list, chunk.Pieces(other)...))
		list = list[rnd.Intn(2)*rnd.Intn(2):]
		wanted, code := modelJoin(root, list...)
		got, e := chunk.Join(root, list...)
		if e != code || !same(got, wanted) {
			t.Fatalf("error %d: %s; the model's: %d: %s", e, told(got), code, told(wanted))
		}
		seen[e]++
	}
	if seen[api.OK] < 200 || seen[api.ErrFew] < 200 || seen[api.ErrForm] < 200 {
		t.Errorf("errors and how often: %v", seen)
	}
}

// TestP11_2ThereAndBack: a state in order is read from its bytes as it is, and joined from its pieces in any order, whatever stands between.
func TestP11_2ThereAndBack(t *testing.T) {
	rnd := rand.New(rand.NewSource(7))
	for range 1500 {
		s := someGood(rnd)
		if read, e := chunk.State(chunk.Bytes(s)); e != api.OK || !same(read, s) {
			t.Fatalf("%s: error %d: %s", told(s), e, told(read))
		}
		root, list := chunk.Root(s), chunk.Pieces(s)
		joins(t, "in order", root, s, list...)
		joins(t, "in any order", root, s, shuffled(rnd, list)...)
		joins(t, "with others between", root, s, shuffled(rnd, append(noise(rnd, root, list), list...))...)
		joins(t, "with others behind", root, s, append(slices.Clone(list), noise(rnd, root, list)...)...)
		joins(t, "with others ahead", root, s, append(noise(rnd, root, list), list...)...)
		joins(t, "each twice", root, s, shuffled(rnd, append(slices.Clone(list), list...))...)
	}
}

// noise: pieces that aren't some state's, though many are like them: of another state, changed, of no state at all.
func noise(rnd *rand.Rand, root api.Digest, list []api.Piece) []api.Piece {
	others := append(chunk.Pieces(someGood(rnd)), api.Piece{}, api.Piece{At: -1, Count: -1}, api.Piece{Count: math.MaxInt})
	for _, p := range list {
		p, _ = changed(rnd, p, root)
		others = append(others, p)
		p.Data = someText(rnd)
		others = append(others, p)
	}
	return slices.DeleteFunc(others, func(p api.Piece) bool { return modelCheck(root, p) })
}

// TestP11_2Registries: registries that requests made, up to the greatest numbers of keys and clients.
func TestP11_2Registries(t *testing.T) {
	s := state.New(of(2, 3, 7))
	for i := range 600 {
		kind := 1 + i%6
		if i%3 > 0 {
			kind = api.OpPut
		}
		op := api.Op{Kind: kind, Key: fmt.Sprint(i * 7 % 300), Val: long(i % 40)}
		s, _ = state.Apply(s, api.Request{Client: 1 + i%64, Num: 1 + i, Op: op})
		if i%50 > 0 {
			continue
		}
		answers(t, s)
		joins(t, fmt.Sprint("behind request ", i), chunk.Root(s), s, chunk.Pieces(s)...)
	}
	if len(s.Pairs) < 200 || len(s.Replies) != 64 {
		t.Errorf("%d pairs, %d replies", len(s.Pairs), len(s.Replies))
	}
}

// TestP11_2OneForm: bytes that are read are those of the state that they are read as.
func TestP11_2OneForm(t *testing.T) {
	rnd := rand.New(rand.NewSource(8))
	for range 2000 {
		b := modelBytes(someAny(rnd))
		if s, e := chunk.State([]byte(b)); e == api.OK && (string(chunk.Bytes(s)) != b || !canBe(s)) {
			t.Fatalf("%x was read as %s", b, told(s))
		}
	}
}

// TestP11_2Greatest: a registry with all that it can hold is joined, too, and takes no time to speak of for each piece.
func TestP11_2Greatest(t *testing.T) {
	s := api.State{Config: of(0, upTo(10)...)}
	list := make([]string, 256)
	for i := range list {
		key := fmt.Sprintf("%03d", i) + long(1021)
		s.Pairs = append(s.Pairs, api.Pair{Key: key, Val: long(1024)})
		list[i] = key
	}
	for i := range 64 {
		s.Replies = append(s.Replies, api.Reply{Client: i + 1, Num: lastNum, Vals: list})
	}
	root, pieces := chunk.Root(s), chunk.Pieces(s)
	if n := (len(modelBytes(s)) + 255) / 256; len(pieces) != n || n < 60000 {
		t.Fatalf("%d pieces, not %d", len(pieces), n)
	}
	slices.Reverse(pieces)
	joins(t, "the greatest one", root, s, pieces...)
	fails(t, "the greatest one but a piece", root, api.ErrFew, pieces[1:]...)
}

// TestP11_3JoinedIsTheState: under a state's digest nothing but that state is joined, whatever the pieces.
func TestP11_3JoinedIsTheState(t *testing.T) {
	rnd := rand.New(rand.NewSource(9))
	var ok, few int
	for range 3000 {
		s := someGood(rnd)
		root, list := chunk.Root(s), chunk.Pieces(s)
		other := deep(s)
		spoil(rnd, &other)
		all := append(chunk.Pieces(other), noise(rnd, root, list)...)
		for _, p := range list {
			if rnd.Intn(12) > 0 {
				all = append(all, p)
			}
		}
		joined, e := chunk.Join(root, shuffled(rnd, all)...)
		switch {
		case e == api.OK && same(joined, s):
			ok++
		case e == api.ErrFew && same(joined, api.State{}):
			few++
		default:
			t.Fatalf("%s: error %d: %s", told(s), e, told(joined))
		}
	}
	if ok < 500 || few < 200 {
		t.Errorf("%d were joined, %d had too few", ok, few)
	}
}

// TestP11_3OutOfOrder: under the digest of a state that isn't in order, or can't be, nothing is joined.
func TestP11_3OutOfOrder(t *testing.T) {
	rnd := rand.New(rand.NewSource(10))
	for range 2000 {
		s := someAny(rnd)
		joined, e := chunk.Join(chunk.Root(s), shuffled(rnd, chunk.Pieces(s))...)
		switch {
		case e == api.OK && canBe(s) && same(joined, s):
		case e == api.ErrForm && !canBe(s) && same(joined, api.State{}):
		default:
			t.Fatalf("%s: error %d: %s", told(s), e, told(joined))
		}
	}
}

// TestP11_3Stands: a leaf can't stand for two, nor two for one: the digests above leaves are no pieces' bytes.
func TestP11_3Stands(t *testing.T) {
	s := sized(1000)
	root, list := chunk.Root(s), chunk.Pieces(s)
	a, b := hash("\x00", list[0].Data), hash("\x00", list[1].Data)
	pair := api.Piece{Count: 4, Tree: list[0].Tree, Data: "\x01" + text(a) + text(b), Path: list[0].Path[1:]}
	for count := range 6 {
		pair.Count = count
		checks(t, "a pair as a leaf", root, pair, false)
		pair.Data = text(a) + text(b)
		checks(t, "a pair as a leaf", root, pair, false)
	}
	whole := api.Piece{Count: 1, Tree: list[0].Tree, Data: modelBytes(s)}
	checks(t, "all in one", root, whole, false)
	fails(t, "all in one", root, api.ErrFew, whole)
	first := api.Piece{Count: 1, Tree: hash("\x00", list[0].Data), Data: list[0].Data}
	checks(t, "the first one alone", root, first, false)
}

// roomy: a state all of whose lists have room to spare, in which something stands.
func roomy(s api.State) api.State {
	s = deep(s)
	s.Pairs = append(s.Pairs, api.Pair{Key: "spare", Val: "pair"}, api.Pair{Key: "spare", Val: "pair"})[:len(s.Pairs)]
	s.Config.Members = append(s.Config.Members, of(0, 99, 98).Members...)[:len(s.Config.Members)]
	for i, a := range s.Replies {
		s.Replies[i].Vals = append(a.Vals, "spare", "val")[:len(a.Vals)]
	}
	s.Replies = append(s.Replies, api.Reply{Client: 77, Vals: []string{"spare"}}, api.Reply{Client: 78})[:len(s.Replies)]
	return s
}

// whole: a state with all its room to spare.
func whole(s api.State) api.State {
	s.Pairs = s.Pairs[:cap(s.Pairs)]
	s.Replies = slices.Clone(s.Replies[:cap(s.Replies)])
	for i, a := range s.Replies {
		s.Replies[i].Vals = a.Vals[:cap(a.Vals)]
	}
	s.Config.Members = s.Config.Members[:cap(s.Config.Members)]
	return deep(s)
}

// scrawl writes over all of a state's lists, spare room included.
func scrawl(s api.State) {
	for i := range s.Pairs[:cap(s.Pairs)] {
		s.Pairs[:cap(s.Pairs)][i] = api.Pair{Key: "scrawl", Val: "scrawl"}
	}
	for i := range s.Config.Members[:cap(s.Config.Members)] {
		s.Config.Members[:cap(s.Config.Members)][i] = api.Member{Id: -8, Key: api.Key{Root: ones(), Height: -8}}
	}
	for i, a := range s.Replies[:cap(s.Replies)] {
		for k := range a.Vals[:cap(a.Vals)] {
			a.Vals[:cap(a.Vals)][k] = "scrawl"
		}
		s.Replies[:cap(s.Replies)][i] = api.Reply{Client: -8, Num: -8, Code: -8}
	}
}

// scrawlPaths writes over all paths of pieces, spare room included.
func scrawlPaths(list []api.Piece) {
	for _, p := range list {
		for i := range p.Path[:cap(p.Path)] {
			p.Path[:cap(p.Path)][i] = ones()
		}
	}
}

// TestP11_4NothingIsChanged: by any call, in the room to spare either.
func TestP11_4NothingIsChanged(t *testing.T) {
	rnd := rand.New(rand.NewSource(11))
	for range 300 {
		s := roomy(someAny(rnd))
		before := whole(s)
		b := chunk.Bytes(s)
		root, list := chunk.Root(s), chunk.Pieces(s)
		if !same(whole(s), before) {
			t.Fatalf("%s became %s", told(before), told(whole(s)))
		}
		room := append(slices.Clip(b), "spare"...)
		bytes := string(room)
		chunk.State(room[:len(b)])
		if string(room) != bytes {
			t.Fatal("bytes were changed")
		}
		for i, p := range list {
			list[i].Path = append(p.Path, ones(), api.Digest{7})[:len(p.Path)]
		}
		list = append(shuffled(rnd, list), noise(rnd, root, list)...)
		wanted := deepPieces(wholePaths(list))
		for _, p := range list {
			chunk.Check(root, p)
		}
		chunk.Join(root, list[:len(list)-1]...)
		chunk.Join(root, list...)
		if !slices.EqualFunc(wholePaths(list), wanted, samePiece) {
			t.Fatal("pieces were changed")
		}
	}
}

// wholePaths: pieces whose paths have all their room to spare.
func wholePaths(list []api.Piece) []api.Piece {
	list = slices.Clone(list)
	for i, p := range list {
		list[i].Path = p.Path[:cap(p.Path)]
	}
	return list
}

// TestP11_4AnswersAreNew: what is written into an answer is seen in no other one, and not in what was handed in.
func TestP11_4AnswersAreNew(t *testing.T) {
	rnd := rand.New(rand.NewSource(12))
	for range 300 {
		s := roomy(someGood(rnd))
		before := whole(s)
		b, c := chunk.Bytes(s), chunk.Bytes(s)
		bytes := string(b)
		clear(c[:cap(c)])
		first, _ := chunk.State(b)
		second, _ := chunk.State(b)
		scrawl(second)
		if string(b) != bytes || !same(first, s) || !same(whole(s), before) {
			t.Fatal("bytes or states share memory")
		}
		root, list, again := chunk.Root(s), chunk.Pieces(s), chunk.Pieces(s)
		wanted := deepPieces(list)
		scrawlPaths(again)
		clear(again[:cap(again)])
		first, _ = chunk.Join(root, list...)
		second, _ = chunk.Join(root, list...)
		scrawl(second)
		if !slices.EqualFunc(list, wanted, samePiece) || !same(first, s) || !same(whole(s), before) {
			t.Fatal("pieces or states share memory")
		}
	}
}

// TestP11_4PathsAreNew: no two pieces of one answer share memory.
func TestP11_4PathsAreNew(t *testing.T) {
	for _, n := range []int{257, 600, 800, 1100} {
		list := chunk.Pieces(sized(n))
		wanted := deepPieces(list)
		for i := range list {
			scrawlPaths(list[i : i+1])
			for k := i + 1; k < len(list); k++ {
				if !samePiece(list[k], wanted[k]) {
					t.Errorf("pieces %d and %d of %d share memory", i, k, len(list))
				}
			}
		}
	}
	s := repliesOf(1, 2, 3)
	for i := range s.Replies {
		s.Replies[i].Vals = []string{"a", "b"}
	}
	read, _ := chunk.State(chunk.Bytes(s))
	vals := read.Replies[1].Vals
	vals = vals[:cap(vals)]
	for i := range vals {
		vals[i] = "scrawl"
	}
	if !slices.Equal(read.Replies[0].Vals, []string{"a", "b"}) || !slices.Equal(read.Replies[2].Vals, []string{"a", "b"}) {
		t.Error("replies of one state share memory")
	}
}

// TestP11_4NothingIsKept: what is written into what was handed in, behind the call, isn't seen in what was answered.
func TestP11_4NothingIsKept(t *testing.T) {
	rnd := rand.New(rand.NewSource(13))
	for range 300 {
		s := roomy(someGood(rnd))
		wanted := deep(s)
		b, root, list := chunk.Bytes(s), chunk.Root(s), chunk.Pieces(s)
		bytes, pieces := string(b), deepPieces(list)
		scrawl(s)
		if string(b) != bytes || !slices.EqualFunc(list, pieces, samePiece) || chunk.Root(wanted) != root {
			t.Fatal("bytes or pieces share memory with a state")
		}
		read, _ := chunk.State(b)
		clear(b)
		joined, _ := chunk.Join(root, list...)
		scrawlPaths(list)
		clear(list)
		if !same(read, wanted) || !same(joined, wanted) {
			t.Fatal("a state shares memory with its bytes or pieces")
		}
		if chunk.Check(root, api.Piece{}) || chunk.Root(wanted) != root {
			t.Fatal("an earlier call is seen")
		}
	}
}
