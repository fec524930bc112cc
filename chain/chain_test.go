package chain_test

import (
	"encoding/hex"
	"math"
	"math/rand"
	"slices"
	"strings"
	"testing"

	"wapentake/api"
	"wapentake/block"
	"wapentake/chain"
	"wapentake/code"
	"wapentake/config"
	"wapentake/keys"
	"wapentake/vote"
)

// leads: what a link is answered from a configuration on, behind a height.
func leads(t *testing.T, what string, c api.Config, height int, l api.Link, e api.Errno) {
	t.Helper()
	if got, wanted := chain.Step(c, height, l), modelStep(c, height, l); got != e || wanted != e {
		t.Errorf("%s: behind %d, %s: %s: %d, and %d by the model", what, height, shortConfig(c), short(l), got, wanted)
	}
}

// ends: that links are answered so many, and an error; behind none the last one's configuration.
func ends(t *testing.T, what string, w way, n int, e api.Errno) {
	t.Helper()
	wanted := api.Config{}
	if e == api.OK {
		wanted = *w.ahead(len(w.links))
	}
	c, at, got := chain.Check(w.first, w.links...)
	if !sameConfig(c, wanted) || at != n || got != e {
		t.Errorf("%s: %d links: %s, %d, %d", what, len(w.links), shortConfig(c), at, got)
	}
	c, at, got = modelCheck(w.first, w.links)
	if !sameConfig(c, wanted) || at != n || got != e {
		t.Errorf("%s: %d links, by the model: %s, %d, %d", what, len(w.links), shortConfig(c), at, got)
	}
}

// written: a link's bytes; none, if it can't be written.
func written(l api.Link) string {
	var w code.Writer
	chain.Write(&w, l)
	return string(w.Bytes())
}

// reader: one of the bytes that a text has.
func reader(b string) *code.Reader { return code.Read([]byte(b)) }

// reads: that bytes are just those of a link.
func reads(t *testing.T, what, all string, wanted api.Link) {
	t.Helper()
	r := reader(all)
	if l := chain.Read(r); !same(l, wanted) || !r.End() {
		t.Errorf("%s: %s is read as %s, end %t", what, short(wanted), short(l), r.End())
	}
}

// none: that a reader has no link, and a fault.
func none(t *testing.T, what string, r *code.Reader) {
	t.Helper()
	l := chain.Read(r)
	if !same(l, api.Link{}) || r.Good() || r.End() {
		t.Errorf("%s: %s, good %t", what, short(l), r.Good())
	}
}

// readsIf: that a link's bytes are read, or not.
func readsIf(t *testing.T, what string, l api.Link, is bool) {
	t.Helper()
	if is {
		reads(t, what, modelBytes(l), l)
	} else {
		none(t, what, reader(modelBytes(l)))
	}
}

// link: full's alone.
func link() api.Link {
	_, l := full()
	return l
}

// TestP15_1Example is the chapter's: of no links the first configuration, 0, OK.
func TestP15_1Example(t *testing.T) {
	for n := 1; n <= 10; n++ {
		for _, epoch := range []int{0, 5, 1 << 30} {
			c := group(epoch, n)
			ends(t, "no links", way{first: c}, 0, api.OK)
			got, at, e := chain.Check(c, []api.Link{}...)
			if !sameConfig(got, c) || at != 0 || e != api.OK {
				t.Errorf("an empty list: %s, %d, %d", shortConfig(got), at, e)
			}
		}
	}
}

// TestP15_1First: one that can't be has no chain, be there no links, one, or too many.
func TestP15_1First(t *testing.T) {
	for name, change := range map[string]func(c *api.Config){
		"nothing at all":   func(c *api.Config) { *c = api.Config{} },
		"no members":       func(c *api.Config) { c.Members = nil },
		"empty members":    func(c *api.Config) { c.Members = []api.Member{} },
		"an epoch below":   func(c *api.Config) { c.Epoch = -1 },
		"an epoch beyond":  func(c *api.Config) { c.Epoch = 1<<30 + 1 },
		"Ids that fall":    func(c *api.Config) { m := c.Members; m[0], m[1] = m[1], m[0] },
		"two of one Id":    func(c *api.Config) { c.Members[3].Id = c.Members[2].Id },
		"no Id":            func(c *api.Config) { c.Members[0].Id = 0 },
		"an Id beyond":     func(c *api.Config) { c.Members[3].Id = 64 },
		"a height below":   func(c *api.Config) { c.Members[3].Key.Height = -1 },
		"a height beyond":  func(c *api.Config) { c.Members[3].Key.Height = 7 },
		"too many members": func(c *api.Config) { *c = group(5, 11) },
	} {
		w := line(3)
		ends(t, "ahead", w, 3, api.OK)
		change(&w.first)
		for _, n := range []int{0, 1, 2, 3} {
			ends(t, name, way{w.first, w.links[:n]}, 0, api.ErrArg)
		}
		ends(t, name+", too many", way{w.first, make([]api.Link, 1025)}, 0, api.ErrArg)
		ends(t, name+", none of which leads", way{w.first, make([]api.Link, 3)}, 0, api.ErrArg)
	}
}

// TestP15_1FirstLimits: one that can just be has a chain.
func TestP15_1FirstLimits(t *testing.T) {
	for name, change := range map[string]func(c *api.Config){
		"the last Id":      func(c *api.Config) { c.Members[9].Id = 63 },
		"the first Id":     func(c *api.Config) { c.Members[0].Id = 1 },
		"the least height": func(c *api.Config) { c.Members[9].Key.Height = 0 },
		"the most height":  func(c *api.Config) { c.Members[9].Key.Height = 6 },
		"one member":       func(c *api.Config) { c.Members = c.Members[9:] },
		"the least epoch":  func(c *api.Config) { c.Epoch = 0 },
		"the last but one": func(c *api.Config) { c.Epoch = 1<<30 - 1 },
	} {
		w := way{first: group(5, 10), links: []api.Link{{Block: batch(5, 258, 1), Config: group(1<<30, 4)}}}
		change(&w.first)
		w.links[0].Block.Epoch = w.first.Epoch
		w.seal(hand{})
		ends(t, name, w, 1, api.OK)
	}
	w := way{first: group(1<<30, 4), links: []api.Link{{Block: batch(1<<30, 258, 1), Config: group(1<<30, 4)}}}
	w.seal(hand{})
	ends(t, "the last epoch leads nowhere", w, 0, api.ErrChain)
	ends(t, "but stands by itself", way{first: w.first}, 0, api.OK)
}

// longest: a way of as many links as a chain may have, each at the height behind that of the one ahead.
func longest() way {
	w := way{first: group(0, 1)}
	for i := range 1024 {
		w.links = append(w.links, api.Link{Block: batch(i, 1+i, 0), Config: group(1+i, 1)})
	}
	w.seal(hand{})
	return w
}

// TestP15_1Most: MaxChain links are a chain, and one more is none, whatever it is.
func TestP15_1Most(t *testing.T) {
	if api.MaxChain != 1024 {
		t.Error("another limit")
	}
	w := longest()
	ends(t, "just as many as may be", w, 1024, api.OK)
	ends(t, "one less", way{w.first, w.links[:1023]}, 1023, api.OK)
	for name, l := range map[string]api.Link{"the last one twice": w.links[1023], "the first one again": w.links[0], "one of zeros": {}} {
		ends(t, name, way{w.first, append(slices.Clone(w.links), l)}, 0, api.ErrMany)
		ends(t, name+", and more", way{w.first, append(slices.Clone(w.links), l, l, l)}, 0, api.ErrMany)
	}
	off := w.clone()
	off.links[1023].Config.Members[0].Key.Root[0] ^= 1
	ends(t, "the last one doesn't lead", off, 1023, api.ErrRoot)
	off.links[1022].Cert.Votes[0].Sig.Once.Open[9][9] ^= 1
	ends(t, "nor the one ahead of it", off, 1022, api.ErrFew)
	for n, e := range map[int]api.Errno{1: api.ErrChain, 1023: api.ErrChain, 1024: api.ErrChain, 1025: api.ErrMany, 1026: api.ErrMany, 2048: api.ErrMany, 3000: api.ErrMany} {
		ends(t, "links of zeros", way{w.first, make([]api.Link, n)}, 0, e)
	}
}

// TestP15_1Heights: above that of the one ahead, and else whatever a block can have; at the first link above 0.
func TestP15_1Heights(t *testing.T) {
	for _, height := range odd() {
		for _, behind := range odd() {
			w := way{first: group(5, 1), links: []api.Link{{Block: batch(5, height, 0), Config: group(6, 1)}}}
			w.seal(hand{})
			e := api.OK
			if height <= behind {
				e = api.ErrChain
			} else if height < 1 || height > 1024 {
				e = api.ErrFew
			}
			leads(t, "a height", w.first, behind, w.links[0], e)
			if behind == 0 {
				ends(t, "a height", w, map[bool]int{true: 1}[e == api.OK], e)
			}
		}
	}
}

// TestP15_1HeightsOfThree: of three links the second, or the last one, has the height of the one ahead, one below it, or one above it.
func TestP15_1HeightsOfThree(t *testing.T) {
	for _, at := range []int{1, 2} {
		for by := -3; by <= 3; by++ {
			w := way{first: group(5, 4)}
			for i := range 3 {
				w.links = append(w.links, api.Link{Block: batch(5+i, 10+10*i, 1), Config: group(6+i, 4)})
			}
			w.links[at].Block.Height = w.links[at-1].Block.Height + by
			w.seal(hand{})
			if by <= 0 {
				ends(t, "a height not above", w, at, api.ErrChain)
			} else {
				ends(t, "a height above", w, 3, api.OK)
			}
		}
	}
}

// TestP15_1Configs: one that can't be isn't led to, though its digest is the block's Next.
func TestP15_1Configs(t *testing.T) {
	for name, change := range map[string]func(c *api.Config){
		"nothing at all":   func(c *api.Config) { *c = api.Config{} },
		"no members":       func(c *api.Config) { c.Members = nil },
		"an epoch beyond":  func(c *api.Config) { c.Epoch = 1<<30 + 1 },
		"an epoch far off": func(c *api.Config) { c.Epoch = math.MaxInt },
		"Ids that fall":    func(c *api.Config) { slices.Reverse(c.Members) },
		"two of one Id":    func(c *api.Config) { c.Members[3].Id = c.Members[2].Id },
		"no Id":            func(c *api.Config) { c.Members[0].Id = 0 },
		"an Id below":      func(c *api.Config) { c.Members[0].Id = -2 },
		"an Id beyond":     func(c *api.Config) { c.Members[3].Id = 64 },
		"a height below":   func(c *api.Config) { c.Members[1].Key.Height = -1 },
		"a height beyond":  func(c *api.Config) { c.Members[1].Key.Height = 7 },
		"too many members": func(c *api.Config) { *c = group(6, 11) },
	} {
		w := way{first: group(5, 4), links: []api.Link{{Block: batch(5, 258, 1), Config: group(6, 4)}}}
		change(&w.links[0].Config)
		w.seal(hand{})
		leads(t, name, w.first, 0, w.links[0], api.ErrChain)
		ends(t, name, w, 0, api.ErrChain)
	}
	for name, change := range map[string]func(c *api.Config){
		"the last epoch":  func(c *api.Config) { c.Epoch = 1 << 30 },
		"the last Id":     func(c *api.Config) { c.Members[3].Id = 63 },
		"the first Id":    func(c *api.Config) { c.Members[0].Id = 1 },
		"the most height": func(c *api.Config) { c.Members[1].Key.Height = 6 },
		"no height":       func(c *api.Config) { c.Members[1].Key.Height = 0 },
		"one member":      func(c *api.Config) { c.Members = c.Members[3:] },
		"ten members":     func(c *api.Config) { *c = group(6, 10) },
		"all others":      func(c *api.Config) { *c = group(6, 8); c.Members = c.Members[4:] },
	} {
		w := way{first: group(5, 4), links: []api.Link{{Block: batch(5, 258, 1), Config: group(6, 4)}}}
		change(&w.links[0].Config)
		w.seal(hand{})
		ends(t, name, w, 1, api.OK)
	}
}

// TestP15_1Epochs: the configuration's own, one below it, one above it, far above it.
func TestP15_1Epochs(t *testing.T) {
	for _, epoch := range odd() {
		for _, next := range odd() {
			w := way{first: group(epoch, 1), links: []api.Link{{Block: batch(epoch, 258, 0), Config: group(next, 1)}}}
			w.seal(hand{})
			e := api.OK
			if next <= epoch || next < 0 || next > 1<<30 {
				e = api.ErrChain
			} else if epoch < 0 {
				e = api.ErrFew
			}
			leads(t, "an epoch", w.first, 0, w.links[0], e)
		}
	}
	for by, e := range map[int]api.Errno{-5: api.ErrChain, -1: api.ErrChain, 0: api.ErrChain, 1: api.OK, 2: api.OK, 1000: api.OK, 1<<30 - 7: api.OK, 1<<30 - 6: api.ErrChain} {
		w := way{first: group(5, 4)}
		for i := range 2 {
			w.links = append(w.links, api.Link{Block: batch(5+2*i, 10+10*i, 1), Config: group(7+(by*i), 4)})
		}
		w.seal(hand{})
		ends(t, "the second one's epoch", w, map[bool]int{true: 2, false: 1}[e == api.OK], e)
	}
}

// TestP15_1Words: a link whose word isn't right in the configuration doesn't lead.
func TestP15_1Words(t *testing.T) {
	for name, change := range map[string]func(l *api.Link){
		"no votes":         func(l *api.Link) { l.Cert.Votes = nil },
		"empty votes":      func(l *api.Link) { l.Cert.Votes = []api.Vote{} },
		"too few":          func(l *api.Link) { l.Cert.Votes = l.Cert.Votes[:2] },
		"one twice":        func(l *api.Link) { l.Cert.Votes[1] = l.Cert.Votes[0] },
		"the last twice":   func(l *api.Link) { l.Cert.Votes = append(l.Cert.Votes, l.Cert.Votes[2]) },
		"no order":         func(l *api.Link) { slices.Reverse(l.Cert.Votes) },
		"a first vote":     func(l *api.Link) { l.Cert.Votes[2].Kind = 1 },
		"another round":    func(l *api.Link) { l.Cert.Round++ },
		"a round beyond":   func(l *api.Link) { l.Cert.Round = 1025 },
		"another height":   func(l *api.Link) { l.Cert.Votes[2].Height++ },
		"another epoch":    func(l *api.Link) { l.Cert.Votes[2].Epoch++ },
		"nobody":           func(l *api.Link) { l.Cert.Votes[2].From = 63 },
		"for none":         func(l *api.Link) { l.Cert.Votes[2].Digest = api.Digest{} },
		"another block":    func(l *api.Link) { l.Cert = quorate(group(5, 4), batch(5, 258, 2)) },
		"no signatures":    func(l *api.Link) { l.Cert.Votes[0].Sig = api.Sig{} },
		"nothing of it":    func(l *api.Link) { l.Cert = api.Cert{} },
		"of other members": func(l *api.Link) { l.Cert = quorate(l.Config, l.Block) },
	} {
		w := way{first: group(5, 4), links: []api.Link{{Block: batch(5, 258, 1), Config: group(6, 8)}}}
		w.links[0].Config.Members = w.links[0].Config.Members[2:]
		w.seal(hand{polled: only(0, change)})
		leads(t, name, w.first, 0, w.links[0], api.ErrFew)
		ends(t, name, w, 0, api.ErrFew)
		w.seal(hand{})
		ends(t, name+", mended", w, 1, api.OK)
	}
}

// TestP15_1OwnWord: the votes of those to whom a link leads, not of those from whom it does.
func TestP15_1OwnWord(t *testing.T) {
	w := way{first: group(5, 4), links: []api.Link{{Block: batch(5, 258, 1), Config: group(6, 4)}}}
	w.seal(hand{})
	l := w.links[0]
	own := fit(group(6, 4), l.Cert.Votes)
	leads(t, "the members that voted", w.first, 0, l, api.OK)
	own.Epoch = 5
	leads(t, "these, too", own, 0, l, api.OK)
	other := group(5, 4)
	leads(t, "others, of the same Ids", other, 0, l, api.ErrFew)
	other = fit(group(5, 3), l.Cert.Votes)
	leads(t, "fewer of them", other, 0, l, api.OK)
	other = fit(group(5, 5), l.Cert.Votes)
	leads(t, "of whom they are no quorum", other, 0, l, api.ErrFew)
}

// TestP15_1Blocks: one that can't be, or is of another epoch than the configuration's, though all vote for it.
func TestP15_1Blocks(t *testing.T) {
	for name, change := range map[string]func(b *api.Block){
		"an earlier epoch":  func(b *api.Block) { b.Epoch-- },
		"the next epoch":    func(b *api.Block) { b.Epoch++ },
		"an epoch below":    func(b *api.Block) { b.Epoch = -1 },
		"an epoch beyond":   func(b *api.Block) { b.Epoch = 1<<30 + 1 },
		"a height beyond":   func(b *api.Block) { b.Height = 1025 },
		"too many requests": func(b *api.Block) { b.Requests = batch(5, 258, 9).Requests },
		"a bad request":     func(b *api.Block) { b.Requests[0].Client = 65 },
		"a long text":       func(b *api.Block) { b.Requests[0].Op.Val = strings.Repeat("v", 1025) },
	} {
		for _, epochs := range []bool{true, false} {
			w := way{first: group(5, 4), links: []api.Link{{Block: batch(5, 258, 1), Config: group(6, 4)}}}
			change(&w.links[0].Block)
			w.seal(hand{polled: only(0, func(l *api.Link) {
				for i := range l.Cert.Votes {
					if epochs {
						l.Cert.Votes[i].Epoch = 5
					}
				}
			})})
			leads(t, name, w.first, 0, w.links[0], api.ErrFew)
			ends(t, name, w, 0, api.ErrFew)
		}
	}
}

// TestP15_1BadConfig: from a configuration that can't be nothing leads, though Step asks for a word alone.
func TestP15_1BadConfig(t *testing.T) {
	for name, change := range map[string]func(c *api.Config){
		"no members":      func(c *api.Config) { c.Members = nil },
		"an epoch below":  func(c *api.Config) { c.Epoch = -1 },
		"two of one Id":   func(c *api.Config) { c.Members[3] = c.Members[2] },
		"an Id beyond":    func(c *api.Config) { c.Members[3].Id = 64 },
		"a height beyond": func(c *api.Config) { c.Members[3].Key.Height = 7 },
		"nothing at all":  func(c *api.Config) { *c = api.Config{} },
	} {
		w := line(1)
		change(&w.first)
		leads(t, name, w.first, 0, w.links[0], api.ErrFew)
		l := clone(w.links[0])
		l.Block.Next[0] ^= 1
		leads(t, name+", and another Next", w.first, 0, l, api.ErrFew)
		l.Config.Epoch = -3
		leads(t, name+", and another epoch", w.first, 0, l, api.ErrChain)
	}
	leads(t, "nothing at all", api.Config{}, 0, api.Link{}, api.ErrChain)
	leads(t, "nothing but a height", api.Config{}, 0, api.Link{Block: api.Block{Height: 1}}, api.ErrChain)
	leads(t, "nothing but what is behind", api.Config{}, 0, api.Link{Block: api.Block{Height: 1}, Config: group(1, 1)}, api.ErrFew)
}

// TestP15_1Next: another digest than the configuration's, though all vote for it.
func TestP15_1Next(t *testing.T) {
	for name, change := range map[string]func(l *api.Link){
		"zeros":              func(l *api.Link) { l.Block.Next = api.Digest{} },
		"the first bit":      func(l *api.Link) { l.Block.Next[0] ^= 128 },
		"the last bit":       func(l *api.Link) { l.Block.Next[31] ^= 1 },
		"without a mark":     func(l *api.Link) { l.Block.Next = hash(configBytes(l.Config)) },
		"as of the first":    func(l *api.Link) { l.Block.Next = hash("first", text(l.Block.Next)) },
		"a later epoch":      func(l *api.Link) { l.Config.Epoch++ },
		"an Id":              func(l *api.Link) { l.Config.Members[0].Id-- },
		"a root":             func(l *api.Link) { l.Config.Members[3].Key.Root[31] ^= 1 },
		"a key's height":     func(l *api.Link) { l.Config.Members[2].Key.Height++ },
		"a member less":      func(l *api.Link) { l.Config.Members = l.Config.Members[:3] },
		"a member more":      func(l *api.Link) { l.Config.Members = append(l.Config.Members, api.Member{Id: 63}) },
		"the one it is from": func(l *api.Link) { l.Block.Next = configDigest(group(5, 4)) },
	} {
		w := way{first: group(5, 4), links: []api.Link{{Block: batch(5, 258, 1), Config: group(6, 4)}}}
		w.seal(hand{said: only(0, change)})
		leads(t, name, w.first, 0, w.links[0], api.ErrRoot)
		ends(t, name, w, 0, api.ErrRoot)
	}
}

// TestP15_1SeveralFaults: of all that may be wrong at once the chapter's first.
func TestP15_1SeveralFaults(t *testing.T) {
	faults := []struct {
		change func(l *api.Link)
		e      api.Errno
	}{
		{func(l *api.Link) { l.Block.Height = 9 }, api.ErrChain},
		{func(l *api.Link) { l.Config.Members = nil }, api.ErrChain},
		{func(l *api.Link) { l.Config.Epoch = 5 }, api.ErrChain},
		{func(l *api.Link) { l.Cert.Votes = l.Cert.Votes[:2] }, api.ErrFew},
		{func(l *api.Link) { l.Block.Epoch = 4 }, api.ErrFew},
		{func(l *api.Link) { l.Cert.Round = 9 }, api.ErrFew},
		{func(l *api.Link) { l.Block.Next = api.Digest{} }, api.ErrRoot},
		{func(l *api.Link) { l.Config.Members[0].Key.Root[0] ^= 1 }, api.ErrRoot},
	}
	for set := range 1 << len(faults) {
		w := way{first: group(5, 4), links: []api.Link{{Block: batch(5, 258, 1), Config: group(6, 4)}}}
		w.seal(hand{})
		e := api.OK
		for i, fault := range slices.Backward(faults) {
			if set>>i&1 == 1 {
				fault.change(&w.links[0])
				e = fault.e
			}
		}
		if set != 0 && e == api.ErrRoot {
			// What was signed is turned as well.
			e = map[bool]api.Errno{true: api.ErrFew, false: api.ErrRoot}[set>>6&1 == 1]
		}
		leads(t, "several faults", w.first, 9, w.links[0], e)
	}
	// Said by all: only what isn't signed is off.
	for set := range 1 << 3 {
		w := way{first: group(5, 4), links: []api.Link{{Block: batch(5, 258, 1), Config: group(6, 4)}}}
		behind, e := 0, api.OK
		h := hand{}
		if set&4 > 0 {
			h.said, e = only(0, func(l *api.Link) { l.Block.Next[9] ^= 8 }), api.ErrRoot
		}
		if set&2 > 0 {
			h.polled, e = only(0, func(l *api.Link) { l.Cert.Votes = l.Cert.Votes[1:] }), api.ErrFew
		}
		if set&1 > 0 {
			behind, e = 258, api.ErrChain
		}
		w.seal(h)
		leads(t, "several faults that are signed", w.first, behind, w.links[0], e)
	}
}

// TestP15_1Places: of a chain each link in turn doesn't lead, and those behind it don't matter.
func TestP15_1Places(t *testing.T) {
	for name, fault := range map[string]struct {
		h func(at int) hand
		e api.Errno
	}{
		"no height":     {func(at int) hand { return hand{said: only(at, func(l *api.Link) { l.Block.Height = 0 })} }, api.ErrChain},
		"no epoch":      {func(at int) hand { return hand{said: only(at, func(l *api.Link) { l.Config.Epoch = 0 })} }, api.ErrChain},
		"no members":    {func(at int) hand { return hand{said: only(at, func(l *api.Link) { l.Config.Members = nil })} }, api.ErrChain},
		"too few votes": {func(at int) hand { return hand{polled: only(at, func(l *api.Link) { l.Cert.Votes = nil })} }, api.ErrFew},
		"another round": {func(at int) hand { return hand{polled: only(at, func(l *api.Link) { l.Cert.Round++ })} }, api.ErrFew},
		"another epoch": {func(at int) hand { return hand{said: only(at, func(l *api.Link) { l.Block.Epoch++ })} }, api.ErrFew},
		"another Next":  {func(at int) hand { return hand{said: only(at, func(l *api.Link) { l.Block.Next[0]++ })} }, api.ErrRoot},
		"another key":   {func(at int) hand { return hand{polled: only(at, func(l *api.Link) { l.Config.Members[0].Id = 1 })} }, api.ErrRoot},
		"another root": {func(at int) hand {
			return hand{polled: only(at, func(l *api.Link) { c := &l.Config; c.Members[0].Key.Root[0]++ })}
		}, api.ErrRoot},
	} {
		for n := 1; n <= 5; n++ {
			for at := range n {
				w := steps(n)
				w.seal(fault.h(at))
				ends(t, name, w, at, fault.e)
				// A fault further on isn't told.
				for later := at + 1; later < n; later++ {
					w.links[later] = api.Link{}
				}
				ends(t, name+", and others behind", w, at, fault.e)
				ends(t, name+", not come to", way{w.first, w.links[:at]}, at, api.OK)
			}
		}
	}
}

// TestP15_1FromTheOneAhead: each link leads from the Config of the one ahead, not from the first one; two that both lead from the first one are no chain.
func TestP15_1FromTheOneAhead(t *testing.T) {
	c, trees := members(t, 5, 4, 3)
	one := vouched(c, trees, 10, 0, group(6, 4))
	other := vouched(c, trees, 20, 1, group(7, 4))
	ends(t, "the one", way{c, []api.Link{one}}, 1, api.OK)
	ends(t, "the other", way{c, []api.Link{other}}, 1, api.OK)
	ends(t, "both", way{c, []api.Link{one, other}}, 1, api.ErrFew)
	ends(t, "both, the other way round", way{c, []api.Link{other, one}}, 1, api.ErrChain)
}

// members: a configuration of real key trees, all of one height.
func members(t *testing.T, epoch, count, height int) (api.Config, []*keys.Tree) {
	t.Helper()
	c := api.Config{Epoch: epoch}
	var trees []*keys.Tree
	for i := range count {
		x, e := keys.New(rising(byte(10*i)), height)
		if e != api.OK {
			t.Fatal(e)
		}
		trees = append(trees, x)
		c.Members = append(c.Members, api.Member{Id: 2 + 3*i, Key: x.Key()})
	}
	return c, trees
}

// vouched: a link to a configuration by real votes, all of one one-time key's number.
func vouched(c api.Config, trees []*keys.Tree, height, leaf int, next api.Config) api.Link {
	l := api.Link{Block: batch(c.Epoch, height, 1), Config: next}
	l.Block.Next = config.Digest(next)
	l.Cert = ballots(c, trees, l.Block, 7, leaf)
	return l
}

// ballots: the real votes of those members of whom there is a tree.
func ballots(c api.Config, trees []*keys.Tree, b api.Block, round, leaf int) api.Cert {
	x := api.Cert{Round: round}
	for _, m := range c.Members {
		at := slices.IndexFunc(trees, func(x *keys.Tree) bool { return x.Key() == m.Key })
		if at < 0 {
			continue
		}
		v := api.Vote{Kind: api.VoteSecond, Epoch: b.Epoch, Height: b.Height, Round: round, Digest: block.Digest(b), From: m.Id}
		v.Sig, _ = trees[at].Sign(leaf, vote.Signs(v))
		x.Votes = append(x.Votes, v)
	}
	return x
}

// TestP15_1Known: links of real signatures, against the SHA-256 of their bytes that another program than Go's made of the document's words: one member goes, one comes, and one has another key.
func TestP15_1Known(t *testing.T) {
	c, trees := members(t, 5, 6, 2)
	all := c.Members
	w := way{first: api.Config{Epoch: 5, Members: all[:4]}}
	c1 := api.Config{Epoch: 6, Members: all[1:4]}
	c2 := api.Config{Epoch: 7, Members: all[1:5]}
	c3 := api.Config{Epoch: 8, Members: append([]api.Member{{Id: 5, Key: all[5].Key}}, all[2:5]...)}
	for i, k := range []struct {
		next                    api.Config
		height, requests, round int
		who                     []int
		size                    int
		bytes                   string
	}{
		{c1, 3, 0, 0, []int{0, 1, 3}, 6896, "19d61696bc2e576043d06a1c879b4f86093bdea213918c9d3fa5c2ecbd8b4c13"},
		{c2, 258, 3, 7, []int{0, 1, 2}, 7307, "ef108f3fcdc3be3c39745390292fbc298cefcf95cc079d0f16c98a33fb6fcb71"},
		{c3, 1024, 8, 1024, []int{0, 1, 2, 3}, 10112, "91209a87d196272544d0cbf1bcf49a318f4e7169060a691433e833f61a89a32c"},
	} {
		ahead := *w.ahead(i)
		l := api.Link{Block: batch(ahead.Epoch, k.height, k.requests), Config: k.next}
		l.Block.Next = config.Digest(k.next)
		votes := ballots(ahead, trees, l.Block, k.round, i).Votes
		l.Cert.Round = k.round
		for _, at := range k.who {
			l.Cert.Votes = append(l.Cert.Votes, votes[at])
		}
		b := written(l)
		if sum := hash(b); len(b) != k.size || hex.EncodeToString(sum[:]) != k.bytes {
			t.Errorf("%d: %d bytes, of the digest %x", i, len(b), sum)
		}
		reads(t, "what another program wrote", b, l)
		w.links = append(w.links, chain.Read(reader(b)))
	}
	ends(t, "real links, as they were read", w, 3, api.OK)
}

// TestP15_1RealChain: each change of a configuration leads on by the votes of those who were members ahead of it.
func TestP15_1RealChain(t *testing.T) {
	c, trees := members(t, 0, 10, 3)
	all := c.Members
	c.Members = all[:4]
	w := way{first: c}
	for i, x := range []api.Change{
		{Kind: api.ChangeAdd, Id: all[4].Id, Key: all[4].Key},
		{Kind: api.ChangeRemove, Id: all[0].Id},
		{Kind: api.ChangeReplace, Id: all[1].Id, New: 1, Key: all[5].Key},
		{Kind: api.ChangeRotate, Id: all[2].Id, Key: all[6].Key},
		{Kind: api.ChangeAdd, Id: 63, Key: all[7].Key},
		{Kind: api.ChangeRemove, Id: all[3].Id},
	} {
		next, e := config.Apply(c, x)
		if e != api.OK {
			t.Fatal(i, e)
		}
		w.links = append(w.links, vouched(c, trees, 5+7*i, i, next))
		c = next
		ends(t, "so far", w, i+1, api.OK)
	}
	for at := range w.links {
		off := w.clone()
		off.links[at].Cert.Votes[1].Sig.Once.Open[31][31] ^= 1
		ends(t, "one signature is turned", off, at, api.ErrFew)
		off = w.clone()
		off.links[at].Block.State[0] ^= 1
		ends(t, "a block is turned", off, at, api.ErrFew)
		off = w.clone()
		off.links[at].Config.Members[0].Key.Root[0] ^= 1
		ends(t, "a configuration is turned", off, at, api.ErrRoot)
	}
}

// TestP15_1OldMembers: who is a member no more, or has another key, has no word from then on.
func TestP15_1OldMembers(t *testing.T) {
	c, trees := members(t, 0, 5, 2)
	all := c.Members
	c.Members = all[:4]
	rotated := api.Config{Epoch: 1, Members: slices.Clone(c.Members)}
	rotated.Members[0].Key = all[4].Key
	one := vouched(c, trees, 3, 0, rotated)
	next := api.Config{Epoch: 2, Members: c.Members}
	two := vouched(rotated, trees, 4, 1, next)
	ends(t, "by the new key", way{c, []api.Link{one, two}}, 2, api.OK)
	two.Cert.Votes = two.Cert.Votes[:3]
	ends(t, "by a quorum", way{c, []api.Link{one, two}}, 2, api.OK)
	old := two.Cert.Votes[0]
	old.Sig, _ = trees[0].Sign(1, vote.Signs(old))
	two.Cert.Votes[0] = old
	ends(t, "by the old key", way{c, []api.Link{one, two}}, 1, api.ErrFew)
}

// TestP15_1CheckOfAny: of any configuration and links what the model answers.
func TestP15_1CheckOfAny(t *testing.T) {
	rnd := rand.New(rand.NewSource(1))
	times := map[api.Errno]int{}
	for range 600 {
		w := someWay(rnd)
		wanted, n, e := modelCheck(w.first, w.links)
		c, at, got := chain.Check(w.first, w.links...)
		if !sameConfig(c, wanted) || at != n || got != e {
			t.Fatalf("%d links: %s, %d, %d, not %d, %d", len(w.links), shortConfig(c), at, got, n, e)
		}
		times[e]++
	}
	for _, e := range []api.Errno{api.OK, api.ErrArg, api.ErrChain, api.ErrFew, api.ErrRoot} {
		if times[e] < 15 {
			t.Errorf("all kinds are wanted among them: %v", times)
		}
	}
}

// TestP15_1StepOfAny: of any configuration, height and link what the model answers.
func TestP15_1StepOfAny(t *testing.T) {
	rnd := rand.New(rand.NewSource(2))
	times := map[api.Errno]int{}
	for range 500 {
		w := someWay(rnd)
		for i, l := range w.links {
			c, height := *w.ahead(i), l.Block.Height-1
			switch rnd.Intn(6) {
			case 0:
				height = someOdd(rnd)
			case 1:
				height += rnd.Intn(3)
			case 2:
				c.Epoch += rnd.Intn(3) - 1
			case 3:
				l.Config = someConfig(rnd, l.Config.Epoch)
			}
			e := modelStep(c, height, l)
			if got := chain.Step(c, height, l); got != e {
				t.Fatalf("behind %d, %s: %s: %d, not %d", height, shortConfig(c), short(l), got, e)
			}
			times[e]++
		}
	}
	for _, e := range []api.Errno{api.OK, api.ErrChain, api.ErrFew, api.ErrRoot} {
		if times[e] < 50 {
			t.Errorf("all kinds are wanted among them: %v", times)
		}
	}
}

// TestP15_1WriteRefused: links with a signature that layer 13 doesn't write; nothing is written then.
func TestP15_1WriteRefused(t *testing.T) {
	for name, s := range map[string]api.Sig{
		"none":         {},
		"fewer opened": {Once: api.Once{Open: row(1, 31), Shut: row(2, 32)}},
		"more opened":  {Once: api.Once{Open: row(1, 33), Shut: row(2, 32)}},
		"fewer shut":   {Once: api.Once{Open: row(1, 32), Shut: row(2, 31)}},
		"more shut":    {Once: api.Once{Open: row(1, 32), Shut: row(2, 33)}},
		"a long path":  sig(1, 7),
	} {
		for at := range 4 {
			l := link()
			l.Cert.Votes[at].Sig = s
			w := &code.Writer{}
			w.Num(99)
			if chain.Write(w, l) || string(w.Bytes()) != num(99) || chain.Write(nil, l) {
				t.Errorf("%s: the vote %d: %d bytes", name, at, len(w.Bytes()))
			}
			if !chain.Write(w, link()) || string(w.Bytes()) != num(99)+modelBytes(link()) {
				t.Errorf("%s: the link behind it has other bytes", name)
			}
		}
	}
}

// TestP15_1WriteOfAny: whatever a link says it is written, if its signatures can be; bytes go behind what was written.
func TestP15_1WriteOfAny(t *testing.T) {
	rnd := rand.New(rand.NewSource(3))
	times := map[bool]int{}
	for range 800 {
		l := someUnreadable(rnd)
		if n := len(l.Cert.Votes); n > 0 && rnd.Intn(3) == 0 {
			l.Cert.Votes[rnd.Intn(n)].Sig = someOffSig(rnd)
		}
		w := &code.Writer{}
		w.Text("ahead")
		wanted, is := texts("ahead"), modelWrites(l)
		if is {
			wanted += modelBytes(l)
		}
		if chain.Write(w, l) != is || string(w.Bytes()) != wanted || chain.Write(nil, l) != is {
			t.Fatalf("%s is written: %t, %d bytes", short(l), !is, len(w.Bytes()))
		}
		times[is]++
	}
	if times[true] < 200 || times[false] < 80 {
		t.Errorf("both kinds are wanted among them: %v", times)
	}
}

// TestP15_1WriteOdd: links that can't be, and lead nowhere, are written all the same; one of zeros, too.
func TestP15_1WriteOdd(t *testing.T) {
	if !chain.Write(&code.Writer{}, api.Link{}) || written(api.Link{}) != strings.Repeat("\x00", 120+16+16) {
		t.Errorf("the zero link: %x", written(api.Link{}))
	}
	for _, n := range odd() {
		l := link()
		l.Block.Epoch, l.Block.Height, l.Cert.Round, l.Config.Epoch = n, n+1, n+2, n+3
		l.Config.Members = append(l.Config.Members, make([]api.Member, 9)...)
		l.Config.Members[5] = api.Member{Id: n, Key: api.Key{Height: n}}
		l.Block.Requests = batch(1, 1, 20).Requests
		if !chain.Write(&code.Writer{}, l) || written(l) != modelBytes(l) {
			t.Errorf("of %d other bytes are written", n)
		}
	}
}

// TestP15_1NilWriter: what could be written is true all the same.
func TestP15_1NilWriter(t *testing.T) {
	off := link()
	off.Cert.Votes[3].Sig.Path = row(1, 7)
	if !chain.Write(nil, link()) || !chain.Write(nil, api.Link{}) || chain.Write(nil, off) {
		t.Error("a nil writer")
	}
}

func TestP15_1NilReader(t *testing.T) {
	none(t, "a nil reader", nil)
}

// TestP15_1ReadLimits: blocks and configurations that can be, words of 1 to MaxMembers votes; nothing else.
func TestP15_1ReadLimits(t *testing.T) {
	for _, n := range odd() {
		for name, limit := range map[string]struct {
			turn        func(l *api.Link)
			least, most int
		}{
			"a block's epoch":         {func(l *api.Link) { l.Block.Epoch = n }, 0, 1 << 30},
			"a height":                {func(l *api.Link) { l.Block.Height = n }, 1, 1024},
			"a client":                {func(l *api.Link) { l.Block.Requests[2].Client = n }, 1, 64},
			"a request's kind":        {func(l *api.Link) { l.Block.Requests[0].Op.Kind = n }, 1, 7},
			"a change's kind":         {func(l *api.Link) { l.Block.Requests[0].Op.Change.Kind = n }, math.MinInt, math.MaxInt},
			"a round":                 {func(l *api.Link) { l.Cert.Round = n }, 0, 1024},
			"a vote's kind":           {func(l *api.Link) { l.Cert.Votes[0].Kind = n }, 1, 2},
			"a vote's epoch":          {func(l *api.Link) { l.Cert.Votes[1].Epoch = n }, 0, 1 << 30},
			"a vote's height":         {func(l *api.Link) { l.Cert.Votes[2].Height = n }, 1, 1024},
			"a vote's round":          {func(l *api.Link) { l.Cert.Votes[3].Round = n }, 0, 1024},
			"a vote's member":         {func(l *api.Link) { l.Cert.Votes[3].From = n }, 1, 63},
			"a leaf":                  {func(l *api.Link) { l.Cert.Votes[3].Sig.Leaf = n }, math.MinInt, math.MaxInt},
			"a configuration's epoch": {func(l *api.Link) { l.Config.Epoch = n }, 0, 1 << 30},
			"the first Id":            {func(l *api.Link) { l.Config.Members[0].Id = n }, 1, idOf(1) - 1},
			"the last Id":             {func(l *api.Link) { l.Config.Members[4].Id = n }, idOf(3) + 1, 63},
			"a key's height":          {func(l *api.Link) { l.Config.Members[4].Key.Height = n }, 0, 6},
		} {
			l := link()
			limit.turn(&l)
			readsIf(t, name, l, limit.least <= n && n <= limit.most)
		}
	}
}

// idOf: the Id of one of full's members.
func idOf(at int) int { return 2 + 3*at }

// TestP15_1ReadCounts: of requests, votes and members.
func TestP15_1ReadCounts(t *testing.T) {
	for n := range 16 {
		l := link()
		l.Block.Requests = batch(5, 258, n).Requests
		readsIf(t, "so many requests", l, n <= 8)
		l = link()
		l.Cert = word(group(5, n), l.Block, 7, n)
		readsIf(t, "so many votes", l, 1 <= n && n <= 10)
		l = link()
		l.Config = group(6, n)
		readsIf(t, "so many members", l, 1 <= n && n <= 10)
	}
}

// TestP15_1ReadAsks: for no more than its parts can be: what leads nowhere is read, too.
func TestP15_1ReadAsks(t *testing.T) {
	for name, change := range map[string]func(l *api.Link){
		"another Next":      func(l *api.Link) { l.Block.Next = ones() },
		"an earlier epoch":  func(l *api.Link) { l.Config.Epoch = 0 },
		"another block":     func(l *api.Link) { l.Block.Epoch = 1000 },
		"a vote alone":      func(l *api.Link) { l.Cert.Votes = l.Cert.Votes[3:] },
		"no order":          func(l *api.Link) { slices.Reverse(l.Cert.Votes) },
		"votes for nothing": func(l *api.Link) { l.Cert.Votes[0].Digest = api.Digest{} },
		"any signature":     func(l *api.Link) { l.Cert.Votes[0].Sig = sig(-9, 6) },
		"one member":        func(l *api.Link) { l.Config.Members = l.Config.Members[:1] },
	} {
		l := link()
		change(&l)
		reads(t, name, modelBytes(l), l)
	}
}

// TestP15_1ReadBehindFault: though a link's bytes stood there.
func TestP15_1ReadBehindFault(t *testing.T) {
	all := modelBytes(link())
	r := reader(all + all)
	r.In(math.MaxInt, math.MaxInt)
	none(t, "behind a fault", r)
	none(t, "once more", r)
	for name, change := range map[string]func(l *api.Link){
		"a block":         func(l *api.Link) { l.Block.Height = 0 },
		"a word":          func(l *api.Link) { l.Cert.Round = -1 },
		"a vote":          func(l *api.Link) { l.Cert.Votes[3].From = 64 },
		"a configuration": func(l *api.Link) { l.Config.Members[4].Key.Height = 7 },
	} {
		l := link()
		change(&l)
		r = reader(modelBytes(l) + all)
		none(t, name, r)
		none(t, name+", and the link behind it", r)
	}
}

// TestP15_1ReadCut: bytes of which the last ones are missing are none's.
func TestP15_1ReadCut(t *testing.T) {
	all := modelBytes(link())
	for size := range len(all) {
		none(t, "cut bytes", reader(all[:size]))
	}
	all = modelBytes(line(1).links[0])
	for size := range len(all) {
		none(t, "cut bytes of another one", reader(all[:size]))
	}
}

// TestP15_1ReadLeft: what is behind the bytes is left, be it another link, or one byte.
func TestP15_1ReadLeft(t *testing.T) {
	l := link()
	for _, behind := range []string{"\x00", "\xff", "behind", strings.Repeat("\x00", 200), modelBytes(l), configBytes(l.Config)} {
		r := reader(modelBytes(l) + behind)
		if got := chain.Read(r); !same(got, l) || !r.Good() || r.End() {
			t.Errorf("%s is read as %s", short(l), short(got))
		}
		left(t, r, len(behind))
	}
}

// left: that a reader has so many bytes.
func left(t *testing.T, r *code.Reader, size int) {
	t.Helper()
	for range size / 8 {
		r.Num()
	}
	if r.End() != (size%8 == 0) || !r.Good() {
		t.Errorf("not %d bytes are left", size)
	}
}

// TestP15_1ReadOfNone: bytes of other things.
func TestP15_1ReadOfNone(t *testing.T) {
	l := link()
	for _, b := range []string{"", "\x01", "chain", num(0, 0), num(5, 258), strings.Repeat("\x00", 9000), strings.Repeat("\x01", 9000), strings.Repeat("\xff", 9000), strings.Repeat("abc", 3000)} {
		none(t, "other bytes", reader(b))
	}
	none(t, "behind a mark", reader("chain"+modelBytes(l)))
	none(t, "a block alone", reader(blockBytes(l.Block)))
	none(t, "without a block", reader(wordBytes(l.Cert)+configBytes(l.Config)))
	none(t, "without a word", reader(blockBytes(l.Block)+configBytes(l.Config)))
	none(t, "without a configuration", reader(blockBytes(l.Block)+wordBytes(l.Cert)))
	none(t, "in another order", reader(configBytes(l.Config)+wordBytes(l.Cert)+blockBytes(l.Block)))
	none(t, "the configuration first", reader(configBytes(l.Config)+blockBytes(l.Block)+wordBytes(l.Cert)))
}

// turned: bytes of which some are turned, mostly among the first or the last ones.
func turned(rnd *rand.Rand, all string, first int) string {
	b := []byte(all)
	for range rnd.Intn(3) {
		at := rnd.Intn(len(b))
		switch rnd.Intn(3) {
		case 0:
			at = rnd.Intn(min(first, len(b)))
		case 1:
			at = len(b) - 1 - rnd.Intn(min(first, len(b)))
		}
		b[at] ^= 1 << rnd.Intn(8)
	}
	return string(b)
}

// TestP15_1ReadAny: bytes of any link, some of them turned, with others behind: just the model's, and what is behind is left.
func TestP15_1ReadAny(t *testing.T) {
	rnd := rand.New(rand.NewSource(4))
	times := map[bool]int{}
	for range 1500 {
		all := turned(rnd, modelBytes(someUnreadable(rnd)), 104) + "behind"[:rnd.Intn(7)]
		r := reader(all)
		l := chain.Read(r)
		wanted, size, is := modelRead(all)
		if !same(l, wanted) || r.Good() != is || r.End() != (is && size == len(all)) {
			t.Fatalf("%x: %s, good %t, end %t", all, short(l), r.Good(), r.End())
		}
		times[is]++
	}
	if times[true] < 300 || times[false] < 300 {
		t.Errorf("both kinds are wanted among them: %v", times)
	}
}

// TestP15_1ReadTakesItsOwn: what stands ahead and behind is another one's.
func TestP15_1ReadTakesItsOwn(t *testing.T) {
	l, k := link(), line(1).links[0]
	w := &code.Writer{}
	w.Num(-1)
	chain.Write(w, l)
	w.Text("between")
	chain.Write(w, k)
	block.Write(w, l.Block)
	config.Write(w, l.Config)
	w.Digest(ones())
	r := code.Read(w.Bytes())
	if r.Num() != -1 || !same(chain.Read(r), l) || r.Text(7) != "between" || !same(chain.Read(r), k) {
		t.Error("more or less than its own bytes is taken")
	}
	if block.Digest(block.Read(r)) != block.Digest(l.Block) || !sameConfig(config.Read(r), l.Config) || r.End() || r.Digest() != ones() || !r.End() {
		t.Error("what is behind links is another thing")
	}
}

// TestP15_2Parts: a chain leads up to each link, and from its configuration on, behind its height.
func TestP15_2Parts(t *testing.T) {
	for n := range 9 {
		w := line(n)
		ends(t, "the whole", w, n, api.OK)
		for at := range n + 1 {
			ends(t, "up to a link", way{w.first, w.links[:at]}, at, api.OK)
			ends(t, "from its configuration on", way{*w.ahead(at), w.links[at:]}, n-at, api.OK)
			c, _, _ := chain.Check(w.first, w.links[:at]...)
			end, m, e := chain.Check(c, w.links[at:]...)
			if !sameConfig(end, *w.ahead(n)) || m != n-at || e != api.OK {
				t.Errorf("from what was answered on: %s, %d, %d", shortConfig(end), m, e)
			}
			for from := range at {
				ends(t, "between two links", way{*w.ahead(from), w.links[from:at]}, at-from, api.OK)
			}
		}
	}
}

// follow: what links are answered one by one, from a configuration on, behind a height.
func follow(c api.Config, height int, links []api.Link) (api.Config, int, int, api.Errno) {
	for i, l := range links {
		if e := chain.Step(c, height, l); e != api.OK {
			return api.Config{}, 0, i, e
		}
		c, height = l.Config, l.Block.Height
	}
	return c, height, len(links), api.OK
}

// TestP15_2JustIf: links are a chain just if they are one up to any link, and each behind it leads from its configuration on; else the same link, and the same error, are told.
func TestP15_2JustIf(t *testing.T) {
	rnd := rand.New(rand.NewSource(5))
	times := map[bool]int{}
	for range 300 {
		w := someWay(rnd)
		whole, n, e := chain.Check(w.first, w.links...)
		if e == api.ErrArg {
			continue
		}
		times[e == api.OK]++
		for at := range len(w.links) + 1 {
			c, m, first := chain.Check(w.first, w.links[:at]...)
			if first != api.OK {
				if at <= n || m != n || first != e {
					t.Fatalf("up to %d: %d, %d; the whole: %d, %d", at, m, first, n, e)
				}
				continue
			}
			height := 0
			if at > 0 {
				height = w.links[at-1].Block.Height
			}
			end, _, m, second := follow(c, height, w.links[at:])
			if at+m != n || second != e || !sameConfig(end, whole) {
				t.Fatalf("from %d on: %d, %d; the whole: %d, %d", at, m, second, n, e)
			}
		}
	}
	if times[true] < 80 || times[false] < 80 {
		t.Errorf("both kinds are wanted among them: %v", times)
	}
}

// TestP15_2Rise: along what is a chain epochs and heights rise.
func TestP15_2Rise(t *testing.T) {
	rnd := rand.New(rand.NewSource(6))
	count := 0
	for range 300 {
		w := someWay(rnd)
		if rnd.Intn(2) == 0 && len(w.links) > 0 {
			w.links[rnd.Intn(len(w.links))].Block.Height = 1 + rnd.Intn(9)
			w.seal(hand{})
		}
		if rnd.Intn(2) == 0 && len(w.links) > 0 {
			w.links[rnd.Intn(len(w.links))].Config.Epoch = rnd.Intn(1000)
			w.seal(hand{})
		}
		if _, _, e := chain.Check(w.first, w.links...); e != api.OK {
			continue
		}
		count++
		epoch, height := w.first.Epoch, 0
		for i, l := range w.links {
			if l.Config.Epoch <= epoch || l.Block.Height <= height || l.Block.Epoch != epoch {
				t.Fatalf("the link %d: %s behind %d, %d", i, short(l), epoch, height)
			}
			epoch, height = l.Config.Epoch, l.Block.Height
		}
	}
	if count < 60 {
		t.Errorf("only %d lead", count)
	}
}

// TestP15_2PartsAlone: two chains, the second from the first one's end on, are one only if heights rise between them.
func TestP15_2PartsAlone(t *testing.T) {
	for height := 1; height <= 30; height++ {
		w := way{first: group(5, 4), links: []api.Link{
			{Block: batch(5, 20, 1), Config: group(6, 4)},
			{Block: batch(6, height, 1), Config: group(7, 4)},
		}}
		w.seal(hand{})
		ends(t, "the first part", way{w.first, w.links[:1]}, 1, api.OK)
		ends(t, "the second part", way{w.links[0].Config, w.links[1:]}, 1, api.OK)
		if height > 20 {
			ends(t, "both", w, 2, api.OK)
		} else {
			ends(t, "both", w, 1, api.ErrChain)
		}
	}
}

// TestP15_2Twice: a link that is put twice isn't come to the second time, wherever it stands.
func TestP15_2Twice(t *testing.T) {
	w := line(6)
	for at := range 6 {
		for to := at + 1; to <= 6; to++ {
			ends(t, "twice", way{w.first, slices.Insert(slices.Clone(w.links), to, w.links[at])}, to, api.ErrChain)
		}
		for to := range at {
			ends(t, "ahead of its place", way{w.first, slices.Insert(slices.Clone(w.links), to, w.links[at])}, to, api.ErrFew)
		}
	}
	ends(t, "all of it twice", way{w.first, append(slices.Clone(w.links), w.links...)}, 6, api.ErrChain)
}

// TestP15_2LeftOut: of a chain that lacks a link all ahead of it lead, and the one behind it doesn't; without its last ones it is a chain.
func TestP15_2LeftOut(t *testing.T) {
	w := line(6)
	for at := range 6 {
		links := slices.Delete(slices.Clone(w.links), at, at+1)
		if at == 5 {
			ends(t, "the last one", way{w.first, links}, 5, api.OK)
		} else {
			ends(t, "one", way{w.first, links}, at, api.ErrFew)
		}
	}
}

// TestP15_2Exchanged: of two links that stand in each other's place the first one doesn't lead.
func TestP15_2Exchanged(t *testing.T) {
	w := line(6)
	other := steps(6)
	other.seal(hand{poll: func(c api.Config, b api.Block) api.Cert { return word(c, b, 8, len(c.Members)) }})
	for at := range 6 {
		for to := range at {
			links := slices.Clone(w.links)
			links[at], links[to] = links[to], links[at]
			ends(t, "each other's", way{w.first, links}, to, api.ErrFew)
		}
		links := slices.Clone(w.links)
		links[at] = other.links[at]
		ends(t, "another chain's", way{w.first, links}, at, api.ErrFew)
	}
	backward := slices.Clone(w.links)
	slices.Reverse(backward)
	ends(t, "backward", way{w.first, backward}, 0, api.ErrFew)
}

// TestP15_2ExchangedParts: a link's parts are exchanged with another's.
func TestP15_2ExchangedParts(t *testing.T) {
	w := line(6)
	for at := range 6 {
		for from := range 6 {
			if from == at {
				continue
			}
			off := w.clone()
			off.links[at].Cert = w.links[from].Cert
			ends(t, "the word", off, at, api.ErrFew)
			off = w.clone()
			off.links[at].Config = w.links[from].Config
			if from < at {
				ends(t, "an earlier configuration", off, at, api.ErrChain)
			} else {
				ends(t, "a later configuration", off, at, api.ErrRoot)
			}
			off = w.clone()
			off.links[at].Block = w.links[from].Block
			if from < at {
				ends(t, "an earlier block", off, at, api.ErrChain)
			} else {
				ends(t, "a later block", off, at, api.ErrFew)
			}
		}
	}
}

// back: that links are a chain, are read as they were written, and are a chain then.
func back(t *testing.T, w way) {
	t.Helper()
	again := way{first: w.first}
	for _, l := range w.links {
		r := reader(written(l))
		k := chain.Read(r)
		if !same(k, l) || !r.End() {
			t.Fatalf("%s is read as %s", short(l), short(k))
		}
		again.links = append(again.links, k)
	}
	ends(t, "as it was", w, len(w.links), api.OK)
	ends(t, "as it was read", again, len(w.links), api.OK)
}

// TestP15_3ThereAndBack: links that lead, to their limits, one behind the other, and any.
func TestP15_3ThereAndBack(t *testing.T) {
	c, l := full()
	back(t, way{c, []api.Link{l}})
	back(t, line(8))
	for n := 1; n <= 10; n++ {
		for requests := range 9 {
			for _, height := range []int{1, 1024} {
				w := way{first: group(1<<30-1, n), links: []api.Link{{Block: batch(1<<30-1, height, requests), Config: group(1<<30, 11-n)}}}
				w.seal(hand{poll: func(c api.Config, b api.Block) api.Cert { return word(c, b, 1024, n) }})
				back(t, w)
			}
		}
	}
	rnd := rand.New(rand.NewSource(7))
	for range 100 {
		w := someSteps(rnd, rnd.Intn(5))
		w.seal(hand{poll: somePoll(rnd)})
		back(t, w)
	}
}

// TestP15_3InARow: links that are written into one writer are read from one reader.
func TestP15_3InARow(t *testing.T) {
	w := line(8)
	out := &code.Writer{}
	for _, l := range w.links {
		chain.Write(out, l)
	}
	r := code.Read(out.Bytes())
	again := way{first: w.first}
	for range w.links {
		again.links = append(again.links, chain.Read(r))
	}
	if !r.End() || !slices.EqualFunc(again.links, w.links, same) {
		t.Error("they are read as others")
	}
	ends(t, "as they were read", again, 8, api.OK)
}

// TestP15_3ReadableBack: so is any link of parts that can be, be it one that leads or not.
func TestP15_3ReadableBack(t *testing.T) {
	rnd := rand.New(rand.NewSource(8))
	for range 300 {
		l := someReadable(rnd)
		reads(t, "any", written(l), l)
	}
}

// TestP15_3NotBack: what isn't read as a link isn't, though it was written.
func TestP15_3NotBack(t *testing.T) {
	rnd := rand.New(rand.NewSource(9))
	count := 0
	for range 1000 {
		if l := someUnreadable(rnd); !modelReads(l) {
			none(t, "one that isn't read", reader(written(l)))
			none(t, "with others behind", reader(written(l)+written(link())))
			count++
		}
	}
	if count < 200 {
		t.Errorf("only %d couldn't be", count)
	}
}

// TestP15_3OneForm: bytes that are read to their end are those that what was read is written as.
func TestP15_3OneForm(t *testing.T) {
	rnd := rand.New(rand.NewSource(10))
	count := 0
	for range 800 {
		all := turned(rnd, written(someReadable(rnd)), 104)
		r := reader(all)
		if l := chain.Read(r); r.End() {
			count++
			if written(l) != all {
				t.Fatalf("%x is written as %x", all, written(l))
			}
		}
	}
	if count < 200 {
		t.Errorf("only %d were read", count)
	}
}

// lists: all that a link's signatures have.
func lists(l api.Link) [][]api.Digest {
	var all [][]api.Digest
	for _, v := range l.Cert.Votes {
		all = append(all, v.Sig.Once.Open, v.Sig.Once.Shut, v.Sig.Path)
	}
	return all
}

// spoil turns all that a link has, and what stands in its room to spare.
func spoil(l api.Link) {
	for _, list := range lists(l) {
		list = list[:cap(list)]
		for i := range list {
			list[i] = api.Digest{170, 31: 85}
		}
	}
	votes := l.Cert.Votes[:cap(l.Cert.Votes)]
	for i := range votes {
		votes[i] = api.Vote{Kind: 170, From: 85}
	}
	requests := l.Block.Requests[:cap(l.Block.Requests)]
	for i := range requests {
		requests[i] = api.Request{Client: 170, Num: 85}
	}
	spoilConfig(l.Config)
}

func spoilConfig(c api.Config) {
	members := c.Members[:cap(c.Members)]
	for i := range members {
		members[i] = api.Member{Id: 170}
	}
}

// roomy: a link whose lists have room to spare, in which something stands.
func roomy(l api.Link) api.Link {
	for i := range l.Cert.Votes {
		s := &l.Cert.Votes[i].Sig
		for _, list := range []*[]api.Digest{&s.Once.Open, &s.Once.Shut, &s.Path} {
			*list = append(slices.Clone(*list), rising(77), ones(), rising(78))[:len(*list)]
		}
	}
	n := len(l.Cert.Votes)
	l.Cert.Votes = append(slices.Clone(l.Cert.Votes), link().Cert.Votes...)[:n]
	n = len(l.Block.Requests)
	l.Block.Requests = append(slices.Clone(l.Block.Requests), batch(9, 9, 3).Requests...)[:n]
	l.Config = roomyConfig(l.Config)
	return l
}

func roomyConfig(c api.Config) api.Config {
	n := len(c.Members)
	c.Members = append(slices.Clone(c.Members), api.Member{Id: 63}, api.Member{Id: -9})[:n]
	return c
}

// whole: a link with what stands in its room to spare, as a text.
func whole(l api.Link) string {
	l.Cert.Votes = l.Cert.Votes[:cap(l.Cert.Votes)]
	l.Block.Requests = l.Block.Requests[:cap(l.Block.Requests)]
	all := modelBytes(l) + wholeConfig(l.Config)
	for _, list := range lists(l) {
		all += text(list[:cap(list)]...)
	}
	return all
}

func wholeConfig(c api.Config) string {
	c.Members = c.Members[:cap(c.Members)]
	return configBytes(c)
}

// TestP15_4NothingIsChanged: by any call, in the room to spare either.
func TestP15_4NothingIsChanged(t *testing.T) {
	rnd := rand.New(rand.NewSource(11))
	for range 50 {
		w := someWay(rnd)
		w = w.clone()
		w.first = roomyConfig(w.first)
		for i := range w.links {
			w.links[i] = roomy(w.links[i])
		}
		n := len(w.links)
		w.links = append(w.links, roomy(link()), roomy(link()))
		ahead := wholeConfig(w.first)
		for _, l := range w.links {
			ahead += whole(l)
		}
		every(way{w.first, w.links[:n]})
		behind := wholeConfig(w.first)
		for _, l := range w.links {
			behind += whole(l)
		}
		if ahead != behind {
			t.Fatalf("%d links: something is changed", n)
		}
	}
}

// every does all that is done with a configuration and links, and turns all that was answered.
func every(w way) {
	c, _, _ := chain.Check(w.first, w.links...)
	spoilConfig(c)
	for _, l := range w.links {
		chain.Step(w.first, 0, l)
		out := &code.Writer{}
		chain.Write(out, l)
		spoil(chain.Read(code.Read(out.Bytes())))
		chain.Write(nil, l)
	}
}

// TestP15_4CheckIsNew: what is written into the links, or the first configuration, behind Check isn't seen, nor in them what is written into the answer.
func TestP15_4CheckIsNew(t *testing.T) {
	for n := range 4 {
		w := line(n)
		w.first = roomyConfig(w.first)
		for i := range w.links {
			w.links[i] = roomy(w.links[i])
		}
		own := w.clone()
		wanted := *own.ahead(n)
		a, _, _ := chain.Check(w.first, w.links...)
		b, _, _ := chain.Check(w.first, w.links...)
		spoilConfig(a)
		if !sameConfig(b, wanted) || !sameConfig(*w.ahead(n), wanted) {
			t.Errorf("of %d links: what is answered is another one's", n)
		}
		ends(t, "once more", w, n, api.OK)
		spoilConfig(w.first)
		for _, l := range w.links {
			spoil(l)
		}
		if !sameConfig(b, wanted) {
			t.Errorf("of %d links: what was handed in is kept", n)
		}
	}
}

// TestP15_4ReadIsNew: each reading answers its own, and the bytes stay.
func TestP15_4ReadIsNew(t *testing.T) {
	b := []byte(modelBytes(link()))
	own := slices.Clone(b)
	r, s := code.Read(b), code.Read(b)
	spoil(chain.Read(r))
	l := chain.Read(s)
	if !same(l, link()) || !slices.Equal(b, own) {
		t.Error("a reading is another one's")
	}
	clear(b)
	if !same(l, link()) {
		t.Error("the bytes are kept")
	}
	if !same(chain.Read(code.Read(own)), link()) {
		t.Error("once more")
	}
}

// TestP15_4WriteKeepsNothing: what is written into a link behind Write isn't seen.
func TestP15_4WriteKeepsNothing(t *testing.T) {
	l := link()
	w := &code.Writer{}
	chain.Write(w, l)
	spoil(l)
	if string(w.Bytes()) != modelBytes(link()) {
		t.Error("a link is kept")
	}
}

// TestP15_4StepKeepsNothing: a link that led once doesn't, when it is turned, and does again, when it is turned back.
func TestP15_4StepKeepsNothing(t *testing.T) {
	c, l := full()
	for range 3 {
		leads(t, "as it was", c, 0, l, api.OK)
		l.Config.Members[2].Key.Root[7] ^= 1
		leads(t, "turned", c, 0, l, api.ErrRoot)
		l.Cert.Votes[1].Sig.Once.Shut[5][5] ^= 1
		leads(t, "turned further", c, 0, l, api.ErrFew)
		l.Cert.Votes[1].Sig.Once.Shut[5][5] ^= 1
		l.Config.Members[2].Key.Root[7] ^= 1
	}
	ends(t, "as it was", way{c, []api.Link{l}}, 1, api.OK)
}
