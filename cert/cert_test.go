package cert_test

import (
	"encoding/hex"
	"math"
	"math/rand"
	"slices"
	"strings"
	"testing"

	"wapentake/api"
	"wapentake/cert"
	"wapentake/code"
	"wapentake/keys"
	"wapentake/vote"
)

// checks: that a word is right, or not, once each member has the key that their vote wants.
func checks(t *testing.T, what string, c api.Config, b api.Block, x api.Cert, is bool) {
	t.Helper()
	c = fit(c, x.Votes)
	if cert.Check(c, b, x) != is || modelCheck(c, b, x) != is {
		t.Errorf("%s: %d members, epoch %d, a block of %d %d %d: %s: right %t", what, len(c.Members), c.Epoch, b.Epoch, b.Height, len(b.Requests), short(x), !is)
	}
}

// written: a word's bytes; none, if it can't be written.
func written(x api.Cert) string {
	var w code.Writer
	cert.Write(&w, x)
	return string(w.Bytes())
}

// reader: one of the bytes that a text has.
func reader(b string) *code.Reader { return code.Read([]byte(b)) }

// reads: that bytes are just those of a word.
func reads(t *testing.T, what, all string, wanted api.Cert) {
	t.Helper()
	r := reader(all)
	if x := cert.Read(r); !sameWord(x, wanted) || !r.End() {
		t.Errorf("%s: %s is read as %s, end %t", what, short(wanted), short(x), r.End())
	}
}

// none: that a reader has no word, and a fault.
func none(t *testing.T, what string, r *code.Reader) {
	t.Helper()
	if x := cert.Read(r); x.Round != 0 || len(x.Votes) != 0 || r.Good() || r.End() {
		t.Errorf("%s: %s, good %t", what, short(x), r.Good())
	}
}

// readsIf: that a word's bytes are read, or not.
func readsIf(t *testing.T, what string, x api.Cert, is bool) {
	t.Helper()
	if is {
		reads(t, what, modelBytes(x), x)
	} else {
		none(t, what, reader(modelBytes(x)))
	}
}

// TestP14_1Example is the chapter's: of one member one vote is a quorum's word, and none is not.
func TestP14_1Example(t *testing.T) {
	c, b := group(0, 1), batch(0, 1, 0)
	for round := range 3 {
		checks(t, "one vote", c, b, word(c, b, round, 1), true)
	}
	checks(t, "no vote", c, b, api.Cert{}, false)
	x, is := cert.Make(c, says(b, 4, 2))
	if !is || !sameWord(x, word(c, b, 4, 1)) {
		t.Errorf("%s, %t", short(x), is)
	}
	checks(t, "another one's vote", c, b, api.Cert{Votes: []api.Vote{says(b, 0, 3)}}, false)
}

// TestP14_1Quorums: of all members' numbers, and so many votes, the first ones, the last ones or any; no fewer than a quorum.
func TestP14_1Quorums(t *testing.T) {
	rnd := rand.New(rand.NewSource(1))
	quorums := []int{0, 1, 2, 2, 3, 4, 4, 5, 6, 6, 7}
	for n := 1; n <= 10; n++ {
		c, b := group(5, n), batch(5, 258, 1)
		all := word(c, b, 7, n)
		for count := range n + 1 {
			is := count >= quorums[n]
			checks(t, "the first ones", c, b, api.Cert{Round: 7, Votes: all.Votes[:count]}, is)
			checks(t, "the last ones", c, b, api.Cert{Round: 7, Votes: all.Votes[n-count:]}, is)
			for range 5 {
				x := api.Cert{Round: 7}
				some := rnd.Perm(n)[:count]
				slices.Sort(some)
				for _, at := range some {
					x.Votes = append(x.Votes, all.Votes[at])
				}
				checks(t, "any", c, b, x, is)
			}
		}
	}
}

// TestP14_1NoVotes: be they nil or empty, of whatever round and configuration.
func TestP14_1NoVotes(t *testing.T) {
	for n := range 12 {
		for _, round := range []int{-1, 0, 7, 1024} {
			checks(t, "nil", group(5, n), batch(5, 258, 1), api.Cert{Round: round}, false)
			checks(t, "empty", group(5, n), batch(5, 258, 1), api.Cert{Round: round, Votes: []api.Vote{}}, false)
		}
	}
	checks(t, "nothing at all", api.Config{}, api.Block{}, api.Cert{}, false)
}

// TestP14_1Configs: one that can't be has no word, though all votes are right in it.
func TestP14_1Configs(t *testing.T) {
	for name, change := range map[string]func(c *api.Config){
		"Ids that fall":    func(c *api.Config) { m := c.Members; m[8], m[9] = m[9], m[8] },
		"two of one Id":    func(c *api.Config) { c.Members[9].Id = c.Members[8].Id },
		"no Id":            func(c *api.Config) { c.Members = slices.Insert(c.Members[:9], 0, api.Member{}) },
		"an Id below":      func(c *api.Config) { c.Members = slices.Insert(c.Members[:9], 0, api.Member{Id: -1}) },
		"an Id beyond":     func(c *api.Config) { c.Members[9].Id = 64 },
		"a height below":   func(c *api.Config) { c.Members[9].Key.Height = -1 },
		"a height beyond":  func(c *api.Config) { c.Members[9].Key.Height = 7 },
		"one member more":  func(c *api.Config) { c.Members = append(c.Members, api.Member{Id: 63}) },
		"a greater height": func(c *api.Config) { c.Members[8].Key.Height = math.MaxInt },
	} {
		c, b := group(5, 10), batch(5, 258, 1)
		x := word(c, b, 7, 8)
		checks(t, "ahead", c, b, x, true)
		change(&c)
		checks(t, name, c, b, x, false)
	}
	for name, change := range map[string]func(c *api.Config){
		"the last Id":       func(c *api.Config) { c.Members[9].Id = 63 },
		"the least height":  func(c *api.Config) { c.Members[9].Key.Height = 0 },
		"the most height":   func(c *api.Config) { c.Members[9].Key.Height = 6 },
		"one member less":   func(c *api.Config) { c.Members = c.Members[:9] },
		"the same key once": func(c *api.Config) { c.Members[8].Key = c.Members[9].Key },
	} {
		c, b := group(5, 10), batch(5, 258, 1)
		x := word(c, b, 7, 8)
		change(&c)
		checks(t, name, c, b, x, true)
	}
	for count := range 40 {
		c, b := group(5, min(count, 21)), batch(5, 258, 1)
		for i := len(c.Members); i < count; i++ {
			c.Members = append(c.Members, api.Member{Id: 63 + i})
		}
		checks(t, "so many members", c, b, word(c, b, 7, min(count, 21)), 1 <= count && count <= 10)
	}
}

// TestP14_1Epochs: from 0 to 2^30, of the configuration, the block and all votes alike.
func TestP14_1Epochs(t *testing.T) {
	for _, n := range odd() {
		c, b := group(n, 4), batch(n, 258, 1)
		checks(t, "an epoch", c, b, word(c, b, 7, 3), 0 <= n && n <= 1<<30)
		own := group(5, 4)
		checks(t, "the configuration's is another one", own, b, word(own, b, 7, 3), n == 5)
		b = batch(5, 258, 1)
		checks(t, "the others' are another one", c, b, word(c, b, 7, 3), n == 5)
		x := word(own, batch(n, 258, 1), 7, 3)
		for i := range x.Votes {
			x.Votes[i].Epoch = 5
		}
		checks(t, "the block's is another one", own, batch(n, 258, 1), x, n == 5)
		x = word(own, b, 7, 3)
		for i := range x.Votes {
			x.Votes[i].Epoch = n
		}
		checks(t, "the votes' is another one", own, b, x, n == 5)
	}
}

// TestP14_1Blocks: one that can't be has no word.
func TestP14_1Blocks(t *testing.T) {
	c := group(5, 4)
	for _, n := range odd() {
		b := batch(5, n, 1)
		checks(t, "a height", c, b, word(c, b, 7, 3), 1 <= n && n <= 1024)
	}
	for n := range 20 {
		b := batch(5, 258, n)
		checks(t, "so many requests", c, b, word(c, b, 7, 3), n <= 8)
	}
	for name, off := range map[string]func(q *api.Request){
		"a client":   func(q *api.Request) { q.Client = 65 },
		"a number":   func(q *api.Request) { q.Num = 0 },
		"a kind":     func(q *api.Request) { q.Op.Kind = 8 },
		"a key":      func(q *api.Request) { q.Op.Key = strings.Repeat("k", 1025) },
		"a value":    func(q *api.Request) { q.Op.Val = strings.Repeat("k", 1025) },
		"an old one": func(q *api.Request) { q.Op.Old = strings.Repeat("k", 1025) },
	} {
		for at := range 8 {
			b := batch(5, 258, 8)
			off(&b.Requests[at])
			checks(t, name, c, b, word(c, b, 7, 3), false)
		}
	}
	b := api.Block{Height: 1}
	checks(t, "nothing but a height", group(0, 4), b, word(c, b, 0, 4), true)
	checks(t, "nothing at all", group(0, 4), api.Block{}, word(c, api.Block{}, 0, 4), false)
}

// TestP14_1Rounds: from 0 to MaxRound.
func TestP14_1Rounds(t *testing.T) {
	c, b := group(5, 4), batch(5, 258, 1)
	for _, n := range odd() {
		checks(t, "a round", c, b, word(c, b, n, 3), 0 <= n && n <= 1024)
		x := word(c, b, 7, 3)
		x.Round = n
		checks(t, "another round is told", c, b, x, n == 7)
	}
	if api.MaxRound != 1024 || api.MaxMembers != 10 || api.VoteSecond != 2 {
		t.Error("other limits")
	}
}

// TestP14_1Order: votes rise by From, and nobody has two.
func TestP14_1Order(t *testing.T) {
	c, b := group(5, 7), batch(5, 258, 1)
	all := word(c, b, 7, 7).Votes
	for name, list := range map[string][]int{
		"the last ones":     {0, 1, 2, 3, 4, 6, 5},
		"the first ones":    {1, 0, 2, 3, 4, 5, 6},
		"all fall":          {6, 5, 4, 3, 2, 1, 0},
		"one far ahead":     {6, 0, 1, 2, 3, 4, 5},
		"one far behind":    {1, 2, 3, 4, 5, 6, 0},
		"two first ones":    {0, 0, 1, 2, 3, 4},
		"two last ones":     {0, 1, 2, 3, 4, 4},
		"for a quorum":      {0, 1, 2, 3, 3},
		"a quorum and one":  {0, 1, 1, 2, 3, 4, 5, 6},
		"one alone":         {0, 0, 0, 0, 0, 0, 0},
		"once more at last": {0, 1, 2, 3, 4, 0},
		"all of them twice": {0, 0, 1, 1, 2, 2, 3, 3, 4, 4},
	} {
		x := api.Cert{Round: 7}
		for _, at := range list {
			x.Votes = append(x.Votes, all[at])
		}
		checks(t, name, c, b, x, false)
		slices.SortFunc(x.Votes, func(v, u api.Vote) int { return v.From - u.From })
		slices.Sort(list)
		checks(t, name+", in order", c, b, x, once(list))
	}
}

// TestP14_1OtherVotes: of a quorum, or more, one vote says another thing, and its signature is right for that.
func TestP14_1OtherVotes(t *testing.T) {
	for name, change := range map[string]func(v *api.Vote){
		"a first vote":     func(v *api.Vote) { v.Kind = 1 },
		"no kind":          func(v *api.Vote) { v.Kind = 0 },
		"a third kind":     func(v *api.Vote) { v.Kind = 3 },
		"a kind far off":   func(v *api.Vote) { v.Kind = 1<<32 + 2 },
		"an earlier epoch": func(v *api.Vote) { v.Epoch-- },
		"a later epoch":    func(v *api.Vote) { v.Epoch++ },
		"a lower height":   func(v *api.Vote) { v.Height-- },
		"a greater height": func(v *api.Vote) { v.Height++ },
		"an earlier round": func(v *api.Vote) { v.Round-- },
		"a later round":    func(v *api.Vote) { v.Round++ },
		"the first bit":    func(v *api.Vote) { v.Digest[0] ^= 128 },
		"the last bit":     func(v *api.Vote) { v.Digest[31] ^= 1 },
		"for none":         func(v *api.Vote) { v.Digest = api.Digest{} },
		"another block":    func(v *api.Vote) { v.Digest = blockDigest(batch(5, 258, 2)) },
		"nobody":           func(v *api.Vote) { v.From++ },
	} {
		for count := 3; count <= 4; count++ {
			for at := range count {
				c, b := group(5, 4), batch(5, 258, 1)
				x := word(c, b, 7, count)
				change(&x.Votes[at])
				checks(t, name, c, b, x, false)
				x.Votes = slices.Delete(x.Votes, at, at+1)
				checks(t, name+", without it", c, b, x, count == 4)
			}
		}
	}
}

// TestP14_1AllOther: all votes say the same, but it is another thing than the block, the epoch or the round told.
func TestP14_1AllOther(t *testing.T) {
	for name, change := range map[string]func(v *api.Vote){
		"first votes":      func(v *api.Vote) { v.Kind = 1 },
		"another epoch":    func(v *api.Vote) { v.Epoch = 6 },
		"another height":   func(v *api.Vote) { v.Height = 259 },
		"another round":    func(v *api.Vote) { v.Round = 8 },
		"for none":         func(v *api.Vote) { v.Digest = api.Digest{} },
		"height for round": func(v *api.Vote) { v.Height, v.Round = v.Round, v.Height },
		"a block alike":    func(v *api.Vote) { b := batch(5, 258, 1); b.Next[31] ^= 1; v.Digest = blockDigest(b) },
		"without a mark":   func(v *api.Vote) { v.Digest = hash(blockBytes(batch(5, 258, 1))) },
	} {
		c, b := group(5, 4), batch(5, 258, 1)
		x := word(c, b, 7, 4)
		for i := range x.Votes {
			change(&x.Votes[i])
		}
		checks(t, name, c, b, x, false)
	}
}

// TestP14_1OtherBlocks: a word is for one block alone, of which each thing counts.
func TestP14_1OtherBlocks(t *testing.T) {
	for name, change := range map[string]func(b *api.Block){
		"epoch":           func(b *api.Block) { b.Epoch++ },
		"height":          func(b *api.Block) { b.Height++ },
		"what is ahead":   func(b *api.Block) { b.Prev[31] ^= 1 },
		"the registry":    func(b *api.Block) { b.State[0] ^= 128 },
		"what is behind":  func(b *api.Block) { b.Next[9] ^= 16 },
		"a request less":  func(b *api.Block) { b.Requests = b.Requests[:2] },
		"a request more":  func(b *api.Block) { b.Requests = batch(5, 258, 4).Requests },
		"their order":     func(b *api.Block) { slices.Reverse(b.Requests) },
		"a request's key": func(b *api.Block) { b.Requests[2].Op.Key = "other" },
		"no requests":     func(b *api.Block) { b.Requests = nil },
	} {
		c, b := group(5, 4), batch(5, 258, 3)
		x := word(c, b, 7, 4)
		change(&b)
		checks(t, name, c, b, x, false)
		c.Epoch = b.Epoch
		checks(t, name+", of that epoch", c, b, x, false)
	}
}

// members: a configuration of real key trees, each higher than the one ahead, till there are three.
func members(t *testing.T, epoch, count int) (api.Config, []*keys.Tree) {
	t.Helper()
	c := api.Config{Epoch: epoch}
	var trees []*keys.Tree
	for i := range count {
		x, e := keys.New(rising(byte(10*i)), i%3)
		if e != api.OK {
			t.Fatal(e)
		}
		trees = append(trees, x)
		c.Members = append(c.Members, api.Member{Id: 2 + 3*i, Key: x.Key()})
	}
	return c, trees
}

// ballot: a member's vote for a block, signed by their tree's last one-time key.
func ballot(x *keys.Tree, b api.Block, round, from int) api.Vote {
	v := says(b, round, from)
	v.Sig, _ = x.Sign(1<<x.Key().Height-1, vote.Signs(v))
	return v
}

// ballots: those of some of them.
func ballots(c api.Config, trees []*keys.Tree, b api.Block, round int, who ...int) []api.Vote {
	var votes []api.Vote
	for _, at := range who {
		votes = append(votes, ballot(trees[at], b, round, c.Members[at].Id))
	}
	return votes
}

// TestP14_1Known: words of real signatures, against the SHA-256 of their bytes that another program than Go's made of the document's words.
func TestP14_1Known(t *testing.T) {
	for i, k := range []struct {
		epoch, height, requests, count, round int
		who                                   []int
		size                                  int
		bytes                                 string
	}{
		{0, 1, 0, 1, 0, []int{0}, 2152, "66c05780b0833c4e73b47a6b7b12e3d864015593dffa80a417f1603124e01426"},
		{5, 258, 3, 4, 7, []int{0, 1, 2}, 6520, "efda023902baefaed767d9434e0d2421c2e0617329dc951c42ea163312eed93c"},
		{5, 258, 3, 4, 7, []int{0, 1, 2, 3}, 8656, "e25ef47ca44d9b370c9d037e59340e0f7de1d9c58013d8ba447493eb3d1560ec"},
		{5, 258, 3, 4, 7, []int{1, 2, 3}, 6520, "b8ea61e3e04315839e042bb759514900730602f37984f2097d692e5aaf53c804"},
		{1 << 30, 1024, 8, 10, 1024, []int{3, 4, 5, 6, 7, 8, 9}, 15160, "267e2b7a0fd8564b69110d04fb54edc63efa6a1587e85e4ac4d03f39a5bf0f47"},
		{1 << 30, 1024, 8, 10, 1024, []int{0, 1, 2, 3, 4, 5, 6, 7, 8, 9}, 21664, "1f435b9d8455dc040f7f175d632865df994a29a592a3e433a8414c86833429ff"},
		{1, 2, 1, 7, 1, []int{0, 2, 3, 5, 6}, 10824, "9a988829559a00810fab5f41d217a06ad17a03a02152863453305fcf170389aa"},
	} {
		c, trees := members(t, k.epoch, k.count)
		b := batch(k.epoch, k.height, k.requests)
		x := api.Cert{Round: k.round, Votes: ballots(c, trees, b, k.round, k.who...)}
		all := written(x)
		if sum := hash(all); len(all) != k.size || hex.EncodeToString(sum[:]) != k.bytes {
			t.Errorf("%d: %d bytes, of the digest %x", i, len(all), sum)
		}
		if !strings.HasPrefix(all, num(k.round, len(k.who))) {
			t.Errorf("%d begins with %x", i, all[:16])
		}
		if !cert.Check(c, b, x) {
			t.Errorf("%d isn't right", i)
		}
		if y := cert.Read(reader(all)); !cert.Check(c, b, y) {
			t.Errorf("%d isn't right when it is read", i)
		}
	}
}

// TestP14_1Signatures: of a right word one signature, or one key, is turned.
func TestP14_1Signatures(t *testing.T) {
	c, trees := members(t, 5, 6)
	b := batch(5, 258, 3)
	x := api.Cert{Round: 7, Votes: ballots(c, trees, b, 7, 1, 2, 3, 5)}
	for at := range x.Votes {
		for name, change := range map[string]func(s *api.Sig){
			"none":         func(s *api.Sig) { *s = api.Sig{} },
			"a form alone": func(s *api.Sig) { *s = sig(1, 2) },
			"a leaf below": func(s *api.Sig) { s.Leaf-- },
			"a leaf more":  func(s *api.Sig) { s.Leaf++ },
			"one opened":   func(s *api.Sig) { s.Once.Open[31][31] ^= 1 },
			"one shut":     func(s *api.Sig) { s.Once.Shut[0][0] ^= 128 },
			"fewer opened": func(s *api.Sig) { s.Once.Open = s.Once.Open[:31] },
			"more shut":    func(s *api.Sig) { s.Once.Shut = append(s.Once.Shut, ones()) },
			"more steps":   func(s *api.Sig) { s.Path = append(s.Path, ones()) },
			"another's":    func(s *api.Sig) { *s = x.Votes[(at+1)%4].Sig },
		} {
			y := cloneWord(x)
			change(&y.Votes[at].Sig)
			if cert.Check(c, b, y) {
				t.Errorf("%s: %d", name, at)
			}
		}
		k := api.Config{Epoch: 5, Members: slices.Clone(c.Members)}
		k.Members[[]int{1, 2, 3, 5}[at]].Key.Root[9] ^= 4
		if cert.Check(k, b, x) {
			t.Errorf("another key: %d", at)
		}
	}
	k := api.Config{Epoch: 5, Members: slices.Clone(c.Members)}
	k.Members[0].Key, k.Members[4].Key = api.Key{}, api.Key{Height: 6}
	if !cert.Check(c, b, x) || !cert.Check(k, b, x) {
		t.Error("the keys of those who didn't vote")
	}
}

// TestP14_1MoreThanAQuorum: one vote that isn't right spoils a word, though there are enough without it.
func TestP14_1MoreThanAQuorum(t *testing.T) {
	c, b := group(5, 10), batch(5, 258, 1)
	for at := range 10 {
		x := word(c, b, 7, 10)
		own := fit(c, x.Votes)
		x.Votes[at].Sig.Once.Open[3][3] ^= 8
		if cert.Check(own, b, x) {
			t.Errorf("the signature of %d", at)
		}
		x = word(c, b, 7, 10)
		x.Votes[at].Round++
		checks(t, "a round", c, b, x, false)
	}
}

// TestP14_1CheckOfAny: of any configuration, block and word what the model answers.
func TestP14_1CheckOfAny(t *testing.T) {
	rnd := rand.New(rand.NewSource(2))
	times := map[bool]int{}
	for range 2500 {
		m := someMatter(rnd)
		if rnd.Intn(4) > 0 {
			m.spoil(rnd)
		}
		m.c = fit(m.c, m.x.Votes)
		if rnd.Intn(3) == 0 {
			m.twist(rnd)
		}
		is := modelCheck(m.c, m.b, m.x)
		if cert.Check(m.c, m.b, m.x) != is {
			t.Fatalf("%d members, epoch %d, a block of %d %d %d: %s: right %t", len(m.c.Members), m.c.Epoch, m.b.Epoch, m.b.Height, len(m.b.Requests), short(m.x), !is)
		}
		times[is]++
	}
	if times[true] < 600 || times[false] < 600 {
		t.Errorf("both kinds are wanted among them: %v", times)
	}
}

// makes: that the first votes are a word, or there are too few.
func makes(t *testing.T, c api.Config, votes []api.Vote, quorum int) {
	t.Helper()
	x, is := cert.Make(c, votes...)
	wanted := api.Cert{}
	if len(votes) >= quorum {
		wanted = api.Cert{Round: votes[0].Round, Votes: votes[:quorum]}
	}
	if is != (len(votes) >= quorum) || !sameWord(x, wanted) {
		t.Errorf("%d members, %d votes: %s, %t", len(c.Members), len(votes), short(x), is)
	}
}

// TestP14_1Make: of fewer votes than a quorum, just as many, and more, whose first ones alone are answered.
func TestP14_1Make(t *testing.T) {
	b := batch(5, 258, 1)
	for n := 1; n <= 10; n++ {
		c := group(5, n)
		all := word(c, b, 7, n).Votes
		for count := range n + 1 {
			makes(t, c, all[:count], modelQuorum(n))
		}
		x, is := cert.Make(c, all...)
		if !is {
			t.Errorf("of %d members", n)
		}
		checks(t, "what was made", c, b, x, true)
	}
}

// TestP14_1MakeOfAny: whatever the votes say, and whether the configuration can be: the first ones, in their order, of the first one's Round.
func TestP14_1MakeOfAny(t *testing.T) {
	rnd := rand.New(rand.NewSource(3))
	for n := range 40 {
		c := api.Config{Epoch: someOdd(rnd), Members: make([]api.Member, n)}
		for range 5 {
			votes := someVotes(rnd, modelQuorum(n)+2-rnd.Intn(4))
			for i := range votes {
				spoilVote(rnd, &votes[i])
			}
			makes(t, c, votes, modelQuorum(n))
		}
		makes(t, c, nil, modelQuorum(n))
	}
	makes(t, api.Config{}, []api.Vote{full().Votes[3]}, 1)
	makes(t, api.Config{}, make([]api.Vote, 20), 1)
	makes(t, group(5, 4), make([]api.Vote, 20), 3)
}

// TestP14_1MakeOfRounds: votes of several Rounds are a word of the first one's, though it isn't right.
func TestP14_1MakeOfRounds(t *testing.T) {
	c, b := group(5, 4), batch(5, 258, 1)
	for _, rounds := range [][]int{{0, 7, 7}, {7, 0, 0}, {1024, 0, 3, 9}, {7, 7, 8}, {-5, 7, 7}, {math.MaxInt, 1, 2}, {3, 3, 3, 9}} {
		x := word(c, b, 0, len(rounds))
		for i, round := range rounds {
			x.Votes[i].Round = round
		}
		makes(t, c, x.Votes, 3)
		y, _ := cert.Make(c, x.Votes...)
		checks(t, "of several rounds", c, b, y, rounds[1] == 3)
	}
}

// TestP14_1ReadRounds: from 0 to MaxRound.
func TestP14_1ReadRounds(t *testing.T) {
	for _, n := range append(odd(), 512, 1026) {
		x := full()
		x.Round = n
		readsIf(t, "a round", x, 0 <= n && n <= 1024)
	}
}

// TestP14_1ReadCounts: from 1 to MaxMembers.
func TestP14_1ReadCounts(t *testing.T) {
	for n := range 30 {
		x := word(group(5, 30), batch(5, 258, 1), 7, n)
		for i := range x.Votes {
			x.Votes[i].From = 1 + i%10
		}
		if !cert.Write(&code.Writer{}, x) || written(x) != modelBytes(x) {
			t.Errorf("%d votes have other bytes", n)
		}
		readsIf(t, "so many votes", x, 1 <= n && n <= 10)
	}
	tail := strings.Join(slices.Repeat([]string{voteBytes(full().Votes[0])}, 12), "")
	for _, n := range odd() {
		if n < 1 || n > 10 {
			none(t, "so many are told of", reader(num(7, n)+tail))
			continue
		}
		r := reader(num(7, n) + tail)
		if x := cert.Read(r); len(x.Votes) != n || !r.Good() || r.End() {
			t.Errorf("of %d votes %s, good %t", n, short(x), r.Good())
		}
		left(t, r, (12-n)*len(tail)/12)
	}
}

// TestP14_1ReadVotes: of votes that can be, whatever they say of one another; one that can't be spoils all.
func TestP14_1ReadVotes(t *testing.T) {
	for name, change := range map[string]func(v *api.Vote){
		"no kind":      func(v *api.Vote) { v.Kind = 0 },
		"a third kind": func(v *api.Vote) { v.Kind = 3 },
		"an epoch":     func(v *api.Vote) { v.Epoch = 1<<30 + 1 },
		"a height":     func(v *api.Vote) { v.Height = 0 },
		"a round":      func(v *api.Vote) { v.Round = 1025 },
		"a member":     func(v *api.Vote) { v.From = 64 },
		"a path":       func(v *api.Vote) { v.Sig.Path = row(1, 7) },
	} {
		for at := range 4 {
			x := full()
			change(&x.Votes[at])
			none(t, name, reader(modelBytes(x)))
			none(t, name, reader(modelBytes(x)+modelBytes(full())))
		}
	}
	for name, change := range map[string]func(x *api.Cert){
		"one of them twice": func(x *api.Cert) { x.Votes[1] = x.Votes[0] },
		"no order":          func(x *api.Cert) { slices.Reverse(x.Votes) },
		"a first vote":      func(x *api.Cert) { x.Votes[2].Kind = 1 },
		"another height":    func(x *api.Cert) { x.Votes[2].Height = 1 },
		"another round":     func(x *api.Cert) { x.Votes[0].Round = 1024 },
		"another epoch":     func(x *api.Cert) { x.Votes[3].Epoch = 0 },
		"for none":          func(x *api.Cert) { x.Votes[3].Digest = api.Digest{} },
		"any leaf":          func(x *api.Cert) { x.Votes[3].Sig.Leaf = -1 },
		"one alone":         func(x *api.Cert) { x.Votes = x.Votes[:1] },
	} {
		x := full()
		change(&x)
		reads(t, name, modelBytes(x), x)
	}
}

// TestP14_1WriteRefused: votes whose signatures layer 5 doesn't write, first, last or in the midst of others; nothing is written then.
func TestP14_1WriteRefused(t *testing.T) {
	for name, s := range map[string]api.Sig{
		"none":         {},
		"fewer opened": {Once: api.Once{Open: row(1, 31), Shut: row(2, 32)}},
		"more opened":  {Once: api.Once{Open: row(1, 33), Shut: row(2, 32)}},
		"fewer shut":   {Once: api.Once{Open: row(1, 32), Shut: row(2, 31)}},
		"more shut":    {Once: api.Once{Open: row(1, 32), Shut: row(2, 33)}},
		"31 and 33":    {Once: api.Once{Open: row(1, 31), Shut: row(2, 33)}},
		"a long path":  sig(1, 7),
	} {
		for count := 1; count <= 12; count++ {
			for at := range count {
				x := word(group(5, 12), batch(5, 258, 1), 7, count)
				x.Votes[at].Sig = s
				w := &code.Writer{}
				w.Num(99)
				if cert.Write(w, x) || string(w.Bytes()) != num(99) || cert.Write(nil, x) {
					t.Errorf("%s: the vote %d of %d: %d bytes", name, at, count, len(w.Bytes()))
				}
				cert.Write(w, full())
				if string(w.Bytes()) != num(99)+modelBytes(full()) {
					t.Errorf("%s: the word behind it has other bytes", name)
				}
			}
		}
	}
}

// TestP14_1WriteOfAny: whatever a word says it is written, if its signatures can be; bytes go behind what was written.
func TestP14_1WriteOfAny(t *testing.T) {
	rnd := rand.New(rand.NewSource(4))
	times := map[bool]int{}
	for range 1000 {
		x := someUnreadable(rnd)
		if n := len(x.Votes); n > 0 && rnd.Intn(3) == 0 {
			x.Votes[rnd.Intn(n)].Sig = someOffSig(rnd)
		}
		w := &code.Writer{}
		w.Text("ahead")
		wanted, is := texts("ahead"), modelWrites(x)
		if is {
			wanted += modelBytes(x)
		}
		if cert.Write(w, x) != is || string(w.Bytes()) != wanted || cert.Write(nil, x) != is {
			t.Fatalf("%s is written: %t, %d bytes", short(x), !is, len(w.Bytes()))
		}
		times[is]++
	}
	if times[true] < 300 || times[false] < 100 {
		t.Errorf("both kinds are wanted among them: %v", times)
	}
	for _, n := range odd() {
		if x := (api.Cert{Round: n}); !cert.Write(&code.Writer{}, x) || written(x) != num(n, 0) {
			t.Errorf("the round %d without votes: %x", n, written(x))
		}
	}
}

// TestP14_1NilWriter: what could be written is true all the same.
func TestP14_1NilWriter(t *testing.T) {
	if !cert.Write(nil, full()) || !cert.Write(nil, api.Cert{}) || cert.Write(nil, api.Cert{Votes: make([]api.Vote, 1)}) {
		t.Error("a nil writer")
	}
}

func TestP14_1NilReader(t *testing.T) {
	none(t, "a nil reader", nil)
}

// TestP14_1ReadBehindFault: though a word's bytes stood there.
func TestP14_1ReadBehindFault(t *testing.T) {
	all := modelBytes(full())
	r := reader(all + all)
	r.In(math.MaxInt, math.MaxInt)
	none(t, "behind a fault", r)
	none(t, "once more", r)
	bad := full()
	bad.Votes[3].From = 64
	r = reader(modelBytes(bad) + all)
	none(t, "a word that isn't read", r)
	none(t, "the word behind it", r)
	r = reader(num(1025) + all)
	none(t, "a round beyond", r)
	none(t, "the word behind it", r)
}

// TestP14_1ReadCut: bytes of which the last ones are missing are none's.
func TestP14_1ReadCut(t *testing.T) {
	all := modelBytes(full())
	for size := range len(all) {
		none(t, "cut bytes", reader(all[:size]))
	}
	c, b := group(0, 1), batch(0, 1, 0)
	all = modelBytes(word(c, b, 0, 1))
	for size := range len(all) {
		none(t, "cut bytes of one vote", reader(all[:size]))
	}
}

// TestP14_1ReadLeft: what is behind the bytes is left, be it another word, or one byte.
func TestP14_1ReadLeft(t *testing.T) {
	for count := 1; count <= 4; count++ {
		x := word(group(5, 4), batch(5, 258, 1), 7, count)
		for _, behind := range []string{"\x00", "\xff", "behind", strings.Repeat("\x00", 200), modelBytes(x), voteBytes(x.Votes[0])} {
			r := reader(modelBytes(x) + behind)
			if got := cert.Read(r); !sameWord(got, x) || !r.Good() || r.End() {
				t.Errorf("%s is read as %s", short(x), short(got))
			}
			left(t, r, len(behind))
		}
	}
}

// left: that a reader has so many bytes.
func left(t *testing.T, r *code.Reader, size int) {
	t.Helper()
	for range size / 8 {
		r.Num()
	}
	if r.End() != (size%8 == 0) || !r.Good() {
		t.Errorf("not %d bytes are left", size)
	}
}

// TestP14_1ReadOfNone: bytes of other things.
func TestP14_1ReadOfNone(t *testing.T) {
	for _, b := range []string{"", "\x01", "cert", num(0, 0), num(7, 1), strings.Repeat("\x00", 5000), strings.Repeat("\x01", 5000), strings.Repeat("\xff", 5000), strings.Repeat("abc", 2000)} {
		none(t, "other bytes", reader(b))
	}
	none(t, "behind a mark", reader("cert"+modelBytes(full())))
	none(t, "a vote's bytes", reader(voteBytes(full().Votes[0])))
	none(t, "without a round", reader(modelBytes(full())[8:]))
	none(t, "without a number", reader(num(7)+modelBytes(full())[16:]))
}

// turned: bytes of which some are turned, mostly among the first ones.
func turned(rnd *rand.Rand, all string, first int) string {
	b := []byte(all)
	for range rnd.Intn(3) {
		at := rnd.Intn(len(b))
		if rnd.Intn(2) == 0 {
			at = rnd.Intn(min(first, len(b)))
		}
		b[at] ^= 1 << rnd.Intn(8)
	}
	return string(b)
}

// TestP14_1ReadAny: bytes of any word, some of them turned, with others behind: just the model's, and what is behind is left.
func TestP14_1ReadAny(t *testing.T) {
	rnd := rand.New(rand.NewSource(5))
	times := map[bool]int{}
	for range 2000 {
		all := turned(rnd, modelBytes(someUnreadable(rnd)), 104) + "behind"[:rnd.Intn(7)]
		r := reader(all)
		x := cert.Read(r)
		wanted, size, is := modelRead(all)
		if !sameWord(x, wanted) || r.Good() != is || r.End() != (is && size == len(all)) {
			t.Fatalf("%x: %s, good %t, end %t", all, short(x), r.Good(), r.End())
		}
		times[is]++
	}
	if times[true] < 400 || times[false] < 400 {
		t.Errorf("both kinds are wanted among them: %v", times)
	}
}

// TestP14_1ReadTakesItsOwn: what stands ahead and behind is another one's.
func TestP14_1ReadTakesItsOwn(t *testing.T) {
	x, y := full(), word(group(5, 4), batch(5, 1, 0), 0, 1)
	w := &code.Writer{}
	w.Num(-1)
	cert.Write(w, x)
	w.Text("between")
	cert.Write(w, y)
	vote.Write(w, x.Votes[1])
	w.Digest(ones())
	r := code.Read(w.Bytes())
	if r.Num() != -1 || !sameWord(cert.Read(r), x) || r.Text(7) != "between" || !sameWord(cert.Read(r), y) {
		t.Error("more or less than its own bytes is taken")
	}
	if !same(vote.Read(r), x.Votes[1]) || r.End() || r.Digest() != ones() || !r.End() {
		t.Error("what is behind words is another thing")
	}
}

// polled: the word of those whose bit is set for one of two blocks; the trees' first keys sign for the one, their second ones for the other.
func polled(c api.Config, votes [2][]api.Vote, which, set int) api.Cert {
	x := api.Cert{Round: 7}
	for at := range c.Members {
		if set>>at&1 == 1 {
			x.Votes = append(x.Votes, votes[which][at])
		}
	}
	return x
}

// rivals: a configuration of trees of two keys, two blocks of one height, and each member's votes for both.
func rivals(t *testing.T, count int) (api.Config, [2]api.Block, [2][]api.Vote) {
	t.Helper()
	c := api.Config{Epoch: 5}
	blocks := [2]api.Block{batch(5, 258, 1), batch(5, 258, 2)}
	var votes [2][]api.Vote
	for i := range count {
		x, _ := keys.New(rising(byte(20*i)), 1)
		c.Members = append(c.Members, api.Member{Id: 1 + 2*i, Key: x.Key()})
		for which := range 2 {
			v := says(blocks[which], 7, 1+2*i)
			v.Sig, _ = x.Sign(which, vote.Signs(v))
			votes[which] = append(votes[which], v)
		}
	}
	return c, blocks, votes
}

// TestP14_2TwoWords: of any two sets of members that vote for unlike blocks, if both are words, more voted twice than may be wrong.
func TestP14_2TwoWords(t *testing.T) {
	for n := 1; n <= 10; n++ {
		c, blocks, votes := rivals(t, n)
		var words [2][]int
		for which := range 2 {
			for set := range 1 << n {
				x := polled(c, votes, which, set)
				if cert.Check(c, blocks[which], x) {
					words[which] = append(words[which], set)
				}
				if set%7 == 0 && cert.Check(c, blocks[1-which], x) {
					t.Fatalf("of %d members %b speak for the other block", n, set)
				}
			}
		}
		if len(words[0]) == 0 || !slices.Equal(words[0], words[1]) {
			t.Errorf("of %d members there are %d words for the one, and %d for the other", n, len(words[0]), len(words[1]))
		}
		least := n
		for _, a := range words[0] {
			for _, b := range words[1] {
				least = min(least, common(a, b))
			}
		}
		if wrong := (n - 1) / 3; least <= wrong {
			t.Errorf("of %d members only %d voted twice", n, least)
		}
	}
}

// common: how many bits are set in both numbers.
func common(a, b int) int {
	n := 0
	for both := a & b; both > 0; both >>= 1 {
		n += both & 1
	}
	return n
}

// TestP14_2NobodyTwice: if each member but those that may be wrong votes once, there are never two words, however votes are told again, or out of order.
func TestP14_2NobodyTwice(t *testing.T) {
	rnd := rand.New(rand.NewSource(6))
	for n := 1; n <= 10; n++ {
		c, blocks, votes := rivals(t, n)
		wrong := 1<<((n-1)/3) - 1
		found := 0
		for set := range 1 << n {
			both := [2]int{set | wrong, (1<<n-1)&^set | wrong}
			two := 0
			for which, voters := range both {
				if said(rnd, c, blocks[which], polled(c, votes, which, voters)) {
					two++
				}
			}
			if two > 1 {
				t.Fatalf("of %d members %b and %b speak for two blocks", n, both[0], both[1])
			}
			found += two
		}
		if found == 0 {
			t.Errorf("of %d members none speak for any block", n)
		}
	}
}

// said: whether some votes are a word, or come to be one when some of them are told twice.
func said(rnd *rand.Rand, c api.Config, b api.Block, x api.Cert) bool {
	is := cert.Check(c, b, x)
	if n := len(x.Votes); n > 0 && !is {
		at := rnd.Intn(n)
		more := slices.Insert(slices.Clone(x.Votes), at, x.Votes[at])
		is = is || cert.Check(c, b, api.Cert{Round: x.Round, Votes: more})
		is = is || cert.Check(c, b, api.Cert{Round: x.Round, Votes: append(more, more...)})
	}
	return is
}

// TestP14_2OtherRounds: of another round, or another height, nobody voted twice: there may be a word for each.
func TestP14_2OtherRounds(t *testing.T) {
	c, trees := members(t, 5, 4)
	a, b := batch(5, 258, 1), batch(5, 258, 2)
	first := api.Cert{Round: 7, Votes: ballots(c, trees, a, 7, 0, 1, 2)}
	second := api.Cert{Round: 8, Votes: ballots(c, trees, b, 8, 0, 1, 2)}
	if !cert.Check(c, a, first) || !cert.Check(c, b, second) {
		t.Error("of two rounds")
	}
	mixed := api.Cert{Round: 7, Votes: []api.Vote{first.Votes[0], first.Votes[1], ballot(trees[2], a, 8, 8)}}
	if cert.Check(c, a, mixed) {
		t.Error("votes of two rounds are one word")
	}
	mixed.Votes[2] = ballot(trees[2], b, 7, 8)
	if cert.Check(c, a, mixed) || cert.Check(c, b, mixed) {
		t.Error("votes for two blocks are one word")
	}
}

// TestP14_3ThereAndBack: what is right is read as it was written, and is right then.
func TestP14_3ThereAndBack(t *testing.T) {
	for n := 1; n <= 10; n++ {
		for count := modelQuorum(n); count <= n; count++ {
			for _, round := range []int{0, 1, 255, 256, 1024} {
				c, b := group(5, n), batch(5, 258, 1)
				back(t, c, b, word(c, b, round, count))
			}
		}
	}
	for _, epoch := range []int{0, 1 << 30} {
		for _, height := range []int{1, 1024} {
			c, b := group(epoch, 4), batch(epoch, height, 8)
			back(t, c, b, word(c, b, 9, 3))
		}
	}
	rnd := rand.New(rand.NewSource(7))
	for range 500 {
		m := someMatter(rnd)
		back(t, m.c, m.b, m.x)
	}
}

// back: that a word is right, is read as it was written, and is right then.
func back(t *testing.T, c api.Config, b api.Block, x api.Cert) {
	t.Helper()
	c = fit(c, x.Votes)
	r := reader(written(x))
	y := cert.Read(r)
	if !cert.Check(c, b, x) || !sameWord(x, y) || !r.End() || !cert.Check(c, b, y) {
		t.Fatalf("%s is read as %s", short(x), short(y))
	}
}

// TestP14_3RealBack: of real signatures, made a word by Make.
func TestP14_3RealBack(t *testing.T) {
	c, trees := members(t, 5, 10)
	b := batch(5, 258, 3)
	x, is := cert.Make(c, ballots(c, trees, b, 7, 0, 1, 2, 3, 4, 5, 6, 7, 8, 9)...)
	if !is || len(x.Votes) != 7 || !cert.Check(c, b, x) || !cert.Check(c, b, cert.Read(reader(written(x)))) {
		t.Errorf("%s, %t", short(x), is)
	}
}

// TestP14_3ReadableBack: so is any word of votes that can be, be it right or not.
func TestP14_3ReadableBack(t *testing.T) {
	rnd := rand.New(rand.NewSource(8))
	for range 500 {
		x := someReadable(rnd)
		reads(t, "any", written(x), x)
	}
}

// TestP14_3NotBack: what isn't read as a word isn't, though it was written.
func TestP14_3NotBack(t *testing.T) {
	rnd := rand.New(rand.NewSource(9))
	count := 0
	for range 2000 {
		if x := someUnreadable(rnd); !modelReads(x) {
			none(t, "one that isn't read", reader(written(x)))
			none(t, "with others behind", reader(written(x)+written(full())[8:]))
			count++
		}
	}
	if count < 300 {
		t.Errorf("only %d couldn't be", count)
	}
}

// TestP14_3OneForm: bytes that are read to their end are those that what was read is written as.
func TestP14_3OneForm(t *testing.T) {
	rnd := rand.New(rand.NewSource(10))
	count := 0
	for range 1000 {
		all := turned(rnd, written(someReadable(rnd)), 104)
		r := reader(all)
		if x := cert.Read(r); r.End() {
			count++
			if written(x) != all {
				t.Fatalf("%x is written as %x", all, written(x))
			}
		}
	}
	if count < 300 {
		t.Errorf("only %d were read", count)
	}
}

// lists: all that a word's signatures have.
func lists(x api.Cert) [][]api.Digest {
	var all [][]api.Digest
	for _, v := range x.Votes {
		all = append(all, v.Sig.Once.Open, v.Sig.Once.Shut, v.Sig.Path)
	}
	return all
}

// spoil turns all that a word has, and what stands in its room to spare.
func spoil(x api.Cert) {
	for _, list := range lists(x) {
		list = list[:cap(list)]
		for i := range list {
			list[i] = api.Digest{170, 31: 85}
		}
	}
	votes := x.Votes[:cap(x.Votes)]
	for i := range votes {
		votes[i] = api.Vote{Kind: 170, From: 85}
	}
}

// roomy: a word whose lists have room to spare, in which something stands.
func roomy(x api.Cert) api.Cert {
	for i := range x.Votes {
		s := &x.Votes[i].Sig
		for _, list := range []*[]api.Digest{&s.Once.Open, &s.Once.Shut, &s.Path} {
			*list = append(slices.Clone(*list), rising(77), ones(), rising(78))[:len(*list)]
		}
	}
	n := len(x.Votes)
	x.Votes = append(slices.Clone(x.Votes), full().Votes...)[:n]
	return x
}

// whole: a word with what stands in its room to spare, as a text.
func whole(x api.Cert) string {
	x.Votes = x.Votes[:cap(x.Votes)]
	all := modelBytes(x)
	for _, list := range lists(x) {
		all += text(list[:cap(list)]...)
	}
	return all
}

// TestP14_4NothingIsChanged: by any call, in the room to spare either.
func TestP14_4NothingIsChanged(t *testing.T) {
	rnd := rand.New(rand.NewSource(11))
	for range 200 {
		m := someMatter(rnd)
		if rnd.Intn(2) == 0 {
			m.spoil(rnd)
		}
		m.x = roomy(cloneWord(m.x))
		m.c = fit(m.c, m.x.Votes)
		n, k := len(m.c.Members), len(m.b.Requests)
		members := append(slices.Clone(m.c.Members), api.Member{Id: 9}, api.Member{Id: -9})
		requests := append(slices.Clone(m.b.Requests), api.Request{Num: 7}, api.Request{Client: 65})
		m.c.Members, m.b.Requests = members[:n], requests[:k]
		ahead, known, asked := whole(m.x), slices.Clone(members), slices.Clone(requests)
		every(m)
		if whole(m.x) != ahead || !slices.Equal(members, known) || !slices.Equal(requests, asked) {
			t.Fatalf("%s: something is changed", short(m.x))
		}
	}
}

// every does all that is done with a configuration, a block and a word, and turns all that was answered.
func every(m matter) {
	cert.Check(m.c, m.b, m.x)
	if x, is := cert.Make(m.c, m.x.Votes...); is {
		spoil(x)
	}
	w := &code.Writer{}
	cert.Write(w, m.x)
	b := w.Bytes()
	spoil(cert.Read(code.Read(b)))
	cert.Write(nil, m.x)
}

// TestP14_4MakeIsNew: what is written into the votes behind Make isn't seen, nor in them what is written into the answer; no two lists are one.
func TestP14_4MakeIsNew(t *testing.T) {
	c := group(5, 4)
	x := roomy(full())
	own := cloneWord(x)
	votes := x.Votes
	y, is := cert.Make(c, votes...)
	z, _ := cert.Make(c, votes...)
	spoil(x)
	wanted := api.Cert{Round: 7, Votes: own.Votes[:3]}
	if !is || !sameWord(y, wanted) {
		t.Errorf("%s is kept as %s", short(wanted), short(y))
	}
	spoil(y)
	if !sameWord(z, wanted) {
		t.Errorf("an earlier answer: %s", short(z))
	}
	// Of one vote that is handed in thrice each has its own lists.
	v := full().Votes[0]
	y, _ = cert.Make(c, v, v, v)
	clear(y.Votes[0].Sig.Once.Open)
	clear(y.Votes[1].Sig.Once.Shut)
	clear(y.Votes[2].Sig.Path)
	if !same(v, full().Votes[0]) || slices.Equal(y.Votes[0].Sig.Once.Open, v.Sig.Once.Open) {
		t.Error("the vote that was handed in")
	}
	for i, list := range lists(y) {
		if cleared := i == 0 || i == 4 || i == 8; !cleared && !slices.Equal(list, lists(api.Cert{Votes: []api.Vote{v}})[i%3]) {
			t.Errorf("the list %d is another one's", i)
		}
	}
}

// TestP14_4ReadIsNew: each reading answers its own, and the bytes stay.
func TestP14_4ReadIsNew(t *testing.T) {
	b := []byte(modelBytes(full()))
	own := slices.Clone(b)
	r, s := code.Read(b), code.Read(b)
	x := cert.Read(r)
	spoil(x)
	y := cert.Read(s)
	if !sameWord(y, full()) || !slices.Equal(b, own) {
		t.Error("a reading is another one's")
	}
	clear(b)
	if !sameWord(y, full()) {
		t.Error("the bytes are kept")
	}
	if !sameWord(cert.Read(code.Read(own)), full()) {
		t.Error("once more")
	}
}

// TestP14_4WriteKeepsNothing: what is written into a word behind Write isn't seen.
func TestP14_4WriteKeepsNothing(t *testing.T) {
	x := full()
	w := &code.Writer{}
	cert.Write(w, x)
	spoil(x)
	if string(w.Bytes()) != modelBytes(full()) {
		t.Error("a word is kept")
	}
}

// TestP14_4CheckKeepsNothing: a word that was right once isn't, when it is turned, and is again, when it is turned back.
func TestP14_4CheckKeepsNothing(t *testing.T) {
	x, b := full(), batch(5, 258, 3)
	c := fit(group(5, 4), x.Votes)
	for range 3 {
		if !cert.Check(c, b, x) {
			t.Error("it isn't right")
		}
		x.Votes[1].Sig.Once.Shut[5][5] ^= 1
		if cert.Check(c, b, x) {
			t.Error("it is right, though it is turned")
		}
		x.Votes[1].Sig.Once.Shut[5][5] ^= 1
	}
}
