package vote_test

import (
	"encoding/hex"
	"math"
	"math/rand"
	"slices"
	"strings"
	"testing"

	"wapentake/api"
	"wapentake/code"
	"wapentake/keys"
	"wapentake/vote"
)

// written: a vote's bytes; none, if it can't be written.
func written(v api.Vote) string {
	var w code.Writer
	vote.Write(&w, v)
	return string(w.Bytes())
}

func writtenPlan(p api.Plan) string {
	var w code.Writer
	vote.WritePlan(&w, p)
	return string(w.Bytes())
}

// reader: one of the bytes that a text has.
func reader(b string) *code.Reader { return code.Read([]byte(b)) }

// reads: that bytes are just those of a vote.
func reads(t *testing.T, what, all string, wanted api.Vote) {
	t.Helper()
	r := reader(all)
	if v := vote.Read(r); !same(v, wanted) || !r.End() {
		t.Errorf("%s: %s is read as %s, end %t", what, short(wanted), short(v), r.End())
	}
}

func readsPlan(t *testing.T, what, all string, wanted api.Plan) {
	t.Helper()
	r := reader(all)
	if p := vote.ReadPlan(r); !samePlan(p, wanted) || !r.End() {
		t.Errorf("%s: %s is read as %s, end %t", what, shortPlan(wanted), shortPlan(p), r.End())
	}
}

// none: that neither a vote nor a plan is at the beginning of some bytes.
func none(t *testing.T, what, all string) {
	t.Helper()
	noVote(t, what, reader(all))
	noPlan(t, what, reader(all))
}

// noVote: that a reader has none, and a fault.
func noVote(t *testing.T, what string, r *code.Reader) {
	t.Helper()
	if v := vote.Read(r); !same(v, api.Vote{}) || r.Good() || r.End() {
		t.Errorf("%s: %s, good %t", what, short(v), r.Good())
	}
}

func noPlan(t *testing.T, what string, r *code.Reader) {
	t.Helper()
	if p := vote.ReadPlan(r); !samePlan(p, api.Plan{}) || r.Good() || r.End() {
		t.Errorf("%s: %s, good %t", what, shortPlan(p), r.Good())
	}
}

// judged: that a vote can be, is right where its signature is a member's, and is read; or none of these.
func judged(t *testing.T, what string, v api.Vote, is bool) {
	t.Helper()
	if vote.Good(v) != is || modelGood(v) != is {
		t.Errorf("%s: %s can be: %t", what, short(v), !is)
	}
	if vote.Right(voters(v), v) != is {
		t.Errorf("%s: %s is right: %t", what, short(v), !is)
	}
	if is {
		reads(t, what, modelBytes(v), v)
	} else {
		noVote(t, what, reader(modelBytes(v)))
	}
}

// judgedPlan: that a plan is right where its signature is a member's, and is read, or isn't.
func judgedPlan(t *testing.T, what string, p api.Plan, right, read bool) {
	t.Helper()
	if vote.RightPlan(leaders(p), p) != right {
		t.Errorf("%s: %s is right: %t", what, shortPlan(p), !right)
	}
	if read {
		readsPlan(t, what, modelPlanBytes(p), p)
	} else {
		noPlan(t, what, reader(modelPlanBytes(p)))
	}
}

// TestP13_1Kinds: 1 and 2.
func TestP13_1Kinds(t *testing.T) {
	for _, n := range append(odd(), -3, 1<<32+3, 1<<8+1) {
		v := full()
		v.Kind = n
		judged(t, "a kind", v, n == 1 || n == 2)
	}
	if api.VoteFirst != 1 || api.VoteSecond != 2 || api.MaxChain != 1024 || api.MaxRound != 1024 || api.MaxId != 63 {
		t.Error("other limits")
	}
}

// TestP13_1Epochs: from 0 to 2^30.
func TestP13_1Epochs(t *testing.T) {
	for _, n := range append(odd(), 1<<29, 1<<30+2, 1<<31-2) {
		v, p := full(), fullPlan(1)
		v.Epoch, p.Epoch, p.Block.Epoch = n, n, n
		is := 0 <= n && n <= 1<<30
		judged(t, "an epoch", v, is)
		judgedPlan(t, "an epoch", p, is, is)
	}
}

// TestP13_1Heights: from 1 to MaxChain.
func TestP13_1Heights(t *testing.T) {
	for _, n := range append(odd(), 512, 1026, 1<<10+1<<32) {
		v, p := full(), fullPlan(1)
		v.Height, p.Height, p.Block.Height = n, n, n
		is := 1 <= n && n <= 1024
		judged(t, "a height", v, is)
		judgedPlan(t, "a height", p, is, is)
	}
}

// TestP13_1Rounds: from 0 to MaxRound.
func TestP13_1Rounds(t *testing.T) {
	for _, n := range append(odd(), 512, 1026, 1<<10+1<<32) {
		v, p := full(), fullPlan(1)
		v.Round, p.Round, p.Valid = n, n, -1
		is := 0 <= n && n <= 1024
		judged(t, "a round", v, is)
		judgedPlan(t, "a plan's round", p, is, is)
	}
}

// TestP13_1Members: from 1 to MaxId; a plan's, if it isn't read, anyone that the configuration has.
func TestP13_1Members(t *testing.T) {
	for _, n := range append(odd(), -3, 1<<8+9, 1<<16+9) {
		v, p := full(), fullPlan(1)
		v.From, p.From = n, n
		is := 1 <= n && n <= 63
		judged(t, "a member", v, is)
		p.Sig = sig(0, 0)
		if c := (api.Config{Epoch: 5, Members: []api.Member{{Id: n, Key: modelKey(modelSignsPlan(p), p.Sig)}}}); !vote.RightPlan(c, p) {
			t.Errorf("the member %d", n)
		}
		if is {
			readsPlan(t, "a plan's member", modelPlanBytes(p), p)
		} else {
			noPlan(t, "a plan's member", reader(modelPlanBytes(p)))
		}
	}
}

// TestP13_1Valid: from -1 to the round ahead.
func TestP13_1Valid(t *testing.T) {
	for _, round := range []int{0, 1, 2, 7, 63, 1023, 1024} {
		for _, n := range append(odd(), round-2, round-1, round, round+1, round-1+1<<32, round/2) {
			p := fullPlan(1)
			p.Round, p.Valid = round, n
			is := -1 <= n && n < round
			judgedPlan(t, "a round ahead", p, is, is)
		}
	}
	for _, round := range []int{-2, -1, 1025, 1026, math.MaxInt, math.MinInt} {
		for _, n := range append(odd(), round-1, round, round+1) {
			p := fullPlan(1)
			p.Round, p.Valid = round, n
			judgedPlan(t, "a round that can't be", p, false, false)
		}
	}
}

// TestP13_1Limits: each number's own, all at the least or the most.
func TestP13_1Limits(t *testing.T) {
	for _, d := range []api.Digest{{}, ones(), {1}, {31: 1}} {
		judged(t, "the least", api.Vote{Kind: 1, Height: 1, From: 1, Digest: d, Sig: sig(0, 0)}, true)
		judged(t, "the most", api.Vote{Kind: 2, Epoch: 1 << 30, Height: 1024, Round: 1024, From: 63, Digest: d, Sig: sig(63, 6)}, true)
	}
	judged(t, "nothing", api.Vote{Sig: sig(0, 0)}, false)
	judgedPlan(t, "the least", api.Plan{Height: 1, Valid: -1, From: 1, Block: api.Block{Height: 1}, Sig: sig(0, 0)}, true, true)
	judgedPlan(t, "the most", api.Plan{Epoch: 1 << 30, Height: 1024, Round: 1024, Valid: 1023, From: 63, Block: batch(1<<30, 1024, 8), Sig: sig(63, 6)}, true, true)
	judgedPlan(t, "nothing", api.Plan{Sig: sig(0, 0)}, false, false)
	for at := range 5 {
		for _, beyond := range [][2]int{{0, 3}, {-1, 1<<30 + 1}, {0, 1025}, {-1, 1025}, {0, 64}}[at] {
			all := []int{1, 1 << 30, 1024, 1024, 63}
			all[at] = beyond
			judged(t, "one number beyond", api.Vote{Kind: all[0], Epoch: all[1], Height: all[2], Round: all[3], From: all[4], Sig: sig(1, 1)}, false)
		}
	}
}

// TestP13_1PlanBlocks: a block that can't be, or of another height or epoch; the latter is read, though it is none's right one.
func TestP13_1PlanBlocks(t *testing.T) {
	for n := range 12 {
		judgedPlan(t, "so many requests", fullPlan(n), n <= 8, n <= 8)
	}
	for _, off := range []func(q *api.Request){
		func(q *api.Request) { q.Client = 65 },
		func(q *api.Request) { q.Num = 0 },
		func(q *api.Request) { q.Op.Kind = 8 },
		func(q *api.Request) { q.Op.Key = long(1025) },
	} {
		p := fullPlan(8)
		off(&p.Block.Requests[7])
		judgedPlan(t, "a request that can't be", p, false, false)
	}
	for _, n := range append(odd(), 258, 259, 1) {
		p := fullPlan(2)
		p.Block.Height = n
		judgedPlan(t, "a block of another height", p, n == 258, 1 <= n && n <= 1024)
		p = fullPlan(2)
		p.Block.Epoch = n
		judgedPlan(t, "a block of another epoch", p, n == 5, 0 <= n && n <= 1<<30)
		p = fullPlan(2)
		p.Height = n
		judgedPlan(t, "a plan of another height", p, n == 258, 1 <= n && n <= 1024)
		p = fullPlan(2)
		p.Epoch = n
		judgedPlan(t, "a plan of another epoch", p, n == 5, 0 <= n && n <= 1<<30)
	}
	p := fullPlan(1)
	p.Height, p.Epoch = p.Epoch, p.Height
	judgedPlan(t, "a height for an epoch", p, false, true)
}

func TestP13_1GoodOfAny(t *testing.T) {
	rnd := rand.New(rand.NewSource(1))
	times := map[bool]int{}
	for range 20000 {
		v := someBad(rnd)
		if vote.Good(v) != modelGood(v) {
			t.Fatalf("%s can be: %t", short(v), vote.Good(v))
		}
		times[modelGood(v)]++
	}
	if times[true] < 1000 || times[false] < 1000 {
		t.Errorf("both kinds are wanted among them: %v", times)
	}
	for _, s := range []api.Sig{{}, {Leaf: -1}, sig(99, 7), {Path: row(1, 99)}, {Once: api.Once{Open: row(1, 33)}}} {
		v := full()
		if v.Sig = s; !vote.Good(v) {
			t.Errorf("a vote with %s can't be", shortSig(s))
		}
	}
}

// seed is the one of which another program than Go's made the signatures that are known.
func seed() api.Digest { return rising(7) }

// knownVotes are votes with what another program than Go's made of the document's words: the head, what they sign, and the SHA-256 of their bytes, signed by a tree's key.
func knownVotes() []struct {
	v                  api.Vote
	height, leaf       int
	head, signs, bytes string
} {
	return []struct {
		v                  api.Vote
		height, leaf       int
		head, signs, bytes string
	}{
		{api.Vote{}, 0, 0,
			strings.Repeat("00", 72),
			"44faf0a45d52dc099370ae47ceea4672a54d06974f1b104319d16c7e859a8035",
			"4b42cb6ad92df4dce391657f90c5100482620364d1b71417f2cc6297562b3eb9"},
		{api.Vote{Kind: 1, Height: 1, From: 1}, 1, 1,
			"0000000000000001" + "0000000000000000" + "0000000000000001" + "0000000000000000" + "0000000000000001" + strings.Repeat("00", 32),
			"3361e389c4932042ed198e70a099fdba1063f3b9c935d6d7e295f0db59dcc2a0",
			"504151f2404f90e3d7e187bb6e861cea475d7e1a2646b08128007343c314dcc7"},
		{api.Vote{Kind: 2, Epoch: 1 << 30, Height: 1024, Round: 1024, From: 63, Digest: ones()}, 6, 63,
			"0000000000000002" + "0000000040000000" + "0000000000000400" + "0000000000000400" + "000000000000003f" + strings.Repeat("ff", 32),
			"7e7e928a303cdeedefb36e8a59cb3f8dfea5eedef50496e882dc285a048a2325",
			"ff5dcdb4865b87bae5d4601807339b61f38606a52f752ed443e3aab354da689d"},
		{api.Vote{Kind: 1, Epoch: 3, Height: 258, Round: 7, From: 5, Digest: rising(0)}, 2, 2,
			"0000000000000001" + "0000000000000003" + "0000000000000102" + "0000000000000007" + "0000000000000005" + "000102030405060708090a0b0c0d0e0f101112131415161718191a1b1c1d1e1f",
			"53ebe221d850b0ab21fc5ce94e86a1db9bd4f4b3901829152c1e7ac03a0515bd",
			"be1380827d74ff49dcbb220081c5992b8462df5d00489d6d03c09becd225038d"},
		{api.Vote{Kind: -1, Epoch: 1 << 62, Height: math.MinInt, Round: math.MaxInt, From: -2, Digest: rising(100)}, 3, 5,
			"ffffffffffffffff" + "4000000000000000" + "8000000000000000" + "7fffffffffffffff" + "fffffffffffffffe" + "6465666768696a6b6c6d6e6f707172737475767778797a7b7c7d7e7f80818283",
			"cc2d4b3ed223327228dd97c54be61e145188d8c654d7ac88d1db06c97d8916f9",
			"81308fefc2d712ae345165d2a1d0d2b89badfb4aa3a69e07c3bca058a80c5d26"},
	}
}

func TestP13_1Known(t *testing.T) {
	for i, k := range knownVotes() {
		tree, _ := keys.New(seed(), k.height)
		d := vote.Signs(k.v)
		if hex.EncodeToString(d[:]) != k.signs {
			t.Errorf("%d signs %x, not %s", i, d, k.signs)
		}
		k.v.Sig, _ = tree.Sign(k.leaf, d)
		if d != vote.Signs(k.v) {
			t.Errorf("%d signs its own signature", i)
		}
		all := written(k.v)
		if n := len(all); n != 72+16+64*32+k.height*32 {
			t.Errorf("%d has %d bytes", i, n)
		} else if got := hex.EncodeToString([]byte(all[:72])); got != k.head {
			t.Errorf("%d has the head %s, not %s", i, got, k.head)
		}
		if sum := hash(all); hex.EncodeToString(sum[:]) != k.bytes {
			t.Errorf("%d: the bytes' digest %x, not %s", i, sum, k.bytes)
		}
		c := api.Config{Epoch: k.v.Epoch, Members: []api.Member{{Id: k.v.From, Key: tree.Key()}}}
		if is := vote.Right(c, k.v); is != (i > 0 && i < 4) {
			t.Errorf("%d is right: %t", i, is)
		}
	}
}

// knownPlans are plans, likewise; the head is short where there is no request.
func knownPlans() []struct {
	p                  api.Plan
	height, leaf, size int
	head, signs, bytes string
} {
	put := api.Request{Client: 1, Num: 1, Op: api.Op{Kind: api.OpPut, Key: "k", Val: "v"}}
	most := api.Request{Client: 64, Num: 1 << 40, Op: api.Op{Kind: api.OpChange, Key: long(1024), Val: long(1024), Old: long(1024), Change: api.Change{Kind: 3, Id: 63, New: 62, Key: api.Key{Root: ones(), Height: 6}}}}
	great := api.Block{Epoch: 1 << 30, Height: 1024, Prev: ones(), State: ones(), Next: ones(), Requests: slices.Repeat([]api.Request{most}, 8)}
	small := api.Block{Epoch: 2, Height: 7, Prev: api.Digest{1}, State: api.Digest{2}, Next: api.Digest{3}, Requests: []api.Request{put}}
	odd := api.Block{Epoch: -1, Height: 1025, Prev: ones(), Next: ones(), Requests: make([]api.Request, 9)}
	return []struct {
		p                  api.Plan
		height, leaf, size int
		head, signs, bytes string
	}{
		{api.Plan{}, 0, 0, 160,
			strings.Repeat("00", 160),
			"d61e6f65636a32c5ece5c6ebcf55310fc2c15d7700df61ec0e6f82852765c5d0",
			"e66bdc3e92779528238d3b891f4ff677860902b8e583cf99b0ae9a65271a9a42"},
		{api.Plan{Height: 1, Valid: -1, From: 1, Block: api.Block{Height: 1}}, 1, 0, 160,
			"0000000000000000" + "0000000000000001" + "0000000000000000" + "ffffffffffffffff" + "0000000000000001" + "0000000000000000" + "0000000000000001" + strings.Repeat("00", 104),
			"d2ddb328bf394a5f6777ea1cb04c8a0c9b227fe58f484009047380d8e52d397f",
			"d7f596cf050ffe724296ca2d7c26f71ae2e47f56cc4e806a9ea2945c068fced3"},
		{api.Plan{Epoch: 1 << 30, Height: 1024, Round: 1024, Valid: 1023, From: 63, Block: great}, 6, 31, 25536, "",
			"9b324046104a611c14fa574e92ee9a1299127ccb59a45943667ccfe274989cbb",
			"3c8cc12a6474c32f583253fa6a0a27c8b731d6abbe209cd6b157e2924a5cf4c1"},
		{api.Plan{Epoch: 2, Height: 7, Round: 5, Valid: 3, From: 9, Block: small}, 2, 1, 262, "",
			"ed27853b156616410a6ad0b3950b34caa6515c43cc7f1e330ea0f02103024ee2",
			"67a1ae6c88bbed5d2007496114f1c0e0a479d09b7c035b0bce4b3388d52d7972"},
		{api.Plan{Epoch: -1, Height: 1 << 62, Round: math.MinInt, Valid: math.MaxInt, From: -2, Block: odd}, 3, 7, 1060, "",
			"46cad12a694b60bc9ebfd29dde4227ae5fe7e5117d5b0b135d0b259d0ececa89",
			"1cabb97a8f374678b03a8b42d28a938596240db5f88779c437ee78e37e965300"},
	}
}

func TestP13_1KnownPlans(t *testing.T) {
	for i, k := range knownPlans() {
		tree, _ := keys.New(seed(), k.height)
		d := vote.SignsPlan(k.p)
		if hex.EncodeToString(d[:]) != k.signs {
			t.Errorf("%d signs %x, not %s", i, d, k.signs)
		}
		k.p.Sig, _ = tree.Sign(k.leaf, d)
		if d != vote.SignsPlan(k.p) {
			t.Errorf("%d signs its own signature", i)
		}
		all := writtenPlan(k.p)
		if n := len(all); n != k.size+16+64*32+k.height*32 {
			t.Errorf("%d has %d bytes", i, n)
		} else if got := hex.EncodeToString([]byte(all[:k.size])); k.head != "" && got != k.head {
			t.Errorf("%d has the head %s, not %s", i, got, k.head)
		}
		if sum := hash(all); hex.EncodeToString(sum[:]) != k.bytes {
			t.Errorf("%d: the bytes' digest %x, not %s", i, sum, k.bytes)
		}
		c := api.Config{Epoch: k.p.Epoch, Members: []api.Member{{Id: k.p.From, Key: tree.Key()}}}
		if is := vote.RightPlan(c, k.p); is != (i > 0 && i < 4) {
			t.Errorf("%d is right: %t", i, is)
		}
	}
}

// TestP13_1SignsApart: what differs in one thing signs another digest, and a vote another one than a plan.
func TestP13_1SignsApart(t *testing.T) {
	places := map[api.Digest]string{}
	apart := func(what string, d api.Digest) {
		if other, is := places[d]; is {
			t.Errorf("%s signs what %s does", what, other)
		}
		places[d] = what
	}
	for name, change := range voteChanges() {
		v := full()
		change(&v)
		apart("a vote: "+name, vote.Signs(v))
	}
	for name, change := range planChanges() {
		p := fullPlan(3)
		change(&p)
		apart("a plan: "+name, vote.SignsPlan(p))
	}
	apart("a full vote", vote.Signs(full()))
	apart("a full plan", vote.SignsPlan(fullPlan(3)))
	apart("no vote", vote.Signs(api.Vote{}))
	apart("no plan", vote.SignsPlan(api.Plan{}))
}

// voteChanges each turn one thing of a full vote.
func voteChanges() map[string]func(v *api.Vote) {
	return map[string]func(v *api.Vote){
		"kind":             func(v *api.Vote) { v.Kind = 1 },
		"epoch":            func(v *api.Vote) { v.Epoch++ },
		"height":           func(v *api.Vote) { v.Height-- },
		"round":            func(v *api.Vote) { v.Round++ },
		"epoch and height": func(v *api.Vote) { v.Epoch, v.Height = v.Height, v.Epoch },
		"height and round": func(v *api.Vote) { v.Height, v.Round = v.Round, v.Height },
		"round and from":   func(v *api.Vote) { v.Round, v.From = v.From, v.Round },
		"from":             func(v *api.Vote) { v.From++ },
		"first bit":        func(v *api.Vote) { v.Digest[0] ^= 128 },
		"last bit":         func(v *api.Vote) { v.Digest[31] ^= 1 },
		"no digest":        func(v *api.Vote) { v.Digest = api.Digest{} },
	}
}

// planChanges each turn one thing of a full plan.
func planChanges() map[string]func(p *api.Plan) {
	return map[string]func(p *api.Plan){
		"epoch":            func(p *api.Plan) { p.Epoch++ },
		"height":           func(p *api.Plan) { p.Height++ },
		"round":            func(p *api.Plan) { p.Round++ },
		"valid":            func(p *api.Plan) { p.Valid-- },
		"none valid":       func(p *api.Plan) { p.Valid = -1 },
		"from":             func(p *api.Plan) { p.From++ },
		"round and valid":  func(p *api.Plan) { p.Round, p.Valid = p.Valid, p.Round },
		"valid and from":   func(p *api.Plan) { p.Valid, p.From = p.From, p.Valid },
		"block's epoch":    func(p *api.Plan) { p.Block.Epoch++ },
		"block's height":   func(p *api.Plan) { p.Block.Height++ },
		"what is ahead":    func(p *api.Plan) { p.Block.Prev[31] ^= 1 },
		"the registry":     func(p *api.Plan) { p.Block.State[0] ^= 1 },
		"what is behind":   func(p *api.Plan) { p.Block.Next[5] ^= 16 },
		"one request less": func(p *api.Plan) { p.Block.Requests = p.Block.Requests[1:] },
		"requests' order":  func(p *api.Plan) { slices.Reverse(p.Block.Requests) },
		"a request's key":  func(p *api.Plan) { p.Block.Requests[1].Op.Key += "x" },
		"a request's root": func(p *api.Plan) { p.Block.Requests[2].Op.Change.Key.Root[31] ^= 1 },
	}
}

// TestP13_1SignsOfAny: of any vote and plan, be it one that can be or not; bytes go behind what was written.
func TestP13_1SignsOfAny(t *testing.T) {
	rnd := rand.New(rand.NewSource(2))
	for range 2000 {
		v, p := someBad(rnd), someBadPlan(rnd)
		if vote.Signs(v) != modelSigns(v) || vote.SignsPlan(p) != modelSignsPlan(p) {
			t.Fatalf("%s or %s", short(v), shortPlan(p))
		}
		w := &code.Writer{}
		w.Text("ahead")
		wanted := texts("ahead")
		if is := vote.Write(w, v); is != modelFits(v.Sig) {
			t.Fatalf("%s is written: %t", short(v), is)
		} else if is {
			wanted += modelBytes(v)
		}
		if is := vote.WritePlan(w, p); is != modelFits(p.Sig) {
			t.Fatalf("%s is written: %t", shortPlan(p), is)
		} else if is {
			wanted += modelPlanBytes(p)
		}
		if string(w.Bytes()) != wanted {
			t.Fatalf("%s and %s: other bytes", short(v), shortPlan(p))
		}
	}
}

// TestP13_1WriteRefused: with a signature that layer 5 doesn't write nothing is written, of lists one longer or shorter than they can be, or none.
func TestP13_1WriteRefused(t *testing.T) {
	for open := range 66 {
		for _, shut := range []int{0, 1, 31, 32, 33, 64 - open} {
			for _, steps := range []int{0, 1, 6, 7, 8, 64} {
				if shut < 0 {
					continue
				}
				s := api.Sig{Leaf: 1, Once: api.Once{Open: row(1, open), Shut: row(90, shut)}, Path: row(180, steps)}
				is := open == 32 && shut == 32 && steps <= 6
				refused(t, s, is)
			}
		}
	}
	refused(t, api.Sig{}, false)
	for _, n := range odd() {
		refused(t, sig(n, 3), true)
	}
}

// refused: that what has a signature is written, or nothing is.
func refused(t *testing.T, s api.Sig, is bool) {
	t.Helper()
	v, p := full(), fullPlan(1)
	v.Sig, p.Sig = s, s
	w, u := &code.Writer{}, &code.Writer{}
	w.Num(1)
	u.Num(1)
	if vote.Write(w, v) != is || vote.WritePlan(u, p) != is {
		t.Errorf("%s is written: %t", shortSig(s), !is)
	}
	if vote.Write(nil, v) != is || vote.WritePlan(nil, p) != is {
		t.Errorf("%s is written nowhere: %t", shortSig(s), !is)
	}
	if !is && (len(w.Bytes()) != 8 || len(u.Bytes()) != 8) {
		t.Errorf("%s has %d and %d bytes", shortSig(s), len(w.Bytes()), len(u.Bytes()))
	}
	if is && (string(w.Bytes()) != num(1)+modelBytes(v) || string(u.Bytes()) != num(1)+modelPlanBytes(p)) {
		t.Errorf("%s has other bytes", shortSig(s))
	}
}

// TestP13_1NilWriter: what could be written is true all the same.
func TestP13_1NilWriter(t *testing.T) {
	if !vote.Write(nil, full()) || !vote.WritePlan(nil, fullPlan(9)) || vote.Write(nil, api.Vote{}) || vote.WritePlan(nil, api.Plan{}) {
		t.Error("a nil writer")
	}
}

func TestP13_1NilReader(t *testing.T) {
	noVote(t, "a nil reader", nil)
	noPlan(t, "a nil reader", nil)
}

// TestP13_1ReadBehindFault: though a vote's or plan's bytes stood there.
func TestP13_1ReadBehindFault(t *testing.T) {
	v, p := modelBytes(full()), modelPlanBytes(fullPlan(2))
	r := reader(v + v)
	r.In(math.MaxInt, math.MaxInt)
	noVote(t, "behind a fault", r)
	noVote(t, "once more", r)
	noPlan(t, "a plan behind a fault", r)
	r = reader(p + p)
	r.In(math.MaxInt, math.MaxInt)
	noPlan(t, "behind a fault", r)
	noPlan(t, "once more", r)
	bad, worse := full(), fullPlan(2)
	bad.From, worse.Valid = 64, 7
	r = reader(modelBytes(bad) + v)
	noVote(t, "a vote that can't be", r)
	noVote(t, "the vote behind it", r)
	r = reader(modelPlanBytes(worse) + p)
	noPlan(t, "a plan that can't be", r)
	noPlan(t, "the plan behind it", r)
}

// TestP13_1ReadCut: bytes of which the last ones are missing are none's.
func TestP13_1ReadCut(t *testing.T) {
	for _, v := range []api.Vote{full(), {Kind: 1, Height: 1, From: 1, Sig: sig(0, 0)}, {Kind: 2, Height: 1, From: 1, Sig: sig(0, 6)}} {
		all := modelBytes(v)
		for size := range len(all) {
			noVote(t, "cut bytes", reader(all[:size]))
		}
	}
	for n := range 3 {
		all := modelPlanBytes(fullPlan(4 * n))
		for size := range len(all) {
			noPlan(t, "cut bytes", reader(all[:size]))
		}
	}
}

// TestP13_1ReadLeft: what is behind the bytes is left, be it another one, or one byte.
func TestP13_1ReadLeft(t *testing.T) {
	v, p := full(), fullPlan(2)
	for steps := range 7 {
		v.Sig, p.Sig = sig(0, steps), sig(0, steps)
		for _, behind := range []string{"\x00", "\xff", "behind", strings.Repeat("\x00", 200), modelBytes(v), modelPlanBytes(p)} {
			r := reader(modelBytes(v) + behind)
			if got := vote.Read(r); !same(got, v) || !r.Good() || r.End() {
				t.Errorf("%s is read as %s", short(v), short(got))
			}
			left(t, r, len(behind))
			r = reader(modelPlanBytes(p) + behind)
			if got := vote.ReadPlan(r); !samePlan(got, p) || !r.Good() || r.End() {
				t.Errorf("%s is read as %s", shortPlan(p), shortPlan(got))
			}
			left(t, r, len(behind))
		}
	}
}

// left: that a reader has so many bytes.
func left(t *testing.T, r *code.Reader, size int) {
	t.Helper()
	for range size / 8 {
		r.Num()
	}
	if r.End() != (size%8 == 0) || !r.Good() {
		t.Errorf("not %d bytes are left", size)
	}
}

// TestP13_1ReadOfNone: bytes of other things.
func TestP13_1ReadOfNone(t *testing.T) {
	for _, b := range []string{"", "\x01", "vote", "plan", strings.Repeat("\x00", 5000), strings.Repeat("\x01", 5000), strings.Repeat("\xff", 5000), strings.Repeat("abc", 2000)} {
		none(t, "other bytes", b)
	}
	none(t, "behind a mark", "vote"+modelBytes(full()))
	none(t, "behind a mark", "plan"+modelPlanBytes(fullPlan(1)))
	noVote(t, "a plan's bytes", reader(modelPlanBytes(fullPlan(1))))
	noPlan(t, "a vote's bytes", reader(modelBytes(full())))
}

// TestP13_1ReadSteps: a path is as long as is told, be there more bytes or fewer.
func TestP13_1ReadSteps(t *testing.T) {
	for _, n := range odd() {
		v, p := full(), fullPlan(1)
		v.Sig.Path, p.Sig.Path = nil, nil
		tail := num(n) + text(v.Sig.Once.Open...) + text(v.Sig.Once.Shut...)
		vs, ps := modelHead(v)+num(3)+tail, modelPlanHead(p)+num(3)+tail
		if n < 0 || n > 6 {
			noVote(t, "such a path", reader(vs+strings.Repeat("x", 9999)))
			noPlan(t, "such a path", reader(ps+strings.Repeat("x", 9999)))
			continue
		}
		v.Sig.Path, p.Sig.Path = row(9, n), row(9, n)
		reads(t, "such a path", vs+text(row(9, n)...), v)
		readsPlan(t, "such a path", ps+text(row(9, n)...), p)
		if n > 0 {
			noVote(t, "one fewer", reader(vs+text(row(9, n-1)...)))
			noPlan(t, "one fewer", reader(ps+text(row(9, n-1)...)))
		}
	}
}

// TestP13_1ReadAny: bytes of any vote or plan, some of them turned, with others behind: just the model's, and what is behind is left.
func TestP13_1ReadAny(t *testing.T) {
	rnd := rand.New(rand.NewSource(3))
	times := map[bool]int{}
	for range 5000 {
		all := turned(rnd, modelBytes(someBad(rnd)), 88) + "behind"[:rnd.Intn(7)]
		r := reader(all)
		v := vote.Read(r)
		wanted, size, is := modelRead(all)
		if !same(v, wanted) || r.Good() != is || r.End() != (is && size == len(all)) {
			t.Fatalf("%x: %s, good %t, end %t", all, short(v), r.Good(), r.End())
		}
		times[is]++
	}
	for range 5000 {
		all := turned(rnd, modelPlanBytes(someBadPlan(rnd)), 160) + "behind"[:rnd.Intn(7)]
		r := reader(all)
		p := vote.ReadPlan(r)
		wanted, size, is := modelReadPlan(all)
		if !samePlan(p, wanted) || r.Good() != is || r.End() != (is && size == len(all)) {
			t.Fatalf("%x: %s, good %t, end %t", all, shortPlan(p), r.Good(), r.End())
		}
		times[is]++
	}
	if times[true] < 1000 || times[false] < 1000 {
		t.Errorf("both kinds are wanted among them: %v", times)
	}
}

// turned: bytes of which some are turned, mostly among the first ones.
func turned(rnd *rand.Rand, all string, first int) string {
	b := []byte(all)
	for range rnd.Intn(3) {
		at := rnd.Intn(len(b))
		if rnd.Intn(2) == 0 {
			at = rnd.Intn(first)
		}
		b[at] ^= 1 << rnd.Intn(8)
	}
	return string(b)
}

// TestP13_1ReadTakesItsOwn: what stands ahead and behind is another one's.
func TestP13_1ReadTakesItsOwn(t *testing.T) {
	v, p := full(), fullPlan(3)
	w := &code.Writer{}
	w.Num(-1)
	vote.Write(w, v)
	w.Text("between")
	vote.WritePlan(w, p)
	vote.Write(w, v)
	w.Digest(ones())
	r := code.Read(w.Bytes())
	if r.Num() != -1 || !same(vote.Read(r), v) || r.Text(7) != "between" || !samePlan(vote.ReadPlan(r), p) || !same(vote.Read(r), v) || r.End() || r.Digest() != ones() || !r.End() {
		t.Error("more or less than its own bytes is taken")
	}
}

// members: a configuration that can be, of trees, by rising Ids from 2 on, each greater by three.
func members(t *testing.T, epoch, count int) (api.Config, map[int]*keys.Tree) {
	t.Helper()
	c, trees := api.Config{Epoch: epoch}, map[int]*keys.Tree{}
	for i := range count {
		x, e := keys.New(rising(byte(10*i)), i%3)
		if e != api.OK {
			t.Fatal(e)
		}
		id := 2 + 3*i
		trees[id] = x
		c.Members = append(c.Members, api.Member{Id: id, Key: x.Key()})
	}
	return c, trees
}

// TestP13_1Right: signed by the one-time key of any number, by each member, and by nobody else.
func TestP13_1Right(t *testing.T) {
	c, trees := members(t, 5, 10)
	for id, x := range trees {
		for leaf := range 1 << x.Key().Height {
			v, p := full(), fullPlan(1)
			v.From, p.From = id, id
			v.Sig, _ = x.Sign(leaf, vote.Signs(v))
			p.Sig, _ = x.Sign(leaf, vote.SignsPlan(p))
			if !vote.Right(c, v) || !vote.RightPlan(c, p) {
				t.Errorf("the member %d, the leaf %d", id, leaf)
			}
			crossed, turned := v, p
			crossed.Sig, turned.Sig = p.Sig, v.Sig
			if vote.Right(c, crossed) || vote.RightPlan(c, turned) {
				t.Errorf("the member %d: a plan's signature is a vote's", id)
			}
			for other, y := range trees {
				w, q := v, p
				w.Sig, _ = y.Sign(0, vote.Signs(v))
				q.Sig, _ = y.Sign(0, vote.SignsPlan(p))
				if is := other == id; vote.Right(c, w) != is || vote.RightPlan(c, q) != is {
					t.Errorf("%d for %d: %t", other, id, !is)
				}
			}
		}
	}
}

// TestP13_1NotRight: of what has a signature by a member's key each thing alone is turned, and the signature stays.
func TestP13_1NotRight(t *testing.T) {
	c, trees := members(t, 5, 4)
	x := trees[8]
	for name, change := range voteChanges() {
		v := full()
		v.From = 8
		v.Sig, _ = x.Sign(1, vote.Signs(v))
		change(&v)
		if vote.Right(c, v) || vote.Right(api.Config{Epoch: v.Epoch, Members: c.Members}, v) {
			t.Errorf("a vote: %s", name)
		}
	}
	for name, change := range planChanges() {
		p := fullPlan(3)
		p.From = 8
		p.Sig, _ = x.Sign(1, vote.SignsPlan(p))
		change(&p)
		if vote.RightPlan(c, p) || vote.RightPlan(api.Config{Epoch: p.Epoch, Members: c.Members}, p) {
			t.Errorf("a plan: %s", name)
		}
	}
}

// signed: a vote and a plan of the member 8.
func signed(trees map[int]*keys.Tree) (api.Vote, api.Plan) {
	v, p := full(), fullPlan(3)
	v.From, p.From = 8, 8
	v.Sig, _ = trees[8].Sign(1, vote.Signs(v))
	p.Sig, _ = trees[8].Sign(1, vote.SignsPlan(p))
	return v, p
}

// TestP13_1OtherConfig: without the member, of another epoch, or in which the member has another key.
func TestP13_1OtherConfig(t *testing.T) {
	c, trees := members(t, 5, 4)
	v, p := signed(trees)
	both := func(c api.Config) (bool, bool) { return vote.Right(c, v), vote.RightPlan(c, p) }
	if a, b := both(c); !a || !b {
		t.Error("its own configuration")
	}
	for _, n := range append(odd(), 4, 6, 5+1<<32) {
		if a, b := both(api.Config{Epoch: n, Members: c.Members}); a != (n == 5) || b != (n == 5) {
			t.Errorf("the epoch %d: %t, %t", n, a, b)
		}
	}
	for name, change := range map[string]func(list []api.Member) []api.Member{
		"nobody":       func(list []api.Member) []api.Member { return nil },
		"without":      func(list []api.Member) []api.Member { return slices.Delete(list, 2, 3) },
		"others":       func(list []api.Member) []api.Member { return list[:2] },
		"the root":     func(list []api.Member) []api.Member { list[2].Key.Root[31] ^= 1; return list },
		"the height":   func(list []api.Member) []api.Member { list[2].Key.Height++; return list },
		"a lower one":  func(list []api.Member) []api.Member { list[2].Key.Height--; return list },
		"another's":    func(list []api.Member) []api.Member { list[2].Key = list[1].Key; return list },
		"another's Id": func(list []api.Member) []api.Member { list[2].Id, list[3].Id = list[3].Id, list[2].Id; return list },
		"no Id":        func(list []api.Member) []api.Member { list[2].Id = 0; return list },
		"first of two": func(list []api.Member) []api.Member { return append([]api.Member{{Id: 8}}, list...) },
	} {
		if a, b := both(api.Config{Epoch: 5, Members: change(slices.Clone(c.Members))}); a || b {
			t.Errorf("%s: %t, %t", name, a, b)
		}
	}
	if a, b := both(api.Config{Epoch: 5, Members: []api.Member{c.Members[2]}}); !a || !b {
		t.Error("alone")
	}
	if a, b := both(api.Config{Epoch: 5, Members: append(slices.Clone(c.Members), api.Member{Id: 8})}); !a || !b {
		t.Error("once more, behind it")
	}
}

// TestP13_1OffSignatures: of a right one each thing alone is turned.
func TestP13_1OffSignatures(t *testing.T) {
	c, trees := members(t, 5, 4)
	v, p := signed(trees)
	for name, change := range map[string]func(s *api.Sig){
		"none":            func(s *api.Sig) { *s = api.Sig{} },
		"a form alone":    func(s *api.Sig) { *s = sig(1, 2) },
		"another leaf":    func(s *api.Sig) { s.Leaf = 0 },
		"a leaf below":    func(s *api.Sig) { s.Leaf = -1 },
		"a leaf beyond":   func(s *api.Sig) { s.Leaf = 5 },
		"one opened":      func(s *api.Sig) { s.Once.Open[31][31] ^= 1 },
		"one shut":        func(s *api.Sig) { s.Once.Shut[0][0] ^= 128 },
		"a step":          func(s *api.Sig) { s.Path[1][7] ^= 2 },
		"fewer opened":    func(s *api.Sig) { s.Once.Open = s.Once.Open[:31] },
		"more opened":     func(s *api.Sig) { s.Once.Open = append(s.Once.Open, ones()) },
		"fewer shut":      func(s *api.Sig) { s.Once.Shut = s.Once.Shut[:31] },
		"more shut":       func(s *api.Sig) { s.Once.Shut = append(s.Once.Shut, ones()) },
		"fewer steps":     func(s *api.Sig) { s.Path = s.Path[:1] },
		"more steps":      func(s *api.Sig) { s.Path = append(s.Path, ones()) },
		"no steps":        func(s *api.Sig) { s.Path = nil },
		"far more steps":  func(s *api.Sig) { s.Path = row(1, 70) },
		"opened and shut": func(s *api.Sig) { s.Once.Open, s.Once.Shut = s.Once.Shut, s.Once.Open },
	} {
		u, q := clone(v), clonePlan(p)
		change(&u.Sig)
		change(&q.Sig)
		if vote.Right(c, u) || vote.RightPlan(c, q) {
			t.Errorf("%s", name)
		}
	}
	if !vote.Right(c, v) || !vote.RightPlan(c, p) {
		t.Error("the right ones")
	}
}

func TestP13_1RightOfAny(t *testing.T) {
	rnd := rand.New(rand.NewSource(4))
	times := map[bool]int{}
	for range 3000 {
		v, p := someBad(rnd), someBadPlan(rnd)
		c, k := api.Config{Epoch: v.Epoch}, api.Config{Epoch: p.Epoch}
		if modelFits(v.Sig) {
			c = spoiled(rnd, voters(v))
		}
		if modelFits(p.Sig) {
			k = spoiled(rnd, leaders(p))
		}
		if is := modelRight(c, v); vote.Right(c, v) != is {
			t.Fatalf("%s is right: %t", short(v), !is)
		} else {
			times[is]++
		}
		if is := modelRightPlan(k, p); vote.RightPlan(k, p) != is {
			t.Fatalf("%s is right: %t", shortPlan(p), !is)
		} else {
			times[is]++
		}
	}
	if times[true] < 500 || times[false] < 500 {
		t.Errorf("both kinds are wanted among them: %v", times)
	}
}

// spoiled: a configuration in which one thing may be turned.
func spoiled(rnd *rand.Rand, c api.Config) api.Config {
	m := &c.Members[rnd.Intn(len(c.Members))]
	switch rnd.Intn(10) {
	case 0:
		c.Epoch = someOdd(rnd)
	case 1:
		m.Id = someOdd(rnd)
	case 2:
		m.Key.Height = someOdd(rnd)
	case 3:
		m.Key.Root[rnd.Intn(32)] ^= 1 << rnd.Intn(8)
	case 4:
		rnd.Shuffle(len(c.Members), func(i, k int) { c.Members[i], c.Members[k] = c.Members[k], c.Members[i] })
	}
	return c
}

// TestP13_2ThereAndBack: votes that can be, and plans whose blocks can be, at all limits, and many others.
func TestP13_2ThereAndBack(t *testing.T) {
	for _, kind := range []int{1, 2} {
		for _, epoch := range []int{0, 1, 258, 1 << 30} {
			for _, height := range []int{1, 2, 256, 1024} {
				for _, round := range []int{0, 1, 255, 1024} {
					for _, from := range []int{1, 63} {
						back(t, api.Vote{Kind: kind, Epoch: epoch, Height: height, Round: round, From: from, Digest: rising(3), Sig: sig(2, 2)})
						backPlan(t, api.Plan{Epoch: epoch, Height: height, Round: round, Valid: round - kind*round/2 - 1, From: from, Block: batch(epoch, height, kind), Sig: sig(2, 2)})
					}
				}
			}
		}
	}
	for _, leaf := range odd() {
		for steps := range 7 {
			v, p := full(), fullPlan(2)
			v.Sig, p.Sig = sig(leaf, steps), sig(leaf, steps)
			back(t, v)
			backPlan(t, p)
		}
	}
	for n := range 9 {
		p := fullPlan(n)
		backPlan(t, p)
		p.Block.Epoch, p.Block.Height = 1<<30, 1
		backPlan(t, p)
	}
	rnd := rand.New(rand.NewSource(5))
	for range 2000 {
		back(t, someGood(rnd))
		backPlan(t, someGoodPlan(rnd))
	}
}

// back: that a vote is read as it was written, and signs the same.
func back(t *testing.T, v api.Vote) {
	t.Helper()
	r := reader(written(v))
	if got := vote.Read(r); !same(got, v) || !r.End() || !vote.Good(got) || vote.Signs(got) != vote.Signs(v) {
		t.Fatalf("%s is read as %s", short(v), short(got))
	}
}

func backPlan(t *testing.T, p api.Plan) {
	t.Helper()
	r := reader(writtenPlan(p))
	if got := vote.ReadPlan(r); !samePlan(got, p) || !r.End() || vote.SignsPlan(got) != vote.SignsPlan(p) {
		t.Fatalf("%s is read as %s", shortPlan(p), shortPlan(got))
	}
}

// TestP13_2RightBack: what is right is right when it was written and read.
func TestP13_2RightBack(t *testing.T) {
	c, trees := members(t, 5, 4)
	v, p := signed(trees)
	if !vote.Right(c, vote.Read(reader(written(v)))) || !vote.RightPlan(c, vote.ReadPlan(reader(writtenPlan(p)))) {
		t.Error("it isn't right any more")
	}
}

// TestP13_2NotBack: what can't be isn't read, though it was written.
func TestP13_2NotBack(t *testing.T) {
	rnd := rand.New(rand.NewSource(6))
	count := 0
	for range 5000 {
		if v := someBad(rnd); !modelGood(v) {
			noVote(t, "of one that can't be", reader(written(v)))
			noVote(t, "with others behind", reader(written(v)+written(full())))
			count++
		}
		if p := someBadPlan(rnd); !modelGoodPlan(p) {
			noPlan(t, "of one that can't be", reader(writtenPlan(p)))
			noPlan(t, "with others behind", reader(writtenPlan(p)+writtenPlan(fullPlan(1))))
			count++
		}
	}
	if count < 1000 {
		t.Errorf("only %d couldn't be", count)
	}
}

// TestP13_2OneForm: bytes that are read to their end are those that what was read is written as.
func TestP13_2OneForm(t *testing.T) {
	rnd := rand.New(rand.NewSource(7))
	count := 0
	for range 3000 {
		all := turned(rnd, written(someGood(rnd)), 88)
		r := reader(all)
		if v := vote.Read(r); r.End() {
			count++
			if written(v) != all || !vote.Good(v) {
				t.Fatalf("%x is written as %x", all, written(v))
			}
		}
		all = turned(rnd, writtenPlan(someGoodPlan(rnd)), 160)
		r = reader(all)
		if p := vote.ReadPlan(r); r.End() {
			count++
			if writtenPlan(p) != all {
				t.Fatalf("%x is written as %x", all, writtenPlan(p))
			}
		}
	}
	if count < 1000 {
		t.Errorf("only %d were read", count)
	}
}
