package state_test

import (
	"fmt"
	"math"
	"math/rand"
	"slices"
	"testing"

	"wapentake/api"
	"wapentake/config"
	"wapentake/state"
)

// answers: that a request is answered so, and its reply is the client's last one then; the answer is the state behind it.
func answers(t *testing.T, what string, s api.State, q api.Request, e api.Errno, vals ...string) api.State {
	t.Helper()
	behind, a := state.Apply(s, q)
	wanted := api.Reply{Client: q.Client, Num: q.Num, Code: e, Vals: vals}
	if !sameReply(a, wanted) {
		t.Errorf("%s: %s: %s, not %s", what, toldRequest(q), toldReply(a), toldReply(wanted))
	}
	if last, is := state.Last(behind, q.Client); !is || !sameReply(last, wanted) {
		t.Errorf("%s: %s: the last reply is %s, %t", what, toldRequest(q), toldReply(last), is)
	}
	return behind
}

// stays: that a request which isn't executed is answered so, and the state stays.
func stays(t *testing.T, what string, s api.State, q api.Request, wanted api.Reply) {
	t.Helper()
	behind, a := state.Apply(s, q)
	if !sameReply(a, wanted) {
		t.Errorf("%s: %s: %s, not %s", what, toldRequest(q), toldReply(a), toldReply(wanted))
	}
	if !same(behind, s) {
		t.Errorf("%s: %s: %s became %s", what, toldRequest(q), told(s), told(behind))
	}
}

// holds: that a state has these pairs, each key ahead of its value, that configuration, and n replies.
func holds(t *testing.T, what string, s api.State, c api.Config, n int, texts ...string) {
	t.Helper()
	if !slices.Equal(s.Pairs, pairsOf(texts...).Pairs) || !sameConfig(s.Config, c) || len(s.Replies) != n {
		t.Errorf("%s: %s", what, told(s))
	}
}

// TestP10_1Example is the chapter's.
func TestP10_1Example(t *testing.T) {
	s := state.New(of(0, 1))
	s = answers(t, "a put", s, api.Request{Client: 1, Num: 1, Op: put("a", "1")}, api.OK)
	s = answers(t, "a swap", s, api.Request{Client: 2, Num: 1, Op: api.Op{Kind: api.OpSwap, Key: "a", Old: "2", Val: "3"}}, api.ErrOther, "1")
	holds(t, "behind both", s, of(0, 1), 2, "a", "1")
}

// TestP10_1New: of configurations that can be, and of others.
func TestP10_1New(t *testing.T) {
	for _, c := range []api.Config{of(0, 1), of(7, 1, 2, 5, 63), of(1<<30, 1, 2, 3, 4, 5, 6, 7, 8, 9, 10), {}, of(-5), of(1, 5, 3, 3, 99), of(0, make([]int, 100)...)} {
		s := state.New(c)
		holds(t, "a new one", s, c, 0)
		if v, is := state.Get(s, ""); is || v != "" {
			t.Errorf("a new one has a value %q", v)
		}
		if a, is := state.Last(s, 1); is || !sameReply(a, api.Reply{}) {
			t.Errorf("a new one has a reply %s", toldReply(a))
		}
	}
}

// TestP10_1Get: of what is there, at every place, and of what stands ahead of it, between and behind.
func TestP10_1Get(t *testing.T) {
	for n := range 12 {
		s := many(n)
		for i := -1; i <= 2*n+1; i++ {
			key, wanted := fmt.Sprintf("%05d", i), ""
			if i >= 0 && i%2 == 0 && i < 2*n {
				wanted = fmt.Sprint(i / 2)
			}
			if v, is := state.Get(s, key); v != wanted || is != (wanted != "") {
				t.Errorf("%d pairs: %s has %q, %t", n, key, v, is)
			}
		}
	}
	s := pairsOf("", "none", "a", "", "a\x00", "nought", "ab", "two", "\xff", "last")
	for _, p := range s.Pairs {
		if v, is := state.Get(s, p.Key); v != p.Val || !is {
			t.Errorf("%q has %q, %t", p.Key, v, is)
		}
	}
	for _, key := range []string{"\x00", "A", "a\x00\x00", "aa", "abc", "b", "\xfe", "\xff\x00", long(1024), long(1025)} {
		if v, is := state.Get(s, key); v != "" || is {
			t.Errorf("%q has %q, %t", key, v, is)
		}
	}
}

// TestP10_1Last: of clients who have a reply, at every place, and of others.
func TestP10_1Last(t *testing.T) {
	s := state.New(of(0, 1))
	for _, client := range []int{1, 3, 4, 31, 64} {
		s.Replies = append(s.Replies, api.Reply{Client: client, Num: 100 + client, Code: api.ErrOther, Vals: []string{fmt.Sprint(client), ""}[:client%3]})
	}
	for _, wanted := range s.Replies {
		if a, is := state.Last(s, wanted.Client); !is || !sameReply(a, wanted) {
			t.Errorf("client %d: %s, %t", wanted.Client, toldReply(a), is)
		}
	}
	for _, client := range []int{-1, 0, 2, 5, 30, 32, 63, 65, math.MaxInt, math.MinInt, 1<<32 + 1} {
		if a, is := state.Last(s, client); is || !sameReply(a, api.Reply{}) {
			t.Errorf("client %d: %s, %t", client, toldReply(a), is)
		}
	}
}

// TestP10_1Operations: each kind, with a key that has a value and one that has none, and what becomes of the pairs.
func TestP10_1Operations(t *testing.T) {
	for _, c := range []struct {
		op    api.Op
		code  api.Errno
		vals  []string
		pairs []string
	}{
		{api.Op{Kind: api.OpGet, Key: "b", Val: "x", Old: "y"}, api.OK, []string{"2"}, []string{"b", "2", "d", ""}},
		{api.Op{Kind: api.OpGet, Key: "d"}, api.OK, []string{""}, []string{"b", "2", "d", ""}},
		{api.Op{Kind: api.OpGet, Key: "c"}, api.ErrNone, nil, []string{"b", "2", "d", ""}},
		{api.Op{Kind: api.OpGet}, api.ErrNone, nil, []string{"b", "2", "d", ""}},
		{api.Op{Kind: api.OpPut, Key: "b", Val: "x", Old: "y"}, api.OK, nil, []string{"b", "x", "d", ""}},
		{api.Op{Kind: api.OpPut, Key: "b"}, api.OK, nil, []string{"b", "", "d", ""}},
		{api.Op{Kind: api.OpPut, Key: "d", Val: "x"}, api.OK, nil, []string{"b", "2", "d", "x"}},
		{api.Op{Kind: api.OpPut, Key: "", Val: "x"}, api.OK, nil, []string{"", "x", "b", "2", "d", ""}},
		{api.Op{Kind: api.OpPut, Key: "a", Val: "x"}, api.OK, nil, []string{"a", "x", "b", "2", "d", ""}},
		{api.Op{Kind: api.OpPut, Key: "c"}, api.OK, nil, []string{"b", "2", "c", "", "d", ""}},
		{api.Op{Kind: api.OpPut, Key: "e", Val: "x"}, api.OK, nil, []string{"b", "2", "d", "", "e", "x"}},
		{api.Op{Kind: api.OpPut, Key: "B", Val: "x"}, api.OK, nil, []string{"B", "x", "b", "2", "d", ""}},
		{api.Op{Kind: api.OpPut, Key: "\xff", Val: "x"}, api.OK, nil, []string{"b", "2", "d", "", "\xff", "x"}},
		{api.Op{Kind: api.OpPut, Key: long(1024), Val: long(1024)}, api.OK, nil, []string{"b", "2", "d", "", long(1024), long(1024)}},
		{api.Op{Kind: api.OpDelete, Key: "b", Val: "x", Old: "y"}, api.OK, nil, []string{"d", ""}},
		{api.Op{Kind: api.OpDelete, Key: "d"}, api.OK, nil, []string{"b", "2"}},
		{api.Op{Kind: api.OpDelete, Key: "c"}, api.ErrNone, nil, []string{"b", "2", "d", ""}},
		{api.Op{Kind: api.OpDelete, Key: ""}, api.ErrNone, nil, []string{"b", "2", "d", ""}},
		{api.Op{Kind: api.OpSwap, Key: "b", Old: "2", Val: "x"}, api.OK, nil, []string{"b", "x", "d", ""}},
		{api.Op{Kind: api.OpSwap, Key: "b", Old: "2"}, api.OK, nil, []string{"b", "", "d", ""}},
		{api.Op{Kind: api.OpSwap, Key: "b", Old: "2", Val: "2"}, api.OK, nil, []string{"b", "2", "d", ""}},
		{api.Op{Kind: api.OpSwap, Key: "d", Val: "x"}, api.OK, nil, []string{"b", "2", "d", "x"}},
		{api.Op{Kind: api.OpSwap, Key: "b", Old: "1", Val: "x"}, api.ErrOther, []string{"2"}, []string{"b", "2", "d", ""}},
		{api.Op{Kind: api.OpSwap, Key: "b", Old: "22", Val: "2"}, api.ErrOther, []string{"2"}, []string{"b", "2", "d", ""}},
		{api.Op{Kind: api.OpSwap, Key: "b", Val: "x"}, api.ErrOther, []string{"2"}, []string{"b", "2", "d", ""}},
		{api.Op{Kind: api.OpSwap, Key: "d", Old: "2", Val: "x"}, api.ErrOther, []string{""}, []string{"b", "2", "d", ""}},
		{api.Op{Kind: api.OpSwap, Key: "c", Val: "x"}, api.ErrNone, nil, []string{"b", "2", "d", ""}},
		{api.Op{Kind: api.OpSwap, Key: "c", Old: "2", Val: "x"}, api.ErrNone, nil, []string{"b", "2", "d", ""}},
		{api.Op{Kind: api.OpList, Key: "b"}, api.OK, []string{"b"}, []string{"b", "2", "d", ""}},
		{api.Op{Kind: api.OpConfig, Key: "b"}, api.OK, []string{"3", "1", "2", "5"}, []string{"b", "2", "d", ""}},
	} {
		behind := answers(t, "an operation", pairsOf("b", "2", "d", ""), asked(1, c.op), c.code, c.vals...)
		holds(t, toldRequest(asked(1, c.op)), behind, of(3, 1, 2, 5), 1, c.pairs...)
	}
}

// TestP10_1OperationsOfNone: each kind, where there is nothing.
func TestP10_1OperationsOfNone(t *testing.T) {
	for _, key := range []string{"", "a"} {
		for kind, e := range map[int]api.Errno{api.OpGet: api.ErrNone, api.OpDelete: api.ErrNone, api.OpSwap: api.ErrNone, api.OpList: api.OK} {
			s := answers(t, "of none", state.New(of(0, 1)), asked(1, api.Op{Kind: kind, Key: key}), e)
			holds(t, "behind it", s, of(0, 1), 1)
		}
		s := answers(t, "a put", state.New(of(0, 1)), asked(1, put(key, "x")), api.OK)
		holds(t, "behind a put", s, of(0, 1), 1, key, "x")
		s = answers(t, "a delete", s, asked(2, api.Op{Kind: api.OpDelete, Key: key}), api.OK)
		holds(t, "behind a delete", s, of(0, 1), 1)
	}
}

// TestP10_1MaxKeys: at one pair fewer than the most a new key comes, at the most none, while a known one still has another value.
func TestP10_1MaxKeys(t *testing.T) {
	for _, key := range []string{"", "00001", "00101", "zzz"} {
		s := answers(t, "at one fewer", many(255), asked(1, put(key, "x")), api.OK)
		if v, is := state.Get(s, key); len(s.Pairs) != 256 || v != "x" || !is || !inOrder(s) {
			t.Errorf("%q at one fewer: %d pairs, %q", key, len(s.Pairs), v)
		}
		s = answers(t, "at the most", many(256), asked(1, put(key, "x")), api.ErrMany)
		if !slices.Equal(s.Pairs, many(256).Pairs) {
			t.Errorf("%q at the most: %d pairs", key, len(s.Pairs))
		}
	}
	for _, n := range []int{255, 256} {
		for at := range n {
			s := answers(t, "a known key", many(n), asked(1, put(fmt.Sprintf("%05d", 2*at), "x")), api.OK)
			wanted := many(n)
			wanted.Pairs[at].Val = "x"
			if !slices.Equal(s.Pairs, wanted.Pairs) {
				t.Errorf("the known key %d of %d", at, n)
			}
		}
	}
	s := answers(t, "a swap at the most", many(256), asked(1, api.Op{Kind: api.OpSwap, Key: "00510", Old: "255", Val: "x"}), api.OK)
	s = answers(t, "a refused put", s, asked(2, put("new", "x")), api.ErrMany)
	s = answers(t, "a delete", s, asked(3, api.Op{Kind: api.OpDelete, Key: "00000"}), api.OK)
	s = answers(t, "a put behind it", s, asked(4, put("new", "x")), api.OK)
	s = answers(t, "one more", s, asked(5, put("newer", "x")), api.ErrMany)
	if v, is := state.Get(s, "new"); len(s.Pairs) != 256 || v != "x" || !is {
		t.Errorf("behind all: %d pairs, %q", len(s.Pairs), v)
	}
}

// TestP10_1List: keys that begin with none, with one that is there, with one that isn't, and with bytes of any kind.
func TestP10_1List(t *testing.T) {
	s := pairsOf("", "0", "a", "1", "a\x00", "2", "aa", "3", "ab", "4", "ab\xff", "5", "ab\xff\xff", "6", "b", "7", "ba", "8", "c\xc3", "9", "c\xc3\xa4", "10", "\xff", "11", "\xff\xff", "12")
	for key, wanted := range map[string][]string{
		"":         {"", "a", "a\x00", "aa", "ab", "ab\xff", "ab\xff\xff", "b", "ba", "c\xc3", "c\xc3\xa4", "\xff", "\xff\xff"},
		"a":        {"a", "a\x00", "aa", "ab", "ab\xff", "ab\xff\xff"},
		"ab":       {"ab", "ab\xff", "ab\xff\xff"},
		"ab\xff":   {"ab\xff", "ab\xff\xff"},
		"b":        {"b", "ba"},
		"ba":       {"ba"},
		"c":        {"c\xc3", "c\xc3\xa4"},
		"c\xc3":    {"c\xc3", "c\xc3\xa4"},
		"\xff":     {"\xff", "\xff\xff"},
		"\xff\xff": {"\xff\xff"},
		"A":        nil, "aaa": nil, "ac": nil, "bab": nil, "d": nil, "\xfe": nil, "\xff\xff\xff": nil, "\x00": nil, "B": nil, "c\xa4": nil, long(1024): nil,
	} {
		behind := answers(t, "a list", s, asked(1, api.Op{Kind: api.OpList, Key: key, Val: "v", Old: "o"}), api.OK, wanted...)
		if !slices.Equal(behind.Pairs, s.Pairs) {
			t.Errorf("a list of %q changes pairs", key)
		}
	}
	var all, some []string
	for _, p := range many(256).Pairs {
		all = append(all, p.Key)
	}
	some = all[50:100]
	answers(t, "a list of all", many(256), asked(1, api.Op{Kind: api.OpList}), api.OK, all...)
	answers(t, "a list of some", many(256), asked(1, api.Op{Kind: api.OpList, Key: "001"}), api.OK, some...)
}

// TestP10_1Config: the digits of configurations of all sizes, with epochs that can be and that can't.
func TestP10_1Config(t *testing.T) {
	for _, c := range []struct {
		c      api.Config
		wanted []string
	}{
		{of(0, 1), []string{"0", "1"}},
		{of(1<<30, 63), []string{"1073741824", "63"}},
		{of(12, 9, 10, 11), []string{"12", "9", "10", "11"}},
		{of(5, 1, 2, 3, 4, 5, 6, 7, 8, 9, 10), []string{"5", "1", "2", "3", "4", "5", "6", "7", "8", "9", "10"}},
		{api.Config{}, []string{"0"}},
		{of(-1, 64, -7, 3), []string{"-1", "64", "-7", "3"}},
	} {
		s := answers(t, "a configuration", state.New(c.c), asked(1, api.Op{Kind: api.OpConfig, Key: "k"}), api.OK, c.wanted...)
		holds(t, "behind it", s, c.c, 1)
	}
}

// TestP10_1Change: each kind, worked out by hand; pairs and other replies stay.
func TestP10_1Change(t *testing.T) {
	key := api.Key{Root: ones(), Height: 6}
	for _, c := range []struct {
		x      api.Change
		wanted []string
	}{
		{api.Change{Kind: api.ChangeAdd, Id: 4, Key: key}, []string{"8", "1", "2", "4", "5"}},
		{api.Change{Kind: api.ChangeRemove, Id: 2}, []string{"8", "1", "5"}},
		{api.Change{Kind: api.ChangeReplace, Id: 1, New: 9, Key: key}, []string{"8", "2", "5", "9"}},
		{api.Change{Kind: api.ChangeRotate, Id: 5, Key: key}, []string{"8", "1", "2", "5"}},
	} {
		s := pairsOf("a", "1")
		s.Config = of(7, 1, 2, 5)
		s.Replies = []api.Reply{{Client: 2, Num: 5, Vals: []string{"two"}}}
		s = answers(t, "a change", s, asked(1, api.Op{Kind: api.OpChange, Key: "a", Val: "v", Change: c.x}), api.OK)
		wanted, _ := config.Apply(of(7, 1, 2, 5), c.x)
		holds(t, "behind a change", s, wanted, 2, "a", "1")
		if a, is := state.Last(s, 2); !is || !sameReply(a, api.Reply{Client: 2, Num: 5, Vals: []string{"two"}}) {
			t.Errorf("another one's reply is %s", toldReply(a))
		}
		answers(t, "the configuration behind it", s, asked(2, api.Op{Kind: api.OpConfig}), api.OK, c.wanted...)
	}
}

// TestP10_1ChangeRefused: layer 8's errors; the configuration stays, and the reply is the client's last one all the same.
func TestP10_1ChangeRefused(t *testing.T) {
	three, ten := of(7, 1, 2, 5), of(7, 1, 2, 3, 4, 5, 6, 7, 8, 9, 10)
	for _, c := range []struct {
		c      api.Config
		x      api.Change
		wanted api.Errno
	}{
		{three, api.Change{}, api.ErrArg},
		{three, api.Change{Kind: 5, Id: 1}, api.ErrArg},
		{three, api.Change{Kind: api.ChangeAdd, Id: 64}, api.ErrArg},
		{three, api.Change{Kind: api.ChangeRotate, Id: 1, Key: api.Key{Height: 7}}, api.ErrArg},
		{three, api.Change{Kind: math.MinInt, Id: math.MaxInt, New: math.MaxInt, Key: api.Key{Height: math.MinInt}}, api.ErrArg},
		{of(1<<30, 1, 2), api.Change{Kind: api.ChangeRemove, Id: 1}, api.ErrArg},
		{of(7, 2, 1), api.Change{Kind: api.ChangeRemove, Id: 1}, api.ErrArg},
		{api.Config{}, api.Change{Kind: api.ChangeAdd, Id: 1}, api.ErrArg},
		{three, api.Change{Kind: api.ChangeRemove, Id: 3}, api.ErrNone},
		{three, api.Change{Kind: api.ChangeReplace, Id: 3, New: 4}, api.ErrNone},
		{three, api.Change{Kind: api.ChangeRotate, Id: 3}, api.ErrNone},
		{three, api.Change{Kind: api.ChangeAdd, Id: 5}, api.ErrOther},
		{three, api.Change{Kind: api.ChangeReplace, Id: 1, New: 5}, api.ErrOther},
		{ten, api.Change{Kind: api.ChangeAdd, Id: 11}, api.ErrMany},
		{of(7, 4), api.Change{Kind: api.ChangeRemove, Id: 4}, api.ErrFew},
	} {
		s := state.New(c.c)
		s.Pairs = pairsOf("a", "1").Pairs
		s = answers(t, "a refused change", s, asked(1, api.Op{Kind: api.OpChange, Change: c.x}), c.wanted)
		holds(t, "behind it", s, c.c, 1, "a", "1")
	}
}

// TestP10_1RepliesRise: replies stand by their clients, in whatever order these ask, and each once.
func TestP10_1RepliesRise(t *testing.T) {
	rnd := rand.New(rand.NewSource(1))
	for range 20 {
		s := state.New(of(0, 1))
		for _, at := range rnd.Perm(64) {
			s = answers(t, "a put", s, api.Request{Client: 1 + at, Num: 1, Op: put("k", fmt.Sprint(at))}, api.OK)
			s = answers(t, "a get", s, api.Request{Client: 1 + at, Num: 1 << 40, Op: api.Op{Kind: api.OpGet, Key: "k"}}, api.OK, fmt.Sprint(at))
		}
		if len(s.Replies) != 64 || !inOrder(s) {
			t.Fatalf("%s", told(s))
		}
		for i, a := range s.Replies {
			if !sameReply(a, api.Reply{Client: 1 + i, Num: 1 << 40, Vals: []string{fmt.Sprint(i)}}) {
				t.Fatalf("%s at %d", toldReply(a), i)
			}
		}
	}
}

// cannot: requests that can't be, of one thing each that is off.
func cannot() []api.Request {
	var all []api.Request
	good := api.Request{Client: 1, Num: 5, Op: put("a", "x")}
	for _, n := range odd() {
		client, num, kind := good, good, good
		client.Client, num.Num, kind.Op.Kind = n, n, n
		all = append(all, client, num, kind)
	}
	for _, n := range []int{1024, 1025, 1 << 16} {
		for kind := api.OpGet; kind <= api.OpChange; kind++ {
			key, val, old := good, good, good
			key.Op, val.Op, old.Op = api.Op{Kind: kind, Key: long(n)}, api.Op{Kind: kind, Key: "a", Val: long(n)}, api.Op{Kind: kind, Key: "a", Old: long(n)}
			all = append(all, key, val, old)
		}
	}
	return slices.DeleteFunc(append(all, api.Request{}), modelGood)
}

// TestP10_1RequestsThatCannotBe are ErrArg, whatever the client's last one was, and nothing comes of them.
func TestP10_1RequestsThatCannotBe(t *testing.T) {
	if n := len(cannot()); n < 60 {
		t.Errorf("only %d requests that can't be", n)
	}
	for _, num := range []int{0, 4, 5, 6} {
		s := pairsOf("a", "1")
		if num > 0 {
			s.Replies = []api.Reply{{Client: 1, Num: num, Code: api.ErrMany, Vals: []string{"one"}}, {Client: 64, Num: 1}}
		}
		for _, q := range cannot() {
			stays(t, "one that can't be", s, q, api.Reply{Client: q.Client, Num: q.Num, Code: api.ErrArg})
		}
	}
}

// TestP10_1LimitsOfRequests: those at the limits are executed.
func TestP10_1LimitsOfRequests(t *testing.T) {
	for _, q := range []api.Request{
		{Client: 1, Num: 1, Op: api.Op{Kind: api.OpPut, Key: long(1024), Val: long(1024), Old: long(1024)}},
		{Client: 64, Num: 1 << 40, Op: put("", "")},
	} {
		s := answers(t, "at the limits", pairsOf("a", "1"), q, api.OK)
		if v, is := state.Get(s, q.Op.Key); !is || v != q.Op.Val {
			t.Errorf("%s isn't executed", toldRequest(q))
		}
	}
}

// TestP10_1All: all replies, in order, and the state behind all of them, as if they were executed one by one.
func TestP10_1All(t *testing.T) {
	list := []api.Request{asked(1, put("a", "1")), asked(2, api.Op{Kind: api.OpGet, Key: "a"}), asked(2, put("a", "2")), asked(1, put("a", "3")), asked(3, api.Op{Kind: 8}), {Client: 2, Num: 1, Op: api.Op{Kind: api.OpList}}, asked(3, api.Op{Kind: api.OpDelete, Key: "b"}), asked(4, api.Op{Kind: api.OpChange, Change: api.Change{Kind: api.ChangeRemove, Id: 2}}), asked(5, api.Op{Kind: api.OpConfig})}
	wanted := []api.Reply{{Client: 1, Num: 1}, {Client: 1, Num: 2, Vals: []string{"1"}}, {Client: 1, Num: 2, Vals: []string{"1"}}, {Client: 1, Num: 1, Code: api.ErrOld}, {Client: 1, Num: 3, Code: api.ErrArg}, {Client: 2, Num: 1, Vals: []string{"a"}}, {Client: 1, Num: 3, Code: api.ErrNone}, {Client: 1, Num: 4}, {Client: 1, Num: 5, Vals: []string{"4", "1", "5"}}}
	s, replies := state.All(pairsOf(), list...)
	if !slices.EqualFunc(replies, wanted, sameReply) {
		t.Errorf("%v, not %v", replies, wanted)
	}
	holds(t, "behind all", s, of(4, 1, 5), 2, "a", "1")
	rnd := rand.New(rand.NewSource(2))
	for range 300 {
		s := someState(rnd)
		var list []api.Request
		var one []api.Reply
		behind := s
		for range rnd.Intn(20) {
			q := someRequest(rnd, 6)
			var a api.Reply
			behind, a = state.Apply(behind, q)
			list, one = append(list, q), append(one, a)
		}
		if got, replies := state.All(s, list...); !same(got, behind) || !slices.EqualFunc(replies, one, sameReply) {
			t.Fatalf("%s: all at once %s, one by one %s", told(s), told(got), told(behind))
		}
	}
}

func TestP10_1AllOfNone(t *testing.T) {
	full := pairsOf("a", "1", "b", "2")
	full.Replies = []api.Reply{{Client: 3, Num: 7, Code: api.ErrNone}, {Client: 9, Num: 1, Vals: []string{"x", ""}}}
	for _, s := range []api.State{{}, pairsOf(), full, many(256)} {
		for _, list := range [][]api.Request{nil, {}} {
			if got, replies := state.All(s, list...); !same(got, s) || len(replies) != 0 {
				t.Errorf("%s became %s, with %d replies", told(s), told(got), len(replies))
			}
		}
		if got, replies := state.All(s); !same(got, s) || len(replies) != 0 {
			t.Errorf("%s became %s, with %d replies", told(s), told(got), len(replies))
		}
	}
}

// TestP10_1Any: long runs of any requests upon any states, as the model's log tells.
func TestP10_1Any(t *testing.T) {
	rnd := rand.New(rand.NewSource(3))
	codes, kinds := map[api.Errno]int{}, map[int]int{}
	for range 150 {
		s := someState(rnd)
		m := &model{first: deep(s)}
		for range 100 {
			q := someRequest(rnd, 8)
			behind, a := state.Apply(s, q)
			wanted := m.ask(q)
			if !sameReply(a, wanted) || !same(behind, m.state()) {
				t.Fatalf("%s upon %s: %s and %s, not %s and %s", toldRequest(q), told(s), toldReply(a), told(behind), toldReply(wanted), told(m.state()))
			}
			s = behind
			codes[a.Code]++
			kinds[q.Op.Kind]++
		}
		for client := -1; client <= 66; client++ {
			wanted, is := m.last(client)
			if a, has := state.Last(s, client); has != is || !sameReply(a, wanted) {
				t.Fatalf("client %d: %s, %t", client, toldReply(a), has)
			}
		}
	}
	for _, e := range []api.Errno{api.OK, api.ErrArg, api.ErrNone, api.ErrOld, api.ErrOther} {
		if codes[e] < 100 {
			t.Errorf("the code %d came %d times", e, codes[e])
		}
	}
	for kind := api.OpGet; kind <= api.OpChange; kind++ {
		if kinds[kind] < 1000 {
			t.Errorf("the kind %d came %d times", kind, kinds[kind])
		}
	}
}

// TestP10_1OutOfOrder: of states in which pairs or replies don't stand in order nothing is promised, but that the calls end.
func TestP10_1OutOfOrder(t *testing.T) {
	rnd := rand.New(rand.NewSource(4))
	for range 2000 {
		s := someState(rnd)
		s.Pairs = append(s.Pairs, someState(rnd).Pairs...)
		s.Replies = append(s.Replies, someState(rnd).Replies...)
		rnd.Shuffle(len(s.Pairs), func(i, k int) { s.Pairs[i], s.Pairs[k] = s.Pairs[k], s.Pairs[i] })
		rnd.Shuffle(len(s.Replies), func(i, k int) { s.Replies[i], s.Replies[k] = s.Replies[k], s.Replies[i] })
		var list []api.Request
		for range 20 {
			q := someRequest(rnd, 64)
			state.Apply(s, q)
			state.Get(s, q.Op.Key)
			state.Last(s, q.Client)
			list = append(list, q)
		}
		state.All(s, list...)
	}
}

// TestP10_2Again: a request that comes again, behind many others, is answered as before, and changes nothing.
func TestP10_2Again(t *testing.T) {
	for _, op := range []api.Op{put("k", "mine"), {Kind: api.OpGet, Key: "a"}, {Kind: api.OpGet, Key: "none"}, {Kind: api.OpDelete, Key: "a"}, {Kind: api.OpSwap, Key: "a", Old: "1", Val: "2"}, {Kind: api.OpSwap, Key: "a", Old: "3", Val: "2"}, {Kind: api.OpList}, {Kind: api.OpConfig}, {Kind: api.OpChange, Change: api.Change{Kind: api.ChangeAdd, Id: 9}}, {Kind: api.OpChange, Change: api.Change{Kind: api.ChangeRemove, Id: 2}}, {Kind: api.OpChange}} {
		q := api.Request{Client: 30, Num: 17, Op: op}
		s, first := state.Apply(pairsOf("a", "1", "b", "2"), q)
		stays(t, "at once", s, q, first)
		for i := range 64 {
			if client := 1 + i; client != 30 {
				s, _ = state.All(s, api.Request{Client: client, Num: 17, Op: put("a", fmt.Sprint(i))}, api.Request{Client: client, Num: 18, Op: api.Op{Kind: api.OpDelete, Key: "b"}}, api.Request{Client: client, Num: 19, Op: api.Op{Kind: api.OpChange, Change: api.Change{Kind: api.ChangeRotate, Id: 1}}})
			}
			stays(t, "behind others", s, q, first)
		}
		for _, other := range []api.Op{put("k", "other"), {Kind: api.OpDelete, Key: "a"}, {Kind: api.OpChange, Change: api.Change{Kind: api.ChangeRemove, Id: 5}}} {
			stays(t, "with another operation", s, api.Request{Client: 30, Num: 17, Op: other}, first)
		}
	}
}

// TestP10_2Next: until its client's next one, be that one's number greater by one or by many; then it is ErrOld, as all smaller ones are.
func TestP10_2Next(t *testing.T) {
	for _, next := range []int{18, 19, 1 << 20, 1<<32 + 17, 1 << 40} {
		s, first := state.Apply(pairsOf("a", "1"), api.Request{Client: 30, Num: 17, Op: api.Op{Kind: api.OpGet, Key: "a"}})
		s, _ = state.Apply(s, api.Request{Client: 31, Num: next, Op: put("a", "31")})
		stays(t, "ahead of the next", s, api.Request{Client: 30, Num: 17, Op: api.Op{Kind: api.OpGet, Key: "a"}}, first)
		s = answers(t, "the next", s, api.Request{Client: 30, Num: next, Op: api.Op{Kind: api.OpSwap, Key: "a", Old: "no", Val: "30"}}, api.ErrOther, "31")
		for _, num := range []int{1, 2, 16, 17, next - 1} {
			for _, op := range []api.Op{{Kind: api.OpGet, Key: "a"}, put("a", "old"), {Kind: api.OpChange, Change: api.Change{Kind: api.ChangeRemove, Id: 1}}} {
				stays(t, "an old one", s, api.Request{Client: 30, Num: num, Op: op}, api.Reply{Client: 30, Num: num, Code: api.ErrOld})
			}
		}
		stays(t, "the next again", s, api.Request{Client: 30, Num: next, Op: put("a", "again")}, api.Reply{Client: 30, Num: next, Code: api.ErrOther, Vals: []string{"31"}})
		stays(t, "one that can't be", s, api.Request{Client: 30, Num: next + 1, Op: api.Op{Kind: 8}}, api.Reply{Client: 30, Num: next + 1, Code: api.ErrArg})
		stays(t, "the next once more", s, api.Request{Client: 30, Num: next}, api.Reply{Client: 30, Num: next, Code: api.ErrArg})
	}
}

// TestP10_2RefusedAgain: one whose operation had an error isn't done either, when it comes again and could be done.
func TestP10_2RefusedAgain(t *testing.T) {
	swap := api.Request{Client: 1, Num: 1, Op: api.Op{Kind: api.OpSwap, Key: "a", Old: "1", Val: "2"}}
	s := answers(t, "a swap of none", pairsOf(), swap, api.ErrNone)
	s = answers(t, "a put", s, api.Request{Client: 2, Num: 1, Op: put("a", "1")}, api.OK)
	stays(t, "the swap again", s, swap, api.Reply{Client: 1, Num: 1, Code: api.ErrNone})
	change := api.Request{Client: 3, Num: 1, Op: api.Op{Kind: api.OpChange, Change: api.Change{Kind: api.ChangeRemove, Id: 4}}}
	s = answers(t, "a change of none", s, change, api.ErrNone)
	s = answers(t, "it comes", s, api.Request{Client: 2, Num: 2, Op: api.Op{Kind: api.OpChange, Change: api.Change{Kind: api.ChangeAdd, Id: 4}}}, api.OK)
	stays(t, "the change again", s, change, api.Reply{Client: 3, Num: 1, Code: api.ErrNone})
}

// TestP10_2ManyAgain: a log into which requests are strewn that were there already makes the same registry, and the same replies.
func TestP10_2ManyAgain(t *testing.T) {
	rnd := rand.New(rand.NewSource(5))
	for range 100 {
		first, nums := state.New(of(1, 1, 2, 3, 4)), map[int]int{}
		var once, strewn []api.Request
		for range 100 {
			q := someRise(rnd, nums)
			once, strewn = append(once, q), append(strewn, q)
			for range rnd.Intn(3) {
				again := once[rnd.Intn(len(once))]
				again.Op.Kind = 1 + rnd.Intn(7)
				strewn = append(strewn, again)
			}
		}
		wanted, replies := state.All(first, once...)
		got, more := state.All(first, strewn...)
		if !same(got, wanted) {
			t.Fatalf("%s, not %s", told(got), told(wanted))
		}
		byNum, latest := map[[2]int]api.Reply{}, map[int]int{}
		for _, a := range replies {
			byNum[[2]int{a.Client, a.Num}] = a
		}
		for i, q := range strewn {
			latest[q.Client] = max(latest[q.Client], q.Num)
			expected := byNum[[2]int{q.Client, q.Num}]
			if latest[q.Client] > q.Num {
				expected = api.Reply{Client: q.Client, Num: q.Num, Code: api.ErrOld}
			}
			if !sameReply(more[i], expected) {
				t.Fatalf("%s: %s, not %s", toldRequest(q), toldReply(more[i]), toldReply(expected))
			}
		}
	}
}

// TestP10_3InOrder: behind any request upon a state in order, pairs and replies rise, each once, and are no more than they may be.
func TestP10_3InOrder(t *testing.T) {
	rnd := rand.New(rand.NewSource(6))
	for range 3000 {
		s := someState(rnd)
		if !inOrder(s) {
			t.Fatal("a state in order is wanted")
		}
		var list []api.Request
		for range 10 {
			q := someRequest(rnd, 64)
			if behind, _ := state.Apply(s, q); !inOrder(behind) {
				t.Fatalf("%s upon %s: %s", toldRequest(q), told(s), told(behind))
			}
			list = append(list, q)
		}
		if behind, _ := state.All(s, list...); !inOrder(behind) {
			t.Fatalf("all upon %s: %s", told(s), told(behind))
		}
	}
}

// TestP10_3ManyKeys: keys put in any order rise, up to the most there may be, and come out again.
func TestP10_3ManyKeys(t *testing.T) {
	rnd := rand.New(rand.NewSource(7))
	s, nums := state.New(of(0, 1)), 0
	wanted := map[string]string{}
	for range 3000 {
		nums++
		key, val := fmt.Sprint(rnd.Intn(400)), fmt.Sprint(nums)
		op := put(key, val)
		if rnd.Intn(4) == 0 {
			op = api.Op{Kind: api.OpDelete, Key: key}
		}
		behind, a := state.Apply(s, asked(nums, op))
		_, is := wanted[key]
		switch {
		case op.Kind == api.OpDelete && is:
			delete(wanted, key)
		case op.Kind == api.OpDelete:
			is = a.Code == api.ErrNone
		case is || len(wanted) < 256:
			wanted[key], is = val, true
		default:
			is = a.Code == api.ErrMany
		}
		if !is || len(behind.Pairs) != len(wanted) || !inOrder(behind) {
			t.Fatalf("%s: code %d, %d pairs, not %d", toldRequest(asked(nums, op)), a.Code, len(behind.Pairs), len(wanted))
		}
		s = behind
	}
	for key, val := range wanted {
		if v, is := state.Get(s, key); !is || v != val {
			t.Errorf("%s has %q, %t, not %s", key, v, is, val)
		}
	}
	if len(wanted) < 200 {
		t.Errorf("only %d keys", len(wanted))
	}
}

// TestP10_3LastPut: a key's value is what was put last, by whomever, in the state and in replies.
func TestP10_3LastPut(t *testing.T) {
	rnd := rand.New(rand.NewSource(8))
	for range 100 {
		s, nums, last := state.New(of(0, 1)), map[int]int{}, map[string]string{}
		for i := range 100 {
			q := someRise(rnd, nums)
			q.Op = put(someKey(rnd), fmt.Sprint(i))
			s, _ = state.Apply(s, q)
			last[q.Op.Key] = q.Op.Val
			for key, val := range last {
				if v, is := state.Get(s, key); !is || v != val {
					t.Fatalf("%q has %q, %t, not %q", key, v, is, val)
				}
			}
			get := someRise(rnd, nums)
			get.Op = api.Op{Kind: api.OpGet, Key: q.Op.Key}
			s = answers(t, "a get", s, get, api.OK, q.Op.Val)
		}
	}
}

// roomy: a state all of whose lists have room to spare, in which something stands.
func roomy(s api.State) api.State {
	s = deep(s)
	s.Pairs = append(s.Pairs, api.Pair{Key: "spare", Val: "pair"}, api.Pair{Key: "spare", Val: "pair"})[:len(s.Pairs)]
	s.Config.Members = append(s.Config.Members, of(0, 99, 98).Members...)[:len(s.Config.Members)]
	for i, a := range s.Replies {
		s.Replies[i].Vals = append(a.Vals, "spare", "val")[:len(a.Vals)]
	}
	s.Replies = append(s.Replies, api.Reply{Client: 77, Vals: []string{"spare"}}, api.Reply{Client: 78})[:len(s.Replies)]
	return s
}

// whole: a state with all its room to spare.
func whole(s api.State) api.State {
	s.Pairs = s.Pairs[:cap(s.Pairs)]
	s.Replies = slices.Clone(s.Replies[:cap(s.Replies)])
	for i, a := range s.Replies {
		s.Replies[i].Vals = a.Vals[:cap(a.Vals)]
	}
	s.Config.Members = s.Config.Members[:cap(s.Config.Members)]
	return deep(s)
}

// scrawl writes over all of a state's lists, spare room included.
func scrawl(s api.State) {
	for i := range s.Pairs[:cap(s.Pairs)] {
		s.Pairs[:cap(s.Pairs)][i] = api.Pair{Key: "scrawl", Val: "scrawl"}
	}
	for i := range s.Config.Members[:cap(s.Config.Members)] {
		s.Config.Members[:cap(s.Config.Members)][i] = api.Member{Id: -8, Key: api.Key{Root: ones(), Height: -8}}
	}
	for i, a := range s.Replies[:cap(s.Replies)] {
		scrawlReply(a)
		s.Replies[:cap(s.Replies)][i] = api.Reply{Client: -8, Num: -8, Code: -8}
	}
}

func scrawlReply(a api.Reply) {
	for i := range a.Vals[:cap(a.Vals)] {
		a.Vals[:cap(a.Vals)][i] = "scrawl"
	}
}

// someList: requests upon a state, some of which are its clients' last ones again.
func someList(rnd *rand.Rand, s api.State) []api.Request {
	var list []api.Request
	for range 1 + rnd.Intn(12) {
		q := someRequest(rnd, 64)
		if n := len(s.Replies); n > 0 && rnd.Intn(3) == 0 {
			a := s.Replies[rnd.Intn(n)]
			q.Client, q.Num = a.Client, a.Num
		}
		list = append(list, q)
		if rnd.Intn(4) == 0 {
			list = append(list, q, q)
		}
	}
	return list
}

// TestP10_4NothingIsChanged: by any call, in the room to spare either.
func TestP10_4NothingIsChanged(t *testing.T) {
	rnd := rand.New(rand.NewSource(9))
	for range 2000 {
		s := roomy(someState(rnd))
		list := someList(rnd, s)
		before, requests := whole(s), slices.Clone(list)
		for _, q := range list {
			state.Apply(s, q)
			state.Get(s, q.Op.Key)
			state.Last(s, q.Client)
		}
		state.All(s, list...)
		state.All(s)
		state.New(s.Config)
		if !same(whole(s), before) || !slices.Equal(list, requests) {
			t.Fatalf("%s became %s", told(before), told(whole(s)))
		}
	}
}

// TestP10_4AnswersAreNew: what is written into an answer is seen in no other one, and not in what was handed in; what is written into that isn't seen in an answer.
func TestP10_4AnswersAreNew(t *testing.T) {
	rnd := rand.New(rand.NewSource(10))
	for range 2000 {
		s := roomy(someState(rnd))
		before := whole(s)
		for _, q := range someList(rnd, s) {
			first, a := state.Apply(s, q)
			second, b := state.Apply(s, q)
			wanted, reply := deep(first), deepReply(a)
			scrawl(second)
			scrawlReply(b)
			if !same(whole(s), before) || !same(first, wanted) || !sameReply(a, reply) {
				t.Fatalf("%s: answers share memory, or one with the state", toldRequest(q))
			}
			scrawlReply(a)
			if !same(first, wanted) {
				t.Fatalf("%s: a reply shares memory with the state behind it", toldRequest(q))
			}
			_, a = state.Apply(s, q)
			scrawl(first)
			if !sameReply(a, reply) {
				t.Fatalf("%s: a state shares memory with a reply", toldRequest(q))
			}
		}
	}
}

// TestP10_4StatesAreNew: a state is not kept, be a request executed upon it or not.
func TestP10_4StatesAreNew(t *testing.T) {
	rnd := rand.New(rand.NewSource(11))
	for range 2000 {
		s := roomy(someState(rnd))
		list := someList(rnd, s)
		one, a := state.Apply(s, list[0])
		all, replies := state.All(s, list...)
		none, _ := state.All(s)
		wanted := []api.State{deep(one), deep(all), deep(none)}
		reply := deepReply(a)
		var texts []api.Reply
		for _, a := range replies {
			texts = append(texts, deepReply(a))
		}
		scrawl(s)
		clear(list)
		if !same(one, wanted[0]) || !same(all, wanted[1]) || !same(none, wanted[2]) || !sameReply(a, reply) || !slices.EqualFunc(replies, texts, sameReply) {
			t.Fatal("what is written behind a call is seen")
		}
	}
}

// TestP10_4RepliesAreNew: of All no two replies share memory, nor one with the state, though a request came thrice.
func TestP10_4RepliesAreNew(t *testing.T) {
	rnd := rand.New(rand.NewSource(12))
	for range 2000 {
		s := roomy(someState(rnd))
		list := someList(rnd, s)
		behind, replies := state.All(s, list...)
		wanted := deep(behind)
		var texts []api.Reply
		for _, a := range replies {
			texts = append(texts, deepReply(a))
		}
		for i, a := range replies {
			scrawlReply(a)
			for k := i + 1; k < len(replies); k++ {
				if !sameReply(replies[k], texts[k]) {
					t.Fatalf("replies %d and %d share memory", i, k)
				}
			}
		}
		if !same(behind, wanted) {
			t.Fatal("a reply shares memory with the state")
		}
	}
}

// TestP10_4ListsAreNew: within a state that is answered no two replies share memory, though those handed in do.
func TestP10_4ListsAreNew(t *testing.T) {
	vals := []string{"one", "two", "three"}
	s := pairsOf("a", "1")
	s.Replies = []api.Reply{{Client: 1, Num: 1, Vals: vals}, {Client: 2, Num: 1, Vals: vals[:2]}, {Client: 3, Num: 1, Vals: vals[1:]}}
	one, _ := state.Apply(s, api.Request{Client: 4, Num: 1, Op: api.Op{Kind: api.OpGet, Key: "a"}})
	all, _ := state.All(s)
	for _, behind := range []api.State{one, all} {
		scrawlReply(behind.Replies[1])
		for i, wanted := range map[int][]string{0: {"one", "two", "three"}, 2: {"two", "three"}} {
			if !slices.Equal(behind.Replies[i].Vals, wanted) || !slices.Equal(vals, []string{"one", "two", "three"}) {
				t.Errorf("%s: replies share memory", toldReply(behind.Replies[i]))
			}
		}
	}
}

func TestP10_4NewIsNew(t *testing.T) {
	all := of(5, 1, 2, 5, 9)
	c := api.Config{Epoch: 5, Members: all.Members[:2]}
	first, second := state.New(c), state.New(c)
	scrawl(second)
	if !sameConfig(first.Config, of(5, 1, 2)) || !sameConfig(all, of(5, 1, 2, 5, 9)) {
		t.Error("answers share memory, or one with the configuration")
	}
	clear(all.Members)
	if !sameConfig(first.Config, of(5, 1, 2)) {
		t.Error("a configuration is kept")
	}
}

func TestP10_4LastIsNew(t *testing.T) {
	rnd := rand.New(rand.NewSource(13))
	for range 500 {
		s := roomy(someState(rnd))
		before := whole(s)
		for _, wanted := range deep(s).Replies {
			first, _ := state.Last(s, wanted.Client)
			second, _ := state.Last(s, wanted.Client)
			scrawlReply(second)
			if !sameReply(first, wanted) || !same(whole(s), before) {
				t.Fatalf("client %d: answers share memory, or one with the state", wanted.Client)
			}
			for _, a := range s.Replies {
				if a.Client == wanted.Client {
					scrawlReply(a)
				}
			}
			if !sameReply(first, wanted) {
				t.Fatalf("client %d: what is written behind the call is seen", wanted.Client)
			}
			before = whole(s)
		}
	}
}
