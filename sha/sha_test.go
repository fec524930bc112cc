package sha_test

import (
	"bytes"
	"crypto/sha256"
	"encoding/hex"
	"math/rand"
	"slices"
	"strings"
	"sync"
	"testing"

	"wapentake/api"
	"wapentake/sha"
)

func someBytes(rnd *rand.Rand, n int) []byte {
	b := make([]byte, n)
	rnd.Read(b)
	return b
}

// cut: bytes in pieces of some sizes, empty ones among them.
func cut(rnd *rand.Rand, b []byte) [][]byte {
	var pieces [][]byte
	for len(b) > 0 {
		n := min(len(b), rnd.Intn(1<<rnd.Intn(9)))
		pieces = append(pieces, b[:n])
		b = b[n:]
	}
	return pieces
}

func expect(t *testing.T, what string, got api.Digest, wanted string) {
	t.Helper()
	if hex.EncodeToString(got[:]) != wanted {
		t.Errorf("%s: %x, not %s", what, got, wanted)
	}
}

// TestP2_1Published: digests that were published with the standard.
func TestP2_1Published(t *testing.T) {
	for _, c := range []struct{ text, wanted string }{
		{"", "e3b0c44298fc1c149afbf4c8996fb92427ae41e4649b934ca495991b7852b855"},
		{"abc", "ba7816bf8f01cfea414140de5dae2223b00361a396177a9cb410ff61f20015ad"},
		{"\xbd", "68325720aabd7c82f30f554b313d0570c95accbb7dc4b5aae11204c08ffe732b"},
		{"\xc9\x8c\x8e\x55", "7abc22c0ae5af26ce93dbb94433a0e0b2e119d014f8e7f65bd56c61ccccd9504"},
		{"abcdbcdecdefdefgefghfghighijhijkijkljklmklmnlmnomnopnopq", "248d6a61d20638b8e5c026930c3e6039a33ce45964ff2167f6ecedd419db06c1"},
		{"abcdefghbcdefghicdefghijdefghijkefghijklfghijklmghijklmnhijklmnoijklmnopjklmnopqklmnopqrlmnopqrsmnopqrstnopqrstu", "cf5b16a778af8380036ce59e7b0492370b249b11e8f07a51afac45037afee9d1"},
		{strings.Repeat("\x00", 55), "02779466cdec163811d078815c633f21901413081449002f24aa3e80f0b88ef7"},
		{strings.Repeat("\x00", 56), "d4817aa5497628e7c77e6b606107042bbba3130888c5f47a375e6179be789fbb"},
		{strings.Repeat("\x00", 57), "65a16cb7861335d5ace3c60718b5052e44660726da4cd13bb745381b235a1785"},
		{strings.Repeat("\x00", 64), "f5a5fd42d16a20302798ef6ed309979b43003d2320d9f0e8ea9831a92759fb4b"},
		{strings.Repeat("a", 1000000), "cdc76e5c9914fb9281a1c7e284d73e67f1809a48a497200e046d39ccc7112cd0"},
	} {
		expect(t, "a text of the standard", sha.Of([]byte(c.text)), c.wanted)
	}
}

// TestP2_1Sizes: how a last block is filled up hangs on how many bytes there are.
func TestP2_1Sizes(t *testing.T) {
	rnd := rand.New(rand.NewSource(1))
	for n := range 1200 {
		for _, b := range [][]byte{make([]byte, n), bytes.Repeat([]byte{0xff}, n), someBytes(rnd, n)} {
			if got, wanted := sha.Of(b), api.Digest(sha256.Sum256(b)); got != wanted {
				t.Fatalf("%d bytes: %x, not %x", n, got, wanted)
			}
		}
	}
	for _, n := range []int{8191, 8192, 8193, 65535, 65536, 1 << 20, 3<<20 + 5} {
		b := someBytes(rnd, n)
		if got, wanted := sha.Of(b), api.Digest(sha256.Sum256(b)); got != wanted {
			t.Errorf("%d bytes: %x, not %x", n, got, wanted)
		}
	}
}

// TestP2_1ManyBits: so many bits that their number has more than 32 of them.
func TestP2_1ManyBits(t *testing.T) {
	piece := make([]byte, 1<<20)
	pieces := slices.Repeat([][]byte{piece}, 1<<9)
	pieces = append(pieces, []byte{1, 2, 3})
	other := sha256.New()
	for _, p := range pieces {
		other.Write(p)
	}
	expect(t, "2^29 + 3 bytes", sha.Of(pieces...), hex.EncodeToString(other.Sum(nil)))
}

// TestP2_1EachBit: every bit of a block has its say.
func TestP2_1EachBit(t *testing.T) {
	for n := range 8 * 130 {
		b := make([]byte, 130)
		b[n/8] = 1 << (n % 8)
		if got, wanted := sha.Of(b), api.Digest(sha256.Sum256(b)); got != wanted {
			t.Fatalf("bit %d: %x, not %x", n, got, wanted)
		}
	}
}

// TestP2_1TwoPieces: wherever bytes are cut, their digest is that of the whole.
func TestP2_1TwoPieces(t *testing.T) {
	b := someBytes(rand.New(rand.NewSource(2)), 200)
	for _, n := range []int{1, 55, 56, 63, 64, 65, 119, 120, 127, 128, 129, 200} {
		wanted := api.Digest(sha256.Sum256(b[:n]))
		for at := range n + 1 {
			if sha.Of(b[:at], b[at:n]) != wanted || sha.Of(b[:at], nil, b[at:n], []byte{}) != wanted {
				t.Errorf("%d bytes, cut at %d", n, at)
			}
		}
	}
}

func TestP2_1AnyPieces(t *testing.T) {
	rnd := rand.New(rand.NewSource(3))
	for range 3000 {
		b := someBytes(rnd, rnd.Intn(600))
		pieces := cut(rnd, b)
		if got, wanted := sha.Of(pieces...), api.Digest(sha256.Sum256(b)); got != wanted {
			t.Fatalf("%d bytes in %d pieces: %x, not %x", len(b), len(pieces), got, wanted)
		}
	}
}

func TestP2_1SinglesAndRepeats(t *testing.T) {
	b := someBytes(rand.New(rand.NewSource(4)), 300)
	var singles [][]byte
	for i := range b {
		singles = append(singles, b[i:i+1])
	}
	if sha.Of(singles...) != sha256.Sum256(b) {
		t.Error("bytes one by one")
	}
	if sha.Of(b, b[:100], b) != sha256.Sum256(slices.Concat(b, b[:100], b)) {
		t.Error("a piece that comes again")
	}
}

func TestP2_1NoBytes(t *testing.T) {
	wanted := api.Digest(sha256.Sum256(nil))
	var none [][]byte
	for i, got := range []api.Digest{sha.Of(), sha.Of(nil), sha.Of([]byte{}), sha.Of(nil, []byte{}, nil), sha.Of(none...), sha.Of([][]byte{}...)} {
		if got != wanted {
			t.Errorf("no bytes, way %d: %x", i, got)
		}
	}
}

func TestP2_1Order(t *testing.T) {
	a, b := []byte("a"), []byte("b")
	if sha.Of(a, b) != sha256.Sum256([]byte("ab")) || sha.Of(b, a) != sha256.Sum256([]byte("ba")) {
		t.Error("pieces aren't taken in order")
	}
}

func TestP2_1Pair(t *testing.T) {
	rnd := rand.New(rand.NewSource(5))
	for mark := range 256 {
		a, b := api.Digest(someBytes(rnd, 32)), api.Digest(someBytes(rnd, 32))
		for _, c := range [][2]api.Digest{{a, b}, {b, a}, {a, a}, {a, {}}, {{}, a}, {}} {
			whole := slices.Concat([]byte{byte(mark)}, c[0][:], c[1][:])
			if got, wanted := sha.Pair(byte(mark), c[0], c[1]), api.Digest(sha256.Sum256(whole)); got != wanted {
				t.Fatalf("mark %d, %x, %x: %x, not %x", mark, c[0], c[1], got, wanted)
			}
		}
	}
}

func TestP2_1PairOfNoughts(t *testing.T) {
	// 65 bytes 00, so that the last block holds one of them.
	expect(t, "noughts", sha.Pair(0, api.Digest{}, api.Digest{}), "98ce42deef51d40269d542f5314bef2c7468d401ad5d85168bfab4c0108f75f7")
}

// TestP2_1NothingIsKeptBetweenCalls: an answer hangs on no other call, ahead of it or at its side.
func TestP2_1NothingIsKeptBetweenCalls(t *testing.T) {
	var side sync.WaitGroup
	for n := range 8 {
		side.Go(func() {
			rnd := rand.New(rand.NewSource(int64(n)))
			for range 300 {
				b := someBytes(rnd, rnd.Intn(300))
				wanted := api.Digest(sha256.Sum256(b))
				if sha.Of(cut(rnd, b)...) != wanted || sha.Of(b) != wanted {
					t.Errorf("%d bytes beside other calls", len(b))
				}
			}
		})
	}
	side.Wait()
}

// roomy: bytes with room to spare, and the whole memory behind them, filled.
func roomy(rnd *rand.Rand, n int) (piece, whole []byte) {
	whole = someBytes(rnd, n+200)
	return whole[:n], whole
}

func TestP2_2PiecesAreUnchanged(t *testing.T) {
	rnd := rand.New(rand.NewSource(6))
	for n := range 140 {
		piece, whole := roomy(rnd, n)
		before := bytes.Clone(whole)
		list := append(make([][]byte, 0, 8), piece, nil, piece[:n/2])
		spare := list[:cap(list)]
		for i := len(list); i < len(spare); i++ {
			spare[i] = piece
		}
		sha.Of(piece)
		sha.Of(list...)
		if !bytes.Equal(whole, before) {
			t.Fatalf("%d bytes are changed, or the room behind them", n)
		}
		for i, p := range spare {
			size := n
			switch i {
			case 1:
				size = 0
			case 2:
				size = n / 2
			}
			if len(p) != size || i == 1 && p != nil || size > 0 && &p[0] != &piece[0] {
				t.Fatalf("the list of pieces is changed at %d", i)
			}
		}
	}
}

func TestP2_2PiecesAreNotKept(t *testing.T) {
	rnd := rand.New(rand.NewSource(7))
	for _, n := range []int{1, 3, 55, 56, 63, 64, 65, 130} {
		piece, whole := roomy(rnd, n)
		wanted := api.Digest(sha256.Sum256(piece))
		first := sha.Of(piece)
		for i := range whole {
			whole[i] ^= 0xa5
		}
		changed := api.Digest(sha256.Sum256(piece))
		second := sha.Of(piece)
		if first != wanted || second != changed {
			t.Errorf("%d bytes: what was handed in is kept", n)
		}
	}
}

func TestP2_2PairKeepsNothing(t *testing.T) {
	a, b := api.Digest{1}, api.Digest{2}
	first := sha.Pair(3, a, b)
	if a != (api.Digest{1}) || b != (api.Digest{2}) {
		t.Error("digests are changed")
	}
	a[31], b[31] = 4, 5
	other := sha.Pair(3, a, b)
	if first == other || first != sha.Pair(3, api.Digest{1}, api.Digest{2}) {
		t.Error("digests are kept")
	}
}
