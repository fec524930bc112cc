package keys_test

import (
	"crypto/sha256"
	"encoding/binary"
	"fmt"
	"math"
	"math/rand"
	"slices"

	"wapentake/api"
)

// The model tells the document's key trees another way: a tree is cut into two halves from above, a path is gone up by a number's bits as a text, and Go's own SHA-256 makes the digests.

func modelSecret(seed api.Digest, leaf, number int) api.Digest {
	b := append([]byte{2}, seed[:]...)
	b = binary.BigEndian.AppendUint64(b, uint64(leaf))
	b = binary.BigEndian.AppendUint64(b, uint64(number))
	return sha256.Sum256(b)
}

func modelPublic(seed api.Digest, leaf int) api.Digest {
	var b []byte
	for number := range 64 {
		secret := modelSecret(seed, leaf, number)
		d := sha256.Sum256(secret[:])
		b = append(b, d[:]...)
	}
	return sha256.Sum256(b)
}

func modelLeaf(public api.Digest) api.Digest {
	return sha256.Sum256(append([]byte{0}, public[:]...))
}

func modelPair(a, b api.Digest) api.Digest {
	return sha256.Sum256(slices.Concat([]byte{1}, a[:], b[:]))
}

// modelRoot: of the leaves from one on, of a tree so high.
func modelRoot(seed api.Digest, from, height int) api.Digest {
	if height == 0 {
		return modelLeaf(modelPublic(seed, from))
	}
	half := 1 << (height - 1)
	return modelPair(modelRoot(seed, from, height-1), modelRoot(seed, from+half, height-1))
}

// modelPath: from above it is the half in which the leaf isn't.
func modelPath(seed api.Digest, n, from, height int) []api.Digest {
	if height == 0 {
		return nil
	}
	half := 1 << (height - 1)
	if n < from+half {
		return append(modelPath(seed, n, from, height-1), modelRoot(seed, from+half, height-1))
	}
	return append(modelPath(seed, n, from+half, height-1), modelRoot(seed, from, height-1))
}

// modelBits: a digest's first 32 bits, as they are written down.
func modelBits(d api.Digest) string {
	return fmt.Sprintf("%032b", binary.BigEndian.Uint32(d[:4]))
}

func modelOnce(seed api.Digest, leaf int, d api.Digest) api.Once {
	var o api.Once
	for i, c := range modelBits(d) {
		is := int(c - '0')
		other := modelSecret(seed, leaf, 2*i+1-is)
		o.Open = append(o.Open, modelSecret(seed, leaf, 2*i+is))
		o.Shut = append(o.Shut, sha256.Sum256(other[:]))
	}
	return o
}

func modelSign(seed api.Digest, height, n int, d api.Digest) api.Sig {
	return api.Sig{Leaf: n, Once: modelOnce(seed, n, d), Path: modelPath(seed, n, 0, height)}
}

// modelOf: the public half of two lists of 32 digests each.
func modelOf(d api.Digest, o api.Once) api.Digest {
	rows := make([]byte, 64*32)
	for i, c := range modelBits(d) {
		opened := sha256.Sum256(o.Open[i][:])
		at := 2*i + int(c-'0')
		copy(rows[32*at:], opened[:])
		copy(rows[32*(at^1):], o.Shut[i][:])
	}
	return sha256.Sum256(rows)
}

// modelTop: where a leaf's digest ends, if it is the n-th one of a tree as high as the path is long.
func modelTop(leaf api.Digest, n int, path []api.Digest) api.Digest {
	sides := fmt.Sprintf("%064b", n)
	for i, other := range path {
		if sides[63-i] == '0' {
			leaf = modelPair(leaf, other)
		} else {
			leaf = modelPair(other, leaf)
		}
	}
	return leaf
}

// modelKey: the key under which lists of the right lengths are a signature of a digest.
func modelKey(d api.Digest, s api.Sig) api.Key {
	return api.Key{Root: modelTop(modelLeaf(modelOf(d, s.Once)), s.Leaf, s.Path), Height: len(s.Path)}
}

func modelWritten(s api.Sig) []byte {
	b := binary.BigEndian.AppendUint64(nil, uint64(s.Leaf))
	b = binary.BigEndian.AppendUint64(b, uint64(len(s.Path)))
	for _, d := range slices.Concat(s.Once.Open, s.Once.Shut, s.Path) {
		b = append(b, d[:]...)
	}
	return b
}

func someDigest(rnd *rand.Rand) api.Digest {
	var d api.Digest
	rnd.Read(d[:])
	return d
}

func someDigests(rnd *rand.Rand, n int) []api.Digest {
	list := make([]api.Digest, n)
	for i := range list {
		list[i] = someDigest(rnd)
	}
	return list
}

// someSig: lists of a signature's form, which no seed made.
func someSig(rnd *rand.Rand, leaf, height int) api.Sig {
	return api.Sig{Leaf: leaf, Once: api.Once{Open: someDigests(rnd, 32), Shut: someDigests(rnd, 32)}, Path: someDigests(rnd, height)}
}

// turned: a digest with one of its bits turned, the highest of each byte first.
func turned(d api.Digest, bit int) api.Digest {
	d[bit/8] ^= 0x80 >> (bit % 8)
	return d
}

// rising: the digest of the bytes 0, 1, 2 ..
func rising() api.Digest {
	var d api.Digest
	for i := range d {
		d[i] = byte(i)
	}
	return d
}

func ones() api.Digest {
	var d api.Digest
	for i := range d {
		d[i] = 0xff
	}
	return d
}

// odd: numbers that are no height of a tree, and no key's number in one.
func odd() []int {
	return []int{-1, -2, -3, -64, -1 << 32, math.MinInt, math.MinInt + 1, 1 << 31, 1 << 32, 1<<32 + 1, math.MaxInt, math.MaxInt - 1}
}
