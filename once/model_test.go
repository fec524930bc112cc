package once_test

import (
	"crypto/sha256"
	"encoding/binary"
	"fmt"
	"math/rand"

	"wapentake/api"
)

// The model tells the document's signatures another way: the signed bits are a text of '0' and '1', the secrets stand in a table by their numbers, and Go's own SHA-256 makes the digests.

func modelSecret(seed api.Digest, leaf, number int) api.Digest {
	b := append([]byte{2}, seed[:]...)
	b = binary.BigEndian.AppendUint64(b, uint64(leaf))
	b = binary.BigEndian.AppendUint64(b, uint64(number))
	return sha256.Sum256(b)
}

// modelSecrets: all 64, in order.
func modelSecrets(seed api.Digest, leaf int) []api.Digest {
	var list []api.Digest
	for number := range 64 {
		list = append(list, modelSecret(seed, leaf, number))
	}
	return list
}

func modelPublic(seed api.Digest, leaf int) api.Digest {
	var b []byte
	for _, s := range modelSecrets(seed, leaf) {
		d := sha256.Sum256(s[:])
		b = append(b, d[:]...)
	}
	return sha256.Sum256(b)
}

// modelBits: the first 32 bits, as they are written down.
func modelBits(d api.Digest) string {
	return fmt.Sprintf("%032b", binary.BigEndian.Uint32(d[:4]))
}

func modelSign(seed api.Digest, leaf int, d api.Digest) api.Once {
	var o api.Once
	secrets := modelSecrets(seed, leaf)
	for i, c := range modelBits(d) {
		open, other := secrets[2*i], secrets[2*i+1]
		if c == '1' {
			open, other = other, open
		}
		o.Open = append(o.Open, open)
		o.Shut = append(o.Shut, sha256.Sum256(other[:]))
	}
	return o
}

// modelOf: the public half of two lists of 32 digests each.
func modelOf(d api.Digest, o api.Once) api.Digest {
	rows := make([]byte, 64*32)
	for i, c := range modelBits(d) {
		opened := sha256.Sum256(o.Open[i][:])
		at := 2*i + int(c-'0')
		copy(rows[32*at:], opened[:])
		copy(rows[32*(at^1):], o.Shut[i][:])
	}
	return sha256.Sum256(rows)
}

func someDigest(rnd *rand.Rand) api.Digest {
	var d api.Digest
	rnd.Read(d[:])
	return d
}

func someDigests(rnd *rand.Rand, n int) []api.Digest {
	list := make([]api.Digest, n)
	for i := range list {
		list[i] = someDigest(rnd)
	}
	return list
}

// turned: a digest with one of its bits turned, the highest of each byte first.
func turned(d api.Digest, bit int) api.Digest {
	d[bit/8] ^= 0x80 >> (bit % 8)
	return d
}
