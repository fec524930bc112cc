package tree_test

import (
	"crypto/sha256"
	"math/rand"
	"slices"

	"wapentake/api"
	"wapentake/tree"
)

// The model tells the document's tree from above, as RFC 6962 does: of more than one leaf the left side has the greatest power of two that is fewer than all, and Go's own SHA-256 makes the digests.

func modelLeaf(b []byte) api.Digest { return sha256.Sum256(append([]byte{0}, b...)) }

func modelPair(a, b api.Digest) api.Digest {
	return sha256.Sum256(slices.Concat([]byte{1}, a[:], b[:]))
}

// leftSide: how many of count leaves, more than one, stand on the left side.
func leftSide(count int) int {
	left := 1
	for left < count-left {
		left *= 2
	}
	return left
}

func modelRoot(leaves []api.Digest) api.Digest {
	switch len(leaves) {
	case 0:
		return sha256.Sum256(nil)
	case 1:
		return leaves[0]
	}
	left := leftSide(len(leaves))
	return modelPair(modelRoot(leaves[:left]), modelRoot(leaves[left:]))
}

func modelPath(at int, leaves []api.Digest) []api.Digest {
	if len(leaves) == 1 {
		return nil
	}
	left := leftSide(len(leaves))
	if at < left {
		return append(modelPath(at, leaves[:left]), modelRoot(leaves[left:]))
	}
	return append(modelPath(at-left, leaves[left:]), modelRoot(leaves[:left]))
}

// modelTop: where a leaf at one of count places ends with a path; false: the path has more digests, or fewer.
func modelTop(leaf api.Digest, at, count int, path []api.Digest) (api.Digest, bool) {
	if count == 1 || len(path) == 0 {
		return leaf, count == 1 && len(path) == 0
	}
	left, top, rest := leftSide(count), path[len(path)-1], path[:len(path)-1]
	if at < left {
		own, ok := modelTop(leaf, at, left, rest)
		return modelPair(own, top), ok
	}
	own, ok := modelTop(leaf, at-left, count-left, rest)
	return modelPair(top, own), ok
}

func modelCheck(root, leaf api.Digest, at, count int, path []api.Digest) bool {
	if at < 0 || at >= count {
		return false
	}
	top, ok := modelTop(leaf, at, count, path)
	return ok && top == root
}

// modelLength: how many digests the path of a leaf has.
func modelLength(at, count int) int {
	length := 0
	for count > 1 {
		length++
		if left := leftSide(count); at < left {
			count = left
		} else {
			at, count = at-left, count-left
		}
	}
	return length
}

func someDigests(rnd *rand.Rand, n int) []api.Digest {
	list := make([]api.Digest, n)
	for i := range list {
		rnd.Read(list[i][:])
	}
	return list
}

// grown: n leaves of texts, so that no two are alike.
func grown(n int) []api.Digest {
	var list []api.Digest
	for i := range n {
		list = append(list, tree.Leaf([]byte{byte(i >> 8), byte(i)}))
	}
	return list
}
