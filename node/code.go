package node

import (
	"slices"

	"tendril/api"
	"tendril/arena"
	"tendril/pack"
)

// Where things lie in the words of a node or a leaf.
const (
	wordAt    = 0
	headAt    = 1
	prefixAt  = 2
	valueAt   = 4
	restAt    = 4
	kids4At   = 5
	kids16At  = 6
	kids48At  = 36
	lengthBit = 8
	countBit  = 16
	byteMask  = 255
)

// Encode returns the words of n, or nil if n is not valid.
func Encode(n api.Node) []uint64 {
	if !Right(n) {
		return nil
	}
	w := make([]uint64, arena.Size(n.Kind))
	w[wordAt] = n.Word
	w[headAt] = uint64(n.Kind) | uint64(len(n.Prefix))<<lengthBit | uint64(len(n.Keys))<<countBit
	copy(w[prefixAt:restAt], pack.Words(n.Prefix))
	switch n.Kind {
	case api.C4:
		copy(w[restAt:kids4At], pack.Words(string(n.Keys)))
		putKids(w[kids4At:], n.Kids)
	case api.C16:
		copy(w[restAt:kids16At], pack.Words(string(n.Keys)))
		putKids(w[kids16At:], n.Kids)
	case api.C48:
		copy(w[restAt:kids48At], pack.Words(places(n.Keys)))
		putKids(w[kids48At:], n.Kids)
	case api.C256:
		for i, b := range n.Keys {
			w[restAt+int(b)] = uint64(n.Kids[i])
		}
	}
	return w
}

// putKids stores kids in w.
func putKids(w []uint64, kids []int) {
	for i, kid := range kids {
		w[i] = uint64(kid)
	}
}

// places returns, for each byte, 1 plus its index in keys, or 0.
func places(keys []byte) string {
	var l [256]byte
	for i, b := range keys {
		l[b] = byte(i + 1)
	}
	return string(l[:])
}

// Decode returns the node whose Encode is w. What the words say is read
// leniently and then encoded again, so that nothing else is accepted.
func Decode(w []uint64) (api.Node, bool) {
	if len(w) <= headAt {
		return api.Node{}, false
	}
	kind := int(w[headAt] & byteMask)
	count := w[headAt] >> countBit
	if High(kind) == 0 || len(w) != arena.Size(kind) || count > uint64(High(kind)) {
		return api.Node{}, false
	}
	prefix, ok := getPrefix(w)
	if !ok {
		return api.Node{}, false
	}
	n := api.Node{Kind: kind, Word: w[wordAt], Prefix: prefix}
	n.Keys, n.Kids = children(w, kind, int(count))
	if !slices.Equal(Encode(n), w) {
		return api.Node{}, false
	}
	return n, true
}

// getPrefix returns the string that follows the head of w.
func getPrefix(w []uint64) (string, bool) {
	s, e := pack.Bytes(w[prefixAt:restAt], int(w[headAt]>>lengthBit&byteMask))
	return s, e == api.OK
}

// children returns the keys and children that the words of a node contain.
func children(w []uint64, kind, count int) ([]byte, []int) {
	switch kind {
	case api.C4:
		return getKeys(w[restAt:kids4At], count), getKids(w[kids4At:], count)
	case api.C16:
		return getKeys(w[restAt:kids16At], count), getKids(w[kids16At:], count)
	case api.C48:
		all := getKeys(w[restAt:kids48At], 256)
		return marked(all), getKids(w[kids48At:], count)
	}
	var keys []byte
	var kids []int
	for b := range 256 {
		if kid := w[restAt+b]; kid != 0 {
			keys = append(keys, byte(b))
			kids = append(kids, int(kid))
		}
	}
	return keys, kids
}

// getKeys returns the first bytes of w, or none if others follow.
func getKeys(w []uint64, count int) []byte {
	s, _ := pack.Bytes(w, count)
	return []byte(s)
}

// marked returns the indexes at which l is not 0.
func marked(l []byte) []byte {
	var keys []byte
	for i, place := range l {
		if place != 0 {
			keys = append(keys, byte(i))
		}
	}
	return keys
}

// getKids returns the first words of w as refs.
func getKids(w []uint64, count int) []int {
	kids := make([]int, count)
	for i := range kids {
		kids[i] = int(w[i])
	}
	return kids
}

// EncodeLeaf returns the words of l, or nil if l is not valid.
func EncodeLeaf(l api.Leaf) []uint64 {
	if !RightLeaf(l) {
		return nil
	}
	w := make([]uint64, arena.Size(api.CLeaf))
	w[headAt] = uint64(len(l.Key)) << lengthBit
	copy(w[prefixAt:valueAt], pack.Words(l.Key))
	w[valueAt] = uint64(l.Value)
	return w
}

// DecodeLeaf returns the leaf whose EncodeLeaf is w.
func DecodeLeaf(w []uint64) (api.Leaf, bool) {
	if len(w) != arena.Size(api.CLeaf) {
		return api.Leaf{}, false
	}
	key, ok := getPrefix(w)
	if !ok {
		return api.Leaf{}, false
	}
	l := api.Leaf{Key: key, Value: int(w[valueAt])}
	if !slices.Equal(EncodeLeaf(l), w) {
		return api.Leaf{}, false
	}
	return l, true
}
