// Package word packs several values into one word: refs, which name a slot
// and its generation, and version words.
package word

import "tendril/api"

const (
	slotBits = 16
	genBits  = 32
	leafBit  = slotBits + genBits
	slotMask = 1<<slotBits - 1
	genMask  = 1<<genBits - 1
)

const (
	lockedBit = 1
	deadBit   = 2
	stateBits = lockedBit | deadBit
	version   = 4
)

// Ref returns the ref of a slot and its generation, or 0 if there is none.
func Ref(slot, gen int, leaf bool) int {
	if slot < 0 || slot >= api.MaxSlots || gen < 1 || gen > api.MaxGen {
		return 0
	}
	ref := gen<<slotBits | slot
	if leaf {
		ref |= 1 << leafBit
	}
	return ref
}

// Parts returns the arguments with which Ref returns ref.
func Parts(ref int) (slot, gen int, leaf, ok bool) {
	slot = ref & slotMask
	gen = ref >> slotBits & genMask
	leaf = ref>>leafBit&1 == 1
	if ref == 0 || Ref(slot, gen, leaf) != ref {
		return 0, 0, false, false
	}
	return slot, gen, leaf, true
}

// Free reports whether w is neither locked nor dead.
func Free(w uint64) bool { return w&stateBits == 0 }

// Dead reports whether w is dead.
func Dead(w uint64) bool { return w&deadBit != 0 }

// Lock returns w locked, if it is free.
func Lock(w uint64) (uint64, bool) {
	if !Free(w) {
		return 0, false
	}
	return w | lockedBit, true
}

// Unlock returns w free, in its next version.
func Unlock(w uint64) uint64 { return w&^stateBits + version }

// Kill returns w dead, in its next version.
func Kill(w uint64) uint64 { return Unlock(w) | deadBit }
