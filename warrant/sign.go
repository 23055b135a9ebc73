package warrant

import "treasury/api"

// The numbers of the hash.
const (
	hashStart  uint64 = 14695981039346656037
	hashFactor uint64 = 1099511628211
)

const (
	keyBytes   = 8
	officeKeys = 2 // keys of an office
)

// Hash returns the hash of some bytes.
func Hash(bytes string) uint64 {
	hash := hashStart
	for i := range len(bytes) {
		hash = (hash ^ uint64(bytes[i])) * hashFactor
	}
	return hash
}

// Sign sets the first or the second signature of a warrant.
func Sign(keys []uint64, w api.Warrant, second bool) (api.Warrant, api.Errno) {
	if !Plain(w) {
		return api.Warrant{}, api.ErrInvalid
	}
	at := place(w, second)
	if at >= len(keys) {
		return api.Warrant{}, api.ErrUnknown
	}
	if !second {
		w.First = signature(keys[at], w)
		return w, api.OK
	}
	if w.First != signature(keys[place(w, false)], w) {
		return api.Warrant{}, api.ErrSigned
	}
	w.Second = signature(keys[at], w)
	return w, api.OK
}

// Check returns the first error that applies to a warrant and its signatures.
func Check(keys []uint64, w api.Warrant) api.Errno {
	if !Plain(w) {
		return api.ErrInvalid
	}
	first, second := place(w, false), place(w, true)
	switch {
	case second >= len(keys):
		return api.ErrUnknown
	case w.First != signature(keys[first], w) || w.Second != signature(keys[second], w):
		return api.ErrSigned
	}
	return api.OK
}

// place returns where the first or the second key of the office of a warrant stands in a list of keys.
func place(w api.Warrant, second bool) int {
	at := officeKeys * (w.Office - 1)
	if second {
		at++
	}
	return at
}

// signature returns the signature of a plain warrant with a key.
func signature(key uint64, w api.Warrant) uint64 {
	var bytes [keyBytes]byte
	for i := range bytes {
		bytes[i] = byte(key >> (8 * (keyBytes - 1 - i)))
	}
	return Hash(string(bytes[:]) + Bytes(w))
}
