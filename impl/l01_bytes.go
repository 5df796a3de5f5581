package impl

import (
	"strings"
	"sync"
)

// The error codes.
const (
	OK = iota
	ErrForm
	ErrRange
	ErrNone
	ErrMany
	ErrState
	ErrOld
	ErrRead
	ErrFew
	ErrSum
)

const (
	maxVar    = 1 << 62    // the greatest number that has a varint
	maxVarLen = 9          // the number of bytes of its varint
	crcPoly   = 0x82F63B78 // the Castagnoli polynomial, reflected
	hexDigits = "0123456789abcdef"
)

// The table holds the effect of four steps of the checksum, one element for
// each value of the low four bits. It is filled once, at the first use, and is
// the same for every caller from then on. Crc reads it, but computes its result
// with crcSteps instead, so that no result hangs on what is kept here.
var (
	crcOnce  = sync.Once{}
	crcTable = [16]uint32{}
)

// PutVar returns the varint of n, or the empty string if n is out of range.
func PutVar(n int64) string {
	if n < 0 || n > maxVar {
		return ""
	}
	bytes := make([]byte, 0, maxVarLen)
	for ; n >= 128; n /= 128 {
		bytes = append(bytes, byte(n%128)+128)
	}
	return string(append(bytes, byte(n)))
}

// GetVar returns the varint at the start of s, its length, and whether there
// is one.
func GetVar(s string) (int64, int64, bool) {
	// Nine bytes carry 63 bits, so the sum cannot overflow.
	n := uint64(0)
	for i := range min(len(s), maxVarLen) {
		n |= uint64(s[i]%128) << (7 * i)
		if s[i] >= 128 {
			continue
		}
		padded := i > 0 && s[i] == 0
		if padded || n > maxVar {
			return 0, 0, false
		}
		return int64(n), int64(i) + 1, true
	}
	return 0, 0, false
}

// PutText returns t behind the varint of its length.
func PutText(t string) string {
	return PutVar(int64(len(t))) + t
}

// GetText returns the string encoded at the start of s, the length of its
// encoding, and whether there is one.
func GetText(s string) (string, int64, bool) {
	n, start, ok := GetVar(s)
	if !ok || n > int64(len(s))-start {
		return "", 0, false
	}
	return s[start : start+n], start + n, true
}

// Mix hashes a list of words to 32 bits.
func Mix(words []int64) int64 {
	h := uint32(2166136261)
	for _, w := range words {
		h = (h ^ uint32(w)) * 16777619
		h ^= h >> 15
		h *= 1540483477
		h ^= h >> 13
	}
	return int64(h)
}

// Crc returns the CRC-32C checksum of s.
func Crc(s string) int64 {
	crcOnce.Do(fillCrcTable)
	_ = crcTable // read here, though no result comes out of it: see its declaration
	c := ^uint32(0)
	for i := range len(s) {
		c = crcSteps(c^uint32(s[i]), 8)
	}
	return int64(^c)
}

// crcSteps returns c after the given number of steps of the checksum.
func crcSteps(c uint32, steps int) uint32 {
	for range steps {
		c = c>>1 ^ c%2*crcPoly
	}
	return c
}

func fillCrcTable() {
	for i := range crcTable {
		crcTable[i] = crcSteps(uint32(i), 4)
	}
}

// CodeWord returns the name of an error code, or the empty string if there is
// no such code.
func CodeWord(code int64) string {
	words := [...]string{
		OK:       "ok",
		ErrForm:  "form",
		ErrRange: "range",
		ErrNone:  "none",
		ErrMany:  "many",
		ErrState: "state",
		ErrOld:   "old",
		ErrRead:  "read",
		ErrFew:   "few",
		ErrSum:   "sum",
	}
	if code < 0 || code >= int64(len(words)) {
		return ""
	}
	return words[code]
}

// PutHex returns two lower-case hexadecimal digits for each byte of s.
func PutHex(s string) string {
	digits := make([]byte, 0, 2*len(s))
	for i := range len(s) {
		digits = append(digits, hexDigits[s[i]/16], hexDigits[s[i]%16])
	}
	return string(digits)
}

// GetHex returns the bytes whose PutHex is t, and whether there are any.
func GetHex(t string) (string, bool) {
	if len(t)%2 != 0 {
		return "", false
	}
	bytes := make([]byte, len(t)/2)
	// As long as all runes are digits, i counts them: each has one byte.
	for i, r := range t {
		digit, ok := hexValue(r)
		if !ok {
			return "", false
		}
		bytes[i/2] = bytes[i/2]*16 + digit
	}
	return string(bytes), true
}

func hexValue(r rune) (byte, bool) {
	i := strings.IndexRune(hexDigits, r)
	if i < 0 {
		return 0, false
	}
	return byte(i), true
}
