package impl

const (
	maxElement = 255
	fieldPoly  = 285 // x^8 + x^4 + x^3 + x^2 + 1
)

// powers holds the products of one element with the powers of 2 from 1 to
// 128. Two elements are equal if and only if their powers are.
type powers [8]int64

func isElement(a int64) bool {
	return a >= 0 && a <= maxElement
}

func powersOf(a int64) powers {
	var p powers
	i := 0
next:
	p[i] = a
	i++
	if i < len(p) {
		a = doubleOf(a)
		goto next
	}
	return p
}

func doubleOf(x int64) int64 {
	x *= 2
	if x > maxElement {
		x ^= fieldPoly
	}
	return x
}

// times returns the product with b of the element that p belongs to.
func (p *powers) times(b int64) int64 {
	product := int64(0)
	for i, x := range p {
		if b>>i%2 == 1 {
			product ^= x
		}
	}
	return product
}

func productOf(a, b int64) int64 {
	p := powersOf(a)
	return p.times(b)
}

// powerOf returns 1 for n = 0, whatever a is.
func powerOf(a, n int64) int64 {
	power := int64(1)
	for ; n > 0; n /= 2 {
		p := powersOf(a)
		if n%2 == 1 {
			power = p.times(power)
		}
		a = p.times(a)
	}
	return power
}

// inverseOf returns the inverse of a nonzero element, whose 255th power is 1.
func inverseOf(a int64) int64 {
	return powerOf(a, maxElement-1)
}

// GfAdd returns the sum of two elements.
func GfAdd(a, b int64) (int64, int64) {
	if !isElement(a) || !isElement(b) {
		return 0, ErrRange
	}
	return a ^ b, OK
}

// GfMul returns the product of two elements.
func GfMul(a, b int64) (int64, int64) {
	if !isElement(a) || !isElement(b) {
		return 0, ErrRange
	}
	return productOf(a, b), OK
}

// GfInv returns the multiplicative inverse of a.
func GfInv(a int64) (int64, int64) {
	if !isElement(a) {
		return 0, ErrRange
	}
	if a == 0 {
		return 0, ErrNone
	}
	return inverseOf(a), OK
}

// GfDiv returns the product of a and the inverse of b.
func GfDiv(a, b int64) (int64, int64) {
	if !isElement(a) || !isElement(b) {
		return 0, ErrRange
	}
	if b == 0 {
		return 0, ErrNone
	}
	return productOf(a, inverseOf(b)), OK
}

// GfPow returns a to the power n.
func GfPow(a, n int64) (int64, int64) {
	if !isElement(a) || n < 0 {
		return 0, ErrRange
	}
	return powerOf(a, n), OK
}

// GfLog returns the least n such that 2 to the power n is a.
func GfLog(a int64) (int64, int64) {
	if !isElement(a) {
		return 0, ErrRange
	}
	if a == 0 {
		return 0, ErrNone
	}
	// This ends because every nonzero element is a power of 2.
	n, sought := int64(0), powersOf(a)
	for p := powersOf(1); p != sought; p = powersOf(p[1]) {
		n++
	}
	return n, OK
}

// GfScale returns the string of the products of a and the bytes of s.
func GfScale(a int64, s string) (string, int64) {
	if !isElement(a) {
		return "", ErrRange
	}
	p, products := powersOf(a), make([]byte, len(s))
	for i := range products {
		products[i] = byte(p.times(int64(s[i])))
	}
	return string(products), OK
}

// GfSum returns the bytewise sum of two strings of equal length.
func GfSum(s, t string) (string, int64) {
	if len(s) != len(t) {
		return "", ErrForm
	}
	sums := make([]byte, len(s))
	for i := range sums {
		sums[i] = s[i] ^ t[i]
	}
	return string(sums), OK
}
