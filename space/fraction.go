// Package space: boxes, segments and fractions, exactly.
package space

// Fraction is Up divided by Low; Low is 1 or more.
type Fraction struct {
	Up, Low int
}

// Above tells whether f is greater than g.
func (f Fraction) Above(g Fraction) bool {
	// The products pass 32 bits, which is all that an int may have.
	return int64(f.Up)*int64(g.Low) > int64(g.Up)*int64(f.Low)
}

// lowest is f in lowest terms, for an f that is not below 0.
func (f Fraction) lowest() Fraction {
	n := commonDivisor(f.Up, f.Low)
	if n < 1 {
		return f
	}
	return Fraction{Up: f.Up / n, Low: f.Low / n}
}

// commonDivisor is the greatest number that divides both a and b, neither of them below 0.
func commonDivisor(a int, b int) int {
	for b != 0 {
		a, b = b, a%b
	}
	return a
}
