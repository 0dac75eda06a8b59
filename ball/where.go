package ball

import (
	"hairline/api"
	"hairline/dyad"
)

// Has reports whether b is valid and contains d.
func Has(b api.Ball, d api.Dyad) bool {
	return Right(b) && dyad.Cmp(low(b), d) <= 0 && dyad.Cmp(d, high(b)) <= 0
}

// Inside reports whether both balls are valid and b contains a.
func Inside(a, b api.Ball) bool {
	return Right(a) && Right(b) && dyad.Cmp(low(b), low(a)) <= 0 && dyad.Cmp(high(a), high(b)) <= 0
}

// Meets reports whether both balls are valid and have a common number.
func Meets(a, b api.Ball) bool {
	return Right(a) && Right(b) && dyad.Cmp(low(a), high(b)) <= 0 && dyad.Cmp(low(b), high(a)) <= 0
}
