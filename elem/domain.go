package elem

import (
	"hairline/api"
	"hairline/dyad"
)

const (
	maxLog         = 9
	maxPositiveLog = 1100 // either way
)

// anywhere is embedded in the functions that have a value at every number.
type anywhere struct{}

func (anywhere) takes(x api.Dyad) bool {
	n, ok := dyad.Log(x)
	return !ok || n <= maxLog
}

// positive is embedded in the functions that have a value at positive numbers
// alone.
type positive struct{}

func (positive) takes(x api.Dyad) bool {
	n, _ := dyad.Log(x)
	return dyad.Sign(x) > 0 && n >= -maxPositiveLog && n <= maxPositiveLog
}
