package zed

import (
	"hairline/api"
	"hairline/nat"
)

// A chunk is as many decimal digits as always fit in a limb.
const (
	chunkLen   = 19
	chunkPower = 10_000_000_000_000_000_000
)

// Text returns the decimal digits, preceded by a minus sign if the integer is
// negative.
func Text(a api.Int) string {
	powers := tenPowers(BitLen(a)/3 + 1) // a digit takes more than three bits
	digits := make([]byte, chunkLen<<len(powers))
	writeDigits(digits, a.Mag, powers)
	text := string(digits)
	text = text[zeros(text[:len(text)-1]):] // the last digit stays, as it is all that 0 has
	if Sign(a) < 0 {
		return "-" + text
	}
	return text
}

// Parse returns the integer that s denotes and true, or 0 and false if s is not
// made of an optional minus sign and one or more decimal digits.
func Parse(s string) (api.Int, bool) {
	neg := len(s) > 0 && s[0] == '-'
	if neg {
		s = s[1:]
	}
	if !decimal(s) {
		return api.Int{}, false
	}
	s = s[zeros(s):]
	return signed(neg, readDigits(s, tenPowers(len(s)))), true
}

// tenPowers returns 10 to the powers 19, 38, 76 and so on, by which n digits
// are halved again and again until chunks are left: the digits are at most 19
// times 2^k, where k is the number of powers. Halving keeps the numbers short
// where cutting off one chunk after the other would copy the rest each time.
func tenPowers(n int) [][]uint64 {
	powers := [][]uint64{{chunkPower}}
	for size := 2 * chunkLen; size < n; size *= 2 {
		last := powers[len(powers)-1]
		powers = append(powers, nat.Mul(last, last))
	}
	return powers
}

// writeDigits fills out, which is of 19 times 2^k bytes for k powers, with the
// digits of mag and zeros ahead of them.
func writeDigits(out []byte, mag []uint64, powers [][]uint64) {
	if len(powers) == 0 {
		writeChunk(out, lowLimb(mag))
		return
	}
	last, half := len(powers)-1, len(out)/2
	high, low, _ := nat.DivMod(mag, powers[last])
	writeDigits(out[:half], high, powers[:last])
	writeDigits(out[half:], low, powers[:last])
}

func writeChunk(out []byte, limb uint64) {
	for i := range len(out) {
		out[len(out)-1-i] = '0' + byte(limb%10)
		limb /= 10
	}
}

// readDigits returns the number that s denotes: at most 19 times 2^k digits for
// k powers, and 0 if there are none.
func readDigits(s string, powers [][]uint64) []uint64 {
	if len(powers) == 0 {
		return nat.Norm([]uint64{readChunk(s)})
	}
	last := len(powers) - 1
	lowLen := chunkLen << last
	cut := max(0, len(s)-lowLen)
	low := readDigits(s[cut:], powers[:last])
	if cut == 0 {
		return low
	}
	high := readDigits(s[:cut], powers[:last])
	return nat.Add(nat.Mul(high, powers[last]), low)
}

func readChunk(s string) uint64 {
	limb := uint64(0)
	for i := range len(s) {
		limb = limb*10 + uint64(s[i]-'0')
	}
	return limb
}

// decimal reports whether s consists of one or more decimal digits.
func decimal(s string) bool {
	for i := range len(s) {
		if s[i] < '0' || s[i] > '9' {
			return false
		}
	}
	return len(s) > 0
}

// zeros returns how many zeros s begins with.
func zeros(s string) int {
	n := 0
	for n < len(s) && s[n] == '0' {
		n++
	}
	return n
}
