// Package hash scatters keys by pairs of seeds.
package hash

import (
	"math/bits"

	"sketch/api"
)

// Of is the hash of a key by a pair of seeds, none of which is below 0. Their product needs two words.
func Of(pair [2]int, key int) int {
	high, low := bits.Mul64(uint64(pair[0]), uint64(key))
	low, carry := bits.Add64(low, uint64(pair[1]), 0)
	return int(bits.Rem64(high+carry, low, api.Prime))
}
