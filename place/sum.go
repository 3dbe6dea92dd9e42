package place

import (
	"clevis/api"
	"math"
)

// sum returns a + b, or the int that is nearest to it: what is beyond all addresses must not wrap around to one of them.
func sum(a, b int) int {
	switch {
	case b > 0 && a > math.MaxInt-b:
		return math.MaxInt
	case b < 0 && a < math.MinInt-b:
		return math.MinInt
	}
	return a + b
}

// padding returns how many bytes a size lacks to be a multiple of Page. It holds for negative sizes, too, which a division would round towards 0.
func padding(size int) int {
	return -size & (api.Page - 1)
}
