package query

import (
	"math/bits"

	"limnograph/api"
	"limnograph/hist"
)

// through goes through a histogram's buckets in order, as long as it is told to go on.
func through(h api.Hist, goOn func(b api.Bucket, n uint64) bool) {
	for i := len(h.Neg.Counts) - 1; i >= 0; i-- {
		if !goOn(api.Bucket{Side: -1, Index: h.Neg.Offset + i}, h.Neg.Counts[i]) {
			return
		}
	}
	if !goOn(api.Bucket{}, h.Zero) {
		return
	}
	for i, n := range h.Pos.Counts {
		if !goOn(api.Bucket{Side: 1, Index: h.Pos.Offset + i}, n) {
			return
		}
	}
}

// Nth is the bucket of the n-th measure.
func Nth(h api.Hist, n uint64) (api.Bucket, bool) {
	total, ok := hist.Total(h)
	if hist.Check(h) != api.OK || !ok || n == 0 || n > total {
		return api.Bucket{}, false
	}
	found := api.Bucket{}
	through(h, func(b api.Bucket, in uint64) bool {
		found = b
		if n <= in {
			return false
		}
		n -= in
		return true
	})
	return found, true
}

// Share is the bucket of the measure at a share of all.
func Share(h api.Hist, num, den uint64) (api.Bucket, bool) {
	total, ok := hist.Total(h)
	if !ok || den == 0 || num > den {
		return api.Bucket{}, false
	}
	// As num isn't above den, the quotient isn't above the total.
	high, low := bits.Mul64(total, num)
	n, rest := bits.Div64(high, low, den)
	if rest > 0 {
		n++
	}
	return Nth(h, max(1, n))
}

// Below is how many measures stand ahead of a bucket's.
func Below(h api.Hist, b api.Bucket) uint64 {
	if hist.Check(h) != api.OK || b.Side < -1 || b.Side > 1 || b.Side == 0 && b.Index != 0 {
		return 0
	}
	sum := uint64(0)
	through(h, func(x api.Bucket, n uint64) bool {
		if !ahead(x, b) {
			return false
		}
		sum += n
		return true
	})
	return sum
}

// ahead tells whether a bucket stands ahead of another one.
func ahead(a, b api.Bucket) bool {
	if a.Side != b.Side {
		return a.Side < b.Side
	}
	if a.Side < 0 {
		return a.Index > b.Index
	}
	return a.Index < b.Index
}
