// Package weight tells how much an item of a certain time weighs.
package weight

import "sketch/api"

// maxDoublings: 2 to this is api.MaxWeight.
const maxDoublings = 61

// Of is the weight of a time by Degree, Half and Mark of c; false if it has none.
func Of(c api.Config, time int) (int, bool) {
	if time < c.Mark {
		return 0, false
	}
	age := time - c.Mark
	if c.Half == 0 {
		return power(age+1, c.Degree)
	}
	return doubled(age / c.Half)
}

// OrZero is the weight, 0 where there is none.
func OrZero(c api.Config, time int) int {
	w, some := Of(c, time)
	if !some {
		return 0
	}
	return w
}

// power divides ahead of each multiplication, since the product may be more than an int can hold.
func power(base, degree int) (int, bool) {
	product := 1
	for range degree {
		if product > api.MaxWeight/base {
			return 0, false
		}
		product *= base
	}
	return product, true
}

func doubled(times int) (int, bool) {
	if times > maxDoublings {
		return 0, false
	}
	return 1 << times, true
}
