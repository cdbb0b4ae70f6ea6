// Package item has the items of a series and the order in which they are released.
package item

// Item is one item of a series; its number tells when it was accepted among the others.
type Item struct {
	Time   int
	Key    int
	Draw   int
	Number int
}

// Ahead tells whether a is released ahead of b.
func Ahead(a, b Item) bool {
	if a.Time != b.Time {
		return a.Time < b.Time
	}
	return a.Number < b.Number
}
