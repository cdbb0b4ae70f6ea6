// Package limit asks whether numbers keep to the limits that package api names.
package limit

import "sketch/api"

// Within tells whether n is one of low to high.
func Within(n, low, high int) bool { return low <= n && n <= high }

// Time tells whether t may be a time.
func Time(t int) bool { return Within(t, 0, api.MaxTime) }

// Key tells whether k may be a key.
func Key(k int) bool { return Within(k, 0, api.MaxKey) }

// Draw tells whether d may be a draw.
func Draw(d int) bool { return Within(d, 1, api.MaxDraw) }
