package kinds

import (
	"sketch/api"
	"sketch/item"
)

// commonNamed is what every kind names.
func commonNamed(c *api.Config) []*int { return []*int{&c.Lag, &c.Skew, &c.Cap} }

func countNamed(c *api.Config) []*int { return []*int{&c.K, &c.Window} }

func distinctNamed(c *api.Config) []*int { return []*int{&c.Bits, &c.Window} }

func oftenNamed(c *api.Config) []*int { return []*int{&c.Rows, &c.Width, &c.Panes, &c.Window} }

func decayNamed(c *api.Config) []*int { return []*int{&c.Degree, &c.Half, &c.Mark} }

func drawnNamed(c *api.Config) []*int { return append(decayNamed(c), &c.Size) }

func noPairs(api.Config) int { return 0 }

func onePair(api.Config) int { return 1 }

func pairOfEachRow(c api.Config) int { return c.Rows }

func askTime(it *item.Item) []*int { return []*int{&it.Time} }

func askKey(it *item.Item) []*int { return []*int{&it.Time, &it.Key} }

func askDraw(it *item.Item) []*int { return []*int{&it.Time, &it.Key, &it.Draw} }
