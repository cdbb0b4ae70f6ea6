package kinds

import (
	"sketch/api"
	"sketch/limit"
)

// commonFits asks for what every kind names.
func commonFits(c api.Config) bool {
	return limit.Within(c.Lag, 0, api.MaxLag) &&
		limit.Within(c.Skew, 0, api.MaxSkew) &&
		limit.Within(c.Cap, 1, api.MaxCap)
}

func countFits(c api.Config) bool {
	return limit.Within(c.K, 1, api.MaxK) && windowFits(c)
}

func distinctFits(c api.Config) bool {
	return limit.Within(c.Bits, 1, api.MaxBits) && windowFits(c) && seedsFit(c.Seeds, 1)
}

func oftenFits(c api.Config) bool {
	return limit.Within(c.Rows, 1, api.MaxRows) &&
		limit.Within(c.Width, 1, api.MaxWidth) &&
		limit.Within(c.Panes, 1, api.MaxPanes) &&
		windowFits(c) && c.Window%c.Panes == 0 &&
		seedsFit(c.Seeds, c.Rows)
}

func decayFits(c api.Config) bool {
	return limit.Within(c.Degree, 0, api.MaxDegree) &&
		limit.Within(c.Half, 0, api.MaxHalf) &&
		limit.Time(c.Mark)
}

func drawnFits(c api.Config) bool {
	return limit.Within(c.Size, 1, api.MaxSize) && decayFits(c)
}

func windowFits(c api.Config) bool { return limit.Within(c.Window, 1, api.MaxWindow) }

// seedsFit looks at the first pairs alone: the others may be anything.
func seedsFit(seeds [3][2]int, pairs int) bool {
	for i := range pairs {
		if !limit.Within(seeds[i][0], 1, api.Prime-1) || !limit.Within(seeds[i][1], 0, api.Prime-1) {
			return false
		}
	}
	return true
}
