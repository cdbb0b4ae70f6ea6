package kinds

import (
	"sketch/api"
	"sketch/item"
	"sketch/limit"
	"sketch/weight"
)

func refuseNothing(api.Config, item.Item) api.Errno { return api.OK }

func refuseKey(_ api.Config, it item.Item) api.Errno {
	if !limit.Key(it.Key) {
		return api.ErrKey
	}
	return api.OK
}

func refuseWeightless(c api.Config, it item.Item) api.Errno {
	if _, some := weight.Of(c, it.Time); !some {
		return api.ErrHorizon
	}
	return api.OK
}

func refuseDrawn(c api.Config, it item.Item) api.Errno {
	if code := refuseWeightless(c, it); code != api.OK {
		return code
	}
	if code := refuseKey(c, it); code != api.OK {
		return code
	}
	if !limit.Draw(it.Draw) {
		return api.ErrDraw
	}
	return api.OK
}
