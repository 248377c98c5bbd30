package tank

import (
	"strings"

	"garboard/api"
	"garboard/attitude"
	"garboard/float"
	"garboard/mesh"
)

const nameBytes = "ABCDEFGHIJKLMNOPQRSTUVWXYZabcdefghijklmnopqrstuvwxyz0123456789-."

// spaceOf returns the volume of the space of a tank, or the first fault of the tank. The extent has the faults ahead of the other numbers.
func spaceOf(t api.Tank) (api.Rat, api.Errno) {
	if !isName(t.Name) {
		return "", api.ErrName
	}
	extent, e := attitude.Extent(t.Space, upright())
	if e != api.OK {
		return "", e
	}
	if !areNumbers(t.Permeability, t.Density) {
		return "", api.ErrArg
	}
	if !isPositive(t.Permeability) || isLess("1", t.Permeability) || !isPositive(t.Density) {
		return "", api.ErrRange
	}
	if e := mesh.Check(t.Space); e != api.OK {
		return "", e
	}
	volume := sure(float.Volume(t.Space, upright(), extent.Up.Hi))
	if !isPositive(volume) {
		return "", api.ErrZero
	}
	return volume, api.OK
}

// isName looks at bytes: a letter that takes several of them is none of those that names have.
func isName(text string) bool {
	if text == "" || len(text) > api.MaxName {
		return false
	}
	for _, b := range []byte(text) {
		if strings.IndexByte(nameBytes, b) < 0 {
			return false
		}
	}
	return true
}

func upright() api.Attitude { return api.Attitude{Heel: "0", Trim: "0"} }
