// Package sector is layer 1: a device of sectors whose writes aren't sure
// ahead of a flush (see shared/doc/01-sector.md).
//
// A device is a value: no call changes the lists of the one it is given. What
// a call leaves as it was, its answer may share with it.
//
// Devices may also be put together by hand, and not be Right: then a write
// that is done takes its own bytes, however many, to its sector, and one to a
// sector that there isn't goes nowhere.
package sector

import (
	"slices"
	"strings"

	"foreman/api"
)

// mostSectors is how many sectors a device has at most.
const mostSectors = 4096

// anyNumber is the Left of a device that does any number of deeds.
const anyNumber = -1

// New answers a device of n sectors of noughts.
func New(n int) (api.Disk, api.Errno) {
	if n < 0 || n > mostSectors {
		return api.Disk{}, api.ErrArg
	}
	sectors := make([]string, n)
	for i := range sectors {
		sectors[i] = padded("")
	}
	return api.Disk{Sectors: sectors, Left: anyNumber}, api.OK
}

// Right tells whether all sectors and writes are as the calls make them; power
// and Left may be any.
func Right(d api.Disk) bool {
	if len(d.Sectors) > mostSectors {
		return false
	}
	for _, s := range d.Sectors {
		if len(s) != api.Sector {
			return false
		}
	}
	for _, w := range d.Loose {
		if len(w.Data) != api.Sector || !has(d, w.At) {
			return false
		}
	}
	return true
}

// Read answers a sector's bytes, as the writes so far have left them, sure or
// not. It is no deed: Left doesn't count for it.
func Read(d api.Disk, at int) (string, api.Errno) {
	if d.Down {
		return "", api.ErrDown
	}
	if !has(d, at) {
		return "", api.ErrRange
	}
	for i := len(d.Loose) - 1; i >= 0; i-- {
		if d.Loose[i].At == at {
			return d.Loose[i].Data, api.OK
		}
	}
	return d.Sectors[at], api.OK
}

// Put adds a loose write of data, filled up with noughts.
func Put(d api.Disk, at int, data string) (api.Disk, api.Errno) {
	if len(data) > api.Sector {
		return d, api.ErrArg
	}
	if !has(d, at) {
		return d, api.ErrRange
	}
	d, err := deed(d)
	if err != api.OK {
		return d, err
	}
	// Appending in place could write into spare room that another device
	// has, too.
	d.Loose = append(slices.Clip(d.Loose), api.Write{At: at, Data: padded(data)})
	return d, api.OK
}

// Flush makes all loose writes sure.
func Flush(d api.Disk) (api.Disk, api.Errno) {
	d, err := deed(d)
	if err != api.OK {
		return d, err
	}
	sectors := slices.Clone(d.Sectors)
	for _, w := range d.Loose {
		if has(d, w.At) {
			sectors[w.At] = w.Data
		}
	}
	d.Sectors, d.Loose = sectors, nil
	return d, api.OK
}

// Arm sets how many deeds a device does yet (below 0: any number).
func Arm(d api.Disk, n int) api.Disk {
	d.Left = max(n, anyNumber)
	return d
}

// Start answers the device with power again, when of its loose writes no more
// stays than the cut says.
func Start(d api.Disk, c api.Cut) api.Disk {
	sectors := slices.Clone(d.Sectors)
	for i, w := range d.Loose {
		switch {
		case !has(d, w.At):
		case i == c.Torn:
			sectors[w.At] = torn(sectors[w.At], w.Data, c.Bytes)
		case stays(c, i):
			sectors[w.At] = w.Data
		}
	}
	return api.Disk{Sectors: sectors, Left: anyNumber}
}

// has tells whether a device has such a sector.
func has(d api.Disk, at int) bool { return at >= 0 && at < len(d.Sectors) }

// deed takes one from what a device does yet; the power goes where nothing is
// left.
func deed(d api.Disk) (api.Disk, api.Errno) {
	if d.Left == 0 {
		d.Down = true
	}
	if d.Down {
		return d, api.ErrDown
	}
	if d.Left > 0 {
		d.Left--
	}
	return d, api.OK
}

// padded answers a sector's bytes of at most so many.
func padded(data string) string {
	return data + strings.Repeat("\x00", api.Sector-len(data))
}

// stays tells whether the i-th loose write is done, though the power went.
func stays(c api.Cut, i int) bool {
	return len(c.Stay) > 0 && c.Stay[i%len(c.Stay)]
}

// torn answers a sector of which the first n bytes alone are new.
func torn(old, data string, n int) string {
	n = min(max(n, 0), api.Sector, len(data))
	return data[:n] + old[min(n, len(old)):]
}
