package drawer

import (
	"bytes"
	"maps"
	"slices"
	"strings"

	"levy/api"
)

// maxName: how many bytes a file's name may have.
const maxName = 12

// Disk: a stand-in file system. Its names are copies: one that is handed in may be a piece of a long text, which isn't to be held.
type Disk struct {
	files map[string]*file
	rigs  rigs
	down  bool
}

// file: bytes, the first so many of which outlive a fall.
type file struct {
	data []byte
	sure int
}

// NewDisk makes a disk that holds files.
func NewDisk(files []api.File) (*Disk, api.Errno) {
	if len(files) > api.MaxFiles {
		return nil, api.ErrDiskFiles
	}
	d := &Disk{files: map[string]*file{}}
	for _, f := range files {
		if d.has(f.Name) || !mayBe(f) {
			return nil, api.ErrDiskFiles
		}
		d.files[strings.Clone(f.Name)] = &file{bytes.Clone(f.Data), f.Synced}
	}
	return d, api.OK
}

// Append lays bytes at a file's end; it makes the file if there is none.
func (d *Disk) Append(name string, data []byte) api.Errno {
	room := func() api.Errno { return d.room(name, len(data)) }
	return d.change(name, 1+len(data), room, func(units int) {
		d.lay(name, data[:min(units, len(data))])
	})
}

// Sync makes all of a file's bytes sure.
func (d *Disk) Sync(name string) api.Errno {
	return d.alter(name, func(f *file) { f.sure = len(f.data) })
}

// Trim cuts a file: the cut stands at once; unsure bytes that are left stay unsure.
func (d *Disk) Trim(name string, size int) api.Errno {
	return d.alter(name, func(f *file) { f.cut(max(size, 0)) })
}

// Remove takes a file away, at once sure.
func (d *Disk) Remove(name string) api.Errno {
	return d.alter(name, func(*file) { delete(d.files, name) })
}

// Read tells a file's bytes.
func (d *Disk) Read(name string) ([]byte, api.Errno) {
	if errno := d.reach(name); errno != api.OK {
		return nil, errno
	}
	if errno := d.find(name); errno != api.OK {
		return nil, errno
	}
	return bytes.Clone(d.files[name].data), api.OK
}

// Arm lets the machine fall behind so many more units.
func (d *Disk) Arm(units int) {
	if !d.down {
		d.rigs.arm(units)
	}
}

// Fail lets changing calls fail: so many, behind so many that go on.
func (d *Disk) Fail(after, calls int) {
	if !d.down {
		d.rigs.fail(after, calls)
	}
}

// Crash lets the machine fall now.
func (d *Disk) Crash() {
	d.down = true
	d.rigs = rigs{}
}

// Restart lets it come up: keep: how many unsure bytes of each file survive.
func (d *Disk) Restart(keep []int) {
	d.Crash()
	for i, name := range d.names() {
		f, kept := d.files[name], 0
		if len(keep) > 0 {
			kept = min(max(keep[i%len(keep)], 0), len(f.data)-f.sure)
		}
		f.cut(f.sure + kept)
		f.sure = len(f.data)
	}
	d.down = false
}

// Files tells all files, by name; also while the machine is down.
func (d *Disk) Files() []api.File {
	var files []api.File
	for _, name := range d.names() {
		f := d.files[name]
		files = append(files, api.File{Name: name, Data: bytes.Clone(f.data), Synced: f.sure})
	}
	return files
}

// change goes through what all changing calls have in common. bar tells what keeps the call from being done; do is handed the units that there are for it, which are fewer than it costs where the machine falls in it.
func (d *Disk) change(name string, cost int, bar func() api.Errno, do func(units int)) (errno api.Errno) {
	defer func() {
		if errno == api.ErrDiskDown {
			d.Crash()
		}
	}()
	if refusal := d.reach(name); refusal != api.OK {
		return refusal
	}
	if d.rigs.strike() {
		return api.ErrDiskIO
	}
	if refusal := bar(); refusal != api.OK {
		return refusal
	}
	units := d.rigs.pay(cost)
	do(units)
	if units < cost {
		return api.ErrDiskDown
	}
	return api.OK
}

// alter is a changing call on a file that must be there, done whole or not at all.
func (d *Disk) alter(name string, do func(*file)) api.Errno {
	found := func() api.Errno { return d.find(name) }
	return d.change(name, 1, found, func(units int) {
		if units == 1 {
			do(d.files[name])
		}
	})
}

// reach tells what keeps every call away from a file.
func (d *Disk) reach(name string) api.Errno {
	switch {
	case !isName(name):
		return api.ErrDiskName
	case d.down:
		return api.ErrDiskDown
	}
	return api.OK
}

func (d *Disk) find(name string) api.Errno {
	if !d.has(name) {
		return api.ErrDiskNone
	}
	return api.OK
}

func (d *Disk) has(name string) bool {
	_, ok := d.files[name]
	return ok
}

// room tells whether so many bytes more may be laid into a file, which need not be there.
func (d *Disk) room(name string, more int) api.Errno {
	size := 0
	if f, ok := d.files[name]; ok {
		size = len(f.data)
	} else if len(d.files) >= api.MaxFiles {
		return api.ErrDiskFull
	}
	if more > api.MaxFile-size {
		return api.ErrDiskFull
	}
	return api.OK
}

func (d *Disk) lay(name string, data []byte) {
	if !d.has(name) {
		d.files[strings.Clone(name)] = &file{}
	}
	f := d.files[name]
	f.data = append(f.data, data...)
}

// names tells all names, rising.
func (d *Disk) names() []string { return slices.Sorted(maps.Keys(d.files)) }

// cut keeps the first size bytes, in memory of their own: those cut off aren't to be held.
func (f *file) cut(size int) {
	if size < len(f.data) {
		f.data = bytes.Clone(f.data[:size])
		f.sure = min(f.sure, size)
	}
}

// mayBe tells whether a disk may hold a file.
func mayBe(f api.File) bool {
	return isName(f.Name) && len(f.Data) <= api.MaxFile && f.Synced >= 0 && f.Synced <= len(f.Data)
}

// isName tells whether a file may have that name.
func isName(s string) bool {
	if len(s) == 0 || len(s) > maxName {
		return false
	}
	for at := range len(s) {
		letter := s[at] >= 'a' && s[at] <= 'z'
		digit := s[at] >= '0' && s[at] <= '9'
		if !letter && !digit && s[at] != '-' {
			return false
		}
	}
	return true
}
