// Package watch has disks in memory that tell what they are asked. The tests of the layers above see by them that disks are asked in just the order that a chapter says, and what becomes of it where one of these operations fails.
package watch

import (
	"strconv"
	"strings"

	"strongbox/api"
	"strongbox/disk"
)

// Disk tells each of its operations in a log, and asks Before what befalls it: with an error the operation is told, and not done.
type Disk struct {
	*disk.Sim
	Before func(op, path string) api.Errno // nil: nothing befalls it
	number int
	log    *[]string
}

// Disks is n disks of so many bytes that share a fuse, and the log that they share.
func Disks(n, most int, f *disk.Fuse) ([]*Disk, *[]string) {
	log := &[]string{}
	all := make([]*Disk, n)
	for i := range all {
		all[i] = &Disk{Sim: disk.New(most, f), number: i, log: log}
	}
	return all, log
}

func (d *Disk) ask(op, path string, more ...string) api.Errno {
	*d.log = append(*d.log, tell(d.number, op, path, more...))
	if d.Before == nil {
		return api.OK
	}
	return d.Before(op, path)
}

func tell(number int, op, path string, more ...string) string {
	words := append([]string{strconv.Itoa(number), op, path}, more...)
	return strings.Join(words, " ")
}

// Read is the disk's, told as "0 Read path".
func (d *Disk) Read(path string) ([]byte, api.Errno) {
	if e := d.ask("Read", path); e != api.OK {
		return nil, e
	}
	return d.Sim.Read(path)
}

// Write is the disk's, told as "0 Write path", and how many bytes.
func (d *Disk) Write(path string, b []byte) api.Errno {
	if e := d.ask("Write", path, strconv.Itoa(len(b))); e != api.OK {
		return e
	}
	return d.Sim.Write(path, b)
}

// Sync is the disk's, told as "0 Sync path".
func (d *Disk) Sync(path string) api.Errno {
	if e := d.ask("Sync", path); e != api.OK {
		return e
	}
	return d.Sim.Sync(path)
}

// Rename is the disk's, told as "0 Rename from to"; Before hears of from.
func (d *Disk) Rename(from, to string) api.Errno {
	if e := d.ask("Rename", from, to); e != api.OK {
		return e
	}
	return d.Sim.Rename(from, to)
}

// Delete is the disk's, told as "0 Delete path".
func (d *Disk) Delete(path string) api.Errno {
	if e := d.ask("Delete", path); e != api.OK {
		return e
	}
	return d.Sim.Delete(path)
}

// List is the disk's, told as "0 List prefix".
func (d *Disk) List(prefix string) ([]string, api.Errno) {
	if e := d.ask("List", prefix); e != api.OK {
		return nil, e
	}
	return d.Sim.List(prefix)
}

// Reading is how a log tells the Read of a path.
func Reading(number int, path string) string { return tell(number, "Read", path) }

// Saving is how a log tells the operations of an array's Save of so many bytes.
func Saving(number int, path string, length int) []string {
	return []string{
		tell(number, "Write", "tmp", strconv.Itoa(length)),
		tell(number, "Sync", "tmp"),
		tell(number, "Rename", "tmp", path),
	}
}

// State tells all files of a disk, in order, as Synced and Loose do, and leaves no trace in the log.
func State(s *disk.Sim) string {
	var b strings.Builder
	for _, p := range s.Files() {
		c, synced, _ := s.Look(p)
		b.WriteString(file(p, string(c), synced))
	}
	return b.String()
}

// Synced is how State tells a file that is synced.
func Synced(path, b string) string { return file(path, b, true) }

// Loose is how State tells a file that is not synced.
func Loose(path, b string) string { return file(path, b, false) }

func file(path, b string, synced bool) string {
	return strconv.Quote(path) + " " + strconv.Quote(b) + " " + strconv.FormatBool(synced) + "; "
}
