// Package disk: a store's files, the steps by which they change, and the power that may go at a step.
package disk

import "stockroom/api"

// The names that a file may have.
const (
	Log  = "log"
	Snap = "snap"
	Tmp  = "tmp"
)

// Disk has files, and the power that its steps take. It is not to be copied: each copy would count steps of its own, but the power is one.
type Disk struct {
	power
	log, snap, tmp file
}

// Of tells the disk that has a log and a snap. No snap is ever empty, for a frame is not: an empty one says that there is none.
func Of(log, snap string) *Disk {
	return &Disk{power: on(), log: onDisk(log), snap: onDisk(snap)}
}

// A step is asked for only while there is power, and tells whether it stayed. If it went the step is not done; but a write is begun ahead of that, so that all its bytes are under way.

// WriteLog writes to the log's end.
func (d *Disk) WriteLog(text string) bool {
	d.log.underWay += text
	return d.step()
}

// SyncLog brings to the disk what of the log is under way.
func (d *Disk) SyncLog() bool {
	if !d.step() {
		return false
	}
	d.log.sync()
	return true
}

// WriteTmp begins a tmp, with a text that is not empty.
func (d *Disk) WriteTmp(text string) bool {
	d.tmp = file{underWay: text}
	return d.step()
}

// SyncTmp brings to the disk what of the tmp is under way.
func (d *Disk) SyncTmp() bool {
	if !d.step() {
		return false
	}
	d.tmp.sync()
	return true
}

// MakeSnap makes the tmp the snap, in place of an elder one.
func (d *Disk) MakeSnap() bool {
	if !d.step() {
		return false
	}
	d.snap, d.tmp = d.tmp, file{}
	return true
}

// EmptyLog takes away all that is in the log.
func (d *Disk) EmptyLog() bool {
	if !d.step() {
		return false
	}
	d.log = file{}
	return true
}

// LogLength tells how many bytes the log has, with those under way.
func (d *Disk) LogLength() int {
	return d.log.length()
}

// Left tells the files, by name, as the power leaves them if it goes now. The log is there even if nothing is in it.
func (d *Disk) Left(keep int, junk string) []api.File {
	files := []api.File{{Name: Log, Data: d.log.left(keep, junk)}}
	if d.snap.isThere() {
		files = append(files, api.File{Name: Snap, Data: d.snap.left(keep, junk)})
	}
	if d.tmp.isThere() {
		files = append(files, api.File{Name: Tmp, Data: d.tmp.left(keep, junk)})
	}
	return files
}
