// Package disk: a store's files, and the steps by which they change.
package disk

import "stockroom/api"

// The names that a file may have.
const (
	Log  = "log"
	Snap = "snap"
	Tmp  = "tmp"
)

// Disk is a plain value: a copy of it shares nothing with it.
type Disk struct {
	log, snap, tmp file
}

// Of tells the disk that has a log and a snap. No snap is ever empty, for a frame is not: an empty one says that there is none.
func Of(log, snap string) Disk {
	return Disk{log: onDisk(log), snap: onDisk(snap)}
}

// WriteLog writes to the log's end.
func (d *Disk) WriteLog(text string) {
	d.log.underWay += text
}

// SyncLog brings to the disk what of the log is under way.
func (d *Disk) SyncLog() {
	d.log.sync()
}

// WriteTmp begins a tmp, with a text that is not empty.
func (d *Disk) WriteTmp(text string) {
	d.tmp = file{underWay: text}
}

// SyncTmp brings to the disk what of the tmp is under way.
func (d *Disk) SyncTmp() {
	d.tmp.sync()
}

// MakeSnap makes the tmp the snap, in place of an elder one.
func (d *Disk) MakeSnap() {
	d.snap, d.tmp = d.tmp, file{}
}

// EmptyLog takes away all that is in the log.
func (d *Disk) EmptyLog() {
	d.log = file{}
}

// LogLength tells how many bytes the log has, with those under way.
func (d *Disk) LogLength() int {
	return d.log.length()
}

// Left tells the files, by name, as the power leaves them if it goes now. The log is there even if nothing is in it.
func (d *Disk) Left(keep int, junk string) []api.File {
	files := []api.File{{Name: Log, Data: d.log.left(keep, junk)}}
	if d.snap.isThere() {
		files = append(files, api.File{Name: Snap, Data: d.snap.left(keep, junk)})
	}
	if d.tmp.isThere() {
		files = append(files, api.File{Name: Tmp, Data: d.tmp.left(keep, junk)})
	}
	return files
}
