// Package stockroom: a store's book that outlives the power going: see DOC.md.
package stockroom

import (
	"slices"
	"strings"

	"stockroom/api"
	"stockroom/book"
	"stockroom/disk"
	"stockroom/frames"
)

// Shop keeps the book, and the files that it is opened by again.
type Shop struct {
	book  book.Book
	group int        // how many requests are done together
	room  int        // how many bytes the log may have
	disk  *disk.Disk // without what was cut off
}

// Frame frames a payload (P3).
func Frame(payload string) (string, api.Errno) {
	if len(payload) > api.MaxPayload {
		return "", api.ErrLong
	}
	return frames.Of(payload), api.OK
}

// Scan tells the payloads of the frames at a text's beginning, and where they end (P4).
func Scan(text string) ([]string, int) {
	var payloads []string
	end := 0
	for payload, behind := range frames.All(text) {
		// A piece of the text would keep the whole text in memory as long as the caller has the piece.
		payloads = append(payloads, strings.Clone(payload))
		end = behind
	}
	return payloads, end
}

// Open opens a shop by what is on the disk (P5, P6).
func Open(files []api.File, c api.Config) (*Shop, api.Errno) {
	if !isConfig(c) {
		return nil, api.ErrConfig
	}
	if !areFiles(files) {
		return nil, api.ErrFiles
	}
	b, ok := bookAsOf(files)
	if !ok {
		return nil, api.ErrSnap
	}
	b.Keep(c.Window)
	log, _ := dataOf(files, disk.Log)
	snap, _ := dataOf(files, disk.Snap)
	end := b.Replay(log)
	return &Shop{
		book:  b,
		group: c.Group,
		room:  c.Room,
		disk:  disk.Of(log[:end], snap),
	}, api.OK
}

// Serve answers requests (P7, P8).
func (s *Shop) Serve(l []api.Request) ([]api.Reply, api.Errno) {
	if s.disk.IsDown() {
		return nil, api.ErrDown
	}
	var replies []api.Reply
	e := api.OK
serve:
	for group := range slices.Chunk(l, s.group) {
		next, ok := s.serveGroup(group)
		if !ok {
			e = api.ErrDown
			break serve
		}
		replies = append(replies, next...)
	}
	return replies, e
}

// Cell tells what is in a cell (P9).
func (s *Shop) Cell(i int) (api.Cell, api.Errno) {
	if s.disk.IsDown() {
		return api.Cell{}, api.ErrDown
	}
	if i < 0 || i >= api.Cells {
		return api.Cell{}, api.ErrArg
	}
	return s.book.Cell(i), api.OK
}

// Hold tells of a hold (P9).
func (s *Shop) Hold(h int) (api.Hold, api.Errno) {
	if s.disk.IsDown() {
		return api.Hold{}, api.ErrDown
	}
	if h < 1 || h > api.MaxHold {
		return api.Hold{}, api.ErrArg
	}
	hold, live := s.book.Hold(h)
	if !live {
		return api.Hold{}, api.ErrNone
	}
	return hold, api.OK
}

// Clock tells the time of the last tick (P9).
func (s *Shop) Clock() (int, api.Errno) {
	if s.disk.IsDown() {
		return 0, api.ErrDown
	}
	return s.book.Clock(), api.OK
}

// Count tells how many requests have been done (P9).
func (s *Shop) Count() (int, api.Errno) {
	if s.disk.IsDown() {
		return 0, api.ErrDown
	}
	return s.book.Count(), api.OK
}

// Checkpoint writes a snapshot and empties the log (P10).
func (s *Shop) Checkpoint() api.Errno {
	if s.disk.IsDown() {
		return api.ErrDown
	}
	snap := frames.Of(s.book.Snapshot())
	if s.disk.WriteTmp(snap) && s.disk.SyncTmp() && s.disk.MakeSnap() && s.disk.EmptyLog() {
		return api.OK
	}
	return api.ErrDown
}

// Arm says at which disk step from now on the power goes (P11).
func (s *Shop) Arm(n int) {
	s.disk.Arm(n)
}

// Left tells what is on the disk, if the power goes now or is gone (P12).
func (s *Shop) Left(keep int, junk string) []api.File {
	return s.disk.Left(keep, junk)
}
