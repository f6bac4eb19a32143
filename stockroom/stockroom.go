// Package stockroom: a store's book that outlives the power going: see DOC.md.
package stockroom

import (
	"strings"

	"stockroom/api"
	"stockroom/frames"
)

// Shop keeps the book.
type Shop struct{}

// Frame frames a payload (P3).
func Frame(payload string) (string, api.Errno) {
	if len(payload) > api.MaxPayload {
		return "", api.ErrLong
	}
	return frames.Of(payload), api.OK
}

// Scan tells the payloads of the frames at a text's beginning, and where they end (P4).
func Scan(text string) ([]string, int) {
	var payloads []string
	end := 0
	for payload, behind := range frames.All(text) {
		// A piece of the text would keep the whole text in memory as long as the caller has the piece.
		payloads = append(payloads, strings.Clone(payload))
		end = behind
	}
	return payloads, end
}

// Open opens a shop by what is on the disk (P5, P6).
func Open(files []api.File, c api.Config) (*Shop, api.Errno) { return nil, api.OK }

// Serve answers requests (P7, P8).
func (s *Shop) Serve(l []api.Request) ([]api.Reply, api.Errno) { return nil, api.OK }

// Cell tells what is in a cell (P9).
func (s *Shop) Cell(i int) (api.Cell, api.Errno) { return api.Cell{}, api.OK }

// Hold tells of a hold (P9).
func (s *Shop) Hold(h int) (api.Hold, api.Errno) { return api.Hold{}, api.OK }

// Clock tells the time of the last tick (P9).
func (s *Shop) Clock() (int, api.Errno) { return 0, api.OK }

// Count tells how many requests have been done (P9).
func (s *Shop) Count() (int, api.Errno) { return 0, api.OK }

// Checkpoint writes a snapshot and empties the log (P10).
func (s *Shop) Checkpoint() api.Errno { return api.OK }

// Arm says at which disk step from now on the power goes (P11).
func (s *Shop) Arm(n int) {}

// Left tells what is on the disk, if the power goes now or is gone (P12).
func (s *Shop) Left(keep int, junk string) []api.File { return nil }
