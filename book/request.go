package book

import "stockroom/api"

// Looked: numbers of which it is known whether they are a request's. A book takes nothing else, so that none goes in unseen.
type Looked struct {
	request api.Request
	good    bool
}

// LookOver hangs on no book: many requests may be looked over at the same time.
func LookOver(r api.Request) Looked {
	return Looked{request: r, good: isRequest(r)}
}

// isRequest tells whether the numbers are a request's: what its kind asks for is within bounds, and the others are 0.
func isRequest(r api.Request) bool {
	if r.ID < 1 || r.ID > api.MaxID {
		return false
	}
	switch r.Kind {
	case api.Receive:
		return isCell(r.Cell) && isCount(r.Count) && r.Hold == 0 && r.Time == 0
	case api.Reserve:
		return isCell(r.Cell) && isHold(r.Hold) && isCount(r.Count) && isTime(r.Time)
	case api.Commit, api.Release:
		return isHold(r.Hold) && r.Cell == 0 && r.Count == 0 && r.Time == 0
	case api.Tick:
		return isTime(r.Time) && r.Cell == 0 && r.Hold == 0 && r.Count == 0
	}
	return false
}

func isCell(n int) bool  { return n >= 0 && n < api.Cells }
func isHold(n int) bool  { return n >= 1 && n <= api.MaxHold }
func isCount(n int) bool { return n >= 1 && n <= api.MaxCount }
func isTime(n int) bool  { return n >= 0 && n <= api.MaxTime }
