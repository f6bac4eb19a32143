package book

import "stockroom/frames"

// Replay does the records of a log that the book has not done yet, and tells the place where the log ends: behind the last frame that goes on from the one ahead.
func (b *Book) Replay(log string) int {
	old := b.done
	ahead, end := 0, 0
walk:
	for payload, behind := range frames.All(log) {
		rec, ok := readRecord(payload)
		if !ok || !follows(rec.number, ahead, old) {
			break walk
		}
		ahead = rec.number
		if rec.number <= old {
			end = behind
			continue walk
		}
		if _, done := b.Ask(LookOver(rec.request)); !done {
			break walk
		}
		end = behind
	}
	return end
}

// follows tells whether a record's number may stand behind the one ahead, which is 0 for the first: that one need only leave no gap behind the requests that the book has done of old.
func follows(number, ahead, old int) bool {
	if number > MaxDone {
		return false
	}
	if ahead == 0 {
		return number >= 1 && number <= old+1
	}
	return number == ahead+1
}
