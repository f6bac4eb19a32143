package stockroom

import (
	"sync"

	"stockroom/api"
	"stockroom/book"
	"stockroom/frames"
)

// serveGroup answers the requests of one group, or tells that the power went. What it does it does in a copy of the book, so that none is done if there is no room for all.
func (s *Shop) serveGroup(group []api.Request) ([]api.Reply, bool) {
	next := s.book
	records := ""
	var replies, refusals []api.Reply
	for x := range lookedOver(group) {
		refusals = append(refusals, s.refusal(x))
		reply, done := next.Ask(x)
		replies = append(replies, reply)
		if done {
			records += frames.Of(book.Record(next.Count(), x))
		}
	}
	if records == "" {
		return replies, true
	}
	if s.disk.LogLength()+len(records) > s.room || next.Count() > book.MaxDone {
		return refusals, true
	}
	if !s.disk.WriteLog(records) || !s.disk.SyncLog() {
		return nil, false
	}
	s.book = next
	return replies, true
}

// lookedOver hands over the requests of a group in their order, when all have been looked over.
func lookedOver(group []api.Request) <-chan book.Looked {
	looked := make([]book.Looked, len(group))
	var all sync.WaitGroup
	for i, r := range group {
		all.Add(1)
		go func() {
			defer all.Done()
			looked[i] = book.LookOver(r)
		}()
	}
	all.Wait()
	line := make(chan book.Looked, len(group))
	for _, x := range looked {
		line <- x
	}
	close(line)
	return line
}

// refusal tells the reply to a request of a group that is not done: the others of the group do not count.
func (s *Shop) refusal(x book.Looked) api.Reply {
	reply, known := s.book.Known(x)
	if !known {
		return api.Reply{Code: api.Refused}
	}
	return reply
}
