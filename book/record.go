package book

import "stockroom/api"

// record: a request, and as the how many-th it was done.
type record struct {
	number  int
	request api.Request
}

// Record tells the payload of the record of a request that was done as the number-th.
func Record(number int, x Looked) string {
	return fours(number) + requestText(x.request)
}

func readRecord(payload string) (record, bool) {
	r := &reader{left: payload}
	rec := record{number: r.next(), request: r.request()}
	return rec, r.ended()
}
