package book

import "stockroom/api"

// fours writes numbers as the reader takes them.
func fours(numbers ...int) string {
	var text []byte
	for _, n := range numbers {
		text = append(text, byte(n), byte(n>>8), byte(n>>16), byte(n>>24))
	}
	return string(text)
}

// requestText writes a request as the reader takes it.
func requestText(r api.Request) string {
	return fours(r.ID, r.Kind, r.Cell, r.Hold, r.Count, r.Time)
}
