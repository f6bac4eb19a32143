// Package frames: payloads behind their length and sum, so that one that was torn or changed on the disk is known.
package frames

import (
	"iter"

	"stockroom/api"
)

// headSize: the bytes of the length and of the sum, which stand ahead of the payload.
const headSize = 4

// Of tells the frame of a payload, which has at most api.MaxPayload bytes.
func Of(payload string) string {
	length := two(len(payload))
	return length + two(sum(length, payload)) + payload
}

// Only tells the payload of a text that is one frame and nothing else.
func Only(text string) (string, bool) {
	payload, ok := first(text)
	if !ok || len(text) != headSize+len(payload) {
		return "", false
	}
	return payload, true
}

// All goes through the frames that stand one behind the other from the text's beginning on: of each its payload, a piece of the text, and the place behind it.
func All(text string) iter.Seq2[string, int] {
	return func(yield func(string, int) bool) {
		place := 0
	walk:
		for {
			payload, ok := first(text[place:])
			if !ok {
				break walk
			}
			place += headSize + len(payload)
			if !yield(payload, place) {
				break walk
			}
		}
	}
}

// first tells the payload of the frame at the text's beginning, if one stands there whole.
func first(text string) (string, bool) {
	if len(text) < headSize {
		return "", false
	}
	length := number(text[:2])
	if length > api.MaxPayload || length > len(text)-headSize {
		return "", false
	}
	payload := text[headSize : headSize+length]
	if number(text[2:headSize]) != sum(text[:2], payload) {
		return "", false
	}
	return payload, true
}

// sum tells the sum of a frame's length bytes and its payload; it takes them apart to spare joining them.
func sum(length, payload string) int {
	return addBytes(addBytes(1, length), payload)
}

// addBytes carries a sum on over the bytes of a text.
func addBytes(s int, text string) int {
	for i := range len(text) {
		s = (s*api.Factor + int(text[i]) + 1) % api.Prime
	}
	return s
}

// two writes a number from 0 to 65535, the low byte first.
func two(n int) string {
	return string([]byte{byte(n), byte(n >> 8)})
}

// number reads what two wrote.
func number(text string) int {
	return int(text[0]) + int(text[1])<<8
}
