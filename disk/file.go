package disk

import (
	"strings"

	"stockroom/api"
)

// file: what of it outlives the power going for sure, and what was written behind that since.
type file struct {
	synced, underWay string
}

// onDisk copies the text, so that the caller's is not kept.
func onDisk(text string) file {
	return file{synced: strings.Clone(text)}
}

func (f *file) sync() {
	f.synced += f.underWay
	f.underWay = ""
}

func (f *file) length() int {
	return len(f.synced) + len(f.underWay)
}

// isThere tells whether anything was ever written, on the disk or not.
func (f *file) isThere() bool {
	return f.length() > 0
}

// left tells the file as the power leaves it: of the bytes under way the first few, and junk behind them.
func (f *file) left(keep int, junk string) string {
	text := f.synced
	if f.underWay != "" {
		text += f.underWay[:min(max(keep, 0), len(f.underWay))]
		text += junk[:min(len(junk), api.MaxJunk)]
	}
	// Texts that are joined to empty ones may be the same memory as before.
	return strings.Clone(text)
}
