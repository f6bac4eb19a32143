package stockroom

import (
	"slices"

	"stockroom/api"
	"stockroom/book"
	"stockroom/disk"
	"stockroom/frames"
)

func isConfig(c api.Config) bool {
	return c.Window >= 1 && c.Window <= api.MaxWindow &&
		c.Group >= 1 && c.Group <= api.MaxGroup &&
		c.Room >= api.MinRoom && c.Room <= api.MaxRoom
}

// areFiles tells whether each file has a name that it may have, and none the name of another.
func areFiles(files []api.File) bool {
	good := true
look:
	for i, f := range files {
		switch f.Name {
		case disk.Log, disk.Snap, disk.Tmp:
			if _, twice := dataOf(files[:i], f.Name); !twice {
				continue look
			}
		}
		good = false
		break look
	}
	return good
}

// dataOf tells what is in the file with a name, and whether there is one.
func dataOf(files []api.File, name string) (string, bool) {
	i := slices.IndexFunc(files, func(f api.File) bool { return f.Name == name })
	if i < 0 {
		return "", false
	}
	return files[i].Data, true
}

// bookAsOf tells the book of the snapshot among the files, or the one at the beginning; none, if the snapshot is none.
func bookAsOf(files []api.File) (book.Book, bool) {
	snap, there := dataOf(files, disk.Snap)
	if !there {
		return book.New(), true
	}
	payload, ok := frames.Only(snap)
	if !ok {
		return book.Book{}, false
	}
	return book.Restore(payload)
}
