package table

import (
	"math"

	"reverie/api"
)

// Head is a closure's first word: of which sort it is, and how many words are behind.
func Head(info, size int) (uint64, api.Errno) {
	if info < 0 || info > math.MaxInt32 || size < 1 || size > Most {
		return 0, api.ErrArg
	}
	return uint64(size)<<32 | uint64(info), api.OK
}

// Split is of which sort a closure is, and how many words are behind its first one; ErrForm, if no Head is such a word.
func Split(w uint64) (int, int, api.Errno) {
	size, info := w>>32, w&math.MaxUint32
	if info > math.MaxInt32 || size < 1 || size > Most {
		return 0, 0, api.ErrForm
	}
	return int(info), int(size), api.OK
}
