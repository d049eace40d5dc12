package table_test

import (
	"math"
	"testing"

	"reverie/api"
	"reverie/table"
)

// infos are places of sorts, and numbers that are none.
func infos() []int {
	return []int{math.MinInt, math.MinInt + 1, -1 << 32, math.MinInt32, -60, -2, -1, 0, 1, 2, 3, 59, 60, 61, 255, 256, 1 << 16, 1 << 30, math.MaxInt32 - 1, math.MaxInt32, 1 << 31, 1<<31 + 1, math.MaxUint32, 1 << 32, 1<<32 + 1, 60 << 32, 1 << 62, math.MaxInt - 1, math.MaxInt}
}

// checkHead asks for a head, and whether it is split into what it was made of.
func checkHead(t *testing.T, info, size int, want uint64) {
	t.Helper()
	if w, e := table.Head(info, size); w != want || e != api.OK {
		t.Errorf("Head(%d, %d): %d, error %d, not %d", info, size, w, e, want)
	}
	if i, n, e := table.Split(want); i != info || n != size || e != api.OK {
		t.Errorf("Split(%d): %d %d, error %d, not %d %d", want, i, n, e, info, size)
	}
}

func checkNoHead(t *testing.T, info, size int) {
	t.Helper()
	if w, e := table.Head(info, size); w != 0 || e != api.ErrArg {
		t.Errorf("Head(%d, %d): %d, error %d, not ErrArg and nothing", info, size, w, e)
	}
}

func checkNoSplit(t *testing.T, w uint64) {
	t.Helper()
	if i, n, e := table.Split(w); i != 0 || n != 0 || e != api.ErrForm {
		t.Errorf("Split(%#x): %d %d, error %d, not ErrForm and nothing", w, i, n, e)
	}
}

// checkAny holds what Head makes of any two, and what comes of it, against the document's words.
func checkAny(t *testing.T, info, size int) {
	t.Helper()
	if info < 0 || info >= 1<<31 || size < 1 || size > 60 {
		checkNoHead(t, info, size)
		return
	}
	checkHead(t, info, size, 4294967296*uint64(size)+uint64(info))
}

// checkWord holds what comes of any word against the document's words.
func checkWord(t *testing.T, w uint64) {
	t.Helper()
	info, size := w%4294967296, w/4294967296
	if info >= 1<<31 || size < 1 || size > 60 {
		checkNoSplit(t, w)
		return
	}
	checkHead(t, int(info), int(size), w)
}

func TestHead(t *testing.T) {
	checkHead(t, 3, 2, 8589934595)
	checkHead(t, 0, 1, 4294967296)
	checkHead(t, 1, 1, 4294967297)
	checkHead(t, 0, 2, 8589934592)
	checkHead(t, 0, 60, 257698037760)
	checkHead(t, 60, 1, 4294967356)
	checkHead(t, 2147483647, 1, 6442450943)
	checkHead(t, 2147483647, 60, 259845521407)
	checkHead(t, 2147483646, 59, 0x3b_7ffffffe)
	checkHead(t, 0x12345678, 0x21, 0x21_12345678)
}

func TestNoHead(t *testing.T) {
	wrongInfos := []int{-1, -2, math.MinInt32, math.MinInt, math.MinInt + 1, 1 << 31, 1<<31 + 1, 1 << 32, 1<<32 + 1, 1 << 62, math.MaxInt}
	wrongSizes := []int{0, -1, -60, math.MinInt32, math.MinInt, math.MinInt + 1, 61, 62, 64, 255, 1 << 31, 1 << 32, 1<<32 + 1, 1<<32 + 60, math.MaxInt}
	for _, size := range append(wrongSizes, 1, 2, 59, 60) {
		for _, info := range wrongInfos {
			checkNoHead(t, info, size)
		}
	}
	for _, info := range []int{0, 1, 60, math.MaxInt32} {
		for _, size := range wrongSizes {
			checkNoHead(t, info, size)
		}
	}
}

// TestAnyHead has each of the numbers with each size.
func TestAnyHead(t *testing.T) {
	for _, size := range sizes() {
		for _, info := range infos() {
			checkAny(t, info, size)
		}
	}
}

func TestNoSplit(t *testing.T) {
	for _, w := range []uint64{
		0, 1, 2, 60, 1<<31 - 1, 1 << 31, 1<<32 - 1, // of the size 0
		61 << 32, 61<<32 + 1, 61<<32 + 1<<31 - 1, 62 << 32, 64 << 32, 1 << 38, 255 << 32, 256 << 32, 257 << 32, 1<<63 | 1<<32, 1<<63 | 60<<32, // of a size above the most
		1<<32 + 1<<31, 1<<32 + 1<<31 + 1, 1<<33 - 1, 2<<32 + 1<<31, 60<<32 + 1<<31, 61<<32 - 1, // with an info above 2^31 - 1
		61<<32 + 1<<31, 62<<32 - 1, 1 << 63, 1<<63 - 1, 1<<63 + 1<<31, math.MaxUint64 - 1, math.MaxUint64,
	} {
		checkNoSplit(t, w)
	}
}

// TestTurnedBits has heads, of each of which one bit is turned.
func TestTurnedBits(t *testing.T) {
	for size := 1; size <= 60; size++ {
		for _, info := range []int{0, 1, 5, 60, 1 << 20, math.MaxInt32 - 1, math.MaxInt32} {
			for bit := range 64 {
				checkWord(t, (4294967296*uint64(size)+uint64(info))^1<<bit)
			}
		}
	}
}

// TestMadeHeads has words, and twos, some of which are heads.
func TestMadeHeads(t *testing.T) {
	m := &maker{state: 141}
	heads, twos := 0, 0
	for range 300000 {
		w := m.word() >> m.some(64)
		if m.some(2) == 0 {
			w = uint64(m.some(80))<<32 | w>>31
		}
		if _, _, e := table.Split(w); e == api.OK {
			heads++
		}
		checkWord(t, w)
		info, size := int(m.word())>>m.some(64), m.some(90)-10
		if _, e := table.Head(info, size); e == api.OK {
			twos++
		}
		checkAny(t, info, size)
	}
	if heads < 30000 || heads > 270000 || twos < 30000 || twos > 270000 {
		t.Errorf("of the made words %d are heads, of the made twos %d make one: too few of one kind", heads, twos)
	}
}

// TestOneHeadEach has twos of which no other two makes the same head.
func TestOneHeadEach(t *testing.T) {
	whose := map[uint64][2]int{}
	for size := 1; size <= 60; size++ {
		for _, info := range infos() {
			w, e := table.Head(info, size)
			if other, ok := whose[w]; ok && e == api.OK {
				t.Errorf("%d %d and %d make the head %d", info, size, other, w)
			}
			if e == api.OK {
				whose[w] = [2]int{info, size}
			}
		}
	}
	if len(whose) < 60*10 {
		t.Error("too few heads:", len(whose))
	}
}
