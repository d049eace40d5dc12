package plane

import (
	"math"
	"testing"

	"reverie/api"
)

// checkWord asks whether a point's word is that, and whether that word's point is it.
func checkWord(t *testing.T, p pair, want uint64) {
	t.Helper()
	if got := p.point().Word(); got != want {
		t.Errorf("%v: the word %#x, not %#x", p, got, want)
	}
	got, e := FromWord(want)
	if e != api.OK {
		t.Errorf("%#x: error %d", want, e)
	}
	checkPoint(t, "from a word", got, p)
}

// checkNone asks whether a number is no point's.
func checkNone(t *testing.T, w uint64) {
	t.Helper()
	if !isNone(w) {
		p, e := FromWord(w)
		t.Errorf("%#x: %v %d, not ErrForm and nothing", w, complex128(p), e)
	}
}

// isNone tells whether FromWord answers that a number is no point's.
func isNone(w uint64) bool {
	p, e := FromWord(w)
	return e == api.ErrForm && exactly(p, 0)
}

// checkAny holds a number against the document's words.
func checkAny(t *testing.T, w uint64) {
	t.Helper()
	p := pair{int64(int32(w >> 32)), int64(int32(w))}
	if p.re < least || p.re > greatest || p.im < least || p.im > greatest {
		checkNone(t, w)
		return
	}
	checkWord(t, p, w)
}

func TestWords(t *testing.T) {
	checkWord(t, pair{0, 0}, 0)
	checkWord(t, pair{1, 0}, 0x00000001_00000000)
	checkWord(t, pair{0, 1}, 0x00000000_00000001)
	checkWord(t, pair{-1, 0}, 0xffffffff_00000000)
	checkWord(t, pair{0, -1}, 0x00000000_ffffffff)
	checkWord(t, pair{-1, -1}, math.MaxUint64)
	checkWord(t, pair{1, 2}, 0x00000001_00000002)
	checkWord(t, pair{-5, 10}, 0xfffffffb_0000000a)
	checkWord(t, pair{5, -10}, 0x00000005_fffffff6)
	checkWord(t, pair{-5, -10}, 0xfffffffb_fffffff6)
	checkWord(t, pair{0x123456, -0x123456}, 0x00123456_ffedcbaa)
	checkWord(t, pair{least, 0}, 0xff800000_00000000)
	checkWord(t, pair{0, least}, 0x00000000_ff800000)
	checkWord(t, pair{greatest, 0}, 0x007fffff_00000000)
	checkWord(t, pair{0, greatest}, 0x00000000_007fffff)
	checkWord(t, pair{least, least}, 0xff800000_ff800000)
	checkWord(t, pair{greatest, greatest}, 0x007fffff_007fffff)
	checkWord(t, pair{least, greatest}, 0xff800000_007fffff)
	checkWord(t, pair{greatest, least}, 0x007fffff_ff800000)
}

func TestWordsOfNone(t *testing.T) {
	right := []uint64{0, 1, 0xffffffff, 0x7fffff, 0xff800000}
	wrong := []uint64{0x800000, 0xff7fffff, 0x800001, 0xff7ffffe, 0xffffff, 0x1000000, 0x1000001, 0xff000000, 0xfeffffff, 0x7fffffff, 0x80000000, 0x40000000, 0xbfffffff}
	for _, w := range wrong {
		for _, r := range right {
			checkNone(t, w<<32|r)
			checkNone(t, r<<32|w)
		}
		for _, other := range wrong {
			checkNone(t, w<<32|other)
		}
	}
	checkNone(t, 1<<63)
	checkNone(t, math.MaxInt64)
	checkNone(t, math.Float64bits(1))
}

// TestTurnedBits has words of points, of each of which one bit is turned.
func TestTurnedBits(t *testing.T) {
	for _, p := range ends() {
		w := p.point().Word()
		for bit := range 64 {
			checkAny(t, w^1<<bit)
		}
	}
}

// inWords is what is put in a number's halves.
func inWords(upper, lower int64) uint64 { return uint64(uint32(upper))<<32 | uint64(uint32(lower)) }

// TestAllParts has each part there is, in both halves, there and back; and what is as far beyond these, which is the same as a part, but no point's.
func TestAllParts(t *testing.T) {
	for n := int64(least); n <= greatest && !t.Failed(); n++ {
		other := -1 - n
		p := Of(n, other)
		w := inWords(n, other)
		back, e := FromWord(w)
		if p.Re() != n || p.Im() != other || p.Word() != w || e != api.OK || !exactly(back, p) {
			t.Errorf("%d %d: %d %d, the word %#x, and back %v %d", n, other, p.Re(), p.Im(), p.Word(), complex128(back), e)
		}
		if up, down := inWords(n+1<<24, other), inWords(other, n-1<<24); !isNone(up) || !isNone(down) {
			t.Errorf("%#x or %#x is a point's", up, down)
		}
	}
}

func TestMadeWords(t *testing.T) {
	m := &maker{state: 82}
	none := 0
	for range 200000 {
		w := m.word()
		if m.some(2) == 0 {
			w = inWords(int64(int32(w>>32))>>m.some(16), int64(int32(w))>>m.some(16))
		}
		if _, e := FromWord(w); e != api.OK {
			none++
		}
		checkAny(t, w)
		p := m.pair()
		checkWord(t, p, inWords(p.re, p.im))
	}
	if none < 20000 || none > 180000 {
		t.Errorf("of the made numbers %d are no point's: too few of one kind", none)
	}
}

// TestOneWordEach has points of which no two have the same word.
func TestOneWordEach(t *testing.T) {
	whose := map[uint64]pair{}
	for _, p := range ends() {
		w := p.point().Word()
		if other, ok := whose[w]; ok {
			t.Errorf("%v and %v have the word %#x", p, other, w)
		}
		whose[w] = p
	}
}
