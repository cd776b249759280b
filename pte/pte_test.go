package pte

import (
	"math"
	"math/rand"
	"testing"

	"estovers/api"
)

const greatest = 1<<32 - 1

// numbers are ordinary numbers, and those at and beside the limits.
func numbers() []int {
	return []int{
		0, 1, 2, 3, 5, 8, 16, 255, 256, 511, 1<<31 - 1, 1 << 31, greatest - 8, greatest - 7, greatest - 6, greatest - 1, greatest,
		greatest + 1, greatest + 2, 1 << 40, 1<<56 + 1, math.MaxInt, -1, -2, -greatest, -1 << 32, math.MinInt,
	}
}

func kinds() []int {
	return []int{0, 1, 2, 3, 4, 5, 6, 7, 8, 9, 256, 1 << 32, 1<<32 + 1, math.MaxInt, -1, -2, -8, math.MinInt}
}

// entries returns an entry of each kind with each number and each combination of flags.
func entries() []api.Entry {
	var out []api.Entry
	for _, kind := range kinds() {
		for _, number := range numbers() {
			for flags := range 16 {
				out = append(out, api.Entry{Kind: kind, Number: number, Write: flags&1 != 0, Accessed: flags&2 != 0, Dirty: flags&4 != 0, Huge: flags&8 != 0})
			}
		}
	}
	return out
}

// encoded is a direct reading of the promise of Encode.
func encoded(e api.Entry) (uint64, int) {
	if e.Kind != api.EntryNone && e.Kind != api.EntryPage && e.Kind != api.EntrySwap && e.Kind != api.EntryMove && e.Kind != api.EntryTable {
		return 0, api.ErrArg
	}
	if e.Number < 0 || e.Number > greatest || e.Kind == api.EntryPage && e.Huge && e.Number > greatest-7 {
		return 0, api.ErrRange
	}
	if e.Kind == api.EntryNone && e.Number != 0 {
		return 0, api.ErrForm
	}
	if e.Kind != api.EntryPage && (e.Accessed || e.Dirty || e.Huge) || e.Kind != api.EntryPage && e.Kind != api.EntryMove && e.Write {
		return 0, api.ErrForm
	}
	sum := e.Kind + 256*e.Number
	for _, f := range []struct {
		on    bool
		value int
	}{{e.Write, 8}, {e.Accessed, 16}, {e.Dirty, 32}, {e.Huge, 64}} {
		if f.on {
			sum += f.value
		}
	}
	return uint64(sum), api.OK
}

// wellFormed returns the well-formed ones of the entries, by word.
func wellFormed() map[uint64]api.Entry {
	out := map[uint64]api.Entry{}
	for _, e := range entries() {
		if w, err := encoded(e); err == api.OK {
			out[w] = e
		}
	}
	return out
}

// words are words of well-formed entries, and words that differ from them in one bit.
func words() []uint64 {
	out := []uint64{math.MaxUint64}
	for w := range wellFormed() {
		out = append(out, w)
		for bit := range 64 {
			out = append(out, w^1<<bit)
		}
	}
	return out
}

// decoded is a direct reading of the promise of Decode.
func decoded(w uint64) (api.Entry, bool) {
	if w>>40 != 0 {
		return api.Entry{}, false
	}
	e := api.Entry{Kind: int(w % 8), Number: int(w / 256), Write: w/8%2 == 1, Accessed: w/16%2 == 1, Dirty: w/32%2 == 1, Huge: w/64%2 == 1}
	back, err := encoded(e)
	if err != api.OK || back != w {
		return api.Entry{}, false
	}
	return e, true
}

// P5.1
func TestEncode(t *testing.T) {
	seen := map[uint64]api.Entry{}
	for _, e := range entries() {
		w, err := Encode(e)
		want, wantErr := encoded(e)
		if w != want || err != wantErr {
			t.Errorf("Encode(%v) = %d, %d, want %d, %d", e, w, err, want, wantErr)
		}
		if err != api.OK {
			continue
		}
		// P5.3: different entries have different words.
		if other, ok := seen[w]; ok {
			t.Errorf("%v and %v have the word %d", e, other, w)
		}
		seen[w] = e
		if back, err := Decode(w); back != e || err != api.OK {
			t.Errorf("Decode(Encode(%v)) = %v, %d", e, back, err)
		}
	}
}

// P5.1, with literal words.
func TestEncodeWords(t *testing.T) {
	for _, c := range []struct {
		e    api.Entry
		w    uint64
		want int
	}{
		{api.Entry{}, 0, api.OK},
		{api.Entry{Kind: api.EntryPage}, 1, api.OK},
		{api.Entry{Kind: api.EntryPage, Number: 5, Write: true, Accessed: true}, 1305, api.OK},
		{api.Entry{Kind: api.EntrySwap, Number: 3}, 770, api.OK},
		{api.Entry{Kind: api.EntryPage, Number: 16, Write: true, Dirty: true, Huge: true}, 4201, api.OK},
		{api.Entry{Kind: api.EntryTable, Number: greatest}, 0xffffffff04, api.OK},
		{api.Entry{Kind: api.EntryMove, Number: greatest, Write: true}, 0xffffffff0b, api.OK},
		{api.Entry{Kind: api.EntryPage, Number: greatest, Write: true, Accessed: true, Dirty: true}, 0xffffffff39, api.OK},
		{api.Entry{Kind: api.EntryPage, Number: greatest - 7, Huge: true}, 0xfffffff841, api.OK},
		{api.Entry{Kind: api.EntryPage, Number: greatest - 6, Huge: true}, 0, api.ErrRange},
		{api.Entry{Kind: api.EntrySwap, Number: greatest - 6, Huge: true}, 0, api.ErrForm},
		{api.Entry{Kind: api.EntryTable, Number: greatest + 1, Huge: true}, 0, api.ErrRange},
		{api.Entry{Kind: api.EntryNone, Number: 1}, 0, api.ErrForm},
		{api.Entry{Kind: api.EntryNone, Number: -1}, 0, api.ErrRange},
		{api.Entry{Kind: 5, Number: -1}, 0, api.ErrArg},
		{api.Entry{Kind: -1, Write: true}, 0, api.ErrArg},
	} {
		if w, err := Encode(c.e); w != c.w || err != c.want {
			t.Errorf("Encode(%v) = %d, %d, want %d, %d", c.e, w, err, c.w, c.want)
		}
	}
}

// P5.1
func TestDecode(t *testing.T) {
	known := wellFormed()
	for _, w := range words() {
		e, err := Decode(w)
		want, ok := decoded(w)
		if listed, exists := known[w]; exists && (listed != want || !ok) {
			t.Fatalf("the reading of %d is %v, want %v", w, want, listed)
		}
		switch {
		case !ok && (err != api.ErrForm || e != api.Entry{}):
			t.Errorf("Decode(%d) = %v, %d, want ErrForm", w, e, err)
		case ok && (err != api.OK || e != want):
			t.Errorf("Decode(%d) = %v, %d, want %v", w, e, err, want)
		}
		// P5.3: Encode is the inverse.
		if back, err := Encode(e); ok && (back != w || err != api.OK) {
			t.Errorf("Encode(Decode(%d)) = %d, %d", w, back, err)
		}
	}
	for low := range uint64(256) {
		for _, high := range []uint64{0, 256, 770, 1 << 39, 1 << 40, 1 << 63} {
			_, err := Decode(low | high)
			if _, ok := decoded(low | high); ok != (err == api.OK) {
				t.Errorf("Decode(%d) has the error %d", low|high, err)
			}
		}
	}
}

// change is a function of one word, and the direct reading of its promise: the entry behind it, or an error.
type change struct {
	name  string
	do    func(w uint64) (uint64, int)
	state func(e *api.Entry) int
}

func changes() []change {
	return []change{
		{"Mark for reading", func(w uint64) (uint64, int) { return Mark(w, false) }, func(e *api.Entry) int {
			if e.Kind != api.EntryPage {
				return api.ErrState
			}
			e.Accessed = true
			return api.OK
		}},
		{"Mark for writing", func(w uint64) (uint64, int) { return Mark(w, true) }, func(e *api.Entry) int {
			if e.Kind != api.EntryPage {
				return api.ErrState
			}
			if !e.Write {
				return api.ErrAccess
			}
			e.Accessed, e.Dirty = true, true
			return api.OK
		}},
		{"Old", Old, func(e *api.Entry) int {
			if e.Kind != api.EntryPage {
				return api.ErrState
			}
			e.Accessed = false
			return api.OK
		}},
		{"Protect", Protect, func(e *api.Entry) int {
			if e.Kind != api.EntryPage && e.Kind != api.EntryMove {
				return api.ErrState
			}
			e.Write = false
			return api.OK
		}},
	}
}

// P5.2 for Mark, Old and Protect, and P5.3: they change neither kind nor number.
func TestChange(t *testing.T) {
	for _, c := range changes() {
		for _, w := range words() {
			got, err := c.do(w)
			e, ok := decoded(w)
			want, wantErr := e, api.ErrForm
			if ok {
				wantErr = c.state(&want)
			}
			if wantErr != api.OK {
				if got != 0 || err != wantErr {
					t.Errorf("%s of %d = %d, %d, want the error %d", c.name, w, got, err, wantErr)
				}
				continue
			}
			after, ok := decoded(got)
			if err != api.OK || !ok || after != want || after.Kind != e.Kind || after.Number != e.Number {
				t.Errorf("%s of %v = %v, %d, want %v", c.name, e, after, err, want)
			}
		}
	}
}

// P5.2 for Part, and P5.3.
func TestPart(t *testing.T) {
	for _, w := range words() {
		e, ok := decoded(w)
		for _, i := range []int{0, 1, 2, 3, 4, 5, 6, 7, 8, 9, -1, -8, 256, 1 << 32, math.MaxInt, math.MinInt} {
			got, err := Part(w, i)
			want, wantErr := api.Entry{Kind: api.EntryPage, Number: e.Number + i, Write: e.Write, Accessed: e.Accessed, Dirty: e.Dirty}, api.OK
			switch {
			case !ok:
				wantErr = api.ErrForm
			case e.Kind != api.EntryPage || !e.Huge:
				wantErr = api.ErrState
			case i < 0 || i > 7:
				wantErr = api.ErrRange
			}
			if wantErr != api.OK {
				if got != 0 || err != wantErr {
					t.Errorf("Part(%d, %d) = %d, %d, want the error %d", w, i, got, err, wantErr)
				}
				continue
			}
			if part, ok := decoded(got); err != api.OK || !ok || part != want {
				t.Errorf("Part(%d, %d) = %v, %d, want %v", w, i, part, err, want)
			}
		}
	}
}

// joined is a direct reading of the promise of Join.
func joined(parts [8]uint64) (uint64, int) {
	var pages [8]api.Entry
	whole := api.Entry{Kind: api.EntryPage, Huge: true}
	for i, w := range parts {
		e, ok := decoded(w)
		if !ok {
			return 0, api.ErrForm
		}
		pages[i] = e
		whole.Accessed = whole.Accessed || e.Accessed
		whole.Dirty = whole.Dirty || e.Dirty
	}
	whole.Number, whole.Write = pages[0].Number, pages[0].Write
	state, order, access := false, false, false
	for i, e := range pages {
		state = state || e.Kind != api.EntryPage || e.Huge
		order = order || e.Number-i != pages[0].Number
		for _, other := range pages {
			access = access || e.Write != other.Write
		}
	}
	switch {
	case state:
		return 0, api.ErrState
	case order:
		return 0, api.ErrOrder
	case access:
		return 0, api.ErrAccess
	}
	return encoded(whole)
}

// page returns the word of the entry of a page, with the flags Write, Accessed and Dirty in the bits 0 to 2.
func page(number, flags int) uint64 { return uint64(1 + 8*flags + 256*number) }

func expectJoin(t *testing.T, parts [8]uint64) {
	t.Helper()
	w, err := Join(parts)
	if want, wantErr := joined(parts); w != want || err != wantErr {
		t.Errorf("Join(%v) = %d, %d, want %d, %d", parts, w, err, want, wantErr)
	}
}

// P5.2 for Join, with two defects at all places.
func TestJoinErrors(t *testing.T) {
	defects := func(i int) []uint64 {
		return []uint64{
			page(40+i, 1), page(40+i, 0), page(41+i, 1), page(39+i, 1), page(39+i, 0), page(40+i, 1) + 64, page(40+i, 7),
			0, uint64(2 + 256*(40+i)), uint64(3 + 8 + 256*(40+i)), uint64(4 + 256*(40+i)), 128, 5, 1 << 40, math.MaxUint64, 256,
		}
	}
	for i := range 8 {
		for j := range 8 {
			for _, first := range defects(i) {
				for _, second := range defects(j) {
					var parts [8]uint64
					for n := range parts {
						parts[n] = page(40+n, 1)
					}
					parts[i], parts[j] = first, second
					expectJoin(t, parts)
				}
			}
		}
	}
}

// P5.2 for Join, with literal errors.
func TestJoinOrder(t *testing.T) {
	good := func() [8]uint64 {
		var parts [8]uint64
		for i := range parts {
			parts[i] = page(16+i, 1)
		}
		return parts
	}
	for _, c := range []struct {
		what   string
		change func(parts *[8]uint64)
		want   int
	}{
		{"nothing", func(p *[8]uint64) {}, api.OK},
		{"a write", func(p *[8]uint64) { p[7] &^= 8 }, api.ErrAccess},
		{"a number after a write", func(p *[8]uint64) { p[1] &^= 8; p[7] += 256 }, api.ErrOrder},
		{"a kind after a number", func(p *[8]uint64) { p[1] += 256; p[7] = 0 }, api.ErrState},
		{"a huge page after a number", func(p *[8]uint64) { p[1] += 256; p[7] |= 64 }, api.ErrState},
		{"a malformed word after a kind", func(p *[8]uint64) { p[0] = 0; p[7] = 7 }, api.ErrForm},
		{"no entries", func(p *[8]uint64) { *p = [8]uint64{} }, api.ErrState},
	} {
		parts := good()
		c.change(&parts)
		w, err := Join(parts)
		if err != c.want || (err == api.OK) != (w == 1+8+64+16*256) || err != api.OK && w != 0 {
			t.Errorf("%s: Join(%v) = %d, %d, want the error %d", c.what, parts, w, err, c.want)
		}
	}
}

// P5.2 for Join, with the flags of all parts, and at the limits of numbers.
func TestJoinFlags(t *testing.T) {
	random := rand.New(rand.NewSource(1))
	for _, start := range []int{0, 1, 16, greatest - 9, greatest - 8, greatest - 7, greatest - 6, greatest} {
		for write := range 2 {
			for range 200 {
				var parts [8]uint64
				used := random.Intn(8)
				for i := range parts {
					// Numbers behind the last one begin again at 0.
					parts[i] = page((start+i)%(greatest+1), write+random.Intn(8)&used&6)
				}
				expectJoin(t, parts)
			}
		}
	}
}

// P5.3
func TestPartsAreJoined(t *testing.T) {
	for w, e := range wellFormed() {
		if !e.Huge {
			continue
		}
		var parts [8]uint64
		for i := range parts {
			part, err := Part(w, i)
			if err != api.OK {
				t.Fatalf("Part(%d, %d) has the error %d", w, i, err)
			}
			parts[i] = part
		}
		if whole, err := Join(parts); whole != w || err != api.OK {
			t.Errorf("the parts of %d are joined to %d, %d", w, whole, err)
		}
	}
}

// The examples of the chapter.
func TestExamples(t *testing.T) {
	for _, c := range []struct {
		what      string
		do        func() (uint64, int)
		want      uint64
		wantError int
	}{
		{"Part(4201, 3)", func() (uint64, int) { return Part(4201, 3) }, 4905, api.OK},
		{"Mark(1305, true)", func() (uint64, int) { return Mark(1305, true) }, 1337, api.OK},
		{"Protect(1305)", func() (uint64, int) { return Protect(1305) }, 1297, api.OK},
		{"Mark(1297, true)", func() (uint64, int) { return Mark(1297, true) }, 0, api.ErrAccess},
		{"Mark(770, false)", func() (uint64, int) { return Mark(770, false) }, 0, api.ErrState},
	} {
		if w, err := c.do(); w != c.want || err != c.wantError {
			t.Errorf("%s = %d, %d, want %d, %d", c.what, w, err, c.want, c.wantError)
		}
	}
	if e, err := Decode(128); err != api.ErrForm || (e != api.Entry{}) {
		t.Errorf("Decode(128) = %v, %d", e, err)
	}
}
