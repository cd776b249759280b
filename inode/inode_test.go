package inode

import (
	"bytes"
	"math"
	"math/rand"
	"slices"
	"testing"

	"estovers/api"
)

// limits are the limits of int and of the machine, and the numbers beside them.
func limits() []int {
	return []int{math.MinInt, math.MinInt + 1, -1 << 32, -65536, -17, -2, -1, 0, 1, 2, 3, 4, 7, 8, 15, 16, 17, 18, 31, 32, 63, 64, 65, 127, 128, 255, 256, 257, 32767, 32768, 65534, 65535, 65536, 65537, 131071, 1 << 32, 1<<32 + 3, math.MaxInt - 1, math.MaxInt}
}

// P27.1, P27.5: all sizes and masks; decoding leads back to them.
func TestEncode(t *testing.T) {
	all := blocks()
	for size := range 17 {
		for mask := range power(size) {
			got, e := expectDecode(t, expectEncode(t, size, mask), all)
			if e != api.OK || got != (file{size, mask}) {
				t.Fatalf("Decode of Encode(%d, %d) = %v, %d", size, mask, got, e)
			}
		}
		expectEncode(t, size, power(size))
	}
	if len(all) != 131071 {
		t.Errorf("%d blocks", len(all))
	}
}

// P27.1, P27.3: the limits of int and of the machine.
func TestLimits(t *testing.T) {
	for _, n := range limits() {
		for _, mask := range limits() {
			expectEncode(t, n, mask)
			expectBacked(t, mask, n)
		}
	}
}

// P27.1, P27.3, P27.4: which error comes first.
func TestFirstError(t *testing.T) {
	if _, e := Encode(17, -1); e != api.ErrRange {
		t.Errorf("Encode(17, -1) = %d", e)
	}
	if _, e := Encode(16, 65536); e != api.ErrForm {
		t.Errorf("Encode(16, 65536) = %d", e)
	}
	if _, e := Encode(0, 1); e != api.ErrForm {
		t.Errorf("Encode(0, 1) = %d", e)
	}
	if _, e := Backed(-1, 17); e != api.ErrLimit {
		t.Errorf("Backed(-1, 17) = %d", e)
	}
	if _, e := Backed(4, 2); e != api.ErrForm {
		t.Errorf("Backed(4, 2) = %d", e)
	}
	if _, e := Layout([]int{1, 1, 0, 1, 1}, 65); e != api.ErrLimit {
		t.Errorf("Layout of five files = %d", e)
	}
	if _, e := Layout([]int{1, 17}, 0); e != api.ErrRange {
		t.Errorf("Layout of 17 pages = %d", e)
	}
	if _, e := Layout([]int{1}, 65); e != api.ErrRange {
		t.Errorf("Layout with 65 slots = %d", e)
	}
}

// P27.2: blocks that are too short or too long.
func TestDecodeLength(t *testing.T) {
	all := blocks()
	b := append(expectEncode(t, 3, 5), make([]byte, 40)...)
	for n := range b {
		if _, e := expectDecode(t, b[:n], all); (e == api.OK) != (n == 32) {
			t.Errorf("Decode of %d bytes = %d", n, e)
		}
	}
	expectDecode(t, nil, all)
}

// P27.2, P27.5: blocks of which one byte is changed never tell the same.
func TestDecodeChanged(t *testing.T) {
	all := blocks()
	random := rand.New(rand.NewSource(1))
	corrupt, other := 0, 0
	for n := range 60 {
		want := file{size: n % 17}
		want.mask = random.Intn(power(want.size))
		whole := expectEncode(t, want.size, want.mask)
		for at := range whole {
			for x := range 256 {
				b := slices.Clone(whole)
				b[at] = byte(x)
				got, e := expectDecode(t, b, all)
				if b[at] != whole[at] && e == api.OK && got == want {
					t.Fatalf("Decode(%v) = %v, as of %v", b, got, whole)
				}
				if e != api.OK {
					corrupt++
				} else if got != want {
					other++
				}
			}
		}
	}
	if corrupt < 1000 {
		t.Errorf("too few blocks: %d, %d", corrupt, other)
	}
}

// P27.2: blocks of which several bytes are changed, so that the check byte often agrees.
func TestDecodeOther(t *testing.T) {
	all := blocks()
	random := rand.New(rand.NewSource(2))
	var seen [api.ErrCorrupt + 1]int
	for range 40000 {
		b := make([]byte, 32)
		copy(b, "INOD")
		b[4], b[5], b[6] = byte(random.Intn(20)), byte(random.Intn(256)), byte(random.Intn(256)>>random.Intn(9))
		if random.Intn(6) == 0 {
			at := random.Intn(7)
			b[at] += byte(1 + random.Intn(3))
		}
		sum := 0
		for _, x := range b[:7] {
			sum += int(x)
		}
		b[7] = byte(sum % 251)
		switch random.Intn(8) {
		case 0: // modulo 256, or the other number with the same rest
			b[7] = byte(sum)
		case 1:
			b[7] += 251
		case 2:
			b[8+random.Intn(24)] = byte(random.Intn(2))
		}
		_, e := expectDecode(t, b, all)
		seen[e]++
	}
	if seen[api.OK] < 2000 || seen[api.ErrCorrupt] < 2000 {
		t.Errorf("too few blocks: %d, %d", seen[api.OK], seen[api.ErrCorrupt])
	}
	for x := range 256 {
		expectDecode(t, bytes.Repeat([]byte{byte(x)}, 32), all)
	}
}

// P27.3, P27.5: all masks; the mask of the list is the mask, and the list of the mask is the list.
func TestMask(t *testing.T) {
	for n := range 17 {
		for mask := range power(n) {
			backed := expectBacked(t, mask, n)
			if got := expectMask(t, backed); got != mask || len(backed) != n {
				t.Fatalf("Mask(Backed(%d, %d)) = %d", mask, n, got)
			}
		}
		expectBacked(t, power(n), n)
	}
	expectMask(t, nil)
	for n := 14; n < 70; n++ {
		for at := range n {
			backed := make([]bool, n)
			expectMask(t, backed)
			backed[at] = true
			expectMask(t, backed)
		}
	}
}

// P27.4, P27.5: all lists of up to two files, many longer ones, and the limits of int.
func TestLayout(t *testing.T) {
	for _, slots := range limits() {
		expectOwners(t, nil, slots)
		for first := range 19 {
			expectOwners(t, []int{first - 1}, slots)
			for second := range 19 {
				expectOwners(t, []int{first - 1, second - 1}, slots)
			}
		}
		for _, pages := range limits() {
			expectOwners(t, []int{pages}, slots)
			expectOwners(t, []int{4, pages}, slots)
			expectOwners(t, []int{pages, 2, 3}, slots)
			expectOwners(t, []int{1, 16, pages, 16}, slots)
		}
	}
	random := rand.New(rand.NewSource(3))
	for range 5000 {
		files := make([]int, random.Intn(7))
		for i := range files {
			files[i] = 1 + random.Intn(16)
		}
		expectOwners(t, files, random.Intn(65))
	}
}

// expectOwners compares Layout with its promise; each block of a layout belongs to exactly one file, page or slot.
func expectOwners(t *testing.T, files []int, slots int) {
	t.Helper()
	layout := expectLayout(t, files, slots)
	if len(layout) == 0 {
		return
	}
	swap, all := layout[len(files)], layout[len(files)+1]
	owners := make([]int, all)
	for n, pages := range files {
		owners[layout[n]]++
		for page := range pages {
			owners[layout[n]+1+page]++
		}
	}
	for slot := range slots {
		owners[swap+slot]++
	}
	for block, n := range owners {
		if n != 1 {
			t.Fatalf("block %d of Layout(%v, %d) belongs to %d", block, files, slots, n)
		}
	}
}

// Rule 'Values': arguments are neither changed nor kept, and results share no memory with them or with other results.
func TestValues(t *testing.T) {
	b := append(expectEncode(t, 3, 5), 99)[:32]
	before := slices.Clone(b[:33])
	Decode(b)
	if !slices.Equal(b[:33], before) {
		t.Error("Decode has changed its argument")
	}
	backed := []bool{true, false, true, true}[:3]
	Mask(backed)
	if !slices.Equal(backed[:4], []bool{true, false, true, true}) {
		t.Error("Mask has changed its argument")
	}
	files := []int{4, 2, 77, 78, 79}
	layout, _ := Layout(files[:2], 3)
	if !slices.Equal(files, []int{4, 2, 77, 78, 79}) {
		t.Error("Layout has changed its argument")
	}
	layout[0], layout[1] = 9, 9
	if !slices.Equal(files, []int{4, 2, 77, 78, 79}) {
		t.Error("the argument of Layout changes with its result")
	}
	for i := range files {
		files[i] = 1
	}
	if !slices.Equal(layout, []int{9, 9, 8, 11}) {
		t.Errorf("the result of Layout changes with its argument: %v", layout)
	}
	clear(b)
	clear(expectBacked(t, 5, 3))
	expectEncode(t, 3, 5)
	expectBacked(t, 5, 3)
	clear(expectLayout(t, nil, 3))
	expectLayout(t, nil, 3)
}

// The examples of the chapter.
func TestExamples(t *testing.T) {
	b, e := Encode(3, 5)
	if want := append([]byte{73, 78, 79, 68, 3, 5, 0, 55}, make([]byte, 24)...); e != api.OK || !slices.Equal(b, want) {
		t.Errorf("Encode(3, 5) = %v, %d", b, e)
	}
	if b, e := Encode(2, 4); e != api.ErrForm || len(b) != 0 {
		t.Errorf("Encode(2, 4) = %v, %d", b, e)
	}
	if l, e := Layout([]int{4, 2}, 3); e != api.OK || !slices.Equal(l, []int{0, 5, 8, 11}) {
		t.Errorf("Layout = %v, %d", l, e)
	}
}
