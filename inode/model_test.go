package inode

import (
	"slices"
	"testing"

	"estovers/api"
)

// encoded is the promise of Encode.
func encoded(size, mask int) ([]byte, int) {
	if size < 0 || size > 16 {
		return nil, api.ErrRange
	}
	if mask < 0 || mask > power(size)-1 {
		return nil, api.ErrForm
	}
	b := []byte{73, 78, 79, 68, byte(size), byte(mask % 256), byte(mask / 256)}
	sum := 0
	for _, x := range b {
		sum += int(x)
	}
	b = append(b, byte(sum%251))
	for len(b) < 32 {
		b = append(b, 0)
	}
	return b, api.OK
}

// power is 2^n.
func power(n int) int {
	out := 1
	for range n {
		out *= 2
	}
	return out
}

// file is what a block tells about a file.
type file struct{ size, mask int }

// blocks are all blocks that Encode returns, with the files that they tell about.
func blocks() map[string]file {
	out := map[string]file{}
	for size := range 17 {
		for mask := range power(size) {
			b, _ := encoded(size, mask)
			out[string(b)] = file{size, mask}
		}
	}
	return out
}

// decoded is the promise of Decode, where all are the blocks that Encode returns.
func decoded(b []byte, all map[string]file) (file, int) {
	if len(b) != 32 {
		return file{}, api.ErrForm
	}
	f, ok := all[string(b)]
	if !ok {
		return file{}, api.ErrCorrupt
	}
	return f, api.OK
}

// masked is the promise of Mask.
func masked(backed []bool) (int, int) {
	if len(backed) > 16 {
		return 0, api.ErrLimit
	}
	mask := 0
	for i, on := range backed {
		if on {
			mask += power(i)
		}
	}
	return mask, api.OK
}

// listed is the promise of Backed: the only list of n elements with this mask.
func listed(mask, n int) ([]bool, int) {
	if n < 0 || n > 16 {
		return nil, api.ErrLimit
	}
	if mask < 0 || mask > power(n)-1 {
		return nil, api.ErrForm
	}
	var backed []bool
	for range n {
		backed = append(backed, mask%2 == 1)
		mask /= 2
	}
	return backed, api.OK
}

// laidOut is the promise of Layout: each file, and then each slot, takes the next blocks.
func laidOut(files []int, slots int) ([]int, int) {
	if len(files) > 4 {
		return nil, api.ErrLimit
	}
	for _, pages := range files {
		if pages < 1 || pages > 16 {
			return nil, api.ErrRange
		}
	}
	if slots < 0 || slots > 64 {
		return nil, api.ErrRange
	}
	var out, owners []int
	for n, pages := range files {
		out = append(out, len(owners))
		owners = append(owners, n)
		for range pages {
			owners = append(owners, n)
		}
	}
	out = append(out, len(owners))
	for range slots {
		owners = append(owners, -1)
	}
	return append(out, len(owners)), api.OK
}

func expectEncode(t *testing.T, size, mask int) []byte {
	t.Helper()
	got, e := Encode(size, mask)
	if want, code := encoded(size, mask); !slices.Equal(got, want) || e != code {
		t.Fatalf("Encode(%d, %d) = %v, %d, want %v, %d", size, mask, got, e, want, code)
	}
	return got
}

func expectDecode(t *testing.T, b []byte, all map[string]file) (file, int) {
	t.Helper()
	size, mask, e := Decode(b)
	if want, code := decoded(b, all); size != want.size || mask != want.mask || e != code {
		t.Fatalf("Decode(%v) = %d, %d, %d, want %v, %d", b, size, mask, e, want, code)
	}
	return file{size, mask}, e
}

func expectMask(t *testing.T, backed []bool) int {
	t.Helper()
	got, e := Mask(backed)
	if want, code := masked(backed); got != want || e != code {
		t.Fatalf("Mask(%v) = %d, %d, want %d, %d", backed, got, e, want, code)
	}
	return got
}

func expectBacked(t *testing.T, mask, n int) []bool {
	t.Helper()
	got, e := Backed(mask, n)
	if want, code := listed(mask, n); !slices.Equal(got, want) || e != code {
		t.Fatalf("Backed(%d, %d) = %v, %d, want %v, %d", mask, n, got, e, want, code)
	}
	return got
}

func expectLayout(t *testing.T, files []int, slots int) []int {
	t.Helper()
	got, e := Layout(files, slots)
	if want, code := laidOut(files, slots); !slices.Equal(got, want) || e != code {
		t.Fatalf("Layout(%v, %d) = %v, %d, want %v, %d", files, slots, got, e, want, code)
	}
	return got
}
