package space

import (
	"clevis/api"
	"cmp"
	"slices"
)

// block is a region and its bytes. Those behind the last one that was written are not kept, since they are 0: great regions that nobody writes to take no room.
type block struct {
	api.Region
	bytes []byte
}

func (b *block) end() int {
	return b.At + b.Size
}

// load returns the n bytes from at on, all of which are in the region.
func (b *block) load(at, n int) []byte {
	got := make([]byte, n)
	if from := at - b.At; from < len(b.bytes) {
		copy(got, b.bytes[from:])
	}
	return got
}

// store puts bytes at at on, all of which are in the region.
func (b *block) store(at int, bytes []byte) {
	from := at - b.At
	if more := from + len(bytes) - len(b.bytes); more > 0 {
		b.bytes = append(b.bytes, make([]byte, more)...)
	}
	copy(b.bytes[from:], bytes)
}

// layout is what lies where: the blocks are in increasing order of their addresses, and none reaches into the next one. As all of them begin and end at multiples of Page, there is room for a size exactly if there is room for the same size rounded up: only insert has to round.
type layout struct {
	blocks []block
}

// position returns the index of the block that begins at at, and true, or the index that such a block would have, and false.
func (l *layout) position(at int) (int, bool) {
	return slices.BinarySearchFunc(l.blocks, at, func(b block, at int) int {
		return cmp.Compare(b.At, at)
	})
}

// gap returns the smallest address at which size bytes are free.
func (l *layout) gap(size int) (int, api.Errno) {
	at := api.FirstAddr
	for _, b := range l.blocks {
		if at+size <= b.At {
			return at, api.OK
		}
		at = b.end()
	}
	if at+size > api.MaxAddr {
		return 0, api.ErrFull
	}
	return at, api.OK
}

func (l *layout) free(at, size int) bool {
	i, _ := l.position(at)
	if i > 0 && l.blocks[i-1].end() > at {
		return false
	}
	return i == len(l.blocks) || at+size <= l.blocks[i].At
}

func (l *layout) insert(at, size int, p api.Perm) {
	i, _ := l.position(at)
	r := api.Region{At: at, Size: rounded(size), Perm: p}
	l.blocks = slices.Insert(l.blocks, i, block{Region: r})
}

// reach returns the block in which the n bytes from at on are, if it has the permission.
func (l *layout) reach(at, n int, need api.Perm) (*block, api.Errno) {
	i, begins := l.position(at)
	if !begins {
		i--
	}
	if i < 0 || n > l.blocks[i].end()-at {
		return nil, api.ErrSpaceFree
	}
	b := &l.blocks[i]
	if b.Perm&need != need {
		return nil, api.ErrSpacePerm
	}
	return b, api.OK
}

func rounded(size int) int {
	return (size + api.Page - 1) / api.Page * api.Page
}
