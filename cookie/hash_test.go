package cookie

import (
	"math/bits"
	"slices"
	"testing"
)

// P17.1

// What is answered of the bytes 0, 1, 2 and so on: each number of bytes that are left, up to some numbers of eight, and beyond what one byte counts.
func TestHashOfSoManyBytes(t *testing.T) {
	for _, row := range []struct {
		n    int
		want uint64
	}{
		{0, 0x726fdb47dd0e0e31}, {1, 0x74f839c593dc67fd}, {2, 0x0d6c8009d9a94f5a}, {3, 0x85676696d7fb7e2d},
		{4, 0xcf2794e0277187b7}, {5, 0x18765564cd99a68d}, {6, 0xcbc9466e58fee3ce}, {7, 0xab0200f58b01d137},
		{8, 0x93f5f5799a932462}, {9, 0x9e0082df0ba9e4b0}, {10, 0x7a5dbbc594ddb9f3}, {11, 0xf4b32f46226bada7},
		{12, 0x751e8fbc860ee5fb}, {13, 0x14ea5627c0843d90}, {14, 0xf723ca908e7af2ee}, {15, 0xa129ca6149be45e5},
		{16, 0x3f2acc7f57c29bdb}, {17, 0x699ae9f52cbe4794}, {23, 0xa80c038ccd5ccec8}, {24, 0xb8ad50c6f649af94},
		{25, 0xbce192de8a85b8ea}, {46, 0xdb9acddff56ca510}, {63, 0x958a324ceb064572}, {64, 0xacd2c40b8502cad8},
		{127, 0x9e7db1ba81dc7e3a}, {128, 0xdeb79e256c8736ae}, {255, 0xa9c169fec74db21a}, {256, 0x999d0526d2a7bfd7},
		{257, 0x8a817b8d55b29748}, {511, 0x969303d05e5af242}, {512, 0x883b57c3e55ada0e}, {1000, 0xdb9b3ed69e31c9a6},
	} {
		wantHash(t, counted(), bytes(row.n), row.want)
	}
}

// Each half of the secret counts by itself, to its ends.
func TestHashOfSecrets(t *testing.T) {
	const all = 1<<64 - 1
	for _, row := range []struct {
		s                Secret
		none, one, eight uint64 // of no byte, of one, of eight noughts
	}{
		{Secret{0, 0}, 0x1e924b9d737700d7, 0x96c20860cd93a249, 0xe849e8bb6ffe2567},
		{Secret{all, all}, 0x35dd279ee86ce565, 0xc339e8aff6901c07, 0x93e9a1f113e70a00},
		{Secret{0, all}, 0x4d0617e48cf8737b, 0xdee0179dc49d16a0, 0x0f59645622c5d5ce},
		{Secret{all, 0}, 0xa4e3fdab06a40925, 0x21bb89f2d2d7d84a, 0x298a0ec060aa1c1c},
		{Secret{1, 0}, 0x54e761ac4b1ca3de, 0xb756d69b679d63d1, 0x1cc1d069b22d7407},
		{Secret{0, 1}, 0xc4235c5247d6521c, 0xce0f195d509eeb6e, 0xfe6f360b863a9b0c},
		{Secret{1 << 63, 0}, 0x620f794693c9a5b9, 0x65a82ab6f179a839, 0xf599552e4d6d80b4},
		{Secret{0, 1 << 63}, 0x87f7600ac7c98ce8, 0x66719391b0fe8562, 0x1b538b576bdb1d9b},
		// With these two numbers of the beginning are 0.
		{Secret{0x736f6d6570736575, 0x646f72616e646f6d}, 0x5e1af489fd34e238, 0xad20999a71d520a2, 0x8c9a6e88bbe7e5a9},
		{Secret{0x6c7967656e657261, 0x7465646279746573}, 0x92e6504f1689a5d7, 0xd483bc70b8bc79fd, 0x8256f489e404d982},
	} {
		wantHash(t, row.s, nil, row.none)
		wantHash(t, row.s, []byte("a"), row.one)
		wantHash(t, row.s, make([]byte, 8), row.eight)
	}
}

// The bytes of full numbers, and those that are left, all with their highest bits set.
func TestHashOfHighBytes(t *testing.T) {
	for n, want := range map[int]uint64{7: 0x2e029c0a4c8f48e3, 8: 0x8050c18b6ac9d15e} {
		b := make([]byte, n)
		for i := range b {
			b[i] = 255
		}
		wantHash(t, Secret{}, b, want)
	}
}

// changed checks that h is not like any hash told so far, and in about half of its bits not like first.
func changed(t *testing.T, seen map[uint64]bool, first, h uint64) {
	t.Helper()
	if n := bits.OnesCount64(first ^ h); seen[h] || n < 10 || n > 54 {
		t.Errorf("%016x and %016x: %d bits differ, told already: %v", first, h, n, seen[h])
	}
	seen[h] = true
}

func TestEachBitCounts(t *testing.T) {
	for n := range 40 {
		b, s := bytes(n), counted()
		first := Hash(s, b)
		seen := map[uint64]bool{first: true}
		for i := range 8 * n {
			b[i/8] ^= 1 << (i % 8)
			changed(t, seen, first, Hash(s, b))
			b[i/8] ^= 1 << (i % 8)
		}
		for i := range 64 {
			changed(t, seen, first, Hash(Secret{s.A ^ 1<<i, s.B}, b))
			changed(t, seen, first, Hash(Secret{s.A, s.B ^ 1<<i}, b))
		}
	}
}

// Noughts behind the bytes count, though the last number has noughts anyhow; how many bytes there are does, too, when one byte does not tell it any more.
func TestNoughtsCount(t *testing.T) {
	for _, ahead := range []int{0, 1, 7, 8, 13} {
		seen := map[uint64]int{}
		b := bytes(ahead)
		for range 600 {
			h := Hash(counted(), b)
			if n, ok := seen[h]; ok {
				t.Fatalf("%d bytes and %d are %016x", n, len(b), h)
			}
			seen[h] = len(b)
			b = append(b, 0)
		}
	}
}

// R3, R5

func TestHashChangesAndKeepsNothing(t *testing.T) {
	room := bytes(64)
	for range 3 {
		for n := range len(room) {
			wantHash(t, counted(), room[:n], Hash(counted(), bytes(n)))
		}
		wantHash(t, counted(), room[1:1], 0x726fdb47dd0e0e31)
		wantHash(t, counted(), nil, 0x726fdb47dd0e0e31)
	}
	if !slices.Equal(room, bytes(64)) {
		t.Errorf("%v: changed", room)
	}
}

func TestExampleOfHash(t *testing.T) {
	wantHash(t, Secret{A: 0x0706050403020100, B: 0x0f0e0d0c0b0a0908}, []byte{0, 1, 2, 3, 4, 5, 6, 7, 8, 9, 10, 11, 12, 13, 14}, 0xa129ca6149be45e5)
}
