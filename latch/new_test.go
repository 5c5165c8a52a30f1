package latch_test

import (
	"slices"
	"strings"
	"testing"
	"unsafe"

	"latch/api"
	"latch/latch"
)

// manyKeys are n keys, each one of its own.
func manyKeys(n int) []string {
	var keys []string
	for i := range n {
		keys = append(keys, keyOf(string([]byte{byte('a' + i)})))
	}
	return keys
}

func checkNoLoader(t *testing.T, keys []string) {
	t.Helper()
	for _, version := range []uint32{0, 1, 1<<32 - 1} {
		if loader, code := latch.New(keys, version); loader != nil || code != api.ErrKeys {
			t.Errorf("P8: New of %d keys, %.80x = %v, %d, want ErrKeys", len(keys), keys, loader, code)
		}
	}
}

// Each key has the slot of its place in the list.
func TestNew(t *testing.T) {
	for n := range api.MaxKeys + 1 {
		for _, version := range []uint32{0, 1, 1 << 16, 1<<32 - 1} {
			loader := newLoader(t, version, manyKeys(n)...)
			for slot := range n {
				name := string([]byte{byte('a' + slot)})
				checkTaken(t, loader, imageOf(name, version, byte(slot), "p"), version, slot, 1)
			}
			checkRefused(t, loader, imageOf("a", version, byte(n), "p"), api.ErrSlot)
		}
	}
}

func TestNewWithoutKeys(t *testing.T) {
	for _, keys := range [][]string{nil, {}, make([]string, 0, 5)} {
		loader := newLoader(t, 7, keys...)
		checkRefused(t, loader, imageOf("a", 7, 0, ""), api.ErrSlot)
		checkRefused(t, loader, imageOf("a", 0, 255, ""), api.ErrSlot)
	}
}

func TestNewOfTooManyKeys(t *testing.T) {
	for _, n := range []int{5, 6, 8, 26} {
		checkNoLoader(t, manyKeys(n))
		checkNoLoader(t, slices.Repeat(manyKeys(1), n))
		checkNoLoader(t, make([]string, n))
	}
	checkNoLoader(t, make([]string, 1<<20))
}

// At every place, and with all keys ahead of it and behind it as they should be.
func TestNewOfAnotherSize(t *testing.T) {
	for _, size := range []int{0, 1, 31, 33, 63, 64, 65, 1 << 20} {
		for n := 1; n <= api.MaxKeys+1; n++ {
			for at := range n {
				keys := manyKeys(n)
				keys[at] = strings.Repeat("\x01", size)
				checkNoLoader(t, keys)
			}
			checkNoLoader(t, slices.Repeat([]string{mixed(size)}, n))
		}
	}
	key := keyOf("a")
	checkNoLoader(t, []string{key[:31]})
	checkNoLoader(t, []string{key[1:]})
	checkNoLoader(t, []string{key + "\x00"})
	checkNoLoader(t, []string{key[:31], key + "x"}) // they have 64 bytes together
}

// A key need not be a point's code: images of its slot are refused, those of the
// others are not.
func TestNewOfNoPoint(t *testing.T) {
	seen := 0
	for _, bad := range noCodes(t) {
		if len(bad) != 32 {
			continue
		}
		seen++
		loader := newLoader(t, 3, bad, keyOf("a"), bad)
		checkRefused(t, loader, imageOf("a", 3, 0, "p"), api.ErrPoint)
		checkTaken(t, loader, imageOf("a", 4, 1, "p"), 4, 1, 1)
		checkRefused(t, loader, imageOf("a", 5, 2, "p"), api.ErrPoint)
		checkRefused(t, loader, imageOf("a", 5, 0, "p"), api.ErrPoint)
	}
	if seen < 60 {
		t.Errorf("%d samples", seen)
	}
	newLoader(t, 0, slices.Repeat([]string{noKey()}, 4)...)
}

func TestNewOfTheSameKeyTwice(t *testing.T) {
	loader := newLoader(t, 0, keyOf("a"), keyOf("b"), keyOf("a"), keyOf("a"))
	for version, slot := range []byte{0, 2, 3, 0} {
		checkTaken(t, loader, imageOf("a", uint32(version), slot, "p"), uint32(version), int(slot), 1)
		checkRefused(t, loader, imageOf("b", uint32(version), slot, "p"), api.ErrSign)
	}
	checkTaken(t, loader, imageOf("b", 9, 1, "p"), 9, 1, 1)
	checkRefused(t, loader, imageOf("a", 9, 1, "p"), api.ErrSign)
}

// The list, and the bytes that its texts lie over, are written over behind New.
func TestKeysAreNeitherKeptNorChanged(t *testing.T) {
	under := []byte(keyOf("a") + keyOf("b"))
	whole := unsafe.String(&under[0], len(under))
	keys := []string{whole[:32], whole[32:], "", ""}[:2]
	loader, code := latch.New(keys, 1)
	if code != api.OK || string(under) != keyOf("a")+keyOf("b") || keys[0] != keyOf("a") || keys[1] != keyOf("b") {
		t.Fatalf("P2: New = %d, and a text or the list was changed", code)
	}
	if keys[:4][2] != "" || keys[:4][3] != "" {
		t.Fatal("P2: New has written behind the list")
	}
	checkTaken(t, loader, imageOf("a", 1, 0, "p"), 1, 0, 1) // one key is used ahead of it, the other is not
	copy(under, keyOf("c")+keyOf("c"))
	checkTaken(t, loader, imageOf("a", 1, 0, "p"), 1, 0, 1)
	checkTaken(t, loader, imageOf("b", 1, 1, "p"), 1, 1, 1)
	keys[0], keys[1] = keyOf("d"), "of another size"
	checkTaken(t, loader, imageOf("a", 1, 0, "p"), 1, 0, 1)
	checkTaken(t, loader, imageOf("b", 1, 1, "p"), 1, 1, 1)
	checkRefused(t, loader, imageOf("c", 1, 0, "p"), api.ErrSign)
	checkRefused(t, loader, imageOf("d", 1, 0, "p"), api.ErrSign)
	_ = append(keys, keyOf("e"), keyOf("f"))
	checkRefused(t, loader, imageOf("e", 1, 2, "p"), api.ErrSlot)
}
