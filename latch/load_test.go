package latch_test

import (
	"math/rand/v2"
	"strings"
	"sync"
	"testing"
	"unsafe"

	"latch/api"
	"latch/latch"
)

func TestLoad(t *testing.T) {
	loader := newLoader(t, 5, keyOf("a"), keyOf("b"))
	for _, size := range []int{0, 1, 63, 64, 111, 112, 127, 128, 192, 255, 256, 65535, 65536, 1<<24 + 3} {
		checkTaken(t, loader, imageOf("b", 5, 1, mixed(size)), 5, 1, size)
	}
	checkTaken(t, loader, imageOf("a", 5, 0, imageOf("a", 5, 0, "p")), 5, 0, 193)
}

// An image that is made by the calls themselves.
func TestLoadOfWhatSignMakes(t *testing.T) {
	made := partsOf("", 1, 0, "payload")
	made.digest = latch.Hash(made.payload)
	made.signature, _ = latch.Sign(mixed(32), made.signed())
	key, _ := latch.Key(mixed(32))
	checkTaken(t, newLoader(t, 1, key), made.image(), 1, 0, 7)
	if made.image() != made.signed()+librarySign(mixed(32), made.signed())+"payload" {
		t.Error("P6: Sign signs a head otherwise than the library")
	}
}

func TestLoadShort(t *testing.T) {
	loader := newLoader(t, 0, keyOf("a"))
	empty, some := imageOf("a", 0, 0, ""), imageOf("a", 0, 0, "some")
	for size := range 192 {
		checkRefused(t, loader, empty[:size], api.ErrShort)
		checkRefused(t, loader, some[:size], api.ErrShort)
		checkRefused(t, loader, mixed(size), api.ErrShort)
	}
	checkTaken(t, loader, empty, 0, 0, 0)
	checkRefused(t, loader, some[:192], api.ErrLength)
	checkRefused(t, loader, mixed(192), api.ErrMagic)
}

func TestLoadAnotherMagic(t *testing.T) {
	loader := newLoader(t, 0, keyOf("a"))
	for _, magic := range []string{"latchimg", "LATCHIMg", "lATCHIMG", "LATCHIM\x00", "\x00ATCHIMG", "GMIHCTAL", noughts[:8], "\xff\xff\xff\xff\xff\xff\xff\xff"} {
		made := partsOf("a", 0, 0, "p")
		made.magic = magic
		checkRefused(t, loader, made.image(), api.ErrMagic)
	}
	for bit := range 64 {
		made := partsOf("a", 0, 0, "p")
		made.magic = withBit(made.magic, bit)
		checkRefused(t, loader, made.image(), api.ErrMagic)
	}
}

func TestLoadRestIsNotZero(t *testing.T) {
	loader := newLoader(t, 0, keyOf("a"))
	for bit := range 8 * 47 {
		made := partsOf("a", 0, 0, "p")
		made.rest = withBit(made.rest, bit)
		checkRefused(t, loader, made.image(), api.ErrHead)
	}
	for _, fill := range []string{" ", "0", "\x01", "\x80", "\xff"} {
		made := partsOf("a", 0, 0, "p")
		made.rest = strings.Repeat(fill, 47)
		checkRefused(t, loader, made.image(), api.ErrHead)
	}
}

// The size is signed with the rest: it is only that it is another one.
func TestLoadAnotherSize(t *testing.T) {
	loader := newLoader(t, 0, keyOf("a"))
	for _, has := range []int{0, 1, 2, 255, 256, 257, 65535, 65536, 1 << 24} {
		payload := mixed(has)
		for _, told := range []uint32{uint32(has) - 1, uint32(has) + 1, uint32(has) + 192, uint32(has) - 192, uint32(has) ^ 1<<8, uint32(has) ^ 1<<16, uint32(has) ^ 1<<24, uint32(has) ^ 1<<31, 1<<32 - 1} {
			made := partsOf("a", 0, 0, payload)
			made.size = number4(told)
			checkRefused(t, loader, made.image(), api.ErrLength)
		}
		image := imageOf("a", 0, 0, payload)
		checkRefused(t, loader, image+"\x00", api.ErrLength)
		checkRefused(t, loader, image+image, api.ErrLength)
		if has > 0 {
			checkRefused(t, loader, image[:len(image)-1], api.ErrLength)
			checkRefused(t, loader, image[:192], api.ErrLength)
		}
		checkTaken(t, loader, image, 0, 0, has)
	}
	made := partsOf("a", 0, 0, "abc") // the highest byte first
	made.size = "\x00\x00\x00\x03"
	checkRefused(t, loader, made.image(), api.ErrLength)
}

func TestLoadSlots(t *testing.T) {
	for n := range api.MaxKeys + 1 {
		loader := newLoader(t, 0, manyKeys(n)...)
		for slot := range 256 {
			image := imageOf("a", 0, byte(slot), "p")
			switch {
			case slot >= n:
				checkRefused(t, loader, image, api.ErrSlot)
			case slot > 0:
				checkRefused(t, loader, image, api.ErrSign)
			default:
				checkTaken(t, loader, image, 0, 0, 1)
			}
		}
	}
}

func TestLoadVersions(t *testing.T) {
	for _, least := range []uint32{0, 1, 2, 255, 256, 1 << 16, 1 << 24, 1<<31 - 1, 1 << 31, 1<<32 - 1} {
		loader := newLoader(t, least, keyOf("a"))
		if least > 0 {
			checkRefused(t, loader, imageOf("a", least-1, 0, "p"), api.ErrOld)
			checkRefused(t, loader, imageOf("a", 0, 0, "p"), api.ErrOld)
		}
		for range 3 { // the same version again
			checkTaken(t, loader, imageOf("a", least, 0, "p"), least, 0, 1)
			checkTaken(t, loader, imageOf("a", least, 0, "another"), least, 0, 7)
		}
		if least < 1<<32-1 {
			checkTaken(t, loader, imageOf("a", least+1, 0, "p"), least+1, 0, 1)
			checkRefused(t, loader, imageOf("a", least, 0, "p"), api.ErrOld)
			checkTaken(t, loader, imageOf("a", 1<<32-1, 0, "p"), 1<<32-1, 0, 1)
		}
		checkRefused(t, loader, imageOf("a", 1<<32-2, 0, "p"), api.ErrOld)
		checkRefused(t, loader, imageOf("a", 0, 0, "p"), api.ErrOld)
		checkTaken(t, loader, imageOf("a", 1<<32-1, 0, "p"), 1<<32-1, 0, 1)
	}
}

// The least version goes for all slots.
func TestLoadVersionsAcrossSlots(t *testing.T) {
	loader := newLoader(t, 0, keyOf("a"), keyOf("b"))
	checkTaken(t, loader, imageOf("a", 10, 0, "p"), 10, 0, 1)
	checkRefused(t, loader, imageOf("b", 9, 1, "p"), api.ErrOld)
	checkTaken(t, loader, imageOf("b", 11, 1, "p"), 11, 1, 1)
	checkRefused(t, loader, imageOf("a", 10, 0, "p"), api.ErrOld)
}

func TestLoadAnotherDigest(t *testing.T) {
	loader := newLoader(t, 0, keyOf("a"))
	for bit := range 8 * 64 {
		made := partsOf("a", 0, 0, "payload")
		made.digest = withBit(made.digest, bit)
		checkRefused(t, loader, made.image(), api.ErrDigest)
	}
	image := imageOf("a", 0, 0, "payload")
	for bit := range 8 * 7 {
		checkRefused(t, loader, image[:192]+withBit("payload", bit), api.ErrDigest)
	}
	for _, digest := range []string{strings.Repeat("\x00", 64), wanted("payload\x00"), wanted(image), wanted("")} {
		made := partsOf("a", 0, 0, "payload")
		made.digest = digest
		checkRefused(t, loader, made.image(), api.ErrDigest)
	}
	made := partsOf("a", 0, 0, "")
	made.digest = strings.Repeat("\x00", 64)
	checkRefused(t, loader, made.image(), api.ErrDigest)
}

// Every bit of the head is turned, and nothing is signed anew.
func TestLoadEveryBit(t *testing.T) {
	keys := []string{keyOf("a"), keyOf("b"), noKey()}
	loader := newLoader(t, 6, keys...)
	image := imageOf("a", 6, 0, "payload")
	seen := map[api.Errno]int{}
	for bit := range 8 * 192 {
		turned := withBit(image, bit)
		want := wantLoad(keys, 6, turned)
		seen[want.Code]++
		checkLoad(t, loader, turned, want)
	}
	for _, code := range []api.Errno{api.ErrPoint, api.ErrScalar, api.ErrSign, api.ErrMagic, api.ErrHead, api.ErrLength, api.ErrSlot, api.ErrOld, api.ErrDigest} {
		if seen[code] == 0 {
			t.Errorf("none of the samples is refused with %d", code)
		}
	}
	if seen[api.OK] != 0 || seen[api.ErrSign] < 512 {
		t.Errorf("the samples are refused so many times: %v", seen)
	}
	checkTaken(t, loader, image, 6, 0, 7)
}

// Signatures that are not right: by another key, of something else, of another
// make.
func TestLoadAnotherSignature(t *testing.T) {
	loader := newLoader(t, 1, keyOf("a"), keyOf("b"))
	right := partsOf("a", 1, 0, "payload")
	refused := func(signature string, want api.Errno) {
		t.Helper()
		made := right
		made.signature = signature
		checkRefused(t, loader, made.image(), want)
	}
	own := librarySign(seedOf("a"), right.signed())
	for _, signature := range []string{
		librarySign(seedOf("b"), right.signed()),
		librarySign(seedOf("c"), right.signed()),
		librarySign(seedOf("a"), ""),
		librarySign(seedOf("a"), right.payload),
		librarySign(seedOf("a"), right.digest),
		librarySign(seedOf("a"), right.image()),
		librarySign(seedOf("a"), right.signed()+right.payload),
		librarySign(seedOf("a"), wanted(right.signed())),
		librarySign(seedOf("a"), partsOf("a", 2, 0, "payload").signed()),
		strings.Repeat("\x00", 64),
		zeroCode() + noughts,
		noKey() + own[32:],
		own[:32] + noughts,
	} {
		refused(signature, api.ErrSign)
	}
	for _, s := range tooGreat() {
		refused(own[:32]+little(s, 32), api.ErrScalar)
		refused(noKey()+little(s, 32), api.ErrScalar)
	}
	refused(own[:32]+little(plus(numberOf(own[32:]), order()), 32), api.ErrScalar)
	checkTaken(t, loader, right.image(), 1, 0, 7)
}

// As Verify by the slot's key, at keys of all kinds: those of small order take
// what no one has signed.
func TestLoadIsAsVerify(t *testing.T) {
	keys := append(someCodes(t), noKey(), strings.Repeat("\xff", 32), keyOf("a"))
	seen := map[api.Errno]int{}
	for _, key := range keys {
		for n := range 6 {
			made := partsOf("a", uint32(n), 1, mixed(n))
			for _, signature := range []string{"", zeroCode() + noughts, little(plus(prime(), whole(-1)), 32) + noughts, zeroCode() + little(order(), 32)} {
				made.signature = signature
				image := made.image()
				want := wantLoad([]string{"", key}, 0, image)
				if code := latch.Verify(key, image[:128], image[128:192]); code != want.Code {
					t.Errorf("P7: Verify = %d, want %d", code, want.Code)
				}
				seen[want.Code]++
				checkLoad(t, newLoader(t, 0, keyOf("b"), key), image, want)
			}
		}
	}
	if len(seen) != 4 || seen[api.OK] < 10 {
		t.Errorf("the samples are answered so many times: %v", seen)
	}
}

// ways to make an image wrong, in the order in which they are told.
func wrongWays() []struct {
	code api.Errno
	turn func(*parts)
} {
	return []struct {
		code api.Errno
		turn func(*parts)
	}{
		{api.ErrMagic, func(p *parts) { p.magic = "latchimg" }},
		{api.ErrHead, func(p *parts) { p.rest = withBit(p.rest, 100) }},
		{api.ErrLength, func(p *parts) { p.size = number4(1) }},
		{api.ErrSlot, func(p *parts) { p.slot = "\x02" }},
		{api.ErrOld, func(p *parts) { p.version = number4(4) }},
		{api.ErrDigest, func(p *parts) { p.digest = wanted("another") }},
		{api.ErrPoint, func(p *parts) {
			if p.slot == "\x00" {
				p.slot = "\x01"
			}
		}},
		{api.ErrScalar, func(p *parts) { p.signature = p.digest[:32] + little(order(), 32) }},
		{api.ErrSign, func(p *parts) { p.signer = "b" }},
	}
}

// Where several errors apply, the one named first is answered: all choices of
// them, and each cut short too.
func TestLoadSeveralErrors(t *testing.T) {
	ways := wrongWays()
	loader := newLoader(t, 5, keyOf("a"), noKey())
	for chosen := range 1 << len(ways) {
		made := partsOf("a", 5, 0, "payload")
		want := api.Verdict{Version: 5, From: 192, Size: 7}
		for i := len(ways) - 1; i >= 0; i-- {
			if chosen>>i&1 == 1 {
				want = api.Verdict{Code: ways[i].code}
			}
		}
		for i, way := range ways {
			if chosen>>i&1 == 1 {
				way.turn(&made)
			}
		}
		checkLoad(t, loader, made.image(), want)
		checkRefused(t, loader, made.image()[:191], api.ErrShort)
	}
}

// Images that are refused, between two that are taken, change nothing.
func TestLoadRefusedBetweenTaken(t *testing.T) {
	for _, way := range wrongWays() {
		loader := newLoader(t, 5, keyOf("a"), noKey())
		checkTaken(t, loader, imageOf("a", 6, 0, "one"), 6, 0, 3)
		made := partsOf("a", 9, 0, "payload")
		way.turn(&made)
		for range 2 {
			checkRefused(t, loader, made.image(), way.code)
			checkRefused(t, loader, made.image()[:100], api.ErrShort)
		}
		checkTaken(t, loader, imageOf("a", 6, 0, "one"), 6, 0, 3)
		checkTaken(t, loader, imageOf("a", 7, 0, "two"), 7, 0, 3)
		checkRefused(t, loader, imageOf("a", 6, 0, "one"), api.ErrOld)
	}
}

func TestLoadersBesideOneAnother(t *testing.T) {
	one, two := newLoader(t, 1, keyOf("a"), keyOf("b")), newLoader(t, 100, keyOf("b"), keyOf("a"))
	for n := range uint32(5) {
		checkTaken(t, one, imageOf("a", 2+n, 0, "p"), 2+n, 0, 1)
		checkTaken(t, two, imageOf("b", 100+n, 0, "p"), 100+n, 0, 1)
		checkRefused(t, one, imageOf("b", 100+n, 0, "p"), api.ErrSign)
		checkRefused(t, two, imageOf("a", 2+n, 0, "p"), api.ErrOld)
		checkTaken(t, one, imageOf("b", 2+n, 1, "p"), 2+n, 1, 1)
		checkTaken(t, two, imageOf("a", 100+n, 1, "p"), 100+n, 1, 1)
	}
	// A third one of the same keys starts anew.
	checkTaken(t, newLoader(t, 0, keyOf("a")), imageOf("a", 0, 0, "p"), 0, 0, 1)
}

func TestLoadersAtOnce(t *testing.T) {
	var group sync.WaitGroup
	for n := range uint32(8) {
		group.Go(func() {
			loader, _ := latch.New([]string{keyOf("a"), keyOf("b")}, n)
			for version := n; version < n+5; version++ {
				checkTaken(t, loader, imageOf("b", version, 1, "p"), version, 1, 1)
				checkRefused(t, loader, imageOf("a", version, 1, "p"), api.ErrSign)
				checkTaken(t, loader, imageOf("a", version, 0, "p"), version, 0, 1)
			}
		})
	}
	group.Wait()
}

// The image lies over bytes that are written over behind Load.
func TestImagesAreNeitherKeptNorChanged(t *testing.T) {
	loader := newLoader(t, 1, keyOf("a"))
	image := imageOf("a", 2, 0, "payload")
	under := []byte(image)
	verdict := loader.Load(unsafe.String(&under[0], len(under)))
	if string(under) != image {
		t.Fatal("P2: an image was changed")
	}
	clear(under)
	if want := (api.Verdict{Version: 2, From: 192, Size: 7}); verdict != want || loader.Version() != 2 {
		t.Errorf("P2: the verdict %+v hangs on what was handed in", verdict)
	}
	checkRefused(t, loader, string(under), api.ErrMagic)
	checkTaken(t, loader, image, 2, 0, 7)
}

// Images as they come, some of them wrong, against the document's words: what
// is taken has the payload that its head tells, and is never older than what was
// taken ahead of it.
func TestLoadOneBehindTheOther(t *testing.T) {
	keys := []string{keyOf("a"), noKey(), keyOf("b")}
	ways := wrongWays()
	source := rand.New(rand.NewPCG(4, 8))
	for range 10 {
		least := source.Uint32N(8)
		loader := newLoader(t, least, keys...)
		taken := 0
		for range 60 {
			slot := []byte{0, 2, 2, 3}[source.IntN(4)]
			made := partsOf([]string{"a", "b"}[source.IntN(2)], least+source.Uint32N(4)-1, slot, mixed(source.IntN(300)))
			if source.IntN(4) == 0 {
				ways[source.IntN(len(ways))].turn(&made)
			}
			want := wantLoad(keys, least, made.image())
			checkLoad(t, loader, made.image(), want)
			if want.Code != api.OK {
				continue
			}
			taken++
			if want.Version < least || made.digest != wanted(made.payload) {
				t.Fatal("P10: an older image is taken, or one with another payload")
			}
			least = want.Version
		}
		if taken < 3 {
			t.Errorf("%d of the samples are taken", taken)
		}
	}
}

// Texts of all kinds that are no images, and pieces of one.
func TestLoadOfAnything(t *testing.T) {
	loader := newLoader(t, 0, keyOf("a"))
	image := imageOf("a", 0, 0, mixed(400))
	for from := range len(image) {
		checkLoad(t, loader, image[from:], wantLoad([]string{keyOf("a")}, 0, image[from:]))
		checkRefused(t, loader, image[:from], wantLoad(nil, 0, image[:from]).Code)
	}
	for n := range 500 {
		checkRefused(t, loader, strings.Repeat("\x00", n), wantLoad(nil, 0, strings.Repeat("\x00", n)).Code)
		checkRefused(t, loader, mixed(n), wantLoad(nil, 0, mixed(n)).Code)
	}
}
