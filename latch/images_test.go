package latch_test

import (
	"crypto/ed25519"
	"math/big"
	"strings"
	"testing"

	"latch/api"
	"latch/latch"
)

// seedOf makes a seed out of a name.
func seedOf(name string) string { return (name + noughts)[:32] }

func keyOf(name string) string { return string(ed25519.NewKeyFromSeed([]byte(seedOf(name)))[32:]) }

// noKey is no point's code: its y is p.
func noKey() string { return little(prime(), 32) }

// parts are those of an image, each to be set apart from the others.
type parts struct {
	magic, version, size, slot, rest, digest string
	signature                                string // where it is empty, that by the seed of signer
	signer                                   string
	payload                                  string
}

func number4(n uint32) string { return little(big.NewInt(int64(n)), 4) }

// partsOf are those of an image as it should be.
func partsOf(signer string, version uint32, slot byte, payload string) parts {
	return parts{
		magic:   "LATCHIMG",
		version: number4(version),
		size:    number4(uint32(len(payload))),
		slot:    string([]byte{slot}),
		rest:    strings.Repeat("\x00", 47),
		digest:  wanted(payload),
		signer:  signer,
		payload: payload,
	}
}

func (p parts) signed() string { return p.magic + p.version + p.size + p.slot + p.rest + p.digest }

func (p parts) image() string {
	signature := p.signature
	if signature == "" {
		signature = librarySign(seedOf(p.signer), p.signed())
	}
	return p.signed() + signature + p.payload
}

// imageOf is an image as it should be.
func imageOf(signer string, version uint32, slot byte, payload string) string {
	return partsOf(signer, version, slot, payload).image()
}

// libraryVerify tells what wantVerify does, at a key of 32 bytes, and sooner: the
// library goes by the same formula, but takes some keys that are no point's code.
func libraryVerify(key, message, signature string) api.Errno {
	if _, ok := pairOf(key); !ok {
		return api.ErrPoint
	}
	if numberOf(signature[32:]).Cmp(order()) >= 0 {
		return api.ErrScalar
	}
	if !ed25519.Verify([]byte(key), []byte(message), []byte(signature)) {
		return api.ErrSign
	}
	return api.OK
}

// wantLoad tells a loader's verdict by the document, word by word.
func wantLoad(keys []string, least uint32, image string) api.Verdict {
	if len(image) < 192 {
		return api.Verdict{Code: api.ErrShort}
	}
	number := func(from, to int) uint64 { return numberOf(image[from:to]).Uint64() }
	version, size, slot := number(8, 12), number(12, 16), number(16, 17)
	switch {
	case image[:8] != "LATCHIMG":
		return api.Verdict{Code: api.ErrMagic}
	case image[17:64] != strings.Repeat("\x00", 47):
		return api.Verdict{Code: api.ErrHead}
	case size != uint64(len(image)-192):
		return api.Verdict{Code: api.ErrLength}
	case slot >= uint64(len(keys)):
		return api.Verdict{Code: api.ErrSlot}
	case version < uint64(least):
		return api.Verdict{Code: api.ErrOld}
	case image[64:128] != wanted(image[192:]):
		return api.Verdict{Code: api.ErrDigest}
	}
	if code := libraryVerify(keys[slot], image[:128], image[128:192]); code != api.OK {
		return api.Verdict{Code: code}
	}
	return api.Verdict{Version: uint32(version), Slot: int(slot), From: 192, Size: int(size)}
}

func newLoader(t *testing.T, version uint32, keys ...string) *latch.Loader {
	t.Helper()
	loader, code := latch.New(keys, version)
	if loader == nil || code != api.OK {
		t.Fatalf("P8: New of %d keys = %v, %d", len(keys), loader, code)
	}
	if got := loader.Version(); got != version {
		t.Fatalf("P8: a new loader's least version is %d, want %d", got, version)
	}
	return loader
}

// checkLoad looks at a verdict, and at the least version behind it.
func checkLoad(t *testing.T, loader *latch.Loader, image string, want api.Verdict) {
	t.Helper()
	least := loader.Version()
	if want.Code == api.OK {
		least = want.Version
	}
	if got := loader.Load(image); got != want {
		t.Errorf("P9: Load of %d bytes, %.200x = %+v, want %+v", len(image), image, got, want)
	}
	for range 2 { // telling it changes nothing
		if got := loader.Version(); got != least {
			t.Errorf("P9: Version() = %d, want %d", got, least)
		}
	}
}

func checkTaken(t *testing.T, loader *latch.Loader, image string, version uint32, slot, size int) {
	t.Helper()
	checkLoad(t, loader, image, api.Verdict{Version: version, Slot: slot, From: 192, Size: size})
}

func checkRefused(t *testing.T, loader *latch.Loader, image string, want api.Errno) {
	t.Helper()
	checkLoad(t, loader, image, api.Verdict{Code: want})
}
