package shortsum_test

import (
	"bytes"
	"encoding/hex"
	"strings"
	"testing"

	"bosun/api"
	"bosun/shortsum"
)

func sample(n int) []byte {
	b := make([]byte, n)
	x := uint32(n + 1)
	for i := range b {
		x = x*1664525 + 1013904223
		b[i] = byte(x >> 24)
	}
	return b
}

func text(d api.Digest) string { return hex.EncodeToString(d[:]) }

// P3.1
func TestKnown(t *testing.T) {
	for _, c := range []struct{ text, want string }{
		{"", "e3b0c44298fc1c149afbf4c8996fb92427ae41e4649b934ca495991b7852b855"},
		{"abc", "ba7816bf8f01cfea414140de5dae2223b00361a396177a9cb410ff61f20015ad"},
		{"abcdbcdecdefdefgefghfghighijhijkijkljklmklmnlmnomnopnopq", "248d6a61d20638b8e5c026930c3e6039a33ce45964ff2167f6ecedd419db06c1"},
		{"abcdefghbcdefghicdefghijdefghijkefghijklfghijklmghijklmnhijklmnoijklmnopjklmnopqklmnopqrlmnopqrsmnopqrstnopqrstu", "cf5b16a778af8380036ce59e7b0492370b249b11e8f07a51afac45037afee9d1"},
		{strings.Repeat("a", 1000000), "cdc76e5c9914fb9281a1c7e284d73e67f1809a48a497200e046d39ccc7112cd0"},
	} {
		b := []byte(c.text)
		if d := text(shortsum.Of(b)); d != c.want {
			t.Errorf("Of, %d bytes: %s, want %s", len(b), d, c.want)
		}
		x := shortsum.New()
		x.Write(b)
		if d := text(x.Sum()); d != c.want || string(b) != c.text {
			t.Errorf("Sum, %d bytes: %s, want %s", len(b), d, c.want)
		}
	}
	if shortsum.Of() != shortsum.Of(nil, nil) || shortsum.Of() != shortsum.New().Sum() {
		t.Error("no bytes")
	}
}

// P3.1: all lengths around the ends of blocks; the known digest is that of all their digests.
func TestLengths(t *testing.T) {
	var all []byte
	for n := range 300 {
		d := shortsum.Of(sample(n))
		all = append(all, d[:]...)
	}
	if d := text(shortsum.Of(all)); d != "93248829951d5a6a7f7eaca6ddbe1570bd0641e8491085ad00e996cee77857c7" {
		t.Error(d)
	}
}

// P3.1
func TestSumChangesNothing(t *testing.T) {
	x := shortsum.New()
	b := sample(300)
	for n := range b {
		if x.Sum() != shortsum.Of(b[:n]) || x.Sum() != x.Sum() {
			t.Fatal(n, "bytes")
		}
		x.Write(b[n : n+1])
	}
	y := shortsum.New()
	y.Write(b[:7])
	if x.Sum() != shortsum.Of(b) || y.Sum() != shortsum.Of(b[:7]) {
		t.Error("two at once")
	}
}

// P3.1
func TestNil(t *testing.T) {
	var x *shortsum.Hash
	x.Write([]byte{1})
	if x.Sum() != (api.Digest{}) {
		t.Error(x.Sum())
	}
}

// P3.1, P3.2
func TestParts(t *testing.T) {
	b := sample(150)
	want := shortsum.Of(b)
	for i := range len(b) + 1 {
		for j := i; j <= len(b); j += 1 + j%5 {
			x := shortsum.New()
			x.Write(b[:i])
			x.Write(b[i:j])
			x.Write(nil)
			x.Write(b[j:])
			if x.Sum() != want || shortsum.Of(b[:i], b[i:j], nil, b[j:]) != want {
				t.Fatalf("cut at %d and %d", i, j)
			}
		}
	}
	if !bytes.Equal(b, sample(150)) {
		t.Error("an argument was changed")
	}
}
