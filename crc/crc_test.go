package crc_test

import (
	"bytes"
	"testing"

	"bosun/crc"
)

// slow is the checksum as the document tells it, bit by bit.
func slow(b []byte) uint32 {
	r := uint32(0xffffffff)
	for _, x := range b {
		for i := range 8 {
			low := r & 1
			r >>= 1
			if low != uint32(x>>i&1) {
				r ^= 3988292384
			}
		}
	}
	return ^r
}

func sample(n int) []byte {
	b := make([]byte, n)
	x := uint32(n + 1)
	for i := range b {
		x = x*1664525 + 1013904223
		b[i] = byte(x >> 24)
	}
	return b
}

// P2.1
func TestKnown(t *testing.T) {
	for _, c := range []struct {
		text string
		want uint32
	}{{"123456789", 3421780262}, {"", 0}, {"a", 0xe8b7be43}, {"abc", 0x352441c2}, {"\x00\x00\x00\x00", 0x2144df1c}, {"\xff\xff\xff\xff", 0xffffffff}} {
		if s := crc.Sum([]byte(c.text)); s != c.want {
			t.Errorf("%q: %x, want %x", c.text, s, c.want)
		}
		if s := crc.Update(0, []byte(c.text)); s != c.want {
			t.Errorf("Update, %q: %x, want %x", c.text, s, c.want)
		}
	}
	if crc.Sum() != 0 || crc.Sum(nil, nil) != 0 || crc.Update(77, nil) != 77 {
		t.Error("no bytes")
	}
}

// P2.1
func TestEachByte(t *testing.T) {
	for n := range 256 {
		b := []byte{byte(n), byte(n * 7)}
		if s := crc.Sum(b); s != slow(b) {
			t.Errorf("%d: %x, want %x", b, s, slow(b))
		}
	}
	for n := range 300 {
		b := sample(n)
		kept := bytes.Clone(b)
		if s := crc.Sum(b); s != slow(b) || !bytes.Equal(b, kept) {
			t.Errorf("%d bytes: %x, want %x", n, s, slow(b))
		}
	}
}

// P2.1, P2.2
func TestParts(t *testing.T) {
	b := sample(64)
	want := slow(b)
	for i := range len(b) + 1 {
		for j := i; j <= len(b); j++ {
			if s := crc.Sum(b[:i], b[i:j], nil, b[j:]); s != want {
				t.Fatalf("cut at %d and %d: %x, want %x", i, j, s, want)
			}
			if s := crc.Update(crc.Update(crc.Sum(b[:i]), b[i:j]), b[j:]); s != want {
				t.Fatalf("updated at %d and %d: %x, want %x", i, j, s, want)
			}
		}
	}
}
