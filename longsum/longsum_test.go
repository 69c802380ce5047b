package longsum_test

import (
	"bytes"
	"encoding/hex"
	"strings"
	"testing"

	"bosun/api"
	"bosun/longsum"
)

func sample(n int) []byte {
	b := make([]byte, n)
	x := uint32(n + 1)
	for i := range b {
		x = x*1664525 + 1013904223
		b[i] = byte(x >> 24)
	}
	return b
}

func text(d api.Long) string { return hex.EncodeToString(d[:]) }

// P4.1
func TestKnown(t *testing.T) {
	for _, c := range []struct{ text, want string }{
		{"", "cf83e1357eefb8bdf1542850d66d8007d620e4050b5715dc83f4a921d36ce9ce47d0d13c5d85f2b0ff8318d2877eec2f63b931bd47417a81a538327af927da3e"},
		{"abc", "ddaf35a193617abacc417349ae20413112e6fa4e89a97ea20a9eeee64b55d39a2192992a274fc1a836ba3c23a3feebbd454d4423643ce80e2a9ac94fa54ca49f"},
		{"abcdbcdecdefdefgefghfghighijhijkijkljklmklmnlmnomnopnopq", "204a8fc6dda82f0a0ced7beb8e08a41657c16ef468b228a8279be331a703c33596fd15c13b1b07f9aa1d3bea57789ca031ad85c7a71dd70354ec631238ca3445"},
		{"abcdefghbcdefghicdefghijdefghijkefghijklfghijklmghijklmnhijklmnoijklmnopjklmnopqklmnopqrlmnopqrsmnopqrstnopqrstu", "8e959b75dae313da8cf4f72814fc143f8f7779c6eb9f7fa17299aeadb6889018501d289e4900f7e4331b99dec4b5433ac7d329eeb6dd26545e96e55b874be909"},
		{strings.Repeat("a", 1000000), "e718483d0ce769644e2e42c7bc15b4638e1f98b13b2044285632a803afa973ebde0ff244877ea60a4cb0432ce577c31beb009c5c2c49aa2e4eadb217ad8cc09b"},
	} {
		b := []byte(c.text)
		if d := text(longsum.Of(b)); d != c.want {
			t.Errorf("Of, %d bytes: %s, want %s", len(b), d, c.want)
		}
		x := longsum.New()
		x.Write(b)
		if d := text(x.Sum()); d != c.want || string(b) != c.text {
			t.Errorf("Sum, %d bytes: %s, want %s", len(b), d, c.want)
		}
	}
	if longsum.Of() != longsum.Of(nil, nil) || longsum.Of() != longsum.New().Sum() {
		t.Error("no bytes")
	}
}

// P4.1: all lengths around the ends of blocks; the known digest is that of all their digests.
func TestLengths(t *testing.T) {
	var all []byte
	for n := range 300 {
		d := longsum.Of(sample(n))
		all = append(all, d[:]...)
	}
	if d := text(longsum.Of(all)); d != "2984cb2bff53c66d876445d1abf08fd0d248e64e2862b33f6452321475fcf4d9fc473f73c0dd6b561d0b9c64e47bf38e0f4c29135ce48edb276f8d3399e3467d" {
		t.Error(d)
	}
}

// P4.1
func TestSumChangesNothing(t *testing.T) {
	x := longsum.New()
	b := sample(300)
	for n := range b {
		if x.Sum() != longsum.Of(b[:n]) || x.Sum() != x.Sum() {
			t.Fatal(n, "bytes")
		}
		x.Write(b[n : n+1])
	}
	y := longsum.New()
	y.Write(b[:7])
	if x.Sum() != longsum.Of(b) || y.Sum() != longsum.Of(b[:7]) {
		t.Error("two at once")
	}
}

// P4.1
func TestNil(t *testing.T) {
	var x *longsum.Hash
	x.Write([]byte{1})
	if x.Sum() != (api.Long{}) {
		t.Error(x.Sum())
	}
}

// P4.1, P4.2
func TestParts(t *testing.T) {
	b := sample(290)
	want := longsum.Of(b)
	for i := range len(b) + 1 {
		for j := i; j <= len(b); j += 1 + j%5 {
			x := longsum.New()
			x.Write(b[:i])
			x.Write(b[i:j])
			x.Write(nil)
			x.Write(b[j:])
			if x.Sum() != want || longsum.Of(b[:i], b[i:j], nil, b[j:]) != want {
				t.Fatalf("cut at %d and %d", i, j)
			}
		}
	}
	if !bytes.Equal(b, sample(290)) {
		t.Error("an argument was changed")
	}
}
