package packet_test

import (
	"bytes"
	"testing"

	"bosun/api"
	"bosun/packet"
	"bosun/testkit"
	"bosun/tlv"
)

var signer = testkit.NewSigner([32]byte{12})

func sample() packet.Packet {
	p := packet.Packet{Hardware: 0x04030201, Type: 5, Version: 0x0a090807, Size: 0x0e0d0c0b}
	copy(p.Hash[:], testkit.Sample(32, 1))
	copy(p.Signature[:], testkit.Sample(64, 2))
	return p
}

// items are those of the bytes of sample.
func items(t *testing.T) []tlv.Item {
	t.Helper()
	l, e := tlv.Parse(sample().Encode())
	if e != api.OK {
		t.Fatal(e)
	}
	return l
}

func encoded(t *testing.T, l []tlv.Item) []byte {
	t.Helper()
	b, e := tlv.Encode(l...)
	if e != api.OK {
		t.Fatal(e)
	}
	return b
}

// P12.1
func TestEncode(t *testing.T) {
	p := sample()
	want := []byte{1, 4, 1, 2, 3, 4, 2, 1, 5, 3, 4, 7, 8, 9, 10, 4, 4, 11, 12, 13, 14, 5, 32}
	want = append(want, p.Hash[:]...)
	if b := p.Signed(); !bytes.Equal(b, want) || len(b) != 55 {
		t.Errorf("Signed: %d", b)
	}
	want = append(append(want, 6, 64), p.Signature[:]...)
	if b := p.Encode(); !bytes.Equal(b, want) || len(b) != 121 {
		t.Errorf("Encode: %d", b)
	}
	if b := (packet.Packet{}).Encode(); len(b) != 121 {
		t.Error(len(b))
	}
	p.Encode()[30] ^= 1
	if p != sample() {
		t.Error("the bytes share memory with the packet")
	}
}

// P12.1, P12.3
func TestParse(t *testing.T) {
	last := packet.Packet{Hardware: 1<<32 - 1, Type: 255, Version: 1<<32 - 1, Size: 1<<32 - 1}
	for _, p := range []packet.Packet{{}, sample(), last} {
		b := p.Encode()
		kept := bytes.Clone(b)
		if got, e := packet.Parse(b); got != p || e != api.OK || !bytes.Equal(b, kept) {
			t.Errorf("%v: %v, %d", p, got, e)
		}
	}
}

// P12.1
func TestWrongBytes(t *testing.T) {
	right := sample().Encode()
	without := func(i int) []byte { l := items(t); return encoded(t, append(l[:i:i], l[i+1:]...)) }
	with := func(i int, v []byte) []byte { l := items(t); l[i].Value = v; return encoded(t, l) }
	more := func(tag byte, v ...byte) []byte {
		return encoded(t, append(items(t), tlv.Item{Tag: tag, Value: v}))
	}
	tagged := items(t)
	tagged[5].Tag = 7
	for _, c := range []struct {
		what string
		b    []byte
		e    api.Errno
	}{
		{"no bytes", nil, api.ErrForm},
		{"129 bytes", append(right, make([]byte, 8)...), api.ErrLong},
		{"129 bytes, an item more", more(7, 1, 2, 3, 4, 5, 6), api.ErrLong},
		{"128 bytes, an item more", more(7, 1, 2, 3, 4, 5), api.ErrForm},
		{"an empty item more", more(7), api.ErrForm},
		{"one byte more", append(bytes.Clone(right), 7), api.ErrCut},
		{"a byte less", right[:120], api.ErrCut},
		{"the signed bytes alone", right[:55], api.ErrForm},
		{"a wrong tag", append(bytes.Clone(right), 6, 0), api.ErrForm},
		{"a long value", []byte{1, 201}, api.ErrLong},
		{"another tag", encoded(t, tagged), api.ErrForm},
		{"no Hardware", without(0), api.ErrForm},
		{"no Type", without(1), api.ErrForm},
		{"no Signature", without(5), api.ErrForm},
		{"Hardware of three bytes", with(0, make([]byte, 3)), api.ErrForm},
		{"Hardware of five bytes", with(0, make([]byte, 5)), api.ErrForm},
		{"Type of no bytes", with(1, nil), api.ErrForm},
		{"Type of two bytes", with(1, make([]byte, 2)), api.ErrForm},
		{"Version of three bytes", with(2, make([]byte, 3)), api.ErrForm},
		{"Size of three bytes", with(3, make([]byte, 3)), api.ErrForm},
		{"Hash of 31 bytes", with(4, make([]byte, 31)), api.ErrForm},
		{"Hash of 33 bytes", with(4, make([]byte, 33)), api.ErrForm},
		{"Signature of 63 bytes", with(5, make([]byte, 63)), api.ErrForm},
		{"Signature of 65 bytes", with(5, make([]byte, 65)), api.ErrForm},
	} {
		if p, e := packet.Parse(c.b); e != c.e || p != (packet.Packet{}) {
			t.Errorf("Parse, %s: %d, want %d", c.what, e, c.e)
		}
		if p, e := packet.Check(c.b, packet.Limits{}); e != c.e || p != (packet.Packet{}) {
			t.Errorf("Check, %s: %d, want %d", c.what, e, c.e)
		}
	}
}

// P12.2: each error, with all that come behind it.
func TestCheck(t *testing.T) {
	image := testkit.Sample(300, 5)
	good := testkit.Describe(image, 7)
	l := signer.Limits()
	l.Floor, l.Room = 7, 300
	for _, c := range []struct {
		what   string
		change func(p *packet.Packet)
		broken bool
		e      api.Errno
	}{
		{"right", func(p *packet.Packet) {}, false, api.OK},
		{"newer", func(p *packet.Packet) { p.Version = 1<<32 - 1 }, false, api.OK},
		{"smaller", func(p *packet.Packet) { p.Size = 1 }, false, api.OK},
		{"all wrong", func(p *packet.Packet) { p.Hardware++; p.Type++; p.Size = 0; p.Version = 0 }, true, api.ErrHardware},
		{"type", func(p *packet.Packet) { p.Type--; p.Size = 301; p.Version = 6 }, true, api.ErrType},
		{"no size", func(p *packet.Packet) { p.Size = 0; p.Version = 6 }, true, api.ErrSize},
		{"great size", func(p *packet.Packet) { p.Size = 301; p.Version = 6 }, true, api.ErrSize},
		{"older", func(p *packet.Packet) { p.Version = 6 }, true, api.ErrVersion},
		{"signature", func(p *packet.Packet) {}, true, api.ErrSign},
	} {
		p := good
		c.change(&p)
		p.Signature = signer.Sign(p.Signed())
		if c.broken {
			p.Signature[40] ^= 4
		}
		want := p
		if c.e != api.OK {
			want = packet.Packet{}
		}
		if got, e := packet.Check(p.Encode(), l); e != c.e || got != want {
			t.Errorf("%s: %d, want %d", c.what, e, c.e)
		}
	}
}

// P12.2
func TestCheckSignature(t *testing.T) {
	image := testkit.Sample(300, 5)
	b := signer.Init(image, 7)
	l := signer.Limits()
	if _, e := packet.Check(b, l); e != api.OK {
		t.Fatal(e)
	}
	l.Key = testkit.NewSigner([32]byte{13}).Key
	if _, e := packet.Check(b, l); e != api.ErrSign {
		t.Error("another key:", e)
	}
	for i := range b { // each byte of the packet is checked or signed
		wrong := bytes.Clone(b)
		wrong[i] ^= 1
		if _, e := packet.Check(wrong, signer.Limits()); e == api.OK {
			t.Error("byte", i, "may be another one")
		}
	}
}

// P12.2
func TestMatch(t *testing.T) {
	image := testkit.Sample(300, 5)
	p := testkit.Describe(image, 7)
	kept := bytes.Clone(image)
	wrong := bytes.Clone(image)
	wrong[299] ^= 128
	for _, c := range []struct {
		what  string
		parts [][]byte
		e     api.Errno
	}{
		{"whole", [][]byte{image}, api.OK},
		{"in parts", [][]byte{image[:7], nil, image[7:256], image[256:]}, api.OK},
		{"a byte less", [][]byte{image[:299]}, api.ErrSize},
		{"a byte more", [][]byte{image, {0}}, api.ErrSize},
		{"none", nil, api.ErrSize},
		{"another one", [][]byte{wrong}, api.ErrHash},
		{"in another order", [][]byte{image[7:], image[:7]}, api.ErrHash},
	} {
		if e := p.Match(c.parts...); e != c.e {
			t.Errorf("%s: %d, want %d", c.what, e, c.e)
		}
	}
	if !bytes.Equal(image, kept) {
		t.Error("an argument was changed")
	}
	none := testkit.Describe(nil, 1)
	if none.Match() != api.OK || none.Match(nil, nil) != api.OK || (packet.Packet{}).Match() != api.ErrHash {
		t.Error("an image of no bytes")
	}
	p.Size = 1<<32 - 1
	if e := p.Match(image); e != api.ErrSize {
		t.Error("a great size:", e)
	}
}
