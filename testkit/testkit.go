// Package testkit signs what the tests need signed; a device only verifies.
package testkit

import (
	"bosun/api"
	"bosun/curve"
	"bosun/longsum"
	"bosun/packet"
	"bosun/scalar"
	"bosun/shortsum"
)

// Hardware and Type are those of the tests' devices and images.
const (
	Hardware = 0x51
	Type     = 3
)

// Signer has a secret, and the key by which its signatures are verified.
type Signer struct {
	Key    api.Key
	secret scalar.Num
	prefix []byte
}

// NewSigner is the signer of a seed (RFC 8032).
func NewSigner(seed [32]byte) Signer {
	long := longsum.Of(seed[:])
	long[0] &= 248
	long[31] = long[31]&63 | 64
	secret := scalar.Reduce(long[:32])
	return Signer{Key: curve.Base().Times(secret).Encode(), secret: secret, prefix: append([]byte(nil), long[32:]...)}
}

// Sign is the signer's signature for bytes in parts.
func (s Signer) Sign(msg ...[]byte) api.Signature {
	r := number(append([][]byte{s.prefix}, msg...))
	first := curve.Base().Times(r).Encode()
	k := number(append([][]byte{first[:], s.Key[:]}, msg...))
	second := scalar.Add(r, scalar.Mul(k, s.secret)).Encode()
	var sig api.Signature
	copy(sig[:32], first[:])
	copy(sig[32:], second[:])
	return sig
}

// Packet is the bytes of a packet, with the signer's signature in place of its own.
func (s Signer) Packet(p packet.Packet) []byte {
	p.Signature = s.Sign(p.Signed())
	return p.Encode()
}

// Init is the bytes of the packet of an image.
func (s Signer) Init(image []byte, version uint32) []byte {
	return s.Packet(Describe(image, version))
}

// Limits are those of a device that accepts what the signer signs.
func (s Signer) Limits() packet.Limits {
	return packet.Limits{Key: s.Key, Hardware: Hardware, Type: Type, Room: api.BankSize}
}

// Describe is the packet of an image, without a signature.
func Describe(image []byte, version uint32) packet.Packet {
	return packet.Packet{Hardware: Hardware, Type: Type, Version: version, Size: uint32(len(image)), Hash: shortsum.Of(image)}
}

// Sample is n bytes, which are others for another seed.
func Sample(n int, seed uint32) []byte {
	b := make([]byte, n)
	for i := range b {
		seed = seed*1664525 + 1013904223
		b[i] = byte(seed >> 24)
	}
	return b
}

func number(parts [][]byte) scalar.Num {
	long := longsum.Of(parts...)
	return scalar.Reduce(long[:])
}
