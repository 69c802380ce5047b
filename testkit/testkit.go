// Package testkit signs what the tests need signed; a device only verifies.
package testkit

import (
	"bosun/api"
	"bosun/curve"
	"bosun/longsum"
	"bosun/scalar"
)

// Signer has a secret, and the key by which its signatures are verified.
type Signer struct {
	Key    api.Key
	secret scalar.Num
	prefix []byte
}

// NewSigner is the signer of a seed (RFC 8032).
func NewSigner(seed [32]byte) Signer {
	long := longsum.Of(seed[:])
	long[0] &= 248
	long[31] = long[31]&63 | 64
	secret := scalar.Reduce(long[:32])
	return Signer{Key: curve.Base().Times(secret).Encode(), secret: secret, prefix: append([]byte(nil), long[32:]...)}
}

// Sign is the signer's signature for bytes in parts.
func (s Signer) Sign(msg ...[]byte) api.Signature {
	r := number(append([][]byte{s.prefix}, msg...))
	first := curve.Base().Times(r).Encode()
	k := number(append([][]byte{first[:], s.Key[:]}, msg...))
	second := scalar.Add(r, scalar.Mul(k, s.secret)).Encode()
	var sig api.Signature
	copy(sig[:32], first[:])
	copy(sig[32:], second[:])
	return sig
}

func number(parts [][]byte) scalar.Num {
	long := longsum.Of(parts...)
	return scalar.Reduce(long[:])
}
