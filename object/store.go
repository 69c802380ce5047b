package object

import "bosun/api"

// Store keeps an image that is received.
type Store interface {
	// Load is the packet of the image that is received, and how many bytes of it are kept.
	Load() ([]byte, int)
	// Start begins an image; nothing of it is kept.
	Start(init []byte) api.Errno
	// Put keeps bytes behind those that are kept.
	Put(b []byte) api.Errno
	// Image is all that is kept.
	Image() ([]byte, api.Errno)
}

// Memory is a store in memory.
type Memory struct {
	init, image []byte
}

// Load is the packet, and how many bytes are kept.
func (m *Memory) Load() ([]byte, int) {
	if m == nil {
		return nil, 0
	}
	return append([]byte(nil), m.init...), len(m.image)
}

// Start begins an image.
func (m *Memory) Start(init []byte) api.Errno {
	if m == nil {
		return api.ErrArg
	}
	m.init, m.image = append([]byte(nil), init...), nil
	return api.OK
}

// Put keeps bytes.
func (m *Memory) Put(b []byte) api.Errno {
	if m == nil {
		return api.ErrArg
	}
	m.image = append(m.image, b...)
	return api.OK
}

// Image is all that is kept.
func (m *Memory) Image() ([]byte, api.Errno) {
	if m == nil {
		return nil, api.ErrArg
	}
	return append([]byte(nil), m.image...), api.OK
}
