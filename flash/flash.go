// Package flash is layer 1: NOR flash memory, whose pages are erased and whose words are programmed. See shared/doc/01-flash.md.
package flash

import "bosun/api"

// Most is how many pages there may be.
const Most = 64

// whole is the tear of a step that is completed: all of its bits are done.
const whole = 1<<32 - 1

// Flash is pages of bytes, and what befalls them.
type Flash struct {
	cells    []byte
	worn     []int
	steps    int
	lockFrom int
	lockTo   int
	off      bool
	armed    bool
	after    int
	tear     uint32
}

// New is so many pages, all erased.
func New(pages int) (*Flash, api.Errno) {
	if pages < 1 || pages > Most {
		return nil, api.ErrArg
	}
	f := &Flash{cells: make([]byte, pages*api.Page), worn: make([]int, pages)}
	for i := range f.cells {
		f.cells[i] = 0xff
	}
	return f, api.OK
}

// Size is how many bytes there are.
func (f *Flash) Size() int {
	if f == nil {
		return 0
	}
	return len(f.cells)
}

// Read is so many bytes from a place on.
func (f *Flash) Read(at, n int) ([]byte, api.Errno) {
	if e := f.ready(); e != api.OK {
		return nil, e
	}
	if !f.inside(at, n) {
		return nil, api.ErrBounds
	}
	return append([]byte(nil), f.cells[at:at+n]...), api.OK
}

// Lock locks pages from one up to another one, and no others.
func (f *Flash) Lock(from, to int) api.Errno {
	if f == nil || from < 0 || to < from || to > len(f.worn) {
		return api.ErrArg
	}
	f.lockFrom, f.lockTo = from, to
	return api.OK
}

// Fail lets the power fail in the step behind so many; tear tells what of it is done.
func (f *Flash) Fail(after int, tear uint32) api.Errno {
	if f == nil || after < 0 {
		return api.ErrArg
	}
	f.armed, f.after, f.tear = true, after, tear
	return api.OK
}

// Power switches the power on; no failure is armed then.
func (f *Flash) Power() {
	if f != nil {
		f.off, f.armed = false, false
	}
}

// Off tells whether there is no power.
func (f *Flash) Off() bool {
	return f == nil || f.off
}

// Erase erases a page.
func (f *Flash) Erase(page int) api.Errno {
	if e := f.ready(); e != api.OK {
		return e
	}
	if page < 0 || page >= len(f.worn) {
		return api.ErrBounds
	}
	if f.locked(page) {
		return api.ErrLock
	}
	done := f.step()
	for i := range api.Page {
		if done>>(i%32)&1 == 1 {
			f.cells[page*api.Page+i] = 0xff
		}
	}
	if f.off {
		return api.ErrReset
	}
	f.worn[page]++
	return api.OK
}

// Program programs words from a place on.
func (f *Flash) Program(at int, b []byte) api.Errno {
	if e := f.ready(); e != api.OK {
		return e
	}
	if at%api.Word != 0 || len(b)%api.Word != 0 {
		return api.ErrAlign
	}
	if !f.inside(at, len(b)) {
		return api.ErrBounds
	}
	words := len(b) / api.Word
	for i := range words {
		if f.locked((at + i*api.Word) / api.Page) {
			return api.ErrLock
		}
	}
	for i := range words {
		from := i * api.Word
		if e := f.programWord(at+from, b[from:from+api.Word]); e != api.OK {
			return e
		}
	}
	return api.OK
}

// Worn is how often each page was erased.
func (f *Flash) Worn() []int {
	if f == nil {
		return nil
	}
	return append([]int(nil), f.worn...)
}

// Steps is how many steps were completed.
func (f *Flash) Steps() int {
	if f == nil {
		return 0
	}
	return f.steps
}

// ready tells whether there is flash, and power.
func (f *Flash) ready() api.Errno {
	if f == nil {
		return api.ErrArg
	}
	if f.off {
		return api.ErrReset
	}
	return api.OK
}

// inside compares n with what is left behind at, for at+n might be beyond the greatest int.
func (f *Flash) inside(at, n int) bool {
	return n >= 0 && at >= 0 && at <= len(f.cells) && n <= len(f.cells)-at
}

func (f *Flash) locked(page int) bool {
	return page >= f.lockFrom && page < f.lockTo
}

// step begins a step, and tells which of its bits are done: all, unless the power fails in it.
func (f *Flash) step() uint32 {
	if f.armed && f.after == 0 {
		f.armed, f.off = false, true
		return f.tear
	}
	if f.armed {
		f.after--
	}
	f.steps++
	return whole
}

func (f *Flash) programWord(at int, b []byte) api.Errno {
	done := f.step()
	e := api.OK
	for i := range api.Word {
		f.cells[at+i] &= b[i] | ^byte(done>>(8*i))
		if f.cells[at+i] != b[i] {
			e = api.ErrProgram
		}
	}
	if f.off {
		return api.ErrReset
	}
	return e
}
