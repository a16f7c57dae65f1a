package control

import (
	"bytes"

	"gemel/api"
)

// The fields of a note, each a bit; the lower one's bytes stand ahead.
const (
	hasVlan = 1 << iota
	hasMac
	hasPort
	hasState
	hasBody

	allFields = 1<<iota - 1
)

// kinds has the fields of each Kind, from 0 (no note) on.
var kinds = [...]int{
	0:               0,
	api.NoteLearn:   hasVlan | hasMac | hasPort,
	api.NoteGone:    hasVlan | hasMac,
	api.NoteMember:  hasPort | hasState,
	api.NoteBlocked: hasPort | hasState,
	api.NoteBpdu:    hasPort | hasBody,
	api.NotePort:    hasPort | hasState,
	api.NoteBulk:    hasState,
	api.NoteFrame:   hasVlan | hasPort | hasState | hasBody,
}

// What a Port is at most, and a State: of most Kinds, and of two that have more of them.
const (
	mostPort       = 1000
	mostState      = 1
	mostPortState  = 2
	mostFrameState = 250
)

func known(kind int) bool { return within(kind, 0, len(kinds)-1) }

// fieldsOf answers no field of a Kind that is none: a reader comes upon such ones.
func fieldsOf(kind int) int {
	if !known(kind) {
		return 0
	}
	return kinds[kind]
}

// each goes through these fields, in the order of their bytes.
func each(fields int, do func(field int)) {
	for field := hasVlan; field <= hasBody; field <<= 1 {
		if fields&field != 0 {
			do(field)
		}
	}
}

// fits tells whether a field that the note's Kind has is within its bounds; a Mac has none.
func fits(n api.Note, field int) bool {
	switch field {
	case hasVlan:
		return within(n.Vlan, 1, api.MaxVlan)
	case hasPort:
		return within(n.Port, 0, mostPort)
	case hasState:
		return within(n.State, 0, mostStateOf(n.Kind))
	case hasBody:
		return len(n.Body) <= api.MaxNote
	}
	return true
}

func mostStateOf(kind int) int {
	switch kind {
	case api.NotePort:
		return mostPortState
	case api.NoteFrame:
		return mostFrameState
	}
	return mostState
}

func blank(n api.Note, field int) bool {
	switch field {
	case hasVlan:
		return n.Vlan == 0
	case hasMac:
		return n.Mac == api.Mac{}
	case hasPort:
		return n.Port == 0
	case hasState:
		return n.State == 0
	}
	return len(n.Body) == 0
}

func appendField(b []byte, n api.Note, field int) []byte {
	switch field {
	case hasVlan:
		return appendNumber(b, n.Vlan, pairSize)
	case hasMac:
		return append(b, n.Mac[:]...)
	case hasPort:
		return appendNumber(b, n.Port, pairSize)
	case hasState:
		return appendNumber(b, n.State, byteSize)
	}
	b = appendNumber(b, len(n.Body), pairSize)
	return append(b, n.Body...)
}

// readField is the note with that field as the reader has it; a Body is copied, that it shares nothing with the reader's bytes.
func readField(r *reader, n api.Note, field int) api.Note {
	switch field {
	case hasVlan:
		n.Vlan = r.number(pairSize)
	case hasMac:
		copy(n.Mac[:], r.take(len(n.Mac)))
	case hasPort:
		n.Port = r.number(pairSize)
	case hasState:
		n.State = r.number(byteSize)
	case hasBody:
		n.Body = bytes.Clone(r.take(r.number(pairSize)))
	}
	return n
}
