package bpdu

import (
	"gemel/api"
	"gemel/mac"
)

// What stands ahead of each one, and behind a BpduRapid.
const (
	protocol     = 0
	rapidVersion = 2
	otherVersion = 0
	rapidRest    = 0
)

// step is told a number and how many bytes it has, and answers the number that is to stand there: the same one, or the one that was read.
type step func(n, size int) int

// walk goes through all that has bytes, in their order. It panics where what a step answers is none: a reader's bytes may be so, what is Right is not.
func walk(p api.Bpdu, do step) api.Bpdu {
	p.Kind = walkHead(p.Kind, do)
	if p.Kind == api.BpduChange {
		return p
	}
	p.Flags = do(p.Flags, 1)
	p.Root = walkId(p.Root, do)
	p.Cost = do(p.Cost, 4)
	p.Bridge = walkId(p.Bridge, do)
	p.Port = do(p.Port, 2)
	p.Age = do(p.Age, 2)
	p.MaxAge = do(p.MaxAge, 2)
	p.Hello = do(p.Hello, 2)
	p.Forward = do(p.Forward, 2)
	if p.Kind == api.BpduRapid {
		must(do(rapidRest, 1) == rapidRest)
	}
	return p
}

// walkHead holds the version against the Kind only where both are there: a reader comes to the version first.
func walkHead(kind int, do step) int {
	must(do(protocol, 2) == protocol)
	version := do(versionOf(kind), 1)
	kind = do(kind, 1)
	must(known(kind) && version == versionOf(kind))
	return kind
}

func walkId(id api.Id, do step) api.Id {
	id.Prio = do(id.Prio, 2)
	n := do(int(mac.Number(id.Mac)), len(id.Mac))
	// A number of six bytes is always an address.
	id.Mac, _ = mac.Of(uint64(n))
	return id
}

func known(kind int) bool {
	switch kind {
	case api.BpduConfig, api.BpduRapid, api.BpduChange:
		return true
	}
	return false
}

func versionOf(kind int) int {
	if kind == api.BpduRapid {
		return rapidVersion
	}
	return otherVersion
}

func must(is bool) {
	if !is {
		panic(api.ErrForm)
	}
}
