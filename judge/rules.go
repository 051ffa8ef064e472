package judge

import (
	"patina/api"
	"patina/script"
)

// bits is how many bits a page has.
const bits = 8 * api.Chunks * api.Word

// sectorText is the bytes of a sector.
type sectorText [api.Sector]byte

// known is what is known of the sectors: of each its contents, any of which it may have.
type known struct {
	contents [api.Sectors]set[sectorText]
}

// rule tells whether a reply may be, and takes over what it changes.
type rule func(r api.Reply) bool

// nothingWritten is what is known ahead of the first entry: all sectors are noughts.
func nothingWritten() *known {
	k := &known{}
	for sector := range k.contents {
		k.contents[sector] = alone(sectorText{})
	}
	return k
}

// canBe tells whether an entry can be, with what was seen ahead of it.
func (k *known) canBe(e api.Entry, ahead api.Look) bool {
	mayHaveData := e.Step.Kind == api.StepRead && e.Reply.Code == 0
	if len(e.Reply.Data) > 0 && !mayHaveData {
		return false
	}
	return k.ruleOf(e.Step, ahead, e.Look)(e.Reply)
}

// ruleOf is the rule of a step, with what was seen ahead of it and behind it.
func (k *known) ruleOf(s api.Step, ahead, behind api.Look) rule {
	switch s.Kind {
	case api.StepRead, api.StepWrite, api.StepTrim:
		return k.ruleOfCall(s, ahead, behind)
	case api.StepMount:
		return ruleOfMount(ahead, behind)
	case api.StepReport:
		return zeroIf(ahead.Mounted, api.ErrNotMounted)
	case api.StepFlip:
		return zeroIf(isBelow(s.A, api.All) && isBelow(s.B, bits), api.ErrArg)
	case api.StepFailProgram:
		return zeroIf(isBelow(s.A, api.Blocks) && s.B >= 0, api.ErrArg)
	case api.StepFailErase:
		return zeroIf(isBelow(s.A, api.Blocks), api.ErrArg)
	case api.StepCut:
		return zeroIf(s.A >= 0, api.ErrArg)
	case api.StepPower:
		return only(0)
	}
	return only(api.ErrForm)
}

// ruleOfCall is the rule of a call of the host's.
func (k *known) ruleOfCall(s api.Step, ahead, behind api.Look) rule {
	switch {
	case !ahead.Mounted:
		return only(api.ErrNotMounted)
	case !isBelow(s.A, api.Sectors):
		return only(api.ErrArg)
	case s.Kind == api.StepRead:
		return ruleOfRead(&k.contents[s.A], ahead.Marks[s.A], behind)
	case s.Kind == api.StepWrite:
		return ruleOfWrite(&k.contents[s.A], textOf(script.Fill(s.B)), behind)
	}
	return ruleOfWrite(&k.contents[s.A], sectorText{}, behind)
}

// ruleOfRead is the rule of a read of a sector with these contents and this mark.
func ruleOfRead(contents *set[sectorText], mark int, behind api.Look) rule {
	return func(r api.Reply) bool {
		switch r.Code {
		case 0:
			return len(r.Data) == api.Sector && (mark == api.Gone || contents.settle(textOf(r.Data)))
		case api.ErrMedia:
			return mark != api.Whole
		case api.ErrPower:
			return !behind.On
		}
		return false
	}
}

// ruleOfWrite is the rule of what gives a sector with these contents its bytes. One that the power cut is done, or it is not.
func ruleOfWrite(contents *set[sectorText], written sectorText, behind api.Look) rule {
	return func(r api.Reply) bool {
		switch {
		case r.Code == 0:
			*contents = alone(written)
			return true
		case r.Code == api.ErrPower && !behind.On:
			contents.add(written)
			return true
		}
		return r.Code == api.ErrWornOut && behind.Worn
	}
}

// ruleOfMount is the rule of a mount.
func ruleOfMount(ahead, behind api.Look) rule {
	switch {
	case ahead.Mounted:
		return only(api.ErrState)
	case !ahead.On:
		return only(api.ErrPower)
	}
	return func(r api.Reply) bool { return r.Code == 0 || r.Code == api.ErrPower && !behind.On }
}

// zeroIf is the rule by which 0 alone may be answered, or, where the step is refused, that Code alone.
func zeroIf(done bool, refused api.Code) rule {
	if done {
		return only(0)
	}
	return only(refused)
}

// only is the rule by which that Code alone may be answered.
func only(code api.Code) rule {
	return func(r api.Reply) bool { return r.Code == code }
}

// textOf is the text of as many bytes as a sector has.
func textOf(b []byte) sectorText {
	var t sectorText
	copy(t[:], b)
	return t
}

// isBelow tells whether a number is one of so many, from 0 on.
func isBelow(n, many int) bool { return n >= 0 && n < many }
