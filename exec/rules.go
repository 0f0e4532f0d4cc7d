package exec

import (
	"drawloom/api"
	"drawloom/bitop"
)

// rule is what an instruction of one kind does.
type rule func(d *doing)

// ruleOf is an instruction's rule, nil if there is none. Rules stand in several maps, so that a call makes only a small one.
func ruleOf(op int) rule {
	switch {
	case op <= api.IAdjust:
		return reckoning()[op]
	case op <= api.IPopa:
		return moving()[op]
	case op <= api.IBit:
		return turning()[op]
	case op <= api.ILoop:
		return choosing()[op]
	case op <= api.IFlag:
		return crossing()[op]
	}
	return ruling()[op]
}

// reckoning is IAlu to IAdjust.
func reckoning() map[int]rule {
	return map[int]rule{
		api.IAlu:    (*doing).sum,
		api.IShift:  (*doing).shift,
		api.IDouble: (*doing).shiftDouble,
		api.IMul:    (*doing).multiply,
		api.IImul:   (*doing).multiplyShort,
		api.IDiv:    (*doing).divide,
		api.IAdjust: (*doing).adjust,
	}
}

// moving is IMov to IPopa.
func moving() map[int]rule {
	return map[int]rule{
		api.IMov:   func(d *doing) { d.a().write(d.b().read()) },
		api.IMovx:  (*doing).moveWider,
		api.IXchg:  (*doing).exchange,
		api.ILea:   func(d *doing) { d.a().write(d.offset(d.x.B)) },
		api.IPush:  func(d *doing) { d.push(d.a().read()) },
		api.IPop:   (*doing).popOperand,
		api.IPusha: (*doing).pushAll,
		api.IPopa:  (*doing).popAll,
	}
}

// turning is IPushf to IBit.
func turning() map[int]rule {
	return map[int]rule{
		api.IPushf:  func(d *doing) { d.push(d.cpu.Flags) },
		api.IPopf:   (*doing).popFlags,
		api.ISahf:   (*doing).flagsFromAh,
		api.ILahf:   (*doing).flagsIntoAh,
		api.IWiden:  (*doing).widen,
		api.IDivide: (*doing).spreadSign,
		api.IBswap:  func(d *doing) { d.a().write(bitop.Swap(d.a().read())) },
		api.IBit:    (*doing).bit,
	}
}

// choosing is IScan to ILoop.
func choosing() map[int]rule {
	return map[int]rule{
		api.IScan: (*doing).scan,
		api.ISet:  (*doing).set,
		api.ICmov: (*doing).moveIf,
		api.IJmp:  func(d *doing) { d.jump(d.target()) },
		api.IJcc:  func(d *doing) { d.jumpIf(d.holds()) },
		api.ICall: (*doing).call,
		api.IRet:  (*doing).comeBack,
		api.ILoop: (*doing).loop,
	}
}

// crossing is IInt to IFlag.
func crossing() map[int]rule {
	return map[int]rule{
		api.IInt:    (*doing).interrupt,
		api.IIret:   func(d *doing) { d.out.Iret = true },
		api.IFar:    (*doing).jumpFar,
		api.ILeave:  (*doing).leave,
		api.IString: (*doing).repeat,
		api.IIn:     (*doing).takeIn,
		api.IOut:    (*doing).putOut,
		api.IFlag:   (*doing).flag,
	}
}

// ruling is IHlt to IClts.
func ruling() map[int]rule {
	return map[int]rule{
		api.IHlt:    (*doing).halt,
		api.INop:    func(*doing) {},
		api.ILgdt:   func(d *doing) { d.loadTable(&d.cpu.Gdt) },
		api.ILidt:   func(d *doing) { d.loadTable(&d.cpu.Idt) },
		api.ILtr:    (*doing).loadTask,
		api.IMovcr:  (*doing).moveControl,
		api.IInvlpg: (*doing).dropPage,
		api.IClts:   (*doing).clearTask,
	}
}
