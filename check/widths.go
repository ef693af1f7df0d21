package check

import (
	"matchguard/api"
	"matchguard/value"
)

const byteBits = 8

// widthsFit reports whether numbers of bits and of elements fit together.
func (c *catalog) widthsFit(s api.Schema) bool {
	return c.isPort(api.FieldIngress) && c.isPort(api.FieldEgress) &&
		all(s.Headers, c.headerWidthFits) &&
		all(s.States, c.stateWidthsFit) &&
		all(s.Actions, c.actionWidthsFit) &&
		all(s.Tables, c.defaultFits) &&
		all(s.Roles, c.grantsFit) &&
		all(s.Refs, c.refWidthFits)
}

func (c *catalog) bits(id int) int {
	return c.fields[id].Bits
}

func (c *catalog) isPort(id int) bool {
	return c.bits(id) == api.PortBits
}

// headerWidthFits reports whether a header consists of whole bytes, not too many, and has no port among its fields.
func (c *catalog) headerWidthFits(x api.Header) bool {
	sum := 0
	for _, id := range x.Fields {
		if id == api.FieldIngress || id == api.FieldEgress {
			return false
		}
		sum += c.bits(id)
	}
	return sum%byteBits == 0 && sum <= byteBits*api.MaxHeaderBytes
}

func (c *catalog) stateWidthsFit(x api.State) bool {
	bits := c.bits(x.Select)
	return all(x.Cases, func(b api.Case) bool {
		return value.Fits(b.Value, bits) && value.Fits(b.Mask, bits) && value.And(b.Value, b.Mask) == b.Value
	})
}

func (c *catalog) actionWidthsFit(x api.Action) bool {
	return all(x.Body, func(p api.Prim) bool { return c.width(x, p.Src) <= c.room(p) })
}

// width returns how many bits an operand in the action a needs; 0 if there is none.
func (c *catalog) width(a api.Action, x api.Operand) int {
	switch x.Kind {
	case api.FromField:
		return c.bits(x.N)
	case api.FromParam:
		return a.Params[x.N].Bits
	}
	return value.Len(x.Value)
}

// room returns how many bits the operand of a primitive may have; 0 if there is none.
func (c *catalog) room(x api.Prim) int {
	switch x.Op {
	case api.PrimSet, api.PrimAdd, api.PrimXor:
		return c.bits(x.Dst)
	case api.PrimForward:
		return api.PortBits
	}
	return 0
}

func (c *catalog) defaultFits(x api.Table) bool {
	params := c.actions[x.Default].Params
	if len(x.DefaultArgs) != len(params) {
		return false
	}
	for i, p := range params {
		if !value.Fits(x.DefaultArgs[i], p.Bits) {
			return false
		}
	}
	return true
}

func (c *catalog) grantsFit(x api.Role) bool {
	return all(x.Grants, func(g api.Grant) bool { return len(g.Keys) == len(c.tables[g.Table].Keys) })
}

func (c *catalog) refWidthFits(x api.Ref) bool {
	return c.refBits(x) == c.bits(c.to(x).Field)
}

// refBits returns the bits of the key or the parameter that refers.
func (c *catalog) refBits(x api.Ref) int {
	if x.Action == 0 {
		return c.bits(c.from(x).Field)
	}
	return c.actions[x.Action].Params[x.Param].Bits
}
