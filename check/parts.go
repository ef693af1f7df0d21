package check

import "matchguard/api"

// The functions of this file judge each part of a schema by itself.

// namesFit reports whether all names are names that their elements may have.
func namesFit(s api.Schema) bool {
	return all(s.Fields, func(x api.Field) bool { return isIdentifier(x.Name) }) &&
		all(s.Headers, func(x api.Header) bool { return isIdentifier(x.Name) }) &&
		all(s.Actions, actionNamesFit) &&
		all(s.Tables, tableNamesFit) &&
		all(s.Roles, func(x api.Role) bool { return isIdentifier(x.Name) })
}

func actionNamesFit(x api.Action) bool {
	return isIdentifier(x.Name) && all(x.Params, func(p api.Param) bool { return isVariable(p.Name) })
}

func tableNamesFit(x api.Table) bool {
	return isIdentifier(x.Name) && all(x.Keys, func(k api.Key) bool { return isVariable(k.Name) })
}

// isIdentifier reports whether name is an identifier.
func isIdentifier(name string) bool {
	for i := range len(name) {
		c := name[i]
		if isLetter(c) || i > 0 && (isDigit(c) || c == '_') {
			continue
		}
		return false
	}
	return name != ""
}

func isLetter(c byte) bool {
	return c >= 'a' && c <= 'z'
}

func isDigit(c byte) bool {
	return c >= '0' && c <= '9'
}

// isVariable reports whether name is an identifier that means nothing else in a restriction.
func isVariable(name string) bool {
	switch name {
	case "priority", "true", "false":
		return false
	}
	return isIdentifier(name)
}

// numbersFit reports whether all numbers are in their ranges, and no table is without keys, no header without fields.
func numbersFit(s api.Schema) bool {
	return within(s.MaxBatch, 1, api.MaxBatch) &&
		within(s.Budget, 1, api.MaxBudget) &&
		all(s.Fields, func(x api.Field) bool { return isID(x.ID) && isWidth(x.Bits) }) &&
		all(s.Headers, func(x api.Header) bool { return isID(x.ID) && len(x.Fields) > 0 }) &&
		all(s.States, func(x api.State) bool { return isID(x.ID) }) &&
		all(s.Actions, actionNumbersFit) &&
		all(s.Tables, func(x api.Table) bool { return isID(x.ID) && within(x.Size, 1, api.MaxSize) && len(x.Keys) > 0 }) &&
		all(s.Roles, func(x api.Role) bool { return isID(x.ID) && x.Quota <= api.MaxQuota })
}

func actionNumbersFit(x api.Action) bool {
	return isID(x.ID) && all(x.Params, func(p api.Param) bool { return isWidth(p.Bits) })
}

// isID reports whether n may be the ID of an element: 0 stands for none, or with Accept and Reject for what is no state.
func isID(n int) bool {
	return n > api.Accept && n < api.Reject
}

// isWidth reports whether n may be the number of bits of a field or a parameter.
func isWidth(n int) bool {
	return within(n, 1, api.MaxBits)
}

// within reports whether n is from least to most.
func within(n, least, most int) bool {
	return n >= least && n <= most
}

// kindsFit reports whether primitives, keys, states and references have the form of their kinds.
func kindsFit(s api.Schema) bool {
	return all(s.Actions, func(x api.Action) bool { return all(x.Body, primFits) }) &&
		all(s.Tables, tableKindsFit) &&
		all(s.States, func(x api.State) bool { return x.Select != 0 || len(x.Cases) == 0 }) &&
		all(s.Refs, refFits)
}

func primFits(x api.Prim) bool {
	switch x.Op {
	case api.PrimSet, api.PrimAdd, api.PrimXor:
		return operandFits(x.Src)
	case api.PrimPush, api.PrimPop:
		return isNoOperand(x.Src)
	case api.PrimDrop:
		return x.Dst == 0 && isNoOperand(x.Src)
	case api.PrimForward:
		return x.Dst == 0 && operandFits(x.Src)
	}
	return false
}

func isNoOperand(x api.Operand) bool {
	return x == api.Operand{}
}

func operandFits(x api.Operand) bool {
	switch x.Kind {
	case api.FromConst:
		return x.N == 0
	case api.FromField, api.FromParam:
		return x.Value == api.Value{}
	}
	return false
}

func tableKindsFit(x api.Table) bool {
	prefixes := 0
	for _, k := range x.Keys {
		if !within(k.Kind, api.Exact, api.Range) {
			return false
		}
		if k.Kind == api.LPM {
			prefixes++
		}
	}
	return prefixes <= 1
}

func refFits(x api.Ref) bool {
	if x.Action == 0 {
		return x.Param == 0
	}
	return x.Key == 0
}
