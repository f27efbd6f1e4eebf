package rowmill

import (
	"rowmill/api"
	"rowmill/machine"
	"rowmill/syntax"
)

func compileAll(values []*syntax.Value, columns []machine.Column) ([]machine.Program, api.Errno) {
	var programs []machine.Program
	for _, v := range values {
		p, _, errno := machine.Compile(v, columns)
		if errno != api.OK {
			return nil, errno
		}
		programs = append(programs, p)
	}
	return programs, api.OK
}

// condition compiles what stands behind WHERE or ON. One that is left out (nil) holds for every row, as TRUE does.
func condition(v *syntax.Value, columns []machine.Column) (machine.Program, api.Errno) {
	if v == nil {
		v = &syntax.Value{Op: syntax.Literal, Literal: api.Value{Kind: api.Bool, N: 1}}
	}
	return machine.CompileAs(v, columns, api.Bool)
}

// reckonAll gives new memory.
func reckonAll(programs []machine.Program, row []api.Value) ([]api.Value, api.Errno) {
	values := make([]api.Value, 0, len(programs))
	for _, p := range programs {
		v, errno := p.Run(row)
		if errno != api.OK {
			return nil, errno
		}
		values = append(values, v)
	}
	return values, api.OK
}

// sift parts rows into those for which a condition is TRUE and the others.
func sift(rows [][]api.Value, where machine.Program) ([][]api.Value, [][]api.Value, api.Errno) {
	var holding, others [][]api.Value
nextRow:
	for _, row := range rows {
		holds, errno := where.Holds(row)
		switch {
		case errno != api.OK:
			return nil, nil, errno
		case holds:
			holding = append(holding, row)
			continue nextRow
		}
		others = append(others, row)
	}
	return holding, others, api.OK
}
