// Package lang: programs and their code: see DOC.md.
package lang

import "helm/api"

// Check tells a program's cost (P3).
func Check(src string) (int, api.Errno, int) {
	program, wrong := checked(src)
	return totalOf(program), wrong.errno, wrong.at
}

// Compile turns a program into code (P4).
func Compile(src string, better bool) (string, api.Errno, int) {
	program, wrong := checked(src)
	if wrong.errno != api.OK {
		return "", wrong.errno, wrong.at
	}
	if better {
		program = folded(program)
	}
	return codeOf(program), api.OK, 0
}

// checked reads a program, or tells what is wrong with the text.
func checked(src string) ([]statement, fault) {
	program, wrong := parse(src)
	if wrong.errno != api.OK {
		return nil, wrong
	}
	var c checker
	c.block(program)
	if c.fault.errno != api.OK {
		return nil, c.fault
	}
	if totalOf(program) > api.MaxCost {
		return nil, fault{errno: api.ErrCost}
	}
	return program, fault{}
}
