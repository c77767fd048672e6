// Package lang: programs and their code: see DOC.md.
package lang

import "helm/api"

// Check tells a program's cost (P3).
func Check(src string) (int, api.Errno, int) {
	program, wrong := parse(src)
	if wrong.errno != api.OK {
		return 0, wrong.errno, wrong.at
	}
	var c checker
	c.block(program)
	if c.fault.errno != api.OK {
		return 0, c.fault.errno, c.fault.at
	}
	cost := totalOf(program)
	if cost > api.MaxCost {
		return 0, api.ErrCost, 0
	}
	return cost, api.OK, 0
}

// Compile turns a program into code (P4).
func Compile(src string, better bool) (string, api.Errno, int) { return "", api.OK, 0 }
