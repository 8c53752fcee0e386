// Package tree: programs as trees, the fewest steps between two, and patches: see DOC.md.
package tree

import "treediff/api"

// Show: the tree of a program as a text (P2, P3).
func Show(s string) (string, api.Errno, int) {
	nodes, err, place := read(s)
	if err != api.OK {
		return "", err, place
	}
	return written(nodes), api.OK, 0
}

// Dist: the fewest steps from one program to another (P5).
func Dist(a string, b string) (int, api.Errno) {
	from, to, err := readBoth(a, b)
	if err != api.OK {
		return 0, err
	}
	return fewestSteps(from, to), api.OK
}

// Diff: a script of as many steps (P6).
func Diff(a string, b string) (string, api.Errno) {
	from, to, err := readBoth(a, b)
	if err != api.OK {
		return "", err
	}
	return fewestScript(from, to), api.OK
}

func readBoth(a string, b string) ([]node, []node, api.Errno) {
	from, err, _ := read(a)
	if err != api.OK {
		return nil, nil, err
	}
	to, err, _ := read(b)
	if err != api.OK {
		return nil, nil, err
	}
	return from, to, api.OK
}

// Patch: what a script makes of a program (P4).
func Patch(a string, d string) (string, api.Errno, int) {
	nodes, err, _ := read(a)
	if err != api.OK {
		return "", err, 0
	}
	if len(d) > api.MaxScript {
		return "", api.ErrLong, 0
	}
	made, line := carryOut(nodes, d)
	if line > 0 {
		return "", api.ErrScript, line
	}
	text := leafText(made)
	if !isTreeOf(made, text) {
		return "", api.ErrProgram, 0
	}
	return text, api.OK, 0
}
