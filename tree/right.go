package tree

import (
	"deadfall/api"
	"deadfall/class"
	"deadfall/word"
)

// Right: is it a right command?
func Right(n api.Node) bool {
	return rightAt(n, 1)
}

// rightAt: is it a right command, in a place where one that counts stands so deep?
func rightAt(n api.Node, depth int) bool {
	if counts(n.Kind) && depth > api.MaxDepth || !onlyItsOwn(n) {
		return false
	}
	within := depthWithin(n.Kind, depth)
	all := func(l []api.Node, such func(api.Node) bool) bool {
		for _, k := range l {
			if !such(k) || !rightAt(k, within) {
				return false
			}
		}
		return true
	}
	kids := len(n.Kids)
	switch n.Kind {
	case api.Simple:
		return rightSimple(n)
	case api.And, api.Or:
		return kids == 2 && all(n.Kids[:1], item) && all(n.Kids[1:], unit)
	case api.Not:
		return kids == 1 && all(n.Kids, command)
	case api.List:
		return kids == len(n.Beside) && all(n.Kids, item)
	case api.If:
		return (kids == 2 || kids == 3) && all(n.Kids, body)
	case api.While, api.Until:
		return kids == 2 && all(n.Kids, body)
	case api.For:
		return kids == 1 && rightFor(n) && all(n.Kids, body)
	case api.Choose:
		return len(n.Words) == 1 && rightWords(n.Words) && rightCases(n.Cases, func(l []api.Node) bool { return all(l, body) })
	case api.Group, api.Subshell:
		return kids == 1 && all(n.Kids, body)
	case api.Func:
		return kids == 1 && class.Name(n.Name) && !class.Reserved(n.Name) && all(n.Kids, compound)
	}
	return false
}

// counts: does a node of this kind, one of If to Func, count for depth?
func counts(kind int) bool {
	return api.If <= kind && kind <= api.Func
}

// depthWithin is how deep one that counts stands in a node of this kind, where that would stand so deep.
func depthWithin(kind, depth int) int {
	if counts(kind) && kind != api.Func {
		return depth + 1
	}
	return depth
}

// compound: may a function be made of it?
func compound(n api.Node) bool {
	return api.If <= n.Kind && n.Kind <= api.Subshell
}

// command: may a `!` stand ahead of it?
func command(n api.Node) bool {
	return n.Kind == api.Simple || counts(n.Kind)
}

// unit: may it stand behind `&&` and `||`?
func unit(n api.Node) bool {
	return n.Kind == api.Not || command(n)
}

// item: may it stand in a list?
func item(n api.Node) bool {
	return n.Kind == api.And || n.Kind == api.Or || unit(n)
}

// body: is it a list with something to do?
func body(n api.Node) bool {
	return n.Kind == api.List && len(n.Kids) > 0
}

// onlyItsOwn: are all fields zero that its kind says nothing of?
func onlyItsOwn(n api.Node) bool {
	switch n.Kind {
	case api.Simple:
		n.Assigns, n.Words = nil, nil
	case api.List:
		n.Kids, n.Beside = nil, nil
	case api.For:
		n.Name, n.Given, n.Words, n.Kids = "", false, nil, nil
	case api.Choose:
		n.Words, n.Cases = nil, nil
	case api.Func:
		n.Name, n.Kids = "", nil
	default:
		n.Kids = nil
	}
	return Same(n, api.Node{Kind: n.Kind})
}

func rightSimple(n api.Node) bool {
	for _, a := range n.Assigns {
		if !class.Name(a.Name) || !word.Value(a.Word) {
			return false
		}
	}
	if len(n.Words) == 0 {
		return len(n.Assigns) > 0
	}
	return rightFirst(n.Words[0], len(n.Assigns) > 0) && rightWords(n.Words)
}

// rightFirst: would the word be read as a command's first one, behind assignments or not?
func rightFirst(w api.Word, behind bool) bool {
	if _, _, ok := word.Split(w); ok {
		return false
	}
	text, plain := word.Plain(w)
	return behind || !plain || !class.Reserved(text)
}

func rightFor(n api.Node) bool {
	return class.Name(n.Name) && (n.Given || len(n.Words) == 0) && rightWords(n.Words)
}

func rightCases(l []api.Case, rightBody func([]api.Node) bool) bool {
	for _, c := range l {
		if len(c.Patterns) == 0 || !rightWords(c.Patterns) || len(c.Body) > 1 || !rightBody(c.Body) {
			return false
		}
	}
	return true
}

func rightWords(l []api.Word) bool {
	for _, w := range l {
		if !word.Right(w) {
			return false
		}
	}
	return true
}
