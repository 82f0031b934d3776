package script

import (
	"bytes"
	"encoding/hex"
	"fmt"
	"math/big"
	"math/rand"
	"regexp"
	"slices"
	"strings"

	"foundling/api"
)

// lineForm: a line that is a command, however great its numbers.
var lineForm = regexp.MustCompile(`^ *((cells|run|reload) +N|image|spoil +N +N|(ticks|collects)( +N)*|input( +([0-9a-f][0-9a-f])+)*) *$`)

var numberForm = regexp.MustCompile(`^(0|[1-9][0-9]*)$`)

// wordsOf: the line's words, and each number as N.
func wordsOf(line string) (words []string, shape string) {
	line, _, _ = strings.Cut(line, "#")
	for _, w := range strings.Split(line, " ") {
		if w != "" {
			words = append(words, w)
		}
	}
	shown := slices.Clone(words)
	for i, w := range shown {
		if i > 0 && shown[0] != "input" && numberForm.MatchString(w) {
			shown[i] = "N"
		}
	}
	return words, strings.Join(shown, " ")
}

// parsed: what Parse is to answer.
func parsed(s string) ([]Cmd, int, api.Errno) {
	if len(s) > 65536 {
		return nil, 0, api.ErrSize
	}
	var list []Cmd
	for i, line := range strings.Split(s, "\n") {
		words, shape := wordsOf(line)
		if shape == "" {
			continue
		}
		if !lineForm.MatchString(shape) {
			return nil, i, api.ErrForm
		}
		c, isSmall := meant(words)
		if !isSmall {
			return nil, i, api.ErrOver
		}
		list = append(list, c)
	}
	return list, 0, api.OK
}

// meant: the command of a line's words, if no number is too great.
func meant(words []string) (Cmd, bool) {
	kind := 1 + slices.Index([]string{"cells", "input", "ticks", "collects", "run", "reload", "image", "spoil"}, words[0])
	c := Cmd{Kind: kind}
	if kind == 2 {
		c.Bytes, _ = hex.DecodeString(strings.Join(words[1:], ""))
		return c, true
	}
	var list []int
	for i, w := range words[1:] {
		n, _ := new(big.Int).SetString(w, 10)
		most := int64(1 << 24)
		if kind == 8 && i == 1 {
			most = 255
		}
		if n.Cmp(big.NewInt(most)) > 0 {
			return Cmd{}, false
		}
		list = append(list, int(n.Int64()))
	}
	switch kind {
	case 3, 4:
		c.List = list
	case 1, 5, 6:
		c.N = list[0]
	case 8:
		c.At, c.N = list[0], list[1]
	}
	return c, true
}

// wanted: what Text is to answer.
func wanted(list ...Cmd) (string, api.Errno) {
	s := ""
	for _, c := range list {
		bare, top := Cmd{Kind: c.Kind}, 1<<24
		line := ""
		switch c.Kind {
		case 1, 5, 6:
			bare.N = c.N
			line = []string{1: "cells", 5: "run", 6: "reload"}[c.Kind] + fmt.Sprintf(" %d", c.N)
		case 2:
			bare.Bytes = c.Bytes
			line = strings.TrimRight(fmt.Sprintf("input %x", c.Bytes), " ")
		case 3, 4:
			bare.List = c.List
			line = strings.TrimRight([]string{3: "ticks ", 4: "collects "}[c.Kind]+strings.Trim(fmt.Sprint(c.List), "[]"), " ")
		case 7:
			line = "image"
		case 8:
			bare.At, bare.N = c.At, c.N
			line = fmt.Sprintf("spoil %d %d", c.At, c.N)
		default:
			return "", api.ErrArg
		}
		isBad := func(n int) bool { return n < 0 || top < n }
		if !same(bare, c) || isBad(c.N) || isBad(c.At) || slices.ContainsFunc(c.List, isBad) || c.Kind == 8 && c.N > 255 {
			return "", api.ErrArg
		}
		s += line + "\n"
	}
	if len(s) > 65536 {
		return "", api.ErrSize
	}
	return s, api.OK
}

func same(a, b Cmd) bool {
	return a.Kind == b.Kind && a.N == b.N && a.At == b.At && slices.Equal(a.List, b.List) && bytes.Equal(a.Bytes, b.Bytes)
}

func allSame(a, b []Cmd) bool { return slices.EqualFunc(a, b, same) }

// someNumber: by chance, often about a limit.
func someNumber(r *rand.Rand, most int) int {
	if r.Intn(3) == 0 {
		return []int{0, 1, most - 1, most}[r.Intn(4)]
	}
	return r.Intn(most + 1)
}

// someCmd: by chance, one that Parse could answer.
func someCmd(r *rand.Rand) Cmd {
	c := Cmd{Kind: 1 + r.Intn(8)}
	switch c.Kind {
	case 1, 5, 6:
		c.N = someNumber(r, 1<<24)
	case 2:
		c.Bytes = make([]byte, r.Intn(5))
		r.Read(c.Bytes)
	case 3, 4:
		for range r.Intn(5) {
			c.List = append(c.List, someNumber(r, 1<<24))
		}
	case 8:
		c.At, c.N = someNumber(r, 1<<24), someNumber(r, 255)
	}
	return c
}

func someCmds(r *rand.Rand) []Cmd {
	var list []Cmd
	for range r.Intn(7) {
		list = append(list, someCmd(r))
	}
	return list
}

// loose: commands as a text, with blanks, lines of nothing and remarks by chance.
func loose(r *rand.Rand, list []Cmd) string {
	s := ""
	blanks := func(least int) string { return strings.Repeat(" ", least+max(0, r.Intn(5)-2)) }
	for i, c := range list {
		for r.Intn(4) == 0 {
			s += blanks(0) + []string{"", "#", "# run 5", "##"}[r.Intn(4)] + "\n"
		}
		line, _ := wanted(c)
		words := strings.Split(strings.TrimSuffix(line, "\n"), " ")
		s += blanks(0)
		for k, w := range words {
			if k > 0 {
				s += blanks(1)
			}
			if c.Kind == 2 && k == 1 && len(w) > 2 && r.Intn(2) == 0 {
				at := 2 * (1 + r.Intn(len(w)/2-1))
				w = w[:at] + blanks(1) + w[at:]
			}
			s += w
		}
		s += blanks(0)
		if r.Intn(4) == 0 {
			s += []string{"#", "# 7", "#\x00\xff", "# # run"}[r.Intn(4)]
		}
		if i < len(list)-1 || r.Intn(2) == 0 {
			s += "\n"
		}
	}
	return s
}
