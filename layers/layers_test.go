// Package layers holds what is tested of all layers alike.
package layers

import (
	"go/parser"
	"go/token"
	"path/filepath"
	"slices"
	"strconv"
	"strings"
	"testing"
)

// calls is the document's map: the layers, and those below that each may call.
func calls() map[string]string {
	return map[string]string{
		"crc": "", "sha": "", "name": "",
		"wire":   "crc",
		"event":  "sha name wire",
		"chain":  "sha event",
		"rule":   "name",
		"file":   "sha name rule",
		"model":  "name rule file",
		"replay": "sha event rule file model",
		"bundle": "wire event chain",
		"check":  "sha chain replay bundle",
		"chip":   "",
		"page":   "wire chip",
		"root":   "wire",
		"scan":   "page root",
		"pool":   "",
		"store":  "chip page root scan pool",
		"image":  "wire event model store",
		"fs":     "chain model bundle chip store image",
		"script": "name model chip fs",
	}
}

// library is what the language's rules leave of Go's library: nothing that asks a clock, chance, a file or a network.
const library = "bytes cmp container/heap errors iter maps math math/bits slices sort strconv strings sync sync/atomic unicode unicode/utf8"

// imports are those of a folder's files, but for its tests.
func imports(t *testing.T, folder string) []string {
	t.Helper()
	files, err := filepath.Glob(filepath.Join("..", folder, "*.go"))
	if err != nil || len(files) == 0 {
		t.Fatal(folder, "has no files", err)
	}
	var paths []string
	for _, f := range files {
		if strings.HasSuffix(f, "_test.go") {
			continue
		}
		a, err := parser.ParseFile(token.NewFileSet(), f, nil, parser.ImportsOnly)
		if err != nil {
			t.Fatal(err)
		}
		for _, i := range a.Imports {
			p, err := strconv.Unquote(i.Path.Value)
			if err != nil {
				t.Fatal(err)
			}
			paths = append(paths, p)
		}
	}
	return paths
}

func TestImports(t *testing.T) {
	for layer, below := range calls() {
		allowed := append(strings.Fields(library), "cenotaph/api")
		for _, b := range strings.Fields(below) {
			allowed = append(allowed, "cenotaph/"+b)
		}
		for _, p := range imports(t, layer) {
			if !slices.Contains(allowed, p) {
				t.Errorf("%s imports %s", layer, p)
			}
		}
	}
}
