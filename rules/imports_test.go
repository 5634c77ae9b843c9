package rules

import (
	"go/parser"
	"go/token"
	"path/filepath"
	"slices"
	"strconv"
	"strings"
	"testing"
)

const module = "afterimage/"

// layers are the packages of DOC.md's map, in order, each with those that it may lean on.
func layers() map[string]string {
	return map[string]string{
		"api": "", "fix": "api", "vec": "api fix", "angle": "api fix", "curve": "api fix",
		"varint": "api", "crc": "", "reader": "api varint", "record": "api varint reader",
		"gram": "api varint crc reader record", "delta": "api record gram", "ring": "api", "store": "api gram delta ring",
		"window": "api", "jitter": "api", "delay": "api fix", "slew": "api fix",
		"clock": "api fix window jitter delay slew", "bracket": "api fix", "pose": "api vec angle curve delta clock bracket",
		"client": "api store clock pose", "pump": "api client", "script": "api gram pose client",
	}
}

// library are the packages of Go's library that LANGUAGE.md lets the program have.
const library = "bytes cmp container/heap errors iter maps math math/bits slices sort strconv strings sync sync/atomic unicode unicode/utf8"

// TestImports: a layer leans on those that the map names, and on few packages of the library.
func TestImports(t *testing.T) {
	for layer, below := range layers() {
		files, err := filepath.Glob(filepath.Join("..", layer, "*.go"))
		if err != nil || len(files) == 0 {
			t.Errorf("layer %s has no files: %v", layer, err)
		}
		for _, name := range files {
			if strings.HasSuffix(name, "_test.go") {
				continue
			}
			for _, path := range importsOf(t, name) {
				own, isOwn := strings.CutPrefix(path, module)
				if isOwn && !has(below, own) || !isOwn && !has(library, path) {
					t.Errorf("%s imports %s", name, path)
				}
			}
		}
	}
}

func importsOf(t *testing.T, name string) []string {
	file, err := parser.ParseFile(token.NewFileSet(), name, nil, parser.ImportsOnly)
	if err != nil {
		t.Fatal(err)
	}
	var paths []string
	for _, s := range file.Imports {
		path, err := strconv.Unquote(s.Path.Value)
		if err != nil {
			t.Fatal(err)
		}
		paths = append(paths, path)
	}
	return paths
}

func has(words, word string) bool {
	return slices.Contains(strings.Fields(words), word)
}
