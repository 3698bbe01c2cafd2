// Package rules has tests alone: what holds of all layers at once.
package rules

import (
	"go/parser"
	"go/token"
	"os"
	"path/filepath"
	"slices"
	"strconv"
	"strings"
	"testing"
)

const module = "porpoise/"

// layer is a layer's package, and those below it that it may call.
type layer struct {
	name  string
	calls []string
}

// layers are the document's map.
func layers() []layer {
	return []layer{
		{"sat", nil},
		{"bits", nil},
		{"wheel", []string{"bits"}},
		{"ring", nil},
		{"permit", nil},
		{"window", []string{"sat"}},
		{"hist", []string{"sat", "bits"}},
		{"conf", []string{"sat"}},
		{"breaker", []string{"sat"}},
		{"bulk", []string{"ring", "permit"}},
		{"latch", nil},
		{"cache", nil},
		{"batch", nil},
		{"coll", []string{"sat", "batch"}},
		{"call", []string{"batch"}},
		{"health", []string{"sat", "window"}},
		{"dep", []string{"sat", "permit", "window", "hist", "conf", "breaker", "bulk", "batch", "call", "health"}},
		{"timers", []string{"sat", "wheel"}},
		{"exec", []string{"latch", "cache", "batch", "coll", "dep", "timers"}},
		{"metrics", []string{"sat", "dep"}},
		{"only", nil},
		{"codec", []string{"bits"}},
		{"script", []string{"dep", "exec"}},
		{"replay", []string{"metrics", "script"}},
	}
}

// library are the packages of Go's library that the program may import.
func library() []string {
	return []string{
		"bytes", "cmp", "container/heap", "errors", "iter", "maps", "math", "math/bits", "slices", "sort",
		"strconv", "strings", "sync", "sync/atomic", "unicode", "unicode/utf8",
	}
}

func isLayer(name string) bool {
	return slices.ContainsFunc(layers(), func(l layer) bool { return l.name == name })
}

// may tells whether a layer may import a path: package api, helpers that are no layer, the layers that it calls, and the library.
func may(l layer, path string) bool {
	name, own := strings.CutPrefix(path, module)
	if !own {
		return slices.Contains(library(), path)
	}
	return !isLayer(name) || slices.Contains(l.calls, name)
}

// imports are the paths that the program's files of a folder import; tests may import all.
func imports(t *testing.T, folder string) []string {
	t.Helper()
	files, err := filepath.Glob(filepath.Join(folder, "*.go"))
	if err != nil {
		t.Fatal(err)
	}
	var paths []string
	for _, name := range files {
		if strings.HasSuffix(name, "_test.go") {
			continue
		}
		file, err := parser.ParseFile(token.NewFileSet(), name, nil, parser.ImportsOnly)
		if err != nil {
			t.Fatal(err)
		}
		for _, i := range file.Imports {
			path, err := strconv.Unquote(i.Path.Value)
			if err != nil {
				t.Fatal(err)
			}
			paths = append(paths, path)
		}
	}
	return paths
}

// R6: a layer calls those below it that its chapter names.
func TestLayersCallThoseBelow(t *testing.T) {
	for _, l := range layers() {
		folder := filepath.Join("..", l.name)
		if _, err := os.Stat(folder); err != nil {
			t.Errorf("layer %s: %v", l.name, err)
			continue
		}
		for _, path := range imports(t, folder) {
			if !may(l, path) {
				t.Errorf("layer %s may not import %s", l.name, path)
			}
		}
	}
}

// A wrong table would let all pass: each layer's calls stand ahead of it.
func TestCallsGoDown(t *testing.T) {
	seen := []string{}
	for _, l := range layers() {
		for _, name := range l.calls {
			if !slices.Contains(seen, name) {
				t.Errorf("layer %s calls %s, which is not below it", l.name, name)
			}
		}
		seen = append(seen, l.name)
	}
}

func TestMay(t *testing.T) {
	wheel := layer{"wheel", []string{"bits"}}
	for path, want := range map[string]bool{
		"porpoise/bits": true, "porpoise/api": true, "porpoise/sat": false, "porpoise/wheel": false,
		"math/bits": true, "fmt": false, "time": false, "math/rand": false, "os": false,
	} {
		if got := may(wheel, path); got != want {
			t.Errorf("whether wheel may import %s: %t, want %t", path, got, want)
		}
	}
}
