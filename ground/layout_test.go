// Package ground tests what holds for all packages alike: which calls there are, what is imported, how the text is laid.
package ground

import (
	"bytes"
	"go/format"
	"go/parser"
	"go/token"
	"os"
	"path/filepath"
	"slices"
	"strconv"
	"strings"
	"testing"
)

const root = ".."

// layers are the map of the document: of each layer which others it calls, api aside. Of point the map tells api alone, its own chapter that it calls wire; of world the chapter tells layers that the map doesn't, and not array; of judge script, and neither nand nor dev: the chapter, the nearer word, holds.
func layers() map[string]string {
	return map[string]string{
		"api":    "",
		"field":  "",
		"rs":     "field",
		"wire":   "",
		"geom":   "",
		"nand":   "",
		"frame":  "rs wire",
		"tag":    "wire",
		"media":  "nand frame tag",
		"point":  "wire",
		"claim":  "",
		"pool":   "",
		"pmap":   "geom",
		"front":  "geom",
		"gc":     "",
		"patrol": "geom",
		"health": "",
		"move":   "geom nand media point claim pool pmap front gc patrol health",
		"mount":  "nand media point claim move",
		"dev":    "nand move mount",
		"array":  "",
		"script": "",
		"world":  "wire nand tag point claim dev script",
		"judge":  "script world",
	}
}

// library is what may be imported of Go's own packages.
const library = "bytes cmp container/heap errors iter maps math math/bits slices sort strconv strings sync sync/atomic unicode unicode/utf8"

// folders are those with Go files, but the tests that .ci/run lays beside the project.
func folders(t *testing.T) []string {
	t.Helper()
	entries, err := os.ReadDir(root)
	if err != nil {
		t.Fatal(err)
	}
	var out []string
	for _, e := range entries {
		if e.IsDir() && !strings.HasPrefix(e.Name(), ".") && e.Name() != "sharedtests" {
			out = append(out, e.Name())
		}
	}
	return out
}

// files are the Go files of a folder.
func files(t *testing.T, folder string) []string {
	t.Helper()
	out, err := filepath.Glob(filepath.Join(root, folder, "*.go"))
	if err != nil {
		t.Fatal(err)
	}
	return out
}

// imports are what a file of the program imports.
func imports(t *testing.T, file string) []string {
	t.Helper()
	parsed, err := parser.ParseFile(token.NewFileSet(), file, nil, parser.ImportsOnly)
	if err != nil {
		t.Fatal(err)
	}
	var out []string
	for _, i := range parsed.Imports {
		path, err := strconv.Unquote(i.Path.Value)
		if err != nil {
			t.Fatal(err)
		}
		out = append(out, path)
	}
	return out
}

// mayImport tells whether a folder's program may import a package. Packages beside the layers stand open to all.
func mayImport(folder, path string) bool {
	own, ok := strings.CutPrefix(path, "patina/")
	if !ok {
		return slices.Contains(strings.Fields(library), path)
	}
	_, isLayer := layers()[own]
	calls, fromLayer := layers()[folder]
	return own == "api" || !isLayer || !fromLayer || slices.Contains(strings.Fields(calls), own)
}

func TestEveryLayerIsThere(t *testing.T) {
	there := folders(t)
	for layer := range layers() {
		if !slices.Contains(there, layer) {
			t.Errorf("no folder %s", layer)
		}
	}
}

func TestImports(t *testing.T) {
	for _, folder := range folders(t) {
		for _, file := range files(t, folder) {
			if strings.HasSuffix(file, "_test.go") {
				continue
			}
			for _, path := range imports(t, file) {
				if !mayImport(folder, path) {
					t.Errorf("%s imports %s", file, path)
				}
			}
		}
	}
}

func TestLayout(t *testing.T) {
	for _, folder := range folders(t) {
		for _, file := range files(t, folder) {
			text, err := os.ReadFile(file)
			if err != nil {
				t.Fatal(err)
			}
			laid, err := format.Source(text)
			if err != nil {
				t.Fatal(err)
			}
			if !bytes.Equal(text, laid) {
				t.Errorf("%s is not laid out as gofmt does", file)
			}
		}
	}
}
