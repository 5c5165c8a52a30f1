package latch_test

import (
	"go/parser"
	"go/token"
	"io/fs"
	"path/filepath"
	"strconv"
	"strings"
	"testing"
)

// The library's packages that the program may use: no crypto, hash or math/big.
const allowed = " bytes cmp container/heap errors iter maps math math/bits slices sort strconv strings sync sync/atomic unicode unicode/utf8 "

func mayImport(path string) bool {
	return strings.HasPrefix(path, "latch/") || strings.Contains(allowed, " "+path+" ")
}

func checkImports(t *testing.T, file string) {
	t.Helper()
	parsed, err := parser.ParseFile(token.NewFileSet(), file, nil, parser.ImportsOnly)
	if err != nil {
		t.Fatal(err)
	}
	for _, spec := range parsed.Imports {
		path, err := strconv.Unquote(spec.Path.Value)
		if err != nil {
			t.Fatal(err)
		}
		if !mayImport(path) {
			t.Errorf("%s imports %s", file, path)
		}
	}
}

// programFiles tells the Go files of the program, without its tests.
func programFiles(t *testing.T) []string {
	t.Helper()
	var files []string
	err := filepath.WalkDir("..", func(path string, entry fs.DirEntry, err error) error {
		if err != nil {
			return err
		}
		if entry.Name() == "sharedtests" {
			return fs.SkipDir
		}
		if strings.HasSuffix(path, ".go") && !strings.HasSuffix(path, "_test.go") {
			files = append(files, path)
		}
		return nil
	})
	if err != nil {
		t.Fatal(err)
	}
	if len(files) == 0 {
		t.Fatal("no Go file of the program found")
	}
	return files
}

func TestImports(t *testing.T) {
	for _, file := range programFiles(t) {
		checkImports(t, file)
	}
}
