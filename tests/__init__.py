"""The tests of tubewords; they use nothing of it but what DOC.md lists."""
