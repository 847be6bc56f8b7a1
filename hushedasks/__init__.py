"""Books of a protocol in which who lacks a word asks for it, and whoever hears an ask keeps still."""
