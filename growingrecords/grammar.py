"""How programs are written: what each goal of the reading is read as.

A goal in angle brackets is replaced by the goals that stand here for it and for the kind of the
next token, or for `*` if there are none for this kind. A goal that begins with `!` is an action of
the reader. Any other goal is the kind of a token that must come next. Each choice is made by the
next token alone, so a wrong token is found before anything behind it is read.
"""

GRAMMAR = {
    ("<program>", "*"): ("<definition>", "<definitions>"),
    ("<definitions>", "def"): ("<definition>", "<definitions>"),
    ("<definitions>", "*"): ("END",),
    ("<definition>", "*"): ("def", "NAME", "!function", "(", "<parameters>", "=", "<expr>", "!body"),

    ("<parameters>", ")"): (")",),
    ("<parameters>", "*"): ("NAME", "!parameter", "<more parameters>"),
    ("<more parameters>", ","): (",", "NAME", "!parameter", "<more parameters>"),
    ("<more parameters>", "*"): (")",),

    ("<expr>", "*"): ("!enter", "<inner>", "!leave"),
    ("<inner>", "let"): ("let", "NAME", "!begin", "=", "<expr>", "!define", "in", "<expr>", "!let"),
    ("<inner>", "if"): (
        "if", "!begin", "<test>", "<tests>", "then", "<expr>", "!part", "else", "<expr>", "!part", "!choice",
    ),
    ("<inner>", "*"): ("<chain>",),

    ("<tests>", "and"): ("and", "<test>", "<tests>"),
    ("<tests>", "*"): (),
    ("<test>", "*"): ("!begin", "<nots>", "<chain>", "!part", "<relation>", "!test"),
    ("<nots>", "not"): ("not", "!turn", "<nots>"),
    ("<nots>", "*"): (),
    ("<relation>", "has"): ("has", "!relation", "NAME", "!field"),
    ("<relation>", "is"): ("is", "!relation", "record"),

    ("<chain>", "*"): ("<link>", "<links>"),
    ("<links>", "SIGN"): ("SIGN", "!begin", "<link>", "!join", "<links>"),
    ("<links>", "*"): (),
    ("<link>", "*"): ("<base>", "<steps>"),

    ("<steps>", "."): (".", "!begin", "NAME", "!field", "!step", "<steps>"),
    ("<steps>", "["): ("[", "<change>", "<changes>", "<steps>"),
    ("<steps>", "*"): (),
    ("<changes>", ","): (",", "<change>", "<changes>"),
    ("<changes>", "*"): ("]",),
    ("<change>", "put"): ("put", "!begin", "NAME", "!field", "=", "<expr>", "!part", "!step"),
    ("<change>", "add"): ("add", "!begin", "NAME", "!field", "=", "<expr>", "!part", "!step"),
    ("<change>", "cut"): ("cut", "!begin", "NAME", "!field", "!step"),
    ("<change>", "drop"): ("drop", "!begin", "NAME", "!field", "!step"),
    ("<change>", "rename"): ("rename", "!begin", "NAME", "!field", "to", "NAME", "!field", "!step"),
    ("<change>", "only"): ("only", "!begin", "<names>", "!step"),
    ("<names>", "NAME"): ("NAME", "!field", "<names>"),
    ("<names>", "*"): (),

    ("<base>", "NUMBER"): ("NUMBER", "!number"),
    ("<base>", "NAME"): ("NAME", "!begin", "<use>"),
    ("<base>", "{"): ("{", "!begin", "<fields>", "!literal"),
    ("<base>", "("): ("(", "<expr>", ")"),

    ("<use>", "("): ("(", "<arguments>", "!call"),
    ("<use>", "*"): ("!variable",),
    ("<arguments>", ")"): (")",),
    ("<arguments>", "*"): ("<expr>", "!part", "<more arguments>"),
    ("<more arguments>", ","): (",", "<expr>", "!part", "<more arguments>"),
    ("<more arguments>", "*"): (")",),

    ("<fields>", "}"): ("}",),
    ("<fields>", "*"): ("NAME", "!new field", ":", "<expr>", "!part", "<more fields>"),
    ("<more fields>", ","): (",", "NAME", "!new field", ":", "<expr>", "!part", "<more fields>"),
    ("<more fields>", "*"): ("}",),
}
