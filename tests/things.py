"""Things that many tests hand in where any thing may be handed in."""

ODD_THINGS = [
    None, True, False, 0, 1, -1, 2, 14, 15, 999999999999, "", " ", "a", "abc", "letter", "struck",
    [], (), [[]], ((),), [()], (None,), (True,), (False,), [None], ("",), ("a",), (" ",),
    ("letter",), ("blank",), ("coarse",), ("fine",), ["struck"], ("struck", 0), ("struck", None),
    (1, 2, 3), (((((((0,),),),),),),), [[[[[[[[0]]]]]]]], "x" * 6000, [0] * 3999, (0,) * 3999,
]
