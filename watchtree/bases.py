"""The base of worker plans, in a file of its own as scripts and plans both need it."""


class AnyWorker:
    """The base of worker plans, by which scripts know them: two files cannot import from each other."""
