"""The refusals of the package."""


class RuleError(ValueError):
    pass


class BadRule(RuleError):
    pass


class BadFolding(RuleError):
    pass


class NoSuch(RuleError):
    pass


class NoText(RuleError):
    pass
