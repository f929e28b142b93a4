"""Texts of settings and tables, row by row."""


def setting_text(setting):
    """The text of a Setting: the rows of its bars, its menu, its prices and its start."""
    start = setting.start or "-"
    return "\n".join([f"bars {setting.bars}", f"menu {setting.menu}", f"prices {setting.prices}", f"start {start}"])


def table_text(table):
    """The text of a Table: a row for each end, ascending."""
    ends = sorted([str(end) for end in table])
    return "\n".join([f"{end or '-'} : {table[end]}" for end in ends])
