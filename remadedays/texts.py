"""The texts of webs."""


def web_text(web):
    """The text WEB of a web."""
    rows = [f"cycle {web.cycle}"]
    for table in web.tables:
        ties = [f"from {tie}" for tie in web[table]]
        rows.append(" ".join(["table", table, *ties]))
    return "\n".join(rows)
