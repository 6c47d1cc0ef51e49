"""Live splitbooks as texts of their starts and deeds, and texts led again."""

from splitbooks.deeds import deed_kept
from splitbooks.deedtexts import deed_read, deed_text, start_of_text, start_text
from splitbooks.errors import BadLive, BadText, SplitError
from splitbooks.live import LiveBook

BEGINNING = "live "


def journal_text(live):
    """The text of a live splitbook: its start, and then its deeds."""
    if not isinstance(live, LiveBook):
        raise BadLive("a LiveBook is wanted")
    return "\n".join([BEGINNING + start_text(live.start)] + [deed_text(deed) for deed in live.deeds()])


def _do_line(live, line, at):
    """Does the deed of a line; BadText with its place if it is none, or cannot be done."""
    deed = deed_read(line)
    if deed is None or deed_kept(deed, live.prime) != deed:
        raise BadText(at)
    try:
        live.do(deed)
    except SplitError:
        raise BadText(at) from None


def led_live(text):
    """The live splitbook with this journal; BadText with the place of the first wrong line."""
    if not isinstance(text, str):
        raise BadText(0)
    lines = text.split("\n")
    if not lines[0].startswith(BEGINNING):
        raise BadText(0)
    live = LiveBook(start_of_text(lines[0][len(BEGINNING):]))
    for at, line in enumerate(lines):
        if at > 0:
            _do_line(live, line, at)
    return live
