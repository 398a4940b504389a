"""A night laid out: spans for the ticks of each lamp, and what spans tell."""

from lamprota.errors import BadTicks
from lamprota.walk import has_dark_fault, has_span_fault, ticks_of_spans


def refuse_bad_ticks(length, wanted, ticks):
    """Refuses with BadTicks what can't be laid out."""
    if any([not 0 <= much <= length for much in ticks]):
        raise BadTicks("a lamp burns from 0 ticks to the whole night")
    if sum(ticks) != wanted * length:
        raise BadTicks("all lamps together burn wanted times the length")


def spans_from(lamp, start, much, length):
    """The spans of a lamp that burns so many ticks from a start on, going on at the night's start behind its end."""
    end = start + much
    if much == 0:
        return []
    if end <= length:
        return [(lamp, start, end)]
    return [(lamp, 0, end - length), (lamp, start, length)]


def laid(length, wanted, ticks):
    """Spans in which each lamp burns just its ticks, and in each tick just the wanted lamps; refuses with BadTicks."""
    refuse_bad_ticks(length, wanted, ticks)
    # Each lamp goes on where the one ahead stopped, so all of them go round the night just wanted
    # times; as none has more ticks than the night, none meets itself.
    spans = []
    start = 0
    for lamp, much in enumerate(ticks):
        spans.extend(spans_from(lamp, start, much, length))
        start = (start + much) % length
    return tuple(spans)


def steady(length, wanted, lamps, spans):
    """True where spans have neither a span fault nor a dark fault."""
    return not has_span_fault(length, lamps, spans) and not has_dark_fault(length, wanted, spans)


def ticks_in(lamps, spans):
    """The tuple of the ticks that each lamp burns, of spans without a span fault."""
    return ticks_of_spans(lamps, spans)


def lit(lamps, spans):
    """The tuple of how often each lamp is lit, of spans without a span fault."""
    ends = {}
    for lamp, start, end in spans:
        ends[(lamp, end)] = True
    lightings = [lamp for lamp, start, end in spans if (lamp, start) not in ends]
    return tuple([lightings.count(lamp) for lamp in range(lamps)])


def burning(spans, tick):
    """The rising tuple of the lamps that burn in a tick, of spans without a span fault."""
    return tuple([lamp for lamp, start, end in spans if start <= tick < end])
