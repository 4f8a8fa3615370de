"""A tune cut into bars: what lies in each of them, voice by voice, and the beats of each."""

from barwright.metres import bar_grains, beats


def cut(tune):
    frames = tune.frames()
    last = frames[-1]
    lasts = last[0] + bar_grains(last[1])
    voices = [spans_of(tune.sounds_told(voice), lasts) for voice in range(1, tune.many() + 1)]
    bars = []
    for frame in frames:
        end = frame[0] + bar_grains(frame[1])
        bars.append([stretches_in(frame[0], end, spans) for spans in voices])
    return bars


# Each sound as (begin, end, place) from the tune's begin, and the rest behind the last one, up to the last bar's end.
def spans_of(sounds, lasts):
    spans = []
    begin = 0
    for place, told in enumerate(sounds):
        is_rest = told[0] == "rest"
        end = begin + (told[1] if is_rest else told[2])
        spans.append((begin, end, None if is_rest else place))
        begin = end
    spans.append((begin, lasts, None))
    return spans


def stretches_in(begin, end, spans):
    stretches = []
    for span in spans:
        first = max(begin, span[0])
        behind = min(end, span[1])
        if first < behind:
            is_tone = span[2] is not None
            comes = is_tone and span[0] < begin
            goes = is_tone and span[1] > end
            stretches.append((first - begin, behind - first, span[2], comes, goes))
    return stretches


def beats_by_bars(tune):
    return [beats(frame[1]) for frame in tune.frames()]
