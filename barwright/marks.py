"""Marks: those that pitches want on a staff, and the pitches of heads with marks, in one bar."""

from barwright.keys import key_lean
from barwright.pitches import line
from barwright.signs import head_line

# By leans, from the lowest one on.
LEAN_MARKS = ("--", "-", "=", "+", "++")
LEAST_LEAN = -2


# What counts is kept by lines, of those alone where a mark was put: for all others the key tells it.
def marks_for(key, rows):
    counting = {}
    told = {}
    for number in in_time(rows):
        row = rows[number]
        told[number] = [""] * len(row[2]) if row[3] else put_pitches(key, row[2], counting)
    return [told[number] for number in range(len(rows))]


def leans_for(key, rows):
    counting = {}
    told = {}
    for number in in_time(rows):
        row = rows[number]
        told[number] = put_heads(key, row[2], counting) if row[3] is None else list(row[3])
    return [told[number] for number in range(len(rows))]


# Both voices share what counts, so rows are gone through by time, then by voice, however they are handed in.
def in_time(rows):
    return sorted(range(len(rows)), key=lambda number: rows[number][:2])


def put_pitches(key, pitches, counting):
    marks = []
    for pitch in pitches:
        lean = pitch[1]
        if lean == counting.get(line(pitch), key_lean(key, pitch[0])):
            marks.append("")
        else:
            counting[line(pitch)] = lean
            marks.append(LEAN_MARKS[lean - LEAST_LEAN])
    return marks


def put_heads(key, heads, counting):
    pitches = []
    for head in heads:
        if head[0] != "":
            counting[head_line(head)] = LEAN_MARKS.index(head[0]) + LEAST_LEAN
        lean = counting.get(head_line(head), key_lean(key, head[1]))
        pitches.append((head[1], lean, head[2]))
    return pitches
