"""Stories: what a switch's Grants told in each beat of some deeds, and what crossed."""

from crossgrants.kinds import is_same
from crossgrants.switch import Switch
from crossgrants.trying import do_deed, is_going


def new_switch(setting):
    """A switch of this setting."""
    inlets, outlets, rounds, shares, way, wide = setting
    return Switch(inlets, outlets, rounds=rounds, shares=shares, way=way, wide=wide)


def told_beats(switch, many):
    """So many beats, each as (beat, rounds, crossed)."""
    story = []
    for turn in range(many):
        rounds, crossing = switch.beat_with_rounds()
        story.append((switch.now(), rounds, crossing))
    return story


def story_of(setting, deeds):
    """For each beat of these deeds to a new switch: (beat, rounds, crossed)."""
    switch = new_switch(setting)
    story = []
    for deed in deeds:
        if is_going(deed):
            story.extend(told_beats(switch, deed[1]))
        else:
            do_deed(switch, deed)
    return story


def shows_story(setting, deeds, thing):
    """Whether it is the story of these deeds."""
    return is_same(story_of(setting, deeds), thing)


def first_wrong(setting, deeds, story):
    """The first place at which the story isn't as told; None where it's the same."""
    told = story_of(setting, deeds)
    for place, (beat, thing) in enumerate(zip(told, story)):
        if not is_same(beat, thing):
            return place
    return None if len(told) == len(story) else min(len(told), len(story))
