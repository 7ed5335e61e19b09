"""Dates: moments at offsets, written to a text and read from it."""

from foldletter.errors import NoDate
from foldletter.texts import is_figure, is_line, is_whole

WEEK = ("Mon", "Tue", "Wed", "Thu", "Fri", "Sat", "Sun")
MONTHS = ("Jan", "Feb", "Mar", "Apr", "May", "Jun", "Jul", "Aug", "Sep", "Oct", "Nov", "Dec")
MONTH_DAYS = (31, 28, 31, 30, 31, 30, 31, 31, 30, 31, 30, 31)
FEBRUARY = 1
LAST_YEAR = 9999
GREATEST_OFFSET = 1439
MINUTE = 60
HOUR = 3600
DAY = 86400


def show_date(moment, offset):
    """The text of the date that a moment has at an offset."""
    if not is_whole(moment) or not is_whole(offset) or not -GREATEST_OFFSET <= offset <= GREATEST_OFFSET:
        raise NoDate("no moment and offset")
    day, second = divmod(moment + offset * MINUTE, DAY)
    number = day + _days_ahead(2000)
    if not 0 <= number < _days_ahead(LAST_YEAR + 1):
        raise NoDate("a day outside of the years 1 to 9999")
    name = WEEK[number % len(WEEK)]
    return f"{name}, {_show_day(number)} {_show_clock(second)} {_show_offset(offset)}"


def read_date(text):
    """The moment and the offset that a date's text tells."""
    if not is_line(text):
        raise NoDate("no text without line feeds")
    pieces = [piece for piece in text.split(" ") if piece != ""]
    if len(pieces) != 5 and len(pieces) != 6:
        raise NoDate("a piece of a date too few or too many")
    day, month, year, clock, offset = pieces[-5:]
    number = _read_day(day, month, year)
    if len(pieces) == 6 and pieces[0] != WEEK[number % len(WEEK)] + ",":
        raise NoDate("not this day's day of the week")
    second = _read_clock(clock)
    minutes = _read_offset(offset)
    moment = (number - _days_ahead(2000)) * DAY + second - minutes * MINUTE
    return (moment, minutes)


def _days_ahead(year):
    """How many days there are from the begin of the year 1, a Monday, to that of a year."""
    years = year - 1
    return 365 * years + years // 4 - years // 100 + years // 400


def _days_of(year, month):
    """How many days a month has, the months counted from 0."""
    if month == FEBRUARY and _days_ahead(year + 1) - _days_ahead(year) == 366:
        return 29
    return MONTH_DAYS[month]


def _year_of(number):
    """The year of a day by its number, from 0 on, from the begin of the year 1."""
    # No year is shorter than 365 days, so the guess is never too small.
    year = number // 365 + 1
    while _days_ahead(year) > number:
        year -= 1
    return year


def _show_day(number):
    year = _year_of(number)
    rest = number - _days_ahead(year)
    month = 0
    while rest >= _days_of(year, month):
        rest -= _days_of(year, month)
        month += 1
    return f"{rest + 1} {MONTHS[month]} {year:04d}"


def _show_clock(second):
    hour, rest = divmod(second, HOUR)
    minute, second_left = divmod(rest, MINUTE)
    return f"{hour:02d}:{minute:02d}:{second_left:02d}"


def _show_offset(offset):
    # Cut without its sign, since what is below 0 would be rounded down.
    hours, minutes = divmod(abs(offset), 60)
    if offset < 0:
        return f"-{hours:02d}{minutes:02d}"
    return f"+{hours:02d}{minutes:02d}"


def _read_day(day, month, year):
    """The number of a day, from 0 on, from the begin of the year 1."""
    if month not in MONTHS:
        raise NoDate("no month")
    month_number = MONTHS.index(month)
    year_number = _read_figures(year, (4,), 1, LAST_YEAR)
    day_number = _read_figures(day, (1, 2), 1, _days_of(year_number, month_number))
    ahead = sum([_days_of(year_number, number) for number in range(month_number)])
    return _days_ahead(year_number) + ahead + day_number - 1


def _read_clock(text):
    """How many seconds of the day are over by a text of hour, minute and, perhaps, second."""
    pieces = text.split(":")
    if len(pieces) == 2:
        pieces.append("00")
    if len(pieces) != 3:
        raise NoDate("no hour, minute and second")
    hour = _read_figures(pieces[0], (2,), 0, 23)
    minute = _read_figures(pieces[1], (2,), 0, 59)
    return hour * HOUR + minute * MINUTE + _read_figures(pieces[2], (2,), 0, 59)


def _read_offset(text):
    """The minutes of an offset's text."""
    if text == "UT":
        return 0
    if not text.startswith("+") and not text.startswith("-"):
        raise NoDate("no sign of an offset")
    if len(text) != 5:
        raise NoDate("no two figures of hours and two of minutes")
    minutes = _read_figures(text[1:3], (2,), 0, 23) * 60 + _read_figures(text[3:5], (2,), 0, 59)
    if text.startswith("-"):
        return -minutes
    return minutes


def _read_figures(text, sizes, least, greatest):
    """The number that a text of so many figures tells, from the least to the greatest one."""
    if len(text) not in sizes or not all([is_figure(sign) for sign in text]):
        raise NoDate("not the figures that are wanted")
    number = int(text)
    if not least <= number <= greatest:
        raise NoDate("a number too small or too great")
    return number
