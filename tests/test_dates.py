import datetime
import inspect
import itertools
import random
import re
import unittest

from foldletter import dates
from foldletter.dates import read_date, show_date
from foldletter.errors import LetterError, NoDate

from tests.samples import NO_TEXTS, NO_WHOLES, SIGNS, TORN_TEXTS

WEEK = ["Mon", "Tue", "Wed", "Thu", "Fri", "Sat", "Sun"]
MONTHS = ["Jan", "Feb", "Mar", "Apr", "May", "Jun", "Jul", "Aug", "Sep", "Oct", "Nov", "Dec"]
BEGIN = datetime.datetime(2000, 1, 1)
SECOND = datetime.timedelta(seconds=1)
FIRST = (datetime.datetime(1, 1, 1) - BEGIN) // SECOND
LAST = (datetime.datetime(9999, 12, 31, 23, 59, 59) - BEGIN) // SECOND
DAY = 86400

DATE = re.compile(
    " *(?:([A-Z][a-z]{2}), +)?([0-9]{1,2}) +([A-Z][a-z]{2}) +([0-9]{4}) +"
    "([0-9]{2}):([0-9]{2})(?::([0-9]{2}))? +(?:UT|([+-])([0-9]{2})([0-9]{2})) *"
)


def shown_by_the_words(moment, offset):
    day = BEGIN + (moment + 60 * offset) * SECOND
    sign = "-" if offset < 0 else "+"
    return "{}, {} {} {:04} {:02}:{:02}:{:02} {}{:02}{:02}".format(
        WEEK[day.weekday()], day.day, MONTHS[day.month - 1], day.year, day.hour, day.minute, day.second,
        sign, abs(offset) // 60, abs(offset) % 60,
    )


def read_by_the_words(text):
    """The date that a text tells, by Python's own calendar, or None."""
    match = DATE.fullmatch(text)
    if not match or match.group(3) not in MONTHS:
        return None
    week, day, month, year, hour, minute, second, sign, hours, minutes = match.groups("0")
    try:
        told = datetime.datetime(int(year), MONTHS.index(month) + 1, int(day), int(hour), int(minute), int(second))
    except ValueError:
        return None
    if int(hours) > 23 or int(minutes) > 59 or week not in ("0", WEEK[told.weekday()]):
        return None
    offset = (int(hours) * 60 + int(minutes)) * (-1 if sign == "-" else 1)
    return (told - BEGIN) // SECOND - 60 * offset, offset


class DatesCase(unittest.TestCase):
    def refused(self, call, *args, **more):
        with self.assertRaises(LetterError) as caught:
            call(*args, **more)
        self.assertIs(caught.exception.__class__, NoDate)

    def there_and_back(self, moment, offset, text):
        self.assertEqual(show_date(moment, offset), text)
        self.assertEqual(read_date(text), (moment, offset))

    def refuses_texts(self, *texts):
        for text in texts:
            with self.subTest(text):
                self.refused(read_date, text)


class InterfaceTest(DatesCase):
    def test_the_parameters(self):
        for function, names in [(show_date, ["moment", "offset"]), (read_date, ["text"])]:
            self.assertTrue(inspect.isfunction(function))
            self.assertEqual(list(inspect.signature(function).parameters), names)
            self.assertEqual(function.__module__, dates.__name__)

    def test_by_name(self):
        self.assertEqual(show_date(moment=0, offset=60), "Sat, 1 Jan 2000 01:00:00 +0100")
        self.assertEqual(show_date(offset=60, moment=0), "Sat, 1 Jan 2000 01:00:00 +0100")
        self.assertEqual(read_date(text="1 Jan 2000 00:00 UT"), (0, 0))

    def test_refused_by_name(self):
        self.refused(show_date, moment=None, offset=0)
        self.refused(show_date, moment=0, offset=None)
        self.refused(read_date, text=None)

    def test_kinds_of_what_is_told(self):
        self.assertIs(show_date(0, 0).__class__, str)
        for text in ["1 Jan 2000 00:00 UT", "Sat, 1 Jan 2000 00:00:00 -0130"]:
            told = read_date(text)
            self.assertIs(told.__class__, tuple)
            self.assertEqual([thing.__class__ for thing in told], [int, int])


class ShowTest(DatesCase):
    def test_ordinary(self):
        self.there_and_back(0, 0, "Sat, 1 Jan 2000 00:00:00 +0000")
        moment = (datetime.datetime(2026, 11, 16, 12, 57) - BEGIN) // SECOND
        self.there_and_back(moment, -480, "Mon, 16 Nov 2026 04:57:00 -0800")

    def test_about_the_begin(self):
        self.there_and_back(-1, 0, "Fri, 31 Dec 1999 23:59:59 +0000")
        self.there_and_back(1, 0, "Sat, 1 Jan 2000 00:00:01 +0000")
        self.there_and_back(59, 0, "Sat, 1 Jan 2000 00:00:59 +0000")
        self.there_and_back(60, 0, "Sat, 1 Jan 2000 00:01:00 +0000")
        self.there_and_back(3599, 0, "Sat, 1 Jan 2000 00:59:59 +0000")
        self.there_and_back(3600, 0, "Sat, 1 Jan 2000 01:00:00 +0000")
        self.there_and_back(DAY - 1, 0, "Sat, 1 Jan 2000 23:59:59 +0000")
        self.there_and_back(DAY, 0, "Sun, 2 Jan 2000 00:00:00 +0000")

    def test_offsets(self):
        self.there_and_back(0, 1, "Sat, 1 Jan 2000 00:01:00 +0001")
        self.there_and_back(0, -1, "Fri, 31 Dec 1999 23:59:00 -0001")
        self.there_and_back(0, -30, "Fri, 31 Dec 1999 23:30:00 -0030")
        self.there_and_back(0, -59, "Fri, 31 Dec 1999 23:01:00 -0059")
        self.there_and_back(0, -60, "Fri, 31 Dec 1999 23:00:00 -0100")
        self.there_and_back(0, -61, "Fri, 31 Dec 1999 22:59:00 -0101")
        self.there_and_back(0, -90, "Fri, 31 Dec 1999 22:30:00 -0130")
        self.there_and_back(0, 59, "Sat, 1 Jan 2000 00:59:00 +0059")
        self.there_and_back(0, 90, "Sat, 1 Jan 2000 01:30:00 +0130")
        self.there_and_back(0, 1439, "Sat, 1 Jan 2000 23:59:00 +2359")
        self.there_and_back(0, -1439, "Fri, 31 Dec 1999 00:01:00 -2359")

    def test_all_offsets(self):
        for offset in range(-1439, 1440):
            self.there_and_back(794000000, offset, shown_by_the_words(794000000, offset))

    def test_the_first_and_the_last_moments(self):
        for offset, shown in [(-1439, "-2359"), (0, "+0000"), (1439, "+2359")]:
            self.there_and_back(FIRST - 60 * offset, offset, "Mon, 1 Jan 0001 00:00:00 " + shown)
            self.there_and_back(LAST - 60 * offset, offset, "Fri, 31 Dec 9999 23:59:59 " + shown)
            for past in [1, 60, DAY, 366 * DAY, 10 ** 12, 10 ** 30]:
                self.refused(show_date, FIRST - 60 * offset - past, offset)
                self.refused(show_date, LAST - 60 * offset + past, offset)

    def test_days_about_the_ends_of_months_and_years(self):
        for year in [
            1, 4, 5, 99, 100, 101, 400, 1600, 1899, 1900, 1904, 1999, 2000, 2001, 2004, 2023, 2024, 2026, 2100, 2200,
            2400, 9996, 9999,
        ]:
            for month in range(1, 13):
                begin = (datetime.datetime(year, month, 1) - BEGIN) // SECOND
                for moment in [begin - DAY, begin - 1, begin, begin + 27 * DAY, begin + 28 * DAY, begin + 29 * DAY - 1]:
                    if FIRST <= moment <= LAST:
                        self.there_and_back(moment, 0, shown_by_the_words(moment, 0))

    def test_years_with_a_day_more(self):
        for year, more in [
            (4, 1), (1900, 0), (2000, 1), (2100, 0), (2400, 1), (2024, 1), (2023, 0), (100, 0), (400, 1),
        ]:
            day = (datetime.datetime(year, 2, 28) - BEGIN) // SECOND + DAY
            self.assertIn(" 29 Feb " if more else " 1 Mar ", show_date(day, 0))

    def test_each_day_of_a_row_of_years(self):
        begin = (datetime.datetime(1999, 1, 1) - BEGIN) // SECOND
        for day in range(366 * 6):
            moment = begin + day * DAY + 43200
            self.there_and_back(moment, 0, shown_by_the_words(moment, 0))

    def test_years_of_less_than_four_figures(self):
        for year, shown in [
            (1, "0001"), (9, "0009"), (10, "0010"), (99, "0099"), (100, "0100"), (999, "0999"), (1000, "1000"),
        ]:
            moment = (datetime.datetime(year, 6, 1) - BEGIN) // SECOND
            self.assertIn(" 1 Jun " + shown + " 00:00:00 +0000", show_date(moment, 0))

    def test_by_chance(self):
        chance = random.Random(11)
        for _ in range(4000):
            offset = chance.randint(-1439, 1439)
            moment = chance.randint(FIRST, LAST) - 60 * offset
            self.there_and_back(moment, offset, shown_by_the_words(moment, offset))

    def test_no_whole_numbers(self):
        for value in NO_WHOLES:
            with self.subTest(value=value):
                self.refused(show_date, value, 0)
                self.refused(show_date, 0, value)
                self.refused(show_date, value, value)

    def test_an_offset_outside(self):
        for offset in [-1440, 1440, -1441, 1441, 10 ** 6, -10 ** 6, 10 ** 20, -10 ** 20]:
            self.refused(show_date, 0, offset)
            self.refused(show_date, -60 * offset, offset)


class ReadTest(DatesCase):
    MOMENT = (datetime.datetime(2026, 11, 6, 4, 57, 8) - BEGIN) // SECOND

    def test_as_it_is_written(self):
        self.assertEqual(read_date("Fri, 6 Nov 2026 04:57:08 +0000"), (self.MOMENT, 0))
        self.assertEqual(read_date("Fri, 6 Nov 2026 04:57:08 +0130"), (self.MOMENT - 5400, 90))
        self.assertEqual(read_date("Fri, 6 Nov 2026 04:57:08 -0130"), (self.MOMENT + 5400, -90))

    def test_without_the_day_of_the_week(self):
        self.assertEqual(read_date("6 Nov 2026 04:57:08 +0000"), (self.MOMENT, 0))

    def test_without_the_second(self):
        self.assertEqual(read_date("Fri, 6 Nov 2026 04:57 +0000"), (self.MOMENT - 8, 0))

    def test_a_0_ahead_of_the_day(self):
        self.assertEqual(read_date("Fri, 06 Nov 2026 04:57:08 +0000"), (self.MOMENT, 0))
        for day in range(1, 10):
            texts = [figures + " Nov 2026 04:57 UT" for figures in [str(day), "0" + str(day)]]
            self.assertEqual(read_date(texts[0]), read_date(texts[1]))

    def test_the_offset_0(self):
        for offset in ["+0000", "-0000", "UT"]:
            self.assertEqual(read_date("Fri, 6 Nov 2026 04:57:08 " + offset), (self.MOMENT, 0))

    def test_several_blanks(self):
        for text in [
            "Fri,  6 Nov 2026 04:57:08 +0000", "Fri, 6  Nov   2026    04:57:08     +0000",
            " Fri, 6 Nov 2026 04:57:08 +0000",
            "Fri, 6 Nov 2026 04:57:08 +0000 ", "    Fri,   6   Nov   2026   04:57:08   +0000    ",
            "  6 Nov 2026 04:57:08 UT  ",
        ]:
            self.assertEqual(read_date(text), (self.MOMENT, 0))

    def test_all_forms_together(self):
        ways = [["", "Fri, ", "Fri,   "], ["6 ", "06  "], ["Nov "], ["2026 ", "2026   "], ["04:57 ", "04:57:00 "],
                ["+0000", "-0000", "UT"], ["", "  "], ["", "   "]]
        for week, day, month, year, clock, offset, ahead, behind in itertools.product(*ways):
            text = ahead + week + day + month + year + clock + offset + behind
            self.assertEqual(read_date(text), (self.MOMENT - 8, 0), text)

    def test_the_greatest_of_each(self):
        self.assertEqual(show_date(*read_date("31 Dec 9999 23:59:59 -2359")), "Fri, 31 Dec 9999 23:59:59 -2359")
        self.assertEqual(show_date(*read_date("1 Jan 0001 00:00 +2359")), "Mon, 1 Jan 0001 00:00:00 +2359")

    def test_no_day_of_the_calendar(self):
        for year in ["2023", "1900", "2100", "0001", "0100"]:
            self.refuses_texts("29 Feb " + year + " 00:00 UT")
        for year in ["2024", "2000", "2400", "0004", "0400"]:
            self.assertIn("29 Feb " + year, show_date(*read_date("29 Feb " + year + " 00:00 UT")))
            self.refuses_texts("30 Feb " + year + " 00:00 UT")
        for month, days in zip(MONTHS, [31, 28, 31, 30, 31, 30, 31, 31, 30, 31, 30, 31]):
            self.assertIn(str(days) + " " + month, show_date(*read_date(f"{days} {month} 2026 00:00 UT")))
            self.refuses_texts(
                f"{days + 1} {month} 2026 00:00 UT", f"0 {month} 2026 00:00 UT", f"00 {month} 2026 00:00 UT",
            )
        self.refuses_texts("1 Jan 0000 00:00 UT", "31 Dec 0000 00:00 UT", "99 Jan 2026 00:00 UT")

    def test_a_day_of_another_size(self):
        for day in ["006", "016", "100", "", "+6", "-6", "6.", "a", "6a", "0x6", "6_"]:
            self.refuses_texts(day + " Nov 2026 04:57 UT")

    def test_another_day_of_the_week(self):
        for name in WEEK:
            text = name + ", 6 Nov 2026 04:57:08 +0000"
            if name == "Fri":
                self.assertEqual(read_date(text), (self.MOMENT, 0))
            else:
                self.refuses_texts(text)

    def test_the_day_of_the_week_is_that_of_the_day_there(self):
        self.assertEqual(read_date("Fri, 6 Nov 2026 23:59:08 -2359"), (self.MOMENT + (19 * 60 + 2 + 1439) * 60, -1439))
        self.refuses_texts("Sat, 6 Nov 2026 23:59:08 -2359", "Thu, 6 Nov 2026 00:00:08 +2359")

    def test_names_otherwise(self):
        rest = " 6 Nov 2026 04:57:08 +0000"
        for week in [
            "fri,", "FRI,", "Friday,", "Fr,", "F,", ",", "Fri", "Fri,,", "Fri.", "Fri ,", "Fri,Fri,", "Xyz,", "Fri;",
            "(Fri),",
        ]:
            self.refuses_texts(week + rest)
        for month in ["nov", "NOV", "November", "No", "N", "11", "Nov.", "Nov,", "Xyz", "NOv"]:
            self.refuses_texts("Fri, 6 " + month + " 2026 04:57:08 +0000", "6 " + month + " 2026 04:57 UT")
        self.refuses_texts(
            "Fri,6 Nov 2026 04:57:08 +0000", "Fri, 6Nov 2026 04:57 UT", "Fri, 6 Nov2026 04:57 UT", "Fri" + rest,
        )

    def test_years_of_three_or_five_figures(self):
        self.refuses_texts("6 Nov 202 04:57 UT", "6 Nov 20260 04:57 UT", "6 Nov 02026 04:57 UT", "6 Nov 26 04:57 UT",
                           "6 Nov 999 04:57 UT", "6 Nov 10000 04:57 UT", "6 Nov 2_26 04:57 UT", "6 Nov -026 04:57 UT")

    def test_hours_minutes_and_seconds(self):
        for clock in ["00:00", "23:59", "23:59:59", "00:00:00", "09:08:07"]:
            self.assertEqual(read_date("6 Nov 2026 " + clock + " UT"), read_by_the_words("6 Nov 2026 " + clock + " UT"))
        for clock in [
            "24:00", "24:00:00", "25:00", "99:00", "04:60", "04:60:00", "04:99", "04:57:60", "04:57:61", "04:57:99",
            "4:57",
            "04:7", "04:57:8", "004:57", "04:057", "04:57:008", "0457", "04", "04:", ":57", "04:57:", "04:57:08:",
            "04:57:08:00",
            "04.57", "04:57.08", "+4:57", "-4:57", "04:5a", "04::57", ":", "::", "04 :57", "04: 57", "04:57 :08",
            "04;57", "04:57:08.0",
        ]:
            self.refuses_texts("Fri, 6 Nov 2026 " + clock + " +0000", "6 Nov 2026 " + clock + " UT")

    def test_offsets(self):
        for offset, minutes in [
            ("+2359", 1439), ("-2359", -1439), ("+0001", 1), ("-0001", -1), ("-0100", -60), ("+1000", 600),
        ]:
            self.assertEqual(read_date("Fri, 6 Nov 2026 04:57:08 " + offset), (self.MOMENT - 60 * minutes, minutes))
        for offset in [
            "+2400", "-2400", "+9900", "+0060", "-0060", "+0099", "+2360", "0000", "0100", "+000", "+00000", "+100",
            "+1:00",
            "+01:00", "ut", "Ut", "uT", "UTC", "U", "T", "Z", "GMT", "+UT", "UT+0100", "UT +0100", "+ 0100", "+-100",
            "--0100",
            "+", "-", "", "+0a00", "+00a0", "+0000.", "UT.", "*0000", "-UT", "+1 00",
        ]:
            self.refuses_texts("Fri, 6 Nov 2026 04:57:08 " + offset, "6 Nov 2026 04:57 " + offset)

    def test_pieces_too_few_or_too_many(self):
        self.refuses_texts(
            "", " ", "Fri,", "6", "6 Nov", "6 Nov 2026", "6 Nov 2026 04:57", "Nov 2026 04:57 UT", "6 2026 04:57 UT",
            "6 Nov 04:57 UT", "6 Nov 2026 UT", "Fri, Fri, 6 Nov 2026 04:57 UT", "6 Nov 2026 04:57 UT UT",
            "6 Nov 2026 04:57 UT a",
            "a 6 Nov 2026 04:57 UT", "Fri, 6 Nov 2026 04:57", "6 6 Nov 2026 04:57 UT", "Fri, 6 Nov 2026 04:57 UT 0",
        )

    def test_remarks_and_words_are_none(self):
        self.refuses_texts(
            "6 Nov 2026 04:57 UT (x)", '"6" Nov 2026 04:57 UT', "6 (x) Nov 2026 04:57 UT", "6, Nov 2026 04:57 UT",
        )

    def test_no_text(self):
        for value in [*NO_TEXTS, *TORN_TEXTS, b"6 Nov 2026 04:57 UT", ["6 Nov 2026 04:57 UT"], (0, 0)]:
            with self.subTest(value=ascii(value)):
                self.refused(read_date, value)

    def test_other_blanks_and_figures(self):
        self.refuses_texts(
            "6 Nov 2026 04:57 UT\n", "\n6 Nov 2026 04:57 UT", "6\nNov 2026 04:57 UT", "6 Nov 2026\n04:57 UT",
            "6\tNov 2026 04:57 UT",
            "6\u00a0Nov 2026 04:57 UT", "\u0666 Nov 2026 04:57 UT", "\u00b2 Nov 2026 04:57 UT",
            "6 Nov 202\u0666 04:57 UT",
        )

    def test_each_other_sign_as_the_words_say(self):
        text = "Fri, 6 Nov 2026 04:57:08 -0130"
        for place in range(len(text) + 1):
            ahead, behind = text[:place], text[place + 1:]
            for sign in SIGNS + "\n":
                for torn in [ahead + sign + text[place:], ahead + sign + behind, ahead + behind]:
                    wanted = read_by_the_words(torn)
                    if wanted is None:
                        self.refused(read_date, torn)
                    else:
                        self.assertEqual(read_date(torn), wanted)


if __name__ == "__main__":
    unittest.main()
