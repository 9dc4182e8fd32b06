package cron

import (
	"escapement/api"
	"escapement/calendar"
)

// Seconds.
const (
	perMinute = 60
	perHour   = 60 * perMinute
	perDay    = 24 * perHour
)

// leapYear is one of the years whose months are as long as they get.
const leapYear = 2000

// span is a stretch of times, from begin on and up to end, that one not. Where
// it does not fit, no time in it matches.
type span struct {
	begin, end int
	fits       bool
}

// Matches tells whether a time matches.
func (x *Expr) Matches(t int) bool {
	if t < 0 || t > api.MaxTime || t%perMinute != 0 {
		return false
	}
	for _, s := range x.spans(t) {
		if !s.fits {
			return false
		}
	}
	return true
}

// Next is the first time behind t that matches.
func (x *Expr) Next(t int) (int, bool) {
	if x.never() {
		return 0, false
	}
	t = min(max(t, -1), api.MaxTime)
	t = (t + perMinute) / perMinute * perMinute
search:
	for t <= api.MaxTime {
		for _, s := range x.spans(t) {
			if !s.fits {
				t = s.end
				continue search
			}
		}
		return t, true
	}
	return 0, false
}

// Last is the last time up to t that matches.
func (x *Expr) Last(t int) (int, bool) {
	if x.never() {
		return 0, false
	}
	t = min(t, api.MaxTime)
search:
	for t >= 0 {
		for _, s := range x.spans(t) {
			if !s.fits {
				t = s.begin - 1
				continue search
			}
		}
		return t - t%perMinute, true
	}
	return 0, false
}

// spans are the month, the day, the hour and the minute that a time lies in:
// the longest one comes first, so that a search leaps as far as it can.
func (x *Expr) spans(t int) [4]span {
	d, _ := calendar.At(t)
	length, _ := calendar.Days(d.Year, d.Month)
	minute, hour, day := t-t%perMinute, t-t%perHour, t-t%perDay
	month := day - (d.Day-1)*perDay
	return [4]span{
		{month, month + length*perDay, x.sets[months][d.Month]},
		{day, day + perDay, x.onDay(d)},
		{hour, hour + perHour, x.sets[hours][d.Hour]},
		{minute, minute + perMinute, x.sets[minutes][d.Minute]},
	}
}

// onDay tells whether a date's day and weekday are as they must be.
func (x *Expr) onDay(d api.Date) bool {
	day, weekday := x.sets[days][d.Day], x.sets[weekdays][d.Weekday]
	if x.oneIsEnough() {
		return day || weekday
	}
	return day && weekday
}

// oneIsEnough tells whether the day or the weekday may be outside its set.
func (x *Expr) oneIsEnough() bool {
	return !x.whole(days) && !x.whole(weekdays)
}

// never tells that no date matches, as of 30 February: a search for one would
// go on to the end of all times. Each day of a leap year comes within eight
// years, and each weekday within any month.
func (x *Expr) never() bool {
	anyDay := x.oneIsEnough()
	for month := bounds[months].least; month <= bounds[months].greatest; month++ {
		length, _ := calendar.Days(leapYear, month)
		for day := 1; day <= length; day++ {
			if x.sets[months][month] && (anyDay || x.sets[days][day]) {
				return false
			}
		}
	}
	return true
}
