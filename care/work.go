package care

import (
	"slices"

	"guideway/api"
)

// checkedWork embeds work that is right.
type checkedWork struct {
	api.CareWork
}

// CheckWork returns how many windows are used, if they are accepted for the jobs.
func CheckWork(x api.CareWork, windows []int) (int, api.Errno) {
	c, err := checkWork(x)
	if err == api.OK && len(windows) != len(x.Jobs) {
		err = api.ErrShape
	}
	if err == api.OK {
		_, err = firstWrong(windows, c.errorOfWindow)
	}
	if err != api.OK {
		return 0, err
	}
	used := slices.Clone(windows)
	slices.Sort(used)
	return len(slices.Compact(used)), api.OK
}

// FirstWork returns the first windows that are accepted.
func FirstWork(x api.CareWork) ([]int, api.Errno) {
	c, err := checkWork(x)
	if err != api.OK {
		return nil, err
	}
	windows, ok := c.firstFrom(nil)
	if !ok {
		return nil, api.ErrNone
	}
	return windows, api.OK
}

func checkWork(x api.CareWork) (checkedWork, api.Errno) {
	if err := errorOfWork(x); err != api.OK {
		return checkedWork{}, err
	}
	return checkedWork{x}, api.OK
}

func errorOfWork(x api.CareWork) api.Errno {
	switch {
	case len(x.Windows) == 0:
		return api.ErrShape
	case len(x.Windows) > api.MaxCareWindows, len(x.Jobs) > api.MaxCareJobs:
		return api.ErrLarge
	}
	_, err := firstWrong(x.Windows, func(_ []int, hours int) api.Errno { return errorOfHours(hours, 0) })
	if err == api.OK {
		_, err = firstWrong(x.Jobs, func(_ []api.CareJob, j api.CareJob) api.Errno { return errorOfJob(j, len(x.Windows)) })
	}
	return err
}

// errorOfJob returns what is wrong with a job that is to be done in one of so many windows.
func errorOfJob(j api.CareJob, windows int) api.Errno {
	if err := firstOf(errorOfHours(j.Hours, 1), errorOfNumber(j.First, windows), errorOfNumber(j.Last, windows)); err != api.OK {
		return err
	}
	if j.First > j.Last {
		return api.ErrOrder
	}
	return api.OK
}

func errorOfHours(hours, least int) api.Errno {
	if !within(hours, least, api.MaxCareHours) {
		return api.ErrRange
	}
	return api.OK
}

// errorOfWindow returns what is wrong with the window of the job behind those with the earlier ones.
func (c checkedWork) errorOfWindow(earlier []int, window int) api.Errno {
	if err := errorOfNumber(window, len(c.Windows)); err != api.OK {
		return err
	}
	job := c.Jobs[len(earlier)]
	switch {
	case !within(window, job.First, job.Last):
		return api.ErrLate
	case c.hoursIn(window, earlier)+job.Hours > c.Windows[window]:
		return api.ErrFull
	}
	return api.OK
}

// hoursIn returns how many hours the jobs with some windows take of one of them.
func (c checkedWork) hoursIn(window int, windows []int) int {
	hours := 0
	for job, taken := range windows {
		if taken == window {
			hours += c.Jobs[job].Hours
		}
	}
	return hours
}

// firstFrom returns the first windows that are accepted and begin with those told, which are accepted; false if there are none.
func (c checkedWork) firstFrom(told []int) ([]int, bool) {
	if len(told) == len(c.Jobs) {
		return told, true
	}
	for window := range c.Windows {
		if c.errorOfWindow(told, window) != api.OK {
			continue
		}
		if windows, ok := c.firstFrom(append(told, window)); ok {
			return windows, true
		}
	}
	return nil, false
}
