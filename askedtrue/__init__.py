"""askedtrue: asking and acting over lines whose packets come out wrong or not at all."""
