"""Forms within forms: parts is a function that tells the forms right within one."""


def forms_within(form, parts):
    """A list of all forms of this one, itself first."""
    forms = [form]
    for part in parts(form):
        forms.extend(forms_within(part, parts))
    return forms


def depth_within(form, parts):
    """How many forms stand within one another, itself counted."""
    return 1 + max([depth_within(part, parts) for part in parts(form)], default=0)
