"""Ribboncast: letters struck as rows of holes, and cast from them one by one."""
