import PyProof.Rows.All
import Wide.All
import OpenK.AllK
import Wide.FinOn
import PySem.Challenge.RW_carfax_k10_error_classes
open PySem PySem.W PyProof.Rows
set_option Elab.async false
set_option maxRecDepth 100000 in
set_option maxHeartbeats 8000000 in
theorem PySem.Challenge.cw_carfax_k10_error_classes_holds : PySem.Challenge.rw_carfax_k10_error_classes.Holds := by
  open_k
