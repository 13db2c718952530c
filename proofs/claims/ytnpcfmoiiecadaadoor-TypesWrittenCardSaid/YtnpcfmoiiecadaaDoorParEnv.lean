/- What is proved: the plain parser does not ask where its tokens lie. -/
import Derived.Test.YtnpcfmoiiecadaaDoorParTot
set_option linter.unusedVariables false
set_option linter.unusedSimpArgs false
namespace Go.Proofs.YtnpcfmoiiecadaaDoor.Par
open Lx (Tok)

/-- the same text, the same tokens -/
structure Ev (E E' : Env) : Prop where
  s : E.s = E'.s
  T : E.T = E'.T
section
variable {E E' : Env} (h : Ev E E')
include h
theorem tk_v : tk E = tk E' := by funext i; unfold tk; rw [h.T]
theorem wd_v : wd E = wd E' := by funext i; unfold wd; rw [tk_v h, h.s]
theorem fuel_v : fuel E = fuel E' := by unfold fuel; rw [h.T]
theorem deep_v : deep E = deep E' := by unfold deep; rw [h.T]
theorem knd_v : knd E = knd E' := by funext p; simp only [knd, tk_v h, wd_v h, fuel_v h]
theorem isW_v : isW E = isW E' := by funext p x; simp only [isW, tk_v h, wd_v h, fuel_v h, knd_v h]
theorem rd_v : rd E = rd E' := by funext p; simp only [rd, tk_v h, wd_v h, fuel_v h, knd_v h, isW_v h]
theorem rep_v : rep E = rep E' := by funext p c x; simp only [rep, tk_v h, wd_v h, fuel_v h, knd_v h, isW_v h, rd_v h]
theorem exq_v : exq E = exq E' := by funext p x; simp only [exq, tk_v h, wd_v h, fuel_v h, knd_v h, isW_v h, rd_v h, rep_v h]
theorem nam_v : nam E = nam E' := by funext p; simp only [nam, tk_v h, wd_v h, fuel_v h, knd_v h, isW_v h, rd_v h, rep_v h, exq_v h]
theorem at1_v : at1 E = at1 E' := by funext p f k; simp only [at1, tk_v h, wd_v h, fuel_v h, knd_v h, isW_v h, rd_v h, rep_v h, exq_v h, nam_v h]
theorem mkN_v : mkN E = mkN E' := by funext p f k t ks; simp only [mkN, tk_v h, wd_v h, fuel_v h, knd_v h, isW_v h, rd_v h, rep_v h, exq_v h, nam_v h, at1_v h]
theorem typ_v : typ E = typ E' := by funext p; simp only [typ, tk_v h, wd_v h, fuel_v h, knd_v h, isW_v h, rd_v h, rep_v h, exq_v h, nam_v h, at1_v h, mkN_v h]
theorem opt_v : opt E = opt E' := by funext p; simp only [opt, tk_v h, wd_v h, fuel_v h, knd_v h, isW_v h, rd_v h, rep_v h, exq_v h, nam_v h, at1_v h, mkN_v h, typ_v h]
theorem fld_v : fld E = fld E' := by funext p; simp only [fld, tk_v h, wd_v h, fuel_v h, knd_v h, isW_v h, rd_v h, rep_v h, exq_v h, nam_v h, at1_v h, mkN_v h, typ_v h, opt_v h]
theorem more_v (el : St → Option (NT × St)) : more E el = more E' el := by
  funext f ks p
  induction f generalizing ks p with
  | zero => simp only [more]
  | succ f ih => simp only [more, ih, tk_v h, wd_v h, fuel_v h, knd_v h, isW_v h, rd_v h, rep_v h, exq_v h, nam_v h, at1_v h, mkN_v h, typ_v h, opt_v h, fld_v h]
theorem rec__v : rec_ E = rec_ E' := by funext p; simp only [rec_, tk_v h, wd_v h, fuel_v h, knd_v h, isW_v h, rd_v h, rep_v h, exq_v h, nam_v h, at1_v h, mkN_v h, typ_v h, opt_v h, fld_v h, more_v h]
theorem par_v : par E = par E' := by funext p; simp only [par, tk_v h, wd_v h, fuel_v h, knd_v h, isW_v h, rd_v h, rep_v h, exq_v h, nam_v h, at1_v h, mkN_v h, typ_v h, opt_v h, fld_v h, more_v h, rec__v h]
theorem pars_v : pars E = pars E' := by funext p; simp only [pars, tk_v h, wd_v h, fuel_v h, knd_v h, isW_v h, rd_v h, rep_v h, exq_v h, nam_v h, at1_v h, mkN_v h, typ_v h, opt_v h, fld_v h, more_v h, rec__v h, par_v h]
theorem stops_v : stops E = stops E' := by funext p; simp only [stops, tk_v h, wd_v h, fuel_v h, knd_v h, isW_v h, rd_v h, rep_v h, exq_v h, nam_v h, at1_v h, mkN_v h, typ_v h, opt_v h, fld_v h, more_v h, rec__v h, par_v h, pars_v h]
theorem begins_v : begins E = begins E' := by funext p; simp only [begins, tk_v h, wd_v h, fuel_v h, knd_v h, isW_v h, rd_v h, rep_v h, exq_v h, nam_v h, at1_v h, mkN_v h, typ_v h, opt_v h, fld_v h, more_v h, rec__v h, par_v h, pars_v h, stops_v h]
theorem skipT_v (first : Nat) : skipT E first = skipT E' first := by
  funext f p
  induction f generalizing p with
  | zero => simp only [skipT]
  | succ f ih => simp only [skipT, ih, tk_v h, wd_v h, fuel_v h, knd_v h, isW_v h, rd_v h, rep_v h, exq_v h, nam_v h, at1_v h, mkN_v h, typ_v h, opt_v h, fld_v h, more_v h, rec__v h, par_v h, pars_v h, stops_v h, begins_v h]
theorem skipped_v : skipped E = skipped E' := by funext p; simp only [skipped, tk_v h, wd_v h, fuel_v h, knd_v h, isW_v h, rd_v h, rep_v h, exq_v h, nam_v h, at1_v h, mkN_v h, typ_v h, opt_v h, fld_v h, more_v h, rec__v h, par_v h, pars_v h, stops_v h, begins_v h, skipT_v h]
theorem var__v : var_ E = var_ E' := by funext p; simp only [var_, tk_v h, wd_v h, fuel_v h, knd_v h, isW_v h, rd_v h, rep_v h, exq_v h, nam_v h, at1_v h, mkN_v h, typ_v h, opt_v h, fld_v h, more_v h, rec__v h, par_v h, pars_v h, stops_v h, begins_v h, skipT_v h, skipped_v h]
theorem oper_v : oper E = oper E' := by funext l p; simp only [oper, tk_v h, wd_v h, fuel_v h, knd_v h, isW_v h, rd_v h, rep_v h, exq_v h, nam_v h, at1_v h, mkN_v h, typ_v h, opt_v h, fld_v h, more_v h, rec__v h, par_v h, pars_v h, stops_v h, begins_v h, skipT_v h, skipped_v h, var__v h]
theorem prim_v : prim E = prim E' := by funext p; simp only [prim, tk_v h, wd_v h, fuel_v h, knd_v h, isW_v h, rd_v h, rep_v h, exq_v h, nam_v h, at1_v h, mkN_v h, typ_v h, opt_v h, fld_v h, more_v h, rec__v h, par_v h, pars_v h, stops_v h, begins_v h, skipT_v h, skipped_v h, var__v h, oper_v h]
theorem behindW_v : behindW E = behindW E' := by funext p x; unfold behindW; rw [wd_v h, h.T]
theorem args_v (R : Rec) : args E R = args E' R := by funext p; simp only [args, tk_v h, wd_v h, fuel_v h, knd_v h, isW_v h, rd_v h, rep_v h, exq_v h, nam_v h, at1_v h, mkN_v h, typ_v h, opt_v h, fld_v h, more_v h, rec__v h, par_v h, pars_v h, stops_v h, begins_v h, skipT_v h, skipped_v h, var__v h, oper_v h, prim_v h, behindW_v h]
theorem place_v (R : Rec) : place E R = place E' R := by funext p; simp only [place, tk_v h, wd_v h, fuel_v h, knd_v h, isW_v h, rd_v h, rep_v h, exq_v h, nam_v h, at1_v h, mkN_v h, typ_v h, opt_v h, fld_v h, more_v h, rec__v h, par_v h, pars_v h, stops_v h, begins_v h, skipT_v h, skipped_v h, var__v h, oper_v h, prim_v h, behindW_v h, args_v h]
theorem operand_v (R : Rec) : operand E R = operand E' R := by funext p; simp only [operand, tk_v h, wd_v h, fuel_v h, knd_v h, isW_v h, rd_v h, rep_v h, exq_v h, nam_v h, at1_v h, mkN_v h, typ_v h, opt_v h, fld_v h, more_v h, rec__v h, par_v h, pars_v h, stops_v h, begins_v h, skipT_v h, skipped_v h, var__v h, oper_v h, prim_v h, behindW_v h, args_v h, place_v h]
theorem binL_v (R : Rec) (lvl first : Nat) : binL E R lvl first = binL E' R lvl first := by
  funext f x p
  induction f generalizing x p with
  | zero => simp only [binL]
  | succ f ih => simp only [binL, ih, tk_v h, wd_v h, fuel_v h, knd_v h, isW_v h, rd_v h, rep_v h, exq_v h, nam_v h, at1_v h, mkN_v h, typ_v h, opt_v h, fld_v h, more_v h, rec__v h, par_v h, pars_v h, stops_v h, begins_v h, skipT_v h, skipped_v h, var__v h, oper_v h, prim_v h, behindW_v h, args_v h, place_v h, operand_v h]
theorem exS_v (R : Rec) : exS E R = exS E' R := by funext l p; simp only [exS, tk_v h, wd_v h, fuel_v h, knd_v h, isW_v h, rd_v h, rep_v h, exq_v h, nam_v h, at1_v h, mkN_v h, typ_v h, opt_v h, fld_v h, more_v h, rec__v h, par_v h, pars_v h, stops_v h, begins_v h, skipT_v h, skipped_v h, var__v h, oper_v h, prim_v h, behindW_v h, args_v h, place_v h, operand_v h, binL_v h]
theorem stmL_v (R : Rec) : stmL E R = stmL E' R := by
  funext f ks p
  induction f generalizing ks p with
  | zero => simp only [stmL]
  | succ f ih => simp only [stmL, ih, tk_v h, wd_v h, fuel_v h, knd_v h, isW_v h, rd_v h, rep_v h, exq_v h, nam_v h, at1_v h, mkN_v h, typ_v h, opt_v h, fld_v h, more_v h, rec__v h, par_v h, pars_v h, stops_v h, begins_v h, skipT_v h, skipped_v h, var__v h, oper_v h, prim_v h, behindW_v h, args_v h, place_v h, operand_v h, binL_v h, exS_v h]
theorem blkS_v (R : Rec) : blkS E R = blkS E' R := by funext p; simp only [blkS, tk_v h, wd_v h, fuel_v h, knd_v h, isW_v h, rd_v h, rep_v h, exq_v h, nam_v h, at1_v h, mkN_v h, typ_v h, opt_v h, fld_v h, more_v h, rec__v h, par_v h, pars_v h, stops_v h, begins_v h, skipT_v h, skipped_v h, var__v h, oper_v h, prim_v h, behindW_v h, args_v h, place_v h, operand_v h, binL_v h, exS_v h, stmL_v h]
theorem brS_v (R : Rec) : brS E R = brS E' R := by funext p; simp only [brS, tk_v h, wd_v h, fuel_v h, knd_v h, isW_v h, rd_v h, rep_v h, exq_v h, nam_v h, at1_v h, mkN_v h, typ_v h, opt_v h, fld_v h, more_v h, rec__v h, par_v h, pars_v h, stops_v h, begins_v h, skipT_v h, skipped_v h, var__v h, oper_v h, prim_v h, behindW_v h, args_v h, place_v h, operand_v h, binL_v h, exS_v h, stmL_v h, blkS_v h]
theorem stmS_v (R : Rec) : stmS E R = stmS E' R := by funext p; simp only [stmS, tk_v h, wd_v h, fuel_v h, knd_v h, isW_v h, rd_v h, rep_v h, exq_v h, nam_v h, at1_v h, mkN_v h, typ_v h, opt_v h, fld_v h, more_v h, rec__v h, par_v h, pars_v h, stops_v h, begins_v h, skipT_v h, skipped_v h, var__v h, oper_v h, prim_v h, behindW_v h, args_v h, place_v h, operand_v h, binL_v h, exS_v h, stmL_v h, blkS_v h, brS_v h]
theorem stp_v (R : Rec) : stp E R = stp E' R := by unfold stp; rw [exS_v h, blkS_v h, brS_v h, stmS_v h]
theorem it_v (n : Nat) : it E n = it E' n := by
  induction n with
  | zero => rfl
  | succ n ih => rw [it, it, ih, stp_v h]
theorem prc_v (R : Rec) : prc E R = prc E' R := by funext p; simp only [prc, tk_v h, wd_v h, fuel_v h, knd_v h, isW_v h, rd_v h, rep_v h, exq_v h, nam_v h, at1_v h, mkN_v h, typ_v h, opt_v h, fld_v h, more_v h, rec__v h, par_v h, pars_v h, stops_v h, begins_v h, skipT_v h, skipped_v h, var__v h, oper_v h, prim_v h, behindW_v h, args_v h, place_v h, operand_v h, binL_v h, exS_v h, stmL_v h, blkS_v h, brS_v h, stmS_v h]
theorem skipD_v : skipD E = skipD E' := by
  funext f p
  induction f generalizing p with
  | zero => simp only [skipD]
  | succ f ih => simp only [skipD, ih, tk_v h, wd_v h, fuel_v h, knd_v h, isW_v h, rd_v h, rep_v h, exq_v h, nam_v h, at1_v h, mkN_v h, typ_v h, opt_v h, fld_v h, more_v h, rec__v h, par_v h, pars_v h, stops_v h, begins_v h, skipT_v h, skipped_v h, var__v h, oper_v h, prim_v h, behindW_v h, args_v h, place_v h, operand_v h, binL_v h, exS_v h, stmL_v h, blkS_v h, brS_v h, stmS_v h, prc_v h]
theorem decl_v (R : Rec) : decl E R = decl E' R := by funext p; simp only [decl, tk_v h, wd_v h, fuel_v h, knd_v h, isW_v h, rd_v h, rep_v h, exq_v h, nam_v h, at1_v h, mkN_v h, typ_v h, opt_v h, fld_v h, more_v h, rec__v h, par_v h, pars_v h, stops_v h, begins_v h, skipT_v h, skipped_v h, var__v h, oper_v h, prim_v h, behindW_v h, args_v h, place_v h, operand_v h, binL_v h, exS_v h, stmL_v h, blkS_v h, brS_v h, stmS_v h, prc_v h, skipD_v h]
theorem declL_v (R : Rec) : declL E R = declL E' R := by
  funext f ks p
  induction f generalizing ks p with
  | zero => simp only [declL]
  | succ f ih => simp only [declL, ih, tk_v h, wd_v h, fuel_v h, knd_v h, isW_v h, rd_v h, rep_v h, exq_v h, nam_v h, at1_v h, mkN_v h, typ_v h, opt_v h, fld_v h, more_v h, rec__v h, par_v h, pars_v h, stops_v h, begins_v h, skipT_v h, skipped_v h, var__v h, oper_v h, prim_v h, behindW_v h, args_v h, place_v h, operand_v h, binL_v h, exS_v h, stmL_v h, blkS_v h, brS_v h, stmS_v h, prc_v h, skipD_v h, decl_v h]
theorem endD_v : endD E = endD E' := by funext p; simp only [endD, tk_v h, wd_v h, fuel_v h, knd_v h, isW_v h, rd_v h, rep_v h, exq_v h, nam_v h, at1_v h, mkN_v h, typ_v h, opt_v h, fld_v h, more_v h, rec__v h, par_v h, pars_v h, stops_v h, begins_v h, skipT_v h, skipped_v h, var__v h, oper_v h, prim_v h, behindW_v h, args_v h, place_v h, operand_v h, binL_v h, exS_v h, stmL_v h, blkS_v h, brS_v h, stmS_v h, prc_v h, skipD_v h, decl_v h]
end
end Go.Proofs.YtnpcfmoiiecadaaDoor.Par
