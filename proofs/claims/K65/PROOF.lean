import PyProof.Rows.All
import Wide.All
import OpenK.AllK
import Wide.FinOn
import KE.KExcIs
import HandS.ForMost
import HandS.Evl
import HandS.Exc
import HandS.ExcInit
import HandS.ExcOwn
import HandS.ExcValue
import HandS.IsInst
import HandS.WideMore
import HandS.WideBits
import HandS.Wide
import HandS.Defaults
import HandS.ExcIs
import HandS.ExcField
import HandS.Nested
import KE.KxIndex
import PySem.Challenge.RW_broughtin_k65_errors_made
set_option Elab.async false
set_option linter.all false
set_option maxRecDepth 100000
set_option maxHeartbeats 4000000
namespace Bk
open PySem PySem.Spec PyProof.Rows L2 Evl

/-! ### a def of the text that may be called -/
structure Cal (P : Program) (w : World) (K : PySem.W.Frag) (mg : Str → Option Value) (base : Heap) (k : Nat) (x : Str) (ps : List Str) (sp : Sp) : Prop where
  ex : ∃ f fd, FnOk P w K mg base CX0 k f fd ps sp ∧ mg x = some (.ref f) ∧ PySem.W.keepIn K (.ref f) = true ∧ Binds K fd ps []
section
variable {X : Cx} {k : Nat} {ps : List Str} {sp : Sp} {x : Str} {p pos : Pos} {e : Expr} {es : List Expr} {t : TA}
theorem pe_cal (C : Cal X.prog X.w X.K X.mg X.base k x ps sp) (hr : Room k X.A) (hg : Gl X x) (ha : PA X (e :: es) t) (hdb : (x == ("__debug__" : Str)) = false := by decide)
    (he : starEach (e :: es) X.env = (false, eval e X.env) :: starEach es X.env := by rfl) (hpl : (backTo pos (starEach es X.env)).any (·.1) = false := by rfl) : PE X (.Call (.Name x p) (e :: es) [] pos) (tCall sp [] E0 t) := by
  obtain ⟨f, fd, F, hm, hk, hb⟩ := C.ex
  exact pe_call F hr hg hm hk hb .nil pass0 ha hdb he hpl
end

/-! ### ** of great ints -/
def CPowW (i j : Int) : Prop := 0 ≤ j ∧ ((i.natAbs.log2 : Int) + 1) * j ≤ 134217728
theorem op_powW {X : Cx} : OpR X (binaryOp .Pow) (rI CPowW fun i j => .int (i ^ j.toNat)) := opI fun i j _ _ _ _ _ hc q => pow_int hc.1 (by
  have b : (Builtin.Int.intBits i : Int) ≤ (i.natAbs.log2 : Int) + 1 := by
    unfold Builtin.Int.intBits
    split <;> omega
  have h2 : ((i.natAbs.log2 : Int) + 1) * j ≤ 134217728 := hc.2
  have h3 := Int.mul_le_mul_of_nonneg_right b hc.1
  rw [show (2 : Int) ^ 27 = 134217728 from by decide]
  exact Int.le_trans h3 h2) q
theorem pow_ok {i j : Int} {a : Nat} (h : i.natAbs < 2 ^ a) (h0 : 0 < a) (hj : 0 ≤ j) (hb : (a : Int) * j ≤ 134217728) : CPowW i j := by
  have x := PySem.Flt.log2_lt_of h0 h
  exact ⟨hj, Int.le_trans (Int.mul_le_mul_of_nonneg_right (by omega) hj) hb⟩

end Bk

namespace BkX
open PySem PySem.HandSPX Builtin Builtin.ObjectAttr
local macro_rules | `(tactic| walk_at "bk here") => `(tactic| (first | (with_reducible refine wpAny_loadPart_at (by assumption) ?_) | (with_reducible refine wpAny_madeBy_exc (by assumption) ?_) | (with_reducible refine wpAny_staticBase_exc (by assumption) ?_) | (with_reducible refine wpAny_madeHere_exc (by assumption) (by assumption) ?_) | ((with_reducible refine wpAny_isSubtype_exc (by assumption) ?_); first | rw [‹List.contains _ _ = true›] | rw [‹List.contains _ (Value.type "AttributeError") = false›] | rw [‹List.contains _ (Value.type "NameError") = false›]) | simp only [bne_self_eq_false, Bool.false_eq_true, if_false] | wp_step))
/-- what stands at C: an own exception class over a built-in one -/
structure Own (B newId initId : String) (bmB : List Value) (h : Heap) (C : Addr) (bm : List Value) : Prop where
  F : ExcBaseFacts B newId initId bmB
  tail : ∀ X : String, bm.contains (.type X) = bmB.contains (.type X)
  obj : ∃ nm q N bs hdct sn sub ab col dd k0 k1 k2 k3 k5, h.get? C = some (excClassObj nm q C N bs bm hdct sn sub ab col dd k0 k1 k2 k3 k5 newId)
/-- C(.., k = v): the new exception's tuple and itself are laid, then C's own __init__ is called with all of it -/
theorem make_kw {prog : Program} {w : World} {A : Around} {R : Result → Shared → Prop} {s : Shared} {B newId initId : String} {bmB bm : List Value} {C fI : Addr} {us : List Value} {kw : List (Str × Value)} (O : Own B newId initId bmB s.heap C bm)
    (hi : W.Looks (model prog w) s.heap (typeLookup (.ref C) "__init__") (some (.ref fI))) (hb : ∀ self, W.Looks (model prog w) s.heap (bindSpecial (.ref fI) self) (.ref fI, [self])) (hz : us.length ≤ sizeLine)
    (hq : codeAny (model prog w) (A.under (.builtin "type.__call__" ⟨.ref C :: us, kw⟩)) (.call (.ref fI) ⟨.ref (s.heap.objs.size + 1) :: us, kw⟩) (W.InitBack (s.heap.objs.size + 1) R) { s with heap := (s.heap.push (W.kdv_tup us)).push (excO C s.heap.objs.size) }) :
    codeAny (model prog w) A (.call (.ref C) ⟨us, kw⟩) R s := by
  obtain ⟨F, hT, nm, q, N, bs, hdct, sn, sub, ab, col, dd, k0, k1, k2, k3, k5, hC⟩ := O
  obtain ⟨h, g, d, t, os⟩ := s
  have mem : ∀ X : String, (Value.ref C :: bm).contains (.type X) = bmB.contains (.type X) := fun X => (List.contains_cons ..).trans ((Bool.false_or _).trans (hT X))
  have isB := (mem B).trans F.hasB
  have noA := (mem "AttributeError").trans F.noAttr
  have noN := (mem "NameError").trans F.noName
  have look1 := tc_lookup
  have look2 := tc_bind (.ref C)
  have kind : (⟨h, g, d, t, os⟩ : Shared).TypeIs (.ref C) "type" := ⟨_, hC, rfl⟩
  have canon := F.canon
  refine codeAny_of_tree (show wpAny _ _ (callAny (.ref C) _) _ _ _ from ?_)
  repeat (any_goals (first | assumption | walk_at "bk here"))
  refine ⟨rfl, codeAny_call_builtin_at (Code.quiet_builtin _ (by decide +kernel)) entry_typeCall (wpAny_check_type_call_sub hC ?_)⟩
  repeat walk_at "bk here"
  -- the class's __new__, a built-in one
  refine codeAny_call_builtin_code (Code.quiet_builtin _ F.quiet) ?_
  have star := F.noStar
  simp only [checkBuiltinCall, F.newKind, F.newSplit, F.newRow]
  repeat walk_at "bk here"
  have ends := F.ends
  refine codeAny_builtinAt F.entry ?_
  unfold Builtin.«BaseException.__new__»
  refine wpAt_bind (show wpAt _ _ _ (stack >>= _) _ _ _ from wpAt_bind (wpAt_stack fun p below => wpAt_of_wpAny ?_))
  wp_walk
  refine wpAt_of_wpAny ?_
  rw [F.owner]
  repeat walk_at "bk here"
  have keep : ∀ b o, h.get? b = some o → ((h.push (W.kdv_tup us)).push (excO C h.objs.size)).get? b = some o := fun b o z => Heap.get?_push_of_some _ (Heap.get?_push_of_some _ z)
  have self : ([Value.ref C] ++ bm).contains (.ref C) = true := List.contains_iff_mem.mpr (List.mem_cons_self ..)
  refine wpAny_isSubtype_exc (keep _ _ hC) ?_
  rw [show (Value.ref C :: bm).contains (.ref C) = true from self]
  repeat wp_step
  rw [Heap.size_push]
  refine (hi.keeps keep).at (wpAny_holding (wpAny_bind (((hb (.ref (h.objs.size + 1))).keeps keep).at (wpAny_bind (wpAny_call (codeAny_mono hq fun r s' z => ?_))))))
  match r, z with
  | .error er, z => exact z
  | .ok (.ret v), ⟨e, z⟩ =>
    subst e
    exact wpAny_pure (wpAny_pure z)
end BkX
namespace Bk
open PySem PySem.Spec PyProof.Rows L2
theorem sz_of' {n : Nat} (h : n ≤ 1000) : n ≤ sizeLine := Nat.le_trans h (by decide)
section
variable {X : Cx} {p pos : Pos} {x : Str} {e : Expr} {es : List Expr} {ta tk : TA} {kws : List Keyword}
/-- an own exception class with an __init__ of its own, called with the values us and the keywords kw -/
theorem run_mkE {pins : List (Addr × Obj)} {σ : L2.St} {H : Hp} {s : Shared} {Q : VK} {C fI : Addr} {k : Nat} {fd : FuncData} {ps : List Str} {sp : Sp} {us all : List Value} {kw : List (Str × Value)} {vs : List V} (T : OexC X.K C) (iC : PySem.W.findIn X.K (.ref C) "__init__" = some (some (.ref fI))) (tI : PySem.W.typeIn X.K (.ref fI) = some (.type "function"))
    (F1 : FnOk X.prog X.w X.K X.mg X.base CX0 k fI fd ps sp) (hr : Room (k + 1) X.A) (I : Inv X pins σ H s) (hz : us.length ≤ sizeLine) (hb : ∀ s' : Shared, X.K.In s'.heap → BindsTo s' fd ⟨.ref (s.heap.objs.size + 1) :: us, kw⟩ (ps.zip all)) (rv : Vals vs all)
    (q : sp vs (upd H (s.heap.objs.size + 1) (exo (s.heap.objs.size + 1) C none)) (fun v H2 => v = .non ∧ Q (.ref (s.heap.objs.size + 1)) H2) (fun _ _ _ => False)) : wpAny (model X.prog X.w) X.A (call (.ref C) us kw) (EP X pins σ Q) X.xe s := by
  obtain ⟨nm, qn, N, bs, bm, sn, sub, ab, col, dd, y0, y1, y2, y3, y5, hC, tail⟩ := T.cls
  have O : BkX.Own "ValueError" "ValueError.__new__" "ValueError.__init__" PySem.HandSPX.veTail s.heap C bm := ⟨PySem.F.excBase_ValueError, fun Y => PySem.HandSPX.refsVE_contains Y bm tail, nm, qn, N, bs, true, sn, sub, ab, col, dd, y0, y1, y2, y3, y5, I.kIn _ _ hC⟩
  have grown : ∀ b o, s.heap.get? b = some o → ((s.heap.push (PySem.W.kdv_tup us)).push (PySem.HandSPX.excO C s.heap.objs.size)).get? b = some o := fun b o z => Heap.get?_push_of_some _ (Heap.get?_push_of_some _ z)
  have there : ((s.heap.push (PySem.W.kdv_tup us)).push (PySem.HandSPX.excO C s.heap.objs.size)).get? (s.heap.objs.size + 1) = some (PySem.HandSPX.excO C s.heap.objs.size) := by heap_get
  have J : Inv X pins σ (upd H (s.heap.objs.size + 1) (exo (s.heap.objs.size + 1) C none)) { s with heap := (s.heap.push (PySem.W.kdv_tup us)).push (PySem.HandSPX.excO C s.heap.objs.size), toks := s.toks } :=
    I.laid (o := exo (s.heap.objs.size + 1) C none) grown (Nat.le_succ _) (exo_ok there)
  refine wpAny_call (BkX.make_kw O (PySem.W.looks_findIn I.kIn iC) (fun self => PySem.W.bind_fn I.kIn self tI) hz ?_)
  refine codeAny_mono (F1.run _ X.stack _ _ ⟨.ref (s.heap.objs.size + 1) :: us, kw⟩ all vs _ (fun _ _ _ => False) (hr.make C us kw) (J.env0.make C us kw) (hb _ J.kIn) rv q) fun r s' z => ?_
  match r, z with
  | .error er, z => exact (show False from z).elim
  | .ok (.ret u), z =>
    obtain ⟨v, H2, J2, r2, hv, q2⟩ := J.after z
    subst hv
    exact ⟨r2, .ref (s.heap.objs.size + 1), H2, J2, rfl, q2⟩
  | .ok .next, z => exact z.elim
  | .ok .brk, z => exact z.elim
  | .ok .cont, z => exact z.elim
/-- C(e, ..): the exception as a value -/
def tMkE (C : Addr) (sp : Sp) (ta : TA) : TE := fun σ H Q => ta σ H fun vs H1 => vs.length ≤ 1000 ∧ ∀ a, H1 a = none → sp (.ref a :: vs) (upd H1 a (exo a C none)) (fun v H2 => v = .non ∧ Q (.ref a) H2) (fun _ _ _ => False)
theorem pe_mkE {x : Str} {C fI : Addr} {k : Nat} {fd : FuncData} {ps : List Str} {sp : Sp} (T : OexC X.K C) (iC : PySem.W.findIn X.K (.ref C) "__init__" = some (some (.ref fI))) (tI : PySem.W.typeIn X.K (.ref fI) = some (.type "function")) (F1 : FnOk X.prog X.w X.K X.mg X.base CX0 k fI fd ps sp) (hr : Room (k + 1) X.A)
    (hb : Binds X.K fd ps []) (hg : Gl X x) (hm : X.mg x = some (.ref C)) (ha : PA X (e :: es) ta) (hdb : (x == ("__debug__" : Str)) = false) (he : starEach (e :: es) X.env = (false, eval e X.env) :: starEach es X.env) (hpl : (backTo pos (starEach es X.env)).any (·.1) = false) : PE X (.Call (.Name x p) (e :: es) [] pos) (tMkE C sp ta) :=
  ⟨fun pins s σ H Q I h => wpAny_Call_Name_kw (ld_glob I hg hm (PySem.W.callWith_K (h₀ := X.base) I.ok.mod.kin T.kC (thn (ha.run pos pins s σ H _ I h) fun us s1 ⟨vs, H1, J, r1, hz, q1⟩ => ⟨J.kIn, by
    have q2 := q1 _ (J.hok.fresh (Nat.le_succ s1.heap.objs.size))
    have r2 : Vals (V.ref (s1.heap.objs.size + 1) :: vs) (Value.ref (s1.heap.objs.size + 1) :: us) := .cons rfl r1
    have n := r2.length.symm.trans (F1.len _ _ _ _ q2)
    refine run_mkE T iC tI F1 hr J (r1.length ▸ sz_of' hz) (fun s' z => ?_) r2 q2
    have := hb s' (Value.ref (s1.heap.objs.size + 1) :: us) z (by rw [List.append_nil]; exact n)
    rw [List.append_nil] at this
    exact this⟩) he hpl) hdb)⟩
/-- C(k = v, ..) -/
def tMkEK (C : Addr) (m : Nat) (sp : Sp) (gV : List V → List V → List V) (tk : TA) : TE := fun σ H Q => tk σ H fun zs H1 => zs.length = m ∧ ∀ a, H1 a = none → sp (gV [.ref a] zs) (upd H1 a (exo a C none)) (fun v H2 => v = .non ∧ Q (.ref a) H2) (fun _ _ _ => False)
theorem pe_mkEK {x : Str} {C fI : Addr} {k : Nat} {fd : FuncData} {ps ks : List Str} {sp : Sp} {g : List Value → List Value → List Value} {gV : List V → List V → List V} (T : OexC X.K C) (iC : PySem.W.findIn X.K (.ref C) "__init__" = some (some (.ref fI))) (tI : PySem.W.typeIn X.K (.ref fI) = some (.type "function")) (F1 : FnOk X.prog X.w X.K X.mg X.base CX0 k fI fd ps sp) (hr : Room (k + 1) X.A)
    (hb : KBn X.K fd ps 1 ks g gV) (hg : Gl X x) (hm : X.mg x = some (.ref C)) (hkw : PK X kws tk) (hall : (backToKw pos (keywordEach kws X.env)).all (·.1.isSome) = true) (hks : (backToKw pos (keywordEach kws X.env)).filterMap (·.1) = ks) (hdb : (x == ("__debug__" : Str)) = false) (hpl : ((backTo pos (starEach [] X.env)).any (·.1) || (backToKw pos (keywordEach kws X.env)).any (·.1.isNone)) = false) : PE X (.Call (.Name x p) [] kws pos) (tMkEK C ks.length sp gV tk) :=
  ⟨fun pins s σ H Q I h => wpAny_Call_Name_kw (ld_glob I hg hm (PySem.W.callWith_KW0 (h₀ := X.base) I.ok.mod.kin T.kC hall (thn (hkw.run pos pins s σ H _ I h) fun ws s1 ⟨zs, H1, J, rz, l2, q1⟩ => ⟨J.kIn, by
    rw [hks]
    exact run_mkE (us := []) (kw := ks.zip ws) T iC tI F1 hr J (Nat.zero_le _) (fun s' z => hb.to s' [.ref (s1.heap.objs.size + 1)] ws z rfl (rz.length.symm.trans l2)) (hb.rel (vs := [.ref (s1.heap.objs.size + 1)]) (.cons rfl .nil) rz) (q1 _ (J.hok.fresh (Nat.le_succ s1.heap.objs.size)))⟩) hpl) hdb)⟩
end
end Bk

namespace Bk
open PySem PySem.Spec PyProof.Rows L2 Evl
section
variable {X : Cx} {e : Expr} {te : TE} {pos : Pos} {n : Str}
/-- e.f, e an exception that is held -/
def tExf (K : PySem.W.Frag) (f : Str) (te : TE) : TE := fun σ H Q => te σ H fun x H1 => ∃ (a C d : Addr) (fs : List (Str × V)) (v : V), x = .ref a ∧ XfC K C ∧ PySem.W.findIn K (.ref C) f = some none ∧ H1 a = some (exo a C (some d)) ∧ H1 d = some (exd d fs) ∧ fs.lookup f = some v ∧ Q v H1
theorem pe_exf (he : PE X e te) (hb : attributeBase e n X.env (eval e X.env) = eval e X.env := by rfl) : PE X (.Attribute e n pos) (tExf X.K n te) := by
  refine ⟨fun pins s σ H Q I h => ?_⟩
  refine attr_of hb (thn (he.run pins s σ H _ I h) fun u s1 hh => ?_)
  obtain ⟨x, H1, I1, rx, a, C, dd, fs, v, ex, T, hno, ha, ea, l, q⟩ := hh
  subst ex
  obtain rfl : u = Value.ref a := rx
  obtain ⟨t1, hoe⟩ := exo_at I1.hok ha
  obtain ⟨mA, hns, hr⟩ := exd_at I1.hok ea
  obtain ⟨od, ho, hl⟩ := lookIn_ns hns
  obtain ⟨u, hu, ru⟩ := RelO.some_of (v := v) (o := mA n) (by rw [← l]; exact hr n)
  have J : PySem.W.InstAt s1.heap a { cls := .ref C, dict := some dd, data := .fields #[.ref t1, .none, .none, .none, .bool false, .none] } C (some od) := ⟨hoe, rfl, rfl, ho⟩
  exact HandSPX.exc_get I1.kIn J T.ga T.gg T.exC (PySem.W.findObj_own T.hdC hno rfl (by rw [hl, hu])) (handed_of ru) ⟨v, H1, I1.tok _, ru, q⟩
end
/-- an exception of class C stands at a: without a dict | with one -/
def Held (H : Hp) (a C : Addr) (d : Option Addr) : Prop := (d = none ∧ H a = some (ExO (.ref C) a)) ∨ ∃ dd fs, d = some dd ∧ H a = some (exo a C (some dd)) ∧ H dd = some (exd dd fs)
theorem Held.mono {H H' : Hp} {a C : Addr} {d : Option Addr} (h : Held H a C d) (e : Ex H H') : Held H' a C d := by
  rcases h with ⟨h1, h2⟩ | ⟨dd, fs, h1, h2, h3⟩
  · exact .inl ⟨h1, e _ _ h2⟩
  · exact .inr ⟨dd, fs, h1, e _ _ h2, e _ _ h3⟩
/-- what the heap has of it -/
theorem Held.inst {X : Cx} {pins : List (Addr × Obj)} {σ : L2.St} {H : Hp} {s : Shared} {a C : Addr} {d : Option Addr} (I : Inv X pins σ H s) (h : Held H a C d) : ∃ ox od, PySem.W.InstAt s.heap a ox C od := by
  rcases h with ⟨_, h⟩ | ⟨dd, fs, _, h, hd⟩
  · obtain ⟨⟨oe, vs, ho, hz, hv, _⟩, _, _⟩ := I.hok a _ h
    obtain ⟨oc, od, dt, sl⟩ := oe
    obtain ⟨z1, z2⟩ := hz
    dsimp only at z1 z2 hv
    subst z1 z2 hv
    exact ⟨_, none, ho, rfl, rfl, trivial⟩
  · obtain ⟨t1, ho⟩ := exo_at I.hok h
    obtain ⟨mA, hns, _⟩ := exd_at I.hok hd
    obtain ⟨od, hod, _⟩ := lookIn_ns hns
    exact ⟨_, some od, ho, rfl, rfl, hod⟩
/-- isinstance(x, c), x an exception that is held -/
def rIsx (K : PySem.W.Frag) : List V → Hp → VK → Prop := fun xs H Q => ∃ (a C : Addr) (d : Option Addr) (c : V) (u : Value) (b : Bool), xs = [.ref a, c] ∧ ClsV c u ∧ ExcC K C ∧ Held H a C d ∧ PySem.W.kitOne K (.ref C) u = some b ∧ Q (.bl b) H
theorem call_isx {X : Cx} : CallR X (.builtin "isinstance") (rIsx X.K) := fun pins s σ H xs us Q I r h => by
  obtain ⟨a, C, d, c, u, b, rfl, k, T, hh, e, q⟩ := h
  obtain ⟨ua, uc, rfl, ra, rc⟩ := vals2 r
  cases k.eq rc
  cases (show ua = Value.ref a from ra)
  obtain ⟨ox, od, J⟩ := hh.inst I
  obtain ⟨cd, hcd, _⟩ := PySem.W.any_some T.hd
  exact PySem.W.kia_one (PySem.W.kitx_exc (by rw [hcd]; rfl) T.hg T.hk T.hs T.ha T.hn T.ht T.hm) I.kIn J e (fun z => nomatch z) fun tk => ⟨.bl b, H, I.tok tk, rfl, q⟩
/-- C(e), C without an own __init__: the library's rule, its reading named -/
def tExc0 (C : Addr) (ta : TE) : TE := fun σ H Q => ta σ H fun _ H1 => ∀ a, H1 a = none → Q (.ref a) (upd H1 a (ExO (.ref C) a))
end Bk

namespace Bk
open PySem PySem.Spec PyProof.Rows L2 Evl
section
variable {K : PySem.W.Frag} {σ : L2.St} {H H' : Hp} {ta tb te : TE} {x y z v : V} {i j : Int}
theorem rv_mod (hj : 0 < j) : RV (rI (fun _ j => j ≠ 0) fun i j => .int (i.fmod j)) (.int i) (.int j) H (.int (i % j)) := fun H1 e Q q => ⟨i, j, rfl, rfl, by omega, by
  show Q (.int (i.fmod j)) H1
  rw [Int.fmod_eq_emod_of_nonneg i (by omega)]
  exact q H1 (Ex.refl H1)⟩
theorem rv_div {b : Nat} (hj : 0 < j) (h0 : 0 < b) (h9 : b ≤ 9000) (hb : j.natAbs < 2 ^ b) : RV (rI CDivW fun i j => .int (i / j)) (.int i) (.int j) H (.int (i / j)) := rv_I (wide_div hj hb h0 h9)
theorem rc_int : RC (fun xs H Q => (∃ i, xs = [.int i] ∧ Q (.int i) H) ∨ ∃ k, xs = [.bl k] ∧ Q (.int (if k then 1 else 0)) H) [.int i] H (.int i) := fun H1 _ Q q => .inl ⟨i, rfl, q H1 (Ex.refl H1)⟩
theorem rc_abs : RC (fun xs H Q => ∃ i, xs = [.int i] ∧ Q (.int (if i < 0 then -i else i)) H) [.int i] H (.int (if i < 0 then -i else i)) := fun H1 _ Q q => ⟨i, rfl, q H1 (Ex.refl H1)⟩
theorem ea_one (h : Ev te σ H x) : EvA (tCons te tNil) σ H [x] := ea_cons h ea_nil
theorem ea_two (h : Ev ta σ H x) (h2 : Ev tb σ H y) : EvA (tCons ta (tCons tb tNil)) σ H [x, y] := ea_cons h (ea_cons h2 ea_nil)
theorem ev_bits (h : Ev te σ H (.int i)) : Ev (tBits te) σ H (.int (Builtin.Int.intBits i : Nat)) := fun H1 e Q q => h H1 e _ fun H2 e2 => ⟨i, rfl, q H2 e2⟩
end
section
variable {K : PySem.W.Frag} {σ : L2.St} {H H' : Hp} {ta tb te : TE} {tr : TA} {D : Ends}
/-- return [list, a, b, ..] -/
theorem s_ret_lstL {xs vs : List V} (h : EvL te σ H xs) (hr : ∀ H1, Ex H H1 → EvA tr σ H1 vs) (hz : vs.length < 100000) (k : ∀ p H1 b, H p = none → Ex H H1 → H1 p = some (.lst xs) → H1 b = none → D.rt (.ref b) (upd H1 b (.lst (.ref p :: vs)))) : tRet (tLst (tCons te tr)) D σ H := by
  show te σ H _
  refine h H (Ex.refl H) _ fun p H1 hp e1 h1 => ?_
  show tr σ H1 _
  refine hr H1 e1 H1 (Ex.refl H1) _ fun H2 e2 => ?_
  exact ⟨sz_of (by rw [List.length_cons]; omega), fun b hb => k p H2 b hp (e1.trans e2) (e2 p _ h1) hb⟩
end
/-! ### rules whose readings name the written part, the part a letter -/
section
variable {X : Cx} {K : PySem.W.Frag}
theorem ixL (h : X.K = K) : IxR X (rIxL K) := h ▸ ix_list
theorem ixT (h : X.K = K) : IxR X (rIxT K) := h ▸ ix_tup
theorem slL (h : X.K = K) : SlR X (rSlL K) := h ▸ sl_list
theorem lenK (h : X.K = K) : CallR X (.builtin "len") (rLenS K) := h ▸ call_len_seq
theorem listK (h : X.K = K) : CallR X (.type "list") (rListS K) := h ▸ call_list_of
theorem isiK (h : X.K = K) : CallR X (.builtin "isinstance") (rIsi K) := h ▸ call_isi
theorem isiTK (h : X.K = K) : CallR X (.builtin "isinstance") (rIsiT K) := h ▸ call_isiT
theorem isxK (h : X.K = K) : CallR X (.builtin "isinstance") (rIsx K) := h ▸ call_isx
theorem eqK (hu : X.A.units + 64 < cLine) (h : X.K = K) : OpR X (compareOp .Eq) (rEqD K) := h ▸ op_eqD hu
theorem neK (hu : X.A.units + 64 < cLine) (h : X.K = K) : OpR X (compareOp .NotEq) (rNeD K) := h ▸ op_neD hu
theorem inK (h : X.K = K) : OpR X (compareOp .In) (rIn K false) := h ▸ op_in_seq
theorem ninK (h : X.K = K) : OpR X (compareOp .NotIn) (rIn K true) := h ▸ op_notIn_seq
theorem piL {tg l : Expr} {tl : TE} (h : X.K = K) (hl : PE X l tl) : PI X tg l (iList K tl) := h ▸ pi_list hl
theorem piT {tg l : Expr} {tl : TE} (h : X.K = K) (hl : PE X l tl) : PI X tg l (iTup K tl) := h ▸ pi_tup hl
theorem sumK (hc : X.calm = true) (h : X.K = K) : CallR X (.builtin "sum") (rSum K) := h ▸ cr_sum hc
theorem allK (hc : X.calm = true) (h : X.K = K) : CallR X (.builtin "all") (rAll K) := h ▸ cr_all hc
theorem anyK (hc : X.calm = true) (h : X.K = K) : CallR X (.builtin "any") (rAny K) := h ▸ cr_any hc
end
theorem cmul_l {i j : Int} (h1 : -(2 ^ 64) < i) (h2 : i < 2 ^ 64) : CMul i j := .inl ⟨h1, h2⟩
theorem cmul_r {i j : Int} (h1 : -(2 ^ 64) < j) (h2 : j < 2 ^ 64) : CMul i j := .inr ⟨h1, h2⟩
theorem cut63 {ns : List Int} (h : ns.length ≤ 63) : cutV (ns.map V.int) none (some 63) = ns.map V.int := by
  unfold cutV
  rw [HT.sIx_none, show HT.sIx (ns.map V.int).length (ns.map V.int).length (some 63) = min 63 (ns.map V.int).length from HT.sIx_nat _ _ 63]
  rw [List.length_map]
  rw [show min 63 ns.length = ns.length by omega]
  show ((ns.map V.int).drop 0).take (ns.length - 0) = _
  rw [List.drop_zero, Nat.sub_zero]
  exact List.take_of_length_le (by rw [List.length_map]; exact Nat.le_refl _)
end Bk

namespace K65
open PySem PySem.Spec PyProof.Rows L2 Evl Bk
def topS (i : Nat) : Stmt := PySem.Challenge.pw_broughtin_k65_errors_made.main.body.getD i (.Pass ⟨0, 0, 0, 0⟩)
structure Bn (mg : Str → Option Value) : Prop where
  bn_int : mg "int" = none
  bn_abs : mg "abs" = none
  bn_len : mg "len" = none
  bn_range : mg "range" = none
  bn_isinstance : mg "isinstance" = none
  bn_all : mg "all" = none
abbrev sLawBag : Stmt := topS 18
theorem scLawBag : FnScope ["script", "stir", "cell"] ["script"] (defScope sLawBag) := ⟨rfl, rfl, rfl, by decide +kernel, rfl, by decide +kernel, by decide +kernel⟩
/-- the bag at b: its numbers at c -/
def BagAt (H : Hp) (b : Addr) : Prop := ∃ (c : Addr) (ns : List Int) (x1 x2 x3 x4 : Int), H b = some (.lst [.ref c, .int x1, .int x2, .int x3, .int x4]) ∧ H c = some (.lst (ns.map V.int)) ∧ 0 ≤ x1 ∧ 0 ≤ x3 ∧ x3 < 2147483647
section
variable {P : Program} {w : World} {K : PySem.W.Frag} {mg : Str → Option Value} {base : Heap}
def spBag (K : PySem.W.Frag) : Sp := fun vs H Q _ => ∃ (a : Addr) (ns : List Int), vs = [.ref a] ∧ SqL K H a (ns.map V.int) ∧ ns.length ≤ 63 ∧ ∀ b H', H b = none → Ex H H' → BagAt H' b → Q (.ref b) H'
theorem ok_bag {f : Addr} {fd : FuncData} {k : Nat} (F : Fun K "_law_bag" "_law_bag" sLawBag f fd) (B : Bn mg) : FnOk P w K mg base CX0 (k + 1) f fd ["script"] (spBag K) := by
  refine F.ok scLawBag (fun vs H Q E h => ?_) (fun cdv A outer s H vs Q E hr h => ?_)
  · obtain ⟨a, ns, rfl, _⟩ := h
    rfl
  · obtain ⟨a, ns, rfl, hS, hlen, q⟩ := h
    refine ⟨_, (pss_cons (ps_set (i := 1) scLawBag.nd rfl (.inl rfl) pe_int)
      (pss_cons (ps_for PassesOwn.never rfl (pi_list (pe_slice sl_list (pv 0) po_none (po_some pe_int))) (pg_name (i := 2) scLawBag.nd rfl (.inl rfl)) (pss_one (ps_set (i := 1) scLawBag.nd rfl (.inl rfl) (pe_op op_modN (pe_callTy call_int1 (by rfl) B.bn_int (by decide +kernel) (pa_cons (pe_op op_add (pe_op op_add (pe_op op_mul (pv 1) pe_int) (pe_op op_modN (pe_callTy call_int1 (by rfl) B.bn_int (by decide +kernel) (pa_cons (pv 2) pa_nil)) pe_int)) pe_int) pa_nil)) pe_int))))
      (pss_one (ps_ret (pe_lst (pa_cons (pe_lc (own := [("cell", 2)]) (g := gName 2) rfl scLawBag.nd (pi_list (pe_slice sl_list (pv 0) po_none (po_some pe_int))) (blkOk_by (own := [("cell", 2)]) (N := ["script", "stir", "cell"]) (sc := defScope sLawBag) (by decide +kernel)) (fun _ _ _ _ _ => (pg_name (i := 2) scLawBag.nd rfl (.inl rfl))) (fun _ _ _ _ _ => pts_nil) (fun _ _ _ _ _ => (pe_op op_modN (pe_callTy call_int1 (by rfl) B.bn_int (by decide +kernel) (pa_cons (pe_callB call_abs (by rfl) B.bn_abs (by decide +kernel) (pa_cons (pv 2) pa_nil)) pa_nil)) (pe_op op_powW (pe_op op_powW pe_int pe_int) pe_int)))) (pa_cons pe_int (pa_cons pe_int (pa_cons (pv 1) (pa_cons pe_int pa_nil)))))))))), ?_⟩
    refine q_asg ev_c fun H1 e1 => ?_
    have hc := cut63 hlen
    have hS1 := ex_l e1 hS
    refine q_forNLn (xs := ns.map V.int) (hc ▸ el_sl (ev_var rfl) eo_none (eo_some ev_c) hS1)
      (fun p i σ' H' => H1 p = none ∧ ∃ st y, σ' = [some (.ref a), some (.int st), y] ∧ 0 ≤ st ∧ st < 2147483647 ∧ Ex H1 H' ∧ H' p = some (.lst (ns.map V.int)))
      (fun p H2 hp e2 h2 => ⟨hp, 167, none, rfl, by decide, by decide, e2, h2⟩) (fun p i σ' H' _ hv => ?_) (fun p i x σ' H' hx hv => ?_) (fun p σ' H' hv => ?_)
    · obtain ⟨_, st, y, rfl, _, _, _, h2⟩ := hv
      exact sq_of h2
    · obtain ⟨hp, st, y, rfl, l, u, e2, h2⟩ := hv
      obtain ⟨n, hn, rfl⟩ : ∃ n, ns[i]? = some n ∧ V.int n = x := by
        rw [List.getElem?_map] at hx
        exact Option.map_eq_some_iff.mp hx
      refine s_asg (ev_op (ev_cb (ea_one (ev_op (ev_op (ev_op (ev_var rfl) ev_c (rv_I (cmul_r (by decide) (by decide)))) (ev_op (ev_cb (ea_one (ev_var rfl)) rc_int) ev_c (rv_mod (by decide))) rv_I0) ev_c rv_I0)) rc_int) ev_c (rv_mod (by decide))) fun H3 e3 => ?_
      exact ⟨hp, _, _, rfl, Int.emod_nonneg _ (by decide), Int.emod_lt_of_pos _ (by decide), e2.trans e3, e3 p _ h2⟩
    · obtain ⟨hp, st, y, rfl, l, u, e2, h2⟩ := hv
      have hS2 := ex_l e2 hS1
      have el := el_lcNL (σ := [some (.ref a), some (.int st), y]) (H := H') (K := K) (j := 2) (vs := [2]) (t := tYes) (xs := ns.map V.int) (tl := tSl (rSlL K) (tVar 0) tNoPart (tPart (tC (.int 63)))) (te := tOp (rI (fun _ j => j ≠ 0) fun i j => .int (i.fmod j))
          (tCB (fun xs H Q => (∃ i, xs = [.int i] ∧ Q (.int i) H) ∨ ∃ k, xs = [.bl k] ∧ Q (.int (if k then 1 else 0)) H) (tCons (tCB (fun xs H Q => ∃ i, xs = [.int i] ∧ Q (.int (if i < 0 then -i else i)) H) (tCons (tVar 2) tNil)) tNil)) (tOp (rI CPowW fun i j => .int (i ^ j.toNat)) (tOp (rI CPowW fun i j => .int (i ^ j.toNat)) (tC (.int 10)) (tC (.int 60))) (tC (.int 10))))
        (fun _ => true) (fun i => .int ((if (ns.getD i 0) < 0 then -(ns.getD i 0) else ns.getD i 0) % (((10 : Int) ^ 60) ^ 10))) (hc ▸ el_sl (ev_var rfl) eo_none (eo_some ev_c) hS2) (by rw [List.length_map]; omega) (fun x => rfl)
        (fun i x H3 e3 hx => fun H4 e4 Q q => q H4 (Ex.refl H4)) (fun i x H3 e3 hx _ => ?_)
      · refine s_ret_lstL (vs := [.int 0, .int 0, .int st, .int 0]) el (fun H3 e3 => ea_cons ev_c (ea_cons ev_c (ea_cons (ev_var rfl) (ea_one ev_c)))) (show 4 < 100000 by decide) fun p2 H3 b hp2 e3 h3 hb => ?_
        refine q b _ (fresh_back ((e1.trans e2).trans e3) hb) (((e1.trans e2).trans e3).trans (Ex.new hb)) ⟨p2, (List.range (ns.map V.int).length).map (fun i => (if (ns.getD i 0) < 0 then -(ns.getD i 0) else ns.getD i 0) % (((10 : Int) ^ 60) ^ 10)), 0, 0, st, 0, upd_same, ?_, by decide, l, u⟩
        rw [upd_ne (ne_of_none h3 hb), h3]
        unfold given
        rw [List.filter_eq_self.mpr (fun _ _ => rfl), List.map_map]
        rfl
      · obtain ⟨n, hn, rfl⟩ : ∃ n, ns[i]? = some n ∧ V.int n = x := by
          rw [List.getElem?_map] at hx
          exact Option.map_eq_some_iff.mp hx
        have hd : ns.getD i 0 = n := by
          rw [List.getD_eq_getElem?_getD, hn]
          rfl
        rw [hd]
        exact ev_op (ev_cb (ea_one (ev_cb (ea_one (ev_var rfl)) rc_abs)) rc_int) (ev_op (ev_op ev_c ev_c (rv_I (pow_ok (a := 4) (by decide) (by decide) (by decide) (by decide)))) ev_c (rv_I (pow_ok (a := 200) (by decide) (by decide) (by decide) (by decide)))) (rv_mod (by decide))
end
end K65

namespace K65
open PySem PySem.Spec PyProof.Rows L2 Evl Bk
/-- all but b is kept -/
def Mo (b : Addr) (H H' : Hp) : Prop := ∀ a o, a ≠ b → H a = some o → H' a = some o
theorem Mo.refl (b : Addr) (H : Hp) : Mo b H H := fun _ _ _ h => h
theorem Mo.trans {b : Addr} {H H1 H2 : Hp} (x : Mo b H H1) (y : Mo b H1 H2) : Mo b H H2 := fun a o n h => y a o n (x a o n h)
theorem Mo.ex {b : Addr} {H H' : Hp} (x : Ex H H') : Mo b H H' := fun a o _ h => x a o h
theorem Mo.upd {b : Addr} {H : Hp} {u : HO} : Mo b H (upd H b u) := fun a o n h => by
  rw [upd_ne n]
  exact h
/-- the bag's list -/
abbrev bagL (c : Addr) (x1 x2 x3 x4 : Int) : List V := [.ref c, .int x1, .int x2, .int x3, .int x4]
theorem bag_ne {H : Hp} {b c : Addr} {x1 x2 x3 x4 : Int} {ns : List Int} (hb : H b = some (.lst (bagL c x1 x2 x3 x4))) (hc : H c = some (.lst (ns.map V.int))) : c ≠ b := fun e => by
  subst e
  rw [hb] at hc
  have z := HO.lst.inj (Option.some.inj hc)
  cases ns with
  | nil => cases z
  | cons n r =>
    have z2 : V.ref c = V.int n := (List.cons.inj z).1
    cases z2
abbrev sLawStirred : Stmt := topS 19
theorem scLawStirred : FnScope ["bag", "wide", "found", "k", "mixed"] ["bag", "wide"] (defScope sLawStirred) := ⟨rfl, rfl, rfl, by decide +kernel, rfl, by decide +kernel, by decide +kernel⟩
abbrev sLawDraw : Stmt := topS 20
theorem scLawDraw : FnScope ["bag", "wide", "found"] ["bag", "wide"] (defScope sLawDraw) := ⟨rfl, rfl, rfl, by decide +kernel, rfl, by decide +kernel, by decide +kernel⟩
def spDraw : Sp := fun vs H Q _ => ∃ (b : Addr) (wide : Int), vs = [.ref b, .int wide] ∧ 0 < wide ∧ wide < 2 ^ 100 ∧ BagAt H b ∧ ∀ H' r, Mo b H H' → BagAt H' b → 0 ≤ r → r < wide → Q (.int r) H'
section
variable {P : Program} {w : World} {K : PySem.W.Frag} {mg : Str → Option Value} {base : Heap}
theorem ok_stirred {f : Addr} {fd : FuncData} (F : Fun K "_law_stirred" "_law_stirred" sLawStirred f fd) (B : Bn mg) : FnOk P w K mg base CX0 1 f fd ["bag", "wide"] spDraw := by
  refine F.ok scLawStirred (fun vs H Q E h => ?_) (fun cdv A outer s H vs Q E hr h => ?_)
  · obtain ⟨b, wide, rfl, _⟩ := h
    rfl
  · obtain ⟨b, wide, rfl, w0, w1, ⟨c, ns, x1, x2, x3, x4, hb, hc, p1, p3, p4⟩, q⟩ := h
    have ncb := bag_ne hb hc
    refine ⟨_, (pss_cons (ps_set (i := 2) scLawStirred.nd rfl (.inl rfl) pe_int)
      (pss_cons (ps_for PassesOwn.never rfl (pi_range1 (by rfl) B.bn_range (pa_cons (pe_op op_add pe_int (pe_op op_fdivW (pe_bits (pv 1)) pe_int)) pa_nil)) (pg_name (i := 3) scLawStirred.nd rfl (.inl rfl)) (pss_cons (ps_asg (pe_op op_add (pe_ix ix_list (pv 0) pe_int (fun _ _ => rfl)) pe_int) (pg_sub (pv 0) pe_int set_list))
      (pss_cons (ps_set (i := 4) scLawStirred.nd rfl (.inl rfl) (pe_op op_add (pe_op op_add (pe_op op_add (pe_op op_powW (pe_ix ix_list (pv 0) pe_int (fun _ _ => rfl)) pe_int) (pe_op op_mul pe_int (pe_ix ix_list (pv 0) pe_int (fun _ _ => rfl)))) (pe_op op_mul pe_int (pe_ix ix_list (pv 0) pe_int (fun _ _ => rfl)))) pe_int))
      (pss_cons (ps_asg (pe_op op_modN (pe_callTy call_int1 (by rfl) B.bn_int (by decide +kernel) (pa_cons (pv 4) pa_nil)) pe_int) (pg_sub (pv 0) pe_int set_list))
      (pss_one (ps_set (i := 2) scLawStirred.nd rfl (.inl rfl) (pe_op op_add (pe_op op_mul (pv 2) pe_int) (pe_op op_fdivW (pe_ix ix_list (pv 0) pe_int (fun _ _ => rfl)) pe_int))))))))
      (pss_one (ps_ret (pe_op op_modN (pe_callTy call_int1 (by rfl) B.bn_int (by decide +kernel) (pa_cons (pv 2) pa_nil)) (pv 1)))))), ?_⟩
    refine q_asg ev_c fun H1 e1 => ?_
    have hbits : Builtin.Int.intBits wide ≤ 100 := PyProof.Rows.intBits_le (show wide.natAbs < 2 ^ 100 by omega)
    refine q_forR1 (n := 1 + ((Builtin.Int.intBits wide : Nat) : Int) / 27) (ea_one (ev_op ev_c (ev_op (ev_bits (ev_var rfl)) ev_c (rv_div (b := 5) (by decide) (by decide) (by decide) (by decide))) rv_I0)) (by omega)
      (fun i σ' H' => ∃ fo y3 y4 z3 z4, σ' = [some (.ref b), some (.int wide), some (.int fo), y3, y4] ∧ Mo b H H' ∧ H' b = some (.lst (bagL c x1 x2 z3 z4)) ∧ 0 ≤ z3 ∧ z3 < 2147483647)
      (fun H2 e2 => ⟨0, none, none, x3, x4, rfl, Mo.ex (e1.trans e2), (e1.trans e2) b _ hb, p3, p4⟩) (fun i σ' H' hi hv => ?_) (fun σ' H' hv => ?_)
    · obtain ⟨fo, y3, y4, z3, z4, rfl, mo, hb', l3, u3⟩ := hv
      have ix3 : ∀ {H2 : Hp} {σ : L2.St} {j : Nat} {v : V}, H2 b = some (.lst (bagL c x1 x2 z3 z4)) → σ[0]? = some (some (.ref b)) → (bagL c x1 x2 z3 z4)[j]? = some v → Ev (tOp (rIxL K) (tVar 0) (tC (.int (j : Int)))) σ H2 v := fun h hσ hj => ev_op (ev_var hσ) ev_c (rv_ixL (sq_of h) (atI_nat hj))
      refine q_setL (j := 4) hb' (ev_op (ev_op (ev_var rfl) ev_c (rv_ixL (sq_of hb') (atI_nat (j := 4) rfl))) ev_c rv_I0) (ev_var rfl) ev_c (show 4 < 5 by decide) fun H2 e2 => ?_
      have hb2 : (upd H2 b (.lst (bagL c x1 x2 z3 (z4 + 1)))) b = some (.lst (bagL c x1 x2 z3 (z4 + 1))) := upd_same
      have mo2 : Mo b H (upd H2 b (.lst (bagL c x1 x2 z3 (z4 + 1)))) := (mo.trans (Mo.ex e2)).trans Mo.upd
      show tSeq _ _ _ _ (upd H2 b (.lst (bagL c x1 x2 z3 (z4 + 1))))
      generalize upd H2 b (.lst (bagL c x1 x2 z3 (z4 + 1))) = G2 at hb2 mo2
      refine q_asg (ev_op (ev_op (ev_op (ev_op (ev_op (ev_var rfl) ev_c (rv_ixL (sq_of hb2) (atI_nat (j := 3) rfl))) ev_c (rv_I (pow_ok (a := 31) (by omega) (by decide) (by decide) (by decide))))
        (ev_op ev_c (ev_op (ev_var rfl) ev_c (rv_ixL (sq_of hb2) (atI_nat (j := 3) rfl))) (rv_I (cmul_l (by decide) (by decide)))) rv_I0) (ev_op ev_c (ev_op (ev_var rfl) ev_c (rv_ixL (sq_of hb2) (atI_nat (j := 4) rfl))) (rv_I (cmul_l (by decide) (by decide)))) rv_I0) ev_c rv_I0) fun H3 e3 => ?_
      refine q_setL (j := 3) (e3 b _ hb2) (ev_op (ev_cb (ea_one (ev_var rfl)) rc_int) ev_c (rv_mod (by decide))) (ev_var rfl) ev_c (show 3 < 5 by decide) fun H4 e4 => ?_
      generalize hm : (z3 ^ (3 : Int).toNat + 69621 * z3 + 1031 * (z4 + 1) + 1) % 2147483647 = m
      have m0 : 0 ≤ m := by rw [← hm]; exact Int.emod_nonneg _ (by decide)
      have m1 : m < 2147483647 := by rw [← hm]; exact Int.emod_lt_of_pos _ (by decide)
      have hb4 : (upd H4 b (.lst (bagL c x1 x2 m (z4 + 1)))) b = some (.lst (bagL c x1 x2 m (z4 + 1))) := upd_same
      have mo4 : Mo b H (upd H4 b (.lst (bagL c x1 x2 m (z4 + 1)))) := ((mo2.trans (Mo.ex e3)).trans (Mo.ex e4)).trans Mo.upd
      show tAsg _ _ _ _ (upd H4 b (.lst (bagL c x1 x2 m (z4 + 1))))
      refine s_asg (ev_op (ev_op (ev_var rfl) ev_c (rv_I (cmul_r (by decide) (by decide)))) (ev_op (ev_op (ev_var rfl) ev_c (rv_ixL (sq_of hb4) (atI_nat (j := 3) rfl))) ev_c (rv_div (b := 5) (by decide) (by decide) (by decide) (by decide))) rv_I0) fun H5 e5 => ?_
      exact ⟨_, _, _, m, z4 + 1, rfl, mo4.trans (Mo.ex e5), e5 b _ hb4, m0, m1⟩
    · obtain ⟨fo, y3, y4, z3, z4, rfl, mo, hb', l3, u3⟩ := hv
      refine s_ret (ev_op (ev_cb (ea_one (ev_var rfl)) rc_int) (ev_var rfl) (rv_mod w0)) fun H2 e2 => ?_
      exact q H2 _ (mo.trans (Mo.ex e2)) ⟨c, ns, x1, x2, z3, z4, e2 b _ hb', (mo.trans (Mo.ex e2)) c _ ncb hc, p1, l3, u3⟩ (Int.emod_nonneg _ (by omega)) (Int.emod_lt_of_pos _ w0)
theorem ok_draw {f : Addr} {fd : FuncData} (F : Fun K "_law_draw" "_law_draw" sLawDraw f fd) (B : Bn mg) (C__law_stirred : Cal P w K mg base 1 "_law_stirred" ["bag", "wide"] spDraw) : FnOk P w K mg base CX0 2 f fd ["bag", "wide"] spDraw := by
  refine F.ok scLawDraw (fun vs H Q E h => ?_) (fun cdv A outer s H vs Q E hr h => ?_)
  · obtain ⟨b, wide, rfl, _⟩ := h
    rfl
  · obtain ⟨b, wide, rfl, w0, w1, ⟨c, ns, x1, x2, x3, x4, hb, hc, p1, p3, p4⟩, q⟩ := h
    have ncb := bag_ne hb hc
    refine ⟨_, (pss_cut (ps_if (PW.pt (pw_and (pt_cmpR op_eq (pe_ix ix_list (pv 0) pe_int (fun _ _ => rfl)) pe_int (nomark _)) (pw_and1 (pt_cmpR op_lt (pe_ix ix_list (pv 0) pe_int (fun _ _ => rfl)) (pe_callB call_len_seq (by rfl) B.bn_len (by decide +kernel) (pa_cons (pe_ix ix_list (pv 0) pe_int (fun _ _ => rfl)) pa_nil)) (nomark _))))) (pss_cons (ps_asg (pe_ix ix_list (pe_ix ix_list (pv 0) pe_int (fun _ _ => rfl)) (pe_ix ix_list (pv 0) pe_int (fun _ _ => rfl)) (fun _ _ => rfl)) (pg_sub (pv 0) pe_int set_list))
      (pss_one (ps_asg (pe_op op_add (pe_ix ix_list (pv 0) pe_int (fun _ _ => rfl)) pe_int) (pg_sub (pv 0) pe_int set_list)))) (pss_one (ps_if (pt_cmpR op_eq (pe_ix ix_list (pv 0) pe_int (fun _ _ => rfl)) pe_int (nomark _)) (pss_one (ps_ret (pe_cal C__law_stirred (hr.mono (by decide)) (by rfl) (pa_cons (pv 0) (pa_cons (pv 1) pa_nil))))) pss_nil)))
      (pss_cons (ps_set (i := 2) scLawDraw.nd rfl (.inl rfl) (pe_op op_modN (pe_callTy call_int1 (by rfl) B.bn_int (by decide +kernel) (pa_cons (pe_ix ix_list (pv 0) pe_int (fun _ _ => rfl)) pa_nil)) (pv 1)))
      (pss_cons (ps_asg (pe_op op_fdivW (pe_ix ix_list (pv 0) pe_int (fun _ _ => rfl)) (pv 1)) (pg_sub (pv 0) pe_int set_list))
      (pss_one (ps_ret (pv 2)))))), ?_⟩
    have ixb : ∀ {H2 : Hp} {y1 y2 : Int} {σ : L2.St} (j : Nat) {v : V}, H2 b = some (.lst (bagL c y1 y2 x3 x4)) → σ[0]? = some (some (.ref b)) → (bagL c y1 y2 x3 x4)[j]? = some v → Ev (tOp (rIxL K) (tVar 0) (tC (.int (j : Int)))) σ H2 v :=
      fun j v h hσ hj => ev_op (ev_var hσ) ev_c (rv_ixL (sq_of h) (atI_nat hj))
    refine q_cut (M := fun σ' H' => ∃ y1 y2, σ' = [some (.ref b), some (.int wide), none] ∧ Mo b H H' ∧ H' b = some (.lst (bagL c y1 y2 x3 x4)) ∧ 0 ≤ y1) ?_ (fun σ' H' hv => ?_)
    · refine s_if (et_and (et_test (ev_op (ixb 2 hb rfl rfl) ev_c (rv_eq rfl))) fun _ => et_test (ev_op (ixb 1 hb rfl rfl) (ev_len (ixb 0 hb rfl rfl) (sq_of hc)) rv_I0)) (fun hy H1 e1 => ?_) (fun _ H1 e1 => ?_)
      · have hy2 : x1 < ((ns.map V.int).length : Int) := by
          have z := (Bool.and_eq_true_iff.mp hy).2
          exact of_decide_eq_true z
        rw [List.length_map] at hy2
        have hlt : x1.toNat < ns.length := by omega
        have hcV : (ns.map V.int)[x1.toNat]? = some (.int ns[x1.toNat]) := by
          rw [List.getElem?_map, List.getElem?_eq_getElem hlt]
          rfl
        have hat : atI (ns.map V.int) x1 = some (.int ns[x1.toNat]) := at_of (show x1 = (x1.toNat : Int) by omega) hcV
        have hb1 := e1 b _ hb
        refine q_setL (j := 2) hb1 (ev_op (ixb 0 hb1 rfl rfl) (ixb 1 hb1 rfl rfl) (rv_ixL (sq_of (e1 c _ hc)) hat)) (ev_var rfl) ev_c (show 2 < 5 by decide) fun H2 e2 => ?_
        have hb2 : (upd H2 b (.lst (bagL c x1 ns[x1.toNat] x3 x4))) b = some (.lst (bagL c x1 ns[x1.toNat] x3 x4)) := upd_same
        have mo2 : Mo b H (upd H2 b (.lst (bagL c x1 ns[x1.toNat] x3 x4))) := (Mo.ex (e1.trans e2)).trans Mo.upd
        show tAsg _ _ _ _ (upd H2 b (.lst (bagL c x1 ns[x1.toNat] x3 x4)))
        generalize upd H2 b (.lst (bagL c x1 ns[x1.toNat] x3 x4)) = G2 at hb2 mo2
        refine s_setL (j := 1) hb2 (ev_op (ixb 1 hb2 rfl rfl) ev_c rv_I0) (ev_var rfl) ev_c (show 1 < 5 by decide) fun H3 e3 => ?_
        exact ⟨x1 + 1, ns[x1.toNat], rfl, (mo2.trans (Mo.ex e3)).trans Mo.upd, upd_same, by omega⟩
      · have hb1 := e1 b _ hb
        refine s_when (et_test (ev_op (ixb 2 hb1 rfl rfl) ev_c (rv_eq rfl))) (fun _ H2 e2 => ?_) (fun _ H2 e2 => ⟨x1, x2, rfl, Mo.ex (e1.trans e2), e2 b _ hb1, p1⟩)
        refine ⟨_, rfl, _, rfl, b, wide, rfl, w0, w1, ⟨c, ns, x1, x2, x3, x4, e2 b _ hb1, (e1.trans e2) c _ hc, p1, p3, p4⟩, fun H3 r mo hB r0 r1 => ?_⟩
        exact q H3 r ((Mo.ex (e1.trans e2)).trans mo) hB r0 r1
    · obtain ⟨y1, y2, rfl, mo, hb', l1⟩ := hv
      refine q_asg (ev_op (ev_cb (ea_one (ixb 2 hb' rfl rfl)) rc_int) (ev_var rfl) (rv_mod w0)) fun H1 e1 => ?_
      have hb1 := e1 b _ hb'
      refine q_setL (j := 2) hb1 (ev_op (ixb 2 hb1 rfl rfl) (ev_var rfl) (rv_div (b := 100) w0 (by decide) (by decide) (by omega))) (ev_var rfl) ev_c (show 2 < 5 by decide) fun H2 e2 => ?_
      refine s_ret (ev_var rfl) fun H3 e3 => ?_
      have mo3 := (((mo.trans (Mo.ex e1)).trans (Mo.ex e2)).trans (Mo.upd (u := .lst ((bagL c y1 y2 x3 x4).set 2 (.int (y2 / wide)))))).trans (Mo.ex e3)
      exact q H3 _ mo3 ⟨c, ns, y1, y2 / wide, x3, x4, e3 b _ upd_same, mo3 c _ ncb hc, l1, p3, p4⟩ (Int.emod_nonneg _ (by omega)) (Int.emod_lt_of_pos _ w0)
end
end K65

namespace Bk
open PySem PySem.Spec PyProof.Rows L2 Evl
def rMulS : R2 := fun x y H Q => ∃ (s : Str) (i : Int), x = .str s ∧ y = .int i ∧ s.length ≤ 16 ∧ (-(2 ^ 63 : Int) ≤ i ∧ i ≤ 1048576) ∧ Q (.str (Txt.mul s i)) H
theorem op_mulS {X : Cx} : OpR X (binaryOp .Mult) rMulS := by
  intro pins s σ H x y v u Q I rx ry h
  obtain ⟨z, i, rfl, rfl, hl, hi, q⟩ := h
  obtain ⟨t, rfl⟩ := rx
  obtain ⟨t2, rfl⟩ := ry
  exact PySem.W.KXi.mul (n := z.length) rfl hl hi.1 (by have := hi.2; omega) fun t' k _ _ => ⟨.str _, H, I.tok _, ⟨t', rfl⟩, q⟩
/-- a built-in type's name as a value -/
theorem pe_bt {X : Cx} {x : Str} {pos : Pos} (T : String) (hm : X.mg x = none) (hg : Gl X x := by rfl) (hv : bootBuiltins x = some (.type T) := by decide +kernel) (hn : x ≠ "__name__" := by decide) (hd : (x == ("__debug__" : Str)) = false := by decide) : PE X (.Name x pos) (tC (.ty T)) :=
  pe_bltn hg hm hv rfl hn hd
/-! ### an own exception class as the top has written it -/
def mroL (C B : Addr) : List Value := [.ref C, .ref B, .type "ValueError", .type "Exception", .type "BaseException", .type "object"]
structure XT (K : PySem.W.Frag) (mg : Str → Option Value) (x : Str) (C : Addr) (l : List Value) : Prop where
  g : mg x = some (.ref C)
  hd : ∃ r, l = .ref C :: r
  mro : ∀ v, PySem.W.mroIn K C v = some (l.contains v)
  cl : (PySem.W.clsIn K C).isSome = true
  t : PySem.W.typeIn K (.ref C) = some (.type "type")
  kp : PySem.W.keepIn K (.ref C) = true
  E : ExcC K C
theorem xt_mk {K : PySem.W.Frag} {mg : Str → Option Value} {x : Str} {C : Addr} {l : List Value} {cd : ClassData} (hl : ∃ r, l = .ref C :: r) (hb : l.contains (.type "BaseException") = true) (ho : l.contains (.type "object") = true) (g : mg x = some (.ref C)) (c : PySem.W.clsIn K C = some cd) (m : cd.mro = l) (t : PySem.W.typeIn K (.ref C) = some (.type "type"))
    (kp : PySem.W.keepIn K (.ref C) = true) (hg : PySem.W.findIn K (.ref C) "__getattribute__" = some (some (.builtin "BaseException.__getattribute__"))) (hk : PySem.W.findIn K (.ref C) "__getattr__" = some none) (hd : PySem.W.hasDictIn K C = true)
    (ha : PySem.W.findIn K (.ref C) "__class__" = some (some (.builtin "object.__class__"))) (hn : PySem.W.specialIn K (.builtin "object.__class__") "__get__" = some (some (.builtin "getset_descriptor.__get__"))) (ht : PySem.W.takesIn K (.builtin "object.__class__") = some true) : XT K mg x C l := by
  have mr : ∀ v, PySem.W.mroIn K C v = some (l.contains v) := fun v => by
    obtain ⟨r, rfl⟩ := hl
    unfold PySem.W.mroIn
    rw [c, Option.bind_some, m]
    rfl
  refine ⟨g, hl, mr, by rw [c]; rfl, t, kp, hg, hk, ?_, hd, ha, hn, ht, ?_⟩
  · show PySem.W.mroIn K C (.type "BaseException") = some true
    rw [mr, hb]
  · rw [mr, ho]
theorem xt_kit {K : PySem.W.Frag} {mg : Str → Option Value} {x y : Str} {C D : Addr} {l r : List Value} (T : XT K mg x C l) (U : XT K mg y D r) : PySem.W.kitOne K (.ref C) (.ref D) = some (l.contains (.ref D)) := by
  unfold PySem.W.kitOne
  by_cases e : (Value.ref C == Value.ref D) = true
  · rw [if_pos e]
    obtain ⟨z, rfl⟩ := T.hd
    have e2 := eq_of_beq e
    rw [e2, List.contains_cons, beq_self_eq_true, Bool.true_or]
  · rw [if_neg e]
    unfold PySem.W.kitCls
    have h : ((PySem.W.clsIn K D).isSome && PySem.W.typeIn K (.ref D) == some (.type "type")) = true := by rw [U.cl, U.t]; rfl
    show (if ((PySem.W.clsIn K D).isSome && PySem.W.typeIn K (.ref D) == some (.type "type")) = true then PySem.W.subIn K (.ref C) (.ref D) else none) = _
    rw [if_pos h]
    exact T.mro _
theorem xt_kitT {K : PySem.W.Frag} {mg : Str → Option Value} {x : Str} {C : Addr} {l : List Value} {t : String} (T : XT K mg x C l) (h : PySem.W.kitMeta t = true) : PySem.W.kitOne K (.ref C) (.type t) = some (l.contains (.type t)) := by
  unfold PySem.W.kitOne
  rw [if_neg (fun z => by cases eq_of_beq z)]
  show (if PySem.W.kitMeta t = true then PySem.W.subIn K (.ref C) (.type t) else none) = _
  rw [if_pos h]
  exact T.mro _
section
variable {K : PySem.W.Frag} {σ : L2.St} {H H' : Hp} {ta tb te : TE} {tr : TA} {D : Ends}
theorem ev_isx {a C : Addr} {d : Option Addr} {c : V} {u : Value} {b : Bool} (h : EvA tr σ H [.ref a, c]) (k : ClsV c u) (T : ExcC K C) (hh : Held H a C d) (e : PySem.W.kitOne K (.ref C) u = some b) : Ev (tCB (rIsx K) tr) σ H (.bl b) :=
  ev_cb h fun H1 e1 Q q => ⟨a, C, d, c, u, b, rfl, k, T, hh.mono e1, e, q H1 (Ex.refl H1)⟩
/-- f(a new list) -/
theorem ev_cbL {r : List V → Hp → VK → Prop} {xs : List V} {z : V} (h : EvL te σ H xs) (hr : ∀ a H1, H1 a = some (.lst xs) → Ex H H1 → ∀ Q : VK, Q z H1 → r [.ref a] H1 Q) : Ev (tCB r (tCons te tNil)) σ H z := fun H1 e Q q =>
  h H1 e _ fun a H2 _ e2 ha => hr a H2 ha (e.trans e2) Q (q H2 e2)
/-- xs + [..], the first one held -/
theorem el_cat {p : Addr} {xs ys : List V} (ha : Ev ta σ H (.ref p)) (hp : H p = some (.lst xs)) (hb : EvL tb σ H ys) (hz : xs.length + ys.length ≤ 100000) : EvL (tOp rCat ta tb) σ H (xs ++ ys) := fun H1 e Q q =>
  ha H1 e _ fun H2 e2 => hb H2 (e.trans e2) _ fun l H3 _ e3 hl => ⟨p, l, xs, ys, rfl, rfl, e3 _ _ (e2 _ _ (e _ _ hp)), hl, sz_of hz, fun z hz' => q z _ (fresh_back (e2.trans e3) hz') ((e2.trans e3).trans (Ex.new hz')) upd_same⟩
end
end Bk
namespace K65
open PySem PySem.Spec PyProof.Rows L2 Evl Bk
def nmS : List Str := ["InvalidClub", "InvalidDay", "InvalidDraws", "InvalidGroup", "InvalidIndex", "InvalidLinks", "InvalidMember", "InvalidName", "InvalidNumber", "InvalidSheet", "InvalidWay", "NoLink", "NothingToUndo", "Impossible", "InvalidText", "ClubError"]
def nm (i : Nat) : Str := nmS.getD i ""
def mroOf (A : Nat → Addr) (i : Nat) : List Value := if i = 15 then [.ref (A 15), .type "ValueError", .type "Exception", .type "BaseException", .type "object"] else mroL (A i) (A 15)
abbrev sImp : Stmt := inClass (topS 15) 0
abbrev sTxt : Stmt := inClass (topS 16) 0
/-- what the top has written of the sixteen classes -/
structure Txt16 (K : PySem.W.Frag) (mg : Str → Option Value) (A : Nat → Addr) : Prop where
  inj : ∀ i j, i < 16 → j < 16 → A i = A j → i = j
  cls : ∀ i, i < 16 → XT K mg (nm i) (A i) (mroOf A i)
  exc : ∀ i, i < 16 → i ≠ 13 → i ≠ 14 → PySem.W.excIn K (A i) [.type "ValueError", .type "Exception", .type "BaseException", .type "object"] "ValueError.__new__" = true
  fld : ∀ i, i < 16 → ∀ x ∈ (["word", "number", "place"] : List Str), PySem.W.findIn K (.ref (A i)) x = some none
  o13 : OexC K (A 13)
  o14 : OexC K (A 14)
  x13 : XfC K (A 13)
  x14 : XfC K (A 14)
theorem isB {A : Nat → Addr} {K : PySem.W.Frag} {mg : Str → Option Value} (T : Txt16 K mg A) {i j : Nat} (hi : i < 16) (hj : j < 15) : PySem.W.kitOne K (.ref (A i)) (.ref (A j)) = some (decide (j = i)) := by
  rw [xt_kit (T.cls i hi) (T.cls j (by omega))]
  have n15 : (Value.ref (A j) == Value.ref (A 15)) = false := beq_eq_false_iff_ne.mpr fun z => by
    have := T.inj j 15 (by omega) (by decide) (Value.ref.inj z)
    omega
  have tl : ([.ref (A 15), .type "ValueError", .type "Exception", .type "BaseException", .type "object"] : List Value).contains (.ref (A j)) = false := by
    rw [List.contains_cons, n15]
    rfl
  unfold mroOf
  by_cases h15 : i = 15
  · rw [if_pos h15, tl, decide_eq_false (by omega)]
  · rw [if_neg h15]
    unfold mroL
    rw [List.contains_cons, tl, Bool.or_false]
    by_cases e : j = i
    · subst e
      rw [beq_self_eq_true, decide_eq_true rfl]
    · rw [decide_eq_false e]
      exact congrArg some (beq_eq_false_iff_ne.mpr fun z => e (T.inj j i (by omega) hi (Value.ref.inj z)))
theorem isBase {A : Nat → Addr} {K : PySem.W.Frag} {mg : Str → Option Value} (T : Txt16 K mg A) {i : Nat} (hi : i < 16) : PySem.W.kitOne K (.ref (A i)) (.ref (A 15)) = some true := by
  rw [xt_kit (T.cls i hi) (T.cls 15 (by decide))]
  unfold mroOf
  by_cases h15 : i = 15
  · rw [if_pos h15, List.contains_cons, beq_self_eq_true, Bool.true_or]
  · rw [if_neg h15]
    unfold mroL
    rw [List.contains_cons, List.contains_cons, beq_self_eq_true, Bool.true_or, Bool.or_true]
theorem isVE {A : Nat → Addr} {K : PySem.W.Frag} {mg : Str → Option Value} (T : Txt16 K mg A) {i : Nat} (hi : i < 16) : PySem.W.kitOne K (.ref (A i)) (.type "ValueError") = some true := by
  rw [xt_kitT (T.cls i hi) (by decide +kernel)]
  unfold mroOf
  by_cases h15 : i = 15
  · rw [if_pos h15]
    rfl
  · rw [if_neg h15]
    rfl
section
variable {P : Program} {w : World} {K : PySem.W.Frag} {mg : Str → Option Value} {base : Heap} {A : Nat → Addr}
theorem glc {X : Cx} {x : Str} {pos : Pos} (T : Txt16 X.K X.mg A) (i : Nat) (hi : i < 16) (hx : x = nm i := by rfl) (hg : Gl X x := by rfl) (hd : (x == ("__debug__" : Str)) = false := by decide) : PE X (.Name x pos) (tC (.ref (A i))) := by
  subst hx
  exact pe_glob hg (T.cls i hi).g rfl hd
theorem exc0 {X : Cx} {x : Str} {e : Expr} {ta : TE} {p pos : Pos} (T : Txt16 X.K X.mg A) (i : Nat) (hi : i < 16 ∧ i ≠ 13 ∧ i ≠ 14) (he : PE X e ta) (hx : x = nm i := by rfl) (hg : Gl X x := by rfl) (hd : (x == ("__debug__" : Str)) = false := by decide) (hs : starEach [e] X.env = (false, eval e X.env) :: starEach [] X.env := by rfl) :
    PE X (.Call (.Name x p) [e] [] pos) (tExc0 (A i) ta) := by
  subst hx
  exact pe_exc1 PySem.F.excBase_ValueError (T.exc i hi.1 hi.2.1 hi.2.2) (T.cls i hi.1).g (T.cls i hi.1).kp hg he hs hd
/-! ### the two with an __init__ -/
theorem scImp : FnScope ["self", "word", "number"] ["self", "word", "number"] (defScope sImp) := ⟨rfl, rfl, rfl, by decide +kernel, rfl, by decide +kernel, by decide +kernel⟩
theorem scTxt : FnScope ["self", "place"] ["self", "place"] (defScope sTxt) := ⟨rfl, rfl, rfl, by decide +kernel, rfl, by decide +kernel, by decide +kernel⟩
def spImp (K : PySem.W.Frag) (A : Nat → Addr) : Sp := fun vs H Q _ => ∃ (a : Addr) (x y : V), vs = [.ref a, x, y] ∧ H a = some (exo a (A 13) none) ∧ ∀ d H', H d = none → d ≠ a → Mo a H H' → H' a = some (exo a (A 13) (some d)) → H' d = some (exd d [("number", y), ("word", x)]) → Q .non H'
def spTxt (K : PySem.W.Frag) (A : Nat → Addr) : Sp := fun vs H Q _ => ∃ (a : Addr) (x : V), vs = [.ref a, x] ∧ H a = some (exo a (A 14) none) ∧ ∀ d H', H d = none → d ≠ a → Mo a H H' → H' a = some (exo a (A 14) (some d)) → H' d = some (exd d [("place", x)]) → Q .non H'
theorem ok_imp {f : Addr} {fd : FuncData} (F : Fun K "__init__" "Impossible.__init__" sImp f fd) (T : Txt16 K mg A) : FnOk P w K mg base CX0 1 f fd ["self", "word", "number"] (spImp K A) := by
  refine F.ok scImp (fun vs H Q E h => ?_) (fun cdv A' outer s H vs Q E hr h => ?_)
  · obtain ⟨a, x, y, rfl, _⟩ := h
    rfl
  · obtain ⟨a, x, y, rfl, ha, q⟩ := h
    refine ⟨_, (pss_cons (ps_ost (pv 0) (pv 1)) (pss_one (ps_ost (pv 0) (pv 2)))), ?_⟩
    refine ⟨x, rfl, .ref a, rfl, a, A 13, rfl, T.o13, T.fld 13 (by decide) _ (by decide), .inl ⟨ha, fun d hd nda => ?_⟩⟩
    refine ⟨y, rfl, .ref a, rfl, a, A 13, rfl, T.o13, T.fld 13 (by decide) _ (by decide), .inr ⟨d, [("word", x)], upd_same, ?_, (show 1 ≤ 900 by decide), ?_⟩⟩
    · rw [upd_ne nda, upd_same]
    · refine q d _ hd nda (fun b o nb hb => ?_) ?_ upd_same
      · have nbd : b ≠ d := ne_of_none hb hd
        rw [upd_ne nbd, upd_ne nb, upd_ne nbd]
        exact hb
      · rw [upd_ne (Ne.symm nda), upd_same]
theorem ok_txt {f : Addr} {fd : FuncData} (F : Fun K "__init__" "InvalidText.__init__" sTxt f fd) (T : Txt16 K mg A) : FnOk P w K mg base CX0 1 f fd ["self", "place"] (spTxt K A) := by
  refine F.ok scTxt (fun vs H Q E h => ?_) (fun cdv A' outer s H vs Q E hr h => ?_)
  · obtain ⟨a, x, rfl, _⟩ := h
    rfl
  · obtain ⟨a, x, rfl, ha, q⟩ := h
    refine ⟨_, (pss_one (ps_ost (pv 0) (pv 1))), ?_⟩
    refine ⟨x, rfl, .ref a, rfl, a, A 14, rfl, T.o14, T.fld 14 (by decide) _ (by decide), .inl ⟨ha, fun d hd nda => ?_⟩⟩
    refine q d _ hd nda (fun b o nb hb => ?_) upd_same ?_
    · have nbd : b ≠ d := ne_of_none hb hd
      rw [upd_ne nb, upd_ne nbd]
      exact hb
    · rw [upd_ne nda, upd_same]
end
end K65

namespace K65
open PySem PySem.Spec PyProof.Rows L2 Evl Bk
abbrev sLawKinds : Stmt := topS 22
theorem scLawKinds : FnScope ["e", "shown"] ["e"] (defScope sLawKinds) := ⟨rfl, rfl, rfl, by decide +kernel, rfl, by decide +kernel, by decide +kernel⟩
abbrev sLawAlike : Stmt := topS 21
theorem scLawAlike : FnScope ["found", "due", "k"] ["found", "due"] (defScope sLawAlike) := ⟨rfl, rfl, rfl, by decide +kernel, rfl, by decide +kernel, by decide +kernel⟩
def kindsL (j : Nat) : List V := (List.range 15).map fun i => .bl (decide (i = j))
structure Bn2 (mg : Str → Option Value) : Prop extends Bn mg where
  bn_list : mg "list" = none
  bn_tuple : mg "tuple" = none
  bn_bool : mg "bool" = none
  bn_str : mg "str" = none
  bn_ValueError : mg "ValueError" = none
section
variable {P : Program} {w : World} {K : PySem.W.Frag} {mg : Str → Option Value} {base : Heap} {A : Nat → Addr}
def spKinds (A : Nat → Addr) : Sp := fun vs H Q _ => ∃ (a : Addr) (j : Nat) (d : Option Addr), vs = [.ref a] ∧ j < 16 ∧ Held H a (A j) d ∧ RetL (kindsL j) H Q
theorem ok_kinds {f : Addr} {fd : FuncData} (F : Fun K "_law_kinds" "_law_kinds" sLawKinds f fd) (B : Bn2 mg) (T : Txt16 K mg A) : FnOk P w K mg base CX0 1 f fd ["e"] (spKinds A) := by
  refine F.ok scLawKinds (fun vs H Q E h => ?_) (fun cdv A' outer s H vs Q E hr h => ?_)
  · obtain ⟨a, j, d, rfl, _⟩ := h
    rfl
  · obtain ⟨a, j, d, rfl, hj, hh, q⟩ := h
    refine ⟨_, (pss_cons (ps_set (i := 1) scLawKinds.nd rfl (.inl rfl) (pe_lst (pa_cons (pe_callB call_isx (by rfl) B.bn_isinstance (by decide +kernel) (pa_cons (pv 0) (pa_cons (glc T 0 (by decide)) pa_nil))) (pa_cons (pe_callB call_isx (by rfl) B.bn_isinstance (by decide +kernel) (pa_cons (pv 0) (pa_cons (glc T 1 (by decide)) pa_nil))) (pa_cons (pe_callB call_isx (by rfl) B.bn_isinstance (by decide +kernel) (pa_cons (pv 0) (pa_cons (glc T 2 (by decide)) pa_nil))) pa_nil)))))
      (pss_cons (ps_set (i := 1) scLawKinds.nd rfl (.inl rfl) (pe_op op_cat (pv 1) (pe_lst (pa_cons (pe_callB call_isx (by rfl) B.bn_isinstance (by decide +kernel) (pa_cons (pv 0) (pa_cons (glc T 3 (by decide)) pa_nil))) (pa_cons (pe_callB call_isx (by rfl) B.bn_isinstance (by decide +kernel) (pa_cons (pv 0) (pa_cons (glc T 4 (by decide)) pa_nil))) (pa_cons (pe_callB call_isx (by rfl) B.bn_isinstance (by decide +kernel) (pa_cons (pv 0) (pa_cons (glc T 5 (by decide)) pa_nil))) pa_nil))))))
      (pss_cons (ps_set (i := 1) scLawKinds.nd rfl (.inl rfl) (pe_op op_cat (pv 1) (pe_lst (pa_cons (pe_callB call_isx (by rfl) B.bn_isinstance (by decide +kernel) (pa_cons (pv 0) (pa_cons (glc T 6 (by decide)) pa_nil))) (pa_cons (pe_callB call_isx (by rfl) B.bn_isinstance (by decide +kernel) (pa_cons (pv 0) (pa_cons (glc T 7 (by decide)) pa_nil))) (pa_cons (pe_callB call_isx (by rfl) B.bn_isinstance (by decide +kernel) (pa_cons (pv 0) (pa_cons (glc T 8 (by decide)) pa_nil))) pa_nil))))))
      (pss_cons (ps_set (i := 1) scLawKinds.nd rfl (.inl rfl) (pe_op op_cat (pv 1) (pe_lst (pa_cons (pe_callB call_isx (by rfl) B.bn_isinstance (by decide +kernel) (pa_cons (pv 0) (pa_cons (glc T 9 (by decide)) pa_nil))) (pa_cons (pe_callB call_isx (by rfl) B.bn_isinstance (by decide +kernel) (pa_cons (pv 0) (pa_cons (glc T 10 (by decide)) pa_nil))) (pa_cons (pe_callB call_isx (by rfl) B.bn_isinstance (by decide +kernel) (pa_cons (pv 0) (pa_cons (glc T 11 (by decide)) pa_nil))) pa_nil))))))
      (pss_one (ps_ret (pe_op op_cat (pv 1) (pe_lst (pa_cons (pe_callB call_isx (by rfl) B.bn_isinstance (by decide +kernel) (pa_cons (pv 0) (pa_cons (glc T 12 (by decide)) pa_nil))) (pa_cons (pe_callB call_isx (by rfl) B.bn_isinstance (by decide +kernel) (pa_cons (pv 0) (pa_cons (glc T 13 (by decide)) pa_nil))) (pa_cons (pe_callB call_isx (by rfl) B.bn_isinstance (by decide +kernel) (pa_cons (pv 0) (pa_cons (glc T 14 (by decide)) pa_nil))) pa_nil))))))))))), ?_⟩
    have one : ∀ (i : Nat) (σ : L2.St) (H1 : Hp), i < 15 → Ex H H1 → σ[0]? = some (some (.ref a)) → Ev (tCB (rIsx K) (tCons (tVar 0) (tCons (tC (.ref (A i))) tNil))) σ H1 (.bl (decide (i = j))) := fun i σ H1 hi e hσ =>
      ev_isx (ea_two (ev_var hσ) ev_c) (.own _) (T.cls j hj).E (hh.mono e) (isB T hj hi)
    have tri : ∀ (i i2 i3 : Nat) (σ : L2.St) (H1 : Hp), i < 15 → i2 < 15 → i3 < 15 → Ex H H1 → σ[0]? = some (some (.ref a)) → EvL (tLst (tCons (tCB (rIsx K) (tCons (tVar 0) (tCons (tC (.ref (A i))) tNil))) (tCons (tCB (rIsx K) (tCons (tVar 0) (tCons (tC (.ref (A i2))) tNil))) (tCons (tCB (rIsx K) (tCons (tVar 0) (tCons (tC (.ref (A i3))) tNil))) tNil)))) σ H1 [.bl (decide (i = j)), .bl (decide (i2 = j)), .bl (decide (i3 = j))] := fun i i2 i3 σ H1 h1 h2 h3 e hσ =>
      el_lst (ea_cons (one i σ H1 h1 e hσ) (ea_cons (one i2 σ H1 h2 e hσ) (ea_cons (one i3 σ H1 h3 e hσ) ea_nil))) (show 3 ≤ 100000 by decide)
    refine q_asgL (tri 0 1 2 _ H (by decide) (by decide) (by decide) (Ex.refl H) rfl) fun p1 H1 n1 e1 h1 => ?_
    refine q_asgL (el_cat (ev_var rfl) h1 (tri 3 4 5 _ H1 (by decide) (by decide) (by decide) e1 rfl) (show 6 ≤ 100000 by decide)) fun p2 H2 n2 e2 h2 => ?_
    refine q_asgL (el_cat (ev_var rfl) h2 (tri 6 7 8 _ H2 (by decide) (by decide) (by decide) (e1.trans e2) rfl) (show 9 ≤ 100000 by decide)) fun p3 H3 n3 e3 h3 => ?_
    refine q_asgL (el_cat (ev_var rfl) h3 (tri 9 10 11 _ H3 (by decide) (by decide) (by decide) ((e1.trans e2).trans e3) rfl) (show 12 ≤ 100000 by decide)) fun p4 H4 n4 e4 h4 => ?_
    refine s_retL (el_cat (ev_var rfl) h4 (tri 12 13 14 _ H4 (by decide) (by decide) (by decide) (((e1.trans e2).trans e3).trans e4) rfl) (show 15 ≤ 100000 by decide)) fun p5 H5 n5 e5 h5 => ?_
    exact q p5 H5 (fresh_back (((e1.trans e2).trans e3).trans e4) n5) ((((e1.trans e2).trans e3).trans e4).trans e5) h5
/-! ### _law_alike -/
def leaf : V → Bool | .int _ => true | .str _ => true | _ => false
def spA0 : Sp := fun vs H Q _ => ∃ x : V, vs = [x, x] ∧ leaf x = true ∧ RetV (.bl true) H Q
def spA1 (K : PySem.W.Frag) : Sp := fun vs H Q _ => ∃ (p r : Addr) (xs : List V), vs = [.ref p, .ref r] ∧ SqL K H p xs ∧ SqL K H r xs ∧ H p = some (.lst xs) ∧ H r = some (.lst xs) ∧ xs.all leaf = true ∧ xs.length ≤ 100 ∧ RetV (.bl true) H Q
/-- the type of a leaf -/
def leafT : V → String | .int _ => "int" | _ => "str"
theorem leaf_ty {H : Hp} : ∀ {x : V}, leaf x = true → TyX K H x (.type (leafT x))
  | .int i, _ => .base (.int i)
  | .str z, _ => .base (.str z)
theorem leaf_cases {x : V} (h : leaf x = true) : (∃ i, x = .int i) ∨ ∃ z, x = .str z := by
  cases x with
  | int i => exact .inl ⟨i, rfl⟩
  | str z => exact .inr ⟨z, rfl⟩
  | _ => cases h
theorem ev_isi {σ : L2.St} {H : Hp} {tr : TA} {x c : V} {t u : Value} {b : Bool} (h : EvA tr σ H [x, c]) (k : ClsV c u) (ty : ∀ H1, Ex H H1 → TyX K H1 x t) (e : PySem.W.kitOne K t u = some b) : Ev (tCB (rIsi K) tr) σ H (.bl b) :=
  ev_cb h fun H1 e1 Q q => ⟨x, c, t, u, b, rfl, k, ty H1 e1, e, q H1 (Ex.refl H1)⟩
/-- isinstance(x, (c, d)), the tuple made on the way -/
theorem ev_isiT2 {σ : L2.St} {H : Hp} {te : TE} {x : V} {t : Value} {c d : String} {b : Bool} (h : Ev te σ H x) (ty : ∀ H1, Ex H H1 → TyX K H1 x t) (e : PySem.W.kitAny K t [.type c, .type d] = some b) :
    Ev (tCB (rIsiT K) (tCons te (tCons (tTup (tCons (tC (.ty c)) (tCons (tC (.ty d)) tNil))) tNil))) σ H (.bl b) := fun H1 e1 Q q =>
  h H1 e1 _ fun H2 e2 => ⟨show 2 ≤ sizeLine by decide, fun p hp => ⟨x, p, [.ty c, .ty d], t, [.type c, .type d], b, rfl, upd_same, .cons (.ty c) (.cons (.ty d) .nil), ty _ ((e1.trans e2).trans (Ex.new hp)), e, q _ (e2.trans (Ex.new hp))⟩⟩
theorem ok_alike0 {f : Addr} {fd : FuncData} (F : Fun K "_law_alike" "_law_alike" sLawAlike f fd) (B : Bn2 mg) : FnOk P w K mg base CX0 1 f fd ["found", "due"] spA0 := by
  refine F.ok scLawAlike (fun vs H Q E h => ?_) (fun cdv A' outer s H vs Q E hr h => ?_)
  · obtain ⟨x, rfl, _⟩ := h
    rfl
  · obtain ⟨x, rfl, lx, q⟩ := h
    refine ⟨_, (pss_cons (ps_if (pt_val (pe_callB call_isiT (by rfl) B.bn_isinstance (by decide +kernel) (pa_cons (pv 1) (pa_cons (pe_tup (pa_cons (pe_bt "list" B.bn_list) (pa_cons (pe_bt "tuple" B.bn_tuple) pa_nil))) pa_nil)))) (pss_cons ps_never (pss_cons ps_never (pss_one ps_never))) pss_nil)
      (pss_cons (ps_if (PW.pt (pw_or (pt_cmpR op_ne (pe_callB call_isi (by rfl) B.bn_isinstance (by decide +kernel) (pa_cons (pv 0) (pa_cons (pe_bt "bool" B.bn_bool) pa_nil))) (pe_callB call_isi (by rfl) B.bn_isinstance (by decide +kernel) (pa_cons (pv 1) (pa_cons (pe_bt "bool" B.bn_bool) pa_nil))) (nomark _)) (pw_or1 (pt_cmpR op_ne (pe_callB call_isi (by rfl) B.bn_isinstance (by decide +kernel) (pa_cons (pv 0) (pa_cons (pe_bt "int" B.bn_int) pa_nil))) (pe_callB call_isi (by rfl) B.bn_isinstance (by decide +kernel) (pa_cons (pv 1) (pa_cons (pe_bt "int" B.bn_int) pa_nil))) (nomark _))))) (pss_one (ps_ret pe_bl)) pss_nil)
      (pss_one (ps_ret (pe_and (pe_cmpR op_eq (pe_callB call_isi (by rfl) B.bn_isinstance (by decide +kernel) (pa_cons (pv 0) (pa_cons (pe_bt "str" B.bn_str) pa_nil))) (pe_callB call_isi (by rfl) B.bn_isinstance (by decide +kernel) (pa_cons (pv 1) (pa_cons (pe_bt "str" B.bn_str) pa_nil))) (nomark _)) (pe_one (pe_cmpR op_eq (pv 0) (pv 1) (nomark _)))))))), ?_⟩
    have lt : leafT x = "int" ∨ leafT x = "str" := by
      rcases leaf_cases lx with ⟨i, rfl⟩ | ⟨z, rfl⟩
      · exact .inl rfl
      · exact .inr rfl
    have kl : PySem.W.kitAny K (.type (leafT x)) [.type "list", .type "tuple"] = some false := by
      rcases lt with e | e <;> rw [e] <;> exact kitAny_cons (b := false) (kit_ty (by decide +kernel)) (fun _ => kitAny_cons (b := false) (kit_ty (by decide +kernel)) (fun _ => rfl) (fun z => nomatch z)) (fun z => nomatch z)
    have kk : ∀ t : String, t = "bool" ∨ t = "int" ∨ t = "str" → ∃ b, PySem.W.kitOne K (.type (leafT x)) (.type t) = some b := fun t ht => by
      rcases lt with e | e <;> rw [e] <;> rcases ht with rfl | rfl | rfl
      · exact ⟨false, kit_ty (by decide +kernel)⟩
      · exact ⟨true, kit_ty (by decide +kernel)⟩
      · exact ⟨false, kit_ty (by decide +kernel)⟩
      · exact ⟨false, kit_ty (by decide +kernel)⟩
      · exact ⟨false, kit_ty (by decide +kernel)⟩
      · exact ⟨true, kit_ty (by decide +kernel)⟩
    obtain ⟨b1, k1⟩ := kk "bool" (.inl rfl)
    obtain ⟨b2, k2⟩ := kk "int" (.inr (.inl rfl))
    obtain ⟨b3, k3⟩ := kk "str" (.inr (.inr rfl))
    have isT : ∀ {t : String} {b : Bool} (i : Nat) (σ : L2.St) (H1 : Hp), PySem.W.kitOne K (.type (leafT x)) (.type t) = some b → σ[i]? = some (some x) → Ev (tCB (rIsi K) (tCons (tVar i) (tCons (tC (.ty t)) tNil))) σ H1 (.bl b) := fun i σ H1 k hσ =>
      ev_isi (ea_two (ev_var hσ) ev_c) (.ty _) (fun _ _ => leaf_ty lx) k
    refine q_when (et_B (ev_isiT2 (ev_var rfl) (fun _ _ => leaf_ty lx) kl)) (fun z => nomatch z) fun _ H1 e1 => ?_
    refine q_when (b := false) (et_is (et_or (et_test (ev_op (isT 0 _ H1 k1 rfl) (isT 1 _ H1 k1 rfl) (rv_ne rfl))) fun _ => et_test (ev_op (isT 0 _ H1 k2 rfl) (isT 1 _ H1 k2 rfl) (rv_ne rfl))) (by rw [decide_eq_true rfl, decide_eq_true rfl]; rfl)) (fun z => nomatch z) fun _ H2 e2 => ?_
    refine s_ret (v := .bl true) (ev_is (ev_andV (ev_op (isT 0 _ H2 k3 rfl) (isT 1 _ H2 k3 rfl) (rv_eq rfl)) fun _ => ev_op (ev_var rfl) (ev_var rfl) (rv_eq ?_)) (by rw [decide_eq_true rfl, decide_eq_true rfl]; rfl)) fun H3 e3 => q H3 ((e1.trans e2).trans e3)
    rcases leaf_cases lx with ⟨i, rfl⟩ | ⟨z, rfl⟩ <;> rfl
theorem ok_alike1 {f : Addr} {fd : FuncData} (F : Fun K "_law_alike" "_law_alike" sLawAlike f fd) (B : Bn2 mg) (C__law_alike : Cal P w K mg base 1 "_law_alike" ["found", "due"] spA0) : FnOk P w K mg base CX0 2 f fd ["found", "due"] (spA1 K) := by
  refine F.ok scLawAlike (fun vs H Q E h => ?_) (fun cdv A' outer s H vs Q E hr h => ?_)
  · obtain ⟨p, r, xs, rfl, _⟩ := h
    rfl
  · obtain ⟨p, r, xs, rfl, hp', hr', hp, hq, hl, hz, q⟩ := h
    refine ⟨_, (pss_cons (ps_if (pt_val (pe_callB call_isiT (by rfl) B.bn_isinstance (by decide +kernel) (pa_cons (pv 1) (pa_cons (pe_tup (pa_cons (pe_bt "list" B.bn_list) (pa_cons (pe_bt "tuple" B.bn_tuple) pa_nil))) pa_nil)))) (pss_cons (ps_if (PW.pt (pw_or (pt_not (pt_val (pe_callB call_isiT (by rfl) B.bn_isinstance (by decide +kernel) (pa_cons (pv 0) (pa_cons (pe_tup (pa_cons (pe_bt "list" B.bn_list) (pa_cons (pe_bt "tuple" B.bn_tuple) pa_nil))) pa_nil))))) (pw_or1 (pt_cmpR op_ne (pe_callB call_isi (by rfl) B.bn_isinstance (by decide +kernel) (pa_cons (pv 0) (pa_cons (pe_bt "list" B.bn_list) pa_nil))) (pe_callB call_isi (by rfl) B.bn_isinstance (by decide +kernel) (pa_cons (pv 1) (pa_cons (pe_bt "list" B.bn_list) pa_nil))) (nomark _))))) (pss_one (ps_ret pe_bl)) pss_nil)
      (pss_cons (ps_if (pt_cmpR op_ne (pe_callB call_len_seq (by rfl) B.bn_len (by decide +kernel) (pa_cons (pv 0) pa_nil)) (pe_callB call_len_seq (by rfl) B.bn_len (by decide +kernel) (pa_cons (pv 1) pa_nil)) (nomark _)) (pss_one (ps_ret pe_bl)) pss_nil)
      (pss_one (ps_ret (pe_callB (cr_all rfl) (by rfl) B.bn_all (by decide +kernel) (pa_cons (pe_lc (own := [("k", 2)]) (g := gName 2) rfl scLawAlike.nd (pi_range1 (by rfl) B.bn_range (pa_cons (pe_callB call_len_seq (by rfl) B.bn_len (by decide +kernel) (pa_cons (pv 1) pa_nil)) pa_nil)) (blkOk_by (own := [("k", 2)]) (N := ["found", "due", "k"]) (sc := defScope sLawAlike) (by decide +kernel)) (fun _ _ _ _ _ => (pg_name (i := 2) scLawAlike.nd rfl (.inl rfl))) (fun _ _ _ _ _ => pts_nil) (fun _ _ _ _ _ => (pe_cal C__law_alike (hr.mono (by decide)) (by rfl) (pa_cons (pe_ix (ixL (K := K) rfl) (pv 0) (pv 2) (fun _ _ => rfl)) (pa_cons (pe_ix (ixL (K := K) rfl) (pv 1) (pv 2) (fun _ _ => rfl)) pa_nil))))) pa_nil)))))) pss_nil)
      (pss_cons ps_never (pss_one ps_never))), ?_⟩
    have kl : PySem.W.kitAny K (.type "list") [.type "list", .type "tuple"] = some true := kitAny_cons (b := true) (kit_ty (by decide +kernel)) (fun z => nomatch z) (fun _ => rfl)
    have tyR : ∀ H1, Ex H H1 → TyX K H1 (.ref r) (.type "list") := fun H1 e => .base (.lst (e _ _ hq))
    have tyP : ∀ H1, Ex H H1 → TyX K H1 (.ref p) (.type "list") := fun H1 e => .base (.lst (e _ _ hp))
    have kL : PySem.W.kitOne K (.type "list") (.type "list") = some true := kit_ty (by decide +kernel)
    refine q_when (et_B (ev_isiT2 (ev_var rfl) tyR kl)) (fun _ H1 e1 => ?_) (fun z => nomatch z)
    refine q_when (b := false) (et_is (et_or (et_not (et_B (ev_isiT2 (ev_var rfl) (fun H2 e2 => tyP H2 (e1.trans e2)) kl))) fun _ => et_test (ev_op (ev_isi (ea_two (ev_var rfl) ev_c) (.ty _) (fun H2 e2 => tyP H2 (e1.trans e2)) kL) (ev_isi (ea_two (ev_var rfl) ev_c) (.ty _) (fun H2 e2 => tyR H2 (e1.trans e2)) kL) (rv_ne rfl))) (by rw [decide_eq_true rfl]; rfl)) (fun z => nomatch z) fun _ H2 e2 => ?_
    have e12 := e1.trans e2
    refine q_when (b := false) (et_is (et_test (ev_op (ev_len (ev_var rfl) (ex_l e12 hp')) (ev_len (ev_var rfl) (ex_l e12 hr')) (rv_ne rfl))) (by rw [decide_eq_true rfl]; rfl)) (fun z => nomatch z) fun _ H3 e3 => ?_
    have e13 := e12.trans e3
    have el := el_lcR1 (σ := [some (.ref p), some (.ref r), none]) (H := H3) (j := 2) (vs := [2]) (t := tYes) (n := (xs.length : Int)) (ta := tCons (tCB (rLenS K) (tCons (tVar 1) tNil)) tNil) (te := tCall spA0 [] E0 (tCons (tOp (rIxL K) (tVar 0) (tVar 2)) (tCons (tOp (rIxL K) (tVar 1) (tVar 2)) tNil)))
      (fun _ => true) (fun _ => .bl true) (ea_one (ev_len (ev_var rfl) (ex_l e13 hr'))) (by omega) (fun x => rfl) (fun i H4 e4 hi => fun H5 e5 Q q => q H5 (Ex.refl H5)) (fun i H4 e4 hi _ => by
        have hlt : i < xs.length := by omega
        have hx : xs[i]? = some xs[i] := List.getElem?_eq_getElem hlt
        have hlf : leaf xs[i] = true := List.all_eq_true.mp hl _ (List.getElem_mem hlt)
        refine ev_call (vs := [xs[i], xs[i]]) (ea_two (ev_op (ev_var rfl) (ev_var rfl) (rv_ixL (ex_l (e13.trans e4) hp') (atI_nat hx))) (ev_op (ev_var rfl) (ev_var rfl) (rv_ixL (ex_l (e13.trans e4) hr') (atI_nat hx)))) ?_
        exact fun H5 e5 Q q E => ⟨xs[i], rfl, hlf, fun H6 e6 => q H6 e6⟩)
    refine s_ret (v := .bl true) (ev_cbL (xs := given (xs.length : Int).toNat (fun _ => true) fun _ => .bl true) el fun a H4 ha e4 Q q => ?_) fun H4 e4 => q H4 (e13.trans e4)
    refine ⟨a, (List.range (xs.length : Int).toNat).map fun _ => true, rfl, sq_of ?_, ?_⟩
    · rw [ha]
      unfold given
      rw [List.filter_eq_self.mpr (fun _ _ => rfl), List.map_map]
      rfl
    · have e : ((List.range (xs.length : Int).toNat).map fun _ => true).all _root_.id = true := by
        rw [List.all_map]
        exact List.all_eq_true.mpr fun _ _ => rfl
      rw [e]
      exact q
end
end K65

namespace Bk
open PySem PySem.Spec PyProof.Rows L2 Evl
theorem Paired.imp' {α β : Type} {F G : α → β → Prop} : ∀ {l₁ : List α} {l₂ : List β}, Paired F l₁ l₂ → (∀ a b, F a b → G a b) → Paired G l₁ l₂ := fun r f => Paired.mapP r f
/-- a new object, by what is true of it -/
def EvN (te : TE) (σ : L2.St) (H : Hp) (P : Addr → Hp → Prop) : Prop := ∀ H1, Ex H H1 → ∀ Q : VK, (∀ p H2, H1 p = none → Ex H1 H2 → P p H2 → Q (.ref p) H2) → te σ H1 Q
/-- values, by what is true of them -/
def EvAP (ta : TA) (σ : L2.St) (H : Hp) (P : List V → Hp → Prop) : Prop := ∀ H1, Ex H H1 → ∀ Q : List V → Hp → Prop, (∀ vs H2, Ex H1 H2 → P vs H2 → Q vs H2) → ta σ H1 Q
/-- a new list of such -/
def EvLP (te : TE) (σ : L2.St) (H : Hp) (P : List V → Hp → Prop) : Prop := ∀ H1, Ex H H1 → ∀ Q : VK, (∀ p vs H2, H1 p = none → Ex H1 H2 → H2 p = some (.lst vs) → P vs H2 → Q (.ref p) H2) → te σ H1 Q
def Stb (P : List V → Hp → Prop) : Prop := ∀ vs H H', Ex H H' → P vs H → P vs H'
section
variable {K : PySem.W.Frag} {σ : L2.St} {H H' : Hp} {ta tb te : TE} {tr : TA} {D : Ends} {tz : TS}
theorem elp_lst {P : List V → Hp → Prop} (h : EvAP tr σ H P) (hz : ∀ vs H, P vs H → vs.length ≤ 100000) (st : Stb P) : EvLP (tLst tr) σ H P := fun H1 e Q q =>
  h H1 e _ fun vs H2 e2 hP => ⟨sz_of (hz vs H2 hP), fun p hp => q p vs _ (fresh_back e2 hp) (e2.trans (Ex.new hp)) upd_same (st vs _ _ (Ex.new hp) hP)⟩
theorem elp_cat {P : List V → Hp → Prop} {p : Addr} {xs : List V} (ha : Ev ta σ H (.ref p)) (hp : H p = some (.lst xs)) (hb : EvLP tb σ H P) (hx : xs.length ≤ 50000) (hz : ∀ vs H, P vs H → vs.length ≤ 50000) (st : Stb P) : EvLP (tOp rCat ta tb) σ H (fun vs H2 => ∃ ys, vs = xs ++ ys ∧ P ys H2) := fun H1 e Q q =>
  ha H1 e _ fun H2 e2 => hb H2 (e.trans e2) _ fun l ys H3 _ e3 hl hP => ⟨p, l, xs, ys, rfl, rfl, e3 _ _ (e2 _ _ (e _ _ hp)), hl, sz_of (by have := hz ys H3 hP; omega), fun z hz' => q z _ _ (fresh_back (e2.trans e3) hz') ((e2.trans e3).trans (Ex.new hz')) upd_same ⟨ys, rfl, st ys _ _ (Ex.new hz') hP⟩⟩
theorem q_asgLP {P : List V → Hp → Prop} {i : Nat} (h : EvLP te σ H P) (k : ∀ p vs H1, H p = none → Ex H H1 → H1 p = some (.lst vs) → P vs H1 → tz D (σ.set i (some (.ref p))) H1) : tSeq (tAsg te (gName i)) tz D σ H := h H (Ex.refl H) _ k
/-- a, b = two new objects -/
theorem q_par2 {i j : Nat} {P1 P2 : Addr → Hp → Prop} (h1 : EvN ta σ H P1) (h2 : EvN tb σ H P2) (st : ∀ p H1 H2, Ex H1 H2 → P1 p H1 → P1 p H2) (k : ∀ p r H1, H p = none → H r = none → Ex H H1 → P1 p H1 → P2 r H1 → tz D ((σ.set i (some (.ref p))).set j (some (.ref r))) H1) : tSeq (tPar i j (tCons ta (tCons tb tNil))) tz D σ H := by
  show ta σ H _
  refine h1 H (Ex.refl H) _ fun p H1 hp e1 p1 => ?_
  show tb σ H1 _
  exact h2 H1 e1 _ fun r H2 hr e2 p2 => ⟨_, _, rfl, k p r H2 hp (fresh_back e1 hr) (e1.trans e2) (st p H1 H2 e2 p1) p2⟩
theorem en_exc0 {C : Addr} {x : V} (h : Ev te σ H x) : EvN (tExc0 C te) σ H (fun p H2 => H2 p = some (ExO (.ref C) p)) := fun H1 e Q q => h H1 e _ fun H2 e2 a ha => q a _ (fresh_back e2 ha) (e2.trans (Ex.new ha)) upd_same
/-! ### lists of truths -/
def boolsD (bs : List Bool) : PyData := .list (bs.map PyData.bool)
theorem dpall_bls {K : PySem.W.Frag} {H : Hp} : ∀ bs : List Bool, DpAll K H (bs.map V.bl) (bs.map PyData.bool)
  | [] => .nil
  | b :: r => .cons (.bl b) (dpall_bls r)
theorem canLay_bls : ∀ bs : List Bool, PyData.canLayAll0 (bs.map PyData.bool) = true
  | [] => rfl
  | b :: r => by
    show (PyData.canLay0 (.bool b) && PyData.canLayAll0 (r.map PyData.bool)) = true
    rw [canLay_bls r]
    rfl
theorem depth_bls : ∀ bs : List Bool, PyData.depthAll (bs.map PyData.bool) ≤ 1
  | [] => by decide
  | b :: r => by
    have h := depth_bls r
    show Nat.max (PyData.depth (.bool b)) (PyData.depthAll (r.map PyData.bool)) ≤ 1
    exact Nat.max_le.mpr ⟨by show 0 ≤ 1; omega, h⟩
theorem shaped_bls (bs : List Bool) : SeqAt.shaped (boolsD bs) = true := by
  unfold SeqAt.shaped
  rw [Bool.and_eq_true]
  refine ⟨canLay_bls bs, decide_eq_true ?_⟩
  have h := depth_bls bs
  show PyData.depthAll (bs.map PyData.bool) + 1 ≤ 64
  omega
theorem eqv_bls (bs : List Bool) : PyData.eqv (boolsD bs) (boolsD bs) = true := SeqAt.eqv_refl _ (canLay_bls bs)
theorem ev_neB {bs : List Bool} (ha : EvL ta σ H (bs.map V.bl)) (hb : EvL tb σ H (bs.map V.bl)) : Ev (tOp (rNeD K) ta tb) σ H (.bl false) := ev_opLL ha hb fun p q H1 hp hq _ => fun H2 e2 Q k =>
  ⟨boolsD bs, boolsD bs, .lst (ex_l e2 (sq_of hp)) (dpall_bls bs), .lst (ex_l e2 (sq_of hq)) (dpall_bls bs), shaped_bls bs, shaped_bls bs, by rw [eqv_bls]; exact k H2 (Ex.refl H2)⟩
theorem ev_eqB {bs : List Bool} (ha : EvL ta σ H (bs.map V.bl)) (hb : EvL tb σ H (bs.map V.bl)) : Ev (tOp (rEqD K) ta tb) σ H (.bl true) := ev_opLL ha hb fun p q H1 hp hq _ => fun H2 e2 Q k =>
  ⟨boolsD bs, boolsD bs, .lst (ex_l e2 (sq_of hp)) (dpall_bls bs), .lst (ex_l e2 (sq_of hq)) (dpall_bls bs), shaped_bls bs, shaped_bls bs, by rw [eqv_bls]; exact k H2 (Ex.refl H2)⟩
end
end Bk
namespace K65
open PySem PySem.Spec PyProof.Rows L2 Evl Bk
/-- exceptions of the classes js -/
def Excs (A : Nat → Addr) (js : List Nat) (vs : List V) (H : Hp) : Prop := Paired (fun j v => ∃ a, v = V.ref a ∧ H a = some (ExO (.ref (A j)) a)) js vs
theorem excs_stb {A : Nat → Addr} {js : List Nat} : Stb (Excs A js) := fun vs H H' e h => Paired.imp' h fun j v ⟨a, h1, h2⟩ => ⟨a, h1, e _ _ h2⟩
section
variable {A : Nat → Addr} {K : PySem.W.Frag} {σ : L2.St} {H H' : Hp} {ta tb te : TE} {tr : TA} {D : Ends} {tz : TS}
theorem eap_nil : EvAP tNil σ H (Excs A []) := fun H1 e Q q => q [] H1 (Ex.refl H1) .nil
theorem eap_exc {x : V} {j : Nat} {js : List Nat} (h : Ev te σ H x) (hr : EvAP tr σ H (Excs A js)) : EvAP (tCons (tExc0 (A j) te) tr) σ H (Excs A (j :: js)) := fun H1 e Q q => by
  show tExc0 (A j) te σ H1 _
  refine en_exc0 h H1 e _ fun p H2 hp e2 h2 => ?_
  refine hr H2 (e.trans e2) _ fun vs H3 e3 h3 => ?_
  exact q _ H3 (e2.trans e3) (.cons ⟨p, rfl, e3 _ _ h2⟩ h3)
theorem Paired.append' {α β : Type} {F : α → β → Prop} : ∀ {a c : List α} {b d : List β}, Paired F a b → Paired F c d → Paired F (a ++ c) (b ++ d)
  | _, _, _, _, .nil, s => s
  | _, _, _, _, .cons r t, s => .cons r (Paired.append' t s)
theorem Paired.get' {α β : Type} {F : α → β → Prop} : ∀ {a : List α} {b : List β} {i : Nat} {x : α}, Paired F a b → a[i]? = some x → ∃ y, b[i]? = some y ∧ F x y
  | _, _, _, _, .nil, e => by simp at e
  | _, _, 0, _, .cons r _, e => by
    simp at e
    subst e
    exact ⟨_, rfl, r⟩
  | _, _, i + 1, x, .cons _ t, e => by
    obtain ⟨u, h1, h2⟩ := Paired.get' (i := i) (x := x) t (by simpa using e)
    exact ⟨u, by simpa using h1, h2⟩
theorem kindsL_bl (j : Nat) : kindsL j = ((List.range 15).map fun i => decide (i = j)).map V.bl := by
  unfold kindsL
  rw [List.map_map]
  rfl
theorem given15 (f : Nat → Bool) : given 15 (fun _ => true) (fun i => .bl (f i)) = ((List.range 15).map f).map V.bl := by
  unfold given
  rw [List.filter_eq_self.mpr (fun _ _ => rfl), List.map_map]
  rfl
theorem el_kinds {a : Addr} {j : Nat} {d : Option Addr} (h : Ev te σ H (.ref a)) (hj : j < 16) (hh : Held H a (A j) d) : EvL (tCall (spKinds A) [] E0 (tCons te tNil)) σ H (((List.range 15).map fun i => decide (i = j)).map V.bl) := by
  rw [← kindsL_bl]
  exact el_call (vs := [.ref a]) (ea_one h) fun H1 e Q q E => ⟨a, j, d, rfl, hj, hh.mono e, fun p H2 hp e2 h2 => q p H2 hp e2 h2⟩
/-! ### expressions that draw from the bag at b -/
theorem BagAt.mono {b : Addr} (h : BagAt H b) (e : Ex H H') : BagAt H' b := by
  obtain ⟨c, ns, x1, x2, x3, x4, h1, h2, h3⟩ := h
  exact ⟨c, ns, x1, x2, x3, x4, e _ _ h1, e _ _ h2, h3⟩
theorem BagAt.some {b : Addr} (h : BagAt H b) : ∃ o, H b = some o := by
  obtain ⟨c, ns, x1, x2, x3, x4, h1, _⟩ := h
  exact ⟨_, h1⟩
def EvB (b : Addr) (te : TE) (σ : L2.St) (H : Hp) (P : V → Prop) : Prop := ∀ H1, Mo b H H1 → BagAt H1 b → ∀ Q : VK, (∀ v H2, P v → Mo b H1 H2 → BagAt H2 b → Q v H2) → te σ H1 Q
def EvBA (b : Addr) (ta : TA) (σ : L2.St) (H : Hp) (P : List V → Prop) : Prop := ∀ H1, Mo b H H1 → BagAt H1 b → ∀ Q : List V → Hp → Prop, (∀ vs H2, P vs → Mo b H1 H2 → BagAt H2 b → Q vs H2) → ta σ H1 Q
def Drawn' (n : Int) : V → Prop := fun v => ∃ r, v = .int r ∧ 0 ≤ r ∧ r < n
theorem evb_pure {b : Addr} {v : V} (h : ∀ H1, Ev te σ H1 v) : EvB b te σ H (fun x => x = v) := fun H1 _ hB Q q => h H1 H1 (Ex.refl H1) Q fun H2 e => q v H2 rfl (Mo.ex e) (hB.mono e)
theorem evb_draw {b : Addr} {n : Int} (h : ∀ H1, EvA tr σ H1 [.ref b, .int n]) (h0 : 0 < n) (h1 : n < 2 ^ 100) : EvB b (tCall spDraw [] E0 tr) σ H (Drawn' n) := fun H1 _ hB Q q => h H1 H1 (Ex.refl H1) _ fun H2 e =>
  ⟨b, n, rfl, h0, h1, hB.mono e, fun H3 r mo hB3 r0 r1 => q _ H3 ⟨r, rfl, r0, r1⟩ ((Mo.ex e).trans mo) hB3⟩
theorem evb_pick {b : Addr} {xs : List V} (h : ∀ H1, EvA tr σ H1 xs) (hz : xs.length ≤ 1000) (hd : EvB b te σ H (Drawn' xs.length)) : EvB b (tOp (rIxL K) (tLst tr) te) σ H (fun v => v ∈ xs) := fun H1 mo hB Q q => by
  show tr σ H1 _
  refine h H1 H1 (Ex.refl H1) _ fun H2 e2 => ?_
  refine ⟨sz_of (by omega), fun p hp => ?_⟩
  have hB2 : BagAt (upd H2 p (.lst xs)) b := (hB.mono e2).mono (Ex.new hp)
  have nb : p ≠ b := fun z => by
    obtain ⟨o, ho⟩ := (hB.mono e2).some
    rw [z, ho] at hp
    cases hp
  refine hd _ ((mo.trans (Mo.ex e2)).trans (Mo.ex (Ex.new hp))) hB2 _ fun v H3 ⟨r, hv, r0, r1⟩ mo3 hB3 => ?_
  subst hv
  have hlt : r.toNat < xs.length := by omega
  exact ⟨p, xs, r, xs[r.toNat], rfl, rfl, sq_of (mo3 p _ nb upd_same), at_of (show r = (r.toNat : Int) by omega) (List.getElem?_eq_getElem hlt), q _ H3 (List.getElem_mem hlt) (((Mo.ex e2).trans (Mo.ex (Ex.new hp))).trans mo3) hB3⟩
theorem evba_nil {b : Addr} : EvBA b tNil σ H (fun vs => vs = []) := fun H1 _ hB Q q => q [] H1 rfl (Mo.refl b H1) hB
theorem evba_cons {b : Addr} {P : V → Prop} {R : List V → Prop} (h : EvB b te σ H P) (hr : EvBA b tr σ H R) : EvBA b (tCons te tr) σ H (fun vs => ∃ v r, vs = v :: r ∧ P v ∧ R r) := fun H1 mo hB Q q => by
  show te σ H1 _
  refine h H1 mo hB _ fun v H2 hv mo2 hB2 => ?_
  exact hr H2 (mo.trans mo2) hB2 _ fun r H3 hr mo3 hB3 => q _ H3 ⟨v, r, rfl, hv, hr⟩ (mo2.trans mo3) hB3
theorem evb_sub {b : Addr} {n : Int} {i : Int} (ha : ∀ H1, Ev ta σ H1 (.int i)) (h : EvB b te σ H (Drawn' n)) : EvB b (tOp (rI0 fun i j => .int (i - j)) ta te) σ H (fun v => ∃ r, v = .int r) := fun H1 mo hB Q q => by
  show ta σ H1 _
  refine ha H1 H1 (Ex.refl H1) _ fun H2 e2 => ?_
  refine h H2 (mo.trans (Mo.ex e2)) (hB.mono e2) _ fun v H3 ⟨r, hv, _, _⟩ mo3 hB3 => ?_
  subst hv
  exact ⟨i, r, rfl, rfl, q _ H3 ⟨_, rfl⟩ ((Mo.ex e2).trans mo3) hB3⟩
theorem q_asgB {b : Addr} {P : V → Prop} {i : Nat} (h : EvB b te σ H P) (hB : BagAt H b) (k : ∀ v H1, P v → Mo b H H1 → BagAt H1 b → tz D (σ.set i (some v)) H1) : tSeq (tAsg te (gName i)) tz D σ H := h H (Mo.refl b H) hB _ k
theorem q_asgLB {b : Addr} {P : List V → Prop} {i : Nat} (h : EvBA b tr σ H P) (hz : ∀ vs, P vs → vs.length ≤ 1000) (hB : BagAt H b) (k : ∀ p vs H1, P vs → p ≠ b → Mo b H H1 → BagAt H1 b → H1 p = some (.lst vs) → tz D (σ.set i (some (.ref p))) H1) : tSeq (tAsg (tLst tr) (gName i)) tz D σ H := by
  show tr σ H _
  refine h H (Mo.refl b H) hB _ fun vs H1 hP mo hB1 => ?_
  refine ⟨sz_of (by have := hz vs hP; omega), fun p hp => ?_⟩
  have nb : p ≠ b := fun z => by
    obtain ⟨o, ho⟩ := hB1.some
    rw [z, ho] at hp
    cases hp
  exact k p vs _ hP nb (mo.trans (Mo.ex (Ex.new hp))) (hB1.mono (Ex.new hp)) upd_same
theorem q_forTB {b : Addr} {P : List V → Prop} {j : Nat} {tu : TS} (h : EvBA b tr σ H P) (hz : ∀ vs, P vs → vs.length ≤ 1000) (hB : BagAt H b) (Pv : Addr → List V → Nat → L2.St → Hp → Prop) (h0 : ∀ p vs H1, P vs → p ≠ b → Mo b H H1 → BagAt H1 b → H1 p = some (.tup vs) → Pv p vs 0 σ H1) (hl : ∀ p vs i σ' H', P vs → Pv p vs i σ' H' → SqT K H' p vs)
    (hs : ∀ p vs i x σ' H', P vs → vs[i]? = some x → Pv p vs i σ' H' → tu { D with nx := Pv p vs (i + 1), ct := Pv p vs (i + 1), bk := tz D } (σ'.set j (some x)) H') (hd : ∀ p vs σ' H', P vs → Pv p vs vs.length σ' H' → tz D σ' H') : tSeq (tFor (iTup K (tTup tr)) (gName j) tu) tz D σ H := by
  show tr σ H _
  refine h H (Mo.refl b H) hB _ fun vs H1 hP mo hB1 => ?_
  refine ⟨sz_of (by have := hz vs hP; omega), fun p hp => ?_⟩
  have nb : p ≠ b := fun z => by
    obtain ⟨o, ho⟩ := hB1.some
    rw [z, ho] at hp
    cases hp
  exact ⟨p, rfl, ⟨vs, st_of upd_same⟩, for_tup (Pv p vs) (h0 p vs _ hP nb (mo.trans (Mo.ex (Ex.new hp))) (hB1.mono (Ex.new hp)) upd_same) (fun i σ' H' _ hv => hl p vs i σ' H' hP hv) (fun i x σ' H' hx hv => hs p vs i x σ' H' hP hx hv) (fun σ' H' hv => hd p vs σ' H' hP hv)⟩
end
/-! ### the two with an __init__, made as values -/
def g2 {α : Type} (us ws : List α) : List α := us ++ ws.reverse
structure Inis (P : Program) (w : World) (K : PySem.W.Frag) (mg : Str → Option Value) (base : Heap) (A : Nat → Addr) : Prop where
  i13 : ∃ fI fd, PySem.W.findIn K (.ref (A 13)) "__init__" = some (some (.ref fI)) ∧ PySem.W.typeIn K (.ref fI) = some (.type "function") ∧ FnOk P w K mg base CX0 1 fI fd ["self", "word", "number"] (spImp K A) ∧ Binds K fd ["self", "word", "number"] [] ∧ KBn K fd ["self", "word", "number"] 1 ["number", "word"] g2 g2
  i14 : ∃ fI fd, PySem.W.findIn K (.ref (A 14)) "__init__" = some (some (.ref fI)) ∧ PySem.W.typeIn K (.ref fI) = some (.type "function") ∧ FnOk P w K mg base CX0 1 fI fd ["self", "place"] (spTxt K A) ∧ Binds K fd ["self", "place"] [] ∧ KBn K fd ["self", "place"] 1 ["place"] g2 g2
section
variable {X : Cx} {A : Nat → Addr} {p pos : Pos} {e : Expr} {es : List Expr} {ta tk : TA} {kws : List Keyword}
theorem mkImpossible (T : Txt16 X.K X.mg A) (I : Inis X.prog X.w X.K X.mg X.base A) (hr : Room 2 X.A) (ha : PA X (e :: es) ta) (hg : Gl X "Impossible" := by rfl) (he : starEach (e :: es) X.env = (false, eval e X.env) :: starEach es X.env := by rfl) (hpl : (backTo pos (starEach es X.env)).any (·.1) = false := by rfl) :
    PE X (.Call (.Name "Impossible" p) (e :: es) [] pos) (tMkE (A 13) (spImp X.K A) ta) := by
  obtain ⟨fI, fd, h1, h2, h3, h4, _⟩ := I.i13
  exact pe_mkE T.o13 h1 h2 h3 hr h4 hg (T.cls 13 (by decide)).g ha (by decide) he hpl
theorem mkInvalidText (T : Txt16 X.K X.mg A) (I : Inis X.prog X.w X.K X.mg X.base A) (hr : Room 2 X.A) (ha : PA X (e :: es) ta) (hg : Gl X "InvalidText" := by rfl) (he : starEach (e :: es) X.env = (false, eval e X.env) :: starEach es X.env := by rfl) (hpl : (backTo pos (starEach es X.env)).any (·.1) = false := by rfl) :
    PE X (.Call (.Name "InvalidText" p) (e :: es) [] pos) (tMkE (A 14) (spTxt X.K A) ta) := by
  obtain ⟨fI, fd, h1, h2, h3, h4, _⟩ := I.i14
  exact pe_mkE T.o14 h1 h2 h3 hr h4 hg (T.cls 14 (by decide)).g ha (by decide) he hpl
theorem mkImpossibleK (T : Txt16 X.K X.mg A) (I : Inis X.prog X.w X.K X.mg X.base A) (hr : Room 2 X.A) (hkw : PK X kws tk) (hg : Gl X "Impossible" := by rfl)
    (hall : (backToKw pos (keywordEach kws X.env)).all (·.1.isSome) = true := by rfl) (hks : (backToKw pos (keywordEach kws X.env)).filterMap (·.1) = (["number", "word"] : List Str) := by rfl)
    (hpl : ((backTo pos (starEach [] X.env)).any (·.1) || (backToKw pos (keywordEach kws X.env)).any (·.1.isNone)) = false := by rfl) :
    PE X (.Call (.Name "Impossible" p) [] kws pos) (tMkEK (A 13) 2 (spImp X.K A) g2 tk) := by
  obtain ⟨fI, fd, h1, h2, h3, _, h5⟩ := I.i13
  exact pe_mkEK T.o13 h1 h2 h3 hr h5 hg (T.cls 13 (by decide)).g hkw hall hks (by decide) hpl
theorem mkInvalidTextK (T : Txt16 X.K X.mg A) (I : Inis X.prog X.w X.K X.mg X.base A) (hr : Room 2 X.A) (hkw : PK X kws tk) (hg : Gl X "InvalidText" := by rfl)
    (hall : (backToKw pos (keywordEach kws X.env)).all (·.1.isSome) = true := by rfl) (hks : (backToKw pos (keywordEach kws X.env)).filterMap (·.1) = (["place"] : List Str) := by rfl)
    (hpl : ((backTo pos (starEach [] X.env)).any (·.1) || (backToKw pos (keywordEach kws X.env)).any (·.1.isNone)) = false := by rfl) :
    PE X (.Call (.Name "InvalidText" p) [] kws pos) (tMkEK (A 14) 1 (spTxt X.K A) g2 tk) := by
  obtain ⟨fI, fd, h1, h2, h3, _, h5⟩ := I.i14
  exact pe_mkEK T.o14 h1 h2 h3 hr h5 hg (T.cls 14 (by decide)).g hkw hall hks (by decide) hpl
end
def Imp (A : Nat → Addr) (x y : V) (p : Addr) (H : Hp) : Prop := ∃ d, H p = some (exo p (A 13) (some d)) ∧ H d = some (exd d [("number", y), ("word", x)])
def Tex (A : Nat → Addr) (x : V) (p : Addr) (H : Hp) : Prop := ∃ d, H p = some (exo p (A 14) (some d)) ∧ H d = some (exd d [("place", x)])
theorem Imp.stb {A : Nat → Addr} {x y : V} (p : Addr) (H H' : Hp) (e : Ex H H') (h : Imp A x y p H) : Imp A x y p H' := by
  obtain ⟨d, h1, h2⟩ := h
  exact ⟨d, e _ _ h1, e _ _ h2⟩
theorem Imp.held {A : Nat → Addr} {x y : V} {p : Addr} {H : Hp} (h : Imp A x y p H) : ∃ d, Held H p (A 13) d := by
  obtain ⟨d, h1, h2⟩ := h
  exact ⟨_, .inr ⟨d, _, rfl, h1, h2⟩⟩
theorem Tex.stb {A : Nat → Addr} {x : V} (p : Addr) (H H' : Hp) (e : Ex H H') (h : Tex A x p H) : Tex A x p H' := by
  obtain ⟨d, h1, h2⟩ := h
  exact ⟨d, e _ _ h1, e _ _ h2⟩
theorem Tex.held {A : Nat → Addr} {x : V} {p : Addr} {H : Hp} (h : Tex A x p H) : ∃ d, Held H p (A 14) d := by
  obtain ⟨d, h1, h2⟩ := h
  exact ⟨_, .inr ⟨d, _, rfl, h1, h2⟩⟩
section
variable {A : Nat → Addr} {K : PySem.W.Frag} {σ : L2.St} {H : Hp} {ta tb te : TE} {tr : TA}
/-- from the promise of an __init__ at a new exception -/
theorem mo_new {H1 H' : Hp} {a : Addr} {o : HO} (ha : H1 a = none) (mo : Mo a (upd H1 a o) H') : Ex H1 H' := fun b u hb => mo b u (ne_of_none hb ha) (by rw [upd_ne (ne_of_none hb ha)]; exact hb)
theorem en_imp {x y : V} (h : EvA tr σ H [x, y]) : EvN (tMkE (A 13) (spImp K A) tr) σ H (Imp A x y) := fun H1 e Q q => h H1 e _ fun H2 e2 => ⟨show 2 ≤ 1000 by decide, fun a ha =>
  ⟨a, x, y, rfl, upd_same, fun d H' hd nda mo h1 h2 => ⟨rfl, q a H' (fresh_back e2 ha) (e2.trans (mo_new ha mo)) ⟨d, h1, h2⟩⟩⟩⟩
theorem en_tex {x : V} (h : EvA tr σ H [x]) : EvN (tMkE (A 14) (spTxt K A) tr) σ H (Tex A x) := fun H1 e Q q => h H1 e _ fun H2 e2 => ⟨show 1 ≤ 1000 by decide, fun a ha =>
  ⟨a, x, rfl, upd_same, fun d H' hd nda mo h1 h2 => ⟨rfl, q a H' (fresh_back e2 ha) (e2.trans (mo_new ha mo)) ⟨d, h1, h2⟩⟩⟩⟩
theorem en_impK {x y : V} (h : EvA tr σ H [y, x]) : EvN (tMkEK (A 13) 2 (spImp K A) g2 tr) σ H (Imp A x y) := fun H1 e Q q => h H1 e _ fun H2 e2 => ⟨rfl, fun a ha =>
  ⟨a, x, y, rfl, upd_same, fun d H' hd nda mo h1 h2 => ⟨rfl, q a H' (fresh_back e2 ha) (e2.trans (mo_new ha mo)) ⟨d, h1, h2⟩⟩⟩⟩
theorem en_texK {x : V} (h : EvA tr σ H [x]) : EvN (tMkEK (A 14) 1 (spTxt K A) g2 tr) σ H (Tex A x) := fun H1 e Q q => h H1 e _ fun H2 e2 => ⟨rfl, fun a ha =>
  ⟨a, x, rfl, upd_same, fun d H' hd nda mo h1 h2 => ⟨rfl, q a H' (fresh_back e2 ha) (e2.trans (mo_new ha mo)) ⟨d, h1, h2⟩⟩⟩⟩
end
end K65

namespace K65
open PySem PySem.Spec PyProof.Rows L2 Evl Bk
section
variable {A : Nat → Addr} {K : PySem.W.Frag} {σ : L2.St} {H : Hp} {ta tb te : TE} {tr : TA}
theorem EvBA.imp {b : Addr} {P R : List V → Prop} (h : EvBA b tr σ H P) (k : ∀ vs, P vs → R vs) : EvBA b tr σ H R := fun H1 mo hB Q q => h H1 mo hB Q fun vs H2 hP => q vs H2 (k vs hP)
theorem ev_exf {a C d : Addr} {f : Str} {fs : List (Str × V)} {v : V} (h : Ev te σ H (.ref a)) (X : XfC K C) (n : PySem.W.findIn K (.ref C) f = some none) (h1 : H a = some (exo a C (some d))) (h2 : H d = some (exd d fs)) (l : fs.lookup f = some v) : Ev (tExf K f te) σ H v := fun H1 e Q q =>
  h H1 e _ fun H2 e2 => ⟨a, C, d, fs, v, rfl, X, n, e2 _ _ (e _ _ h1), e2 _ _ (e _ _ h2), l, q H2 e2⟩
theorem ev_callLL {sp : Sp} {E : XK} {xs ys : List V} {z : V} (ha : EvL ta σ H xs) (hb : EvL tb σ H ys) (hs : ∀ p r H1, Ex H H1 → H1 p = some (.lst xs) → H1 r = some (.lst ys) → SpV sp [.ref p, .ref r] H1 z) : Ev (tCall sp [] E (tCons ta (tCons tb tNil))) σ H z := fun H1 e Q q =>
  ha H1 e _ fun p H2 _ e2 hp => hb H2 (e.trans e2) _ fun r H3 _ e3 hr => hs p r H3 ((e.trans e2).trans e3) (e3 _ _ hp) hr H3 (Ex.refl H3) Q (fun H4 e4 => q H4 ((e2.trans e3).trans e4)) E
theorem ev_alike {xs : List V} (ha : EvL ta σ H xs) (hb : EvL tb σ H xs) (hl : xs.all leaf = true) (hz : xs.length ≤ 100) : Ev (tCall (spA1 K) [] E0 (tCons ta (tCons tb tNil))) σ H (.bl true) :=
  ev_callLL ha hb fun p r H1 e hp hr => fun H2 e2 Q q E => ⟨p, r, xs, rfl, ex_l e2 (sq_of hp), ex_l e2 (sq_of hr), e2 _ _ hp, e2 _ _ hr, hl, hz, fun H3 e3 => q H3 e3⟩
theorem ev_isxN {C : Addr} {c : V} {u : Value} {b : Bool} (h : EvN te σ H (fun p H2 => H2 p = some (ExO (.ref C) p))) (k : ClsV c u) (T : ExcC K C) (e : PySem.W.kitOne K (.ref C) u = some b) : Ev (tCB (rIsx K) (tCons te (tCons (tC c) tNil))) σ H (.bl b) := fun H1 e1 Q q =>
  h H1 e1 _ fun p H2 _ e2 hp => ⟨p, C, none, c, u, b, rfl, k, T, .inl ⟨rfl, hp⟩, e, q H2 e2⟩
theorem el_kindsN {j : Nat} (h : EvN te σ H (fun p H2 => H2 p = some (ExO (.ref (A j)) p))) (hj : j < 16) : EvL (tCall (spKinds A) [] E0 (tCons te tNil)) σ H (((List.range 15).map fun i => decide (i = j)).map V.bl) := by
  rw [← kindsL_bl]
  exact fun H1 e1 Q q => h H1 e1 _ fun p H2 _ e2 hp => ⟨p, j, none, rfl, hj, .inl ⟨rfl, hp⟩, fun r H3 hr e3 h3 => q r H3 (fresh_back e2 hr) (e2.trans e3) h3⟩
theorem el_at (j : Nat) {vs : List Nat} {n : Int} (hn : n = 15) (hw : ∀ x, wipe ((wipe σ vs).set 5 (some x)) vs = wipe σ vs) (h5 : ∀ x : V, ((wipe σ vs).set 5 (some x))[5]? = some (some x)) (hb : ∀ (m : Nat) H1, Ev tb ((wipe σ vs).set 5 (some (.int (m : Int)))) H1 (.int (j : Int))) :
    EvL (tLc (iRng1 (tCons (tC (.int n)) tNil)) (gName 5) tYes (tOp rEq (tVar 5) tb) vs) σ H (((List.range 15).map fun m => decide (m = j)).map V.bl) := by
  subst hn
  rw [← given15]
  have hf : ∀ m : Nat, (decide (m = j)) = decide (V.int (m : Int) = V.int (j : Int)) := fun m => by
    refine decide_eq_decide.mpr ⟨fun z => by rw [z], fun z => ?_⟩
    have := V.int.inj z
    omega
  rw [show (fun m : Nat => V.bl (decide (m = j))) = fun m : Nat => V.bl (decide (V.int (m : Int) = V.int (j : Int))) from funext fun m => by rw [hf]]
  exact el_lcR1 (n := 15) (fun _ => true) (fun m => V.bl (decide (V.int (m : Int) = V.int (j : Int)))) (ea_one ev_c) (by decide) hw (fun m H7 e8 hm => fun H8 e9 Q q => q H8 (Ex.refl H8)) (fun m H7 e8 hm _ => ev_op (ev_var (h5 _)) (hb m _) (rv_eq rfl))
end
end K65
namespace K65
open PySem PySem.Spec PyProof.Rows L2 Evl Bk
abbrev sLaw : Stmt := topS 23
theorem scLaw : FnScope ["script", "bag", "text", "made", "k", "at", "spot", "words", "none", "bad", "one", "two"] ["script"] (defScope sLaw) := ⟨rfl, rfl, rfl, by decide +kernel, rfl, by decide +kernel, by decide +kernel⟩
section
variable {P : Program} {w : World} {K : PySem.W.Frag} {mg : Str → Option Value} {base : Heap} {A : Nat → Addr}
def spLaw (K : PySem.W.Frag) : Sp := fun vs H Q _ => ∃ (a : Addr) (ns : List Int), vs = [.ref a] ∧ SqL K H a (ns.map V.int) ∧ ns.length ≤ 63 ∧ ∀ H', Q (.bl true) H'
theorem ok_law {f : Addr} {fd : FuncData} (F : Fun K "law" "law" sLaw f fd) (B : Bn2 mg) (T : Txt16 K mg A) (I : Inis P w K mg base A) (C__law_bag : Cal P w K mg base 1 "_law_bag" ["script"] (spBag K)) (C__law_draw : Cal P w K mg base 2 "_law_draw" ["bag", "wide"] spDraw) (C__law_kinds : Cal P w K mg base 1 "_law_kinds" ["e"] (spKinds A)) (C__law_alike : Cal P w K mg base 2 "_law_alike" ["found", "due"] (spA1 K)) : FnOk P w K mg base CX0 3 f fd ["script"] (spLaw K) := by
  refine F.ok scLaw (fun vs H Q E h => ?_) (fun cdv A' outer s H vs Q E hr h => ?_)
  · obtain ⟨a, ns, rfl, _⟩ := h
    rfl
  · obtain ⟨a, ns, rfl, hS, hlen, q⟩ := h
    refine ⟨_, (pss_cons (ps_set (i := 1) scLaw.nd rfl (.inl rfl) (pe_cal C__law_bag (hr.mono (by decide)) (by rfl) (pa_cons (pv 0) pa_nil)))
      (pss_cons (ps_set (i := 2) scLaw.nd rfl (.inl rfl) (pe_ix (ixL (K := K) rfl) (pe_lst (pa_cons pe_str (pa_cons pe_str (pa_cons pe_str (pa_cons (pe_op op_mulS pe_str pe_int) pa_nil))))) (pe_cal C__law_draw (hr.mono (by decide)) (by rfl) (pa_cons (pv 1) (pa_cons pe_int pa_nil))) (fun _ _ => rfl)))
      (pss_cons (ps_set (i := 3) scLaw.nd rfl (.inl rfl) (pe_lst (pa_cons (exc0 T 0 (by decide) (pv 2)) (pa_cons (exc0 T 1 (by decide) (pv 2)) (pa_cons (exc0 T 2 (by decide) (pv 2)) (pa_cons (exc0 T 3 (by decide) (pv 2)) (pa_cons (exc0 T 4 (by decide) (pv 2)) pa_nil)))))))
      (pss_cons (ps_set (i := 3) scLaw.nd rfl (.inl rfl) (pe_op op_cat (pv 3) (pe_lst (pa_cons (exc0 T 5 (by decide) (pv 2)) (pa_cons (exc0 T 6 (by decide) (pv 2)) (pa_cons (exc0 T 7 (by decide) (pv 2)) (pa_cons (exc0 T 8 (by decide) (pv 2)) (pa_cons (exc0 T 9 (by decide) (pv 2)) pa_nil))))))))
      (pss_cons (ps_set (i := 3) scLaw.nd rfl (.inl rfl) (pe_op op_cat (pv 3) (pe_lst (pa_cons (exc0 T 10 (by decide) (pv 2)) (pa_cons (exc0 T 11 (by decide) (pv 2)) (pa_cons (exc0 T 12 (by decide) (pv 2)) pa_nil))))))
      (pss_cons (ps_for PassesOwn.never rfl (pi_range1 (by rfl) B.bn_range (pa_cons pe_int pa_nil)) (pg_name (i := 4) scLaw.nd rfl (.inr rfl)) (pss_cons (ps_if (PW.pt (pw_or (pt_not (pt_val (pe_callB (isxK (K := K) rfl) (by rfl) B.bn_isinstance (by decide +kernel) (pa_cons (pe_ix (ixL (K := K) rfl) (pv 3) (pv 4) (fun _ _ => rfl)) (pa_cons (glc T 15 (by decide)) pa_nil))))) (pw_or1 (pt_not (pt_val (pe_callB (isxK (K := K) rfl) (by rfl) B.bn_isinstance (by decide +kernel) (pa_cons (pe_ix (ixL (K := K) rfl) (pv 3) (pv 4) (fun _ _ => rfl)) (pa_cons (pe_bt "ValueError" B.bn_ValueError) pa_nil)))))))) (pss_one (ps_ret pe_bl)) pss_nil)
      (pss_one (ps_if (pt_cmpR (neK (K := K) hr.units rfl) (pe_cal C__law_kinds (hr.mono (by decide)) (by rfl) (pa_cons (pe_ix (ixL (K := K) rfl) (pv 3) (pv 4) (fun _ _ => rfl)) pa_nil)) (pe_lc (own := [("at", 5)]) (g := gName 5) rfl scLaw.nd (pi_range1 (by rfl) B.bn_range (pa_cons pe_int pa_nil)) (blkOk_by (own := [("at", 5)]) (N := ["script", "bag", "text", "made", "k", "at", "spot", "words", "none", "bad", "one", "two"]) (sc := defScope sLaw) (by decide +kernel)) (fun _ _ _ _ _ => (pg_name (i := 5) scLaw.nd rfl (.inl rfl))) (fun _ _ _ _ _ => pts_nil) (fun _ _ _ _ _ => (pe_cmpR op_eq (pv 4) (pv 5) (nomark _)))) (nomark _)) (pss_one (ps_ret pe_bl)) pss_nil))))
      (pss_cons (ps_for PassesOwn.never rfl (piT (K := K) rfl (pe_tup (pa_cons pe_int (pa_cons pe_int (pa_cons (pe_cal C__law_draw (hr.mono (by decide)) (by rfl) (pa_cons (pv 1) (pa_cons pe_int pa_nil))) (pa_cons (pe_op op_sub pe_int (pe_cal C__law_draw (hr.mono (by decide)) (by rfl) (pa_cons (pv 1) (pa_cons (pe_op op_powW pe_int pe_int) pa_nil)))) (pa_cons (pe_op op_sub (pe_op op_powW pe_int pe_int) pe_int) pa_nil))))))) (pg_name (i := 6) scLaw.nd rfl (.inl rfl)) (pss_cons (ps_set (i := 7) scLaw.nd rfl (.inl rfl) (pe_lst (pa_cons (pe_ix (ixL (K := K) rfl) (pe_lst (pa_cons pe_str (pa_cons pe_str (pa_cons pe_str (pa_cons pe_str pa_nil))))) (pe_cal C__law_draw (hr.mono (by decide)) (by rfl) (pa_cons (pv 1) (pa_cons pe_int pa_nil))) (fun _ _ => rfl)) (pa_cons (pe_op op_add (pv 6) pe_int) pa_nil))))
      (pss_cons (ps_par (i := 8) (j := 9) (by rfl) scLaw.nd rfl rfl (by decide) rfl rfl (pa_cons (mkImpossible T I (hr.mono (by decide)) (pa_cons (pe_ix (ixL (K := K) rfl) (pv 7) pe_int (fun _ _ => rfl)) (pa_cons (pv 6) pa_nil))) (pa_cons (mkInvalidText T I (hr.mono (by decide)) (pa_cons (pv 6) pa_nil)) pa_nil)) (by rfl))
      (pss_cons (ps_if (PW.pt (pw_or (pt_cmpR (neK (K := K) hr.units rfl) (pe_cal C__law_kinds (hr.mono (by decide)) (by rfl) (pa_cons (pv 8) pa_nil)) (pe_lc (own := [("at", 5)]) (g := gName 5) rfl scLaw.nd (pi_range1 (by rfl) B.bn_range (pa_cons pe_int pa_nil)) (blkOk_by (own := [("at", 5)]) (N := ["script", "bag", "text", "made", "k", "at", "spot", "words", "none", "bad", "one", "two"]) (sc := defScope sLaw) (by decide +kernel)) (fun _ _ _ _ _ => (pg_name (i := 5) scLaw.nd rfl (.inl rfl))) (fun _ _ _ _ _ => pts_nil) (fun _ _ _ _ _ => (pe_cmpR op_eq (pv 5) pe_int (nomark _)))) (nomark _)) (pw_or1 (pt_cmpR (neK (K := K) hr.units rfl) (pe_cal C__law_kinds (hr.mono (by decide)) (by rfl) (pa_cons (pv 9) pa_nil)) (pe_lc (own := [("at", 5)]) (g := gName 5) rfl scLaw.nd (pi_range1 (by rfl) B.bn_range (pa_cons pe_int pa_nil)) (blkOk_by (own := [("at", 5)]) (N := ["script", "bag", "text", "made", "k", "at", "spot", "words", "none", "bad", "one", "two"]) (sc := defScope sLaw) (by decide +kernel)) (fun _ _ _ _ _ => (pg_name (i := 5) scLaw.nd rfl (.inl rfl))) (fun _ _ _ _ _ => pts_nil) (fun _ _ _ _ _ => (pe_cmpR op_eq (pv 5) pe_int (nomark _)))) (nomark _))))) (pss_one (ps_ret pe_bl)) pss_nil)
      (pss_cons (ps_if (pt_not (pt_val (pe_cal C__law_alike (hr.mono (by decide)) (by rfl) (pa_cons (pe_lst (pa_cons (pe_exf (pv 8)) (pa_cons (pe_exf (pv 8)) (pa_cons (pe_exf (pv 9)) pa_nil)))) (pa_cons (pe_lst (pa_cons (pe_ix (ixL (K := K) rfl) (pv 7) pe_int (fun _ _ => rfl)) (pa_cons (pv 6) (pa_cons (pv 6) pa_nil)))) pa_nil))))) (pss_one (ps_ret pe_bl)) pss_nil)
      (pss_cons (ps_par (i := 10) (j := 11) (by rfl) scLaw.nd rfl rfl (by decide) rfl rfl (pa_cons (mkImpossibleK T I (hr.mono (by decide)) (pk_cons (pe_ix (ixL (K := K) rfl) (pv 7) pe_int (fun _ _ => rfl)) (pk_cons (pe_ix (ixL (K := K) rfl) (pv 7) pe_int (fun _ _ => rfl)) pk_nil))) (pa_cons (mkInvalidTextK T I (hr.mono (by decide)) (pk_cons (pv 6) pk_nil)) pa_nil)) (by rfl))
      (pss_cons (ps_if (pt_not (pt_val (pe_cal C__law_alike (hr.mono (by decide)) (by rfl) (pa_cons (pe_lst (pa_cons (pe_exf (pv 10)) (pa_cons (pe_exf (pv 10)) (pa_cons (pe_exf (pv 11)) pa_nil)))) (pa_cons (pe_op op_cat (pv 7) (pe_lst (pa_cons (pv 6) pa_nil))) pa_nil))))) (pss_one (ps_ret pe_bl)) pss_nil)
      (pss_one (ps_if (PW.pt (pw_or (pt_not (pt_val (pe_callB (isxK (K := K) rfl) (by rfl) B.bn_isinstance (by decide +kernel) (pa_cons (pv 8) (pa_cons (glc T 15 (by decide)) pa_nil))))) (pw_or1 (pt_not (pt_val (pe_callB (isxK (K := K) rfl) (by rfl) B.bn_isinstance (by decide +kernel) (pa_cons (pv 9) (pa_cons (glc T 15 (by decide)) pa_nil)))))))) (pss_one (ps_ret pe_bl)) pss_nil)))))))))
      (pss_one (ps_ret (pe_and (pe_callB (isxK (K := K) rfl) (by rfl) B.bn_isinstance (by decide +kernel) (pa_cons (exc0 T 15 (by decide) pe_str) (pa_cons (pe_bt "ValueError" B.bn_ValueError) pa_nil))) (pe_one (pe_cmpR (eqK (K := K) hr.units rfl) (pe_cal C__law_kinds (hr.mono (by decide)) (by rfl) (pa_cons (exc0 T 15 (by decide) pe_str) pa_nil)) (pe_op op_rep (pe_lst (pa_cons pe_bl pa_nil)) pe_int) (nomark _))))))))))))), ?_⟩
    refine ⟨_, rfl, a, ns, rfl, hS, hlen, fun b H1 nb e1 hB => ?_⟩
    have hmul : ∀ H2 : Hp, RV rMulS (.str "9") (.int 30) H2 (.str (Txt.mul "9" 30)) := fun H2 H3 e Q k => ⟨"9", 30, rfl, rfl, by decide, by decide, k H3 (Ex.refl H3)⟩
    refine q_asgB (evb_pick (xs := [.str "", .str "a", .str "no such thing", .str (Txt.mul "9" 30)]) (fun H2 => ea_cons ev_c (ea_cons ev_c (ea_cons ev_c (ea_one (ev_op ev_c ev_c (hmul _)))))) (show 4 ≤ 1000 by decide) (evb_draw (n := 4) (fun H2 => ea_two (ev_var (by rfl)) ev_c) (by decide) (by decide))) hB fun v H2 hv mo2 hB2 => ?_
    refine q_asgLP (P := Excs A [0, 1, 2, 3, 4]) (elp_lst (eap_exc (x := v) (ev_var (by rfl)) (eap_exc (x := v) (ev_var (by rfl)) (eap_exc (x := v) (ev_var (by rfl)) (eap_exc (x := v) (ev_var (by rfl)) (eap_exc (x := v) (ev_var (by rfl)) eap_nil))))) (fun vs H hP => by have := Paired.length hP; simp at this; omega) excs_stb) fun p1 vs1 H3 n3 e3 h3 x3 => ?_
    refine q_asgLP (elp_cat (P := Excs A [5, 6, 7, 8, 9]) (ev_var (by rfl)) h3 (elp_lst (eap_exc (x := v) (ev_var (by rfl)) (eap_exc (x := v) (ev_var (by rfl)) (eap_exc (x := v) (ev_var (by rfl)) (eap_exc (x := v) (ev_var (by rfl)) (eap_exc (x := v) (ev_var (by rfl)) eap_nil))))) (fun vs H hP => by have := Paired.length hP; simp at this; omega) excs_stb) (by have := Paired.length x3; simp at this; omega) (fun vs H hP => by have := Paired.length hP; simp at this; omega) excs_stb) fun p2 vs2 H4 n4 e4 h4 x4 => ?_
    obtain ⟨ys2, rfl, x4⟩ := x4
    have x34 : Excs A [0, 1, 2, 3, 4, 5, 6, 7, 8, 9] (vs1 ++ ys2) H4 := Paired.append' (excs_stb _ _ _ e4 x3) x4
    refine q_asgLP (elp_cat (P := Excs A [10, 11, 12]) (ev_var (by rfl)) h4 (elp_lst (eap_exc (x := v) (ev_var (by rfl)) (eap_exc (x := v) (ev_var (by rfl)) (eap_exc (x := v) (ev_var (by rfl)) eap_nil))) (fun vs H hP => by have := Paired.length hP; simp at this; omega) excs_stb) (by have := Paired.length x34; simp at this; simp; omega) (fun vs H hP => by have := Paired.length hP; simp at this; omega) excs_stb) fun p3 vs3 H5 n5 e5 h5 x5 => ?_
    obtain ⟨ys3, rfl, x5⟩ := x5
    have x35 : Excs A [0, 1, 2, 3, 4, 5, 6, 7, 8, 9, 10, 11, 12] (vs1 ++ ys2 ++ ys3) H5 := Paired.append' (excs_stb _ _ _ e5 x34) x5
    generalize vs1 ++ ys2 ++ ys3 = made at h5 x35
    have hB5 : BagAt H5 b := ((hB2.mono e3).mono e4).mono e5
    clear x34 x4 x3 h4 h3 n3 n4 n5
    -- each of the thirteen
    refine q_forR1 (n := 13) (ea_one ev_c) (by decide) (fun i σ' H' => ∃ y4 y5, σ' = [some (.ref a), some (.ref b), some v, some (.ref p3), y4, y5, none, none, none, none, none, none] ∧ Ex H5 H')
      (fun H6 e6 => ⟨none, none, rfl, e6⟩) (fun i σ' H' hi hv' => ?_) (fun σ' H' hv' => ?_)
    · obtain ⟨y4, y5, rfl, e6⟩ := hv'
      obtain ⟨x, hx, ax, rfl, hax⟩ := Paired.get' x35 (i := i) (x := i) (by
        have : i < 13 := by omega
        rcases i with _ | _ | _ | _ | _ | _ | _ | _ | _ | _ | _ | _ | _ | i <;> first | rfl | omega)
      have held : Held H' ax (A i) none := .inl ⟨rfl, e6 _ _ hax⟩
      have hi16 : i < 16 := by omega
      have item : ∀ {σ2 : L2.St} {H6 : Hp}, Ex H' H6 → σ2[3]? = some (some (.ref p3)) → σ2[4]? = some (some (.int (i : Int))) → Ev (tOp (rIxL K) (tVar 3) (tVar 4)) σ2 H6 (.ref ax) := fun e7 h3 h4 => ev_op (ev_var h3) (ev_var h4) (rv_ixL (sq_of ((e6.trans e7) _ _ h5)) (atI_nat hx))
      refine q_when (b := false) (et_is (et_or (et_not (et_B (ev_isx (ea_two (item (Ex.refl _) rfl rfl) ev_c) (.own _) (T.cls i hi16).E held (isBase T hi16)))) fun _ => et_not (et_B (ev_isx (ea_two (item (Ex.refl _) rfl rfl) ev_c) (.ty _) (T.cls i hi16).E held (isVE T hi16)))) rfl) (fun z => nomatch z) fun _ H6 e7 => ?_
      refine s_when (b := false) (et_test (ev_neB (bs := (List.range 15).map fun m => decide (m = i)) (el_kinds (item e7 rfl rfl) hi16 (held.mono e7)) ?_)) (fun z => nomatch z) fun _ H7 e8 => ⟨_, _, rfl, (e6.trans e7).trans e8⟩
      rw [← given15]
      have hf : ∀ m : Nat, (decide (m = i)) = decide (V.int (i : Int) = V.int (m : Int)) := fun m => by
        refine decide_eq_decide.mpr ⟨fun z => by rw [z], fun z => ?_⟩
        have := V.int.inj z
        omega
      rw [show (fun m : Nat => V.bl (decide (m = i))) = fun m : Nat => V.bl (decide (V.int (i : Int) = V.int (m : Int))) from funext fun m => by rw [hf]]
      exact el_lcR1 (n := 15) (fun _ => true) (fun m => V.bl (decide (V.int (i : Int) = V.int (m : Int)))) (ea_one ev_c) (by decide) (fun x => rfl) (fun m H7 e8 hm => fun H8 e9 Q q => q H8 (Ex.refl H8)) (fun m H7 e8 hm _ => ev_op (ev_var (by rfl)) (ev_var (by rfl)) (rv_eq rfl))
    · obtain ⟨y4, y5, rfl, e6⟩ := hv'
      -- the five spots
      have hB6 := hB5.mono e6
      have mo6 : True := trivial
      refine q_forTB (b := b) (P := fun vs => vs.length = 5 ∧ ∀ x ∈ vs, ∃ r, x = V.int r) (EvBA.imp (evba_cons (evb_pure fun H7 => ev_c) (evba_cons (evb_pure fun H7 => ev_c) (evba_cons (evb_draw (n := 100) (fun H7 => ea_two (ev_var (by rfl)) ev_c) (by decide) (by decide))
          (evba_cons (evb_sub (n := (10 : Int) ^ (30 : Int).toNat) (fun H7 => ev_c) (evb_draw (fun H7 => ea_two (ev_var (by rfl)) (ev_op ev_c ev_c (rv_I (pow_ok (a := 4) (by decide) (by decide) (by decide) (by decide))))) (by decide) (by decide)))
          (evba_cons (evb_pure fun H7 => ev_op (ev_op ev_c ev_c (rv_I (pow_ok (a := 4) (by decide) (by decide) (by decide) (by decide)))) ev_c rv_I0) evba_nil))))) ?_) (fun vs hP => by have := hP.1; omega) hB6
        (fun p vs i σ' H' => ∃ y6 y7 y8 y9 y10 y11, σ' = [some (.ref a), some (.ref b), some v, some (.ref p3), y4, y5, y6, y7, y8, y9, y10, y11] ∧ p ≠ b ∧ BagAt H' b ∧ H' p = some (.tup vs))
        (fun p vs H7 hP np mo7 hB7 hp => ⟨none, none, none, none, none, none, rfl, np, hB7, hp⟩) (fun p vs i σ' H' hP hv => ?_) (fun p vs i x σ' H' hP hx hv => ?_) (fun p vs σ' H' hP hv => ?_)
      · rintro vs ⟨v1, r1, rfl, rfl, v2, r2, rfl, rfl, v3, r3, rfl, ⟨z3, rfl, _, _⟩, v4, r4, rfl, ⟨z4, rfl⟩, v5, r5, rfl, rfl, rfl⟩
        refine ⟨rfl, fun x hx => ?_⟩
        simp only [List.mem_cons, List.not_mem_nil, or_false] at hx
        rcases hx with rfl | rfl | rfl | rfl | rfl <;> exact ⟨_, rfl⟩
      · obtain ⟨y6, y7, y8, y9, y10, y11, rfl, np, hB7, hp⟩ := hv
        exact st_of hp
      · obtain ⟨y6, y7, y8, y9, y10, y11, rfl, np, hB7, hp⟩ := hv
        obtain ⟨spot, rfl⟩ := hP.2 x (List.mem_of_getElem? hx)
        -- words
        refine q_asgLB (b := b) (P := fun ws => ∃ z : Str, ws = [.str z, .int (spot + 1)]) (EvBA.imp (evba_cons (evb_pick (xs := [.str "day", .str "left", .str "", .str "a"]) (fun H8 => ea_cons ev_c (ea_cons ev_c (ea_cons ev_c (ea_one ev_c)))) (show 4 ≤ 1000 by decide) (evb_draw (n := 4) (fun H8 => ea_two (ev_var (by rfl)) ev_c) (by decide) (by decide))) (evba_cons (evb_pure fun H8 => ev_op (ev_var (by rfl)) ev_c rv_I0) evba_nil)) ?_) (fun ws hw => by obtain ⟨z, rfl⟩ := hw; exact (show 2 ≤ 1000 by decide)) hB7 fun p7 ws H8 hw n7 mo8 hB8 h7 => ?_
        · rintro ws ⟨v1, r1, rfl, hv1, v2, r2, rfl, rfl, rfl⟩
          simp only [List.mem_cons, List.not_mem_nil, or_false] at hv1
          rcases hv1 with rfl | rfl | rfl | rfl <;> exact ⟨_, rfl⟩
        obtain ⟨z, rfl⟩ := hw
        have hp8 : H8 p = some (.tup vs) := mo8 p _ np hp
        have w0 : ∀ {σ2 : L2.St} {H9 : Hp}, Ex H8 H9 → σ2[7]? = some (some (.ref p7)) → Ev (tOp (rIxL K) (tVar 7) (tC (.int 0))) σ2 H9 (.str z) := fun e h => ev_op (ev_var h) ev_c (rv_ixL (sq_of (e _ _ h7)) (atI_nat (j := 0) rfl))
        have w1 : ∀ {σ2 : L2.St} {H9 : Hp}, Ex H8 H9 → σ2[7]? = some (some (.ref p7)) → Ev (tOp (rIxL K) (tVar 7) (tC (.int 1))) σ2 H9 (.int (spot + 1)) := fun e h => ev_op (ev_var h) ev_c (rv_ixL (sq_of (e _ _ h7)) (atI_nat (j := 1) rfl))
        refine q_par2 (en_imp (x := .str z) (y := .int spot) (ea_two (w0 (Ex.refl H8) rfl) (ev_var (by rfl)))) (en_tex (x := .int spot) (ea_one (ev_var (by rfl)))) Imp.stb fun p8 p9 H9 n8 n9 e9 h8 h9 => ?_
        obtain ⟨d8, hh8⟩ := h8.held
        obtain ⟨d9, hh9⟩ := h9.held
        refine q_when (b := false) (et_is (et_or (et_test (ev_neB (bs := (List.range 15).map fun m => decide (m = 13)) (el_kinds (ev_var (by rfl)) (by decide) hh8) (el_at 13 rfl (fun x => rfl) (fun x => rfl) (fun m H10 => ev_c)))) fun _ => et_test (ev_neB (bs := (List.range 15).map fun m => decide (m = 14)) (el_kinds (ev_var (by rfl)) (by decide) hh9) (el_at 14 rfl (fun x => rfl) (fun x => rfl) (fun m H10 => ev_c)))) rfl) (fun z => nomatch z) fun _ H10 e10 => ?_
        have fld : ∀ {σ2 : L2.St} {H11 : Hp} {i j : Nat} {px pt : Addr} {y : V} {s : Int}, Imp A (.str z) y px H11 → Tex A (.int spot) pt H11 → σ2[i]? = some (some (.ref px)) → σ2[j]? = some (some (.ref pt)) →
            EvL (tLst (tCons (tExf K "word" (tVar i)) (tCons (tExf K "number" (tVar i)) (tCons (tExf K "place" (tVar j)) tNil)))) σ2 H11 [.str z, y, .int spot] := fun {σ2 H11 i j px pt y s} hi ht h1 h2 => by
          obtain ⟨d, hi1, hi2⟩ := hi
          obtain ⟨dt, ht1, ht2⟩ := ht
          exact el_lst (ea_cons (ev_exf (ev_var h1) T.x13 (T.fld 13 (by decide) _ (by decide)) hi1 hi2 (by rw [lookup_put, if_neg (by decide), lookup_put, if_pos rfl])) (ea_cons (ev_exf (ev_var h1) T.x13 (T.fld 13 (by decide) _ (by decide)) hi1 hi2 (by rw [lookup_put, if_pos rfl])) (ea_cons (ev_exf (ev_var h2) T.x14 (T.fld 14 (by decide) _ (by decide)) ht1 ht2 (by rw [lookup_put, if_pos rfl])) ea_nil))) (show 3 ≤ 100000 by decide)
        refine q_when (b := false) (et_is (et_not (et_B (ev_alike (xs := [.str z, .int spot, .int spot]) (fld (s := 0) (h8.stb _ _ _ e10) (h9.stb _ _ _ e10) rfl rfl) (el_lst (ea_cons (w0 (e9.trans e10) rfl) (ea_cons (ev_var (by rfl)) (ea_cons (ev_var (by rfl)) ea_nil))) (show 3 ≤ 100000 by decide)) rfl (show 3 ≤ 100 by decide)))) rfl) (fun z => nomatch z) fun _ H11 e11 => ?_
        have e811 := (e9.trans e10).trans e11
        refine q_par2 (en_impK (x := .str z) (y := .int (spot + 1)) (ea_two (w1 e811 rfl) (w0 e811 rfl))) (en_texK (x := .int spot) (ea_one (ev_var (by rfl)))) Imp.stb fun pa pb H12 na nb' e12 ha hb => ?_
        have e812 := e811.trans e12
        refine q_when (b := false) (et_is (et_not (et_B (ev_alike (xs := [.str z, .int (spot + 1), .int spot]) (fld (s := 0) ha hb rfl rfl) (el_cat (xs := [.str z, .int (spot + 1)]) (ys := [.int spot]) (ev_var (by rfl)) (e812 _ _ h7) (el_lst (ea_one (ev_var (by rfl))) (show 1 ≤ 100000 by decide)) (show 3 ≤ 100000 by decide)) rfl (show 3 ≤ 100 by decide)))) rfl) (fun z => nomatch z) fun _ H13 e13 => ?_
        have e913 := ((e10.trans e11).trans e12).trans e13
        refine s_when (b := false) (et_is (et_or (et_not (et_B (ev_isx (ea_two (ev_var (by rfl)) ev_c) (.own _) (T.cls 13 (by decide)).E (hh8.mono e913) (isBase T (by decide))))) fun _ => et_not (et_B (ev_isx (ea_two (ev_var (by rfl)) ev_c) (.own _) (T.cls 14 (by decide)).E (hh9.mono e913) (isBase T (by decide))))) rfl) (fun z => nomatch z) fun _ H14 e14 => ?_
        have e814 := (e812.trans e13).trans e14
        exact ⟨_, _, _, _, _, _, rfl, np, hB8.mono e814, e814 _ _ hp8⟩
      · obtain ⟨y6, y7, y8, y9, y10, y11, rfl, np, hB7, hp⟩ := hv
        have hrep : EvL (tOp rRep (tLst (tCons (tC (.bl false)) tNil)) (tC (.int 15))) [some (.ref a), some (.ref b), some v, some (.ref p3), y4, y5, y6, y7, y8, y9, y10, y11] H' (((List.range 15).map fun m => decide (m = 15)).map V.bl) := fun H8 e8 Q' q' => by
          show tLst (tCons (tC (.bl false)) tNil) _ H8 _
          refine el_lst (vs := [.bl false]) (ea_one ev_c) (show 1 ≤ 100000 by decide) H8 (Ex.refl H8) _ fun l H9 _ e9 hl => ?_
          exact ⟨l, 15, [.bl false], rfl, rfl, hl, by decide, by decide, (show 15 ≤ sizeLine by decide), fun r hr => q' r _ (fresh_back e9 hr) (e9.trans (Ex.new hr)) upd_same⟩
        refine s_ret (v := .bl true) (ev_is (ev_andV (ev_isxN (en_exc0 ev_c) (.ty _) (T.cls 15 (by decide)).E (isVE T (by decide))) fun _ => ev_eqB (bs := (List.range 15).map fun m => decide (m = 15)) (el_kindsN (en_exc0 ev_c) (by decide)) hrep) rfl) fun H8 e8 => q H8
end
end K65

namespace K65
open PySem PySem.Spec PyProof.Rows L2 Evl Bk
theorem Vals.rev' : ∀ {xs : List V} {us : List Value}, Vals xs us → Vals xs.reverse us.reverse
  | _, _, .nil => .nil
  | _, _, .cons r t => by
    rw [List.reverse_cons, List.reverse_cons]
    exact Vals.append (Vals.rev' t) (.cons r .nil)
theorem g2_rel {vs : List V} {us : List Value} {zs : List V} {ws : List Value} (h : Vals vs us) (h2 : Vals zs ws) : Vals (g2 vs zs) (g2 us ws) := Vals.append h (Vals.rev' h2)
theorem kb13 {K : PySem.W.Frag} {f : Addr} {fd : FuncData} (F : Fun K "__init__" "Impossible.__init__" sImp f fd) : KBn K fd ["self", "word", "number"] 1 ["number", "word"] g2 g2 := by
  obtain ⟨oc, od, kV, doc, pm, an, cdv, ct, osl, rfl, lk, hcd⟩ := F.ex
  refine ⟨fun s us ws X l1 l2 => ?_, fun h h2 => g2_rel h h2⟩
  match us, l1, ws, l2 with
  | [u], _, [a, b], _ => exact .of_eq rfl
theorem kb14 {K : PySem.W.Frag} {f : Addr} {fd : FuncData} (F : Fun K "__init__" "InvalidText.__init__" sTxt f fd) : KBn K fd ["self", "place"] 1 ["place"] g2 g2 := by
  obtain ⟨oc, od, kV, doc, pm, an, cdv, ct, osl, rfl, lk, hcd⟩ := F.ex
  refine ⟨fun s us ws X l1 l2 => ?_, fun h h2 => g2_rel h h2⟩
  match us, l1, ws, l2 with
  | [u], _, [a], _ => exact .of_eq rfl
theorem oex_mk {K : PySem.W.Frag} {C : Addr} {nm q : Str} {N : Addr} {bs bm : List Value} {sn : List Str} {sub : List Value} {ab : Bool} {col : Option Bool} {dd : Option Addr} {k0 k1 k2 k3 k5 : Option Value}
    (l : K.lookup C = some (excClassObj nm q C N bs bm true sn sub ab col dd k0 k1 k2 k3 k5 "ValueError.__new__")) (hb : PySem.HandSPX.refsVE bm = true) (sa : PySem.W.findIn K (.ref C) "__setattr__" = some (some (.builtin "object.__setattr__")))
    (ex : PySem.W.subIn K (.ref C) (.type "BaseException") = some true) (ty : PySem.W.typeIn K (.ref C) = some (.type "type")) (kp : PySem.W.keepIn K (.ref C) = true) : OexC K C := ⟨⟨nm, q, N, bs, bm, sn, sub, ab, col, dd, k0, k1, k2, k3, k5, l, hb⟩, sa, ex, ty, kp⟩
/-- sixteen facts, one a place -/
theorem all16 {P : Nat → Prop} (h0 : P 0) (h1 : P 1) (h2 : P 2) (h3 : P 3) (h4 : P 4) (h5 : P 5) (h6 : P 6) (h7 : P 7) (h8 : P 8) (h9 : P 9) (h10 : P 10) (h11 : P 11) (h12 : P 12) (h13 : P 13) (h14 : P 14) (h15 : P 15) : ∀ i, i < 16 → P i := fun i hi => by
  rcases i with _ | _ | _ | _ | _ | _ | _ | _ | _ | _ | _ | _ | _ | _ | _ | _ | i
  · exact h0
  · exact h1
  · exact h2
  · exact h3
  · exact h4
  · exact h5
  · exact h6
  · exact h7
  · exact h8
  · exact h9
  · exact h10
  · exact h11
  · exact h12
  · exact h13
  · exact h14
  · exact h15
  · omega
theorem all_mk {l : PySem.W.OpenLaw} {w : World} {K : PySem.W.Frag} {h : Heap} {mg : Str → Option Value} {fa : Addr} (X : K.In h) (G : h.Ns mainGlobals mg) (hfa : mg "law" = some (.ref fa))
    {f0 : Addr} {oc0 kV0 dc0 pm0 cd0 ct0 : Value} {od0 an0 : Option Addr} {sl0 : Array (Option Value)}
    {f1 : Addr} {oc1 kV1 dc1 pm1 cd1 ct1 : Value} {od1 an1 : Option Addr} {sl1 : Array (Option Value)}
    {f2 : Addr} {oc2 kV2 dc2 pm2 cd2 ct2 : Value} {od2 an2 : Option Addr} {sl2 : Array (Option Value)}
    {f3 : Addr} {oc3 kV3 dc3 pm3 cd3 ct3 : Value} {od3 an3 : Option Addr} {sl3 : Array (Option Value)}
    {f4 : Addr} {oc4 kV4 dc4 pm4 cd4 ct4 : Value} {od4 an4 : Option Addr} {sl4 : Array (Option Value)}
    {f5 : Addr} {oc5 kV5 dc5 pm5 cd5 ct5 : Value} {od5 an5 : Option Addr} {sl5 : Array (Option Value)}
    {A0 A1 A2 A3 A4 A5 A6 A7 A8 A9 A10 A11 A12 A13 A14 A15 : Addr}
    {d0 : ClassData}
    {d1 : ClassData}
    {d2 : ClassData}
    {d3 : ClassData}
    {d4 : ClassData}
    {d5 : ClassData}
    {d6 : ClassData}
    {d7 : ClassData}
    {d8 : ClassData}
    {d9 : ClassData}
    {d10 : ClassData}
    {d11 : ClassData}
    {d12 : ClassData}
    {d13 : ClassData}
    {d14 : ClassData}
    {d15 : ClassData}
    {I13 : Addr} {nm13 qq13 : Str} {N13 : Addr} {bs13 bm13 : List Value} {sn13 : List Str} {sub13 : List Value} {ab13 : Bool} {col13 : Option Bool} {dd13 : Option Addr} {xka13 xkb13 xkc13 xkd13 xke13 : Option Value}
    {ioc13 ikV13 idc13 ipm13 icd13 ict13 : Value} {iod13 ian13 : Option Addr} {isl13 : Array (Option Value)}
    {I14 : Addr} {nm14 qq14 : Str} {N14 : Addr} {bs14 bm14 : List Value} {sn14 : List Str} {sub14 : List Value} {ab14 : Bool} {col14 : Option Bool} {dd14 : Option Addr} {xka14 xkb14 xkc14 xkd14 xke14 : Option Value}
    {ioc14 ikV14 idc14 ipm14 icd14 ict14 : Value} {iod14 ian14 : Option Addr} {isl14 : Array (Option Value)}
    (a0 : PySem.W.nsIn K mainGlobals "_law_bag" = some (some (.ref f0)))
    (l0 : K.lookup f0 = some ⟨oc0, od0, .func (PySem.W.fnOf "_law_bag" "_law_bag" (defArgs sLawBag) (defBody sLawBag) (defScope sLawBag) .none kV0 dc0 pm0 an0 cd0 ct0), sl0⟩)
    (c0 : PySem.W.codeIn K cd0 "_law_bag" = true)
    (k0 : PySem.W.keepIn K (.ref f0) = true)
    (a1 : PySem.W.nsIn K mainGlobals "_law_stirred" = some (some (.ref f1)))
    (l1 : K.lookup f1 = some ⟨oc1, od1, .func (PySem.W.fnOf "_law_stirred" "_law_stirred" (defArgs sLawStirred) (defBody sLawStirred) (defScope sLawStirred) .none kV1 dc1 pm1 an1 cd1 ct1), sl1⟩)
    (c1 : PySem.W.codeIn K cd1 "_law_stirred" = true)
    (k1 : PySem.W.keepIn K (.ref f1) = true)
    (a2 : PySem.W.nsIn K mainGlobals "_law_draw" = some (some (.ref f2)))
    (l2 : K.lookup f2 = some ⟨oc2, od2, .func (PySem.W.fnOf "_law_draw" "_law_draw" (defArgs sLawDraw) (defBody sLawDraw) (defScope sLawDraw) .none kV2 dc2 pm2 an2 cd2 ct2), sl2⟩)
    (c2 : PySem.W.codeIn K cd2 "_law_draw" = true)
    (k2 : PySem.W.keepIn K (.ref f2) = true)
    (a3 : PySem.W.nsIn K mainGlobals "_law_alike" = some (some (.ref f3)))
    (l3 : K.lookup f3 = some ⟨oc3, od3, .func (PySem.W.fnOf "_law_alike" "_law_alike" (defArgs sLawAlike) (defBody sLawAlike) (defScope sLawAlike) .none kV3 dc3 pm3 an3 cd3 ct3), sl3⟩)
    (c3 : PySem.W.codeIn K cd3 "_law_alike" = true)
    (k3 : PySem.W.keepIn K (.ref f3) = true)
    (a4 : PySem.W.nsIn K mainGlobals "_law_kinds" = some (some (.ref f4)))
    (l4 : K.lookup f4 = some ⟨oc4, od4, .func (PySem.W.fnOf "_law_kinds" "_law_kinds" (defArgs sLawKinds) (defBody sLawKinds) (defScope sLawKinds) .none kV4 dc4 pm4 an4 cd4 ct4), sl4⟩)
    (c4 : PySem.W.codeIn K cd4 "_law_kinds" = true)
    (k4 : PySem.W.keepIn K (.ref f4) = true)
    (a5 : PySem.W.nsIn K mainGlobals "law" = some (some (.ref f5)))
    (l5 : K.lookup f5 = some ⟨oc5, od5, .func (PySem.W.fnOf "law" "law" (defArgs sLaw) (defBody sLaw) (defScope sLaw) .none kV5 dc5 pm5 an5 cd5 ct5), sl5⟩)
    (c5 : PySem.W.codeIn K cd5 "law" = true)
    (k5 : PySem.W.keepIn K (.ref f5) = true)
    (z_int : PySem.W.nsIn K mainGlobals "int" = some none)
    (z_abs : PySem.W.nsIn K mainGlobals "abs" = some none)
    (z_len : PySem.W.nsIn K mainGlobals "len" = some none)
    (z_range : PySem.W.nsIn K mainGlobals "range" = some none)
    (z_isinstance : PySem.W.nsIn K mainGlobals "isinstance" = some none)
    (z_all : PySem.W.nsIn K mainGlobals "all" = some none)
    (z_list : PySem.W.nsIn K mainGlobals "list" = some none)
    (z_tuple : PySem.W.nsIn K mainGlobals "tuple" = some none)
    (z_bool : PySem.W.nsIn K mainGlobals "bool" = some none)
    (z_str : PySem.W.nsIn K mainGlobals "str" = some none)
    (z_ValueError : PySem.W.nsIn K mainGlobals "ValueError" = some none)
    (g0 : PySem.W.nsIn K mainGlobals "InvalidClub" = some (some (.ref A0)))
    (g1 : PySem.W.nsIn K mainGlobals "InvalidDay" = some (some (.ref A1)))
    (g2 : PySem.W.nsIn K mainGlobals "InvalidDraws" = some (some (.ref A2)))
    (g3 : PySem.W.nsIn K mainGlobals "InvalidGroup" = some (some (.ref A3)))
    (g4 : PySem.W.nsIn K mainGlobals "InvalidIndex" = some (some (.ref A4)))
    (g5 : PySem.W.nsIn K mainGlobals "InvalidLinks" = some (some (.ref A5)))
    (g6 : PySem.W.nsIn K mainGlobals "InvalidMember" = some (some (.ref A6)))
    (g7 : PySem.W.nsIn K mainGlobals "InvalidName" = some (some (.ref A7)))
    (g8 : PySem.W.nsIn K mainGlobals "InvalidNumber" = some (some (.ref A8)))
    (g9 : PySem.W.nsIn K mainGlobals "InvalidSheet" = some (some (.ref A9)))
    (g10 : PySem.W.nsIn K mainGlobals "InvalidWay" = some (some (.ref A10)))
    (g11 : PySem.W.nsIn K mainGlobals "NoLink" = some (some (.ref A11)))
    (g12 : PySem.W.nsIn K mainGlobals "NothingToUndo" = some (some (.ref A12)))
    (g13 : PySem.W.nsIn K mainGlobals "Impossible" = some (some (.ref A13)))
    (g14 : PySem.W.nsIn K mainGlobals "InvalidText" = some (some (.ref A14)))
    (g15 : PySem.W.nsIn K mainGlobals "ClubError" = some (some (.ref A15)))
    (inj : ∀ i j : Fin 16, ([A0, A1, A2, A3, A4, A5, A6, A7, A8, A9, A10, A11, A12, A13, A14, A15] : List Addr).getD i.val 0 = ([A0, A1, A2, A3, A4, A5, A6, A7, A8, A9, A10, A11, A12, A13, A14, A15] : List Addr).getD j.val 0 → i = j)
    (hn : PySem.W.specialIn K (.builtin "object.__class__") "__get__" = some (some (.builtin "getset_descriptor.__get__")))
    (ht : PySem.W.takesIn K (.builtin "object.__class__") = some true)
    (e0 : PySem.W.clsIn K A0 = some d0)
    (m0 : d0.mro = mroL A0 A15)
    (t0 : PySem.W.typeIn K (.ref A0) = some (.type "type"))
    (p0 : PySem.W.keepIn K (.ref A0) = true)
    (hg0 : PySem.W.findIn K (.ref A0) "__getattribute__" = some (some (.builtin "BaseException.__getattribute__")))
    (hk0 : PySem.W.findIn K (.ref A0) "__getattr__" = some none)
    (hd0 : PySem.W.hasDictIn K A0 = true)
    (ha0 : PySem.W.findIn K (.ref A0) "__class__" = some (some (.builtin "object.__class__")))
    (x0 : PySem.W.excIn K A0 [.type "ValueError", .type "Exception", .type "BaseException", .type "object"] "ValueError.__new__" = true)
    (w0 : PySem.W.findIn K (.ref A0) "word" = some none)
    (n0 : PySem.W.findIn K (.ref A0) "number" = some none)
    (q0 : PySem.W.findIn K (.ref A0) "place" = some none)
    (e1 : PySem.W.clsIn K A1 = some d1)
    (m1 : d1.mro = mroL A1 A15)
    (t1 : PySem.W.typeIn K (.ref A1) = some (.type "type"))
    (p1 : PySem.W.keepIn K (.ref A1) = true)
    (hg1 : PySem.W.findIn K (.ref A1) "__getattribute__" = some (some (.builtin "BaseException.__getattribute__")))
    (hk1 : PySem.W.findIn K (.ref A1) "__getattr__" = some none)
    (hd1 : PySem.W.hasDictIn K A1 = true)
    (ha1 : PySem.W.findIn K (.ref A1) "__class__" = some (some (.builtin "object.__class__")))
    (x1 : PySem.W.excIn K A1 [.type "ValueError", .type "Exception", .type "BaseException", .type "object"] "ValueError.__new__" = true)
    (w1 : PySem.W.findIn K (.ref A1) "word" = some none)
    (n1 : PySem.W.findIn K (.ref A1) "number" = some none)
    (q1 : PySem.W.findIn K (.ref A1) "place" = some none)
    (e2 : PySem.W.clsIn K A2 = some d2)
    (m2 : d2.mro = mroL A2 A15)
    (t2 : PySem.W.typeIn K (.ref A2) = some (.type "type"))
    (p2 : PySem.W.keepIn K (.ref A2) = true)
    (hg2 : PySem.W.findIn K (.ref A2) "__getattribute__" = some (some (.builtin "BaseException.__getattribute__")))
    (hk2 : PySem.W.findIn K (.ref A2) "__getattr__" = some none)
    (hd2 : PySem.W.hasDictIn K A2 = true)
    (ha2 : PySem.W.findIn K (.ref A2) "__class__" = some (some (.builtin "object.__class__")))
    (x2 : PySem.W.excIn K A2 [.type "ValueError", .type "Exception", .type "BaseException", .type "object"] "ValueError.__new__" = true)
    (w2 : PySem.W.findIn K (.ref A2) "word" = some none)
    (n2 : PySem.W.findIn K (.ref A2) "number" = some none)
    (q2 : PySem.W.findIn K (.ref A2) "place" = some none)
    (e3 : PySem.W.clsIn K A3 = some d3)
    (m3 : d3.mro = mroL A3 A15)
    (t3 : PySem.W.typeIn K (.ref A3) = some (.type "type"))
    (p3 : PySem.W.keepIn K (.ref A3) = true)
    (hg3 : PySem.W.findIn K (.ref A3) "__getattribute__" = some (some (.builtin "BaseException.__getattribute__")))
    (hk3 : PySem.W.findIn K (.ref A3) "__getattr__" = some none)
    (hd3 : PySem.W.hasDictIn K A3 = true)
    (ha3 : PySem.W.findIn K (.ref A3) "__class__" = some (some (.builtin "object.__class__")))
    (x3 : PySem.W.excIn K A3 [.type "ValueError", .type "Exception", .type "BaseException", .type "object"] "ValueError.__new__" = true)
    (w3 : PySem.W.findIn K (.ref A3) "word" = some none)
    (n3 : PySem.W.findIn K (.ref A3) "number" = some none)
    (q3 : PySem.W.findIn K (.ref A3) "place" = some none)
    (e4 : PySem.W.clsIn K A4 = some d4)
    (m4 : d4.mro = mroL A4 A15)
    (t4 : PySem.W.typeIn K (.ref A4) = some (.type "type"))
    (p4 : PySem.W.keepIn K (.ref A4) = true)
    (hg4 : PySem.W.findIn K (.ref A4) "__getattribute__" = some (some (.builtin "BaseException.__getattribute__")))
    (hk4 : PySem.W.findIn K (.ref A4) "__getattr__" = some none)
    (hd4 : PySem.W.hasDictIn K A4 = true)
    (ha4 : PySem.W.findIn K (.ref A4) "__class__" = some (some (.builtin "object.__class__")))
    (x4 : PySem.W.excIn K A4 [.type "ValueError", .type "Exception", .type "BaseException", .type "object"] "ValueError.__new__" = true)
    (w4 : PySem.W.findIn K (.ref A4) "word" = some none)
    (n4 : PySem.W.findIn K (.ref A4) "number" = some none)
    (q4 : PySem.W.findIn K (.ref A4) "place" = some none)
    (e5 : PySem.W.clsIn K A5 = some d5)
    (m5 : d5.mro = mroL A5 A15)
    (t5 : PySem.W.typeIn K (.ref A5) = some (.type "type"))
    (p5 : PySem.W.keepIn K (.ref A5) = true)
    (hg5 : PySem.W.findIn K (.ref A5) "__getattribute__" = some (some (.builtin "BaseException.__getattribute__")))
    (hk5 : PySem.W.findIn K (.ref A5) "__getattr__" = some none)
    (hd5 : PySem.W.hasDictIn K A5 = true)
    (ha5 : PySem.W.findIn K (.ref A5) "__class__" = some (some (.builtin "object.__class__")))
    (x5 : PySem.W.excIn K A5 [.type "ValueError", .type "Exception", .type "BaseException", .type "object"] "ValueError.__new__" = true)
    (w5 : PySem.W.findIn K (.ref A5) "word" = some none)
    (n5 : PySem.W.findIn K (.ref A5) "number" = some none)
    (q5 : PySem.W.findIn K (.ref A5) "place" = some none)
    (e6 : PySem.W.clsIn K A6 = some d6)
    (m6 : d6.mro = mroL A6 A15)
    (t6 : PySem.W.typeIn K (.ref A6) = some (.type "type"))
    (p6 : PySem.W.keepIn K (.ref A6) = true)
    (hg6 : PySem.W.findIn K (.ref A6) "__getattribute__" = some (some (.builtin "BaseException.__getattribute__")))
    (hk6 : PySem.W.findIn K (.ref A6) "__getattr__" = some none)
    (hd6 : PySem.W.hasDictIn K A6 = true)
    (ha6 : PySem.W.findIn K (.ref A6) "__class__" = some (some (.builtin "object.__class__")))
    (x6 : PySem.W.excIn K A6 [.type "ValueError", .type "Exception", .type "BaseException", .type "object"] "ValueError.__new__" = true)
    (w6 : PySem.W.findIn K (.ref A6) "word" = some none)
    (n6 : PySem.W.findIn K (.ref A6) "number" = some none)
    (q6 : PySem.W.findIn K (.ref A6) "place" = some none)
    (e7 : PySem.W.clsIn K A7 = some d7)
    (m7 : d7.mro = mroL A7 A15)
    (t7 : PySem.W.typeIn K (.ref A7) = some (.type "type"))
    (p7 : PySem.W.keepIn K (.ref A7) = true)
    (hg7 : PySem.W.findIn K (.ref A7) "__getattribute__" = some (some (.builtin "BaseException.__getattribute__")))
    (hk7 : PySem.W.findIn K (.ref A7) "__getattr__" = some none)
    (hd7 : PySem.W.hasDictIn K A7 = true)
    (ha7 : PySem.W.findIn K (.ref A7) "__class__" = some (some (.builtin "object.__class__")))
    (x7 : PySem.W.excIn K A7 [.type "ValueError", .type "Exception", .type "BaseException", .type "object"] "ValueError.__new__" = true)
    (w7 : PySem.W.findIn K (.ref A7) "word" = some none)
    (n7 : PySem.W.findIn K (.ref A7) "number" = some none)
    (q7 : PySem.W.findIn K (.ref A7) "place" = some none)
    (e8 : PySem.W.clsIn K A8 = some d8)
    (m8 : d8.mro = mroL A8 A15)
    (t8 : PySem.W.typeIn K (.ref A8) = some (.type "type"))
    (p8 : PySem.W.keepIn K (.ref A8) = true)
    (hg8 : PySem.W.findIn K (.ref A8) "__getattribute__" = some (some (.builtin "BaseException.__getattribute__")))
    (hk8 : PySem.W.findIn K (.ref A8) "__getattr__" = some none)
    (hd8 : PySem.W.hasDictIn K A8 = true)
    (ha8 : PySem.W.findIn K (.ref A8) "__class__" = some (some (.builtin "object.__class__")))
    (x8 : PySem.W.excIn K A8 [.type "ValueError", .type "Exception", .type "BaseException", .type "object"] "ValueError.__new__" = true)
    (w8 : PySem.W.findIn K (.ref A8) "word" = some none)
    (n8 : PySem.W.findIn K (.ref A8) "number" = some none)
    (q8 : PySem.W.findIn K (.ref A8) "place" = some none)
    (e9 : PySem.W.clsIn K A9 = some d9)
    (m9 : d9.mro = mroL A9 A15)
    (t9 : PySem.W.typeIn K (.ref A9) = some (.type "type"))
    (p9 : PySem.W.keepIn K (.ref A9) = true)
    (hg9 : PySem.W.findIn K (.ref A9) "__getattribute__" = some (some (.builtin "BaseException.__getattribute__")))
    (hk9 : PySem.W.findIn K (.ref A9) "__getattr__" = some none)
    (hd9 : PySem.W.hasDictIn K A9 = true)
    (ha9 : PySem.W.findIn K (.ref A9) "__class__" = some (some (.builtin "object.__class__")))
    (x9 : PySem.W.excIn K A9 [.type "ValueError", .type "Exception", .type "BaseException", .type "object"] "ValueError.__new__" = true)
    (w9 : PySem.W.findIn K (.ref A9) "word" = some none)
    (n9 : PySem.W.findIn K (.ref A9) "number" = some none)
    (q9 : PySem.W.findIn K (.ref A9) "place" = some none)
    (e10 : PySem.W.clsIn K A10 = some d10)
    (m10 : d10.mro = mroL A10 A15)
    (t10 : PySem.W.typeIn K (.ref A10) = some (.type "type"))
    (p10 : PySem.W.keepIn K (.ref A10) = true)
    (hg10 : PySem.W.findIn K (.ref A10) "__getattribute__" = some (some (.builtin "BaseException.__getattribute__")))
    (hk10 : PySem.W.findIn K (.ref A10) "__getattr__" = some none)
    (hd10 : PySem.W.hasDictIn K A10 = true)
    (ha10 : PySem.W.findIn K (.ref A10) "__class__" = some (some (.builtin "object.__class__")))
    (x10 : PySem.W.excIn K A10 [.type "ValueError", .type "Exception", .type "BaseException", .type "object"] "ValueError.__new__" = true)
    (w10 : PySem.W.findIn K (.ref A10) "word" = some none)
    (n10 : PySem.W.findIn K (.ref A10) "number" = some none)
    (q10 : PySem.W.findIn K (.ref A10) "place" = some none)
    (e11 : PySem.W.clsIn K A11 = some d11)
    (m11 : d11.mro = mroL A11 A15)
    (t11 : PySem.W.typeIn K (.ref A11) = some (.type "type"))
    (p11 : PySem.W.keepIn K (.ref A11) = true)
    (hg11 : PySem.W.findIn K (.ref A11) "__getattribute__" = some (some (.builtin "BaseException.__getattribute__")))
    (hk11 : PySem.W.findIn K (.ref A11) "__getattr__" = some none)
    (hd11 : PySem.W.hasDictIn K A11 = true)
    (ha11 : PySem.W.findIn K (.ref A11) "__class__" = some (some (.builtin "object.__class__")))
    (x11 : PySem.W.excIn K A11 [.type "ValueError", .type "Exception", .type "BaseException", .type "object"] "ValueError.__new__" = true)
    (w11 : PySem.W.findIn K (.ref A11) "word" = some none)
    (n11 : PySem.W.findIn K (.ref A11) "number" = some none)
    (q11 : PySem.W.findIn K (.ref A11) "place" = some none)
    (e12 : PySem.W.clsIn K A12 = some d12)
    (m12 : d12.mro = mroL A12 A15)
    (t12 : PySem.W.typeIn K (.ref A12) = some (.type "type"))
    (p12 : PySem.W.keepIn K (.ref A12) = true)
    (hg12 : PySem.W.findIn K (.ref A12) "__getattribute__" = some (some (.builtin "BaseException.__getattribute__")))
    (hk12 : PySem.W.findIn K (.ref A12) "__getattr__" = some none)
    (hd12 : PySem.W.hasDictIn K A12 = true)
    (ha12 : PySem.W.findIn K (.ref A12) "__class__" = some (some (.builtin "object.__class__")))
    (x12 : PySem.W.excIn K A12 [.type "ValueError", .type "Exception", .type "BaseException", .type "object"] "ValueError.__new__" = true)
    (w12 : PySem.W.findIn K (.ref A12) "word" = some none)
    (n12 : PySem.W.findIn K (.ref A12) "number" = some none)
    (q12 : PySem.W.findIn K (.ref A12) "place" = some none)
    (e13 : PySem.W.clsIn K A13 = some d13)
    (m13 : d13.mro = mroL A13 A15)
    (t13 : PySem.W.typeIn K (.ref A13) = some (.type "type"))
    (p13 : PySem.W.keepIn K (.ref A13) = true)
    (hg13 : PySem.W.findIn K (.ref A13) "__getattribute__" = some (some (.builtin "BaseException.__getattribute__")))
    (hk13 : PySem.W.findIn K (.ref A13) "__getattr__" = some none)
    (hd13 : PySem.W.hasDictIn K A13 = true)
    (ha13 : PySem.W.findIn K (.ref A13) "__class__" = some (some (.builtin "object.__class__")))
    (w13 : PySem.W.findIn K (.ref A13) "word" = some none)
    (n13 : PySem.W.findIn K (.ref A13) "number" = some none)
    (q13 : PySem.W.findIn K (.ref A13) "place" = some none)
    (e14 : PySem.W.clsIn K A14 = some d14)
    (m14 : d14.mro = mroL A14 A15)
    (t14 : PySem.W.typeIn K (.ref A14) = some (.type "type"))
    (p14 : PySem.W.keepIn K (.ref A14) = true)
    (hg14 : PySem.W.findIn K (.ref A14) "__getattribute__" = some (some (.builtin "BaseException.__getattribute__")))
    (hk14 : PySem.W.findIn K (.ref A14) "__getattr__" = some none)
    (hd14 : PySem.W.hasDictIn K A14 = true)
    (ha14 : PySem.W.findIn K (.ref A14) "__class__" = some (some (.builtin "object.__class__")))
    (w14 : PySem.W.findIn K (.ref A14) "word" = some none)
    (n14 : PySem.W.findIn K (.ref A14) "number" = some none)
    (q14 : PySem.W.findIn K (.ref A14) "place" = some none)
    (e15 : PySem.W.clsIn K A15 = some d15)
    (m15 : d15.mro = [.ref A15, .type "ValueError", .type "Exception", .type "BaseException", .type "object"])
    (t15 : PySem.W.typeIn K (.ref A15) = some (.type "type"))
    (p15 : PySem.W.keepIn K (.ref A15) = true)
    (hg15 : PySem.W.findIn K (.ref A15) "__getattribute__" = some (some (.builtin "BaseException.__getattribute__")))
    (hk15 : PySem.W.findIn K (.ref A15) "__getattr__" = some none)
    (hd15 : PySem.W.hasDictIn K A15 = true)
    (ha15 : PySem.W.findIn K (.ref A15) "__class__" = some (some (.builtin "object.__class__")))
    (x15 : PySem.W.excIn K A15 [.type "ValueError", .type "Exception", .type "BaseException", .type "object"] "ValueError.__new__" = true)
    (w15 : PySem.W.findIn K (.ref A15) "word" = some none)
    (n15 : PySem.W.findIn K (.ref A15) "number" = some none)
    (q15 : PySem.W.findIn K (.ref A15) "place" = some none)
    (L13 : K.lookup A13 = some (excClassObj nm13 qq13 A13 N13 bs13 bm13 true sn13 sub13 ab13 col13 dd13 xka13 xkb13 xkc13 xkd13 xke13 "ValueError.__new__"))
    (V13 : PySem.HandSPX.refsVE bm13 = true)
    (S13 : PySem.W.findIn K (.ref A13) "__setattr__" = some (some (.builtin "object.__setattr__")))
    (X13 : PySem.W.subIn K (.ref A13) (.type "BaseException") = some true)
    (J13 : PySem.W.findIn K (.ref A13) "__init__" = some (some (.ref I13)))
    (Y13 : PySem.W.typeIn K (.ref I13) = some (.type "function"))
    (il13 : K.lookup I13 = some ⟨ioc13, iod13, .func (PySem.W.fnOf "__init__" "Impossible.__init__" (defArgs sImp) (defBody sImp) (defScope sImp) .none ikV13 idc13 ipm13 ian13 icd13 ict13), isl13⟩)
    (ic13 : PySem.W.codeIn K icd13 "Impossible.__init__" = true)
    (ik13 : PySem.W.keepIn K (.ref I13) = true)
    (L14 : K.lookup A14 = some (excClassObj nm14 qq14 A14 N14 bs14 bm14 true sn14 sub14 ab14 col14 dd14 xka14 xkb14 xkc14 xkd14 xke14 "ValueError.__new__"))
    (V14 : PySem.HandSPX.refsVE bm14 = true)
    (S14 : PySem.W.findIn K (.ref A14) "__setattr__" = some (some (.builtin "object.__setattr__")))
    (X14 : PySem.W.subIn K (.ref A14) (.type "BaseException") = some true)
    (J14 : PySem.W.findIn K (.ref A14) "__init__" = some (some (.ref I14)))
    (Y14 : PySem.W.typeIn K (.ref I14) = some (.type "function"))
    (il14 : K.lookup I14 = some ⟨ioc14, iod14, .func (PySem.W.fnOf "__init__" "InvalidText.__init__" (defArgs sTxt) (defBody sTxt) (defScope sTxt) .none ikV14 idc14 ipm14 ian14 icd14 ict14), isl14⟩)
    (ic14 : PySem.W.codeIn K icd14 "InvalidText.__init__" = true)
    (ik14 : PySem.W.keepIn K (.ref I14) = true)
    : ∃ fd : FuncData, (∀ (s : Shared) (v : Value), BindsTo s fd ⟨[v], []⟩ [("script", v)]) ∧ ∀ base : Heap, K.In base → base.Ns mainGlobals mg → FnOk l.prog w K mg base CX0 3 fa fd ["script"] (spLaw K) := by
  have e := hfa.symm.trans (PySem.W.mg_of X G a5)
  cases e
  have F0 := fun_mk (st := sLawBag) l0 c0 k0
  have b0 := F0.binds (ps := ["script"]) fun _ _ _ _ _ _ us hl => match us, hl with | [_], _ => rfl
  have F1 := fun_mk (st := sLawStirred) l1 c1 k1
  have b1 := F1.binds (ps := ["bag", "wide"]) fun _ _ _ _ _ _ us hl => match us, hl with | [_, _], _ => rfl
  have F2 := fun_mk (st := sLawDraw) l2 c2 k2
  have b2 := F2.binds (ps := ["bag", "wide"]) fun _ _ _ _ _ _ us hl => match us, hl with | [_, _], _ => rfl
  have F3 := fun_mk (st := sLawAlike) l3 c3 k3
  have b3 := F3.binds (ps := ["found", "due"]) fun _ _ _ _ _ _ us hl => match us, hl with | [_, _], _ => rfl
  have F4 := fun_mk (st := sLawKinds) l4 c4 k4
  have b4 := F4.binds (ps := ["e"]) fun _ _ _ _ _ _ us hl => match us, hl with | [_], _ => rfl
  have F5 := fun_mk (st := sLaw) l5 c5 k5
  have b5 := F5.binds (ps := ["script"]) fun _ _ _ _ _ _ us hl => match us, hl with | [_], _ => rfl
  have B : Bn2 mg := ⟨⟨PySem.W.mg_none_of X G z_int, PySem.W.mg_none_of X G z_abs, PySem.W.mg_none_of X G z_len, PySem.W.mg_none_of X G z_range, PySem.W.mg_none_of X G z_isinstance, PySem.W.mg_none_of X G z_all⟩, PySem.W.mg_none_of X G z_list, PySem.W.mg_none_of X G z_tuple, PySem.W.mg_none_of X G z_bool, PySem.W.mg_none_of X G z_str, PySem.W.mg_none_of X G z_ValueError⟩
  have X16 := all16 (P := fun i => XT K mg (nm i) (([A0, A1, A2, A3, A4, A5, A6, A7, A8, A9, A10, A11, A12, A13, A14, A15] : List Addr).getD i 0) (mroOf (fun i => ([A0, A1, A2, A3, A4, A5, A6, A7, A8, A9, A10, A11, A12, A13, A14, A15] : List Addr).getD i 0) i)) (xt_mk ⟨_, rfl⟩ rfl rfl (PySem.W.mg_of X G g0) e0 m0 t0 p0 hg0 hk0 hd0 ha0 hn ht) (xt_mk ⟨_, rfl⟩ rfl rfl (PySem.W.mg_of X G g1) e1 m1 t1 p1 hg1 hk1 hd1 ha1 hn ht) (xt_mk ⟨_, rfl⟩ rfl rfl (PySem.W.mg_of X G g2) e2 m2 t2 p2 hg2 hk2 hd2 ha2 hn ht) (xt_mk ⟨_, rfl⟩ rfl rfl (PySem.W.mg_of X G g3) e3 m3 t3 p3 hg3 hk3 hd3 ha3 hn ht) (xt_mk ⟨_, rfl⟩ rfl rfl (PySem.W.mg_of X G g4) e4 m4 t4 p4 hg4 hk4 hd4 ha4 hn ht) (xt_mk ⟨_, rfl⟩ rfl rfl (PySem.W.mg_of X G g5) e5 m5 t5 p5 hg5 hk5 hd5 ha5 hn ht) (xt_mk ⟨_, rfl⟩ rfl rfl (PySem.W.mg_of X G g6) e6 m6 t6 p6 hg6 hk6 hd6 ha6 hn ht) (xt_mk ⟨_, rfl⟩ rfl rfl (PySem.W.mg_of X G g7) e7 m7 t7 p7 hg7 hk7 hd7 ha7 hn ht) (xt_mk ⟨_, rfl⟩ rfl rfl (PySem.W.mg_of X G g8) e8 m8 t8 p8 hg8 hk8 hd8 ha8 hn ht) (xt_mk ⟨_, rfl⟩ rfl rfl (PySem.W.mg_of X G g9) e9 m9 t9 p9 hg9 hk9 hd9 ha9 hn ht) (xt_mk ⟨_, rfl⟩ rfl rfl (PySem.W.mg_of X G g10) e10 m10 t10 p10 hg10 hk10 hd10 ha10 hn ht) (xt_mk ⟨_, rfl⟩ rfl rfl (PySem.W.mg_of X G g11) e11 m11 t11 p11 hg11 hk11 hd11 ha11 hn ht) (xt_mk ⟨_, rfl⟩ rfl rfl (PySem.W.mg_of X G g12) e12 m12 t12 p12 hg12 hk12 hd12 ha12 hn ht) (xt_mk ⟨_, rfl⟩ rfl rfl (PySem.W.mg_of X G g13) e13 m13 t13 p13 hg13 hk13 hd13 ha13 hn ht) (xt_mk ⟨_, rfl⟩ rfl rfl (PySem.W.mg_of X G g14) e14 m14 t14 p14 hg14 hk14 hd14 ha14 hn ht) (xt_mk ⟨_, rfl⟩ rfl rfl (PySem.W.mg_of X G g15) e15 m15 t15 p15 hg15 hk15 hd15 ha15 hn ht)
  have T : Txt16 K mg (fun i => ([A0, A1, A2, A3, A4, A5, A6, A7, A8, A9, A10, A11, A12, A13, A14, A15] : List Addr).getD i 0) := ⟨fun i j hi hj z => congrArg Fin.val (inj ⟨i, hi⟩ ⟨j, hj⟩ z), X16, all16 (fun _ _ => x0) (fun _ _ => x1) (fun _ _ => x2) (fun _ _ => x3) (fun _ _ => x4) (fun _ _ => x5) (fun _ _ => x6) (fun _ _ => x7) (fun _ _ => x8) (fun _ _ => x9) (fun _ _ => x10) (fun _ _ => x11) (fun _ _ => x12) (fun h _ => absurd rfl h) (fun _ h => absurd rfl h) (fun _ _ => x15), all16 (fun x hx => by
    simp only [List.mem_cons, List.not_mem_nil, or_false] at hx
    rcases hx with rfl | rfl | rfl
    · exact w0
    · exact n0
    · exact q0) (fun x hx => by
    simp only [List.mem_cons, List.not_mem_nil, or_false] at hx
    rcases hx with rfl | rfl | rfl
    · exact w1
    · exact n1
    · exact q1) (fun x hx => by
    simp only [List.mem_cons, List.not_mem_nil, or_false] at hx
    rcases hx with rfl | rfl | rfl
    · exact w2
    · exact n2
    · exact q2) (fun x hx => by
    simp only [List.mem_cons, List.not_mem_nil, or_false] at hx
    rcases hx with rfl | rfl | rfl
    · exact w3
    · exact n3
    · exact q3) (fun x hx => by
    simp only [List.mem_cons, List.not_mem_nil, or_false] at hx
    rcases hx with rfl | rfl | rfl
    · exact w4
    · exact n4
    · exact q4) (fun x hx => by
    simp only [List.mem_cons, List.not_mem_nil, or_false] at hx
    rcases hx with rfl | rfl | rfl
    · exact w5
    · exact n5
    · exact q5) (fun x hx => by
    simp only [List.mem_cons, List.not_mem_nil, or_false] at hx
    rcases hx with rfl | rfl | rfl
    · exact w6
    · exact n6
    · exact q6) (fun x hx => by
    simp only [List.mem_cons, List.not_mem_nil, or_false] at hx
    rcases hx with rfl | rfl | rfl
    · exact w7
    · exact n7
    · exact q7) (fun x hx => by
    simp only [List.mem_cons, List.not_mem_nil, or_false] at hx
    rcases hx with rfl | rfl | rfl
    · exact w8
    · exact n8
    · exact q8) (fun x hx => by
    simp only [List.mem_cons, List.not_mem_nil, or_false] at hx
    rcases hx with rfl | rfl | rfl
    · exact w9
    · exact n9
    · exact q9) (fun x hx => by
    simp only [List.mem_cons, List.not_mem_nil, or_false] at hx
    rcases hx with rfl | rfl | rfl
    · exact w10
    · exact n10
    · exact q10) (fun x hx => by
    simp only [List.mem_cons, List.not_mem_nil, or_false] at hx
    rcases hx with rfl | rfl | rfl
    · exact w11
    · exact n11
    · exact q11) (fun x hx => by
    simp only [List.mem_cons, List.not_mem_nil, or_false] at hx
    rcases hx with rfl | rfl | rfl
    · exact w12
    · exact n12
    · exact q12) (fun x hx => by
    simp only [List.mem_cons, List.not_mem_nil, or_false] at hx
    rcases hx with rfl | rfl | rfl
    · exact w13
    · exact n13
    · exact q13) (fun x hx => by
    simp only [List.mem_cons, List.not_mem_nil, or_false] at hx
    rcases hx with rfl | rfl | rfl
    · exact w14
    · exact n14
    · exact q14) (fun x hx => by
    simp only [List.mem_cons, List.not_mem_nil, or_false] at hx
    rcases hx with rfl | rfl | rfl
    · exact w15
    · exact n15
    · exact q15), oex_mk L13 V13 S13 X13 t13 p13, oex_mk L14 V14 S14 X14 t14 p14, ⟨hg13, hk13, X13, hd13⟩, ⟨hg14, hk14, X14, hd14⟩⟩
  have FI13 := fun_mk (st := sImp) il13 ic13 ik13
  have FI14 := fun_mk (st := sTxt) il14 ic14 ik14
  have bi13 := FI13.binds (ps := ["self", "word", "number"]) fun _ _ _ _ _ _ us hl => match us, hl with | [_, _, _], _ => rfl
  have bi14 := FI14.binds (ps := ["self", "place"]) fun _ _ _ _ _ _ us hl => match us, hl with | [_, _], _ => rfl
  refine ⟨PySem.W.fnOf "law" "law" (defArgs sLaw) (defBody sLaw) (defScope sLaw) .none kV5 dc5 pm5 an5 cd5 ct5, fun s v => .of_eq rfl, fun base _ _ => ?_⟩
  have I : Inis l.prog w K mg base (fun i => ([A0, A1, A2, A3, A4, A5, A6, A7, A8, A9, A10, A11, A12, A13, A14, A15] : List Addr).getD i 0) := ⟨⟨I13, _, J13, Y13, ok_imp FI13 T, bi13, K65.kb13 FI13⟩, ⟨I14, _, J14, Y14, ok_txt FI14 T, bi14, K65.kb14 FI14⟩⟩
  have C0 : Cal l.prog w K mg base 1 "_law_bag" ["script"] (spBag K) := ⟨f0, _, ok_bag F0 B.toBn, PySem.W.mg_of X G a0, k0, b0⟩
  have C1 : Cal l.prog w K mg base 1 "_law_stirred" ["bag", "wide"] spDraw := ⟨f1, _, ok_stirred F1 B.toBn, PySem.W.mg_of X G a1, k1, b1⟩
  have C2 : Cal l.prog w K mg base 2 "_law_draw" ["bag", "wide"] spDraw := ⟨f2, _, ok_draw F2 B.toBn C1, PySem.W.mg_of X G a2, k2, b2⟩
  have C3 : Cal l.prog w K mg base 1 "_law_alike" ["found", "due"] spA0 := ⟨f3, _, ok_alike0 F3 B, PySem.W.mg_of X G a3, k3, b3⟩
  have C3b : Cal l.prog w K mg base 2 "_law_alike" ["found", "due"] (spA1 K) := ⟨f3, _, ok_alike1 F3 B C3, PySem.W.mg_of X G a3, k3, b3⟩
  have C4 : Cal l.prog w K mg base 1 "_law_kinds" ["e"] (spKinds (fun i => ([A0, A1, A2, A3, A4, A5, A6, A7, A8, A9, A10, A11, A12, A13, A14, A15] : List Addr).getD i 0)) := ⟨f4, _, ok_kinds F4 B T, PySem.W.mg_of X G a4, k4, b4⟩
  exact ok_law F5 B T I C0 C2 C4 C3b
end K65
open PySem PySem.W PyProof.Rows
set_option maxHeartbeats 0 in
theorem PySem.Challenge.cw_broughtin_k65_errors_made_holds : PySem.Challenge.rw_broughtin_k65_errors_made.Holds := by
  w_on; o_law; k_head; (case hw => w_witness2)
  k_fill
  refine L2.walk_of (l := PySem.Challenge.rw_broughtin_k65_errors_made) (n := 63) (k := 3) (x := "script") (CX := fun _ => L2.CX0) (sp := fun w => K65.spLaw _) rfl (by decide) rfl ⟨rfl, by decide, by decide⟩ (fun w h Y => PySem.W.kIn_of Y) ?F (fun _ _ a ns hl _ hS => ⟨a, ns, rfl, hS, hl, fun _ => rfl⟩) (fun _ _ _ _ _ h => h)
  case F =>
    intro w mg fa h KX G hmg
    refine' K65.all_mk KX G hmg ?yy_a0 ?yy_l0 ?yy_c0 ?yy_k0 ?yy_a1 ?yy_l1 ?yy_c1 ?yy_k1 ?yy_a2 ?yy_l2 ?yy_c2 ?yy_k2 ?yy_a3 ?yy_l3 ?yy_c3 ?yy_k3 ?yy_a4 ?yy_l4 ?yy_c4 ?yy_k4 ?yy_a5 ?yy_l5 ?yy_c5 ?yy_k5 ?yy_z_int ?yy_z_abs ?yy_z_len ?yy_z_range ?yy_z_isinstance ?yy_z_all ?yy_z_list ?yy_z_tuple ?yy_z_bool ?yy_z_str ?yy_z_ValueError ?yy_g0 ?yy_g1 ?yy_g2 ?yy_g3 ?yy_g4 ?yy_g5 ?yy_g6 ?yy_g7 ?yy_g8 ?yy_g9 ?yy_g10 ?yy_g11 ?yy_g12 ?yy_g13 ?yy_g14 ?yy_g15 ?yy_inj ?yy_hn ?yy_ht ?yy_e0 ?yy_m0 ?yy_t0 ?yy_p0 ?yy_hg0 ?yy_hk0 ?yy_hd0 ?yy_ha0 ?yy_x0 ?yy_w0 ?yy_n0 ?yy_q0 ?yy_e1 ?yy_m1 ?yy_t1 ?yy_p1 ?yy_hg1 ?yy_hk1 ?yy_hd1 ?yy_ha1 ?yy_x1 ?yy_w1 ?yy_n1 ?yy_q1 ?yy_e2 ?yy_m2 ?yy_t2 ?yy_p2 ?yy_hg2 ?yy_hk2 ?yy_hd2 ?yy_ha2 ?yy_x2 ?yy_w2 ?yy_n2 ?yy_q2 ?yy_e3 ?yy_m3 ?yy_t3 ?yy_p3 ?yy_hg3 ?yy_hk3 ?yy_hd3 ?yy_ha3 ?yy_x3 ?yy_w3 ?yy_n3 ?yy_q3 ?yy_e4 ?yy_m4 ?yy_t4 ?yy_p4 ?yy_hg4 ?yy_hk4 ?yy_hd4 ?yy_ha4 ?yy_x4 ?yy_w4 ?yy_n4 ?yy_q4 ?yy_e5 ?yy_m5 ?yy_t5 ?yy_p5 ?yy_hg5 ?yy_hk5 ?yy_hd5 ?yy_ha5 ?yy_x5 ?yy_w5 ?yy_n5 ?yy_q5 ?yy_e6 ?yy_m6 ?yy_t6 ?yy_p6 ?yy_hg6 ?yy_hk6 ?yy_hd6 ?yy_ha6 ?yy_x6 ?yy_w6 ?yy_n6 ?yy_q6 ?yy_e7 ?yy_m7 ?yy_t7 ?yy_p7 ?yy_hg7 ?yy_hk7 ?yy_hd7 ?yy_ha7 ?yy_x7 ?yy_w7 ?yy_n7 ?yy_q7 ?yy_e8 ?yy_m8 ?yy_t8 ?yy_p8 ?yy_hg8 ?yy_hk8 ?yy_hd8 ?yy_ha8 ?yy_x8 ?yy_w8 ?yy_n8 ?yy_q8 ?yy_e9 ?yy_m9 ?yy_t9 ?yy_p9 ?yy_hg9 ?yy_hk9 ?yy_hd9 ?yy_ha9 ?yy_x9 ?yy_w9 ?yy_n9 ?yy_q9 ?yy_e10 ?yy_m10 ?yy_t10 ?yy_p10 ?yy_hg10 ?yy_hk10 ?yy_hd10 ?yy_ha10 ?yy_x10 ?yy_w10 ?yy_n10 ?yy_q10 ?yy_e11 ?yy_m11 ?yy_t11 ?yy_p11 ?yy_hg11 ?yy_hk11 ?yy_hd11 ?yy_ha11 ?yy_x11 ?yy_w11 ?yy_n11 ?yy_q11 ?yy_e12 ?yy_m12 ?yy_t12 ?yy_p12 ?yy_hg12 ?yy_hk12 ?yy_hd12 ?yy_ha12 ?yy_x12 ?yy_w12 ?yy_n12 ?yy_q12 ?yy_e13 ?yy_m13 ?yy_t13 ?yy_p13 ?yy_hg13 ?yy_hk13 ?yy_hd13 ?yy_ha13 ?yy_w13 ?yy_n13 ?yy_q13 ?yy_e14 ?yy_m14 ?yy_t14 ?yy_p14 ?yy_hg14 ?yy_hk14 ?yy_hd14 ?yy_ha14 ?yy_w14 ?yy_n14 ?yy_q14 ?yy_e15 ?yy_m15 ?yy_t15 ?yy_p15 ?yy_hg15 ?yy_hk15 ?yy_hd15 ?yy_ha15 ?yy_x15 ?yy_w15 ?yy_n15 ?yy_q15 ?yy_L13 ?yy_V13 ?yy_S13 ?yy_X13 ?yy_J13 ?yy_Y13 ?yy_il13 ?yy_ic13 ?yy_ik13 ?yy_L14 ?yy_V14 ?yy_S14 ?yy_X14 ?yy_J14 ?yy_Y14 ?yy_il14 ?yy_ic14 ?yy_ik14
    (case yy_a0 => k_is)
    (case yy_l0 => k_is)
    (case yy_c0 => k_is)
    (case yy_k0 => k_is)
    (case yy_a1 => k_is)
    (case yy_l1 => k_is)
    (case yy_c1 => k_is)
    (case yy_k1 => k_is)
    (case yy_a2 => k_is)
    (case yy_l2 => k_is)
    (case yy_c2 => k_is)
    (case yy_k2 => k_is)
    (case yy_a3 => k_is)
    (case yy_l3 => k_is)
    (case yy_c3 => k_is)
    (case yy_k3 => k_is)
    (case yy_a4 => k_is)
    (case yy_l4 => k_is)
    (case yy_c4 => k_is)
    (case yy_k4 => k_is)
    (case yy_a5 => k_is)
    (case yy_l5 => k_is)
    (case yy_c5 => k_is)
    (case yy_k5 => k_is)
    (case yy_z_int => k_is)
    (case yy_z_abs => k_is)
    (case yy_z_len => k_is)
    (case yy_z_range => k_is)
    (case yy_z_isinstance => k_is)
    (case yy_z_all => k_is)
    (case yy_z_list => k_is)
    (case yy_z_tuple => k_is)
    (case yy_z_bool => k_is)
    (case yy_z_str => k_is)
    (case yy_z_ValueError => k_is)
    (case yy_g0 => k_is)
    (case yy_g1 => k_is)
    (case yy_g2 => k_is)
    (case yy_g3 => k_is)
    (case yy_g4 => k_is)
    (case yy_g5 => k_is)
    (case yy_g6 => k_is)
    (case yy_g7 => k_is)
    (case yy_g8 => k_is)
    (case yy_g9 => k_is)
    (case yy_g10 => k_is)
    (case yy_g11 => k_is)
    (case yy_g12 => k_is)
    (case yy_g13 => k_is)
    (case yy_g14 => k_is)
    (case yy_g15 => k_is)
    (case yy_inj => exact by decide)
    (case yy_hn => k_is)
    (case yy_ht => k_is)
    (case yy_e0 => k_is)
    (case yy_m0 => rfl)
    (case yy_t0 => k_is)
    (case yy_p0 => k_is)
    (case yy_hg0 => k_is)
    (case yy_hk0 => k_is)
    (case yy_hd0 => k_is)
    (case yy_ha0 => k_is)
    (case yy_x0 => k_exc)
    (case yy_w0 => k_is)
    (case yy_n0 => k_is)
    (case yy_q0 => k_is)
    (case yy_e1 => k_is)
    (case yy_m1 => rfl)
    (case yy_t1 => k_is)
    (case yy_p1 => k_is)
    (case yy_hg1 => k_is)
    (case yy_hk1 => k_is)
    (case yy_hd1 => k_is)
    (case yy_ha1 => k_is)
    (case yy_x1 => k_exc)
    (case yy_w1 => k_is)
    (case yy_n1 => k_is)
    (case yy_q1 => k_is)
    (case yy_e2 => k_is)
    (case yy_m2 => rfl)
    (case yy_t2 => k_is)
    (case yy_p2 => k_is)
    (case yy_hg2 => k_is)
    (case yy_hk2 => k_is)
    (case yy_hd2 => k_is)
    (case yy_ha2 => k_is)
    (case yy_x2 => k_exc)
    (case yy_w2 => k_is)
    (case yy_n2 => k_is)
    (case yy_q2 => k_is)
    (case yy_e3 => k_is)
    (case yy_m3 => rfl)
    (case yy_t3 => k_is)
    (case yy_p3 => k_is)
    (case yy_hg3 => k_is)
    (case yy_hk3 => k_is)
    (case yy_hd3 => k_is)
    (case yy_ha3 => k_is)
    (case yy_x3 => k_exc)
    (case yy_w3 => k_is)
    (case yy_n3 => k_is)
    (case yy_q3 => k_is)
    (case yy_e4 => k_is)
    (case yy_m4 => rfl)
    (case yy_t4 => k_is)
    (case yy_p4 => k_is)
    (case yy_hg4 => k_is)
    (case yy_hk4 => k_is)
    (case yy_hd4 => k_is)
    (case yy_ha4 => k_is)
    (case yy_x4 => k_exc)
    (case yy_w4 => k_is)
    (case yy_n4 => k_is)
    (case yy_q4 => k_is)
    (case yy_e5 => k_is)
    (case yy_m5 => rfl)
    (case yy_t5 => k_is)
    (case yy_p5 => k_is)
    (case yy_hg5 => k_is)
    (case yy_hk5 => k_is)
    (case yy_hd5 => k_is)
    (case yy_ha5 => k_is)
    (case yy_x5 => k_exc)
    (case yy_w5 => k_is)
    (case yy_n5 => k_is)
    (case yy_q5 => k_is)
    (case yy_e6 => k_is)
    (case yy_m6 => rfl)
    (case yy_t6 => k_is)
    (case yy_p6 => k_is)
    (case yy_hg6 => k_is)
    (case yy_hk6 => k_is)
    (case yy_hd6 => k_is)
    (case yy_ha6 => k_is)
    (case yy_x6 => k_exc)
    (case yy_w6 => k_is)
    (case yy_n6 => k_is)
    (case yy_q6 => k_is)
    (case yy_e7 => k_is)
    (case yy_m7 => rfl)
    (case yy_t7 => k_is)
    (case yy_p7 => k_is)
    (case yy_hg7 => k_is)
    (case yy_hk7 => k_is)
    (case yy_hd7 => k_is)
    (case yy_ha7 => k_is)
    (case yy_x7 => k_exc)
    (case yy_w7 => k_is)
    (case yy_n7 => k_is)
    (case yy_q7 => k_is)
    (case yy_e8 => k_is)
    (case yy_m8 => rfl)
    (case yy_t8 => k_is)
    (case yy_p8 => k_is)
    (case yy_hg8 => k_is)
    (case yy_hk8 => k_is)
    (case yy_hd8 => k_is)
    (case yy_ha8 => k_is)
    (case yy_x8 => k_exc)
    (case yy_w8 => k_is)
    (case yy_n8 => k_is)
    (case yy_q8 => k_is)
    (case yy_e9 => k_is)
    (case yy_m9 => rfl)
    (case yy_t9 => k_is)
    (case yy_p9 => k_is)
    (case yy_hg9 => k_is)
    (case yy_hk9 => k_is)
    (case yy_hd9 => k_is)
    (case yy_ha9 => k_is)
    (case yy_x9 => k_exc)
    (case yy_w9 => k_is)
    (case yy_n9 => k_is)
    (case yy_q9 => k_is)
    (case yy_e10 => k_is)
    (case yy_m10 => rfl)
    (case yy_t10 => k_is)
    (case yy_p10 => k_is)
    (case yy_hg10 => k_is)
    (case yy_hk10 => k_is)
    (case yy_hd10 => k_is)
    (case yy_ha10 => k_is)
    (case yy_x10 => k_exc)
    (case yy_w10 => k_is)
    (case yy_n10 => k_is)
    (case yy_q10 => k_is)
    (case yy_e11 => k_is)
    (case yy_m11 => rfl)
    (case yy_t11 => k_is)
    (case yy_p11 => k_is)
    (case yy_hg11 => k_is)
    (case yy_hk11 => k_is)
    (case yy_hd11 => k_is)
    (case yy_ha11 => k_is)
    (case yy_x11 => k_exc)
    (case yy_w11 => k_is)
    (case yy_n11 => k_is)
    (case yy_q11 => k_is)
    (case yy_e12 => k_is)
    (case yy_m12 => rfl)
    (case yy_t12 => k_is)
    (case yy_p12 => k_is)
    (case yy_hg12 => k_is)
    (case yy_hk12 => k_is)
    (case yy_hd12 => k_is)
    (case yy_ha12 => k_is)
    (case yy_x12 => k_exc)
    (case yy_w12 => k_is)
    (case yy_n12 => k_is)
    (case yy_q12 => k_is)
    (case yy_e13 => k_is)
    (case yy_m13 => rfl)
    (case yy_t13 => k_is)
    (case yy_p13 => k_is)
    (case yy_hg13 => k_is)
    (case yy_hk13 => k_is)
    (case yy_hd13 => k_is)
    (case yy_ha13 => k_is)
    (case yy_w13 => k_is)
    (case yy_n13 => k_is)
    (case yy_q13 => k_is)
    (case yy_e14 => k_is)
    (case yy_m14 => rfl)
    (case yy_t14 => k_is)
    (case yy_p14 => k_is)
    (case yy_hg14 => k_is)
    (case yy_hk14 => k_is)
    (case yy_hd14 => k_is)
    (case yy_ha14 => k_is)
    (case yy_w14 => k_is)
    (case yy_n14 => k_is)
    (case yy_q14 => k_is)
    (case yy_e15 => k_is)
    (case yy_m15 => rfl)
    (case yy_t15 => k_is)
    (case yy_p15 => k_is)
    (case yy_hg15 => k_is)
    (case yy_hk15 => k_is)
    (case yy_hd15 => k_is)
    (case yy_ha15 => k_is)
    (case yy_x15 => k_exc)
    (case yy_w15 => k_is)
    (case yy_n15 => k_is)
    (case yy_q15 => k_is)
    (case yy_L13 => k_is)
    (case yy_V13 => rfl)
    (case yy_S13 => k_is)
    (case yy_X13 => k_is)
    (case yy_J13 => k_is)
    (case yy_Y13 => k_is)
    (case yy_il13 => k_is)
    (case yy_ic13 => k_is)
    (case yy_ik13 => k_is)
    (case yy_L14 => k_is)
    (case yy_V14 => rfl)
    (case yy_S14 => k_is)
    (case yy_X14 => k_is)
    (case yy_J14 => k_is)
    (case yy_Y14 => k_is)
    (case yy_il14 => k_is)
    (case yy_ic14 => k_is)
    (case yy_ik14 => k_is)
