import PyProof.Rows.All
import Wide.All
import OpenK.AllK
import Wide.FinOn
import HandS.ForMost
import HandS.ForExc
import HandS.ExcInit
import HandS.ExcField
import HandS.ExcIs
import HandS.IsInst
import HandS.Star
import HandS.Deep
import HandS.Style
import HandS.Wide
import KE.KExcIs
import KE.DataFind
import KE.BitLaws
import KE.KEqDeep
import HandS.Walk
import HandS.WrittenGet
import HandS.TupAny
import KE.DataEq
import PySem.Challenge.RW_wordmint_k45_layout_steps
set_option Elab.async false
set_option linter.all false
set_option maxRecDepth 100000
set_option maxHeartbeats 4000000
namespace My
open PySem PySem.Spec PyProof.Rows L2

/-! ### exceptions of the program: C(v) keeps v under one name -/
def spExc (C : Addr) (f : Str) : Sp := fun vs H Q _ => ∃ (a : Addr) (v : V), vs = [.ref a, v] ∧ H a = some (exo a C none) ∧
  ∀ dx, H dx = none → dx ≠ a → Q .non (upd (upd H dx (exd dx [(f, v)])) a (exo a C (some dx)))
/-- the error of C with v under f leaves -/
def Rz (C : Addr) (f : Str) (v : V) (H : Hp) (E : XK) : Prop := ∀ d, H d = none → E (.ref C) (some d) (upd H d (.xd [(f, v)]))
def tRz (C : Addr) (f : Str) (W : WX) (ta : TA) : TS := fun _ σ H => ta σ H fun vs H1 => ∃ v, vs = [v] ∧ ∀ d, H1 d = none → W (.ref C) (some d) σ (upd H1 d (.xd [(f, v)]))
theorem rz_heap {H : Hp} {a d C : Addr} {u : HO} {f : Str} {v : V} (ha : H a = none) (hd : d ≠ a) :
    upd (del (upd (upd (upd H a (exo a C none)) d u) a (exo a C (some d))) a) d (.xd [(f, v)]) = upd H d (.xd [(f, v)]) := by
  funext b
  by_cases h1 : b = d
  · rw [h1, upd_same, upd_same]
  · rw [upd_ne h1, upd_ne h1]
    by_cases h2 : b = a
    · rw [h2, del_same, ha]
    · rw [del_ne h2, upd_ne h2, upd_ne h1, upd_ne h2]
/-- a reading that may be weakened -/
def tW (ta : TA) : TA := fun σ H Q => ∃ Q0 : List V → Hp → Prop, ta σ H Q0 ∧ ∀ vs H1, Q0 vs H1 → Q vs H1
theorem pa_weak {X : Cx} {es : List Expr} {ta : TA} (h : PA X es ta) : PA X es (tW ta) := ⟨fun pos pins s σ H Q I ⟨Q0, q, w⟩ => thn (h.run pos pins s σ H Q0 I q) fun us s' ⟨vs, H1, I1, r, z⟩ => ⟨vs, H1, I1, r, w vs H1 z⟩⟩
theorem ps_rz {X : Cx} {W : WX} {x f : Str} {e : Expr} {ta : TA} {C fI : Addr} {k : Nat} {fd : FuncData} {ps : List Str} {p pos pos2 : Pos} (hc : X.calm = true) (tk : Takes X W) (T : OexC X.K C) (iC : PySem.W.findIn X.K (.ref C) "__init__" = some (some (.ref fI)))
    (tI : PySem.W.typeIn X.K (.ref fI) = some (.type "function")) (F1 : FnOk X.prog X.w X.K X.mg X.base (L2.CX X.prog X.w) k fI fd ps (spExc C f)) (hr : Room (k + 1) X.A) (hb : Binds X.K fd ps []) (hg : Gl X x) (hm : X.mg x = some (.ref C)) (ha : PA X [e] ta)
    (hdb : (x == ("__debug__" : Str)) = false := by decide) (he : starEach [e] X.env = (false, eval e X.env) :: starEach [] X.env := by rfl) (hpl : (backTo pos (starEach [] X.env)).any (·.1) = false := by rfl) :
    PS X (.Raise (some (.Call (.Name x p) [e] [] pos)) none pos2) (tRz C f W ta) := by
  have z := ps_raise (pos := pos2) hc tk (pmk_oex (p := p) (pos := pos) (dvs := []) (ds := []) T iC tI F1 hr hb .nil passL hg hm (pa_weak ha) hdb he hpl)
  refine ⟨fun pins s σ H D I h => z.run pins s σ H D I ?_⟩
  refine ⟨_, h, ?_⟩
  rintro vs H1 ⟨v, rfl, q⟩
  refine ⟨by show 1 ≤ 1000; decide, fun a ha => ⟨a, v, rfl, upd_same, fun dx hdx hne => ⟨rfl, dx, [(f, v)], upd_same, ?_, ?_, ?_⟩⟩⟩
  · rw [upd_ne hne, upd_same]
  · rw [upd_ne hne] at hdx
    exact hdx
  · rw [upd_ne hne] at hdx
    rw [rz_heap ha hne]
    exact q dx hdx
/-! ### isinstance of a caught error that keeps something -/
def rIsED (K : PySem.W.Frag) (a : Addr) (cls : Value) (d : Option Addr) : List V → Hp → VK → Prop := fun xs H Q => ∃ (D dd : Addr) (fs : List (Str × V)) (c : V) (cv : Value) (b : Bool), cls = .ref D ∧ d = some dd ∧ H dd = some (.xd fs) ∧ ExcC K D ∧ xs = [.ref a, c] ∧ ClsV c cv ∧
  PySem.W.kitOne K (.ref D) cv = some b ∧ Q (.bl b) H
theorem call_isED {X : Cx} {a : Addr} {cls : Value} {d : Option Addr} {oe : Obj} {pn : List (Addr × Obj)} (hz : Zc cls d oe) (hf : ∃ vs, oe.data = .fields vs) : CallR (X.suite a ((a, oe) :: pn)) (.builtin "isinstance") (rIsED X.K a cls d) := by
  intro pins s σ H xs us Q I r h
  obtain ⟨D, dd, fs, c, cv, b, ec, ed, hx, C, ex, hcv, e, q⟩ := h
  subst ec ed ex
  obtain ⟨u1, u2, rfl, r1, r2⟩ := vals2 r
  cases (show u1 = Value.ref a from r1)
  have e2 := hcv.eq r2
  subst e2
  obtain ⟨hget, _⟩ := I.pin (a, oe) (List.mem_append.mpr (.inl List.mem_cons_self))
  obtain ⟨vs, hv⟩ := hf
  obtain ⟨mA, hns, _⟩ := (show ObjOk X.prog X.w H s.heap dd (.xd fs) from I.hok dd _ hx)
  obtain ⟨od, ho, _⟩ := lookIn_ns hns
  have J : PySem.W.InstAt s.heap a oe D (some od) := ⟨hget, hz.1, by unfold PySem.W.notCls; rw [hv] <;> rfl, by rw [hz.2]; exact ho⟩
  have hcl : (PySem.W.clsIn X.K D).isSome = true := by
    obtain ⟨cd, hc, _⟩ := PySem.W.any_some C.hd
    rw [hc]; rfl
  exact PySem.W.kia_one (PySem.W.kitx_exc hcl C.hg C.hk C.hs C.ha C.hn C.ht C.hm) I.kIn J e (fun z => nomatch z) fun tk => ⟨.bl b, H, I.kept (t' := tk) fun _ _ z => z, rfl, q⟩
end My
namespace My
open PySem PySem.Spec PyProof.Rows L2
def rCntB (K : PySem.W.Frag) : V → List V → Hp → VK → Prop := fun x xs H Q => ∃ (p : Addr) (bs : List Bool), x = .ref p ∧ xs = [.bl true] ∧ SqL K H p (bs.map V.bl) ∧ Q (.int (bs.count true : Nat)) H
theorem cnt_bools : ∀ bs : List Bool, (bs.map PyData.bool).countP (fun y => PyData.eqv y (.bool true)) = bs.count true
  | [] => rfl
  | b :: r => by
    have ih := cnt_bools r
    cases b
    · show (List.map PyData.bool r).countP _ = List.count true (false :: r)
      rw [ih]; simp
    · show List.countP _ (PyData.bool true :: List.map PyData.bool r) = List.count true (true :: r)
      rw [List.countP_cons, ih]; simp [PyData.eqv]
theorem plain_bools : ∀ bs : List Bool, PyData.plainAll (bs.map PyData.bool) = true
  | [] => rfl
  | b :: r => by
    have ih := plain_bools r
    simp only [List.map_cons, PyData.plainAll, ih]; rfl
theorem dp_bools {K : PySem.W.Frag} {H : Hp} : ∀ bs : List Bool, DpAll K H (bs.map V.bl) (bs.map PyData.bool)
  | [] => .nil
  | b :: r => .cons (.bl b) (dp_bools r)
theorem mt_countB {X : Cx} (hu : X.A.units + 64 < cLine) : MtR X "list.count" (rCntB X.K) := by
  intro pins s σ H x xs v us Q I rx rxs h
  obtain ⟨p, bs, rfl, rfl, hs, q⟩ := h
  cases rx
  obtain ⟨u, rfl, ru⟩ := rxs.one
  cases ru
  obtain ⟨as, r1⟩ := Dp.reads I (.list (bs.map PyData.bool)) (.ref p) (.ref p) (.lst hs (dp_bools bs)) rfl
  obtain ⟨its, rv, hl, hlen⟩ := I.list hs
  obtain ⟨as2, r2⟩ := Dp.readsAll I (bs.map PyData.bool) _ its (dp_bools bs) rv
  refine PySem.SeqAt.count_list_data (xs := bs.map PyData.bool) (d := .bool true) (vs := its.toArray) ?_ (by simpa using r2) (Reads.bool true) (plain_bools bs) rfl ?_ ?_
  · obtain ⟨o, n, ho, hc, _, hd⟩ := hl
    exact ⟨o, ho, hc, n, hd⟩
  · have h1 : min (PyData.depthAll (bs.map PyData.bool)) (PyData.bool true).depth ≤ (PyData.bool true).depth := Nat.min_le_right _ _
    have h2 : (PyData.bool true).depth ≤ 1 := by decide
    omega
  · rw [cnt_bools]
    exact ⟨.int (bs.count true : Nat), H, I.tok _, ⟨_, rfl⟩, q⟩
end My
namespace My
open PySem PySem.Spec PyProof.Rows L2
/-! ### promises by the number of arguments -/
def Sp0 (f : Hp → VK → XK → Prop) : Sp := fun vs H Q E => vs = [] ∧ f H Q E
def Sp1 (f : V → Hp → VK → XK → Prop) : Sp := fun vs H Q E => ∃ a, vs = [a] ∧ f a H Q E
def Sp2 (f : V → V → Hp → VK → XK → Prop) : Sp := fun vs H Q E => ∃ a b, vs = [a, b] ∧ f a b H Q E
def Sp3 (f : V → V → V → Hp → VK → XK → Prop) : Sp := fun vs H Q E => ∃ a b c, vs = [a, b, c] ∧ f a b c H Q E
def Sp4 (f : V → V → V → V → Hp → VK → XK → Prop) : Sp := fun vs H Q E => ∃ a b c d, vs = [a, b, c, d] ∧ f a b c d H Q E
def Sp5 (f : V → V → V → V → V → Hp → VK → XK → Prop) : Sp := fun vs H Q E => ∃ a b c d e, vs = [a, b, c, d, e] ∧ f a b c d e H Q E
section
variable {vs : List V} {H : Hp} {Q : VK} {E : XK}
theorem Sp0_len {f} (h : Sp0 f vs H Q E) : vs.length = 0 := by obtain ⟨rfl, _⟩ := h; rfl
theorem Sp1_len {f} (h : Sp1 f vs H Q E) : vs.length = 1 := by obtain ⟨_, rfl, _⟩ := h; rfl
theorem Sp2_len {f} (h : Sp2 f vs H Q E) : vs.length = 2 := by obtain ⟨_, _, rfl, _⟩ := h; rfl
theorem Sp3_len {f} (h : Sp3 f vs H Q E) : vs.length = 3 := by obtain ⟨_, _, _, rfl, _⟩ := h; rfl
theorem Sp4_len {f} (h : Sp4 f vs H Q E) : vs.length = 4 := by obtain ⟨_, _, _, _, rfl, _⟩ := h; rfl
theorem Sp5_len {f} (h : Sp5 f vs H Q E) : vs.length = 5 := by obtain ⟨_, _, _, _, _, rfl, _⟩ := h; rfl
end
/-- in a def's body: what a call lets out is the def's own affair -/
theorem passE {X : Cx} {E : XK} {E₁ : Value → Shared → Prop} (hs : X.stack = X.env :: X.outer) (hf : X.env.frame = some X.env.locals) (hex : X.ex = [])
    (hx : X.xe = fun e s' => wpAny (model X.prog X.w) X.A (leaving X.env e) (fun _ s'' => L2.CX X.prog X.w X.outer X.H_0 X.s_0 E e s'') E₁ s') : Passes (L2.CX X.prog X.w) X E :=
  passes_call (takes_of hs hf hex hx) (fun _ _ _ _ h => h)
/-- all but b stand as they were -/
def Kp (b : Addr) (H H' : Hp) : Prop := ∀ p o, p ≠ b → H p = some o → H' p = some o
theorem Kp.refl {b : Addr} {H : Hp} : Kp b H H := fun _ _ _ h => h
theorem Kp.trans {b : Addr} {H H1 H2 : Hp} (h : Kp b H H1) (k : Kp b H1 H2) : Kp b H H2 := fun p o n e => k p o n (h p o n e)
theorem Kp.upd {b : Addr} {H H1 : Hp} {o : HO} (h : Kp b H H1) : Kp b H (upd H1 b o) := fun p u n e => by rw [upd_ne n]; exact h p u n e
theorem Kp.new {b l : Addr} {H H1 : Hp} {o : HO} (h : Kp b H H1) (hl : H1 l = none) : Kp b H (L2.upd H1 l o) := fun p u n e => by
  rw [upd_ne (ne_of_none (h p u n e) hl)]; exact h p u n e
theorem Kp.of {b : Addr} {H H' : Hp} (h : Same H H') : Kp b H H' := fun p o _ e => h p o e
theorem Same.new {H H1 : Hp} {l : Addr} {o : HO} (h : Same H H1) (hl : H1 l = none) : Same H (L2.upd H1 l o) := fun p u e => by
  rw [upd_ne (ne_of_none (h p u e) hl)]; exact h p u e
/-! ### the law's bag of numbers -/
def bagO (c : Addr) (a r s n : Int) : HO := .dK [(.inr ("cells" : Str), .ref c), (.inr ("at" : Str), .int a), (.inr ("rest" : Str), .int r), (.inr ("seed" : Str), .int s), (.inr ("count" : Str), .int n)]
structure BagAt (H : Hp) (b : Addr) : Prop where
  ex : ∃ (c : Addr) (ns : List Int) (a r s n : Int), H b = some (bagO c a r s n) ∧ H c = some (.lst (ns.map V.int)) ∧ 0 ≤ a ∧ ns.length ≤ 63
section
variable {H : Hp} {b c : Addr} {a r s n : Int}
theorem bg_cells (h : H b = some (bagO c a r s n)) : DGet H b (.str "cells") (some (.ref c)) := DGet.k (k := Sum.inr ("cells" : Str)) h
theorem kne1 : ¬ ((Sum.inr ("cells" : Str) : Key) = Sum.inr ("at" : Str)) := by decide +kernel
theorem kne2 : ¬ ((Sum.inr ("cells" : Str) : Key) = Sum.inr ("rest" : Str)) := by decide +kernel
theorem kne3 : ¬ ((Sum.inr ("cells" : Str) : Key) = Sum.inr ("seed" : Str)) := by decide +kernel
theorem kne4 : ¬ ((Sum.inr ("cells" : Str) : Key) = Sum.inr ("count" : Str)) := by decide +kernel
theorem kne5 : ¬ ((Sum.inr ("at" : Str) : Key) = Sum.inr ("rest" : Str)) := by decide +kernel
theorem kne6 : ¬ ((Sum.inr ("at" : Str) : Key) = Sum.inr ("seed" : Str)) := by decide +kernel
theorem kne7 : ¬ ((Sum.inr ("at" : Str) : Key) = Sum.inr ("count" : Str)) := by decide +kernel
theorem kne8 : ¬ ((Sum.inr ("rest" : Str) : Key) = Sum.inr ("seed" : Str)) := by decide +kernel
theorem kne9 : ¬ ((Sum.inr ("rest" : Str) : Key) = Sum.inr ("count" : Str)) := by decide +kernel
theorem kne10 : ¬ ((Sum.inr ("seed" : Str) : Key) = Sum.inr ("count" : Str)) := by decide +kernel
theorem dget_of {H : Hp} {b : Addr} {kvs : List (Key × V)} {k : Str} {v : V} (h : H b = some (.dK kvs)) (e : valV kvs (Sum.inr k : Key) = some v) : DGet H b (.str k) (some v) := by
  rw [← e]; exact DGet.k (k := Sum.inr k) h
theorem bg_at (h : H b = some (bagO c a r s n)) : DGet H b (.str "at") (some (.int a)) := dget_of h (by rw [valV_neg kne1, valV_pos rfl])
theorem bg_rest (h : H b = some (bagO c a r s n)) : DGet H b (.str "rest") (some (.int r)) := dget_of h (by rw [valV_neg kne2, valV_neg kne5, valV_pos rfl])
theorem bg_seed (h : H b = some (bagO c a r s n)) : DGet H b (.str "seed") (some (.int s)) := dget_of h (by rw [valV_neg kne3, valV_neg kne6, valV_neg kne8, valV_pos rfl])
theorem bg_count (h : H b = some (bagO c a r s n)) : DGet H b (.str "count") (some (.int n)) := dget_of h (by rw [valV_neg kne4, valV_neg kne7, valV_neg kne9, valV_neg kne10, valV_pos rfl])
theorem dput_of {H : Hp} {b : Addr} {kvs kvs' : List (Key × V)} {k : Str} {v : V} (h : H b = some (.dK kvs)) (e : putK kvs (Sum.inr k : Key) v = kvs') (hl : kvs.length < sizeLine) : DPut H b (.str k) v (upd H b (.dK kvs')) := by
  rw [← e]; exact DPut.k (k := Sum.inr k) h hl
theorem kns : ∀ {x y : Str}, ¬ ((Sum.inr x : Key) = Sum.inr y) → ¬ x = y := fun h e => h (by rw [e])
theorem bp_at {x : Int} (h : H b = some (bagO c a r s n)) : DPut H b (.str "at") (.int x) (upd H b (bagO c x r s n)) := dput_of h (by unfold putK; simp [kns kne1, kns kne5, kns kne6, kns kne7, Ne.symm (kns kne1), Ne.symm (kns kne5), Ne.symm (kns kne6), Ne.symm (kns kne7)]) (by show 5 < sizeLine; decide)
theorem bp_rest {x : Int} (h : H b = some (bagO c a r s n)) : DPut H b (.str "rest") (.int x) (upd H b (bagO c a x s n)) := dput_of h (by unfold putK; simp [kns kne2, kns kne5, kns kne8, kns kne9, Ne.symm (kns kne2), Ne.symm (kns kne5), Ne.symm (kns kne8), Ne.symm (kns kne9)]) (by show 5 < sizeLine; decide)
theorem bp_seed {x : Int} (h : H b = some (bagO c a r s n)) : DPut H b (.str "seed") (.int x) (upd H b (bagO c a r x n)) := dput_of h (by unfold putK; simp [kns kne3, kns kne6, kns kne8, kns kne10, Ne.symm (kns kne3), Ne.symm (kns kne6), Ne.symm (kns kne8), Ne.symm (kns kne10)]) (by show 5 < sizeLine; decide)
theorem bp_count {x : Int} (h : H b = some (bagO c a r s n)) : DPut H b (.str "count") (.int x) (upd H b (bagO c a r s x)) := dput_of h (by unfold putK; simp [kns kne4, kns kne7, kns kne9, kns kne10, Ne.symm (kns kne4), Ne.symm (kns kne7), Ne.symm (kns kne9), Ne.symm (kns kne10)]) (by show 5 < sizeLine; decide)
end
abbrev spPick : Sp := Sp2 fun x y H Q _ => ∃ (b : Addr) (m : Int), x = .ref b ∧ y = .int m ∧ 0 < m ∧ m < 1073741824 ∧ BagAt H b ∧ ∀ (v : Int) (H' : Hp), 0 ≤ v → v < m → BagAt H' b → Kp b H H' → Q (.int v) H'
abbrev spChoice (K : PySem.W.Frag) : Sp := Sp2 fun x y H Q _ => ∃ (b t : Addr) (xs : List V), x = .ref b ∧ y = .ref t ∧ H t = some (.lst xs) ∧ 0 < xs.length ∧ xs.length < 1073741824 ∧ t ≠ b ∧ BagAt H b ∧ ∀ (i : Nat) (v : V) (H' : Hp), xs[i]? = some v → BagAt H' b → Kp b H H' → Q v H'
end My
namespace My
open PySem PySem.Spec PyProof.Rows L2
/-! ### plain things: what a law hands about -/
inductive Pl (H : Hp) : V → Prop where
  | int (i : Int) : Pl H (.int i)
  | bl (b : Bool) : Pl H (.bl b)
  | non : Pl H .non
  | str (s : Str) : Pl H (.str s)
  | tup {a : Addr} {xs : List V} (h : H a = some (.tup xs)) : Pl H (.ref a)
  | lst {a : Addr} {xs : List V} (h : H a = some (.lst xs)) : Pl H (.ref a)
  | dK {a : Addr} {kvs : List (Key × V)} (h : H a = some (.dK kvs)) : Pl H (.ref a)
theorem Pl.kp {H H' : Hp} {x : V} {b : Addr} (h : Pl H x) (k : Kp b H H') (n : x ≠ .ref b) : Pl H' x := by
  cases h with
  | int i => exact .int i
  | bl b => exact .bl b
  | non => exact .non
  | str s => exact .str s
  | @tup a xs e => exact .tup (k a _ (fun z => n (by rw [z])) e)
  | @lst a xs e => exact .lst (k a _ (fun z => n (by rw [z])) e)
  | @dK a xs e => exact .dK (k a _ (fun z => n (by rw [z])) e)
theorem Pl.same {H H' : Hp} {x : V} (h : Pl H x) (k : Same H H') : Pl H' x := by
  cases h with
  | int i => exact .int i
  | bl b => exact .bl b
  | non => exact .non
  | str s => exact .str s
  | tup e => exact .tup (k _ _ e)
  | lst e => exact .lst (k _ _ e)
  | dK e => exact .dK (k _ _ e)
def isI : V → Bool
  | .int _ => true
  | _ => false
def isB : V → Bool
  | .bl _ => true
  | _ => false
def isS : V → Bool
  | .str _ => true
  | _ => false
section
variable {K : PySem.W.Frag} {H : Hp} {x : V} {Q : VK}
theorem isi_ty {n m : String} {b : Bool} (h : TyX K H x (.type n)) (hb : kitB n m = some b) (q : Q (.bl b) H) : rIsi K [x, .ty m] H Q := ⟨x, .ty m, .type n, .type m, b, rfl, .ty m, h, kit_ty hb, q⟩
theorem isi_int (h : Pl H x) (q : Q (.bl (isI x || isB x)) H) : rIsi K [x, .ty "int"] H Q := by
  cases h with
  | int i => exact isi_ty (b := true) (.base (.int i)) (by decide +kernel) q
  | bl b => exact isi_ty (b := true) (.base (.bl b)) (by decide +kernel) q
  | non => exact isi_ty (b := false) (.base .non) (by decide +kernel) q
  | str s => exact isi_ty (b := false) (.base (.str s)) (by decide +kernel) q
  | tup e => exact isi_ty (b := false) (.base (.tup e)) (by decide +kernel) q
  | lst e => exact isi_ty (b := false) (.base (.lst e)) (by decide +kernel) q
  | dK e => exact isi_ty (b := false) (.base (.dK e)) (by decide +kernel) q
theorem isi_bool (h : Pl H x) (q : Q (.bl (isB x)) H) : rIsi K [x, .ty "bool"] H Q := by
  cases h with
  | int i => exact isi_ty (b := false) (.base (.int i)) (by decide +kernel) q
  | bl b => exact isi_ty (b := true) (.base (.bl b)) (by decide +kernel) q
  | non => exact isi_ty (b := false) (.base .non) (by decide +kernel) q
  | str s => exact isi_ty (b := false) (.base (.str s)) (by decide +kernel) q
  | tup e => exact isi_ty (b := false) (.base (.tup e)) (by decide +kernel) q
  | lst e => exact isi_ty (b := false) (.base (.lst e)) (by decide +kernel) q
  | dK e => exact isi_ty (b := false) (.base (.dK e)) (by decide +kernel) q
theorem isi_str (h : Pl H x) (q : Q (.bl (isS x)) H) : rIsi K [x, .ty "str"] H Q := by
  cases h with
  | int i => exact isi_ty (b := false) (.base (.int i)) (by decide +kernel) q
  | bl b => exact isi_ty (b := false) (.base (.bl b)) (by decide +kernel) q
  | non => exact isi_ty (b := false) (.base .non) (by decide +kernel) q
  | str s => exact isi_ty (b := true) (.base (.str s)) (by decide +kernel) q
  | tup e => exact isi_ty (b := false) (.base (.tup e)) (by decide +kernel) q
  | lst e => exact isi_ty (b := false) (.base (.lst e)) (by decide +kernel) q
  | dK e => exact isi_ty (b := false) (.base (.dK e)) (by decide +kernel) q
end
def btw : V → Int → Int → Bool
  | .int i, lo, hi => decide (lo ≤ i) && decide (i ≤ hi)
  | _, _, _ => false
/-! ### widths -/
def hf (w : Int) : Int := 2 ^ (w - 1).toNat
def isW : V → Bool
  | .int i => decide (i = 16 ∨ i = 24 ∨ i = 32)
  | _ => false
def Wd (w : Int) : Prop := w = 16 ∨ w = 24 ∨ w = 32
theorem isW_int {w : Int} (h : Wd w) : isW (.int w) = true := decide_eq_true h
theorem isW_of {x : V} (h : isW x = true) : ∃ w, x = .int w ∧ Wd w := by
  cases x with
  | int i => exact ⟨i, rfl, (of_decide_eq_true h : i = 16 ∨ i = 24 ∨ i = 32)⟩
  | _ => cases h
def isN (w : Int) (x : V) : Bool := btw x (-(hf w)) (hf w - 1)
def wrapI (w n : Int) : Int := (n + hf w) % (2 * hf w) - hf w
theorem hf_val {w : Int} (h : Wd w) : (w = 16 ∧ hf w = 32768) ∨ (w = 24 ∧ hf w = 8388608) ∨ (w = 32 ∧ hf w = 2147483648) := by
  rcases h with rfl | rfl | rfl
  · exact .inl ⟨rfl, rfl⟩
  · exact .inr (.inl ⟨rfl, rfl⟩)
  · exact .inr (.inr ⟨rfl, rfl⟩)
theorem hf_pos {w : Int} (h : Wd w) : 0 < hf w ∧ hf w ≤ 2147483648 := by
  rcases hf_val h with ⟨_, e⟩ | ⟨_, e⟩ | ⟨_, e⟩ <;> rw [e] <;> decide
theorem op_fdivL {X : Cx} : OpR X (binaryOp .FloorDiv) (rI (fun _ j => j ≠ 0 ∧ j.natAbs.log2 < 9000) fun i j => .int (i.fdiv j)) := opI fun _ _ _ _ _ _ _ hc q => floordiv_int hc.1 q (.inl (PyProof.noPylong_of_log2 hc.2))
end My
namespace My
open PySem PySem.Spec PyProof.Rows L2
section
variable {X : Cx}
theorem CallR_imp {f : Value} {r r' : List V → Hp → VK → Prop} (h : CallR X f r) (i : ∀ xs H Q, r' xs H Q → r xs H Q) : CallR X f r' := fun pins s σ H xs us Q I rv q => h pins s σ H xs us Q I rv (i xs H Q q)
theorem call_isInt : CallR X (.builtin "isinstance") (fun xs H Q => ∃ x, xs = [x, .ty "int"] ∧ Pl H x ∧ Q (.bl (isI x || isB x)) H) := CallR_imp call_isi fun xs H Q ⟨x, e, p, q⟩ => by rw [e]; exact isi_int p q
theorem call_isBool : CallR X (.builtin "isinstance") (fun xs H Q => ∃ x, xs = [x, .ty "bool"] ∧ Pl H x ∧ Q (.bl (isB x)) H) := CallR_imp call_isi fun xs H Q ⟨x, e, p, q⟩ => by rw [e]; exact isi_bool p q
theorem call_isStr : CallR X (.builtin "isinstance") (fun xs H Q => ∃ x, xs = [x, .ty "str"] ∧ Pl H x ∧ Q (.bl (isS x)) H) := CallR_imp call_isi fun xs H Q ⟨x, e, p, q⟩ => by rw [e]; exact isi_str p q
/-- isinstance(x, tuple) of what is a tuple -/
theorem call_isTup : CallR X (.builtin "isinstance") (fun xs H Q => ∃ a ys, xs = [.ref a, .ty "tuple"] ∧ H a = some (.tup ys) ∧ Q (.bl true) H) := CallR_imp call_isi fun xs H Q ⟨a, ys, e, h, q⟩ => by
  rw [e]; exact isi_ty (.base (.tup h)) (by decide +kernel) q
theorem call_isTupK : CallR X (.builtin "isinstance") (fun xs H Q => ∃ a o, xs = [.ref a, .ty "tuple"] ∧ X.K.lookup a = some o ∧ o.cls = .type "tuple" ∧ Q (.bl true) H) := CallR_imp call_isi fun xs H Q ⟨a, o, e, h, hc, q⟩ => by
  rw [e]; exact isi_ty (.kTuple h hc) (by decide +kernel) q
end
theorem iteD {p : Prop} [Decidable p] {A B : Prop} (h1 : p → A) (h2 : ¬ p → B) : if decide p = true then A else B := by
  by_cases h : p
  · rw [if_pos (decide_eq_true h)]; exact h1 h
  · rw [if_neg (fun e => h (of_decide_eq_true e))]; exact h2 h
theorem iteND {p : Prop} [Decidable p] {A B : Prop} (h1 : ¬ p → A) (h2 : p → B) : if (!decide p) = true then A else B := by
  by_cases h : p
  · rw [decide_eq_true h]; exact iteF (h2 h)
  · rw [decide_eq_false h]; exact iteT (h1 h)
theorem iteDT {p : Prop} [Decidable p] {A B : Prop} (hp : p) (h : A) : if decide p = true then A else B := by rw [if_pos (decide_eq_true hp)]; exact h
theorem iteDF {p : Prop} [Decidable p] {A B : Prop} (hp : ¬ p) (h : B) : if decide p = true then A else B := by rw [if_neg (fun e => hp (of_decide_eq_true e))]; exact h
theorem iteB {c : Bool} {A B : Prop} (h1 : c = true → A) (h2 : c = false → B) : if c = true then A else B := by
  cases c
  · exact iteF (h2 rfl)
  · exact iteT (h1 rfl)
theorem Pl.new {H : Hp} {x : V} {l : Addr} {o : HO} (h : Pl H x) (hl : H l = none) : Pl (upd H l o) x := h.same (Same.new (Same.refl H) hl)
end My
namespace My
open PySem PySem.Spec PyProof.Rows L2
def bit (n : Int) (k : Nat) : Int := n / 2 ^ k % 2
def bts (w : Nat) (n : Int) : List Int := (List.range w).map (bit n)
theorem bit_01 (n : Int) (k : Nat) : bit n k = 0 ∨ bit n k = 1 := by unfold bit; omega
theorem bts_len (w : Nat) (n : Int) : (bts w n).length = w := by simp [bts]
theorem bts_get {w k : Nat} (n : Int) (h : k < w) : (bts w n)[k]? = some (bit n k) := by simp [bts, h]
theorem bts_succ (k : Nat) (n : Int) : bts (k + 1) n = bts k n ++ [bit n k] := by simp [bts, List.range_succ]
theorem bts_zero (n : Int) : bts 0 n = [] := rfl
theorem pow2_pos (k : Nat) : (0 : Int) < 2 ^ k := Int.pow_pos (by decide)
/-- q * P + r, in the range: quotient and rest -/
theorem dm {P q r x : Int} (hx : x = P * q + r) (h0 : 0 ≤ r) (h1 : r < P) : x / P = q ∧ x % P = r :=
  (Int.ediv_emod_unique (by omega)).mpr ⟨by rw [hx]; omega, h0, h1⟩
theorem bit_of {P n A r : Int} {k : Nat} (e : (2 : Int) ^ k = P) (hn : n = P * A + r) (h0 : 0 ≤ r) (h1 : r < P) : bit n k = A % 2 := by
  unfold bit; rw [e, (dm hn h0 h1).1]
/-- the carry into place k -/
def car (a b c : Int) (k : Nat) : Int := (a % 2 ^ k + b % 2 ^ k + c) / 2 ^ k
theorem car_01 {a b c : Int} (hc : c = 0 ∨ c = 1) (k : Nat) : car a b c k = 0 ∨ car a b c k = 1 := by
  have hP := pow2_pos k
  have h1 := Int.emod_nonneg a (Int.ne_of_gt hP)
  have h2 := Int.emod_lt_of_pos a hP
  have h3 := Int.emod_nonneg b (Int.ne_of_gt hP)
  have h4 := Int.emod_lt_of_pos b hP
  unfold car
  generalize (2 : Int) ^ k = P at *
  generalize a % P = x at *
  generalize b % P = y at *
  by_cases h : x + y + c < P
  · exact .inl (Int.ediv_eq_zero_of_lt (by omega) h)
  · refine .inr (dm (q := 1) (r := x + y + c - P) (by omega) (by omega) (by omega)).1
theorem split2 (A : Int) : ∃ q t, A = 2 * q + t ∧ (t = 0 ∨ t = 1) ∧ A % 2 = t := ⟨A / 2, A % 2, by omega, by omega, rfl⟩
theorem mod_next (a : Int) (k : Nat) : a % 2 ^ (k + 1) = 2 ^ k * bit a k + a % 2 ^ k := by
  have hP := pow2_pos k
  unfold bit
  rw [Int.pow_succ]
  have h1 := Int.emod_nonneg a (Int.ne_of_gt hP)
  have h2 := Int.emod_lt_of_pos a hP
  have h3 := Int.mul_ediv_add_emod a (2 ^ k)
  generalize (2 : Int) ^ k = P at *
  obtain ⟨q, t, e, ht, et⟩ := split2 (a / P)
  rw [et]
  have e2 : a = (P * 2) * q + (P * t + a % P) := by
    rw [e] at h3
    rw [Int.mul_add, ← Int.mul_assoc] at h3
    omega
  rcases ht with rfl | rfl
  · exact (dm e2 (by omega) (by omega)).2
  · exact (dm e2 (by omega) (by omega)).2
theorem add_bit {a b c : Int} (k : Nat) : bit a k + bit b k + car a b c k = bit (a + b + c) k + 2 * car a b c (k + 1) := by
  have hP := pow2_pos k
  have h1 := Int.mul_ediv_add_emod a (2 ^ k)
  have h2 := Int.mul_ediv_add_emod b (2 ^ k)
  have na := mod_next a k
  have nb := mod_next b k
  have e1 : (a + b + c) / 2 ^ k = a / 2 ^ k + b / 2 ^ k + car a b c k := by
    unfold car
    have e : a + b + c = (a % 2 ^ k + b % 2 ^ k + c) + 2 ^ k * (a / 2 ^ k + b / 2 ^ k) := by rw [Int.mul_add]; omega
    conv => lhs; rw [e]
    rw [Int.add_mul_ediv_left _ _ (Int.ne_of_gt hP)]
    omega
  have e2 : car a b c (k + 1) = (bit a k + bit b k + car a b c k) / 2 := by
    unfold car
    rw [na, nb, Int.pow_succ, ← Int.ediv_ediv_of_nonneg (Int.le_of_lt hP)]
    have e : 2 ^ k * bit a k + a % 2 ^ k + (2 ^ k * bit b k + b % 2 ^ k) + c = (a % 2 ^ k + b % 2 ^ k + c) + 2 ^ k * (bit a k + bit b k) := by rw [Int.mul_add]; omega
    rw [e, Int.add_mul_ediv_left _ _ (Int.ne_of_gt hP)]
    congr 1; omega
  rw [e2]
  have e3 : bit (a + b + c) k = (a / 2 ^ k + b / 2 ^ k + car a b c k) % 2 := by
    show (a + b + c) / 2 ^ k % 2 = _
    rw [e1]
  rw [e3]
  show a / 2 ^ k % 2 + b / 2 ^ k % 2 + car a b c k = (a / 2 ^ k + b / 2 ^ k + car a b c k) % 2 + 2 * ((a / 2 ^ k % 2 + b / 2 ^ k % 2 + car a b c k) / 2)
  generalize a / 2 ^ k = A
  generalize b / 2 ^ k = B
  generalize car a b c k = C
  omega
theorem bit_next (n : Int) (k : Nat) : bit n (k + 1) = bit (n / 2) k := by
  unfold bit
  rw [Int.pow_succ, Int.mul_comm, ← Int.ediv_ediv_of_nonneg (by decide)]
theorem bit_zero (n : Int) : bit n 0 = n % 2 := by unfold bit; simp
theorem bit_not (n : Int) (k : Nat) : bit (-1 - n) k = 1 - bit n k := by
  induction k generalizing n with
  | zero => rw [bit_zero, bit_zero]; omega
  | succ k ih =>
    rw [bit_next, bit_next]
    have e : (-1 - n) / 2 = -1 - n / 2 := by omega
    rw [e, ih]
theorem bits_not (w : Nat) (n : Int) : (bts w n).map (fun b => 1 - b) = bts w (-1 - n) := by
  unfold bts
  rw [List.map_map]
  exact List.map_congr_left fun k _ => (bit_not n k).symm
/-- a row of bits, the first i of them -/
def val (n : Int) : Nat → Int
  | 0 => 0
  | i + 1 => val n i + bit n i * 2 ^ i
theorem val_mod (n : Int) : ∀ i, val n i = n % 2 ^ i
  | 0 => by show 0 = n % 1; omega
  | i + 1 => by
    show val n i + bit n i * 2 ^ i = n % 2 ^ (i + 1)
    rw [val_mod n i, mod_next, Int.mul_comm]; omega
theorem val_wrap {w : Int} (hw : Wd w) (n : Int) : val n (w - 1).toNat - bit n (w - 1).toNat * 2 ^ (w - 1).toNat = wrapI w n := by
  rw [val_mod]
  unfold wrapI
  show n % 2 ^ (w - 1).toNat - n / 2 ^ (w - 1).toNat % 2 * 2 ^ (w - 1).toNat = _
  have e : (2 : Int) ^ (w - 1).toNat = hf w := rfl
  rw [e]
  obtain ⟨h0, _⟩ := hf_pos hw
  have h3 := Int.mul_ediv_add_emod n (hf w)
  have h1 := Int.emod_nonneg n (Int.ne_of_gt h0)
  have h2 := Int.emod_lt_of_pos n h0
  generalize hf w = P at *
  obtain ⟨q, t, e, ht, et⟩ := split2 (n / P)
  rw [et]
  rw [e] at h3
  have h4 : P * (2 * q + t) = 2 * P * q + P * t := by rw [Int.mul_add, ← Int.mul_assoc, Int.mul_comm P 2]
  rw [h4] at h3
  rcases ht with rfl | rfl
  · rw [(dm (P := 2 * P) (q := q) (r := n % P + P) (x := n + P) (by omega) (by omega) (by omega)).2]; omega
  · rw [(dm (P := 2 * P) (q := q + 1) (r := n % P) (x := n + P) (by rw [Int.mul_add]; omega) (by omega) (by omega)).2]; omega
/-! ### and, or, xor -/
theorem and_nat (a b : Nat) : ((a &&& b : Nat) : Int) = 2 * ((a / 2 &&& b / 2 : Nat) : Int) + ((a : Int) % 2) * ((b : Int) % 2) := by
  have h1 : (a &&& b) / 2 = a / 2 &&& b / 2 := Nat.and_div_two
  have h2 : (a &&& b) % 2 = (a % 2) * (b % 2) := by
    have h := Nat.and_mod_two_pow (a := a) (b := b) (n := 1)
    rw [Nat.pow_one] at h
    rw [h]
    rcases Nat.mod_two_eq_zero_or_one a with h | h <;> rcases Nat.mod_two_eq_zero_or_one b with h' | h' <;> rw [h, h'] <;> rfl
  have h3 : (a &&& b) = 2 * ((a &&& b) / 2) + (a &&& b) % 2 := by omega
  rw [h1, h2] at h3
  have h4 : ((a &&& b : Nat) : Int) = ((2 * (a / 2 &&& b / 2) + a % 2 * (b % 2) : Nat) : Int) := by rw [← h3]
  rw [h4]
  push_cast
  rfl
theorem or_nat (a b : Nat) : ((a ||| b : Nat) : Int) = 2 * ((a / 2 ||| b / 2 : Nat) : Int) + ((a : Int) % 2 + (b : Int) % 2 - ((a : Int) % 2) * ((b : Int) % 2)) := by
  have h1 : (a ||| b) / 2 = a / 2 ||| b / 2 := Nat.or_div_two
  have h2 : ((a ||| b) % 2 : Nat) = (a % 2) + (b % 2) - (a % 2) * (b % 2) := by
    have h := Nat.or_mod_two_pow (a := a) (b := b) (n := 1)
    rw [Nat.pow_one] at h
    rw [h]
    rcases Nat.mod_two_eq_zero_or_one a with h | h <;> rcases Nat.mod_two_eq_zero_or_one b with h' | h' <;> rw [h, h'] <;> rfl
  have h3 : (a ||| b) = 2 * ((a ||| b) / 2) + (a ||| b) % 2 := by omega
  rw [h1, h2] at h3
  have h4 : ((a ||| b : Nat) : Int) = ((2 * (a / 2 ||| b / 2) + (a % 2 + b % 2 - a % 2 * (b % 2)) : Nat) : Int) := by rw [← h3]
  rw [h4]
  have ha : (a % 2 : Nat) = 0 ∨ (a % 2 : Nat) = 1 := by omega
  have hb : (b % 2 : Nat) = 0 ∨ (b % 2 : Nat) = 1 := by omega
  have ea : (a : Int) % 2 = ((a % 2 : Nat) : Int) := by push_cast; rfl
  have eb : (b : Int) % 2 = ((b % 2 : Nat) : Int) := by push_cast; rfl
  rw [ea, eb]
  rcases ha with ha | ha <;> rcases hb with hb | hb <;> rw [ha, hb] <;> push_cast <;> omega
theorem not_half (y : Int) : (Builtin.bitNot y) / 2 = Builtin.bitNot (y / 2) := by unfold Builtin.bitNot; omega
theorem mul01 {a b : Int} (ha : a = 0 ∨ a = 1) (hb : b = 0 ∨ b = 1) : a * b = 0 ∨ a * b = 1 := by rcases ha with rfl | rfl <;> rcases hb with rfl | rfl <;> decide
theorem and_rec (x y : Int) : Builtin.bitAnd x y = 2 * Builtin.bitAnd (x / 2) (y / 2) + (x % 2) * (y % 2) := by
  by_cases hx : 0 ≤ x <;> by_cases hy : 0 ≤ y
  · have h1 : 0 ≤ x / 2 := by omega
    have h2 : 0 ≤ y / 2 := by omega
    have n := and_nat x.toNat y.toNat
    unfold Builtin.bitAnd
    simp only [decide_eq_true hx, decide_eq_true hy, decide_eq_true h1, decide_eq_true h2]
    rw [n]
    have e1 : ((x.toNat : Nat) : Int) = x := Int.toNat_of_nonneg hx
    have e2 : ((y.toNat : Nat) : Int) = y := Int.toNat_of_nonneg hy
    have e3 : x.toNat / 2 = (x / 2).toNat := by omega
    have e4 : y.toNat / 2 = (y / 2).toNat := by omega
    rw [e1, e2, e3, e4]
  · have h1 : 0 ≤ x / 2 := by omega
    have h2 : ¬ 0 ≤ y / 2 := by omega
    have n := and_nat x.toNat (Builtin.bitNot y).toNat
    unfold Builtin.bitAnd
    simp only [decide_eq_true hx, decide_eq_false hy, decide_eq_true h1, decide_eq_false h2]
    rw [n]
    have hn : 0 ≤ Builtin.bitNot y := by unfold Builtin.bitNot; omega
    have e1 : ((x.toNat : Nat) : Int) = x := Int.toNat_of_nonneg hx
    have e2 : (((Builtin.bitNot y).toNat : Nat) : Int) = Builtin.bitNot y := Int.toNat_of_nonneg hn
    have e3 : x.toNat / 2 = (x / 2).toNat := by omega
    have e4 : (Builtin.bitNot y).toNat / 2 = (Builtin.bitNot (y / 2)).toNat := by rw [← not_half]; omega
    rw [e1, e2, e3, e4]
    have hb : Builtin.bitNot y % 2 = 1 - y % 2 := by unfold Builtin.bitNot; omega
    rw [hb]
    rcases (show x % 2 = 0 ∨ x % 2 = 1 by omega) with h | h <;> rcases (show y % 2 = 0 ∨ y % 2 = 1 by omega) with h' | h' <;> rw [h, h'] <;> omega
  · have h1 : ¬ 0 ≤ x / 2 := by omega
    have h2 : 0 ≤ y / 2 := by omega
    have n := and_nat y.toNat (Builtin.bitNot x).toNat
    unfold Builtin.bitAnd
    simp only [decide_eq_false hx, decide_eq_true hy, decide_eq_false h1, decide_eq_true h2]
    rw [n]
    have hn : 0 ≤ Builtin.bitNot x := by unfold Builtin.bitNot; omega
    have e1 : ((y.toNat : Nat) : Int) = y := Int.toNat_of_nonneg hy
    have e2 : (((Builtin.bitNot x).toNat : Nat) : Int) = Builtin.bitNot x := Int.toNat_of_nonneg hn
    have e3 : y.toNat / 2 = (y / 2).toNat := by omega
    have e4 : (Builtin.bitNot x).toNat / 2 = (Builtin.bitNot (x / 2)).toNat := by rw [← not_half]; omega
    rw [e1, e2, e3, e4]
    have hb : Builtin.bitNot x % 2 = 1 - x % 2 := by unfold Builtin.bitNot; omega
    rw [hb]
    rcases (show x % 2 = 0 ∨ x % 2 = 1 by omega) with h | h <;> rcases (show y % 2 = 0 ∨ y % 2 = 1 by omega) with h' | h' <;> rw [h, h'] <;> omega
  · have h1 : ¬ 0 ≤ x / 2 := by omega
    have h2 : ¬ 0 ≤ y / 2 := by omega
    have n := or_nat (Builtin.bitNot x).toNat (Builtin.bitNot y).toNat
    unfold Builtin.bitAnd
    simp only [decide_eq_false hx, decide_eq_false hy, decide_eq_false h1, decide_eq_false h2]
    rw [n]
    have hm : 0 ≤ Builtin.bitNot x := by unfold Builtin.bitNot; omega
    have hn : 0 ≤ Builtin.bitNot y := by unfold Builtin.bitNot; omega
    have e1 : (((Builtin.bitNot x).toNat : Nat) : Int) = Builtin.bitNot x := Int.toNat_of_nonneg hm
    have e2 : (((Builtin.bitNot y).toNat : Nat) : Int) = Builtin.bitNot y := Int.toNat_of_nonneg hn
    have e3 : (Builtin.bitNot x).toNat / 2 = (Builtin.bitNot (x / 2)).toNat := by rw [← not_half]; omega
    have e4 : (Builtin.bitNot y).toNat / 2 = (Builtin.bitNot (y / 2)).toNat := by rw [← not_half]; omega
    rw [e1, e2, e3, e4]
    have ha : Builtin.bitNot x % 2 = 1 - x % 2 := by unfold Builtin.bitNot; omega
    have hb : Builtin.bitNot y % 2 = 1 - y % 2 := by unfold Builtin.bitNot; omega
    rw [ha, hb]
    generalize ((Builtin.bitNot (x / 2)).toNat ||| (Builtin.bitNot (y / 2)).toNat : Nat) = O
    show -(2 * (O : Int) + (1 - x % 2 + (1 - y % 2) - (1 - x % 2) * (1 - y % 2))) - 1 = 2 * (-(O : Int) - 1) + x % 2 * (y % 2)
    rcases (show x % 2 = 0 ∨ x % 2 = 1 by omega) with h | h <;> rcases (show y % 2 = 0 ∨ y % 2 = 1 by omega) with h' | h' <;> rw [h, h'] <;> omega
theorem m2 (x : Int) : x % 2 = 0 ∨ x % 2 = 1 := by omega
theorem and_half (x y : Int) : Builtin.bitAnd x y % 2 = (x % 2) * (y % 2) ∧ Builtin.bitAnd x y / 2 = Builtin.bitAnd (x / 2) (y / 2) := by
  have h := and_rec x y
  have m := mul01 (m2 x) (m2 y)
  generalize x % 2 * (y % 2) = p at *
  omega
theorem bit_and (x y : Int) (k : Nat) : bit (Builtin.bitAnd x y) k = bit x k * bit y k := by
  induction k generalizing x y with
  | zero => rw [bit_zero, bit_zero, bit_zero]; exact (and_half x y).1
  | succ k ih => rw [bit_next, bit_next, bit_next, (and_half x y).2, ih]
theorem bit_or (x y : Int) (k : Nat) : bit (Builtin.bitOr x y) k = bit x k + bit y k - bit x k * bit y k := by
  induction k generalizing x y with
  | zero =>
    rw [bit_zero, bit_zero, bit_zero, bitOr_and]
    have h := and_rec x y
    have m := mul01 (m2 x) (m2 y)
    rcases m2 x with hx | hx <;> rcases m2 y with hy | hy <;> rw [hx, hy] at h ⊢ <;> omega
  | succ k ih =>
    rw [bit_next, bit_next, bit_next, ← ih, bitOr_and, bitOr_and]
    have h := and_rec x y
    congr 1
    rcases m2 x with hx | hx <;> rcases m2 y with hy | hy <;> rw [hx, hy] at h <;> omega
theorem bit_xor (x y : Int) (k : Nat) : bit (Builtin.bitXor x y) k = (bit x k + bit y k) % 2 := by
  induction k generalizing x y with
  | zero =>
    rw [bit_zero, bit_zero, bit_zero, bitXor_and]
    have h := and_rec x y
    rcases m2 x with hx | hx <;> rcases m2 y with hy | hy <;> rw [hx, hy] at h ⊢ <;> omega
  | succ k ih =>
    rw [bit_next, bit_next, bit_next, ← ih, bitXor_and, bitXor_and]
    have h := and_rec x y
    congr 1
    rcases m2 x with hx | hx <;> rcases m2 y with hy | hy <;> rw [hx, hy] at h <;> omega
end My
namespace My
open PySem PySem.Spec PyProof.Rows L2
theorem Same.put {H1 H : Hp} {D : Addr} {o : HO} (h : Same H1 H) (hD : H1 D = none) : Same H1 (upd H D o) := fun p u e => by
  rw [upd_ne (ne_of_none e hD)]; exact h p u e
theorem Kp.put {b : Addr} {H1 H : Hp} {D : Addr} {o : HO} (h : Kp b H1 H) (hD : H1 D = none) : Kp b H1 (L2.upd H D o) := fun p u n e => by
  rw [upd_ne (ne_of_none e hD)]; exact h p u n e
theorem BagAt.put {H : Hp} {b D : Addr} {o : HO} (B : BagAt H b) (hD : H D = none) : BagAt (upd H D o) b := by
  obtain ⟨c, ns, a, r, s, n, hb, hc, ha, hl⟩ := B.ex
  exact ⟨c, ns, a, r, s, n, by rw [upd_ne (ne_of_none hb hD)]; exact hb, by rw [upd_ne (ne_of_none hc hD)]; exact hc, ha, hl⟩
theorem BagAt.same {H H' : Hp} {b : Addr} (B : BagAt H b) (h : Same H H') : BagAt H' b := by
  obtain ⟨c, ns, a, r, s, n, hb, hc, ha, hl⟩ := B.ex
  exact ⟨c, ns, a, r, s, n, h _ _ hb, h _ _ hc, ha, hl⟩
theorem BagAt.some {H : Hp} {b : Addr} (B : BagAt H b) : ∃ o, H b = some o := by
  obtain ⟨c, ns, a, r, s, n, hb, _⟩ := B.ex
  exact ⟨_, hb⟩
/-- a new list at D that grows to ys, all that was tracked ahead of it as it was -/
structure LBd (D : Addr) (ys : List V) (H1 : Hp) (i : Nat) (H : Hp) : Prop where
  hd : H D = some (.lst (ys.take i))
  sm : Same H1 H
theorem LBd_0 {D : Addr} {ys : List V} {H1 : Hp} (hD : H1 D = none) : LBd D ys H1 0 (upd H1 D (.lst [])) := ⟨upd_same, Same.put (Same.refl H1) hD⟩
theorem take_snoc {α : Type} {ys : List α} {i : Nat} {y : α} (hy : ys[i]? = some y) : ys.take (i + 1) = ys.take i ++ [y] := by rw [List.take_add_one, hy]; rfl
theorem LBd_s {D : Addr} {ys : List V} {H1 H : Hp} {i : Nat} {y : V} (h : LBd D ys H1 i H) (hD : H1 D = none) (hy : ys[i]? = some y) (hl : ys.length ≤ 1000000) :
    ∃ acc, H D = some (.lst acc) ∧ acc.length < sizeLine ∧ LBd D ys H1 (i + 1) (upd H D (.lst (acc ++ [y]))) :=
  ⟨_, h.1, by rw [List.length_take, sizeLine_eq]; omega, by rw [← take_snoc hy]; exact upd_same, Same.put h.2 hD⟩
theorem LBd_n {D : Addr} {ys : List V} {H1 H : Hp} {n : Nat} (h : LBd D ys H1 n H) (e : ys.length = n) : H D = some (.lst ys) ∧ Same H1 H := ⟨by rw [← List.take_length (l := ys), e]; exact h.1, h.2⟩
theorem map_get {ns : List Int} {i : Nat} {y : V} (h : (ns.map V.int)[i]? = some y) : ∃ z, ns[i]? = some z ∧ y = .int z := by
  rw [List.getElem?_map] at h
  cases e : ns[i]? with
  | none => rw [e] at h; cases h
  | some z => rw [e] at h; exact ⟨z, rfl, (Option.some.inj h).symm⟩
theorem map_put {ns : List Int} {i : Nat} {z : Int} (h : ns[i]? = some z) : (ns.map V.int)[i]? = some (.int z) := by rw [List.getElem?_map, h]; rfl
theorem merge_bag {c : Addr} : HO.dK (mergeK [] [((Sum.inr ("cells" : Str) : Key), V.ref c), (Sum.inr ("at" : Str), .int 0), (Sum.inr ("rest" : Str), .int 0), (Sum.inr ("seed" : Str), .int 20011), (Sum.inr ("count" : Str), .int 0)]) = bagO c 0 0 20011 0 := by
  unfold mergeK putK bagO
  simp [kns kne1, kns kne2, kns kne3, kns kne4, kns kne5, kns kne6, kns kne7, kns kne8, kns kne9, kns kne10]
abbrev spBag (K : PySem.W.Frag) : Sp := Sp1 fun x H Q _ => ∃ (a : Addr) (ns : List Int), x = .ref a ∧ SqL K H a (ns.map V.int) ∧ ns.length ≤ 63 ∧ ∀ b H', H b = none → BagAt H' b → Same H H' → Q (.ref b) H'
abbrev spHalf : Sp := Sp1 fun x H Q _ => ∃ w, x = .int w ∧ Wd w ∧ ∀ H', Same H H' → Q (.int (hf w)) H'
abbrev spWrap : Sp := Sp2 fun x y H Q _ => ∃ w n, x = .int w ∧ y = .int n ∧ Wd w ∧ ∀ H', Same H H' → Q (.int (wrapI w n)) H'
def InR (w v : Int) : Prop := -(hf w) ≤ v ∧ v < hf w
abbrev spNum : Sp := Sp2 fun x y H Q _ => ∃ (b : Addr) (w : Int), x = .ref b ∧ y = .int w ∧ Wd w ∧ BagAt H b ∧ ∀ v H', InR w v → BagAt H' b → Kp b H H' → Q (.int v) H'
theorem wrap_in {w n : Int} (h : Wd w) : InR w (wrapI w n) := by
  obtain ⟨h0, _⟩ := hf_pos h
  unfold InR wrapI
  have h1 := Int.emod_nonneg (n + hf w) (show 2 * hf w ≠ 0 by omega)
  have h2 := Int.emod_lt_of_pos (n + hf w) (show 0 < 2 * hf w by omega)
  omega
end My
namespace My
open PySem PySem.Spec PyProof.Rows L2
theorem tYes_i {σ : L2.St} {H : Hp} {Q : Bool → Hp → Prop} (h : Q true H) : tYes σ H Q := h
end My
namespace My
open PySem PySem.Spec PyProof.Rows L2
theorem pw {w : Int} (h : Wd w) : 2 * hf w = 2 ^ w.toNat := by rcases h with rfl | rfl | rfl <;> rfl
theorem pw1 {w : Int} (h : Wd w) : hf w = 2 ^ (w - 1).toNat := rfl
theorem wnat {w : Int} (h : Wd w) : 0 < w.toNat ∧ w.toNat ≤ 32 ∧ (w.toNat : Int) = w ∧ (w - 1).toNat + 1 = w.toNat := by rcases h with rfl | rfl | rfl <;> decide
/-- the rest behind i halvings -/
def rst (w n : Int) (i : Nat) : Int := n % (2 * hf w) / 2 ^ i
theorem rst_0 {w n : Int} : rst w n 0 = n % (2 * hf w) := by unfold rst; simp
theorem rst_s {w n : Int} (i : Nat) : rst w n i / 2 = rst w n (i + 1) := by
  unfold rst
  rw [Int.pow_succ, Int.ediv_ediv_of_nonneg (Int.le_of_lt (pow2_pos i))]
theorem rst_bit {w n : Int} (h : Wd w) {i : Nat} (hi : i < w.toNat) : rst w n i % 2 = bit n i := by
  unfold rst bit
  rw [pw h]
  have hP := pow2_pos i
  have e : (2 : Int) ^ w.toNat = 2 ^ i * 2 * 2 ^ (w.toNat - i - 1) := by
    rw [← Int.pow_succ, ← Int.pow_add]
    congr 1; omega
  have h3 := Int.mul_ediv_add_emod n (2 ^ w.toNat)
  have h4 : n = n % 2 ^ w.toNat + 2 ^ i * (2 * (2 ^ (w.toNat - i - 1) * (n / 2 ^ w.toNat))) := by
    conv => lhs; rw [← h3]
    rw [show (2 : Int) ^ w.toNat * (n / 2 ^ w.toNat) = 2 ^ i * (2 * (2 ^ (w.toNat - i - 1) * (n / 2 ^ w.toNat))) by
      conv => lhs; arg 1; rw [e]
      simp only [Int.mul_assoc]]
    omega
  conv => rhs; rw [h4]
  rw [Int.add_mul_ediv_left _ _ (Int.ne_of_gt hP)]
  omega
theorem bts_zeros (w : Nat) : bts w 0 = List.replicate w 0 := by
  refine List.ext_getElem (by simp [bts]) fun i h1 h2 => ?_
  simp [bts, bit]
theorem bts_shift {w : Nat} (h : 0 < w) (m : Int) : (0 : Int) :: (bts w m).dropLast = bts w (2 * m) := by
  obtain ⟨v, rfl⟩ : ∃ v, w = v + 1 := ⟨w - 1, by omega⟩
  rw [bts_succ, List.dropLast_concat]
  unfold bts
  rw [List.range_succ_eq_map, List.map_cons, List.map_map]
  congr 1
  · unfold bit; simp
  · refine List.map_congr_left fun k _ => ?_
    show bit m k = bit (2 * m) (k + 1)
    rw [bit_next]
    congr 1; omega
abbrev spBits : Sp := Sp2 fun x y H Q _ => ∃ w n, x = .int w ∧ y = .int n ∧ Wd w ∧ ∀ l H', H l = none → H' l = some (.lst ((bts w.toNat n).map V.int)) → Same H H' → Q (.ref l) H'
abbrev spOfBits (K : PySem.W.Frag) : Sp := Sp1 fun x H Q _ => ∃ (p : Addr) (w n : Int), x = .ref p ∧ H p = some (.lst ((bts w.toNat n).map V.int)) ∧ Wd w ∧ Q (.int (wrapI w n)) H
abbrev spSum (K : PySem.W.Frag) : Sp := Sp3 fun x y z H Q _ => ∃ (p q : Addr) (c : Int) (w : Nat) (a b : Int), x = .ref p ∧ y = .ref q ∧ z = .int c ∧ H p = some (.lst ((bts w a).map V.int)) ∧ H q = some (.lst ((bts w b).map V.int)) ∧ (c = 0 ∨ c = 1) ∧ w ≤ 64 ∧
  ∀ l H', H l = none → H' l = some (.lst ((bts w (a + b + c)).map V.int)) → Same H H' → Q (.ref l) H'
end My
namespace My
open PySem PySem.Spec PyProof.Rows L2
theorem LBd_p {D : Addr} {ys : List V} {H1 H : Hp} {i : Nat} {y : V} (h : LBd D ys H1 i H) (hD : H1 D = none) (hy : ys[i]? = some y) : LBd D ys H1 (i + 1) (upd H D (.lst (ys.take i ++ [y]))) :=
  ⟨by rw [← take_snoc hy]; exact upd_same, Same.put h.2 hD⟩
theorem cut_init (xs : List V) : cutV xs none (some (-1)) = xs.dropLast := by
  unfold cutV
  rw [HT.sIx_none]
  show (xs.drop 0).take (HT.sIx xs.length xs.length (some (-1)) - 0) = _
  have e : HT.sIx xs.length xs.length (some (-1)) = xs.length - 1 := by
    unfold HT.sIx
    simp only
    rw [if_pos (show (-1 : Int) < 0 by decide)]; omega
  rw [e, List.drop_zero, Nat.sub_zero, List.dropLast_eq_take]
end My
namespace My
open PySem PySem.Spec PyProof.Rows L2
abbrev spProd (K : PySem.W.Frag) : Sp := Sp2 fun x y H Q _ => ∃ (p q : Addr) (w : Nat) (a b : Int), x = .ref p ∧ y = .ref q ∧ H p = some (.lst ((bts w a).map V.int)) ∧ H q = some (.lst ((bts w b).map V.int)) ∧ w ≤ 64 ∧ 0 < w ∧
  ∀ l H', H l = none → H' l = some (.lst ((bts w (a * b)).map V.int)) → Same H H' → Q (.ref l) H'
end My

namespace My
open PySem PySem.Spec PyProof.Rows L2
theorem bit_add {w i : Nat} (h : i < w) (x y : Int) : bit (x + 2 ^ w * y) i = bit x i := by
  unfold bit
  have hP := pow2_pos i
  have e : (2 : Int) ^ w = 2 ^ i * (2 * 2 ^ (w - i - 1)) := by
    rw [← Int.mul_assoc, ← Int.pow_succ, ← Int.pow_add]
    congr 1; omega
  rw [e, Int.mul_assoc, Int.add_mul_ediv_left _ _ (Int.ne_of_gt hP), Int.mul_assoc]
  omega
theorem bts_mod (w : Nat) (x y : Int) (h : ∃ z, y = x + 2 ^ w * z) : bts w x = bts w y := by
  obtain ⟨z, rfl⟩ := h
  unfold bts
  exact List.map_congr_left fun k hk => (bit_add (List.mem_range.mp hk) x z).symm
end My
namespace My
open PySem PySem.Spec PyProof.Rows L2
theorem dp_ints {K : PySem.W.Frag} {H : Hp} : ∀ ns : List Int, DpAll K H (ns.map V.int) (ns.map PyData.int)
  | [] => .nil
  | n :: r => .cons (.int n) (dp_ints r)
theorem lay_ints : ∀ ns : List Int, PyData.canLayAll0 (ns.map PyData.int) = true
  | [] => rfl
  | n :: r => by
    have ih := lay_ints r
    simp only [List.map_cons, PyData.canLayAll0, ih]; rfl
theorem deep_ints : ∀ ns : List Int, PyData.depthAll (ns.map PyData.int) ≤ 1
  | [] => by simp [PyData.depthAll]
  | n :: r => by
    have ih := deep_ints r
    simp only [List.map_cons, PyData.depthAll, PyData.depth]; omega
theorem shaped_ints (ns : List Int) : SeqAt.shaped (.list (ns.map PyData.int)) = true := by
  unfold SeqAt.shaped
  have h1 : PyData.canLay0 (.list (ns.map PyData.int)) = true := by simp only [PyData.canLay0]; exact lay_ints ns
  have h2 := deep_ints ns
  have h3 : (PyData.list (ns.map PyData.int)).depth ≤ 64 := by simp only [PyData.depth]; omega
  rw [h1, decide_eq_true h3]; rfl
/-- == of two lists of ints -/
def rEqInts (K : PySem.W.Frag) (neg : Bool) : R2 := fun x y H Q => ∃ (p q : Addr) (xs ys : List Int), x = .ref p ∧ y = .ref q ∧ SqL K H p (xs.map V.int) ∧ SqL K H q (ys.map V.int) ∧ Q (.bl (if neg = true then !decide (xs = ys) else decide (xs = ys))) H
theorem eqv_ints (ns ms : List Int) : PyData.eqv (.list (ns.map PyData.int)) (.list (ms.map PyData.int)) = decide (ns = ms) := by
  rw [← PySem.W.ked_eqvAll]; simp only [PyData.eqv]
theorem op_eqInts {X : Cx} (hu : X.A.units + 64 < cLine) : OpR X (compareOp .Eq) (rEqInts X.K false) := by
  intro pins s σ H x y v u Q I rx ry h
  obtain ⟨p, q, xs, ys, rfl, rfl, hp, hq, k⟩ := h
  refine op_eqD hu pins s σ H _ _ v u Q I rx ry ⟨_, _, .lst hp (dp_ints xs), .lst hq (dp_ints ys), shaped_ints xs, shaped_ints ys, ?_⟩
  rw [eqv_ints]; exact k
theorem op_neInts {X : Cx} (hu : X.A.units + 64 < cLine) : OpR X (compareOp .NotEq) (rEqInts X.K true) := by
  intro pins s σ H x y v u Q I rx ry h
  obtain ⟨p, q, xs, ys, rfl, rfl, hp, hq, k⟩ := h
  refine op_neD hu pins s σ H _ _ v u Q I rx ry ⟨_, _, .lst hp (dp_ints xs), .lst hq (dp_ints ys), shaped_ints xs, shaped_ints ys, ?_⟩
  rw [eqv_ints]; exact k
end My
namespace My
open PySem PySem.Spec PyProof.Rows L2
/-- behind a new object the heap is a heap of its own -/
@[elab_as_elim] theorem alloc_gen {H : Hp} {p : Addr} {o : HO} {G : Hp → Prop} (hp : H p = none) (h : ∀ H1, Same H H1 → H1 p = some o → G H1) : G (upd H p o) :=
  h _ (Same.put (Same.refl H) hp) upd_same
/-- within a try: what a call lets out, whatever the slots are -/
theorem passT {X : Cx} {W : WX} (tk : Takes X W) : Passes (L2.CX X.prog X.w) X (fun cls d H => ∀ σ : L2.St, σ.length = X.N.length → W cls d σ H) :=
  fun _ σ _ _ e s' I c => tk e s' (XE.of_call I (fun _ _ _ h => h σ I.len) c)
theorem BagAt.ne_tup {H : Hp} {b p : Addr} {xs : List V} (B : BagAt H b) (h : H p = Option.some (HO.tup xs)) : p ≠ b := by
  obtain ⟨c, ns, a, r, s, n, hb, _⟩ := B.ex
  exact ne_of h hb (by intro z; cases z)
theorem BagAt.ne_lst {H : Hp} {b p : Addr} {xs : List V} (B : BagAt H b) (h : H p = Option.some (HO.lst xs)) : p ≠ b := by
  obtain ⟨c, ns, a, r, s, n, hb, _⟩ := B.ex
  exact ne_of h hb (by intro z; cases z)
theorem log2_of {n : Nat} (h : n < 2 ^ 9000) : n.log2 < 9000 := by
  by_cases e : n = 0
  · subst e; decide
  · exact (Nat.log2_lt e).mpr h
theorem log2_small {r : Int} (h : r.natAbs ≤ 4294967296) : r.natAbs.log2 < 9000 := by
  by_cases e : r.natAbs = 0
  · rw [e]; decide
  · have h1 : r.natAbs.log2 < 64 := (Nat.log2_lt e).mpr (by omega)
    omega
theorem InR.log2 {w r : Int} (hw : Wd w) (h : InR w r) : r.natAbs.log2 < 9000 := by
  have hq := hf_pos hw
  unfold InR at h
  exact log2_small (by omega)
end My
namespace My
open PySem PySem.Spec PyProof.Rows L2
def rNotInDT (K : PySem.W.Frag) : R2 := fun x y H Q => ∃ (d : PyData) (ds : List PyData), Dp K H x d ∧ Dp K H y (.tuple ds) ∧ SeqAt.shaped d = true ∧ SeqAt.shaped (.tuple ds) = true ∧ Q (.bl (!ds.any fun z => PyData.eqv z d)) H
theorem op_notInDT {X : Cx} (hu : X.A.units + 65 < cLine) : OpR X (compareOp .NotIn) (rNotInDT X.K) := by
  intro pins s σ H x y v u Q I rx ry h
  obtain ⟨d, ds, hd, he, sd, se, q⟩ := h
  obtain ⟨as, r1⟩ := Dp.reads I d x v hd rx
  obtain ⟨bs, r2⟩ := Dp.reads I (.tuple ds) y u he ry
  exact SeqAt.notIn_tuple_reads r2 r1 (SeqAt.canLay_of_shaped se) (SeqAt.canLay_of_shaped sd) (room_in_shaped sd hu) ⟨.bl _, H, I, rfl, q⟩
end My
namespace My
open PySem PySem.Spec PyProof.Rows L2
/-! ### plain things as data -/
inductive PD (H : Hp) : V → PyData → Prop where
  | int (i : Int) : PD H (.int i) (.int i)
  | bl (b : Bool) : PD H (.bl b) (.bool b)
  | non : PD H .non .none
  | str (s : Str) (h : PyData.strOk s = true) : PD H (.str s) (.str s)
  | tupI {a : Addr} {i : Int} (h : H a = some (.tup [.int i])) : PD H (.ref a) (.tuple [.int i])
  | tupS {a : Addr} {s : Str} (h : H a = some (.tup [.str s])) (hs : PyData.strOk s = true) : PD H (.ref a) (.tuple [.str s])
theorem PD.pl {H : Hp} {v : V} {d : PyData} (h : PD H v d) : Pl H v := by
  cases h with
  | int i => exact .int i
  | bl b => exact .bl b
  | non => exact .non
  | str s _ => exact .str s
  | tupI h => exact .tup h
  | tupS h _ => exact .tup h
theorem PD.same {H H' : Hp} {v : V} {d : PyData} (h : PD H v d) (k : Same H H') : PD H' v d := by
  cases h with
  | int i => exact .int i
  | bl b => exact .bl b
  | non => exact .non
  | str s h => exact .str s h
  | tupI h => exact .tupI (k _ _ h)
  | tupS h hs => exact .tupS (k _ _ h) hs
theorem PD.kp {H H' : Hp} {v : V} {d : PyData} {b : Addr} (h : PD H v d) (B : BagAt H b) (k : Kp b H H') : PD H' v d := by
  cases h with
  | int i => exact .int i
  | bl b => exact .bl b
  | non => exact .non
  | str s h => exact .str s h
  | tupI h => exact .tupI (k _ _ (B.ne_tup h) h)
  | tupS h hs => exact .tupS (k _ _ (B.ne_tup h) h) hs
theorem PD.dp {K : PySem.W.Frag} {H : Hp} {v : V} {d : PyData} (h : PD H v d) : Dp K H v d := by
  cases h with
  | int i => exact .int i
  | bl b => exact .bl b
  | non => exact .non
  | str s _ => exact .str s
  | tupI h => exact .tup (SqT.of h) (.cons (.int _) .nil)
  | tupS h _ => exact .tup (SqT.of h) (.cons (.str _) .nil)
theorem PD.lay {H : Hp} {v : V} {d : PyData} (h : PD H v d) : d.canLay0 = true := by
  cases h with
  | int i => simp [PyData.canLay0]
  | bl b => simp [PyData.canLay0]
  | non => simp [PyData.canLay0]
  | str s h => simpa [PyData.canLay0] using h
  | tupI h => simp [PyData.canLay0, PyData.canLayAll0]
  | tupS h hs => simpa [PyData.canLay0, PyData.canLayAll0] using hs
theorem PD.shp {H : Hp} {v : V} {d : PyData} (h : PD H v d) : SeqAt.shaped d = true := by
  have h1 := h.lay
  unfold SeqAt.shaped
  rw [h1, Bool.true_and]
  cases h <;> simp [PyData.depth, PyData.depthAll]
theorem PD.refl {H : Hp} {v : V} {d : PyData} (h : PD H v d) : PyData.eqv d d = true := SeqAt.eqv_refl d h.lay
/-- a pair: a word and a thing -/
abbrev spSame : Sp := Sp2 fun x y H Q _ => ∃ (t u : Addr) (k : Str) (v : V) (d : PyData), x = .ref t ∧ y = .ref u ∧ H t = some (.tup [.str k, v]) ∧ H u = some (.tup [.str k, v]) ∧ PD H v d ∧ Q (.bl true) H
theorem find_first {α : Type} {p : α → Bool} : ∀ {l : List α} {i : Nat} {y : α}, (∀ j x, j < i → l[j]? = some x → p x = false) → l[i]? = some y → p y = true → l.find? p = some y
  | [], i, y, _, h, _ => by simp at h
  | a :: r, 0, y, _, h, hp => by
    have e : a = y := Option.some.inj h
    subst e
    rw [List.find?_cons, hp]
  | a :: r, i + 1, y, hn, h, hp => by
    have ha : p a = false := hn 0 a (Nat.succ_pos i) rfl
    rw [List.find?_cons, ha]
    exact find_first (l := r) (i := i) (fun j x hj hx => hn (j + 1) x (Nat.succ_lt_succ hj) hx) h hp
theorem find_none {α : Type} {p : α → Bool} {l : List α} (h : ∀ (j : Nat) (x : α), l[j]? = some x → p x = false) : l.find? p = none := by
  refine List.find?_eq_none.mpr fun x hx => ?_
  obtain ⟨j, hj⟩ := List.mem_iff_getElem?.mp hx
  rw [h j x hj]; decide
end My
namespace My
open PySem PySem.Spec PyProof.Rows L2
/-- f(a, ..), f a def with *rest -/
theorem pe_callR {X : Cx} {CX : CXT} {k : Nat} {f : Addr} {sp : Sp} {E : XK} {x : Str} {e : Expr} {es : List Expr} {t : TA} {p pos : Pos} (F : FnR X.prog X.w X.K X.mg X.base CX k f sp) (room : Room k X.A) (kept : PySem.W.keepIn X.K (.ref f) = true) (hg : Gl X x)
    (hm : X.mg x = some (.ref f)) (hx : Passes CX X E) (ha : PA X (e :: es) t) (hd : (x == ("__debug__" : Str)) = false := by decide) (he : starEach (e :: es) X.env = (false, eval e X.env) :: starEach es X.env := by rfl)
    (hpl : (backTo pos (starEach es X.env)).any (·.1) = false := by rfl) : PE X (.Call (.Name x p) (e :: es) [] pos) (fun σ H Q => t σ H fun vs H1 => sp vs H1 Q E) := ⟨fun pins s σ H Q I h =>
  wpAny_Call_Name_kw (ld_glob I hg hm (PySem.W.callWith_K (h₀ := X.base) I.ok.mod.kin kept (thn (ha.run pos pins s σ H _ I h) fun us s1 ⟨vs, H1, I1, r, q⟩ => ⟨I1.kIn, wpAny_call (run_fnR F room hx I1 r q)⟩) he hpl) hd)⟩
end My
namespace My
open PySem PySem.Spec PyProof.Rows L2
def tLenK (K : PySem.W.Frag) (t : TA) : TE := tCB (fun xs H Q => ∃ p ys, xs = [.ref p] ∧ (SqL K H p ys ∨ SqT K H p ys) ∧ Q (.int ys.length) H) t
def ET (W : WX) (n : Nat) : XK := fun cls d H => ∀ σ : L2.St, σ.length = n → W cls d σ H
def tCallR (sp : Sp) (E : XK) (t : TA) : TE := fun σ H Q => t σ H fun vs H1 => sp vs H1 Q E
end My
namespace My
open PySem PySem.Spec PyProof.Rows L2
/-! ### the rules with the written part by its letter -/
section
variable {X : Cx}
theorem ix_listK (K : PySem.W.Frag) (h : X.K = K := by rfl) : IxR X (rIxL K) := by subst h; exact ix_list
theorem ix_tupK (K : PySem.W.Frag) (h : X.K = K := by rfl) : IxR X (rIxT K) := by subst h; exact ix_tup
def rLen (K : PySem.W.Frag) : List V → Hp → VK → Prop := fun xs H Q => ∃ p ys, xs = [.ref p] ∧ (SqL K H p ys ∨ SqT K H p ys) ∧ Q (.int ys.length) H
theorem call_lenK (K : PySem.W.Frag) (h : X.K = K := by rfl) : CallR X (.builtin "len") (rLen K) := by subst h; exact call_len_seq
def rListOf (K : PySem.W.Frag) : List V → Hp → VK → Prop := fun xs H Q => ∃ p ys, xs = [.ref p] ∧ (SqL K H p ys ∨ SqT K H p ys) ∧ ∀ l, H l = none → Q (.ref l) (upd H l (.lst ys))
theorem call_listK (K : PySem.W.Frag) (h : X.K = K := by rfl) : CallR X (.type "list") (rListOf K) := by subst h; exact call_list_of
theorem sl_listK (K : PySem.W.Frag) (h : X.K = K := by rfl) : SlR X (rSlL K) := by subst h; exact sl_list
theorem op_inK (K : PySem.W.Frag) (h : X.K = K := by rfl) : OpR X (compareOp .In) (rIn K false) := by subst h; exact op_in_seq
theorem op_notInK (K : PySem.W.Frag) (h : X.K = K := by rfl) : OpR X (compareOp .NotIn) (rIn K true) := by subst h; exact op_notIn_seq
theorem op_eqDK (K : PySem.W.Frag) (hu : X.A.units + 64 < cLine) (h : X.K = K := by rfl) : OpR X (compareOp .Eq) (rEqD K) := by subst h; exact op_eqD hu
theorem op_neDK (K : PySem.W.Frag) (hu : X.A.units + 64 < cLine) (h : X.K = K := by rfl) : OpR X (compareOp .NotEq) (rNeD K) := by subst h; exact op_neD hu
theorem op_notInDTK (K : PySem.W.Frag) (hu : X.A.units + 65 < cLine) (h : X.K = K := by rfl) : OpR X (compareOp .NotIn) (rNotInDT K) := by subst h; exact op_notInDT hu
theorem op_eqIntsK (K : PySem.W.Frag) (hu : X.A.units + 64 < cLine) (h : X.K = K := by rfl) : OpR X (compareOp .Eq) (rEqInts K false) := by subst h; exact op_eqInts hu
theorem op_neIntsK (K : PySem.W.Frag) (hu : X.A.units + 64 < cLine) (h : X.K = K := by rfl) : OpR X (compareOp .NotEq) (rEqInts K true) := by subst h; exact op_neInts hu
theorem mt_countBK (K : PySem.W.Frag) (hu : X.A.units + 64 < cLine) (h : X.K = K := by rfl) : MtR X "list.count" (rCntB K) := by subst h; exact mt_countB hu
theorem pi_listK {tg l : Expr} {tl : TE} (K : PySem.W.Frag) (hl : PI X tg l (iList X.K tl)) (h : X.K = K := by rfl) : PI X tg l (iList K tl) := by subst h; exact hl
theorem pi_tupK {tg l : Expr} {tl : TE} (K : PySem.W.Frag) (hl : PI X tg l (iTup X.K tl)) (h : X.K = K := by rfl) : PI X tg l (iTup K tl) := by subst h; exact hl
theorem pe_bmK {e : Expr} {T : String} {r : V → List V → Hp → VK → Prop} {to : TE} {t : TA} (K : PySem.W.Frag) (hb : PE X e (tBM X.K T r to t)) (h : X.K = K := by rfl) : PE X e (tBM K T r to t) := by subst h; exact hb
def rIsTupK (K : PySem.W.Frag) : List V → Hp → VK → Prop := fun xs H Q => ∃ a o, xs = [.ref a, .ty "tuple"] ∧ K.lookup a = some o ∧ o.cls = .type "tuple" ∧ Q (.bl true) H
theorem call_isTupKK (K : PySem.W.Frag) (h : X.K = K := by rfl) : CallR X (.builtin "isinstance") (rIsTupK K) := by subst h; exact call_isTupK
end
/-! ### what is behind is put by -/
theorem seq_gen {t u : TS} {D : Ends} {σ : L2.St} {H : Hp} (h : ∀ R : L2.St → Hp → Prop, (∀ σ' H', u D σ' H' → R σ' H') → t { nx := R, rt := D.rt, bk := D.bk, ct := D.ct } σ H) : tSeq t u D σ H := h (u D) (fun _ _ q => q)
theorem cons_gen {te : TE} {ta : TA} {σ : L2.St} {H : Hp} {Q : List V → Hp → Prop} (h : ∀ R : VK, (∀ x H1, (ta σ H1 fun xs H2 => Q (x :: xs) H2) → R x H1) → te σ H R) : tCons te ta σ H Q := h _ (fun _ _ q => q)
end My
namespace My
open PySem PySem.Spec PyProof.Rows L2
/-! ### two readings of one expression: the promise chooses which one -/
def tEi (t u : TE) : TE := fun σ H Q => t σ H Q ∨ u σ H Q
def iEi (t u : TI) : TI := fun σ H R => t σ H R ∨ u σ H R
theorem pe_ei {X : Cx} {e : Expr} {t u : TE} (h : PE X e t) (h2 : PE X e u) : PE X e (tEi t u) :=
  ⟨fun pins s σ H Q i z => z.elim (h.run pins s σ H Q i) (h2.run pins s σ H Q i)⟩
theorem pi_ei {X : Cx} {tg e : Expr} {t u : TI} (h : PI X tg e t) (h2 : PI X tg e u) : PI X tg e (iEi t u) :=
  ⟨fun pins s σ H R i z => z.elim (h.run pins s σ H R i) (h2.run pins s σ H R i)⟩
end My
namespace My
open PySem PySem.Spec PyProof.Rows L2
/-! ### t[::-1] of a tuple -/
theorem sliceApplied_rev {prog : Program} {w : World} {A : Around} {E : Value → Shared → Prop} {s : Shared} {sl : Addr} {n : Nat} {k : Tok} {Q : Int × Int × Nat → Shared → Prop}
    (hs : s.heap.IsSliceOf sl .none .none (.int (-1) k)) (h : Q ((n : Int) - 1, -1, n) s) : wpAny (model prog w) A (Builtin.Slice.sliceApplied (.ref sl) (pure (n : Int))) Q E s := by
  obtain ⟨os, hos, hcs, hds⟩ := hs
  unfold Builtin.Slice.sliceApplied Builtin.Slice.sliceFields
  refine wpAny_bind (wpAny_bind (wpAny_field hos hds rfl (wpAny_bind (wpAny_field hos hds rfl (wpAny_bind (wpAny_field hos hds rfl (wpAny_pure ?_)))))))
  refine wpAny_bind (HT.slicePart_ (IsPart.int (-1) k) ?_)
  show wpAny _ _ (if ((-1 : Int) == 0) = true then _ else _) _ _ _
  rw [if_neg (by decide)]
  refine wpAny_bind (slicePart_none (wpAny_bind (slicePart_none (wpAny_bind (wpAny_pure ?_)))))
  refine wpAny_pure ?_
  have e : Builtin.Slice.slicePlaces ((n : Int) - 1) (-1) (-1) = n := by
    unfold Builtin.Slice.slicePlaces
    rw [if_neg (by decide)]
    by_cases c : (n : Int) - 1 > -1
    · rw [if_pos c, show (- -1 : Int) = 1 by decide, Int.ediv_one]; omega
    · rw [if_neg c]; omega
  show Q ((n : Int) - 1, -1, Builtin.Slice.slicePlaces ((n : Int) - 1) (-1) (-1)) s
  rw [e]
  exact h
theorem fm_congr {α β : Type} {f g : α → Option β} : ∀ {l : List α}, (∀ x ∈ l, f x = g x) → l.filterMap f = l.filterMap g
  | [], _ => rfl
  | a :: r, h => by
    rw [List.filterMap_cons, List.filterMap_cons, h a List.mem_cons_self, fm_congr (l := r) fun x hx => h x (List.mem_cons_of_mem _ hx)]
theorem pick_rev (xs : Array Value) : (List.filterMap (fun (m : Nat) => xs[((xs.size : Int) - 1 + (m : Int) * -1).toNat]?) (List.range xs.size)).toArray = xs.toList.reverse.toArray := by
  congr 1
  have h1 : (List.range xs.size).filterMap (fun (m : Nat) => xs[((xs.size : Int) - 1 + (m : Int) * -1).toNat]?) = (List.range xs.size).filterMap (fun m => xs.toList.reverse[m]?) := by
    refine fm_congr fun m hm => ?_
    have hm := List.mem_range.mp hm
    rw [List.getElem?_reverse (by rw [Array.length_toList]; exact hm), Array.length_toList, Array.getElem?_toList]
    congr 1
    omega
  rw [h1]
  generalize hl : xs.toList.reverse = l
  have hn : xs.size = l.length := by rw [← hl, List.length_reverse, Array.length_toList]
  rw [hn]
  clear h1 hl hn
  refine List.ext_getElem? fun i => ?_
  have h2 : (List.range l.length).filterMap (fun m => l[m]?) = l := by
    induction l with
    | nil => rfl
    | cons a r ih =>
      rw [List.length_cons, List.range_succ_eq_map, List.filterMap_cons]
      show (a :: (List.map Nat.succ (List.range r.length)).filterMap fun m => (a :: r)[m]?) = a :: r
      rw [List.filterMap_map]
      congr 1
  rw [h2]
theorem getItem_tuple_rev {prog : Program} {w : World} {A : Around} {E : Value → Shared → Prop} {s : Shared} {t sl : Addr} {k : Tok} {items : Array Value} {Q : Value → Shared → Prop} (ht : IsTup s.heap t items)
    (hs : s.heap.IsSliceOf sl .none .none (.int (-1) k))
    (h : Q (.ref s.heap.objs.size) { heap := s.heap.push { cls := .type "tuple", data := .seq items.toList.reverse.toArray }, gens := s.gens, drawn := s.drawn, toks := s.toks, os := s.os })
    (hz : items.size ≤ sizeLine) : wpAny (model prog w) A (getItem (.ref t) (.ref sl)) Q E s := by
  have hs' := hs
  obtain ⟨os, hos, hcs, hds⟩ := hs
  have hTs : s.TypeIs (.ref sl) "slice" := ⟨os, hos, hcs⟩
  refine wpAny_holding (wpAny_bind (wpAny_sequenceKey ht.typeIs (by decide) (wpAny_bind (wpAny_callSpecial?_slot ht.typeIs slot_tuple_getitem (wpAny_call_entry slot_tuple_getitem ht.typeIs entry_tuple_getitem ?_ (args_tuple_getitem _ _))))))
  show wpAny _ _ (do
      let xs ← Builtin.Tuple.tupleItemsOf (.ref t)
      _) _ _ _
  refine wpAny_bind (tupleItemsOf_ ht (wpAny_bind (wpAny_typeOf hTs ?_)))
  rw [if_pos (by decide)]
  refine wpAny_bind (sliceApplied_rev hs' ?_)
  simp only
  rw [if_neg (by
    intro q
    rw [Bool.and_eq_true, Bool.and_eq_true] at q
    exact absurd q.1.2 (by decide))]
  rw [pick_rev]
  refine wpAny_bind (wpAny_newObj_type (wpAny_pure ⟨_, rfl, wpAny_pure h⟩) ?_)
  show items.toList.reverse.toArray.size ≤ sizeLine
  simpa using hz
def tRevT (K : PySem.W.Frag) (te : TE) : TE := fun σ H Q => te σ H fun x H1 => ∃ a xs, x = .ref a ∧ SqT K H1 a xs ∧ ∀ p, H1 p = none → Q (.ref p) (upd H1 p (.tup xs.reverse))
theorem pe_revT {X : Cx} {e : Expr} {te : TE} {k : Nat} {p1 p2 p3 pos : Pos} (he : PE X e te) :
    PE X (.Subscript e (.Slice none none (some (.UnaryOp .USub (.Constant (.int 1) k p1) p2)) p3) pos) (tRevT X.K te) := ⟨fun pins s σ H Q I h => by
  refine Subscript_ (thn (he.run pins s σ H _ I h) ?_)
  rintro v s1 ⟨x, H1, I1, r1, a, xs, rfl, hx, q⟩
  cases r1
  have hst := po_some (X := X) (pe_un un_neg (pe_int (X := X) (i := 1) (j := k) (pos := p1)) (pos := p2))
  refine wpAny_Slice (thn (po_none.run pins s1 σ H1 (fun o H2 => o = none ∧ H2 = H1) I1 ⟨rfl, rfl⟩) ?_)
  rintro vl s2 ⟨l, H2, I2, pl, rfl, rfl⟩
  refine thn (po_none.run pins s2 σ H2 (fun o H3 => o = none ∧ H3 = H2) I2 ⟨rfl, rfl⟩) ?_
  rintro vu s3 ⟨u, H3, I3, pu, rfl, rfl⟩
  refine thn (hst.run pins s3 σ H3 (fun o H4 => o = some (-1) ∧ H4 = H3) I3 ⟨_, rfl, _, rfl, rfl, rfl⟩) ?_
  rintro vs s4 ⟨o, H4, I4, ps, rfl, rfl⟩
  cases pl
  cases pu
  obtain ⟨tk, rfl⟩ : ∃ tk, vs = Value.int (-1) tk := by cases ps; exact ⟨_, rfl⟩
  have I5 := I4.kept (h' := s4.heap.push { cls := .type "slice", data := .fields #[.none, .none, .int (-1) tk] }) (t' := s4.toks) fun b ob q => Heap.get?_push_of_some _ q
  obtain ⟨its, r, ht, hz⟩ := I5.tuple hx
  have hlen : its.toArray.size = xs.length := by rw [List.size_toArray]; exact r.length.symm
  refine tail_any ht.typeIs slot_tuple_getitem.lookup (getItem_tuple_rev ht ⟨_, Heap.get?_push_size _ rfl, rfl, rfl⟩ ?_ (by rw [hlen]; exact hz)) rfl
  refine ⟨.ref _, upd _ _ (.tup xs.reverse), I5.laid (fun b ob q => Heap.get?_push_of_some _ q) (Nat.le_refl _) ⟨by rw [List.length_reverse]; exact hz, its.reverse, r.reverse, ?_⟩, rfl, q _ (HOk.fresh I5.hok (Nat.le_refl _))⟩
  exact IsTup.new _ _⟩
end My
namespace My
open PySem PySem.Spec PyProof.Rows L2
theorem pe_revLK {X : Cx} {e : Expr} {te : TE} {k : Nat} {p1 p2 p3 pos : Pos} (K : PySem.W.Frag) (he : PE X e te) (h : X.K = K := by rfl) :
    PE X (.Subscript e (.Slice none none (some (.UnaryOp .USub (.Constant (.int 1) k p1) p2)) p3) pos) (tRevL K te) := by subst h; exact pe_revL he
theorem pe_revTK {X : Cx} {e : Expr} {te : TE} {k : Nat} {p1 p2 p3 pos : Pos} (K : PySem.W.Frag) (he : PE X e te) (h : X.K = K := by rfl) :
    PE X (.Subscript e (.Slice none none (some (.UnaryOp .USub (.Constant (.int 1) k p1) p2)) p3) pos) (tRevT K te) := by subst h; exact pe_revT he
end My
namespace My
open PySem PySem.Spec PyProof.Rows L2
def rTupOf (K : PySem.W.Frag) : List V → Hp → VK → Prop := fun xs H Q => ∃ p ys, xs = [.ref p] ∧ ((SqL K H p ys ∧ ∀ l, H l = none → Q (.ref l) (upd H l (.tup ys))) ∨ (SqT K H p ys ∧ Q (.ref p) H))
theorem call_tupleK {X : Cx} (K : PySem.W.Frag) (h : X.K = K := by rfl) : CallR X (.type "tuple") (rTupOf K) := by subst h; exact call_tuple_of
theorem op_catTK {X : Cx} (K : PySem.W.Frag) (h : X.K = K := by rfl) : OpR X (binaryOp .Add) (rCatT K) := by subst h; exact op_catT
end My
namespace My
open PySem PySem.Spec PyProof.Rows L2
/-! ### digits and texts -/
def DG : Str := "0123456789abcdefghijklmnopqrstuvwxyz"
def dch (d : Nat) : Nat := if d < 10 then 48 + d else 87 + d
def fd (c : Nat) : Int := if 48 ≤ c ∧ c ≤ 57 then c - 48 else if 97 ≤ c ∧ c ≤ 122 then c - 87 else -1
theorem find_fin : ∀ c : Fin 128, Txt.find DG ⟨#[c.val]⟩ = fd c.val := by decide +kernel
theorem find_dig {c : Nat} (h : c < 128) : Txt.find DG ⟨#[c]⟩ = fd c := find_fin ⟨c, h⟩
theorem DG_cps : DG.cps.toList = (List.range 36).map dch := by decide +kernel
theorem DG_at {d : Nat} (h : d < 36) : atI DG.cps.toList (d : Int) = some (dch d) := by
  rw [DG_cps]
  unfold atI ixN
  rw [if_pos (by omega), if_pos (by rw [List.length_map, List.length_range]; omega)]
  show ((List.range 36).map dch)[((d : Nat) : Int).toNat]? = some (dch d)
  rw [Int.toNat_natCast, List.getElem?_map, List.getElem?_range h]
  rfl
theorem DG_len : DG.length ≤ sizeLine := by rw [sizeLine_eq]; decide +kernel
theorem fd_dch {d : Nat} (h : d < 36) : fd (dch d) = d ∧ dch d < 128 := by
  unfold fd dch
  by_cases c : d < 10
  · rw [if_pos c, if_pos ⟨by omega, by omega⟩]; omega
  · rw [if_neg c, if_neg (by omega), if_pos ⟨by omega, by omega⟩]; omega
theorem foldl_cps : ∀ (ys : List Str) (a : Array Nat), ys.foldl (fun acc p => acc ++ (Str.empty).cps ++ p.cps) a = a ++ (ys.flatMap (·.cps.toList)).toArray
  | [], a => by simp
  | y :: r, a => by
    rw [List.foldl_cons, foldl_cps r]
    apply Array.toList_inj.mp
    simp [Str.empty]
theorem join_empty (ys : List Str) : Txt.join "" ys = ⟨(ys.flatMap (·.cps.toList)).toArray⟩ := by
  cases ys with
  | nil => rfl
  | cons y r =>
    have e : ("" : Str) = Str.empty := by decide +kernel
    show Builtin.Str.glued "" (y :: r) = _
    rw [e]
    unfold Builtin.Str.glued
    show Str.mk (List.foldl (fun acc p => acc ++ Str.empty.cps ++ p.cps) y.cps r) = _
    rw [foldl_cps]
    congr 1
    apply Array.toList_inj.mp
    simp
/-- a text of these codes -/
def tx (cs : List Nat) : Str := ⟨cs.toArray⟩
theorem tx_len (cs : List Nat) : (tx cs).length = cs.length := by show cs.toArray.size = _; rw [List.size_toArray]
theorem tx_one (c : Nat) : (⟨#[c]⟩ : Str) = tx [c] := rfl
theorem tx_app (a b : List Nat) : tx a ++ tx b = tx (a ++ b) := by
  show Str.append (tx a) (tx b) = _
  unfold Str.append tx
  simp
def ones (cs : List Nat) : List Str := cs.map fun c => tx [c]
theorem flat_ones (cs : List Nat) : (ones cs).flatMap (·.cps.toList) = cs := by
  unfold ones
  induction cs with
  | nil => rfl
  | cons c r ih =>
    rw [List.map_cons, List.flatMap_cons, ih]
    rfl
theorem join_onesT (cs : List Nat) : Txt.join "" (ones cs) = tx cs := by rw [join_empty, flat_ones]; rfl
theorem sum_ones (cs : List Nat) : ((ones cs).map (·.length)).sum = cs.length := by
  unfold ones
  induction cs with
  | nil => rfl
  | cons c r ih =>
    rw [List.map_cons, List.map_cons, List.sum_cons, ih, tx_len]
    simp only [List.length_cons, List.length_nil]
    omega
theorem ones_len (cs : List Nat) : (ones cs).length = cs.length := List.length_map ..
theorem ones_rev (cs : List Nat) : ((ones cs).map V.str).reverse = (ones cs.reverse).map V.str := by
  unfold ones
  rw [List.map_map, List.map_map, List.map_reverse]
theorem ones_snoc (cs : List Nat) (c : Nat) : (ones cs).map V.str ++ [V.str (tx [c])] = (ones (cs ++ [c])).map V.str := by
  unfold ones
  rw [List.map_append, List.map_append]
  rfl
/-- the digits of r in base b, the least significant first -/
def dgl (b r k : Nat) : List Nat := (List.range k).map fun j => dch (r / b ^ j % b)
theorem dgl_len (b r k : Nat) : (dgl b r k).length = k := by unfold dgl; rw [List.length_map, List.length_range]
theorem dgl_succ (b r k : Nat) : dgl b r (k + 1) = dgl b r k ++ [dch (r / b ^ k % b)] := by
  unfold dgl
  rw [List.range_succ, List.map_append]
  rfl
def sgn (n : Int) : List Nat := if n < 0 then [45] else []
/-- s is how n is written in base b -/
def IsSh (b : Nat) (n : Int) (s : Str) : Prop := ∃ k, 1 ≤ k ∧ n.natAbs < b ^ k ∧ (∀ j, 1 ≤ j → j < k → b ^ j ≤ n.natAbs) ∧ s = tx (sgn n ++ (dgl b n.natAbs k).reverse)
theorem IsSh.uniq {b : Nat} {n : Int} {s t : Str} (h : IsSh b n s) (g : IsSh b n t) : s = t := by
  obtain ⟨k, hk, h1, h2, rfl⟩ := h
  obtain ⟨m, hm, g1, g2, rfl⟩ := g
  have e : k = m := by
    rcases Nat.lt_trichotomy k m with c | c | c
    · have := g2 k hk c; omega
    · exact c
    · have := h2 m hm c; omega
  rw [e]
theorem pow_le_bound {b j r : Nat} (hb : 2 ≤ b) (h : b ^ j ≤ r) (hr : r < 2 ^ 200) : j < 200 := by
  have h1 : 2 ^ j ≤ b ^ j := Nat.pow_le_pow_left hb j
  exact (Nat.pow_lt_pow_iff_right (by decide : 1 < 2)).mp (by omega)
end My
namespace My
open PySem PySem.Spec PyProof.Rows L2
theorem starts_one (cs : List Nat) (c : Nat) : Txt.startswith (tx cs) (tx [c]) = decide (cs.head? = some c) := by
  unfold Txt.startswith Builtin.Str.subAt
  rw [tx_len, tx_len]
  cases cs with
  | nil => rfl
  | cons a r =>
    show (decide (0 + 1 ≤ (a :: r).length) && ((a :: r).toArray.extract 0 (0 + 1) == [c].toArray)) = decide (some a = some c)
    rw [decide_eq_true (show 0 + 1 ≤ (a :: r).length by rw [List.length_cons]; omega), Bool.true_and]
    have e : (a :: r).toArray.extract 0 (0 + 1) = [a].toArray := by
      apply Array.toList_inj.mp
      simp
    rw [e]
    by_cases h : a = c
    · subst h
      rw [decide_eq_true rfl]
      exact beq_self_eq_true _
    · rw [decide_eq_false (fun z => h (Option.some.inj z))]
      apply Bool.eq_false_iff.mpr
      intro z
      have := eq_of_beq z
      have := congrArg Array.toList this
      simp at this
      exact h this
theorem cut_tail (cs : List Nat) : cutS (tx cs) (some 1) none = tx (cs.drop 1) := by
  unfold cutS HT.sIx
  rw [tx_len]
  simp only [if_neg (show ¬ (1 : Int) < 0 by decide)]
  show Str.mk (List.take (cs.length - min 1 cs.length) (List.drop (min 1 cs.length) cs)).toArray = tx (cs.drop 1)
  cases cs with
  | nil => rfl
  | cons a r =>
    rw [List.length_cons, Nat.min_eq_left (by omega)]
    show Str.mk (List.take (r.length + 1 - 1) r).toArray = tx r
    rw [Nat.add_sub_cancel, List.take_length]
    rfl
def vFold (b : Int) : List Nat → Int → Option Int
  | [], v => some v
  | c :: r, v => if fd c < 0 ∨ b ≤ fd c then none else vFold b r (v * b + fd c)
def vOf (b : Int) (cs : List Nat) : Option Int := if cs = [] then none else vFold b cs 0
def ov : Option Int → V
  | none => .non
  | some v => .int v
def pre (b : Int) (cs : List Nat) : Int × List Nat := if cs.head? = some 36 then (16, cs.drop 1) else if cs.head? = some 35 then (10, cs.drop 1) else (b, cs)
def fin (w : Int) (neg : Bool) : Option Int → Option Int
  | none => none
  | some v => if -(hf w) ≤ (if neg = true then -v else v) ∧ (if neg = true then -v else v) < 2 * hf w then some (wrapI w (if neg = true then -v else v)) else none
def rdN (w b : Int) (cs : List Nat) : Option Int := fin w (decide (cs.head? = some 45)) (vOf b (if cs.head? = some 45 then cs.drop 1 else cs))
def rdV (w b : Int) (cs : List Nat) : Option Int := rdN w (pre b cs).1 (pre b cs).2
theorem vsub {F : V → Hp → Prop} {x y : V} {H : Hp} (e : x = y) (h : F y H) : F x H := by rw [e]; exact h
theorem tx_inj {a b : List Nat} (h : tx a = tx b) : a = b := by
  have := congrArg (fun s : Str => s.cps.toList) h
  simpa [tx] using this
theorem tx_nil : tx [] = Str.ofString "" := by decide +kernel
end My
namespace My
open PySem PySem.Spec PyProof.Rows L2
def due (w v : Int) : Option Int := if v < -(hf w) ∨ 2 * hf w - 1 < v then none else some (wrapI w v)
theorem vFold_dgl {b r : Nat} (hb : 2 ≤ b) (hb3 : b ≤ 36) : ∀ (k : Nat) (v : Int), vFold b (dgl b r k).reverse v = some (v * (b : Int) ^ k + ((r % b ^ k : Nat) : Int))
  | 0, v => by
    show some v = _
    rw [Int.pow_zero, Nat.pow_zero, Nat.mod_one]
    simp
  | k + 1, v => by
    have hd : r / b ^ k % b < b := Nat.mod_lt _ (by omega)
    have hf := (fd_dch (d := r / b ^ k % b) (by omega)).1
    rw [dgl_succ, List.reverse_append]
    show vFold b (dch (r / b ^ k % b) :: (dgl b r k).reverse) v = _
    unfold vFold
    rw [hf, if_neg (by omega), vFold_dgl hb hb3 k, Nat.mod_pow_succ, Int.pow_succ]
    congr 1
    rw [Int.natCast_add, Int.natCast_mul, Int.natCast_pow, Int.add_mul, Int.mul_assoc]
    have e1 : (b : Int) * (b : Int) ^ k = (b : Int) ^ k * (b : Int) := Int.mul_comm _ _
    have e2 : ((r / b ^ k % b : Nat) : Int) * (b : Int) ^ k = (b : Int) ^ k * ((r / b ^ k % b : Nat) : Int) := Int.mul_comm _ _
    rw [e1, e2]
    omega
theorem dch_big (d : Nat) : 48 ≤ dch d := by unfold dch; split <;> omega
theorem fin_due {w n : Int} (hw : Wd w) : fin w (decide (n < 0)) (some (n.natAbs : Int)) = due w n := by
  have hq := hf_pos hw
  by_cases c : n < 0
  · rw [decide_eq_true c]
    show (if -(hf w) ≤ -((n.natAbs : Nat) : Int) ∧ -((n.natAbs : Nat) : Int) < 2 * hf w then some (wrapI w (-((n.natAbs : Nat) : Int))) else none) = due w n
    rw [show -((n.natAbs : Nat) : Int) = n by omega]
    unfold due
    by_cases c2 : n < -(hf w) ∨ 2 * hf w - 1 < n
    · rw [if_pos c2, if_neg (by omega)]
    · rw [if_neg c2, if_pos (by omega)]
  · rw [decide_eq_false c]
    show (if -(hf w) ≤ ((n.natAbs : Nat) : Int) ∧ ((n.natAbs : Nat) : Int) < 2 * hf w then some (wrapI w ((n.natAbs : Nat) : Int)) else none) = due w n
    rw [show ((n.natAbs : Nat) : Int) = n by omega]
    unfold due
    by_cases c2 : n < -(hf w) ∨ 2 * hf w - 1 < n
    · rw [if_pos c2, if_neg (by omega)]
    · rw [if_neg c2, if_pos (by omega)]
theorem rd_shown {w n : Int} {bn : Nat} {s : Str} (hw : Wd w) (h2 : 2 ≤ bn) (h3 : bn ≤ 36) (hn : n.natAbs < 2 ^ 200) (h : IsSh bn n s) : ∃ cs, s = tx cs ∧ (∀ c ∈ cs, c < 128) ∧ cs.length ≤ 1000 ∧ rdV w bn cs = due w n := by
  obtain ⟨k, hk, hlt, hj, rfl⟩ := h
  have hk2 : k ≤ 201 := by
    have : k - 1 < 200 ∨ k = 1 := by
      by_cases e : k = 1
      · exact .inr e
      · exact .inl (pow_le_bound h2 (hj (k - 1) (by omega) (by omega)) hn)
    omega
  have hall : ∀ c ∈ (dgl bn n.natAbs k).reverse, 48 ≤ c ∧ c < 128 := by
    intro c hc
    rw [List.mem_reverse] at hc
    obtain ⟨j, _, rfl⟩ := List.mem_map.mp hc
    exact ⟨dch_big _, (fd_dch (Nat.lt_of_lt_of_le (Nat.mod_lt _ (by omega)) h3)).2⟩
  have hne : (dgl bn n.natAbs k).reverse ≠ [] := by
    intro z
    have := congrArg List.length z
    rw [List.length_reverse, dgl_len] at this
    simp at this
    omega
  have hv : vOf bn (dgl bn n.natAbs k).reverse = some (n.natAbs : Int) := by
    unfold vOf
    rw [if_neg hne, vFold_dgl h2 h3, Nat.mod_eq_of_lt hlt]
    simp
  have hh : ∀ c, (dgl bn n.natAbs k).reverse.head? = some c → 48 ≤ c := fun c hc => (hall c (List.mem_of_mem_head? hc)).1
  have h36 : (sgn n ++ (dgl bn n.natAbs k).reverse).head? ≠ some 36 := by
    unfold sgn
    by_cases c : n < 0
    · rw [if_pos c]; simp
    · rw [if_neg c]; intro z; have := hh 36 z; omega
  have h35 : (sgn n ++ (dgl bn n.natAbs k).reverse).head? ≠ some 35 := by
    unfold sgn
    by_cases c : n < 0
    · rw [if_pos c]; simp
    · rw [if_neg c]; intro z; have := hh 35 z; omega
  refine ⟨_, rfl, ?_, ?_, ?_⟩
  · intro c hc
    rcases List.mem_append.mp hc with hc | hc
    · unfold sgn at hc
      by_cases c0 : n < 0
      · rw [if_pos c0] at hc; rw [List.mem_singleton.mp hc]; decide
      · rw [if_neg c0] at hc; cases hc
    · exact (hall c hc).2
  · rw [List.length_append, List.length_reverse, dgl_len]
    have : (sgn n).length ≤ 1 := by unfold sgn; split <;> simp
    omega
  · unfold rdV pre
    rw [if_neg h36, if_neg h35]
    show rdN w bn (sgn n ++ (dgl bn n.natAbs k).reverse) = due w n
    rw [← fin_due hw]
    unfold rdN sgn
    by_cases c : n < 0
    · rw [if_pos c, decide_eq_true c]
      have hm : ([45] ++ (dgl bn n.natAbs k).reverse).head? = some 45 := rfl
      rw [decide_eq_true hm, if_pos hm]
      show fin w true (vOf bn (dgl bn n.natAbs k).reverse) = _
      rw [hv]
    · rw [if_neg c, decide_eq_false c]
      have hm : ([] ++ (dgl bn n.natAbs k).reverse).head? ≠ some 45 := fun z => by have := hh 45 z; omega
      rw [decide_eq_false hm, if_neg hm]
      show fin w false (vOf bn (dgl bn n.natAbs k).reverse) = _
      rw [hv]
end My
namespace My
open PySem PySem.Spec PyProof.Rows L2
/-! ### words that are numbers, and words that are none -/
theorem tx_cps (cs : List Nat) : (tx cs).cps.toList = cs := by simp [tx]
def BadD (b : Int) (c : Nat) : Prop := fd c < 0 ∨ b ≤ fd c
theorem vFold_bad {b : Int} : ∀ {cs : List Nat} {v : Int} {c : Nat}, c ∈ cs → BadD b c → vFold b cs v = none
  | [], v, c, h, _ => by cases h
  | a :: r, v, c, h, hb => by
    unfold vFold
    by_cases e : fd a < 0 ∨ b ≤ fd a
    · rw [if_pos e]
    · rw [if_neg e]
      rcases List.mem_cons.mp h with h | h
      · subst h; exact absurd hb e
      · exact vFold_bad h hb
theorem vOf_bad {b : Int} {cs : List Nat} {c : Nat} (h : c ∈ cs) (hb : BadD b c) : vOf b cs = none := by
  unfold vOf
  by_cases e : cs = []
  · rw [if_pos e]
  · rw [if_neg e]; exact vFold_bad h hb
theorem bad36 {b : Int} : BadD b 36 := .inl (by decide)
theorem bad35 {b : Int} : BadD b 35 := .inl (by decide)
theorem bad45 {b : Int} : BadD b 45 := .inl (by decide)
def Pfx (base : Int) (pfx : List Nat) (real : Int) : Prop := (pfx = [] ∧ real = base) ∨ (pfx = [36] ∧ real = 16) ∨ (pfx = [35] ∧ real = 10)
theorem rd_minus {w base real : Int} {pfx X : List Nat} (hp : Pfx base pfx real) : rdV w base (pfx ++ [45] ++ X) = fin w true (vOf real X) := by
  rcases hp with ⟨rfl, rfl⟩ | ⟨rfl, rfl⟩ | ⟨rfl, rfl⟩ <;> rfl
theorem rd_plain {w base real : Int} {pfx X : List Nat} (hp : Pfx base pfx real) (h : X.head? ≠ some 36 ∧ X.head? ≠ some 35 ∧ X.head? ≠ some 45) : rdV w base (pfx ++ X) = fin w false (vOf real X) := by
  have h1 : rdN w real X = fin w false (vOf real X) := by
    unfold rdN
    rw [decide_eq_false h.2.2, if_neg h.2.2]
  rcases hp with ⟨rfl, rfl⟩ | ⟨rfl, rfl⟩ | ⟨rfl, rfl⟩
  · unfold rdV pre
    rw [List.nil_append, if_neg h.1, if_neg h.2.1]
    exact h1
  · exact h1
  · exact h1
theorem rd_front {w base real : Int} {pfx mns X : List Nat} (hp : Pfx base pfx real) (hm : mns = [] ∨ mns = [45]) (h : X.head? ≠ some 36 ∧ X.head? ≠ some 35 ∧ X.head? ≠ some 45) :
    rdV w base (pfx ++ mns ++ X) = fin w (decide (mns = [45])) (vOf real X) := by
  rcases hm with rfl | rfl
  · rw [List.append_nil, decide_eq_false (by decide)]
    exact rd_plain hp h
  · rw [decide_eq_true rfl]
    exact rd_minus hp
theorem fin_any {w v : Int} {neg : Bool} (hw : Wd w) : fin w neg (some v) = due w (if neg = true then -v else v) := by
  have hq := hf_pos hw
  show (if -(hf w) ≤ (if neg = true then -v else v) ∧ (if neg = true then -v else v) < 2 * hf w then some (wrapI w (if neg = true then -v else v)) else none) = _
  generalize (if neg = true then -v else v) = n
  unfold due
  by_cases c2 : n < -(hf w) ∨ 2 * hf w - 1 < n
  · rw [if_pos c2, if_neg (by omega)]
  · rw [if_neg c2, if_pos (by omega)]
theorem fin_none {w : Int} {neg : Bool} : fin w neg none = none := rfl
theorem rdN_bad {w b : Int} {cs : List Nat} {c : Nat} (h : c ∈ cs.drop 1 ∨ (c ∈ cs ∧ c ≠ 45)) (hb : BadD b c) : rdN w b cs = none := by
  unfold rdN
  by_cases e : cs.head? = some 45
  · rw [if_pos e]
    have : c ∈ cs.drop 1 := by
      rcases h with h | ⟨h, h2⟩
      · exact h
      · cases cs with
        | nil => cases h
        | cons a r =>
          have ea : a = 45 := Option.some.inj e
          rcases List.mem_cons.mp h with h | h
          · exact absurd (h.trans ea) h2
          · exact h
    rw [vOf_bad this hb]
    rfl
  · rw [if_neg e]
    have : c ∈ cs := by
      rcases h with h | h
      · exact List.mem_of_mem_drop h
      · exact h.1
    rw [vOf_bad this hb]
    rfl
/-- the digits of a word: none of them leads a sign or a prefix -/
def Dg (ts : List Nat) : Prop := ts ≠ [] ∧ ts.length ≤ 200 ∧ ∀ c ∈ ts, 48 ≤ c ∧ c < 128
theorem Dg.head {ts : List Nat} (h : Dg ts) : ∃ a r, ts = a :: r ∧ 48 ≤ a := by
  cases ts with
  | nil => exact absurd rfl h.1
  | cons a r => exact ⟨a, r, rfl, (h.2.2 a List.mem_cons_self).1⟩
theorem Dg.no {ts X : List Nat} (h : Dg ts) : (ts ++ X).head? ≠ some 36 ∧ (ts ++ X).head? ≠ some 35 ∧ (ts ++ X).head? ≠ some 45 := by
  obtain ⟨a, r, rfl, ha⟩ := h.head
  refine ⟨fun z => ?_, fun z => ?_, fun z => ?_⟩ <;> (have := Option.some.inj (show some a = some _ from z); omega)
structure Bt (w base : Int) (pfx mns ts : List Nat) (v real : Int) : Prop where
  p : Pfx base pfx real
  m : mns = [] ∨ mns = [45]
  d : Dg ts
  r0 : 2 ≤ real
  r1 : real ≤ 36
  v : ∃ v0, vOf real ts = some v0 ∧ v = if mns = [45] then -v0 else v0
theorem Bt.reads {w base v real : Int} {pfx mns ts : List Nat} (hw : Wd w) (h : Bt w base pfx mns ts v real) : rdV w base (pfx ++ mns ++ ts) = due w v := by
  obtain ⟨v0, e, ev⟩ := h.v
  have hd := h.d.no (X := [])
  rw [List.append_nil] at hd
  rw [rd_front h.p h.m hd, e, fin_any hw, ev]
  congr 1
  by_cases c : mns = [45]
  · rw [if_pos c, if_pos (decide_eq_true c)]
  · rw [if_neg c, if_neg (by rw [decide_eq_false c]; decide)]
theorem Bt.len {w base v real : Int} {pfx mns ts : List Nat} (h : Bt w base pfx mns ts v real) : pfx.length ≤ 1 ∧ mns.length ≤ 1 ∧ ts.length ≤ 200 := by
  refine ⟨?_, ?_, h.d.2.1⟩
  · rcases h.p with ⟨rfl, _⟩ | ⟨rfl, _⟩ | ⟨rfl, _⟩ <;> simp
  · rcases h.m with rfl | rfl <;> simp
theorem Bt.lt {w base v real : Int} {pfx mns ts : List Nat} (h : Bt w base pfx mns ts v real) : (∀ c ∈ pfx, c < 128) ∧ (∀ c ∈ mns, c < 128) ∧ (∀ c ∈ ts, c < 128) := by
  refine ⟨?_, ?_, fun c hc => (h.d.2.2 c hc).2⟩
  · rcases h.p with ⟨rfl, _⟩ | ⟨rfl, _⟩ | ⟨rfl, _⟩ <;> simp
  · rcases h.m with rfl | rfl <;> simp
theorem vFold_dig {b : Int} : ∀ {ns : List Nat} {v : Int}, (∀ n ∈ ns, n < 36 ∧ (n : Int) < b) → vFold b (ns.map dch) v = some (ns.foldl (fun (v : Int) (d : Nat) => v * b + (d : Int)) v)
  | [], v, _ => rfl
  | a :: r, v, h => by
    have ha := h a List.mem_cons_self
    have hf := (fd_dch ha.1).1
    show vFold b (dch a :: r.map dch) v = _
    unfold vFold
    rw [hf, if_neg (by omega), vFold_dig (ns := r) (fun n hn => h n (List.mem_cons_of_mem _ hn))]
    rfl
theorem fold_zeros (b : Int) : ∀ (k : Nat) (ns : List Nat), (List.replicate k 0 ++ ns).foldl (fun (v : Int) (d : Nat) => v * b + (d : Int)) 0 = ns.foldl (fun (v : Int) (d : Nat) => v * b + (d : Int)) 0
  | 0, ns => rfl
  | k + 1, ns => by
    rw [List.replicate_succ, List.cons_append, List.foldl_cons]
    rw [show (0 : Int) * b + ((0 : Nat) : Int) = 0 by rw [Int.zero_mul]; rfl]
    exact fold_zeros b k ns
end My
namespace My
open PySem PySem.Spec PyProof.Rows L2
theorem nat_of {ns : List Int} (h : ∀ n ∈ ns, 0 ≤ n) : ∃ ms : List Nat, ns = ms.map (fun n : Nat => (n : Int)) := by
  refine ⟨ns.map Int.toNat, ?_⟩
  rw [List.map_map]
  conv => lhs; rw [← List.map_id ns]
  refine List.map_congr_left fun n hn => ?_
  have := h n hn
  show n = ((n.toNat : Nat) : Int)
  omega
def lval (b : Int) (ns : List Int) (v : Int) : Int := ns.foldl (fun v d => v * b + d) v
theorem vOf_row {b : Int} {ms : List Nat} {k : Nat} (h : ∀ n ∈ ms, n < 36 ∧ (n : Int) < b) (hb : 0 < b) (hn : 0 < ms.length) : vOf b ((List.replicate k 0 ++ ms).map dch) = some (lval b (ms.map (fun n : Nat => (n : Int))) 0) := by
  unfold vOf
  rw [if_neg (by
    intro z
    have := congrArg List.length z
    rw [List.length_map, List.length_append, List.length_replicate, List.length_nil] at this
    omega)]
  rw [vFold_dig (ns := List.replicate k 0 ++ ms) (fun n hn => by
    rcases List.mem_append.mp hn with hn | hn
    · rw [List.eq_of_mem_replicate hn]
      exact ⟨by decide, by omega⟩
    · exact h n hn), fold_zeros]
  unfold lval
  rw [List.foldl_map]
theorem row_dg {ms : List Nat} {k : Nat} (h : ∀ n ∈ ms, n < 36) (hn : 0 < ms.length) (hl : ms.length ≤ 40) (hk : k ≤ 120) : Dg ((List.replicate k 0 ++ ms).map dch) := by
  refine ⟨?_, ?_, ?_⟩
  · intro z
    have := congrArg List.length z
    rw [List.length_map, List.length_append, List.length_replicate, List.length_nil] at this
    omega
  · rw [List.length_map, List.length_append, List.length_replicate]; omega
  · intro c hc
    obtain ⟨n, hn, rfl⟩ := List.mem_map.mp hc
    have hlt : n < 36 := by
      rcases List.mem_append.mp hn with hn | hn
      · rw [List.eq_of_mem_replicate hn]; decide
      · exact h n hn
    exact ⟨dch_big n, (fd_dch hlt).2⟩
theorem shown_dg {b : Nat} {n : Int} {s : Str} (h2 : 2 ≤ b) (h3 : b ≤ 36) (hn : 0 ≤ n) (hn2 : n.natAbs < 2 ^ 140) (h : IsSh b n s) : ∃ ts, s = tx ts ∧ Dg ts ∧ vOf b ts = some n := by
  obtain ⟨k, hk, hlt, hj, rfl⟩ := h
  have hk2 : k ≤ 141 := by
    have : k - 1 < 140 ∨ k = 1 := by
      by_cases e : k = 1
      · exact .inr e
      · refine .inl ?_
        have h1 : 2 ^ (k - 1) ≤ b ^ (k - 1) := Nat.pow_le_pow_left h2 (k - 1)
        have h4 := hj (k - 1) (by omega) (by omega)
        exact (Nat.pow_lt_pow_iff_right (by decide : 1 < 2)).mp (by omega)
    omega
  have hne : (dgl b n.natAbs k).reverse ≠ [] := by
    intro z
    have := congrArg List.length z
    rw [List.length_reverse, dgl_len] at this
    simp at this
    omega
  refine ⟨(dgl b n.natAbs k).reverse, ?_, ⟨hne, by rw [List.length_reverse, dgl_len]; omega, ?_⟩, ?_⟩
  · unfold sgn
    rw [if_neg (by omega)]
    rfl
  · intro c hc
    rw [List.mem_reverse] at hc
    obtain ⟨j, _, rfl⟩ := List.mem_map.mp hc
    exact ⟨dch_big _, (fd_dch (Nat.lt_of_lt_of_le (Nat.mod_lt _ (by omega)) h3)).2⟩
  · unfold vOf
    rw [if_neg hne, vFold_dgl h2 h3, Nat.mod_eq_of_lt hlt]
    congr 1
    omega
def blO (pfx mns ts : List Nat) (v real : Int) : HO := .dK [(.inr ("prefix" : Str), .str (tx pfx)), (.inr ("minus" : Str), .str (tx mns)), (.inr ("text" : Str), .str (tx ts)), (.inr ("value" : Str), .int v), (.inr ("real" : Str), .int real)]
theorem bne1 : ¬ ((Sum.inr ("prefix" : Str) : Key) = Sum.inr ("minus" : Str)) := by decide +kernel
theorem bne2 : ¬ ((Sum.inr ("prefix" : Str) : Key) = Sum.inr ("text" : Str)) := by decide +kernel
theorem bne3 : ¬ ((Sum.inr ("prefix" : Str) : Key) = Sum.inr ("value" : Str)) := by decide +kernel
theorem bne4 : ¬ ((Sum.inr ("prefix" : Str) : Key) = Sum.inr ("real" : Str)) := by decide +kernel
theorem bne5 : ¬ ((Sum.inr ("minus" : Str) : Key) = Sum.inr ("text" : Str)) := by decide +kernel
theorem bne6 : ¬ ((Sum.inr ("minus" : Str) : Key) = Sum.inr ("value" : Str)) := by decide +kernel
theorem bne7 : ¬ ((Sum.inr ("minus" : Str) : Key) = Sum.inr ("real" : Str)) := by decide +kernel
theorem bne8 : ¬ ((Sum.inr ("text" : Str) : Key) = Sum.inr ("value" : Str)) := by decide +kernel
theorem bne9 : ¬ ((Sum.inr ("text" : Str) : Key) = Sum.inr ("real" : Str)) := by decide +kernel
theorem bne10 : ¬ ((Sum.inr ("value" : Str) : Key) = Sum.inr ("real" : Str)) := by decide +kernel
theorem merge_built {pfx mns ts : List Nat} {v real : Int} : HO.dK (mergeK [] [((Sum.inr ("prefix" : Str) : Key), V.str (tx pfx)), (Sum.inr ("minus" : Str), .str (tx mns)), (Sum.inr ("text" : Str), .str (tx ts)), (Sum.inr ("value" : Str), .int v), (Sum.inr ("real" : Str), .int real)]) = blO pfx mns ts v real := by
  unfold mergeK putK blO
  simp [kns bne1, kns bne2, kns bne3, kns bne4, kns bne5, kns bne6, kns bne7, kns bne8, kns bne9, kns bne10]
section
variable {H : Hp} {d : Addr} {pfx mns ts : List Nat} {v real : Int}
theorem bl_prefix (h : H d = some (blO pfx mns ts v real)) : DGet H d (.str "prefix") (some (.str (tx pfx))) := dget_of h (by rw [valV_pos rfl])
theorem bl_minus (h : H d = some (blO pfx mns ts v real)) : DGet H d (.str "minus") (some (.str (tx mns))) := dget_of h (by rw [valV_neg bne1, valV_pos rfl])
theorem bl_text (h : H d = some (blO pfx mns ts v real)) : DGet H d (.str "text") (some (.str (tx ts))) := dget_of h (by rw [valV_neg bne2, valV_neg bne5, valV_pos rfl])
theorem bl_value (h : H d = some (blO pfx mns ts v real)) : DGet H d (.str "value") (some (.int v)) := dget_of h (by rw [valV_neg bne3, valV_neg bne6, valV_neg bne8, valV_pos rfl])
theorem bl_real (h : H d = some (blO pfx mns ts v real)) : DGet H d (.str "real") (some (.int real)) := dget_of h (by rw [valV_neg bne4, valV_neg bne7, valV_neg bne9, valV_neg bne10, valV_pos rfl])
end
end My
namespace My
open PySem PySem.Spec PyProof.Rows L2
theorem la {a b : List Nat} (ha : ∀ c ∈ a, c < 128) (hb : ∀ c ∈ b, c < 128) : ∀ c ∈ a ++ b, c < 128 := fun c hc => (List.mem_append.mp hc).elim (ha c) (hb c)
theorem headX {ts : List Nat} {p c : Nat} {Y : List Nat} (hd : Dg ts) (hc : p = 0 → c ≠ 36 ∧ c ≠ 35 ∧ c ≠ 45) : (ts.take p ++ ([c] ++ Y)).head? ≠ some 36 ∧ (ts.take p ++ ([c] ++ Y)).head? ≠ some 35 ∧ (ts.take p ++ ([c] ++ Y)).head? ≠ some 45 := by
  cases p with
  | zero =>
    obtain ⟨h1, h2, h3⟩ := hc rfl
    exact ⟨fun z => h1 (Option.some.inj (show some c = some 36 from z)), fun z => h2 (Option.some.inj (show some c = some 35 from z)), fun z => h3 (Option.some.inj (show some c = some 45 from z))⟩
  | succ p =>
    obtain ⟨a, r, rfl, ha⟩ := hd.head
    refine ⟨fun z => ?_, fun z => ?_, fun z => ?_⟩ <;> (have := Option.some.inj (show some a = some _ from z); omega)
section
variable {w base v real : Int} {pfx mns ts : List Nat}
theorem Bt.none (h : Bt w base pfx mns ts v real) {X : List Nat} {c : Nat} (hX : X.head? ≠ some 36 ∧ X.head? ≠ some 35 ∧ X.head? ≠ some 45) (hc : c ∈ X) (hb : BadD real c) : rdV w base (pfx ++ mns ++ X) = Option.none := by
  rw [rd_front h.p h.m hX, vOf_bad hc hb]
  rfl
theorem Bt.n1 (h : Bt w base pfx mns ts v real) {p c : Nat} {Y : List Nat} (hb : BadD real c) (hc : p = 0 → c ≠ 36 ∧ c ≠ 35 ∧ c ≠ 45) : rdV w base (pfx ++ mns ++ ts.take p ++ [c] ++ Y) = Option.none := by
  rw [List.append_assoc (pfx ++ mns ++ ts.take p), List.append_assoc (pfx ++ mns)]
  exact h.none (headX h.d hc) (List.mem_append_right _ (List.mem_append_left _ (List.mem_singleton.mpr rfl))) hb
theorem Bt.n3 (h : Bt w base pfx mns ts v real) {c : Nat} (hb : BadD real c) : rdV w base (pfx ++ mns ++ ts ++ [c]) = Option.none := by
  rw [List.append_assoc (pfx ++ mns)]
  exact h.none (h.d.no) (List.mem_append_right _ (List.mem_singleton.mpr rfl)) hb
theorem Bt.n4 (h : Bt w base pfx mns ts v real) : rdV w base (pfx ++ mns) = Option.none := by
  have e := rd_front (w := w) h.p h.m (X := []) ⟨by simp, by simp, by simp⟩
  rw [List.append_nil] at e
  rw [e]
  rfl
theorem Bt.n5 (h : Bt w base pfx mns ts v real) : rdV w base (pfx ++ [45] ++ mns) = Option.none := by
  rw [rd_minus h.p]
  rcases h.m with rfl | rfl
  · rfl
  · rw [vOf_bad (List.mem_singleton.mpr rfl) bad45]; rfl
theorem rd45 {X : List Nat} {c : Nat} (hc : c ∈ X) (hb : BadD base c) : rdV w base ([45] ++ X) = Option.none := by
  have e := rd_minus (w := w) (base := base) (real := base) (pfx := []) (X := X) (.inl ⟨rfl, rfl⟩)
  rw [List.nil_append] at e
  rw [e, vOf_bad hc hb]
  rfl
theorem rd36 {X : List Nat} {c : Nat} (h : c ∈ X.drop 1 ∨ (c ∈ X ∧ c ≠ 45)) (hb : BadD 16 c) : rdV w base ([36] ++ X) = Option.none := by
  have e : rdV w base ([36] ++ X) = rdN w 16 X := rfl
  rw [e, rdN_bad h hb]
theorem rd35 {X : List Nat} {c : Nat} (h : c ∈ X.drop 1 ∨ (c ∈ X ∧ c ≠ 45)) (hb : BadD 10 c) : rdV w base ([35] ++ X) = Option.none := by
  have e : rdV w base ([35] ++ X) = rdN w 10 X := rfl
  rw [e, rdN_bad h hb]
end
end My
namespace My
open PySem PySem.Spec PyProof.Rows L2
/-! ### tuples that begin with another one's items -/
theorem pa_starK {X : Cx} {e : Expr} {es : List Expr} {te : TE} {t : TA} {p : Pos} (K : PySem.W.Frag) (he : PE X e te) (ha : PA X es t) (h : starEach (e.Starred p :: es) X.env = (true, eval e X.env) :: starEach es X.env := by rfl) (hk : X.K = K := by rfl) :
    PA X (e.Starred p :: es) (StX.tStar K te t) := by subst hk; exact StX.pa_star he ha h
theorem sl_tupAK {X : Cx} (K : PySem.W.Frag) (h : X.K = K := by rfl) : SlR X (rSlA K) := by subst h; exact sl_tupA
end My
namespace My
open PySem PySem.Spec PyProof.Rows L2
/-- all but b stand as they were, and the bag at b keeps its cells' place -/
structure Kb (b : Addr) (H H' : Hp) : Prop where
  kp : Kp b H H'
  cl : ∀ c a r s n, H b = some (bagO c a r s n) → ∃ a' r' s' n', H' b = some (bagO c a' r' s' n')
instance {b : Addr} {H H' : Hp} : CoeFun (Kb b H H') (fun _ => ∀ p o, p ≠ b → H p = some o → H' p = some o) := ⟨fun k => k.kp⟩
theorem Kb.refl {b : Addr} {H : Hp} : Kb b H H := ⟨Kp.refl, fun c a r s n h => ⟨a, r, s, n, h⟩⟩
theorem Kb.trans {b : Addr} {H H1 H2 : Hp} (h : Kb b H H1) (k : Kb b H1 H2) : Kb b H H2 := ⟨h.kp.trans k.kp, fun c a r s n e => by
  obtain ⟨a', r', s', n', e'⟩ := h.cl c a r s n e
  exact k.cl c a' r' s' n' e'⟩
theorem Kb.of {b : Addr} {H H' : Hp} (h : Same H H') : Kb b H H' := ⟨Kp.of h, fun c a r s n e => ⟨a, r, s, n, h _ _ e⟩⟩
theorem Kb.put {b : Addr} {H1 H : Hp} {D : Addr} {o : HO} (h : Kb b H1 H) (hD : H1 D = none) : Kb b H1 (L2.upd H D o) := ⟨h.kp.put hD, fun c a r s n e => by
  obtain ⟨a', r', s', n', e'⟩ := h.cl c a r s n e
  exact ⟨a', r', s', n', by rw [upd_ne (ne_of_none e hD)]; exact e'⟩⟩
theorem bagO_inj {c a r s n c' a' r' s' n'} (h : bagO c a r s n = bagO c' a' r' s' n') : c = c' := by
  unfold bagO at h
  injection h with h
  injection h with h _
  injection h with _ h
  injection h
theorem Kb.bag {b c : Addr} {H H' : Hp} {a r s n a' r' s' n' : Int} (k : Kp b H H') (h : H b = some (bagO c a r s n)) (h' : H' b = some (bagO c a' r' s' n')) : Kb b H H' := ⟨k, fun c0 a0 r0 s0 n0 e => by
  rw [h] at e
  rw [← bagO_inj (Option.some.inj e)]
  exact ⟨a', r', s', n', h'⟩⟩
/-- what is not the bag's cells now is none of them later -/
theorem BagAt.fresh {b D : Addr} {H H' : Hp} (B : BagAt H b) (hD : H D = none) (k : Kb b H H') (B' : BagAt H' b) {o : HO} : BagAt (L2.upd H' D o) b := by
  obtain ⟨c, ns, a, r, s, n, h1, h2, h3, h4⟩ := B.ex
  obtain ⟨c', ns', a', r', s', n', g1, g2, g3, g4⟩ := B'.ex
  obtain ⟨a2, r2, s2, n2, e2⟩ := k.cl c a r s n h1
  rw [g1] at e2
  have ec : c' = c := bagO_inj (Option.some.inj e2)
  have nD : D ≠ b := (ne_of_none h1 hD).symm
  have nc : D ≠ c' := by rw [ec]; exact (ne_of_none h2 hD).symm
  exact ⟨c', ns', a', r', s', n', by rw [upd_ne nD.symm]; exact g1, by rw [upd_ne nc.symm]; exact g2, g3, g4⟩
end My
namespace My
open PySem PySem.Spec PyProof.Rows L2
/-! ### == and != of what reads as data without dicts, whatever the texts are -/
section
variable {X : Cx}
def rEqP (K : PySem.W.Frag) (neg : Bool) : R2 := fun x y H Q => ∃ d e, Dp K H x d ∧ Dp K H y e ∧ d.plain = true ∧ e.plain = true ∧ d.depth ≤ 64 ∧ Q (.bl (if neg = true then !PyData.eqv d e else PyData.eqv d e)) H
theorem op_eqPK (K : PySem.W.Frag) (hu : X.A.units + 64 < cLine) (h : X.K = K := by rfl) : OpR X (compareOp .Eq) (rEqP K false) := by
  subst h
  intro pins s σ H x y v u Q I rx ry h
  obtain ⟨d, e, hd, he, sd, se, dp, q⟩ := h
  obtain ⟨as, r1⟩ := Dp.reads I d x v hd rx
  obtain ⟨bs, r2⟩ := Dp.reads I e y u he ry
  exact PySem.SeqAt.eq_plain r1 r2 sd se (by have := Nat.min_le_left d.depth e.depth; omega) ⟨.bl _, H, I, rfl, q⟩
theorem op_nePK (K : PySem.W.Frag) (hu : X.A.units + 64 < cLine) (h : X.K = K := by rfl) : OpR X (compareOp .NotEq) (rEqP K true) := by
  subst h
  intro pins s σ H x y v u Q I rx ry h
  obtain ⟨d, e, hd, he, sd, se, dp, q⟩ := h
  obtain ⟨as, r1⟩ := Dp.reads I d x v hd rx
  obtain ⟨bs, r2⟩ := Dp.reads I e y u he ry
  exact PySem.SeqAt.ne_plain r1 r2 sd se (by have := Nat.min_le_left d.depth e.depth; omega) ⟨.bl _, H, I, rfl, q⟩
end
mutual
theorem Dp.same {K : PySem.W.Frag} {H H' : Hp} (s : Same H H') : ∀ {x : V} {d : PyData}, Dp K H x d → Dp K H' x d
  | _, _, .non => .non
  | _, _, .bl b => .bl b
  | _, _, .int i => .int i
  | _, _, .str x => .str x
  | _, _, .lst h k => .lst (s.seq h) (DpAll.same s k)
  | _, _, .tup h k => .tup (h.imp (fun r => r.imp (s _ _) (fun ⟨o, e⟩ => ⟨o, s _ _ e⟩)) id) (DpAll.same s k)
theorem DpAll.same {K : PySem.W.Frag} {H H' : Hp} (s : Same H H') : ∀ {xs : List V} {ds : List PyData}, DpAll K H xs ds → DpAll K H' xs ds
  | _, _, .nil => .nil
  | _, _, .cons h k => .cons (Dp.same s h) (DpAll.same s k)
end
theorem iteNDF {p : Prop} [Decidable p] {A B : Prop} (hp : p) (h : B) : if (!decide p) = true then A else B := by rw [decide_eq_true hp]; exact iteF h
theorem iteNDT {p : Prop} [Decidable p] {A B : Prop} (hp : ¬ p) (h : A) : if (!decide p) = true then A else B := by rw [decide_eq_false hp]; exact iteT h
section
variable {X : Cx}
theorem cr_minLK (K : PySem.W.Frag) (hc : X.calm = true := by rfl) (h : X.K = K := by rfl) : CallR X (.builtin "min") (rMin K) := by subst h; exact cr_min hc
theorem cr_maxLK (K : PySem.W.Frag) (hc : X.calm = true := by rfl) (h : X.K = K := by rfl) : CallR X (.builtin "max") (rMax K) := by subst h; exact cr_max hc
end
theorem ite_neP {d : PyData} {A B : Prop} (h : d.plain = true) (hb : B) : if (if true = true then !PyData.eqv d d else PyData.eqv d d) = true then A else B := by
  rw [if_pos rfl, PySem.SeqAt.eqv_refl_plain _ h]; exact iteF hb
end My
section
open PySem PySem.Spec PyProof.Rows L2 My
local macro_rules | `(tactic| walk_at "ne") => `(tactic| first | assumption | exact Ne.symm (by assumption) | exact ne_of_none (by assumption) (by assumption) | exact Ne.symm (ne_of_none (by assumption) (by assumption)) | exact ne_of (by assumption) (by assumption) (by intro z; cases z))
local macro_rules | `(tactic| walk_at "hp") => `(tactic| first | assumption | exact upd_same | (refine Eq.trans (upd_ne (by walk_at "ne")) ?_; walk_at "hp"))
local macro_rules | `(tactic| walk_at "side") => `(tactic| first | rfl | omega | decide | assumption | exact Pl.int _ | exact Pl.bl _ | exact Pl.str _ | exact Pl.non | exact Nat.le_of_ble_eq_true rfl | exact ⟨by omega, by omega⟩ | exact Or.inl ⟨rfl, _, Or.inl (Or.inl (by walk_at "hp"))⟩ | exact Or.inr (by decide) | exact Or.inl (by decide) | exact Or.inl ⟨by omega, by omega⟩ | exact Or.inr ⟨by omega, by omega⟩)
local macro_rules | `(tactic| walk_at "bag") => `(tactic| first | exact bg_at (by walk_at "hp") | exact bg_rest (by walk_at "hp") | exact bg_seed (by walk_at "hp") | exact bg_count (by walk_at "hp") | exact bg_cells (by walk_at "hp") | exact bp_at (by walk_at "hp") | exact bp_rest (by walk_at "hp") | exact bp_seed (by walk_at "hp") | exact bp_count (by walk_at "hp"))
local macro_rules | `(tactic| walk_at "rd1") => `(tactic| (
  fail_if_success (intro _)
  first
  | refine ⟨_, rfl, ?_⟩
  | refine ⟨_, _, rfl, rfl, ?_⟩
  | refine ⟨_, _, _, rfl, rfl, rfl, ?_⟩
  | refine ⟨_, _, rfl, ?_⟩
  | refine ⟨_, _, _, rfl, ?_⟩
  | refine ⟨_, _, _, _, rfl, ?_⟩
  | refine ⟨_, _, rfl, (by walk_at "bag"), ?_⟩
  | refine Or.inl ⟨_, rfl, ?_⟩
  | refine Or.inr ⟨_, rfl, ?_⟩
  | refine ⟨_, _, rfl, Or.inl (SqL.of (by walk_at "hp")), ?_⟩
  | refine ⟨_, _, rfl, Or.inr (SqT.of (by walk_at "hp")), ?_⟩
  | refine ⟨_, _, _, rfl, rfl, (by walk_at "hp"), ?_⟩
  | refine And.intro (by walk_at "side") ?_))
local macro_rules | `(tactic| walk_at "rd") => `(tactic| repeat walk_at "rd1")
namespace K45
open PySem PySem.Spec PyProof.Rows L2 My

def top (i : Nat) : Stmt := PySem.Challenge.pw_wordmint_k45_layout_steps.main.body.getD i (.Pass ⟨0, 0, 0, 0⟩)
abbrev s_is_step : Stmt := top 4
theorem sc_is_step : FnScope ["op"] ["op"] (defScope s_is_step) := ⟨rfl, rfl, rfl, by decide +kernel, rfl, by decide +kernel, by decide +kernel⟩
abbrev s_after_step : Stmt := top 5
theorem sc_after_step : FnScope ["op", "arg", "layout", "base", "rest", "taken"] ["op", "arg", "layout"] (defScope s_after_step) := ⟨rfl, rfl, rfl, by decide +kernel, rfl, by decide +kernel, by decide +kernel⟩
abbrev s_after_steps : Stmt := top 6
theorem sc_after_steps : FnScope ["body", "place", "layout", "goal", "op", "arg"] ["body", "place", "layout", "goal"] (defScope s_after_steps) := ⟨rfl, rfl, rfl, by decide +kernel, rfl, by decide +kernel, by decide +kernel⟩
abbrev s__law_bag : Stmt := top 8
theorem sc__law_bag : FnScope ["_law_script", "_law_cell"] ["_law_script"] (defScope s__law_bag) := ⟨rfl, rfl, rfl, by decide +kernel, rfl, by decide +kernel, by decide +kernel⟩
abbrev s__law_pick : Stmt := top 9
theorem sc__law_pick : FnScope ["_law_bag_here", "_law_many", "_law_digit", "_law_cell", "_law_mixed"] ["_law_bag_here", "_law_many"] (defScope s__law_pick) := ⟨rfl, rfl, rfl, by decide +kernel, rfl, by decide +kernel, by decide +kernel⟩
abbrev s__law_choice : Stmt := top 10
theorem sc__law_choice : FnScope ["_law_bag_here", "_law_things"] ["_law_bag_here", "_law_things"] (defScope s__law_choice) := ⟨rfl, rfl, rfl, by decide +kernel, rfl, by decide +kernel, by decide +kernel⟩
abbrev s__law_integer : Stmt := top 11
theorem sc__law_integer : FnScope ["_law_thing"] ["_law_thing"] (defScope s__law_integer) := ⟨rfl, rfl, rfl, by decide +kernel, rfl, by decide +kernel, by decide +kernel⟩
abbrev s__law_source : Stmt := top 12
theorem sc__law_source : FnScope ["_law_bag_here", "_law_kind"] ["_law_bag_here"] (defScope s__law_source) := ⟨rfl, rfl, rfl, by decide +kernel, rfl, by decide +kernel, by decide +kernel⟩
abbrev s__law_instruction : Stmt := top 13
theorem sc__law_instruction : FnScope ["_law_bag_here", "_law_many", "_law_rate", "_law_kind"] ["_law_bag_here", "_law_many", "_law_rate"] (defScope s__law_instruction) := ⟨rfl, rfl, rfl, by decide +kernel, rfl, by decide +kernel, by decide +kernel⟩
abbrev s__law_body : Stmt := top 14
theorem sc__law_body : FnScope ["_law_bag_here", "_law_many", "_law_rate", "_law_rows", "_law_k"] ["_law_bag_here"] (defScope s__law_body) := ⟨rfl, rfl, rfl, by decide +kernel, rfl, by decide +kernel, by decide +kernel⟩
abbrev s__law_moved : Stmt := top 15
theorem sc__law_moved : FnScope ["_law_row", "_law_pile", "_law_op", "_law_item"] ["_law_row", "_law_pile"] (defScope s__law_moved) := ⟨rfl, rfl, rfl, by decide +kernel, rfl, by decide +kernel, by decide +kernel⟩
abbrev s__law_due : Stmt := top 16
theorem sc__law_due : FnScope ["_law_body_here", "_law_place", "_law_pile", "_law_goal", "_law_k"] ["_law_body_here", "_law_place", "_law_pile", "_law_goal"] (defScope s__law_due) := ⟨rfl, rfl, rfl, by decide +kernel, rfl, by decide +kernel, by decide +kernel⟩
abbrev s__law_same : Stmt := top 17
theorem sc__law_same : FnScope ["_law_told", "_law_due_here", "_law_k"] ["_law_told", "_law_due_here"] (defScope s__law_same) := ⟨rfl, rfl, rfl, by decide +kernel, rfl, by decide +kernel, by decide +kernel⟩
abbrev s__law_items : Stmt := top 18
theorem sc__law_items : FnScope ["_law_layout", "_law_items_here", "_law_one"] ["_law_layout", "_law_items_here"] (defScope s__law_items) := ⟨rfl, rfl, rfl, by decide +kernel, rfl, by decide +kernel, by decide +kernel⟩
abbrev s_law : Stmt := top 19
theorem sc_law : FnScope ["_law_script", "_law_bag_here", "_law_k", "_law_body_here", "_law_layout", "_law_ends", "_law_place", "_law_goal", "_law_due_here", "_law_told", "_law_between", "_law_first", "_law_items_here", "_law_lent", "_law_n"] ["_law_script"] (defScope s_law) := ⟨rfl, rfl, rfl, by decide +kernel, rfl, by decide +kernel, by decide +kernel⟩
/-- what the top has written -/
structure TX (K : PySem.W.Frag) (mg : Str → Option Value) (w : World) where
  f_is_step : Addr
  d_is_step : FuncData
  F_is_step : Fun K "is_step" "is_step" s_is_step f_is_step d_is_step
  g_is_step : mg "is_step" = some (.ref f_is_step)
  k_is_step : PySem.W.keepIn K (.ref f_is_step) = true
  b_is_step : Binds K d_is_step ["op"] []
  f_after_step : Addr
  d_after_step : FuncData
  F_after_step : Fun K "after_step" "after_step" s_after_step f_after_step d_after_step
  g_after_step : mg "after_step" = some (.ref f_after_step)
  k_after_step : PySem.W.keepIn K (.ref f_after_step) = true
  b_after_step : Binds K d_after_step ["op", "arg", "layout"] []
  f_after_steps : Addr
  d_after_steps : FuncData
  F_after_steps : Fun K "after_steps" "after_steps" s_after_steps f_after_steps d_after_steps
  g_after_steps : mg "after_steps" = some (.ref f_after_steps)
  k_after_steps : PySem.W.keepIn K (.ref f_after_steps) = true
  b_after_steps : Binds K d_after_steps ["body", "place", "layout", "goal"] []
  f__law_bag : Addr
  d__law_bag : FuncData
  F__law_bag : Fun K "_law_bag" "_law_bag" s__law_bag f__law_bag d__law_bag
  g__law_bag : mg "_law_bag" = some (.ref f__law_bag)
  k__law_bag : PySem.W.keepIn K (.ref f__law_bag) = true
  b__law_bag : Binds K d__law_bag ["_law_script"] []
  f__law_pick : Addr
  d__law_pick : FuncData
  F__law_pick : Fun K "_law_pick" "_law_pick" s__law_pick f__law_pick d__law_pick
  g__law_pick : mg "_law_pick" = some (.ref f__law_pick)
  k__law_pick : PySem.W.keepIn K (.ref f__law_pick) = true
  b__law_pick : Binds K d__law_pick ["_law_bag_here", "_law_many"] []
  f__law_choice : Addr
  d__law_choice : FuncData
  F__law_choice : Fun K "_law_choice" "_law_choice" s__law_choice f__law_choice d__law_choice
  g__law_choice : mg "_law_choice" = some (.ref f__law_choice)
  k__law_choice : PySem.W.keepIn K (.ref f__law_choice) = true
  b__law_choice : Binds K d__law_choice ["_law_bag_here", "_law_things"] []
  f__law_integer : Addr
  d__law_integer : FuncData
  F__law_integer : Fun K "_law_integer" "_law_integer" s__law_integer f__law_integer d__law_integer
  g__law_integer : mg "_law_integer" = some (.ref f__law_integer)
  k__law_integer : PySem.W.keepIn K (.ref f__law_integer) = true
  b__law_integer : Binds K d__law_integer ["_law_thing"] []
  f__law_source : Addr
  d__law_source : FuncData
  F__law_source : Fun K "_law_source" "_law_source" s__law_source f__law_source d__law_source
  g__law_source : mg "_law_source" = some (.ref f__law_source)
  k__law_source : PySem.W.keepIn K (.ref f__law_source) = true
  b__law_source : Binds K d__law_source ["_law_bag_here"] []
  f__law_instruction : Addr
  d__law_instruction : FuncData
  F__law_instruction : Fun K "_law_instruction" "_law_instruction" s__law_instruction f__law_instruction d__law_instruction
  g__law_instruction : mg "_law_instruction" = some (.ref f__law_instruction)
  k__law_instruction : PySem.W.keepIn K (.ref f__law_instruction) = true
  b__law_instruction : Binds K d__law_instruction ["_law_bag_here", "_law_many", "_law_rate"] []
  f__law_body : Addr
  d__law_body : FuncData
  F__law_body : Fun K "_law_body" "_law_body" s__law_body f__law_body d__law_body
  g__law_body : mg "_law_body" = some (.ref f__law_body)
  k__law_body : PySem.W.keepIn K (.ref f__law_body) = true
  b__law_body : Binds K d__law_body ["_law_bag_here"] []
  f__law_moved : Addr
  d__law_moved : FuncData
  F__law_moved : Fun K "_law_moved" "_law_moved" s__law_moved f__law_moved d__law_moved
  g__law_moved : mg "_law_moved" = some (.ref f__law_moved)
  k__law_moved : PySem.W.keepIn K (.ref f__law_moved) = true
  b__law_moved : Binds K d__law_moved ["_law_row", "_law_pile"] []
  f__law_due : Addr
  d__law_due : FuncData
  F__law_due : Fun K "_law_due" "_law_due" s__law_due f__law_due d__law_due
  g__law_due : mg "_law_due" = some (.ref f__law_due)
  k__law_due : PySem.W.keepIn K (.ref f__law_due) = true
  b__law_due : Binds K d__law_due ["_law_body_here", "_law_place", "_law_pile", "_law_goal"] []
  f__law_same : Addr
  d__law_same : FuncData
  F__law_same : Fun K "_law_same" "_law_same" s__law_same f__law_same d__law_same
  g__law_same : mg "_law_same" = some (.ref f__law_same)
  k__law_same : PySem.W.keepIn K (.ref f__law_same) = true
  b__law_same : Binds K d__law_same ["_law_told", "_law_due_here"] []
  f__law_items : Addr
  d__law_items : FuncData
  F__law_items : Fun K "_law_items" "_law_items" s__law_items f__law_items d__law_items
  g__law_items : mg "_law_items" = some (.ref f__law_items)
  k__law_items : PySem.W.keepIn K (.ref f__law_items) = true
  b__law_items : Binds K d__law_items ["_law_layout", "_law_items_here"] []
  f_law : Addr
  d_law : FuncData
  F_law : Fun K "law" "law" s_law f_law d_law
  g_law : mg "law" = some (.ref f_law)
  k_law : PySem.W.keepIn K (.ref f_law) = true
  b_law : Binds K d_law ["_law_script"] []
  a_SOURCE_STEPS : Addr
  g_SOURCE_STEPS : mg "SOURCE_STEPS" = some (.ref a_SOURCE_STEPS)
  q_SOURCE_STEPS : ∀ H, SqT K H a_SOURCE_STEPS [V.str "lit", V.str "data", V.str "token"]
  a_MOVE_STEPS : Addr
  g_MOVE_STEPS : mg "MOVE_STEPS" = some (.ref a_MOVE_STEPS)
  q_MOVE_STEPS : ∀ H, SqT K H a_MOVE_STEPS [V.str "dup", V.str "drop", V.str "swap", V.str "over", V.str "rot"]
  n_bool : mg "bool" = none
  n_int : mg "int" = none
  n_isinstance : mg "isinstance" = none
  n_len : mg "len" = none
  n_list : mg "list" = none
  n_max : mg "max" = none
  n_min : mg "min" = none
  n_range : mg "range" = none
  n_tuple : mg "tuple" = none
  a_EFFECTS : Addr
  g_EFFECTS : mg "EFFECTS" = some (.ref a_EFFECTS)
  e_dup : Addr
  d_dup : KDct K w a_EFFECTS "dup" (.ref e_dup)
  v_dup : ∀ H, SqT K H e_dup [V.int 1, V.int 2]
  e_drop : Addr
  d_drop : KDct K w a_EFFECTS "drop" (.ref e_drop)
  v_drop : ∀ H, SqT K H e_drop [V.int 1, V.int 0]
  e_swap : Addr
  d_swap : KDct K w a_EFFECTS "swap" (.ref e_swap)
  v_swap : ∀ H, SqT K H e_swap [V.int 2, V.int 2]
  e_over : Addr
  d_over : KDct K w a_EFFECTS "over" (.ref e_over)
  v_over : ∀ H, SqT K H e_over [V.int 2, V.int 3]
  e_rot : Addr
  d_rot : KDct K w a_EFFECTS "rot" (.ref e_rot)
  v_rot : ∀ H, SqT K H e_rot [V.int 3, V.int 3]
section
variable {P : Program} {w : World} {K : PySem.W.Frag} {mg : Str → Option Value} {base : Heap}

end
end K45
namespace K45
open PySem PySem.Spec PyProof.Rows L2 My
section
variable {P : Program} {w : World} {K : PySem.W.Frag} {mg : Str → Option Value} {base : Heap}
theorem ok__law_bag (M : TX K mg w) : FnOk P w K mg base (L2.CX P w) 1 M.f__law_bag M.d__law_bag ["_law_script"] (spBag K) := by
  have sc := sc__law_bag
  refine M.F__law_bag.okX sc (fun vs H Q E h => Sp1_len h) (fun cdv A outer s H vs Q E hr h => ?_)
  obtain ⟨x0, rfl, h⟩ := h
  have hu := hu_of hr
  have hu64 := hr.units
  refine ⟨_, (pss_one (ps_ret (pe_disp (pps_cons pe_str (pe_lc (own := [("_law_cell", 1)]) (g := gName 1) (tt := tYes) (by rfl) sc.nd (pi_listK K (pi_list (pv 0))) (blkOk_by (own := [("_law_cell", 1)]) (N := ["_law_script", "_law_cell"]) (sc := defScope s__law_bag) (by decide +kernel)) (fun _ _ _ _ _ => pg_name (i := 1) sc.nd rfl (Or.inl rfl)) (fun _ _ _ _ _ => pts_nil) (fun _ _ _ _ _ => (pe_callTy call_int1 (by rfl) M.n_int (by decide +kernel) (pa_cons (pv 1) pa_nil)))) (pps_cons pe_str pe_int (pps_cons pe_str pe_int (pps_cons pe_str pe_int (pps_cons pe_str pe_int pps_nil))))) (by rfl) (by rfl) (fun z => by cases z) (by decide)))), ?_⟩

  obtain ⟨a, ns, rfl, hS, hl, k⟩ := h
  intro p hp
  have s1 : Same H (upd H p (.dK [])) := Same.put (Same.refl H) hp
  refine ⟨_, rfl, a, rfl, ⟨_, s1.seq hS⟩, fun D hD => ?_⟩
  refine lc_list (xs := ns.map V.int) (LBd D (ns.map V.int) (upd H p (.dK []))) (LBd_0 hD) (fun i H' _ h => h.2.seq (s1.seq hS)) ?_ ?_
  · rintro i x H' hi B
    obtain ⟨z, hz, rfl⟩ := map_get hi
    refine ⟨rfl, tYes_i (iteT ?_)⟩
    walk_at "rd"
    exact LBd_s B hD hi (by rw [List.length_map]; omega)
  · intro H' B
    obtain ⟨hd, s2⟩ := LBd_n B rfl
    refine ⟨s2 _ _ upd_same, [((Sum.inr ("cells" : Str) : Key), V.ref D), (Sum.inr ("at" : Str), .int 0), (Sum.inr ("rest" : Str), .int 0), (Sum.inr ("seed" : Str), .int 20011), (Sum.inr ("count" : Str), .int 0)], rfl, Nat.le_of_ble_eq_true rfl, ?_⟩
    rw [merge_bag]
    have npd : D ≠ p := by
      intro e
      rw [e, upd_same] at hD
      cases hD
    refine k p _ hp ⟨D, ns, 0, 0, 20011, 0, upd_same, ?_, by decide, hl⟩ (Same.put (s1.trans s2) hp)
    rw [upd_ne npd]
    exact hd


abbrev spPick : Sp := Sp2 fun x y H Q _ => ∃ (b : Addr) (m : Int), x = .ref b ∧ y = .int m ∧ 0 < m ∧ m < 1073741824 ∧ BagAt H b ∧ ∀ (v : Int) (H' : Hp), 0 ≤ v → v < m → BagAt H' b → Kb b H H' → Q (.int v) H'

theorem ok__law_pick (M : TX K mg w) : FnOk P w K mg base (L2.CX P w) 1 M.f__law_pick M.d__law_pick ["_law_bag_here", "_law_many"] (K45.spPick) := by
  have sc := sc__law_pick
  refine M.F__law_pick.okX sc (fun vs H Q E h => Sp2_len h) (fun cdv A outer s H vs Q E hr h => ?_)
  obtain ⟨x0, x1, rfl, h⟩ := h
  have hu := hu_of hr
  have hu64 := hr.units
  refine ⟨_, (pss_cons (ps_dput hu (pv 0) pe_str (pe_op op_add (pe_dget hu (pv 0) pe_str (fun _ _ => rfl)) pe_int) rfl)
    (pss_cons (ps_if (pt_cmpR op_gt (pe_dget hu (pv 0) pe_str (fun _ _ => rfl)) pe_int (nomark _))
      (pss_cons (ps_set (i := 2) sc.nd rfl (Or.inl rfl) (pe_op op_mod (pe_callTy call_int1 (by rfl) M.n_int (by decide +kernel) (pa_cons (pe_dget hu (pv 0) pe_str (fun _ _ => rfl)) pa_nil)) (pv 1)))
      (pss_cons (ps_dput hu (pv 0) pe_str (pe_op op_fdiv (pe_dget hu (pv 0) pe_str (fun _ _ => rfl)) (pv 1)) rfl)
      (pss_one (ps_ret (pv 2)))))
      pss_nil)
    (pss_cons (ps_if (pt_cmpR op_lt (pe_dget hu (pv 0) pe_str (fun _ _ => rfl)) (pe_callB (call_lenK K) (by rfl) M.n_len PySem.boot_len (pa_cons (pe_dget hu (pv 0) pe_str (fun _ _ => rfl)) pa_nil)) (nomark _))
      (pss_cons (ps_set (i := 3) sc.nd rfl (Or.inl rfl) (pe_ix (ix_listK K) (pe_dget hu (pv 0) pe_str (fun _ _ => rfl)) (pe_dget hu (pv 0) pe_str (fun _ _ => rfl)) (fun _ _ => rfl)))
      (pss_cons (ps_dput hu (pv 0) pe_str (pe_op op_add (pe_dget hu (pv 0) pe_str (fun _ _ => rfl)) pe_int) rfl)
      (pss_cons (ps_if (pt_cmpR op_ge (pv 3) pe_int (nomark _))
        (pss_cons (ps_dput hu (pv 0) pe_str (pe_op op_fdiv (pv 3) (pv 1)) rfl)
        (pss_one (ps_ret (pe_op op_mod (pe_callTy call_int1 (by rfl) M.n_int (by decide +kernel) (pa_cons (pv 3) pa_nil)) (pv 1)))))
        pss_nil)
      (pss_one (ps_dput hu (pv 0) pe_str (pe_op op_mod (pe_callTy call_int1 (by rfl) M.n_int (by decide +kernel) (pa_cons (pe_op op_add (pe_op op_add (pe_dget hu (pv 0) pe_str (fun _ _ => rfl)) (pe_op op_mul (pv 3) pe_int)) pe_int) pa_nil)) pe_int) rfl)))))
      pss_nil)
    (pss_cons (ps_dput hu (pv 0) pe_str (pe_op op_mod (pe_callTy call_int1 (by rfl) M.n_int (by decide +kernel) (pa_cons (pe_op op_add (pe_op op_add (pe_op op_mul (pe_dget hu (pv 0) pe_str (fun _ _ => rfl)) pe_int) (pe_op op_mul (pe_dget hu (pv 0) pe_str (fun _ _ => rfl)) pe_int)) pe_int) pa_nil)) pe_int) rfl)
    (pss_cons (ps_set (i := 4) sc.nd rfl (Or.inl rfl) (pe_op op_mod (pe_callTy call_int1 (by rfl) M.n_int (by decide +kernel) (pa_cons (pe_op op_add (pe_op op_mul (pe_dget hu (pv 0) pe_str (fun _ _ => rfl)) pe_int) (pe_op op_mul (pe_dget hu (pv 0) pe_str (fun _ _ => rfl)) pe_int)) pa_nil)) pe_int))
    (pss_one (ps_ret (pe_op op_mod (pe_callTy call_int1 (by rfl) M.n_int (by decide +kernel) (pa_cons (pe_op op_fdiv (pv 4) pe_int) pa_nil)) (pv 1))))))))), ?_⟩

  obtain ⟨b, m, rfl, rfl, h0, h1, B, k⟩ := h
  obtain ⟨c, ns, a, r, s0, n, hb, hc, ha, hl⟩ := B.ex
  have ncb : c ≠ b := ne_of hc hb (by intro z; cases z)
  have ed : ∀ x : Int, 0 ≤ x % m ∧ x % m < m := fun x => ⟨Int.emod_nonneg _ (by omega), Int.emod_lt_of_pos _ h0⟩
  walk_at "rd"
  refine iteD (fun c1 => ?_) (fun c1 => ?_)
  · walk_at "rd"
    refine k _ _ (ed _).1 (ed _).2 ⟨c, ns, _, _, _, _, upd_same, ?_, ?_, hl⟩ (Kb.bag Kp.refl.upd.upd hb upd_same) <;> first | walk_at "hp" | omega
  · walk_at "rd"
    refine iteD (fun c2 => ?_) (fun c2 => ?_)
    · rw [List.length_map] at c2
      obtain ⟨z, hz⟩ : ∃ z, ns[a.toNat]? = some z := ⟨_, List.getElem?_eq_getElem (by omega)⟩
      walk_at "rd"
      refine ⟨_, _, _, .int z, rfl, rfl, SqL.of (by walk_at "hp"), at_of (j := a.toNat) (by omega) (by rw [List.getElem?_map, hz]; rfl), ?_⟩
      walk_at "rd"
      refine iteD (fun c3 => ?_) (fun c3 => ?_)
      · walk_at "rd"
        refine k _ _ (ed _).1 (ed _).2 ⟨c, ns, _, _, _, _, upd_same, ?_, ?_, hl⟩ (Kb.bag Kp.refl.upd.upd.upd hb upd_same) <;> first | walk_at "hp" | omega
      · walk_at "rd"
        refine k _ _ (ed _).1 (ed _).2 ⟨c, ns, _, _, _, _, upd_same, ?_, ?_, hl⟩ (Kb.bag Kp.refl.upd.upd.upd.upd hb upd_same) <;> first | walk_at "hp" | omega
    · walk_at "rd"
      refine k _ _ (ed _).1 (ed _).2 ⟨c, ns, _, _, _, _, upd_same, ?_, ?_, hl⟩ (Kb.bag Kp.refl.upd.upd hb upd_same) <;> first | walk_at "hp" | omega

theorem ok__law_integer (M : TX K mg w) : FnOk P w K mg base (L2.CX P w) 1 M.f__law_integer M.d__law_integer ["_law_thing"] (Sp1 fun x H Q _ => Pl H x ∧ Q (.bl (isI x)) H) := by
  have sc := sc__law_integer
  refine M.F__law_integer.okX sc (fun vs H Q E h => Sp1_len h) (fun cdv A outer s H vs Q E hr h => ?_)
  obtain ⟨x0, rfl, h⟩ := h
  have hu := hu_of hr
  have hu64 := hr.units
  refine ⟨_, (pss_one (ps_ret (pe_and (pe_callB call_isInt (by rfl) M.n_isinstance (by decide +kernel) (pa_cons (pv 0) (pa_cons (pe_bltn (v := .ty "int") (u := .type "int") (by rfl) M.n_int (by decide +kernel) rfl) pa_nil))) (pe_one (pe_not (pe_callB call_isBool (by rfl) M.n_isinstance (by decide +kernel) (pa_cons (pv 0) (pa_cons (pe_bltn (v := .ty "bool") (u := .type "bool") (by rfl) M.n_bool (by decide +kernel) rfl) pa_nil)))))))), ?_⟩

  obtain ⟨hp, q⟩ := h
  walk_at "rd"
  refine iteB (fun c => ?_) (fun c => ?_)
  · walk_at "rd"
    cases x0 <;> first | exact q | cases c
  · cases x0 <;> first | exact q | cases c


abbrev spChoice (K : PySem.W.Frag) : Sp := Sp2 fun x y H Q _ => ∃ (b t : Addr) (xs : List V), x = .ref b ∧ y = .ref t ∧ H t = some (.lst xs) ∧ 0 < xs.length ∧ xs.length < 1073741824 ∧ t ≠ b ∧ BagAt H b ∧ ∀ (i : Nat) (v : V) (H' : Hp), xs[i]? = some v → BagAt H' b → Kb b H H' → Q v H'

theorem ok__law_choice (M : TX K mg w) : FnOk P w K mg base (L2.CX P w) 2 M.f__law_choice M.d__law_choice ["_law_bag_here", "_law_things"] (K45.spChoice K) := by
  have sc := sc__law_choice
  refine M.F__law_choice.okX sc (fun vs H Q E h => Sp2_len h) (fun cdv A outer s H vs Q E hr h => ?_)
  obtain ⟨x0, x1, rfl, h⟩ := h
  have hu := hu_of hr
  have hu64 := hr.units
  refine ⟨_, (pss_one (ps_ret (pe_ix (ix_listK K) (pv 1) (pe_call (ok__law_pick M) (hr.mono (by decide)) rfl M.g__law_pick M.F__law_pick.kp M.b__law_pick .nil (passE rfl rfl rfl rfl) (pa_cons (pv 0) (pa_cons (pe_callB (call_lenK K) (by rfl) M.n_len PySem.boot_len (pa_cons (pv 1) pa_nil)) pa_nil))) (fun _ _ => rfl)))), ?_⟩

  obtain ⟨b, t, xs, rfl, rfl, ht, h0, h1, ntb, B, k⟩ := h
  walk_at "rd"
  intro v H' v0 v1 B' k'
  have hx : xs[v.toNat]? = some xs[v.toNat] := List.getElem?_eq_getElem (by omega)
  refine ⟨_, _, _, _, rfl, rfl, SqL.of (k' _ _ ntb ht), at_of (j := v.toNat) (by omega) hx, ?_⟩
  exact k _ _ _ hx B' k'

end
end K45
namespace K45
open PySem PySem.Spec PyProof.Rows L2 My
section
variable {P : Program} {w : World} {K : PySem.W.Frag} {mg : Str → Option Value} {base : Heap}

def isSrc (op : Str) : Bool := inV (.str op) [V.str "lit", V.str "data", V.str "token"]
def isMv (op : Str) : Bool := inV (.str op) [V.str "dup", V.str "drop", V.str "swap", V.str "over", V.str "rot"]

theorem ok_is_step (M : TX K mg w) : FnOk P w K mg base (L2.CX P w) 1 M.f_is_step M.d_is_step ["op"] (Sp1 fun x H Q _ => ∃ op : Str, x = .str op ∧ Q (.bl (isSrc op || isMv op)) H) := by
  have sc := sc_is_step
  refine M.F_is_step.okX sc (fun vs H Q E h => Sp1_len h) (fun cdv A outer s H vs Q E hr h => ?_)
  obtain ⟨x0, rfl, h⟩ := h
  have hu := hu_of hr
  have hu64 := hr.units
  refine ⟨_, (pss_one (ps_ret (pe_or (pe_cmpR (op_inK K) (pv 0) (pe_glob (v := .ref M.a_SOURCE_STEPS) rfl M.g_SOURCE_STEPS rfl) (by rfl)) (pe_one (pe_cmpR (op_inK K) (pv 0) (pe_glob (v := .ref M.a_MOVE_STEPS) rfl M.g_MOVE_STEPS rfl) (by rfl)))))), ?_⟩

  obtain ⟨op, rfl, q⟩ := h
  refine ⟨_, rfl, _, _, rfl, .inr (M.q_SOURCE_STEPS _), rfl, rfl, ?_⟩
  refine ⟨isSrc op, rfl, ?_⟩
  refine iteB (fun c => ?_) (fun c => ?_)
  · rw [c] at q
    exact q
  · rw [c] at q
    exact ⟨_, rfl, _, _, rfl, .inr (M.q_MOVE_STEPS _), rfl, rfl, q⟩

end
end K45
namespace K45
open PySem PySem.Spec PyProof.Rows L2 My
section
variable {P : Program} {w : World} {K : PySem.W.Frag} {mg : Str → Option Value} {base : Heap}

def need (op : Str) : Nat := if op = "swap" ∨ op = "over" then 2 else if op = "rot" then 3 else 1
def mvT (op : Str) (ts : List V) : List V :=
  match ts with
  | [a] => if op = "dup" then [a, a] else []
  | [a, b] => if op = "swap" then [b, a] else [a, b, a]
  | [a, b, c] => [b, c, a]
  | _ => []
def mv (op : Str) (xs : List V) : Option (List V) := if xs.length < need op then none else some (xs.take (xs.length - need op) ++ mvT op (xs.drop (xs.length - need op)))
theorem mv_of {op : Str} (h : isMv op = true) : op = "dup" ∨ op = "drop" ∨ op = "swap" ∨ op = "over" ∨ op = "rot" := by
  have e : ∀ s : Str, eqV (.str s) (.str op) = decide (op = s) := fun s => by
    show (s == op) = _
    by_cases h : op = s
    · subst h; simp
    · rw [decide_eq_false h]; exact beq_eq_false_iff_ne.mpr (fun z => h z.symm)
  unfold isMv inV at h
  simp only [List.any_cons, List.any_nil, Bool.or_false, e, Bool.or_eq_true, decide_eq_true_eq] at h
  exact h
theorem cut_take {xs : List V} {p : Int} (h0 : 0 ≤ p) (h1 : p.toNat ≤ xs.length) : cutV xs none (some p) = xs.take p.toNat := by
  unfold cutV HT.sIx
  simp only [if_neg (show ¬ p < 0 by omega), List.drop_zero, Nat.sub_zero]
  rw [Nat.min_eq_left h1]
theorem cut_drop {xs : List V} {p : Int} (h0 : 0 ≤ p) (h1 : p.toNat ≤ xs.length) : cutV xs (some p) none = xs.drop p.toNat := by
  unfold cutV HT.sIx
  simp only [if_neg (show ¬ p < 0 by omega)]
  rw [Nat.min_eq_left h1, List.take_of_length_le (by rw [List.length_drop]; exact Nat.le_refl _)]
theorem six_hi {n : Nat} {p : Int} (h0 : 0 ≤ p) (h1 : p.toNat < n) : ¬ (HT.sIx n 0 none = 0 ∧ HT.sIx n n (some p) = n) := by
  rintro ⟨_, h⟩
  unfold HT.sIx at h
  simp only [if_neg (show ¬ p < 0 by omega)] at h
  omega
theorem six_lo {n : Nat} {p : Int} (h0 : 0 ≤ p) (h1 : p.toNat ≤ n) (h : HT.sIx n 0 (some p) = 0 ∧ HT.sIx n n none = n) : p.toNat = 0 := by
  have h := h.1
  unfold HT.sIx at h
  simp only [if_neg (show ¬ p < 0 by omega)] at h
  omega
theorem one_of {xs : List V} (h : xs.length = 1) : ∃ a, xs = [a] := List.length_eq_one_iff.mp h
theorem two_of : ∀ {xs : List V}, xs.length = 2 → ∃ a b, xs = [a, b]
  | [a, b], _ => ⟨a, b, rfl⟩
  | [], h => by cases h
  | [_], h => by cases h
  | _ :: _ :: _ :: _, h => by simp at h
theorem three_of : ∀ {xs : List V}, xs.length = 3 → ∃ a b c, xs = [a, b, c]
  | [a, b, c], _ => ⟨a, b, c, rfl⟩
  | [], h => by cases h
  | [_], h => by cases h
  | [_, _], h => by cases h
  | _ :: _ :: _ :: _ :: _, h => by simp at h
abbrev spStep : Sp := Sp3 fun x y z H Q _ => ∃ (op : Str) (l : Addr) (xs : List V), x = .str op ∧ z = .ref l ∧ H l = some (.tup xs) ∧ xs.length ≤ 1000 ∧
  (isSrc op = true → ∀ t r H', H t = none → H' t = some (.tup [.str op, y]) → H' r = some (.tup (xs ++ [.ref t])) → Same H H' → Q (.ref r) H') ∧
  (isSrc op = false → isMv op = true ∧ (mv op xs = none → Q .non H) ∧ ∀ ys, mv op xs = some ys → ∀ r H', H' r = some (.tup ys) → Same H H' → Q (.ref r) H')

theorem ok_after_step (M : TX K mg w) : FnOk P w K mg base (L2.CX P w) 1 M.f_after_step M.d_after_step ["op", "arg", "layout"] (spStep) := by
  have sc := sc_after_step
  refine M.F_after_step.okX sc (fun vs H Q E h => Sp3_len h) (fun cdv A outer s H vs Q E hr h => ?_)
  obtain ⟨x0, x1, x2, rfl, h⟩ := h
  have hu := hu_of hr
  have hu64 := hr.units
  refine ⟨_, (pss_cons (ps_if (pt_cmpR (op_inK K) (pv 0) (pe_glob (v := .ref M.a_SOURCE_STEPS) rfl M.g_SOURCE_STEPS rfl) (by rfl))
      (pss_one (ps_ret (pe_tup (pa_starK K (pv 2) (pa_cons (pe_tup (pa_cons (pv 0) (pa_cons (pv 1) pa_nil))) pa_nil)))))
      pss_nil)
    (pss_cons (ps_set (i := 3) sc.nd rfl (Or.inl rfl) (pe_op op_sub (pe_callB (call_lenK K) (by rfl) M.n_len PySem.boot_len (pa_cons (pv 2) pa_nil)) (pe_ix (ix_tupK K) (pe_ixDX rfl (takes_of rfl rfl rfl rfl) (pe_glob (v := .ref M.a_EFFECTS) rfl M.g_EFFECTS rfl) (pv 0) (fun _ _ => rfl)) pe_int (fun _ _ => rfl))))
    (pss_cons (ps_if (pt_cmpR op_lt (pv 3) pe_int (nomark _))
      (pss_one (ps_ret pe_non))
      pss_nil)
    (pss_cons (ps_set (i := 4) sc.nd rfl (Or.inl rfl) (pe_slice (sl_tupAK K) (pv 2) po_none (po_some (pv 3))))
    (pss_cons (ps_set (i := 5) sc.nd rfl (Or.inl rfl) (pe_slice (sl_tupAK K) (pv 2) (po_some (pv 3)) po_none))
    (pss_cons (ps_if (pt_cmpR op_eq (pv 0) pe_str (nomark _))
      (pss_one (ps_ret (pe_tup (pa_starK K (pv 4) (pa_cons (pe_ix (ix_tupK K) (pv 5) pe_int (fun _ _ => rfl)) (pa_cons (pe_ix (ix_tupK K) (pv 5) pe_int (fun _ _ => rfl)) pa_nil))))))
      pss_nil)
    (pss_cons (ps_if (pt_cmpR op_eq (pv 0) pe_str (nomark _))
      (pss_one (ps_ret (pv 4)))
      pss_nil)
    (pss_cons (ps_if (pt_cmpR op_eq (pv 0) pe_str (nomark _))
      (pss_one (ps_ret (pe_tup (pa_starK K (pv 4) (pa_cons (pe_ix (ix_tupK K) (pv 5) pe_int (fun _ _ => rfl)) (pa_cons (pe_ix (ix_tupK K) (pv 5) pe_int (fun _ _ => rfl)) pa_nil))))))
      pss_nil)
    (pss_cons (ps_if (pt_cmpR op_eq (pv 0) pe_str (nomark _))
      (pss_one (ps_ret (pe_tup (pa_starK K (pv 4) (pa_cons (pe_ix (ix_tupK K) (pv 5) pe_int (fun _ _ => rfl)) (pa_cons (pe_ix (ix_tupK K) (pv 5) pe_int (fun _ _ => rfl)) (pa_cons (pe_ix (ix_tupK K) (pv 5) pe_int (fun _ _ => rfl)) pa_nil)))))))
      pss_nil)
    (pss_one (ps_ret (pe_tup (pa_starK K (pv 4) (pa_cons (pe_ix (ix_tupK K) (pv 5) pe_int (fun _ _ => rfl)) (pa_cons (pe_ix (ix_tupK K) (pv 5) pe_int (fun _ _ => rfl)) (pa_cons (pe_ix (ix_tupK K) (pv 5) pe_int (fun _ _ => rfl)) pa_nil)))))))))))))))), ?_⟩

  obtain ⟨op, l, xs, rfl, rfl, hl, hn, ks, km⟩ := h
  refine ⟨_, rfl, _, _, rfl, .inr (M.q_SOURCE_STEPS _), rfl, rfl, isSrc op, rfl, ?_⟩
  refine iteB (fun c => ?_) (fun c => ?_)
  · refine ⟨_, rfl, l, xs, rfl, .inl (SqT.of hl), _, rfl, _, rfl, Nat.le_of_ble_eq_true rfl, fun t ht => ?_⟩
    have s1 := Same.put (o := .tup [V.str op, x1]) (Same.refl H) ht
    refine ⟨by rw [List.length_append, sizeLine_eq]; simp only [List.length_cons, List.length_nil]; omega, fun r hr => ?_⟩
    have s2 := Same.put (o := .tup (xs ++ [V.ref t])) (Same.refl _) hr
    exact ks c t r _ ht (s2 _ _ upd_same) upd_same (s1.trans s2)
  · obtain ⟨hm, k0, k1⟩ := km c
    have hop := mv_of hm
    clear ks km c hm
    rcases hop with rfl | rfl | rfl | rfl | rfl
    · refine ⟨_, rfl, _, _, rfl, .inr (SqT.of hl), ?_⟩
      refine ⟨_, rfl, _, _, rfl, rfl, .inl ⟨_, M.d_dup, ?_⟩⟩
      refine ⟨_, _, _, .int 1, rfl, rfl, M.v_dup _, rfl, ?_⟩
      refine ⟨_, _, rfl, rfl, ?_⟩
      refine ⟨_, rfl, _, _, rfl, rfl, _, rfl, ?_⟩
      have hne : need "dup" = 1 := by decide +kernel
      refine iteD (fun c => ?_) (fun c => ?_)
      · refine k0 ?_
        unfold mv
        rw [hne, if_pos (by omega)]
      have hmv : mv "dup" xs = some (xs.take (xs.length - 1) ++ mvT "dup" (xs.drop (xs.length - 1))) := by
        unfold mv
        rw [hne, if_neg (by omega)]
      clear k0
      have hb : ((xs.length : Int) - 1).toNat = xs.length - 1 := by omega
      refine seq_gen fun R0 r0 => ?_
      refine r0 _ _ ?_
      clear r0 R0
      refine seq_gen fun R1 r1 => ?_
      refine ⟨_, rfl, _, rfl, _, rfl, l, xs, rfl, SqT.of hl, fun hw => absurd hw (six_hi (by omega) (by omega)), fun _ r hr => ?_⟩
      refine r1 _ _ ?_
      clear r1 R1
      rw [cut_take (by omega) (by omega), hb]
      have s1 := Same.put (o := .tup (xs.take (xs.length - 1))) (Same.refl H) hr
      have hl2 := s1 _ _ hl
      refine seq_gen fun R2 r2 => ?_
      have key : ∀ (u : Addr) (H' : Hp), H' u = some (.tup (xs.drop (xs.length - 1))) → Same H H' → H' r = some (.tup (xs.take (xs.length - 1))) → R2 [some (.str "dup"), some x1, some (.ref l), some (.int ((xs.length : Int) - 1)), some (.ref r), some (.ref u)] H' := by
        intro u H' hu s' hr'
        refine r2 _ _ ?_
        clear r2 s1 hl2
        have hlen : (xs.drop (xs.length - 1)).length = 1 := by rw [List.length_drop]; omega
        obtain ⟨a, ea⟩ := one_of hlen
        rw [ea] at hu
        walk_at "rd"
        refine ⟨r, _, rfl, .inl (SqT.of hr'), ?_⟩
        refine ⟨_, rfl, _, _, _, a, rfl, rfl, SqT.of hu, rfl, ?_⟩
        refine ⟨_, rfl, _, _, _, a, rfl, rfl, SqT.of hu, rfl, ?_⟩
        refine ⟨by rw [List.length_append, List.length_take, sizeLine_eq]; simp only [List.length_cons, List.length_nil]; omega, fun q hq => ?_⟩
        refine k1 _ hmv q _ ?_ (s'.trans (Same.put (Same.refl H') hq))
        rw [upd_same, ea]
        rfl
      clear r2 k1
      refine ⟨_, rfl, _, rfl, _, rfl, l, xs, rfl, SqT.of hl2, fun hw => ?_, fun _ u hu => ?_⟩
      · have hz := six_lo (by omega) (by omega) hw
        refine key l _ ?_ s1 upd_same
        rw [hl2, show xs.length - 1 = 0 by omega]
        rfl
      · rw [cut_drop (by omega) (by omega), hb]
        exact key u _ upd_same (s1.trans (Same.put (Same.refl _) hu)) (Same.put (Same.refl _) hu _ _ upd_same)
    · refine ⟨_, rfl, _, _, rfl, .inr (SqT.of hl), ?_⟩
      refine ⟨_, rfl, _, _, rfl, rfl, .inl ⟨_, M.d_drop, ?_⟩⟩
      refine ⟨_, _, _, .int 1, rfl, rfl, M.v_drop _, rfl, ?_⟩
      refine ⟨_, _, rfl, rfl, ?_⟩
      refine ⟨_, rfl, _, _, rfl, rfl, _, rfl, ?_⟩
      have hne : need "drop" = 1 := by decide +kernel
      refine iteD (fun c => ?_) (fun c => ?_)
      · refine k0 ?_
        unfold mv
        rw [hne, if_pos (by omega)]
      have hmv : mv "drop" xs = some (xs.take (xs.length - 1) ++ mvT "drop" (xs.drop (xs.length - 1))) := by
        unfold mv
        rw [hne, if_neg (by omega)]
      clear k0
      have hb : ((xs.length : Int) - 1).toNat = xs.length - 1 := by omega
      refine seq_gen fun R0 r0 => ?_
      refine r0 _ _ ?_
      clear r0 R0
      refine seq_gen fun R1 r1 => ?_
      refine ⟨_, rfl, _, rfl, _, rfl, l, xs, rfl, SqT.of hl, fun hw => absurd hw (six_hi (by omega) (by omega)), fun _ r hr => ?_⟩
      refine r1 _ _ ?_
      clear r1 R1
      rw [cut_take (by omega) (by omega), hb]
      have s1 := Same.put (o := .tup (xs.take (xs.length - 1))) (Same.refl H) hr
      have hl2 := s1 _ _ hl
      refine seq_gen fun R2 r2 => ?_
      have key : ∀ (u : Addr) (H' : Hp), H' u = some (.tup (xs.drop (xs.length - 1))) → Same H H' → H' r = some (.tup (xs.take (xs.length - 1))) → R2 [some (.str "drop"), some x1, some (.ref l), some (.int ((xs.length : Int) - 1)), some (.ref r), some (.ref u)] H' := by
        intro u H' hu s' hr'
        refine r2 _ _ ?_
        clear r2 s1 hl2
        have hlen : (xs.drop (xs.length - 1)).length = 1 := by rw [List.length_drop]; omega
        obtain ⟨a, ea⟩ := one_of hlen
        rw [ea] at hu
        walk_at "rd"
        exact k1 _ hmv r H' (by
          rw [hr', ea]
          show some (HO.tup _) = some (HO.tup (_ ++ (if ("drop" : Str) = "dup" then [a, a] else [])))
          rw [if_neg (by decide +kernel), List.append_nil]) s'
      clear r2 k1
      refine ⟨_, rfl, _, rfl, _, rfl, l, xs, rfl, SqT.of hl2, fun hw => ?_, fun _ u hu => ?_⟩
      · have hz := six_lo (by omega) (by omega) hw
        refine key l _ ?_ s1 upd_same
        rw [hl2, show xs.length - 1 = 0 by omega]
        rfl
      · rw [cut_drop (by omega) (by omega), hb]
        exact key u _ upd_same (s1.trans (Same.put (Same.refl _) hu)) (Same.put (Same.refl _) hu _ _ upd_same)
    · refine ⟨_, rfl, _, _, rfl, .inr (SqT.of hl), ?_⟩
      refine ⟨_, rfl, _, _, rfl, rfl, .inl ⟨_, M.d_swap, ?_⟩⟩
      refine ⟨_, _, _, .int 2, rfl, rfl, M.v_swap _, rfl, ?_⟩
      refine ⟨_, _, rfl, rfl, ?_⟩
      refine ⟨_, rfl, _, _, rfl, rfl, _, rfl, ?_⟩
      have hne : need "swap" = 2 := by decide +kernel
      refine iteD (fun c => ?_) (fun c => ?_)
      · refine k0 ?_
        unfold mv
        rw [hne, if_pos (by omega)]
      have hmv : mv "swap" xs = some (xs.take (xs.length - 2) ++ mvT "swap" (xs.drop (xs.length - 2))) := by
        unfold mv
        rw [hne, if_neg (by omega)]
      clear k0
      have hb : ((xs.length : Int) - 2).toNat = xs.length - 2 := by omega
      refine seq_gen fun R0 r0 => ?_
      refine r0 _ _ ?_
      clear r0 R0
      refine seq_gen fun R1 r1 => ?_
      refine ⟨_, rfl, _, rfl, _, rfl, l, xs, rfl, SqT.of hl, fun hw => absurd hw (six_hi (by omega) (by omega)), fun _ r hr => ?_⟩
      refine r1 _ _ ?_
      clear r1 R1
      rw [cut_take (by omega) (by omega), hb]
      have s1 := Same.put (o := .tup (xs.take (xs.length - 2))) (Same.refl H) hr
      have hl2 := s1 _ _ hl
      refine seq_gen fun R2 r2 => ?_
      have key : ∀ (u : Addr) (H' : Hp), H' u = some (.tup (xs.drop (xs.length - 2))) → Same H H' → H' r = some (.tup (xs.take (xs.length - 2))) → R2 [some (.str "swap"), some x1, some (.ref l), some (.int ((xs.length : Int) - 2)), some (.ref r), some (.ref u)] H' := by
        intro u H' hu s' hr'
        refine r2 _ _ ?_
        clear r2 s1 hl2
        have hlen : (xs.drop (xs.length - 2)).length = 2 := by rw [List.length_drop]; omega
        obtain ⟨a, b, ea⟩ := two_of hlen
        rw [ea] at hu
        walk_at "rd"
        refine ⟨r, _, rfl, .inl (SqT.of hr'), ?_⟩
        refine ⟨_, rfl, _, _, _, b, rfl, rfl, SqT.of hu, rfl, ?_⟩
        refine ⟨_, rfl, _, _, _, a, rfl, rfl, SqT.of hu, rfl, ?_⟩
        refine ⟨by rw [List.length_append, List.length_take, sizeLine_eq]; simp only [List.length_cons, List.length_nil]; omega, fun q hq => ?_⟩
        refine k1 _ hmv q _ ?_ (s'.trans (Same.put (Same.refl H') hq))
        rw [upd_same, ea]
        rfl
      clear r2 k1
      refine ⟨_, rfl, _, rfl, _, rfl, l, xs, rfl, SqT.of hl2, fun hw => ?_, fun _ u hu => ?_⟩
      · have hz := six_lo (by omega) (by omega) hw
        refine key l _ ?_ s1 upd_same
        rw [hl2, show xs.length - 2 = 0 by omega]
        rfl
      · rw [cut_drop (by omega) (by omega), hb]
        exact key u _ upd_same (s1.trans (Same.put (Same.refl _) hu)) (Same.put (Same.refl _) hu _ _ upd_same)
    · refine ⟨_, rfl, _, _, rfl, .inr (SqT.of hl), ?_⟩
      refine ⟨_, rfl, _, _, rfl, rfl, .inl ⟨_, M.d_over, ?_⟩⟩
      refine ⟨_, _, _, .int 2, rfl, rfl, M.v_over _, rfl, ?_⟩
      refine ⟨_, _, rfl, rfl, ?_⟩
      refine ⟨_, rfl, _, _, rfl, rfl, _, rfl, ?_⟩
      have hne : need "over" = 2 := by decide +kernel
      refine iteD (fun c => ?_) (fun c => ?_)
      · refine k0 ?_
        unfold mv
        rw [hne, if_pos (by omega)]
      have hmv : mv "over" xs = some (xs.take (xs.length - 2) ++ mvT "over" (xs.drop (xs.length - 2))) := by
        unfold mv
        rw [hne, if_neg (by omega)]
      clear k0
      have hb : ((xs.length : Int) - 2).toNat = xs.length - 2 := by omega
      refine seq_gen fun R0 r0 => ?_
      refine r0 _ _ ?_
      clear r0 R0
      refine seq_gen fun R1 r1 => ?_
      refine ⟨_, rfl, _, rfl, _, rfl, l, xs, rfl, SqT.of hl, fun hw => absurd hw (six_hi (by omega) (by omega)), fun _ r hr => ?_⟩
      refine r1 _ _ ?_
      clear r1 R1
      rw [cut_take (by omega) (by omega), hb]
      have s1 := Same.put (o := .tup (xs.take (xs.length - 2))) (Same.refl H) hr
      have hl2 := s1 _ _ hl
      refine seq_gen fun R2 r2 => ?_
      have key : ∀ (u : Addr) (H' : Hp), H' u = some (.tup (xs.drop (xs.length - 2))) → Same H H' → H' r = some (.tup (xs.take (xs.length - 2))) → R2 [some (.str "over"), some x1, some (.ref l), some (.int ((xs.length : Int) - 2)), some (.ref r), some (.ref u)] H' := by
        intro u H' hu s' hr'
        refine r2 _ _ ?_
        clear r2 s1 hl2
        have hlen : (xs.drop (xs.length - 2)).length = 2 := by rw [List.length_drop]; omega
        obtain ⟨a, b, ea⟩ := two_of hlen
        rw [ea] at hu
        walk_at "rd"
        refine ⟨r, _, rfl, .inl (SqT.of hr'), ?_⟩
        refine ⟨_, rfl, _, _, _, a, rfl, rfl, SqT.of hu, rfl, ?_⟩
        refine ⟨_, rfl, _, _, _, b, rfl, rfl, SqT.of hu, rfl, ?_⟩
        refine ⟨_, rfl, _, _, _, a, rfl, rfl, SqT.of hu, rfl, ?_⟩
        refine ⟨by rw [List.length_append, List.length_take, sizeLine_eq]; simp only [List.length_cons, List.length_nil]; omega, fun q hq => ?_⟩
        refine k1 _ hmv q _ ?_ (s'.trans (Same.put (Same.refl H') hq))
        rw [upd_same, ea]
        rfl
      clear r2 k1
      refine ⟨_, rfl, _, rfl, _, rfl, l, xs, rfl, SqT.of hl2, fun hw => ?_, fun _ u hu => ?_⟩
      · have hz := six_lo (by omega) (by omega) hw
        refine key l _ ?_ s1 upd_same
        rw [hl2, show xs.length - 2 = 0 by omega]
        rfl
      · rw [cut_drop (by omega) (by omega), hb]
        exact key u _ upd_same (s1.trans (Same.put (Same.refl _) hu)) (Same.put (Same.refl _) hu _ _ upd_same)
    · refine ⟨_, rfl, _, _, rfl, .inr (SqT.of hl), ?_⟩
      refine ⟨_, rfl, _, _, rfl, rfl, .inl ⟨_, M.d_rot, ?_⟩⟩
      refine ⟨_, _, _, .int 3, rfl, rfl, M.v_rot _, rfl, ?_⟩
      refine ⟨_, _, rfl, rfl, ?_⟩
      refine ⟨_, rfl, _, _, rfl, rfl, _, rfl, ?_⟩
      have hne : need "rot" = 3 := by decide +kernel
      refine iteD (fun c => ?_) (fun c => ?_)
      · refine k0 ?_
        unfold mv
        rw [hne, if_pos (by omega)]
      have hmv : mv "rot" xs = some (xs.take (xs.length - 3) ++ mvT "rot" (xs.drop (xs.length - 3))) := by
        unfold mv
        rw [hne, if_neg (by omega)]
      clear k0
      have hb : ((xs.length : Int) - 3).toNat = xs.length - 3 := by omega
      refine seq_gen fun R0 r0 => ?_
      refine r0 _ _ ?_
      clear r0 R0
      refine seq_gen fun R1 r1 => ?_
      refine ⟨_, rfl, _, rfl, _, rfl, l, xs, rfl, SqT.of hl, fun hw => absurd hw (six_hi (by omega) (by omega)), fun _ r hr => ?_⟩
      refine r1 _ _ ?_
      clear r1 R1
      rw [cut_take (by omega) (by omega), hb]
      have s1 := Same.put (o := .tup (xs.take (xs.length - 3))) (Same.refl H) hr
      have hl2 := s1 _ _ hl
      refine seq_gen fun R2 r2 => ?_
      have key : ∀ (u : Addr) (H' : Hp), H' u = some (.tup (xs.drop (xs.length - 3))) → Same H H' → H' r = some (.tup (xs.take (xs.length - 3))) → R2 [some (.str "rot"), some x1, some (.ref l), some (.int ((xs.length : Int) - 3)), some (.ref r), some (.ref u)] H' := by
        intro u H' hu s' hr'
        refine r2 _ _ ?_
        clear r2 s1 hl2
        have hlen : (xs.drop (xs.length - 3)).length = 3 := by rw [List.length_drop]; omega
        obtain ⟨a, b, c, ea⟩ := three_of hlen
        rw [ea] at hu
        walk_at "rd"
        refine ⟨r, _, rfl, .inl (SqT.of hr'), ?_⟩
        refine ⟨_, rfl, _, _, _, b, rfl, rfl, SqT.of hu, rfl, ?_⟩
        refine ⟨_, rfl, _, _, _, c, rfl, rfl, SqT.of hu, rfl, ?_⟩
        refine ⟨_, rfl, _, _, _, a, rfl, rfl, SqT.of hu, rfl, ?_⟩
        refine ⟨by rw [List.length_append, List.length_take, sizeLine_eq]; simp only [List.length_cons, List.length_nil]; omega, fun q hq => ?_⟩
        refine k1 _ hmv q _ ?_ (s'.trans (Same.put (Same.refl H') hq))
        rw [upd_same, ea]
        rfl
      clear r2 k1
      refine ⟨_, rfl, _, rfl, _, rfl, l, xs, rfl, SqT.of hl2, fun hw => ?_, fun _ u hu => ?_⟩
      · have hz := six_lo (by omega) (by omega) hw
        refine key l _ ?_ s1 upd_same
        rw [hl2, show xs.length - 3 = 0 by omega]
        rfl
      · rw [cut_drop (by omega) (by omega), hb]
        exact key u _ upd_same (s1.trans (Same.put (Same.refl _) hu)) (Same.put (Same.refl _) hu _ _ upd_same)

end
end K45
namespace K45
open PySem PySem.Spec PyProof.Rows L2 My
section
variable {P : Program} {w : World} {K : PySem.W.Frag} {mg : Str → Option Value} {base : Heap}

abbrev It2 : Type := Str × Int
def mvTG {α : Type} (op : Str) (ts : List α) : List α :=
  match ts with
  | [a] => if op = "dup" then [a, a] else []
  | [a, b] => if op = "swap" then [b, a] else [a, b, a]
  | [a, b, c] => [b, c, a]
  | _ => []
def mvG {α : Type} (op : Str) (xs : List α) : Option (List α) := if xs.length < need op then none else some (xs.take (xs.length - need op) ++ mvTG op (xs.drop (xs.length - need op)))
theorem mvTG_map {α β : Type} (f : α → β) (op : Str) (ts : List α) : mvTG op (ts.map f) = (mvTG op ts).map f := by
  match ts with
  | [] => rfl
  | [a] => show (if op = "dup" then [f a, f a] else []) = (if op = "dup" then [a, a] else []).map f; split <;> rfl
  | [a, b] => show (if op = "swap" then [f b, f a] else [f a, f b, f a]) = (if op = "swap" then [b, a] else [a, b, a]).map f; split <;> rfl
  | [a, b, c] => rfl
  | a :: b :: c :: d :: r => rfl
theorem mvG_map {α β : Type} (f : α → β) (op : Str) (xs : List α) : mvG op (xs.map f) = (mvG op xs).map (List.map f) := by
  unfold mvG
  rw [List.length_map]
  by_cases c : xs.length < need op
  · rw [if_pos c, if_pos c]; rfl
  · rw [if_neg c, if_neg c, ← List.map_take, ← List.map_drop, mvTG_map]
    exact congrArg some List.map_append.symm
theorem mv_mvG (op : Str) (xs : List V) : mv op xs = mvG op xs := by
  unfold mv mvG
  split
  · rfl
  · congr 2
    match xs.drop (xs.length - need op) with
    | [] => rfl
    | [a] => rfl
    | [a, b] => rfl
    | [a, b, c] => rfl
    | a :: b :: c :: d :: r => rfl
def stepA (op : Str) (a : Int) (xs : List It2) : Option (List It2) := if isSrc op = true then some (xs ++ [(op, a)]) else if isMv op = true then mvG op xs else none
def runA (rows : List It2) : Nat → Nat → List It2 → Option (List It2)
  | _, 0, xs => some xs
  | p, n + 1, xs => match rows[p]? with
    | none => none
    | some r => match stepA r.1 r.2 xs with
      | none => none
      | some ys => runA rows (p + 1) n ys
def aft (rows : List It2) (p g : Nat) (xs : List It2) : Option (List It2) := if g < p then none else runA rows p (g - p) xs
def LayAt (H : Hp) (l : Addr) (xs : List It2) : Prop := ∃ zs : List (Addr × It2), H l = some (.tup (zs.map fun z => V.ref z.1)) ∧ (∀ z ∈ zs, H z.1 = some (.tup [.str z.2.1, .int z.2.2])) ∧ xs = zs.map (·.2)
def BodyAt (H : Hp) (q : Addr) (rows : List It2) : Prop := ∃ ws : List (Addr × V × It2), H q = some (.tup (ws.map fun w => V.ref w.1)) ∧ (∀ w ∈ ws, H w.1 = some (.tup [.str w.2.2.1, w.2.1]) ∧ (isSrc w.2.2.1 = true → w.2.1 = .int w.2.2.2)) ∧ rows = ws.map (·.2.2)
theorem LayAt.same {H H' : Hp} {l : Addr} {xs : List It2} (h : LayAt H l xs) (s : Same H H') : LayAt H' l xs := by
  obtain ⟨zs, h1, h2, h3⟩ := h
  exact ⟨zs, s _ _ h1, fun z hz => s _ _ (h2 z hz), h3⟩
theorem BodyAt.same {H H' : Hp} {l : Addr} {xs : List It2} (h : BodyAt H l xs) (s : Same H H') : BodyAt H' l xs := by
  obtain ⟨zs, h1, h2, h3⟩ := h
  exact ⟨zs, s _ _ h1, fun z hz => ⟨s _ _ (h2 z hz).1, (h2 z hz).2⟩, h3⟩
theorem mvTG_mem {α : Type} {op : Str} {ts : List α} {a : α} (h : a ∈ mvTG op ts) : a ∈ ts := by
  match ts with
  | [] => cases h
  | [x] =>
    have h : a ∈ (if op = "dup" then [x, x] else []) := h
    split at h
    · simpa using h
    · cases h
  | [x, y] =>
    have h : a ∈ (if op = "swap" then [y, x] else [x, y, x]) := h
    split at h <;> simp only [List.mem_cons, List.not_mem_nil, or_false] at h ⊢
    · exact h.symm
    · rcases h with h | h | h
      · exact .inl h
      · exact .inr h
      · exact .inl h
  | [x, y, z] =>
    have h : a ∈ [y, z, x] := h
    simp only [List.mem_cons, List.not_mem_nil, or_false] at h ⊢
    rcases h with h | h | h
    · exact .inr (.inl h)
    · exact .inr (.inr h)
    · exact .inl h
  | x :: y :: z :: d :: r => cases h
theorem mvG_mem {α : Type} {op : Str} {xs ys : List α} (h : mvG op xs = some ys) : (∀ a ∈ ys, a ∈ xs) ∧ ys.length ≤ xs.length + 1 := by
  unfold mvG at h
  split at h
  · cases h
  · rename_i hn
    cases h
    refine ⟨fun a ha => ?_, ?_⟩
    · rcases List.mem_append.mp ha with ha | ha
      · exact List.mem_of_mem_take ha
      · exact List.mem_of_mem_drop (mvTG_mem ha)
    · rw [List.length_append, List.length_take]
      have : (mvTG op (xs.drop (xs.length - need op))).length ≤ (xs.drop (xs.length - need op)).length + 1 := by
        match xs.drop (xs.length - need op) with
        | [] => exact Nat.zero_le _
        | [x] => show (if op = "dup" then [x, x] else []).length ≤ 2; split <;> simp
        | [x, y] => show (if op = "swap" then [y, x] else [x, y, x]).length ≤ 3; split <;> simp
        | [x, y, z] => show 3 ≤ 4; decide
        | x :: y :: z :: d :: r => exact Nat.zero_le _
      rw [List.length_drop] at this
      omega
def AW (q : Addr) (g p : Nat) (rows xs : List It2) (H : Hp) (m : Nat) (σ : L2.St) (HH : Hp) : Prop := ∃ (pl : Nat) (l' : Addr) (xs' : List It2) (o5 o6 : Option V), σ = [some (.ref q), some (.int pl), some (.ref l'), some (.int g), o5, o6] ∧ Same H HH ∧ LayAt HH l' xs' ∧ xs'.length + (g - pl) ≤ 900 ∧ aft rows pl g xs' = aft rows p g xs ∧ m = g - pl
abbrev spStepsB (x y z u : V) (H : Hp) (Q : VK) : Prop := ∃ (q l : Addr) (rows xs : List It2) (p g : Nat), x = .ref q ∧ BodyAt H q rows ∧ rows.length ≤ 100 ∧ y = .int p ∧ z = .ref l ∧ LayAt H l xs ∧ u = .int g ∧ xs.length + (g - p) ≤ 900 ∧
  (aft rows p g xs = none → ∀ H', Same H H' → Q .non H') ∧ ∀ ys, aft rows p g xs = some ys → ∀ l' H', LayAt H' l' ys → Same H H' → Q (.ref l') H'
abbrev spSteps : Sp := Sp4 fun x y z u H Q _ => spStepsB x y z u H Q

theorem ok_after_steps (M : TX K mg w) : FnOk P w K mg base (L2.CX P w) 2 M.f_after_steps M.d_after_steps ["body", "place", "layout", "goal"] (spSteps) := by
  have sc := sc_after_steps
  refine M.F_after_steps.okX sc (fun vs H Q E h => Sp4_len h) (fun cdv A outer s H vs Q E hr h => ?_)
  obtain ⟨x0, x1, x2, x3, rfl, h⟩ := h
  have hu := hu_of hr
  have hu64 := hr.units
  refine ⟨_, (pss_cons (ps_while (passes_of rfl) (pt_cmpR op_ne (pv 1) (pv 3) (nomark _))
      (pss_cons (ps_if (PW.pt (pw_or (pt_cmpR op_gt (pv 1) (pv 3) (nomark _)) (pw_or (pt_cmpR op_ge (pv 1) (pe_callB (call_lenK K) (by rfl) M.n_len PySem.boot_len (pa_cons (pv 0) pa_nil)) (nomark _)) (pw_or1 (pt_not (pt_val (pe_call (ok_is_step M) (hr.mono (by decide)) rfl M.g_is_step M.F_is_step.kp M.b_is_step .nil (passE rfl rfl rfl rfl) (pa_cons (pe_ix (ix_tupK K) (pe_ix (ix_tupK K) (pv 0) (pv 1) (fun _ _ => rfl)) pe_int (fun _ _ => rfl)) pa_nil))))))))
        (pss_one (ps_ret pe_non))
        pss_nil)
      (pss_cons (ps_asg (pe_ix (ix_tupK K) (pv 0) (pv 1) (fun _ _ => rfl)) (pg_tup (by rfl) (pgs_cons (pg_name (i := 4) sc.nd rfl (Or.inl rfl)) (pgs_cons (pg_name (i := 5) sc.nd rfl (Or.inl rfl)) pgs_nil))))
      (pss_cons (ps_set (i := 2) sc.nd rfl (Or.inl rfl) (pe_call (ok_after_step M) (hr.mono (by decide)) rfl M.g_after_step M.F_after_step.kp M.b_after_step .nil (passE rfl rfl rfl rfl) (pa_cons (pv 4) (pa_cons (pv 5) (pa_cons (pv 2) pa_nil)))))
      (pss_cons (ps_if (pt_cmpR op_isN (pv 2) pe_non (nomark _))
        (pss_one (ps_ret pe_non))
        pss_nil)
      (pss_one (ps_aug (i := 1) sc.nd rfl (Or.inl rfl) pe_int ip_add)))))))
    (pss_one (ps_ret (pv 2)))), ?_⟩

  obtain ⟨q, l, rows, xs, p, g, rfl, hB, hrl, rfl, rfl, hL, rfl, hlen, kn, ky⟩ := h
  refine ⟨AW q g p rows xs H, ⟨_, p, l, xs, none, none, rfl, Same.refl H, hL, hlen, rfl, rfl⟩, ?_⟩
  rintro m σ HH ⟨pl, l', xs', o5, o6, rfl, sm, hL', hlen', hT, rfl⟩
  have hB' := hB.same sm
  refine ⟨_, rfl, _, rfl, rfl, _, rfl, ?_⟩
  refine iteND (fun c => ?_) (fun c => ?_)
  · have hpg : pl ≠ g := fun z => c (by rw [z])
    obtain ⟨ws, hq, hw, rfl⟩ := hB'
    rw [List.length_map] at hrl
    have none_i : aft (ws.map (·.2.2)) pl g xs' = none → Q .non HH := fun z => kn (hT ▸ z) HH sm
    refine ⟨fun σ' H' => ∃ m', m' < g - pl ∧ AW q g p (ws.map (·.2.2)) xs H m' σ' H', fun _ _ h => h, ?_⟩
    refine ⟨_, rfl, _, rfl, _, _, rfl, rfl, _, rfl, ?_⟩
    refine iteD (fun c1 => ?_) (fun c1 => ?_)
    · refine none_i ?_
      unfold aft
      rw [if_pos (by omega)]
    have hlt : pl < g := by omega
    have eA : aft (ws.map (·.2.2)) pl g xs' = runA (ws.map (·.2.2)) pl (g - (pl + 1) + 1) xs' := by
      unfold aft
      rw [if_neg (by omega), show g - pl = g - (pl + 1) + 1 by omega]
    refine ⟨_, rfl, _, rfl, _, _, rfl, .inr (SqT.of hq), _, _, rfl, rfl, _, rfl, ?_⟩
    rw [List.length_map]
    refine iteD (fun c2 => ?_) (fun c2 => ?_)
    · refine none_i ?_
      rw [eA]
      have hn : (ws.map fun w : Addr × V × It2 => w.2.2)[pl]? = none := List.getElem?_eq_none (by rw [List.length_map]; omega)
      unfold runA
      rw [hn]
    have hpl : pl < ws.length := by omega
    obtain ⟨wd, hwd⟩ : ∃ wd, ws[pl]? = some wd := ⟨ws[pl], List.getElem?_eq_getElem hpl⟩
    obtain ⟨hw1, hw2⟩ := hw wd (List.mem_of_getElem? hwd)
    have hgq : (ws.map fun w => V.ref w.1)[pl]? = some (V.ref wd.1) := by rw [List.getElem?_map, hwd]; rfl
    have hgr : (ws.map (·.2.2))[pl]? = some wd.2.2 := by rw [List.getElem?_map, hwd]; rfl
    have eR : aft (ws.map (·.2.2)) pl g xs' = match stepA wd.2.2.1 wd.2.2.2 xs' with | none => none | some ys => runA (ws.map (·.2.2)) (pl + 1) (g - (pl + 1)) ys := by
      rw [eA]
      conv => lhs; unfold runA
      rw [hgr]
    obtain ⟨wa, wv, op, ar⟩ := wd
    refine ⟨_, rfl, _, rfl, _, _, _, .ref wa, rfl, rfl, SqT.of hq, at_of (j := pl) rfl hgq, ?_⟩
    refine ⟨_, _, _, .str op, rfl, rfl, SqT.of hw1, rfl, ?_⟩
    refine ⟨_, rfl, op, rfl, isSrc op || isMv op, rfl, ?_⟩
    have e0 : (isSrc op || isMv op) = false → stepA op ar xs' = none := fun z => by
      rw [Bool.or_eq_false_iff] at z
      unfold stepA
      rw [if_neg (by rw [z.1]; decide), if_neg (by rw [z.2]; decide)]
    cases hst : (isSrc op || isMv op) with
    | false =>
      refine none_i ?_
      rw [eR]
      show (match stepA op ar xs' with | none => none | some ys => _) = none
      rw [e0 hst]
    | true =>
      refine ⟨_, rfl, _, rfl, _, _, _, .ref wa, rfl, rfl, SqT.of hq, at_of (j := pl) rfl hgq, ?_⟩
      refine ⟨wa, _, rfl, SqT.of hw1, rfl, ?_⟩
      obtain ⟨zs, hz, hzs, rfl⟩ := hL'
      rw [List.length_map] at hlen'
      have hmvz : ∀ (f : Addr × It2 → V), mv op (zs.map f) = (mvG op zs).map (List.map f) := fun f => by rw [mv_mvG, mvG_map]
      refine ⟨_, _, rfl, _, _, rfl, rfl, ?_⟩
      refine ⟨_, rfl, _, rfl, _, rfl, _, _, _, rfl, op, l', _, rfl, rfl, hz, by rw [List.length_map]; omega, fun hs => ?_, fun hs => ⟨?_, fun hn => ?_, fun ys hy r H' hr s' => ?_⟩⟩
      · intro t r H' ht h1 h2 s'
        have hv : wv = .int ar := hw2 hs
        have eS : stepA op ar (zs.map (·.2)) = some (zs.map (·.2) ++ [(op, ar)]) := by
          unfold stepA
          rw [if_pos hs]
        have hLy : LayAt H' r (zs.map (·.2) ++ [(op, ar)]) := by
          refine ⟨zs ++ [(t, (op, ar))], by rw [List.map_append]; exact h2, fun z hz' => ?_, by rw [List.map_append]; rfl⟩
          rcases List.mem_append.mp hz' with hz' | hz'
          · exact s' _ _ (hzs z hz')
          · rw [List.mem_singleton.mp hz', ← hv]
            exact h1
        refine ⟨_, rfl, rfl, _, rfl, ?_⟩
        refine iteDF (fun z => by cases z) ?_
        refine ⟨_, rfl, _, _, rfl, rfl, ?_⟩
        refine ⟨g - (pl + 1), by omega, pl + 1, r, zs.map (·.2) ++ [(op, ar)], _, _, rfl, sm.trans s', hLy, by rw [List.length_append, List.length_map]; simp only [List.length_cons, List.length_nil]; omega, ?_, rfl⟩
        rw [← hT, eR]
        show _ = match stepA op ar (zs.map (·.2)) with | none => none | some ys => runA (ws.map fun w : Addr × V × It2 => w.2.2) (pl + 1) (g - (pl + 1)) ys
        rw [eS]
        unfold aft
        rw [if_neg (by omega)]
      · have hs' : isSrc op = false := hs
        rw [hs', Bool.false_or] at hst
        exact hst
      · have hs' : isSrc op = false := hs
        rw [hs', Bool.false_or] at hst
        refine ⟨_, rfl, rfl, _, rfl, ?_⟩
        refine iteDT rfl ?_
        refine none_i ?_
        rw [eR]
        have hn' : mvG op zs = none := by
          have hn2 : mv op (zs.map fun z => V.ref z.1) = none := hn
          rw [hmvz] at hn2
          cases e : mvG op zs with
          | none => rfl
          | some y => rw [e] at hn2; cases hn2
        have eS : stepA op ar (zs.map (·.2)) = none := by
          unfold stepA
          rw [if_neg (by rw [hs']; decide), if_pos hst, mvG_map, hn']
          rfl
        show (match stepA op ar (zs.map (·.2)) with | none => none | some ys => _) = none
        rw [eS]
      · have hs' : isSrc op = false := hs
        rw [hs', Bool.false_or] at hst
        have hy2 : mv op (zs.map fun z => V.ref z.1) = some ys := hy
        rw [hmvz] at hy2
        obtain ⟨zs', e⟩ : ∃ zs', mvG op zs = some zs' := by
          cases e : mvG op zs with
          | none => rw [e] at hy2; cases hy2
          | some y => exact ⟨y, rfl⟩
        rw [e] at hy2
        have ey : ys = zs'.map fun z => V.ref z.1 := (Option.some.inj hy2).symm
        obtain ⟨hmem, hln⟩ := mvG_mem e
        have eS : stepA op ar (zs.map (·.2)) = some (zs'.map (·.2)) := by
          unfold stepA
          rw [if_neg (by rw [hs']; decide), if_pos hst, mvG_map, e]
          rfl
        have hLy : LayAt H' r (zs'.map (·.2)) := ⟨zs', by rw [hr, ey], fun z hz' => s' _ _ (hzs z (hmem z hz')), rfl⟩
        refine ⟨_, rfl, rfl, _, rfl, ?_⟩
        refine iteDF (fun z => by cases z) ?_
        refine ⟨_, rfl, _, _, rfl, rfl, ?_⟩
        refine ⟨g - (pl + 1), by omega, pl + 1, r, zs'.map (·.2), _, _, rfl, sm.trans s', hLy, by rw [List.length_map]; omega, ?_, rfl⟩
        rw [← hT, eR]
        show _ = match stepA op ar (zs.map (·.2)) with | none => none | some ys => runA (ws.map fun w : Addr × V × It2 => w.2.2) (pl + 1) (g - (pl + 1)) ys
        rw [eS]
        unfold aft
        rw [if_neg (by omega)]
  · have hpg : pl = g := by
      have := V.int.inj c
      omega
    have eT : aft rows p g xs = some xs' := by
      rw [← hT]
      unfold aft
      rw [if_neg (by omega), hpg, Nat.sub_self]
      rfl
    exact ⟨_, rfl, ky xs' eT l' HH hL' sm⟩

end
end K45
namespace K45
open PySem PySem.Spec PyProof.Rows L2 My
section
variable {P : Program} {w : World} {K : PySem.W.Frag} {mg : Str → Option Value} {base : Heap}

def SrcOp (op : Str) : Prop := op = "reg" ∨ op = "lit" ∨ op = "data" ∨ op = "token"
abbrev spSource : Sp := Sp1 fun x H Q _ => ∃ (b : Addr), x = .ref b ∧ BagAt H b ∧ ∀ (t : Addr) (op : Str) (a : Int) (H' : Hp), SrcOp op → (op = "reg" → 0 ≤ a ∧ a < 8) → H' t = some (.tup [.str op, .int a]) → t ≠ b → BagAt H' b → Kb b H H' → Q (.ref t) H'

theorem ok__law_source (M : TX K mg w) : FnOk P w K mg base (L2.CX P w) 2 M.f__law_source M.d__law_source ["_law_bag_here"] (spSource) := by
  have sc := sc__law_source
  refine M.F__law_source.okX sc (fun vs H Q E h => Sp1_len h) (fun cdv A outer s H vs Q E hr h => ?_)
  obtain ⟨x0, rfl, h⟩ := h
  have hu := hu_of hr
  have hu64 := hr.units
  refine ⟨_, (pss_cons (ps_set (i := 1) sc.nd rfl (Or.inl rfl) (pe_call (ok__law_pick M) (hr.mono (by decide)) rfl M.g__law_pick M.F__law_pick.kp M.b__law_pick .nil (passE rfl rfl rfl rfl) (pa_cons (pv 0) (pa_cons pe_int pa_nil))))
    (pss_cons (ps_if (pt_cmpR op_lt (pv 1) pe_int (nomark _))
      (pss_one (ps_ret (pe_tup (pa_cons pe_str (pa_cons (pe_call (ok__law_pick M) (hr.mono (by decide)) rfl M.g__law_pick M.F__law_pick.kp M.b__law_pick .nil (passE rfl rfl rfl rfl) (pa_cons (pv 0) (pa_cons pe_int pa_nil))) pa_nil)))))
      pss_nil)
    (pss_one (ps_ret (pe_ix (ix_listK K) (pe_lst (pa_cons (pe_tup (pa_cons pe_str (pa_cons (pe_op op_sub (pe_call (ok__law_pick M) (hr.mono (by decide)) rfl M.g__law_pick M.F__law_pick.kp M.b__law_pick .nil (passE rfl rfl rfl rfl) (pa_cons (pv 0) (pa_cons pe_int pa_nil))) pe_int) pa_nil))) (pa_cons (pe_tup (pa_cons pe_str (pa_cons (pe_call (ok__law_pick M) (hr.mono (by decide)) rfl M.g__law_pick M.F__law_pick.kp M.b__law_pick .nil (passE rfl rfl rfl rfl) (pa_cons (pv 0) (pa_cons pe_int pa_nil))) pa_nil))) (pa_cons (pe_tup (pa_cons pe_str (pa_cons (pe_call (ok__law_pick M) (hr.mono (by decide)) rfl M.g__law_pick M.F__law_pick.kp M.b__law_pick .nil (passE rfl rfl rfl rfl) (pa_cons (pv 0) (pa_cons pe_int pa_nil))) pa_nil))) pa_nil)))) (pe_op op_sub (pv 1) pe_int) (fun _ _ => rfl)))))), ?_⟩

  obtain ⟨b, rfl, B, q⟩ := h
  walk_at "rd"
  intro kd H0 kd0 kd1 B0 k0
  walk_at "rd"
  refine iteD (fun c => ?_) (fun c => ?_)
  · walk_at "rd"
    intro a H1 a0 a1 B1 k1
    walk_at "rd"
    intro t ht
    refine alloc_gen ht fun H2 s2 h2 => ?_
    exact q t "reg" a H2 (.inl rfl) (fun _ => ⟨a0, a1⟩) h2 ((B1.same s2).ne_tup h2) (B1.same s2) (k0.trans (k1.trans (Kb.of s2)))
  · walk_at "rd"
    intro m1 H1 m10 m11 B1 k1
    walk_at "rd"
    intro t1 ht1
    refine alloc_gen ht1 fun H2 s2 h1 => ?_
    have B2 := B1.same s2
    have n1 := B2.ne_tup h1
    walk_at "rd"
    intro m2 H3 m20 m21 B3 k3
    walk_at "rd"
    intro t2 ht2
    refine alloc_gen ht2 fun H4 s4 h2 => ?_
    have B4 := B3.same s4
    have n2 := B4.ne_tup h2
    walk_at "rd"
    intro m3 H5 m30 m31 B5 k5
    walk_at "rd"
    intro t3 ht3
    refine alloc_gen ht3 fun H6 s6 h3 => ?_
    have B6 := B5.same s6
    have n3 := B6.ne_tup h3
    walk_at "rd"
    intro l hl
    refine alloc_gen hl fun H7 s7 hl => ?_
    have B7 := B6.same s7
    have g6 := Kb.of (b := b) s7
    have g4 := (k5.trans (Kb.of s6)).trans g6
    have g2 := (k3.trans (Kb.of s4)).trans g4
    have f1 := g2 _ _ n1 h1
    have f2 := g4 _ _ n2 h2
    have f3 := g6 _ _ n3 h3
    have kk := k0.trans (k1.trans ((Kb.of s2).trans g2))
    have hk : kd = 3 ∨ kd = 4 ∨ kd = 5 := by omega
    rcases hk with rfl | rfl | rfl
    · exact ⟨_, rfl, _, _, rfl, rfl, _, _, _, .ref t1, rfl, rfl, SqL.of hl, rfl, q t1 "lit" _ H7 (.inr (.inl rfl)) (fun z => by exact absurd z (by decide +kernel)) f1 n1 B7 kk⟩
    · exact ⟨_, rfl, _, _, rfl, rfl, _, _, _, .ref t2, rfl, rfl, SqL.of hl, rfl, q t2 "data" _ H7 (.inr (.inr (.inl rfl))) (fun z => by exact absurd z (by decide +kernel)) f2 n2 B7 kk⟩
    · exact ⟨_, rfl, _, _, rfl, rfl, _, _, _, .ref t3, rfl, rfl, SqL.of hl, rfl, q t3 "token" _ H7 (.inr (.inr (.inr rfl))) (fun z => by exact absurd z (by decide +kernel)) f3 n3 B7 kk⟩

end
end K45
namespace K45
open PySem PySem.Spec PyProof.Rows L2 My
section
variable {P : Program} {w : World} {K : PySem.W.Frag} {mg : Str → Option Value} {base : Heap}

def InsAt (H : Hp) (t : Addr) (v : V) (x : It2) : Prop := H t = some (.tup [.str x.1, v]) ∧ (isSrc x.1 = true → v = .int x.2)
abbrev spInstr : Sp := Sp3 fun x y z H Q _ => ∃ (b : Addr) (m r : Int), x = .ref b ∧ y = .int m ∧ z = .int r ∧ 0 < m ∧ m < 1000 ∧ 3 < r ∧ r < 1000 ∧ BagAt H b ∧ ∀ (t : Addr) (v : V) (it : It2) (H' : Hp), InsAt H' t v it → t ≠ b → BagAt H' b → Kb b H H' → Q (.ref t) H'

theorem ok__law_instruction (M : TX K mg w) : FnOk P w K mg base (L2.CX P w) 3 M.f__law_instruction M.d__law_instruction ["_law_bag_here", "_law_many", "_law_rate"] (spInstr) := by
  have sc := sc__law_instruction
  refine M.F__law_instruction.okX sc (fun vs H Q E h => Sp3_len h) (fun cdv A outer s H vs Q E hr h => ?_)
  obtain ⟨x0, x1, x2, rfl, h⟩ := h
  have hu := hu_of hr
  have hu64 := hr.units
  refine ⟨_, (pss_cons (ps_set (i := 3) sc.nd rfl (Or.inl rfl) (pe_call (ok__law_pick M) (hr.mono (by decide)) rfl M.g__law_pick M.F__law_pick.kp M.b__law_pick .nil (passE rfl rfl rfl rfl) (pa_cons (pv 0) (pa_cons (pv 2) pa_nil))))
    (pss_cons (ps_if (pt_cmpR op_eq (pv 3) pe_int (nomark _))
      (pss_one (ps_ret (pe_call (ok__law_choice M) (hr.mono (by decide)) rfl M.g__law_choice M.F__law_choice.kp M.b__law_choice .nil (passE rfl rfl rfl rfl) (pa_cons (pv 0) (pa_cons (pe_lst (pa_cons (pe_tup (pa_cons pe_str (pa_cons pe_int pa_nil))) (pa_cons (pe_tup (pa_cons pe_str (pa_cons pe_int pa_nil))) (pa_cons (pe_tup (pa_cons pe_str (pa_cons pe_int pa_nil))) (pa_cons (pe_tup (pa_cons pe_str (pa_cons (pe_call (ok__law_pick M) (hr.mono (by decide)) rfl M.g__law_pick M.F__law_pick.kp M.b__law_pick .nil (passE rfl rfl rfl rfl) (pa_cons (pv 0) (pa_cons (pv 1) pa_nil))) pa_nil))) (pa_cons (pe_tup (pa_cons pe_str (pa_cons pe_int pa_nil))) (pa_cons (pe_tup (pa_cons pe_str (pa_cons (pe_call (ok__law_pick M) (hr.mono (by decide)) rfl M.g__law_pick M.F__law_pick.kp M.b__law_pick .nil (passE rfl rfl rfl rfl) (pa_cons (pv 0) (pa_cons (pv 1) pa_nil))) pa_nil))) (pa_cons (pe_tup (pa_cons pe_str (pa_cons pe_int pa_nil))) (pa_cons (pe_tup (pa_cons pe_str (pa_cons pe_int pa_nil))) (pa_cons (pe_tup (pa_cons pe_str (pa_cons (pe_tup (pa_cons pe_int (pa_cons pe_int pa_nil))) pa_nil))) pa_nil)))))))))) pa_nil)))))
      pss_nil)
    (pss_cons (ps_if (pt_cmpR op_lt (pv 3) pe_int (nomark _))
      (pss_one (ps_ret (pe_ix (ix_listK K) (pe_lst (pa_cons (pe_tup (pa_cons pe_str (pa_cons (pe_op op_sub (pe_call (ok__law_pick M) (hr.mono (by decide)) rfl M.g__law_pick M.F__law_pick.kp M.b__law_pick .nil (passE rfl rfl rfl rfl) (pa_cons (pv 0) (pa_cons pe_int pa_nil))) pe_int) pa_nil))) (pa_cons (pe_tup (pa_cons pe_str (pa_cons (pe_call (ok__law_pick M) (hr.mono (by decide)) rfl M.g__law_pick M.F__law_pick.kp M.b__law_pick .nil (passE rfl rfl rfl rfl) (pa_cons (pv 0) (pa_cons pe_int pa_nil))) pa_nil))) (pa_cons (pe_tup (pa_cons pe_str (pa_cons (pe_call (ok__law_pick M) (hr.mono (by decide)) rfl M.g__law_pick M.F__law_pick.kp M.b__law_pick .nil (passE rfl rfl rfl rfl) (pa_cons (pv 0) (pa_cons pe_int pa_nil))) pa_nil))) pa_nil)))) (pe_call (ok__law_pick M) (hr.mono (by decide)) rfl M.g__law_pick M.F__law_pick.kp M.b__law_pick .nil (passE rfl rfl rfl rfl) (pa_cons (pv 0) (pa_cons pe_int pa_nil))) (fun _ _ => rfl))))
      pss_nil)
    (pss_one (ps_ret (pe_tup (pa_cons (pe_call (ok__law_choice M) (hr.mono (by decide)) rfl M.g__law_choice M.F__law_choice.kp M.b__law_choice .nil (passE rfl rfl rfl rfl) (pa_cons (pv 0) (pa_cons (pe_lst (pa_cons pe_str (pa_cons pe_str (pa_cons pe_str (pa_cons pe_str (pa_cons pe_str (pa_cons pe_str (pa_cons pe_str pa_nil)))))))) pa_nil))) (pa_cons pe_int pa_nil)))))))), ?_⟩

  obtain ⟨b, m, r, rfl, rfl, rfl, hm0, hm1, hr0, hr1, B, q⟩ := h
  walk_at "rd"
  intro kd H0 kd0 kd1 B0 k0
  walk_at "rd"
  refine iteD (fun c => ?_) (fun c => ?_)
  · walk_at "rd"
    intro t0 ht0
    refine alloc_gen ht0 fun H1 s1 h0_ => ?_
    have B1 := B0.same s1
    have n0 := B1.ne_tup h0_
    walk_at "rd"
    intro t1 ht1
    refine alloc_gen ht1 fun H2 s2 h1_ => ?_
    have B2 := B1.same s2
    have n1 := B2.ne_tup h1_
    walk_at "rd"
    intro t2 ht2
    refine alloc_gen ht2 fun H3 s3 h2_ => ?_
    have B3 := B2.same s3
    have n2 := B3.ne_tup h2_
    walk_at "rd"
    intro m3 H4 m30 m31 B4 k4
    walk_at "rd"
    intro t3 ht3
    refine alloc_gen ht3 fun H5 s5 h3_ => ?_
    have B5 := B4.same s5
    have n3 := B5.ne_tup h3_
    walk_at "rd"
    intro t4 ht4
    refine alloc_gen ht4 fun H6 s6 h4_ => ?_
    have B6 := B5.same s6
    have n4 := B6.ne_tup h4_
    walk_at "rd"
    intro m5 H7 m50 m51 B7 k7
    walk_at "rd"
    intro t5 ht5
    refine alloc_gen ht5 fun H8 s8 h5_ => ?_
    have B8 := B7.same s8
    have n5 := B8.ne_tup h5_
    walk_at "rd"
    intro t6 ht6
    refine alloc_gen ht6 fun H9 s9 h6_ => ?_
    have B9 := B8.same s9
    have n6 := B9.ne_tup h6_
    walk_at "rd"
    intro t7 ht7
    refine alloc_gen ht7 fun H10 s10 h7_ => ?_
    have B10 := B9.same s10
    have n7 := B10.ne_tup h7_
    walk_at "rd"
    intro w8 hw8
    refine alloc_gen hw8 fun H11 s11 hw8_ => ?_
    have B11 := B10.same s11
    walk_at "rd"
    intro t8 ht8
    refine alloc_gen ht8 fun H12 s12 h8_ => ?_
    have B12 := B11.same s12
    have n8 := B12.ne_tup h8_
    walk_at "rd"
    intro l hl
    refine alloc_gen hl fun H13 s13 hl => ?_
    have B13 := B12.same s13
    have g12 := (Kb.of (b := b) s13)
    have g11 := (Kb.of (b := b) s12).trans g12
    have g10 := (Kb.of (b := b) s11).trans g11
    have g9 := (Kb.of (b := b) s10).trans g10
    have g8 := (Kb.of (b := b) s9).trans g9
    have g7 := (Kb.of (b := b) s8).trans g8
    have g6 := k7.trans g7
    have g5 := (Kb.of (b := b) s6).trans g6
    have g4 := (Kb.of (b := b) s5).trans g5
    have g3 := k4.trans g4
    have g2 := (Kb.of (b := b) s3).trans g3
    have g1 := (Kb.of (b := b) s2).trans g2
    have g0 := (Kb.of (b := b) s1).trans g1
    have f0 := g1 _ _ n0 h0_
    have f1 := g2 _ _ n1 h1_
    have f2 := g3 _ _ n2 h2_
    have f3 := g5 _ _ n3 h3_
    have f4 := g6 _ _ n4 h4_
    have f5 := g8 _ _ n5 h5_
    have f6 := g9 _ _ n6 h6_
    have f7 := g10 _ _ n7 h7_
    have f8 := g12 _ _ n8 h8_
    obtain ⟨ob, hob⟩ := B13.some
    have nl := B13.ne_lst hl
    refine ⟨_, _, rfl, b, l, [V.ref t0, V.ref t1, V.ref t2, V.ref t3, V.ref t4, V.ref t5, V.ref t6, V.ref t7, V.ref t8], rfl, rfl, hl, Nat.le_of_ble_eq_true rfl, Nat.le_of_ble_eq_true rfl, nl, B13, fun j v5 HZ hj BZ kz => ?_⟩
    have mm := List.mem_of_getElem? hj
    simp only [List.mem_cons, List.not_mem_nil, or_false] at mm
    have kk := k0.trans (g0.trans kz)
    rcases mm with rfl | rfl | rfl | rfl | rfl | rfl | rfl | rfl | rfl
    · exact q t0 (.int 0) ("+", 0) HZ ⟨kz _ _ n0 f0, fun z => by exact absurd z (by decide +kernel)⟩ n0 BZ kk
    · exact q t1 (.int 0) (">r", 0) HZ ⟨kz _ _ n1 f1, fun z => by exact absurd z (by decide +kernel)⟩ n1 BZ kk
    · exact q t2 (.int 0) ("ask", 0) HZ ⟨kz _ _ n2 f2, fun z => by exact absurd z (by decide +kernel)⟩ n2 BZ kk
    · exact q t3 (.int m3) ("unless", 0) HZ ⟨kz _ _ n3 f3, fun z => by exact absurd z (by decide +kernel)⟩ n3 BZ kk
    · exact q t4 (.int 0) ("throw", 0) HZ ⟨kz _ _ n4 f4, fun z => by exact absurd z (by decide +kernel)⟩ n4 BZ kk
    · exact q t5 (.int m5) ("goto", 0) HZ ⟨kz _ _ n5 f5, fun z => by exact absurd z (by decide +kernel)⟩ n5 BZ kk
    · exact q t6 (.int 0) ("call", 0) HZ ⟨kz _ _ n6 f6, fun z => by exact absurd z (by decide +kernel)⟩ n6 BZ kk
    · exact q t7 (.int 0) ("exit", 0) HZ ⟨kz _ _ n7 f7, fun z => by exact absurd z (by decide +kernel)⟩ n7 BZ kk
    · exact q t8 (.ref w8) ("run", 0) HZ ⟨kz _ _ n8 f8, fun z => by exact absurd z (by decide +kernel)⟩ n8 BZ kk
  walk_at "rd"
  refine iteD (fun c2 => ?_) (fun c2 => ?_)
  · walk_at "rd"
    intro m0 H1 m00 m01 B1 k1
    walk_at "rd"
    intro t0 ht0
    refine alloc_gen ht0 fun H2 s2 h0_ => ?_
    have B2 := B1.same s2
    have n0 := B2.ne_tup h0_
    walk_at "rd"
    intro m1 H3 m10 m11 B3 k3
    walk_at "rd"
    intro t1 ht1
    refine alloc_gen ht1 fun H4 s4 h1_ => ?_
    have B4 := B3.same s4
    have n1 := B4.ne_tup h1_
    walk_at "rd"
    intro m2 H5 m20 m21 B5 k5
    walk_at "rd"
    intro t2 ht2
    refine alloc_gen ht2 fun H6 s6 h2_ => ?_
    have B6 := B5.same s6
    have n2 := B6.ne_tup h2_
    walk_at "rd"
    intro l hl
    refine alloc_gen hl fun H7 s7 hl => ?_
    have B7 := B6.same s7
    have nl := B7.ne_lst hl
    walk_at "rd"
    intro mx H8 mx0 mx1 B8 k8
    have g7 := k8
    have g6 := (Kb.of (b := b) s7).trans g7
    have g5 := (Kb.of (b := b) s6).trans g6
    have g4 := k5.trans g5
    have g3 := (Kb.of (b := b) s4).trans g4
    have g2 := k3.trans g3
    have g1 := (Kb.of (b := b) s2).trans g2
    have g0 := k1.trans g1
    have f0 := g2 _ _ n0 h0_
    have f1 := g4 _ _ n1 h1_
    have f2 := g6 _ _ n2 h2_
    have hl2 := k8 _ _ nl hl
    have kk := k0.trans g0
    have hx : mx = 0 ∨ mx = 1 ∨ mx = 2 := by omega
    rcases hx with rfl | rfl | rfl
    · exact ⟨_, _, _, .ref t0, rfl, rfl, SqL.of hl2, rfl, q t0 (.int (m0 - 20)) ("lit", (m0 - 20)) H8 ⟨f0, fun _ => rfl⟩ n0 B8 kk⟩
    · exact ⟨_, _, _, .ref t1, rfl, rfl, SqL.of hl2, rfl, q t1 (.int m1) ("data", m1) H8 ⟨f1, fun _ => rfl⟩ n1 B8 kk⟩
    · exact ⟨_, _, _, .ref t2, rfl, rfl, SqL.of hl2, rfl, q t2 (.int m2) ("token", m2) H8 ⟨f2, fun _ => rfl⟩ n2 B8 kk⟩
  walk_at "rd"
  intro l hl
  refine alloc_gen hl fun H1 s1 hl1 => ?_
  have B1 := B0.same s1
  have nl := B1.ne_lst hl1
  refine ⟨_, _, rfl, b, l, _, rfl, rfl, hl1, Nat.le_of_ble_eq_true rfl, Nat.le_of_ble_eq_true rfl, nl, B1, fun j v5 H2 hj B2 k2 => ?_⟩
  obtain ⟨op, rfl, hop⟩ : ∃ op : Str, v5 = .str op ∧ isSrc op = false := by
    have mm := List.mem_of_getElem? hj
    simp only [List.mem_cons, List.not_mem_nil, or_false] at mm
    rcases mm with rfl | rfl | rfl | rfl | rfl | rfl | rfl <;> exact ⟨_, rfl, by decide +kernel⟩
  refine ⟨Nat.le_of_ble_eq_true rfl, fun t ht => ?_⟩
  refine alloc_gen ht fun H3 s3 ht3 => ?_
  have B3 := B2.same s3
  exact q t (.int 0) (op, 0) H3 ⟨ht3, fun _ => rfl⟩ (B3.ne_tup ht3) B3 (k0.trans ((Kb.of s1).trans (k2.trans (Kb.of s3))))

end
end K45
namespace K45
open PySem PySem.Spec PyProof.Rows L2 My
section
variable {P : Program} {w : World} {K : PySem.W.Frag} {mg : Str → Option Value} {base : Heap}

abbrev spBody : Sp := Sp1 fun x H Q _ => ∃ (b : Addr), x = .ref b ∧ BagAt H b ∧ ∀ (q : Addr) (rows : List It2) (H' : Hp), BodyAt H' q rows → 0 < rows.length → rows.length ≤ 40 → q ≠ b → BagAt H' b → Kb b H H' → Q (.ref q) H'
def BI (b D : Addr) (H1 : Hp) (i : Nat) (H : Hp) : Prop := ∃ ws : List (Addr × V × It2), ws.length = i ∧ H D = some (.lst (ws.map fun w => V.ref w.1)) ∧ (∀ w ∈ ws, InsAt H w.1 w.2.1 w.2.2 ∧ w.1 ≠ b ∧ w.1 ≠ D) ∧ BagAt H b ∧ Kb b H1 H

theorem ok__law_body (M : TX K mg w) : FnOk P w K mg base (L2.CX P w) 4 M.f__law_body M.d__law_body ["_law_bag_here"] (spBody) := by
  have sc := sc__law_body
  refine M.F__law_body.okX sc (fun vs H Q E h => Sp1_len h) (fun cdv A outer s H vs Q E hr h => ?_)
  obtain ⟨x0, rfl, h⟩ := h
  have hu := hu_of hr
  have hu64 := hr.units
  refine ⟨_, (pss_cons (ps_set (i := 1) sc.nd rfl (Or.inr rfl) (pe_op op_add pe_int (pe_call (ok__law_pick M) (hr.mono (by decide)) rfl M.g__law_pick M.F__law_pick.kp M.b__law_pick .nil (passE rfl rfl rfl rfl) (pa_cons (pv 0) (pa_cons pe_int pa_nil)))))
    (pss_cons (ps_if (pt_cmpR op_eq (pe_call (ok__law_pick M) (hr.mono (by decide)) rfl M.g__law_pick M.F__law_pick.kp M.b__law_pick .nil (passE rfl rfl rfl rfl) (pa_cons (pv 0) (pa_cons pe_int pa_nil))) pe_int (nomark _))
      (pss_one (ps_set (i := 1) sc.nd rfl (Or.inr rfl) (pe_op op_add pe_int (pe_call (ok__law_pick M) (hr.mono (by decide)) rfl M.g__law_pick M.F__law_pick.kp M.b__law_pick .nil (passE rfl rfl rfl rfl) (pa_cons (pv 0) (pa_cons pe_int pa_nil))))))
      pss_nil)
    (pss_cons (ps_set (i := 2) sc.nd rfl (Or.inr rfl) (pe_ix (ix_listK K) (pe_lst (pa_cons pe_int (pa_cons pe_int (pa_cons pe_int pa_nil)))) (pe_call (ok__law_pick M) (hr.mono (by decide)) rfl M.g__law_pick M.F__law_pick.kp M.b__law_pick .nil (passE rfl rfl rfl rfl) (pa_cons (pv 0) (pa_cons pe_int pa_nil))) (fun _ _ => rfl)))
    (pss_cons (ps_setLc (i := 3) (own := [("_law_k", 4)]) (g := gName 4) (tt := tYes) (by rfl) sc.nd rfl rfl (sw_true rfl rfl rfl (by decide +kernel)) (pi_range1 rfl M.n_range (pa_cons (pe_op op_sub (pv 1) pe_int) pa_nil)) (blkOk_by (own := [("_law_k", 4)]) (N := ["_law_bag_here", "_law_many", "_law_rate", "_law_rows", "_law_k"]) (sc := defScope s__law_body) (by decide +kernel)) (fun _ _ _ _ _ => pg_name (i := 4) sc.nd rfl (Or.inl rfl)) (fun _ _ _ _ _ => pts_nil) (fun _ _ _ _ _ => (pe_call (ok__law_instruction M) (hr.mono (by decide)) rfl M.g__law_instruction M.F__law_instruction.kp M.b__law_instruction .nil passL (pa_cons (pv 0) (pa_cons (pv 1) (pa_cons (pv 2) pa_nil))))))
    (pss_cons (ps_expr (pe_bmK K (pe_bm PySem.F.plainAttrs_list PySem.F.slot_list_append PySem.F.type_list_append mt_append (pv 3) (pa_cons (pe_call (ok__law_choice M) (hr.mono (by decide)) rfl M.g__law_choice M.F__law_choice.kp M.b__law_choice .nil (passE rfl rfl rfl rfl) (pa_cons (pv 0) (pa_cons (pe_lst (pa_cons (pe_tup (pa_cons pe_str (pa_cons pe_int pa_nil))) (pa_cons (pe_tup (pa_cons pe_str (pa_cons (pe_call (ok__law_pick M) (hr.mono (by decide)) rfl M.g__law_pick M.F__law_pick.kp M.b__law_pick .nil (passE rfl rfl rfl rfl) (pa_cons (pv 0) (pa_cons (pv 1) pa_nil))) pa_nil))) (pa_cons (pe_tup (pa_cons pe_str (pa_cons pe_int pa_nil))) pa_nil)))) pa_nil))) pa_nil))))
    (pss_one (ps_ret (pe_callTy call_tuple_of (by rfl) M.n_tuple (by decide +kernel) (pa_cons (pv 3) pa_nil))))))))), ?_⟩

  obtain ⟨b, rfl, B, q⟩ := h
  refine seq_gen fun Ra ra => ?_
  walk_at "rd"
  intro m0 H0 m00 m01 B0 k0
  walk_at "rd"
  refine ra _ _ ?_
  clear ra Ra B
  refine seq_gen fun R1 r1 => ?_
  have K1 : ∀ (m : Int) (HH : Hp), 0 < m → m ≤ 40 → BagAt HH b → Kb b H HH → R1 [some (.ref b), some (.int m), none, none, none] HH := by
    intro m H1 hm0 hm1 B1 k1
    refine r1 _ _ ?_
    clear r1 R1 B0 k0 m00 m01
    refine seq_gen fun R2 r2 => ?_
    walk_at "rd"
    intro lr hlr
    refine alloc_gen hlr fun H2 s2 hl2 => ?_
    have B2 := B1.same s2
    have nlr := B2.ne_lst hl2
    walk_at "rd"
    intro x H3 x0 x1 B3 k3
    have hl3 := k3 _ _ nlr hl2
    have k3 := k1.trans ((Kb.of s2).trans k3)
    have key : ∀ r : Int, 3 < r → r < 1000 → R2 [some (.ref b), some (.int m), some (.int r), none, none] H3 := by
      intro r hr0 hr1
      refine r2 _ _ ?_
      clear r2 R2 B2 k1 B1
      refine seq_gen fun R3 r3 => ?_
      refine ⟨_, rfl, _, _, rfl, rfl, m - 1, rfl, by omega, by omega, fun D hD => ?_⟩
      obtain ⟨ob, hob⟩ := B3.some
      have nD : D ≠ b := (ne_of_none hob hD).symm
      refine lc_range (lo := 0) (n := (m - 1).toNat) (BI b D H3) ⟨[], rfl, upd_same, fun w hw => (by cases hw), B3.put hD, Kb.put Kb.refl hD⟩ ?_ ?_
      · rintro i HH hi ⟨ws, hwl, hws, hwi, BH, kH⟩
        refine ⟨rfl, tYes_i (iteT ?_)⟩
        refine ⟨_, rfl, _, rfl, _, rfl, _, _, _, rfl, b, m, r, rfl, rfl, rfl, hm0, by omega, hr0, hr1, BH, fun t v it H5 hin nt B5 k5 => ?_⟩
        have hD5 := k5 _ _ nD hws
        have ntD : t ≠ D := ne_of hin.1 hD5 (by intro z; cases z)
        have kk := kH.trans k5
        refine ⟨_, hD5, by rw [List.length_map, sizeLine_eq]; omega, ws ++ [(t, v, it)], by rw [List.length_append, hwl]; rfl, by rw [List.map_append]; exact upd_same, fun w hw => ?_, B3.fresh hD kk B5, Kb.put kk hD⟩
        rcases List.mem_append.mp hw with hw | hw
        · obtain ⟨⟨i1, i2⟩, i3, i4⟩ := hwi w hw
          exact ⟨⟨by rw [upd_ne i4]; exact k5 _ _ i3 i1, i2⟩, i3, i4⟩
        · rw [List.mem_singleton.mp hw]
          exact ⟨⟨by rw [upd_ne ntD]; exact hin.1, hin.2⟩, nt, ntD⟩
      · rintro HH ⟨ws, hwl, hws, hwi, BH, kH⟩
        refine r3 _ _ ?_
        clear r3 R3
        refine ⟨_, rfl, Or.inl ⟨rfl, _, Or.inl (Or.inl hws)⟩, ?_⟩
        walk_at "rd"
        intro t1 ht1
        refine alloc_gen ht1 fun H10 s10 h1 => ?_
        have B10 := BH.same s10
        have n1 := B10.ne_tup h1
        walk_at "rd"
        intro mg H11 mg0 mg1 B11 k11
        walk_at "rd"
        intro t2 ht2
        refine alloc_gen ht2 fun H12 s12 h2 => ?_
        have B12 := B11.same s12
        have n2 := B12.ne_tup h2
        walk_at "rd"
        intro t3 ht3
        refine alloc_gen ht3 fun H13 s13 h3 => ?_
        have B13 := B12.same s13
        have n3 := B13.ne_tup h3
        walk_at "rd"
        intro lc hlc
        refine alloc_gen hlc fun H14 s14 hlc => ?_
        have B14 := B13.same s14
        have g13 := Kb.of (b := b) s14
        have g12 := (Kb.of (b := b) s13).trans g13
        have g11 := (Kb.of (b := b) s12).trans g12
        have g10 := k11.trans g11
        have g0 := (Kb.of (b := b) s10).trans g10
        have f1 := g10 _ _ n1 h1
        have f2 := g12 _ _ n2 h2
        have f3 := g13 _ _ n3 h3
        have nl := B14.ne_lst hlc
        refine ⟨_, _, rfl, b, lc, _, rfl, rfl, hlc, Nat.le_of_ble_eq_true rfl, Nat.le_of_ble_eq_true rfl, nl, B14, fun j v5 HZ hj BZ kz => ?_⟩
        obtain ⟨tz, vz, iz, rfl, hiz, nz⟩ : ∃ t v it, v5 = V.ref t ∧ InsAt HZ t v it ∧ t ≠ b := by
          have mm := List.mem_of_getElem? hj
          simp only [List.mem_cons, List.not_mem_nil, or_false] at mm
          rcases mm with rfl | rfl | rfl
          · exact ⟨t1, _, ("exit", 0), rfl, ⟨kz _ _ n1 f1, fun z => by exact absurd z (by decide +kernel)⟩, n1⟩
          · exact ⟨t2, _, ("goto", 0), rfl, ⟨kz _ _ n2 f2, fun z => by exact absurd z (by decide +kernel)⟩, n2⟩
          · exact ⟨t3, _, ("jump", 0), rfl, ⟨kz _ _ n3 f3, fun z => by exact absurd z (by decide +kernel)⟩, n3⟩
        have gz := g0.trans kz
        have hDz := gz _ _ nD hws
        have ntD : tz ≠ D := ne_of hiz.1 hDz (by intro z; cases z)
        have kk := kH.trans gz
        refine ⟨D, _, _, rfl, rfl, hDz, by rw [List.length_map, sizeLine_eq]; omega, ?_⟩
        have BY := B3.fresh (o := .lst ((ws.map fun w => V.ref w.1) ++ [V.ref tz])) hD kk BZ
        refine ⟨_, rfl, D, _, rfl, .inl ⟨SqL.of upd_same, fun qq hqq => ?_⟩⟩
        have sQ := Same.put (o := .tup ((ws.map fun w => V.ref w.1) ++ [V.ref tz])) (Same.refl _) hqq
        have hqf : upd (upd HZ D (.lst ((ws.map fun w => V.ref w.1) ++ [V.ref tz]))) qq (.tup ((ws.map fun w => V.ref w.1) ++ [V.ref tz])) qq = some (.tup ((ws.map fun w => V.ref w.1) ++ [V.ref tz])) := upd_same
        refine q qq ((ws ++ [(tz, vz, iz)]).map (·.2.2)) _ ⟨ws ++ [(tz, vz, iz)], by rw [List.map_append]; exact hqf, fun w hw => ?_, rfl⟩ (by rw [List.length_map, List.length_append]; simp) (by rw [List.length_map, List.length_append, hwl]; simp only [List.length_cons, List.length_nil]; omega) ((BY.same sQ).ne_tup hqf) (BY.same sQ) (k3.trans ((Kb.put kk hD).trans (Kb.of sQ)))
        rcases List.mem_append.mp hw with hw | hw
        · obtain ⟨⟨i1, i2⟩, i3, i4⟩ := hwi w hw
          exact ⟨sQ _ _ (by rw [upd_ne i4]; exact gz _ _ i3 i1), i2⟩
        · rw [List.mem_singleton.mp hw]
          exact ⟨sQ _ _ (by rw [upd_ne ntD]; exact hiz.1), hiz.2⟩
    clear r2
    have hx : x = 0 ∨ x = 1 ∨ x = 2 := by omega
    rcases hx with rfl | rfl | rfl
    · exact ⟨_, _, _, .int 5, rfl, rfl, SqL.of hl3, rfl, key 5 (by decide) (by decide)⟩
    · exact ⟨_, _, _, .int 12, rfl, rfl, SqL.of hl3, rfl, key 12 (by decide) (by decide)⟩
    · exact ⟨_, _, _, .int 30, rfl, rfl, SqL.of hl3, rfl, key 30 (by decide) (by decide)⟩
  clear r1 q
  walk_at "rd"
  intro x H1 x0 x1 B1 k1
  walk_at "rd"
  refine iteD (fun c => ?_) (fun c => ?_)
  · walk_at "rd"
    intro m1 H2 m10 m11 B2 k2
    walk_at "rd"
    exact K1 _ H2 (by omega) (by omega) B2 (k0.trans (k1.trans k2))
  · exact K1 _ H1 (by omega) (by omega) B1 (k0.trans k1)

end
end K45
namespace K45
open PySem PySem.Spec PyProof.Rows L2 My
section
variable {P : Program} {w : World} {K : PySem.W.Frag} {mg : Str → Option Value} {base : Heap}

theorem iteNB2 {c : Bool} {A B : Prop} (h1 : c = true → B) (h2 : c = false → A) : if (!c) = true then A else B := by
  cases c
  · exact iteT (h2 rfl)
  · exact iteF (h1 rfl)
def PileAt (H : Hp) (l : Addr) (xs : List It2) : Prop := ∃ zs : List (Addr × It2), H l = some (.lst (zs.map fun z => V.ref z.1)) ∧ (∀ z ∈ zs, H z.1 = some (.tup [.str z.2.1, .int z.2.2])) ∧ xs = zs.map (·.2)
theorem split_k {α : Type} (zs : List α) (k : Nat) (h : k ≤ zs.length) : ∃ pre ts, zs = pre ++ ts ∧ ts.length = k :=
  ⟨zs.take (zs.length - k), zs.drop (zs.length - k), (List.take_append_drop _ _).symm, by rw [List.length_drop]; omega⟩
theorem mvG_app {α : Type} {op : Str} {pre ts : List α} (h : ts.length = need op) : mvG op (pre ++ ts) = some (pre ++ mvTG op ts) := by
  unfold mvG
  rw [List.length_append, h, if_neg (by omega), Nat.add_sub_cancel, List.take_left' rfl, List.drop_left' rfl]
theorem erase_mid {α : Type} {pre ts : List α} {a : α} : (pre ++ a :: ts).eraseIdx pre.length = pre ++ ts := by
  rw [List.eraseIdx_append_of_length_le (Nat.le_refl _), Nat.sub_self]
  rfl
theorem mvT_dup {α : Type} {a : α} : mvTG "dup" [a] = [a, a] := by unfold mvTG; exact if_pos rfl
theorem mvT_drop {α : Type} {a : α} : mvTG "drop" [a] = [] := by unfold mvTG; exact if_neg (by decide +kernel)
theorem mvT_swap {α : Type} {a b : α} : mvTG "swap" [a, b] = [b, a] := by unfold mvTG; exact if_pos rfl
theorem mvT_over {α : Type} {a b : α} : mvTG "over" [a, b] = [a, b, a] := by unfold mvTG; exact if_neg (by decide +kernel)
theorem seq_at {n k : Nat} (h : k < n) : seqIndex? (k : Int) n = some k := by
  unfold seqIndex?
  simp only [if_neg (show ¬ (k : Int) < 0 by omega)]
  rw [decide_eq_true (show (0 : Int) ≤ k by omega), decide_eq_true (show (k : Int) < n by omega)]
  rfl
theorem mid_get {α β : Type} {f : α → β} {pre ts : List α} {a : α} : ((pre ++ a :: ts).map f)[pre.length]? = some (f a) := by
  rw [List.getElem?_map, List.getElem?_append_right (Nat.le_refl _), Nat.sub_self]
  rfl
theorem mid_erase {α β : Type} {f : α → β} {pre ts : List α} {a : α} : ((pre ++ a :: ts).map f).eraseIdx pre.length = (pre ++ ts).map f := by
  rw [List.map_append, List.map_cons]
  have e : pre.length = (pre.map f).length := (List.length_map ..).symm
  rw [e, erase_mid, List.map_append]
abbrev spMoved : Sp := Sp2 fun x y H Q _ => ∃ (ra l : Addr) (v : V) (it : It2) (xs : List It2), x = .ref ra ∧ y = .ref l ∧ InsAt H ra v it ∧ PileAt H l xs ∧ xs.length ≤ 900 ∧
  (stepA it.1 it.2 xs = none → ∀ H', Kp l H H' → Q (.bl false) H') ∧ ∀ ys, stepA it.1 it.2 xs = some ys → ∀ H', PileAt H' l ys → Kp l H H' → Q (.bl true) H'

theorem ok__law_moved (M : TX K mg w) : FnOk P w K mg base (L2.CX P w) 1 M.f__law_moved M.d__law_moved ["_law_row", "_law_pile"] (spMoved) := by
  have sc := sc__law_moved
  refine M.F__law_moved.okX sc (fun vs H Q E h => Sp2_len h) (fun cdv A outer s H vs Q E hr h => ?_)
  obtain ⟨x0, x1, rfl, h⟩ := h
  have hu := hu_of hr
  have hu64 := hr.units
  refine ⟨_, (pss_cons (ps_set (i := 2) sc.nd rfl (Or.inl rfl) (pe_ix (ix_tupK K) (pv 0) pe_int (fun _ _ => rfl)))
    (pss_cons (ps_if (pt_cmpR (op_inK K) (pv 2) (pe_tup (pa_cons pe_str (pa_cons pe_str (pa_cons pe_str pa_nil)))) (by rfl))
      (pss_cons (ps_expr (pe_bmK K (pe_bm PySem.F.plainAttrs_list PySem.F.slot_list_append PySem.F.type_list_append mt_append (pv 1) (pa_cons (pe_tup (pa_cons (pv 2) (pa_cons (pe_ix (ix_tupK K) (pv 0) pe_int (fun _ _ => rfl)) pa_nil))) pa_nil))))
      (pss_one (ps_ret pe_bl)))
      pss_nil)
    (pss_cons (ps_if (PW.pt (pw_or (pt_cmpR (op_notInK K) (pv 2) (pe_tup (pa_cons pe_str (pa_cons pe_str (pa_cons pe_str (pa_cons pe_str (pa_cons pe_str pa_nil)))))) (by rfl)) (pw_or1 (pt_cmpR op_lt (pe_callB (call_lenK K) (by rfl) M.n_len PySem.boot_len (pa_cons (pv 1) pa_nil)) (pe_op op_add (pe_op op_fdiv (pe_bmK K (pe_bm PySem.F.plainAttrs_list PySem.F.slot_list_index PySem.F.type_list_index mt_index (pe_lst (pa_cons pe_str (pa_cons pe_str (pa_cons pe_str (pa_cons pe_str (pa_cons pe_str pa_nil)))))) (pa_cons (pv 2) pa_nil))) pe_int) pe_int) (nomark _)))))
      (pss_one (ps_ret pe_bl))
      pss_nil)
    (pss_cons (ps_if (pt_cmpR (op_inK K) (pv 2) (pe_tup (pa_cons pe_str (pa_cons pe_str pa_nil))) (by rfl))
      (pss_cons (ps_set (i := 3) sc.nd rfl (Or.inl rfl) (pe_bmK K (pe_bm PySem.F.plainAttrs_list PySem.F.slot_list_pop PySem.F.type_list_pop mt_popAt (pv 1) (pa_cons (pe_op op_sub (pe_callB (call_lenK K) (by rfl) M.n_len PySem.boot_len (pa_cons (pv 1) pa_nil)) (pe_ifExp (pt_cmpR op_eq (pv 2) pe_str (nomark _)) pe_int pe_int)) pa_nil))))
      (pss_one (ps_expr (pe_bmK K (pe_bm PySem.F.plainAttrs_list PySem.F.slot_list_append PySem.F.type_list_append mt_append (pv 1) (pa_cons (pv 3) pa_nil))))))
      (pss_one (ps_if (pt_cmpR op_eq (pv 2) pe_str (nomark _))
        (pss_one (ps_expr (pe_bm0 PySem.F.plainAttrs_list PySem.F.slot_list_pop PySem.F.type_list_pop mt_pop (pv 1))))
        (pss_one (ps_expr (pe_bmK K (pe_bm PySem.F.plainAttrs_list PySem.F.slot_list_append PySem.F.type_list_append mt_append (pv 1) (pa_cons (pe_ix (ix_listK K) (pv 1) (pe_op op_sub (pe_callB (call_lenK K) (by rfl) M.n_len PySem.boot_len (pa_cons (pv 1) pa_nil)) (pe_ifExp (pt_cmpR op_eq (pv 2) pe_str (nomark _)) pe_int pe_int)) (fun _ _ => rfl)) pa_nil))))))))
    (pss_one (ps_ret pe_bl)))))), ?_⟩

  obtain ⟨ra, l, v, ⟨op, ar⟩, xs, rfl, rfl, ⟨hra, hsv⟩, ⟨zs, hl, hzs, rfl⟩, hn, kn, ky⟩ := h
  rw [List.length_map] at hn
  refine ⟨_, rfl, _, _, _, .str op, rfl, rfl, SqT.of hra, rfl, ?_⟩
  refine ⟨_, rfl, Nat.le_of_ble_eq_true rfl, fun t1 ht1 => ?_⟩
  refine alloc_gen ht1 fun H1 s1 h1 => ?_
  have hl1 := s1 _ _ hl
  refine ⟨t1, _, rfl, .inr (SqT.of h1), rfl, rfl, isSrc op, rfl, ?_⟩
  refine iteB (fun c => ?_) (fun c => ?_)
  · have hv : v = .int ar := hsv c
    refine ⟨_, rfl, Or.inl ⟨rfl, _, Or.inl (Or.inl hl1)⟩, ?_⟩
    refine ⟨_, rfl, _, rfl, _, _, _, v, rfl, rfl, SqT.of (s1 _ _ hra), rfl, Nat.le_of_ble_eq_true rfl, fun t2 ht2 => ?_⟩
    refine alloc_gen ht2 fun H2 s2 h2 => ?_
    have hl2 := s2 _ _ hl1
    have n2 : t2 ≠ l := ne_of h2 hl2 (by intro z; cases z)
    refine ⟨l, _, _, rfl, rfl, hl2, by rw [List.length_map, sizeLine_eq]; omega, ?_⟩
    have eS : stepA op ar (zs.map (·.2)) = some (zs.map (·.2) ++ [(op, ar)]) := by
      unfold stepA
      rw [if_pos c]
    refine ky _ eS _ ⟨zs ++ [(t2, (op, ar))], by rw [List.map_append]; exact upd_same, fun z hz => ?_, by rw [List.map_append]; rfl⟩ ((Kp.of (s1.trans s2)).upd)
    rcases List.mem_append.mp hz with hz | hz
    · rw [upd_ne (ne_of (s2 _ _ (s1 _ _ (hzs z hz))) hl2 (by intro z; cases z))]
      exact s2 _ _ (s1 _ _ (hzs z hz))
    · rw [List.mem_singleton.mp hz, upd_ne n2, ← hv]
      exact h2
  refine ⟨_, rfl, Nat.le_of_ble_eq_true rfl, fun t2 ht2 => ?_⟩
  refine alloc_gen ht2 fun H2 s2 h2 => ?_
  refine ⟨t2, _, rfl, .inr (SqT.of h2), rfl, rfl, !isMv op, rfl, ?_⟩
  have s12 := s1.trans s2
  have hl2 := s12 _ _ hl
  refine iteNB2 (fun c2 => ?_) (fun c2 => ?_)
  · have hop := mv_of c2
    rcases hop with rfl | rfl | rfl | rfl | rfl
    all_goals (walk_at "rd")
    · intro lx hlx
      refine alloc_gen hlx fun H3 s3 h3 => ?_
      have s13 := s12.trans s3
      have hl3 := s13 _ _ hl
      have hne : need "dup" = 1 := by decide +kernel
      refine ⟨Or.inl ⟨rfl, _, Or.inl (Or.inl h3)⟩, _, rfl, ?_⟩
      refine ⟨lx, _, .str "dup", 1, .str "dup", rfl, rfl, SqL.of h3, rfl, rfl, rfl, by decide +kernel, fun m z hm hz => (by
          have : m = 0 := by omega
          rcases this with rfl <;> (cases hz; decide +kernel)), ?_⟩
      refine ⟨_, _, rfl, rfl, ⟨by decide, by decide⟩, _, _, rfl, rfl, _, _, rfl, rfl, _, rfl, ?_⟩
      rw [List.length_map]
      have hst : ∀ ys, stepA "dup" ar (zs.map (·.2)) = ys ↔ (mvG "dup" zs).map (List.map (·.2)) = ys := fun ys => by
        unfold stepA
        rw [if_neg (by rw [c]; decide), if_pos c2, mvG_map]
      refine iteD (fun c3 => ?_) (fun c3 => ?_)
      · refine kn ((hst _).mpr ?_) H3 (Kp.of s13)
        have c4 : zs.length < 1 := by
          have : (zs.length : Int) < 1 := c3
          omega
        unfold mvG
        rw [hne, if_pos c4]
        rfl
      have c4 : 1 ≤ zs.length := by
        have : ¬ (zs.length : Int) < 1 := c3
        omega
      obtain ⟨pre, ts, rfl, hts⟩ := split_k zs 1 c4
      have eM := mvG_app (pre := pre) (hts.trans hne.symm)
      obtain ⟨a, rfl⟩ : ∃ a, ts = [a] := List.length_eq_one_iff.mp hts
      clear c3 c4 kn
      have fin : ∀ H', H' l = some (.lst ((pre ++ mvTG "dup" [a]).map fun z => V.ref z.1)) → Kp l H H' → Q (.bl true) H' := fun H' hf kf =>
        ky _ ((hst _).mpr (by rw [eM]; rfl)) H' ⟨_, hf, fun z hz => kf _ _ (ne_of (hzs z ((mvG_mem eM).1 z hz)) hl (by intro w; cases w)) (hzs z ((mvG_mem eM).1 z hz)), rfl⟩ kf
      refine ⟨_, rfl, Nat.le_of_ble_eq_true rfl, fun t4 ht4 => ?_⟩
      refine alloc_gen ht4 fun H4 s4 h4 => ?_
      have hl4 := s4 _ _ hl3
      have s14 := s13.trans s4
      refine ⟨t4, _, rfl, .inr (SqT.of h4), rfl, rfl, false, rfl, ?_⟩
      refine iteF ?_
      walk_at "rd"
      have ei : ((((pre ++ [a]).map fun z : Addr × It2 => V.ref z.1).length : Nat) : Int) - 1 = (pre.length : Int) := by
        rw [List.length_map, List.length_append]
        simp only [List.length_cons, List.length_nil]
        omega
      have eT : mvTG "dup" [a] = [a, a] := mvT_dup
      refine ⟨_, _, _, .ref a.1, rfl, rfl, SqL.of hl4, at_of (j := pre.length) ei mid_get, ?_⟩
      refine ⟨l, _, _, rfl, rfl, hl4, by rw [List.length_map, sizeLine_eq]; omega, ?_⟩
      refine fin _ ?_ ((Kp.of s14).upd)
      rw [upd_same, eT, List.map_append, List.map_append, List.append_assoc]
      rfl
    · intro lx hlx
      refine alloc_gen hlx fun H3 s3 h3 => ?_
      have s13 := s12.trans s3
      have hl3 := s13 _ _ hl
      have hne : need "drop" = 1 := by decide +kernel
      refine ⟨Or.inl ⟨rfl, _, Or.inl (Or.inl h3)⟩, _, rfl, ?_⟩
      refine ⟨lx, _, .str "drop", 0, .str "drop", rfl, rfl, SqL.of h3, rfl, rfl, rfl, by decide +kernel, fun m z hm hz => absurd hm (Nat.not_lt_zero m), ?_⟩
      refine ⟨_, _, rfl, rfl, ⟨by decide, by decide⟩, _, _, rfl, rfl, _, _, rfl, rfl, _, rfl, ?_⟩
      rw [List.length_map]
      have hst : ∀ ys, stepA "drop" ar (zs.map (·.2)) = ys ↔ (mvG "drop" zs).map (List.map (·.2)) = ys := fun ys => by
        unfold stepA
        rw [if_neg (by rw [c]; decide), if_pos c2, mvG_map]
      refine iteD (fun c3 => ?_) (fun c3 => ?_)
      · refine kn ((hst _).mpr ?_) H3 (Kp.of s13)
        have c4 : zs.length < 1 := by
          have : (zs.length : Int) < 1 := c3
          omega
        unfold mvG
        rw [hne, if_pos c4]
        rfl
      have c4 : 1 ≤ zs.length := by
        have : ¬ (zs.length : Int) < 1 := c3
        omega
      obtain ⟨pre, ts, rfl, hts⟩ := split_k zs 1 c4
      have eM := mvG_app (pre := pre) (hts.trans hne.symm)
      obtain ⟨a, rfl⟩ : ∃ a, ts = [a] := List.length_eq_one_iff.mp hts
      clear c3 c4 kn
      have fin : ∀ H', H' l = some (.lst ((pre ++ mvTG "drop" [a]).map fun z => V.ref z.1)) → Kp l H H' → Q (.bl true) H' := fun H' hf kf =>
        ky _ ((hst _).mpr (by rw [eM]; rfl)) H' ⟨_, hf, fun z hz => kf _ _ (ne_of (hzs z ((mvG_mem eM).1 z hz)) hl (by intro w; cases w)) (hzs z ((mvG_mem eM).1 z hz)), rfl⟩ kf
      refine ⟨_, rfl, Nat.le_of_ble_eq_true rfl, fun t4 ht4 => ?_⟩
      refine alloc_gen ht4 fun H4 s4 h4 => ?_
      have hl4 := s4 _ _ hl3
      have s14 := s13.trans s4
      refine ⟨t4, _, rfl, .inr (SqT.of h4), rfl, rfl, false, rfl, ?_⟩
      refine iteF ?_
      walk_at "rd"
      have eT : mvTG "drop" [a] = [] := mvT_drop
      refine ⟨l, _, .ref a.1, rfl, rfl, hl4, ?_, ?_⟩
      · rw [List.length_map, List.length_append, List.length_singleton, Nat.add_sub_cancel]
        exact mid_get
      · refine fin _ ?_ ((Kp.of s14).upd)
        rw [upd_same, eT, List.map_append, List.append_nil, List.map_cons, List.map_nil, List.dropLast_concat]
    · intro lx hlx
      refine alloc_gen hlx fun H3 s3 h3 => ?_
      have s13 := s12.trans s3
      have hl3 := s13 _ _ hl
      have hne : need "swap" = 2 := by decide +kernel
      refine ⟨Or.inl ⟨rfl, _, Or.inl (Or.inl h3)⟩, _, rfl, ?_⟩
      refine ⟨lx, _, .str "swap", 2, .str "swap", rfl, rfl, SqL.of h3, rfl, rfl, rfl, by decide +kernel, fun m z hm hz => (by
          have : m = 0 ∨ m = 1 := by omega
          rcases this with rfl | rfl <;> (cases hz; decide +kernel)), ?_⟩
      refine ⟨_, _, rfl, rfl, ⟨by decide, by decide⟩, _, _, rfl, rfl, _, _, rfl, rfl, _, rfl, ?_⟩
      rw [List.length_map]
      have hst : ∀ ys, stepA "swap" ar (zs.map (·.2)) = ys ↔ (mvG "swap" zs).map (List.map (·.2)) = ys := fun ys => by
        unfold stepA
        rw [if_neg (by rw [c]; decide), if_pos c2, mvG_map]
      refine iteD (fun c3 => ?_) (fun c3 => ?_)
      · refine kn ((hst _).mpr ?_) H3 (Kp.of s13)
        have c4 : zs.length < 2 := by
          have : (zs.length : Int) < 2 := c3
          omega
        unfold mvG
        rw [hne, if_pos c4]
        rfl
      have c4 : 2 ≤ zs.length := by
        have : ¬ (zs.length : Int) < 2 := c3
        omega
      obtain ⟨pre, ts, rfl, hts⟩ := split_k zs 2 c4
      have eM := mvG_app (pre := pre) (hts.trans hne.symm)
      obtain ⟨a, b, rfl⟩ : ∃ a b, ts = [a, b] := by
        match ts, hts with
        | [a, b], _ => exact ⟨a, b, rfl⟩
      clear c3 c4 kn
      have fin : ∀ H', H' l = some (.lst ((pre ++ mvTG "swap" [a, b]).map fun z => V.ref z.1)) → Kp l H H' → Q (.bl true) H' := fun H' hf kf =>
        ky _ ((hst _).mpr (by rw [eM]; rfl)) H' ⟨_, hf, fun z hz => kf _ _ (ne_of (hzs z ((mvG_mem eM).1 z hz)) hl (by intro w; cases w)) (hzs z ((mvG_mem eM).1 z hz)), rfl⟩ kf
      refine ⟨_, rfl, Nat.le_of_ble_eq_true rfl, fun t4 ht4 => ?_⟩
      refine alloc_gen ht4 fun H4 s4 h4 => ?_
      have hl4 := s4 _ _ hl3
      have s14 := s13.trans s4
      refine ⟨t4, _, rfl, .inr (SqT.of h4), rfl, rfl, true, rfl, ?_⟩
      refine iteT ?_
      walk_at "rd"
      have ei : ((((pre ++ [a, b]).map fun z : Addr × It2 => V.ref z.1).length : Nat) : Int) - 2 = (pre.length : Int) := by
        rw [List.length_map, List.length_append]
        simp only [List.length_cons, List.length_nil]
        omega
      have eT : mvTG "swap" [a, b] = [b, a] := mvT_swap
      refine ⟨l, _, _, pre.length, .ref a.1, rfl, rfl, hl4, by rw [ei]; omega, by rw [ei]; rw [List.length_append] at hn; simp only [List.length_cons, List.length_nil] at hn; omega, by rw [ei]; exact seq_at (by rw [List.length_map, List.length_append]; simp only [List.length_cons, List.length_nil]; omega), mid_get, ?_⟩
      rw [mid_erase]
      refine ⟨_, rfl, Or.inl ⟨rfl, _, Or.inl (Or.inl upd_same)⟩, ?_⟩
      refine ⟨_, rfl, l, _, _, rfl, rfl, upd_same, by rw [List.length_map, sizeLine_eq, List.length_append]; rw [List.length_append] at hn; simp only [List.length_cons, List.length_nil] at hn ⊢; omega, ?_⟩
      refine fin _ ?_ ((Kp.of s14).upd.upd)
      rw [upd_same, eT, List.map_append, List.map_append, List.append_assoc]
      rfl
    · intro lx hlx
      refine alloc_gen hlx fun H3 s3 h3 => ?_
      have s13 := s12.trans s3
      have hl3 := s13 _ _ hl
      have hne : need "over" = 2 := by decide +kernel
      refine ⟨Or.inl ⟨rfl, _, Or.inl (Or.inl h3)⟩, _, rfl, ?_⟩
      refine ⟨lx, _, .str "over", 3, .str "over", rfl, rfl, SqL.of h3, rfl, rfl, rfl, by decide +kernel, fun m z hm hz => (by
          have : m = 0 ∨ m = 1 ∨ m = 2 := by omega
          rcases this with rfl | rfl | rfl <;> (cases hz; decide +kernel)), ?_⟩
      refine ⟨_, _, rfl, rfl, ⟨by decide, by decide⟩, _, _, rfl, rfl, _, _, rfl, rfl, _, rfl, ?_⟩
      rw [List.length_map]
      have hst : ∀ ys, stepA "over" ar (zs.map (·.2)) = ys ↔ (mvG "over" zs).map (List.map (·.2)) = ys := fun ys => by
        unfold stepA
        rw [if_neg (by rw [c]; decide), if_pos c2, mvG_map]
      refine iteD (fun c3 => ?_) (fun c3 => ?_)
      · refine kn ((hst _).mpr ?_) H3 (Kp.of s13)
        have c4 : zs.length < 2 := by
          have : (zs.length : Int) < 2 := c3
          omega
        unfold mvG
        rw [hne, if_pos c4]
        rfl
      have c4 : 2 ≤ zs.length := by
        have : ¬ (zs.length : Int) < 2 := c3
        omega
      obtain ⟨pre, ts, rfl, hts⟩ := split_k zs 2 c4
      have eM := mvG_app (pre := pre) (hts.trans hne.symm)
      obtain ⟨a, b, rfl⟩ : ∃ a b, ts = [a, b] := by
        match ts, hts with
        | [a, b], _ => exact ⟨a, b, rfl⟩
      clear c3 c4 kn
      have fin : ∀ H', H' l = some (.lst ((pre ++ mvTG "over" [a, b]).map fun z => V.ref z.1)) → Kp l H H' → Q (.bl true) H' := fun H' hf kf =>
        ky _ ((hst _).mpr (by rw [eM]; rfl)) H' ⟨_, hf, fun z hz => kf _ _ (ne_of (hzs z ((mvG_mem eM).1 z hz)) hl (by intro w; cases w)) (hzs z ((mvG_mem eM).1 z hz)), rfl⟩ kf
      refine ⟨_, rfl, Nat.le_of_ble_eq_true rfl, fun t4 ht4 => ?_⟩
      refine alloc_gen ht4 fun H4 s4 h4 => ?_
      have hl4 := s4 _ _ hl3
      have s14 := s13.trans s4
      refine ⟨t4, _, rfl, .inr (SqT.of h4), rfl, rfl, false, rfl, ?_⟩
      refine iteF ?_
      walk_at "rd"
      have ei : ((((pre ++ [a, b]).map fun z : Addr × It2 => V.ref z.1).length : Nat) : Int) - 2 = (pre.length : Int) := by
        rw [List.length_map, List.length_append]
        simp only [List.length_cons, List.length_nil]
        omega
      have eT : mvTG "over" [a, b] = [a, b, a] := mvT_over
      refine ⟨_, _, _, .ref a.1, rfl, rfl, SqL.of hl4, at_of (j := pre.length) ei mid_get, ?_⟩
      refine ⟨l, _, _, rfl, rfl, hl4, by rw [List.length_map, sizeLine_eq]; omega, ?_⟩
      refine fin _ ?_ ((Kp.of s14).upd)
      rw [upd_same, eT, List.map_append, List.map_append, List.append_assoc]
      rfl
    · intro lx hlx
      refine alloc_gen hlx fun H3 s3 h3 => ?_
      have s13 := s12.trans s3
      have hl3 := s13 _ _ hl
      have hne : need "rot" = 3 := by decide +kernel
      refine ⟨Or.inl ⟨rfl, _, Or.inl (Or.inl h3)⟩, _, rfl, ?_⟩
      refine ⟨lx, _, .str "rot", 4, .str "rot", rfl, rfl, SqL.of h3, rfl, rfl, rfl, by decide +kernel, fun m z hm hz => (by
          have : m = 0 ∨ m = 1 ∨ m = 2 ∨ m = 3 := by omega
          rcases this with rfl | rfl | rfl | rfl <;> (cases hz; decide +kernel)), ?_⟩
      refine ⟨_, _, rfl, rfl, ⟨by decide, by decide⟩, _, _, rfl, rfl, _, _, rfl, rfl, _, rfl, ?_⟩
      rw [List.length_map]
      have hst : ∀ ys, stepA "rot" ar (zs.map (·.2)) = ys ↔ (mvG "rot" zs).map (List.map (·.2)) = ys := fun ys => by
        unfold stepA
        rw [if_neg (by rw [c]; decide), if_pos c2, mvG_map]
      refine iteD (fun c3 => ?_) (fun c3 => ?_)
      · refine kn ((hst _).mpr ?_) H3 (Kp.of s13)
        have c4 : zs.length < 3 := by
          have : (zs.length : Int) < 3 := c3
          omega
        unfold mvG
        rw [hne, if_pos c4]
        rfl
      have c4 : 3 ≤ zs.length := by
        have : ¬ (zs.length : Int) < 3 := c3
        omega
      obtain ⟨pre, ts, rfl, hts⟩ := split_k zs 3 c4
      have eM := mvG_app (pre := pre) (hts.trans hne.symm)
      obtain ⟨a, b, c, rfl⟩ : ∃ a b c, ts = [a, b, c] := by
        match ts, hts with
        | [a, b, c], _ => exact ⟨a, b, c, rfl⟩
      clear c3 c4 kn
      have fin : ∀ H', H' l = some (.lst ((pre ++ mvTG "rot" [a, b, c]).map fun z => V.ref z.1)) → Kp l H H' → Q (.bl true) H' := fun H' hf kf =>
        ky _ ((hst _).mpr (by rw [eM]; rfl)) H' ⟨_, hf, fun z hz => kf _ _ (ne_of (hzs z ((mvG_mem eM).1 z hz)) hl (by intro w; cases w)) (hzs z ((mvG_mem eM).1 z hz)), rfl⟩ kf
      refine ⟨_, rfl, Nat.le_of_ble_eq_true rfl, fun t4 ht4 => ?_⟩
      refine alloc_gen ht4 fun H4 s4 h4 => ?_
      have hl4 := s4 _ _ hl3
      have s14 := s13.trans s4
      refine ⟨t4, _, rfl, .inr (SqT.of h4), rfl, rfl, true, rfl, ?_⟩
      refine iteT ?_
      walk_at "rd"
      have ei : ((((pre ++ [a, b, c]).map fun z : Addr × It2 => V.ref z.1).length : Nat) : Int) - 3 = (pre.length : Int) := by
        rw [List.length_map, List.length_append]
        simp only [List.length_cons, List.length_nil]
        omega
      have eT : mvTG "rot" [a, b, c] = [b, c, a] := rfl
      refine ⟨l, _, _, pre.length, .ref a.1, rfl, rfl, hl4, by rw [ei]; omega, by rw [ei]; rw [List.length_append] at hn; simp only [List.length_cons, List.length_nil] at hn; omega, by rw [ei]; exact seq_at (by rw [List.length_map, List.length_append]; simp only [List.length_cons, List.length_nil]; omega), mid_get, ?_⟩
      rw [mid_erase]
      refine ⟨_, rfl, Or.inl ⟨rfl, _, Or.inl (Or.inl upd_same)⟩, ?_⟩
      refine ⟨_, rfl, l, _, _, rfl, rfl, upd_same, by rw [List.length_map, sizeLine_eq, List.length_append]; rw [List.length_append] at hn; simp only [List.length_cons, List.length_nil] at hn ⊢; omega, ?_⟩
      refine fin _ ?_ ((Kp.of s14).upd.upd)
      rw [upd_same, eT, List.map_append, List.map_append, List.append_assoc]
      rfl
  · refine kn ?_ H2 (Kp.of s12)
    unfold stepA
    rw [if_neg (by rw [c]; decide), if_neg (by rw [c2]; decide)]

end
end K45
namespace K45
open PySem PySem.Spec PyProof.Rows L2 My
section
variable {P : Program} {w : World} {K : PySem.W.Frag} {mg : Str → Option Value} {base : Heap}

theorem BodyAt.kp {H H' : Hp} {q l : Addr} {rows : List It2} {ys : List V} (h : BodyAt H q rows) (hl : H l = some (.lst ys)) (k : Kp l H H') : BodyAt H' q rows := by
  obtain ⟨ws, h1, h2, h3⟩ := h
  exact ⟨ws, k _ _ (ne_of h1 hl (by intro z; cases z)) h1, fun w hw => ⟨k _ _ (ne_of (h2 w hw).1 hl (by intro z; cases z)) (h2 w hw).1, (h2 w hw).2⟩, h3⟩
theorem stepA_len {op : Str} {a : Int} {xs ys : List It2} (h : stepA op a xs = some ys) : ys.length ≤ xs.length + 1 := by
  unfold stepA at h
  split at h
  · cases h
    rw [List.length_append]
    exact Nat.le_refl _
  · split at h
    · exact (mvG_mem h).2
    · cases h
abbrev spDueB (x y z u : V) (H : Hp) (Q : VK) : Prop := ∃ (q l : Addr) (rows xs : List It2) (p g : Nat), x = .ref q ∧ BodyAt H q rows ∧ rows.length ≤ 100 ∧ y = .int p ∧ z = .ref l ∧ PileAt H l xs ∧ u = .int g ∧ g < rows.length ∧ xs.length + (g - p) ≤ 800 ∧
  (aft rows p g xs = none → ∀ H', Kp l H H' → Q .non H') ∧ ∀ ys, aft rows p g xs = some ys → ∀ r H', LayAt H' r ys → Kp l H H' → Q (.ref r) H'
abbrev spDue : Sp := Sp4 fun x y z u H Q _ => spDueB x y z u H Q

theorem ok__law_due (M : TX K mg w) : FnOk P w K mg base (L2.CX P w) 2 M.f__law_due M.d__law_due ["_law_body_here", "_law_place", "_law_pile", "_law_goal"] (spDue) := by
  have sc := sc__law_due
  refine M.F__law_due.okX sc (fun vs H Q E h => Sp4_len h) (fun cdv A outer s H vs Q E hr h => ?_)
  obtain ⟨x0, x1, x2, x3, rfl, h⟩ := h
  have hu := hu_of hr
  have hu64 := hr.units
  refine ⟨_, (pss_cons (ps_for (passes_of rfl) rfl (pi_range1 rfl M.n_range (pa_cons (pe_op op_add (pe_callB (call_lenK K) (by rfl) M.n_len PySem.boot_len (pa_cons (pv 0) pa_nil)) pe_int) pa_nil)) (pg_name (i := 4) sc.nd rfl (Or.inl rfl))
      (pss_cons (ps_if (pt_cmpR op_eq (pv 1) (pv 3) (nomark _))
        (pss_one (ps_ret (pe_callTy (call_tupleK K) (by rfl) M.n_tuple (by decide +kernel) (pa_cons (pv 2) pa_nil))))
        pss_nil)
      (pss_cons (ps_if (PW.pt (pw_or (pt_cmpR op_gt (pv 1) (pv 3) (nomark _)) (pw_or1 (pt_not (pt_val (pe_call (ok__law_moved M) (hr.mono (by decide)) rfl M.g__law_moved M.F__law_moved.kp M.b__law_moved .nil (passE rfl rfl rfl rfl) (pa_cons (pe_ix (ix_tupK K) (pv 0) (pv 1) (fun _ _ => rfl)) (pa_cons (pv 2) pa_nil))))))))
        (pss_one (ps_ret pe_non))
        pss_nil)
      (pss_one (ps_set (i := 1) sc.nd rfl (Or.inl rfl) (pe_op op_add (pv 1) pe_int))))))
    (pss_one (ps_ret pe_non))), ?_⟩

  obtain ⟨q, l, rows, xs, p, g, rfl, hB, hrl, rfl, rfl, hP, rfl, hg, hlen, kn, ky⟩ := h
  obtain ⟨ws0, hq0, _, er0⟩ := id hB
  have hwl : ws0.length = rows.length := by rw [er0, List.length_map]
  refine ⟨_, rfl, _, _, rfl, .inr (SqT.of hq0), _, _, rfl, rfl, _, rfl, by rw [List.length_map]; omega, by rw [List.length_map]; omega, ?_⟩
  rw [List.length_map, hwl]
  refine for_range (lo := 0) (n := rows.length + 1) (fun i σ H2 => ∃ (xs' : List It2) (v : Option V), σ = [some (.ref q), some (.int ((p + i : Nat) : Int)), some (.ref l), some (.int g), v] ∧ PileAt H2 l xs' ∧ Kp l H H2 ∧ BodyAt H2 q rows ∧ aft rows (p + i) g xs' = aft rows p g xs ∧ xs'.length + (g - (p + i)) ≤ 800 ∧ (i = 0 ∨ p + i ≤ g)) ⟨xs, none, rfl, hP, Kp.refl, hB, rfl, hlen, .inl rfl⟩ ?_ ?_
  · rintro i σ H2 hi ⟨xs', v, rfl, hP2, k2, hB2, hT, hl2, hi2⟩
    refine ⟨_, rfl, _, rfl, rfl, _, rfl, ?_⟩
    refine iteD (fun c => ?_) (fun c => ?_)
    · have e : p + i = g := by
        have := V.int.inj c
        omega
      obtain ⟨zs, hz, hzs, rfl⟩ := hP2
      have eT : aft rows p g xs = some (zs.map (·.2)) := by
        rw [← hT]
        unfold aft
        rw [if_neg (by omega), e, Nat.sub_self]
        rfl
      refine ⟨_, rfl, l, _, rfl, .inl ⟨SqL.of hz, fun r hr => ?_⟩⟩
      exact ky _ eT r _ ⟨zs, upd_same, fun z hz' => (Same.put (Same.refl H2) hr) _ _ (hzs z hz'), rfl⟩ (k2.trans (Kp.of (Same.put (Same.refl H2) hr)))
    · have ne : p + i ≠ g := fun z => c (by rw [z])
      refine ⟨_, rfl, _, rfl, _, _, rfl, rfl, _, rfl, ?_⟩
      refine iteD (fun c1 => ?_) (fun c1 => ?_)
      · refine kn ?_ H2 k2
        rw [← hT]
        unfold aft
        rw [if_pos (by omega)]
      have hlt : p + i < g := by omega
      obtain ⟨ws, hq, hw, rfl⟩ := id hB2
      rw [List.length_map] at hg hwl hrl
      have hpl : p + i < ws.length := by omega
      obtain ⟨wd, hwd⟩ : ∃ wd, ws[p + i]? = some wd := ⟨ws[p + i], List.getElem?_eq_getElem hpl⟩
      obtain ⟨hw1, hw2⟩ := hw wd (List.mem_of_getElem? hwd)
      have hgq : (ws.map fun w => V.ref w.1)[p + i]? = some (V.ref wd.1) := by rw [List.getElem?_map, hwd]; rfl
      have hgr : (ws.map fun w : Addr × V × It2 => w.2.2)[p + i]? = some wd.2.2 := by rw [List.getElem?_map, hwd]; rfl
      have eR : aft (ws.map (·.2.2)) (p + i) g xs' = match stepA wd.2.2.1 wd.2.2.2 xs' with | none => none | some ys => runA (ws.map fun w : Addr × V × It2 => w.2.2) (p + i + 1) (g - (p + i + 1)) ys := by
        unfold aft
        rw [if_neg (by omega), show g - (p + i) = g - (p + i + 1) + 1 by omega]
        conv => lhs; unfold runA
        rw [hgr] <;> (show (match stepA wd.2.2.1 wd.2.2.2 xs' with | none => none | some ys => _) = _; cases stepA wd.2.2.1 wd.2.2.2 xs' <;> rfl)
      refine ⟨_, rfl, _, rfl, _, _, _, .ref wd.1, rfl, rfl, SqT.of hq, at_of (j := p + i) rfl hgq, ?_⟩
      obtain ⟨zs, hz, hzs, ex⟩ := id hP2
      refine ⟨_, rfl, _, _, rfl, wd.1, l, wd.2.1, wd.2.2, xs', rfl, rfl, ⟨hw1, hw2⟩, hP2, by omega, fun hn H3 k3 => ?_, fun ys hy H3 hP3 k3 => ?_⟩
      · refine ⟨false, rfl, ?_⟩
        refine kn ?_ H3 (k2.trans k3)
        rw [← hT, eR]
        simp only [hn]
      · refine ⟨true, rfl, ?_⟩
        have hln := stepA_len hy
        refine ⟨_, rfl, _, _, rfl, rfl, ys, some (.int (0 + (i : Int))), ?_, hP3, k2.trans k3, hB2.kp hz k3, ?_, by omega, .inr (by omega)⟩
        · rfl
        · rw [← hT, eR, hy]
          show aft _ (p + i + 1) g ys = _
          unfold aft
          rw [if_neg (by omega)]
  · rintro σ H2 ⟨xs', v, rfl, hP2, k2, hB2, hT, hl2, hi2⟩
    omega

end
end K45
namespace K45
open PySem PySem.Spec PyProof.Rows L2 My
section
variable {P : Program} {w : World} {K : PySem.W.Frag} {mg : Str → Option Value} {base : Heap}

def dLay (xs : List It2) : PyData := .tuple (xs.map fun z => .tuple [.str z.1, .int z.2])
theorem dp_lay {K : PySem.W.Frag} {H : Hp} : ∀ zs : List (Addr × It2), (∀ z ∈ zs, H z.1 = some (.tup [.str z.2.1, .int z.2.2])) → DpAll K H (zs.map fun z => V.ref z.1) ((zs.map (·.2)).map fun z => .tuple [.str z.1, .int z.2])
  | [], _ => .nil
  | z :: r, h => .cons (.tup (SqT.of (h z List.mem_cons_self)) (.cons (.str _) (.cons (.int _) .nil))) (dp_lay r fun y hy => h y (List.mem_cons_of_mem _ hy))
theorem LayAt.dp {K : PySem.W.Frag} {H : Hp} {l : Addr} {xs : List It2} (h : LayAt H l xs) : Dp K H (.ref l) (dLay xs) := by
  obtain ⟨zs, h1, h2, rfl⟩ := h
  exact .tup (SqT.of h1) (dp_lay zs h2)
theorem plain_lay : ∀ xs : List It2, PyData.plainAll (xs.map fun z => PyData.tuple [.str z.1, .int z.2]) = true
  | [] => rfl
  | z :: r => by
    have ih := plain_lay r
    simp only [List.map_cons, PyData.plainAll, ih, Bool.and_true]; rfl
theorem deep_lay : ∀ xs : List It2, PyData.depthAll (xs.map fun z => PyData.tuple [.str z.1, .int z.2]) ≤ 3
  | [] => by simp [PyData.depthAll]
  | z :: r => by
    have ih := deep_lay r
    simp only [List.map_cons, PyData.depthAll, PyData.depth]; omega
theorem dLay_ok (xs : List It2) : (dLay xs).plain = true ∧ (dLay xs).depth ≤ 64 := by
  refine ⟨?_, ?_⟩
  · unfold dLay
    simp only [PyData.plain]; exact plain_lay xs
  · unfold dLay
    have := deep_lay xs
    simp only [PyData.depth]; omega
def OLay (H : Hp) (x : V) : Option (List It2) → Prop
  | none => x = .non
  | some xs => ∃ l, x = .ref l ∧ LayAt H l xs
abbrev spSameB (x y : V) (H : Hp) (Q : VK) : Prop := ∃ o : Option (List It2), OLay H x o ∧ OLay H y o ∧ (∀ xs, o = some xs → xs.length ≤ 1000) ∧ Q (.bl true) H
abbrev spSame : Sp := Sp2 fun x y H Q _ => spSameB x y H Q

theorem ok__law_same (M : TX K mg w) : FnOk P w K mg base (L2.CX P w) 2 M.f__law_same M.d__law_same ["_law_told", "_law_due_here"] (spSame) := by
  have sc := sc__law_same
  refine M.F__law_same.okX sc (fun vs H Q E h => Sp2_len h) (fun cdv A outer s H vs Q E hr h => ?_)
  obtain ⟨x0, x1, rfl, h⟩ := h
  have hu := hu_of hr
  have hu64 := hr.units
  refine ⟨_, (pss_cons (ps_if (pt_cmpR op_isN (pv 1) pe_non (nomark _))
      (pss_one (ps_ret (pe_cmpR op_isN (pv 0) pe_non (nomark _))))
      pss_nil)
    (pss_cons (ps_if (PW.pt (pw_or (pt_not (pt_val (pe_callB call_isTup (by rfl) M.n_isinstance (by decide +kernel) (pa_cons (pv 0) (pa_cons (pe_bltn (v := .ty "tuple") (u := .type "tuple") (by rfl) M.n_tuple (by decide +kernel) rfl) pa_nil))))) (pw_or1 (pt_cmpR op_ne (pe_callB (call_lenK K) (by rfl) M.n_len PySem.boot_len (pa_cons (pv 0) pa_nil)) (pe_callB (call_lenK K) (by rfl) M.n_len PySem.boot_len (pa_cons (pv 1) pa_nil)) (nomark _)))))
      (pss_one (ps_ret pe_bl))
      pss_nil)
    (pss_cons (ps_for (passes_of rfl) rfl (pi_range1 rfl M.n_range (pa_cons (pe_callB (call_lenK K) (by rfl) M.n_len PySem.boot_len (pa_cons (pv 1) pa_nil)) pa_nil)) (pg_name (i := 2) sc.nd rfl (Or.inl rfl))
      (pss_one (ps_if (PW.pt (pw_or (pt_not (pt_val (pe_callB call_isTup (by rfl) M.n_isinstance (by decide +kernel) (pa_cons (pe_ix (ix_tupK K) (pv 0) (pv 2) (fun _ _ => rfl)) (pa_cons (pe_bltn (v := .ty "tuple") (u := .type "tuple") (by rfl) M.n_tuple (by decide +kernel) rfl) pa_nil))))) (pw_or (pt_cmpR op_ne (pe_callB (call_lenK K) (by rfl) M.n_len PySem.boot_len (pa_cons (pe_ix (ix_tupK K) (pv 0) (pv 2) (fun _ _ => rfl)) pa_nil)) pe_int (nomark _)) (pw_or1 (pt_not (pt_val (pe_call (ok__law_integer M) (hr.mono (by decide)) rfl M.g__law_integer M.F__law_integer.kp M.b__law_integer .nil (passE rfl rfl rfl rfl) (pa_cons (pe_ix (ix_tupK K) (pe_ix (ix_tupK K) (pv 0) (pv 2) (fun _ _ => rfl)) pe_int (fun _ _ => rfl)) pa_nil))))))))
        (pss_one (ps_ret pe_bl))
        pss_nil)))
    (pss_one (ps_ret (pe_cmpR (op_eqPK K hu64) (pv 0) (pv 1) (nomark _))))))), ?_⟩

  obtain ⟨o, hx, hy, hn, q⟩ := h
  cases o with
  | none =>
    cases hx
    cases hy
    walk_at "rd"
    exact q
  | some xs =>
    obtain ⟨l1, rfl, hL1⟩ := hx
    obtain ⟨l2, rfl, hL2⟩ := hy
    obtain ⟨zs, h1, hz, e1⟩ := id hL1
    obtain ⟨ys, h2, hy, e2⟩ := id hL2
    have ln : zs.length = ys.length := by rw [← List.length_map (·.2), ← e1, e2, List.length_map]
    walk_at "rd"
    refine ⟨l1, _, rfl, h1, true, rfl, ?_⟩
    refine ⟨_, rfl, _, _, rfl, .inr (SqT.of h1), _, rfl, _, _, rfl, .inr (SqT.of h2), ?_⟩
    refine ⟨rfl, _, rfl, ?_⟩
    refine iteNDF (by rw [List.length_map, List.length_map, ln]) ?_
    have hn := hn xs rfl
    rw [e1, List.length_map] at hn
    refine ⟨_, rfl, _, _, rfl, .inr (SqT.of h2), _, rfl, Int.natCast_nonneg _, by rw [List.length_map]; omega, ?_⟩
    rw [List.length_map, ← ln]
    refine for_range (lo := 0) (n := zs.length) (fun i σ H2 => H2 = H ∧ ∃ v, σ = [some (.ref l1), some (.ref l2), v]) ⟨rfl, none, rfl⟩ ?_ ?_
    · rintro i σ H2 hi ⟨rfl, v, rfl⟩
      obtain ⟨z, hzi⟩ : ∃ z, zs[i]? = some z := ⟨zs[i], List.getElem?_eq_getElem hi⟩
      have hz1 := hz z (List.mem_of_getElem? hzi)
      have hg : (zs.map fun z => V.ref z.1)[i]? = some (V.ref z.1) := by rw [List.getElem?_map, hzi]; rfl
      refine ⟨_, rfl, _, rfl, _, _, _, .ref z.1, rfl, rfl, SqT.of h1, at_of (j := i) (by omega) hg, ?_⟩
      refine ⟨_, _, rfl, hz1, true, rfl, ?_⟩
      refine ⟨_, rfl, _, rfl, _, _, _, .ref z.1, rfl, rfl, SqT.of h1, at_of (j := i) (by omega) hg, ?_⟩
      refine ⟨_, _, rfl, .inr (SqT.of hz1), rfl, _, rfl, ?_⟩
      refine iteNDF rfl ?_
      refine ⟨_, rfl, _, rfl, _, _, _, .ref z.1, rfl, rfl, SqT.of h1, at_of (j := i) (by omega) hg, ?_⟩
      refine ⟨_, _, _, .int z.2.2, rfl, rfl, SqT.of hz1, rfl, ?_⟩
      exact ⟨_, rfl, .int _, true, rfl, rfl, _, rfl⟩
    · rintro σ H2 ⟨rfl, v, rfl⟩
      exact ⟨_, rfl, _, rfl, _, _, hL1.dp, hL2.dp, (dLay_ok _).1, (dLay_ok _).1, (dLay_ok _).2, by rw [PySem.SeqAt.eqv_refl_plain _ (dLay_ok _).1]; exact q⟩

end
end K45
namespace K45
open PySem PySem.Spec PyProof.Rows L2 My
section
variable {P : Program} {w : World} {K : PySem.W.Frag} {mg : Str → Option Value} {base : Heap}

def subA {α : Type} (op : α → Str) (ar : α → Int) (its : List α) (z : α) : α := if op z = "reg" then (its[(ar z % 8).toNat]?).getD z else z
def subI (its : List It2) (z : It2) : It2 := subA (·.1) (·.2) its z
def subZ (its : List (Addr × It2)) (z : Addr × It2) : Addr × It2 := subA (·.2.1) (·.2.2) its z
theorem subZ_snd (its : List (Addr × It2)) (z : Addr × It2) : (subZ its z).2 = subI (its.map (·.2)) z.2 := by
  unfold subZ subI subA
  by_cases c : z.2.1 = "reg"
  · rw [if_pos c, if_pos c, List.getElem?_map]
    cases its[(z.2.2 % 8).toNat]? <;> rfl
  · rw [if_neg c, if_neg c]
theorem subZ_at {H : Hp} {its : List (Addr × It2)} {z : Addr × It2} (hi : ∀ z ∈ its, H z.1 = some (.tup [.str z.2.1, .int z.2.2])) (hz : H z.1 = some (.tup [.str z.2.1, .int z.2.2])) : H (subZ its z).1 = some (.tup [.str (subZ its z).2.1, .int (subZ its z).2.2]) := by
  unfold subZ subA
  by_cases c : z.2.1 = "reg"
  · rw [if_pos c]
    cases e : its[(z.2.2 % 8).toNat]? with
    | none => exact hz
    | some y => exact hi y (List.mem_of_getElem? e)
  · rw [if_neg c]; exact hz
abbrev spItemsB (x y : V) (H : Hp) (Q : VK) : Prop := ∃ (l l8 : Addr) (xs : List It2) (its : List (Addr × It2)), x = .ref l ∧ y = .ref l8 ∧ LayAt H l xs ∧ xs.length ≤ 1000 ∧ H l8 = some (.lst (its.map fun z => V.ref z.1)) ∧ its.length = 8 ∧ (∀ z ∈ its, H z.1 = some (.tup [.str z.2.1, .int z.2.2])) ∧ ∀ r H', LayAt H' r (xs.map (subI (its.map (·.2)))) → Same H H' → Q (.ref r) H'
abbrev spItems : Sp := Sp2 fun x y H Q _ => spItemsB x y H Q

theorem ok__law_items (M : TX K mg w) : FnOk P w K mg base (L2.CX P w) 1 M.f__law_items M.d__law_items ["_law_layout", "_law_items_here"] (spItems) := by
  have sc := sc__law_items
  refine M.F__law_items.okX sc (fun vs H Q E h => Sp2_len h) (fun cdv A outer s H vs Q E hr h => ?_)
  obtain ⟨x0, x1, rfl, h⟩ := h
  have hu := hu_of hr
  have hu64 := hr.units
  refine ⟨_, (pss_one (ps_ret (pe_callTy (call_tupleK K) (by rfl) M.n_tuple (by decide +kernel) (pa_cons (pe_lc (own := [("_law_one", 2)]) (g := gName 2) (tt := tYes) (by rfl) sc.nd (pi_tupK K (pi_tup (pv 0))) (blkOk_by (own := [("_law_one", 2)]) (N := ["_law_layout", "_law_items_here", "_law_one"]) (sc := defScope s__law_items) (by decide +kernel)) (fun _ _ _ _ _ => pg_name (i := 2) sc.nd rfl (Or.inl rfl)) (fun _ _ _ _ _ => pts_nil) (fun _ _ _ _ _ => (pe_ifExp (pt_cmpR op_eq (pe_ix (ix_tupK K) (pv 2) pe_int (fun _ _ => rfl)) pe_str (nomark _)) (pe_ix (ix_listK K) (pv 1) (pe_op op_mod (pe_callTy call_int1 (by rfl) M.n_int (by decide +kernel) (pa_cons (pe_ix (ix_tupK K) (pv 2) pe_int (fun _ _ => rfl)) pa_nil)) pe_int) (fun _ _ => rfl)) (pv 2)))) pa_nil)))), ?_⟩

  obtain ⟨l, l8, xs, its, rfl, rfl, ⟨zs, hl, hz, rfl⟩, hn, h8, n8, hi, q⟩ := h
  rw [List.length_map] at hn
  refine ⟨_, rfl, l, rfl, ⟨_, SqT.of hl⟩, fun D hD => ?_⟩
  refine lc_tup (K := K) (a := l) (xs := zs.map fun z => V.ref z.1) (LBd D (zs.map fun z => V.ref (subZ its z).1) H) (LBd_0 hD) (fun i H' _ h => SqT.of (h.2 _ _ hl)) ?_ ?_
  · rintro i x H' hi' B
    obtain ⟨z, hzi, rfl⟩ : ∃ z, zs[i]? = some z ∧ x = V.ref z.1 := by
      rw [List.getElem?_map] at hi'
      cases e : zs[i]? with
      | none => rw [e] at hi'; cases hi'
      | some z => rw [e] at hi'; exact ⟨z, rfl, (Option.some.inj hi').symm⟩
    have hz1 := B.2 _ _ (hz z (List.mem_of_getElem? hzi))
    have hy : (zs.map fun z => V.ref (subZ its z).1)[i]? = some (V.ref (subZ its z).1) := by rw [List.getElem?_map, hzi]; rfl
    refine ⟨rfl, tYes_i (iteT ?_)⟩
    refine ⟨_, rfl, _, _, _, .str z.2.1, rfl, rfl, SqT.of hz1, rfl, rfl, _, rfl, ?_⟩
    have fin := LBd_s B hD hy (by rw [List.length_map]; omega)
    refine iteD (fun c => ?_) (fun c => ?_)
    · have c := V.str.inj c
      have hlt : (z.2.2 % 8).toNat < its.length := by omega
      have e8 : its[(z.2.2 % 8).toNat]? = some its[(z.2.2 % 8).toNat] := List.getElem?_eq_getElem hlt
      have es : subZ its z = its[(z.2.2 % 8).toNat] := by
        unfold subZ subA
        rw [if_pos c, e8]; rfl
      refine ⟨_, rfl, _, rfl, _, _, _, .int z.2.2, rfl, rfl, SqT.of hz1, rfl, ?_⟩
      rw [es] at fin
      exact .inl ⟨_, rfl, _, _, rfl, rfl, (show (0 : Int) < 8 by decide), _, _, _, _, rfl, rfl, SqL.of (B.2 _ _ h8), at_of (j := (z.2.2 % 8).toNat) (by omega) (by rw [List.getElem?_map, e8]; rfl), fin⟩
    · have c : ¬ z.2.1 = "reg" := fun e => c (by rw [e])
      have es : subZ its z = z := by
        unfold subZ subA
        rw [if_neg c]
      rw [es] at fin
      exact ⟨_, rfl, fin⟩
  · intro H' B
    obtain ⟨hd, s2⟩ := LBd_n B (by simp)
    refine ⟨D, _, rfl, .inl ⟨SqL.of hd, fun r hr => ?_⟩⟩
    refine q r _ ⟨zs.map (subZ its), ?_, fun z hz' => ?_, ?_⟩ (s2.trans (Same.put (Same.refl _) hr))
    · rw [upd_same, List.map_map]; rfl
    · obtain ⟨y, hy, rfl⟩ := List.mem_map.mp hz'
      exact (Same.put (Same.refl _) hr) _ _ (subZ_at (fun z hz => s2 _ _ (hi z hz)) (s2 _ _ (hz y hy)))
    · rw [List.map_map, List.map_map]
      exact List.map_congr_left fun z _ => (subZ_snd its z).symm

end
end K45
namespace K45
open PySem PySem.Spec PyProof.Rows L2 My
section
variable {P : Program} {w : World} {K : PySem.W.Frag} {mg : Str → Option Value} {base : Heap}

abbrev spLaw (K : PySem.W.Frag) : Sp := Sp1 fun x H Q _ => ∃ (a : Addr) (ns : List Int), x = .ref a ∧ SqL K H a (ns.map V.int) ∧ ns.length ≤ 63 ∧ ∀ H', Q (.bl true) H'
theorem LayAt.kb {b l : Addr} {H H' : Hp} {xs : List It2} (h : LayAt H l xs) (B : BagAt H b) (k : Kb b H H') : LayAt H' l xs := by
  obtain ⟨zs, h1, h2, h3⟩ := h
  exact ⟨zs, k _ _ (B.ne_tup h1) h1, fun z hz => k _ _ (B.ne_tup (h2 z hz)) (h2 z hz), h3⟩
theorem BodyAt.kb {b l : Addr} {H H' : Hp} {xs : List It2} (h : BodyAt H l xs) (B : BagAt H b) (k : Kb b H H') : BodyAt H' l xs := by
  obtain ⟨zs, h1, h2, h3⟩ := h
  exact ⟨zs, k _ _ (B.ne_tup h1) h1, fun z hz => ⟨k _ _ (B.ne_tup (h2 z hz).1) (h2 z hz).1, (h2 z hz).2⟩, h3⟩
theorem OLay.kb {b : Addr} {x : V} {H H' : Hp} {o : Option (List It2)} (h : OLay H x o) (B : BagAt H b) (k : Kb b H H') : OLay H' x o := by
  cases o with
  | none => exact h
  | some xs =>
    obtain ⟨l, e, hl⟩ := h
    exact ⟨l, e, hl.kb B k⟩
theorem OLay.same {x : V} {H H' : Hp} {o : Option (List It2)} (h : OLay H x o) (k : Same H H') : OLay H' x o := by
  cases o with
  | none => exact h
  | some xs =>
    obtain ⟨l, e, hl⟩ := h
    exact ⟨l, e, hl.same k⟩
theorem runA_add (rows : List It2) : ∀ (m n p : Nat) (xs : List It2), runA rows p (m + n) xs = (runA rows p m xs).bind (runA rows (p + m) n)
  | 0, n, p, xs => by rw [Nat.zero_add]; rfl
  | m + 1, n, p, xs => by
    rw [show m + 1 + n = (m + n) + 1 by omega]
    unfold runA
    cases rows[p]? with
    | none => rfl
    | some r =>
      show (match stepA r.1 r.2 xs with | none => none | some ys => runA rows (p + 1) (m + n) ys) = (match stepA r.1 r.2 xs with | none => none | some ys => runA rows (p + 1) m ys).bind _
      cases stepA r.1 r.2 xs with
      | none => rfl
      | some ys =>
        show runA rows (p + 1) (m + n) ys = (runA rows (p + 1) m ys).bind _
        rw [runA_add rows m n (p + 1) ys, show p + 1 + m = p + (m + 1) by omega]
theorem aft_split {rows xs : List It2} {p t g : Nat} (h1 : p ≤ t) (h2 : t ≤ g) : aft rows p g xs = (aft rows p t xs).bind (aft rows t g) := by
  have e : aft rows t g = runA rows (p + (t - p)) (g - t) := by
    funext ys
    unfold aft
    rw [if_neg (by omega), show p + (t - p) = t by omega]
  rw [e]
  unfold aft
  rw [if_neg (by omega), if_neg (by omega), show g - p = (t - p) + (g - t) by omega, runA_add]
theorem runA_len (rows : List It2) : ∀ (n p : Nat) (xs ys : List It2), runA rows p n xs = some ys → ys.length ≤ xs.length + n
  | 0, p, xs, ys, h => by cases h; exact Nat.le_refl _
  | n + 1, p, xs, ys, h => by
    unfold runA at h
    cases e : rows[p]? with
    | none => rw [e] at h; cases h
    | some r =>
      rw [e] at h
      have h : (match stepA r.1 r.2 xs with | none => none | some zs => runA rows (p + 1) n zs) = some ys := h
      cases e2 : stepA r.1 r.2 xs with
      | none => rw [e2] at h; cases h
      | some zs =>
        rw [e2] at h
        have h1 := runA_len rows n (p + 1) zs ys h
        have h2 := stepA_len e2
        omega
theorem aft_len {rows xs ys : List It2} {p g : Nat} (h : aft rows p g xs = some ys) : p ≤ g ∧ ys.length ≤ xs.length + (g - p) := by
  unfold aft at h
  split at h
  · cases h
  · rename_i c
    exact ⟨by omega, runA_len _ _ _ _ _ h⟩
theorem runA_map (f : It2 → It2) (hf : ∀ z : It2, isSrc z.1 = true → f z = z) (rows : List It2) : ∀ (n p : Nat) (xs : List It2), runA rows p n (xs.map f) = (runA rows p n xs).map (List.map f)
  | 0, p, xs => rfl
  | n + 1, p, xs => by
    unfold runA
    cases rows[p]? with
    | none => rfl
    | some r =>
      have e : stepA r.1 r.2 (xs.map f) = (stepA r.1 r.2 xs).map (List.map f) := by
        unfold stepA
        by_cases c : isSrc r.1 = true
        · rw [if_pos c, if_pos c]
          show _ = some ((xs ++ [(r.1, r.2)]).map f)
          rw [List.map_append]
          show some (xs.map f ++ [(r.1, r.2)]) = some (xs.map f ++ [f (r.1, r.2)])
          rw [hf (r.1, r.2) c]
        · rw [if_neg c, if_neg c]
          by_cases c2 : isMv r.1 = true
          · rw [if_pos c2, if_pos c2, mvG_map]
          · rw [if_neg c2, if_neg c2]; rfl
      show (match stepA r.1 r.2 (xs.map f) with | none => none | some ys => runA rows (p + 1) n ys) = (match stepA r.1 r.2 xs with | none => none | some ys => runA rows (p + 1) n ys).map _
      rw [e]
      cases stepA r.1 r.2 xs with
      | none => rfl
      | some ys => exact runA_map f hf rows n (p + 1) ys
theorem aft_map {f : It2 → It2} (hf : ∀ z : It2, isSrc z.1 = true → f z = z) {rows xs : List It2} {p g : Nat} : aft rows p g (xs.map f) = (aft rows p g xs).map (List.map f) := by
  unfold aft
  split
  · rfl
  · exact runA_map f hf rows _ _ _
theorem subI_src (its : List It2) (z : It2) (h : isSrc z.1 = true) : subI its z = z := by
  unfold subI subA
  rw [if_neg]
  intro e
  have e : z.1 = "reg" := e
  rw [e] at h
  exact absurd h (by decide +kernel)
theorem aft_self {rows xs : List It2} {g : Nat} : aft rows g g xs = some xs := by
  unfold aft
  rw [if_neg (by omega), Nat.sub_self]; rfl
theorem Kp.old {H H1 H' : Hp} {l : Addr} (hl : H l = none) (s : Same H H1) (k : Kp l H1 H') : Same H H' := fun p o e => k p o (ne_of_none e hl) (s p o e)
theorem steps_ask {q la : Addr} {rows xs : List It2} {p g : Nat} {H : Hp} {Q : VK} (hB : BodyAt H q rows) (hL : LayAt H la xs) (hr : rows.length ≤ 100) (hn : xs.length + (g - p) ≤ 900) (k : ∀ x H', OLay H' x (aft rows p g xs) → Same H H' → Q x H') : spStepsB (.ref q) (.int p) (.ref la) (.int g) H Q :=
  ⟨q, la, rows, xs, p, g, rfl, hB, hr, rfl, rfl, hL, rfl, hn, fun e H' s => k _ H' (by rw [e]; rfl) s, fun ys e l' H' h s => k _ H' (by rw [e]; exact ⟨l', rfl, h⟩) s⟩
theorem due_ask {q l : Addr} {rows xs : List It2} {p g : Nat} {H : Hp} {Q : VK} (hB : BodyAt H q rows) (hL : PileAt H l xs) (hr : rows.length ≤ 100) (hg : g < rows.length) (hn : xs.length + (g - p) ≤ 800) (k : ∀ x H', OLay H' x (aft rows p g xs) → Kp l H H' → Q x H') : spDueB (.ref q) (.int p) (.ref l) (.int g) H Q :=
  ⟨q, l, rows, xs, p, g, rfl, hB, hr, rfl, rfl, hL, rfl, hg, hn, fun e H' s => k _ H' (by rw [e]; rfl) s, fun ys e l' H' h s => k _ H' (by rw [e]; exact ⟨l', rfl, h⟩) s⟩
theorem items_ask {l l8 : Addr} {xs : List It2} {its : List (Addr × It2)} {H : Hp} {Q : VK} (hL : LayAt H l xs) (hn : xs.length ≤ 1000) (h8 : H l8 = some (.lst (its.map fun z => V.ref z.1))) (n8 : its.length = 8) (hi : ∀ z ∈ its, H z.1 = some (.tup [.str z.2.1, .int z.2.2])) (k : ∀ r H', LayAt H' r (xs.map (subI (its.map (·.2)))) → Same H H' → Q (.ref r) H') : spItemsB (.ref l) (.ref l8) H Q :=
  ⟨l, l8, xs, its, rfl, rfl, hL, hn, h8, n8, hi, k⟩
theorem same_ask {x y : V} {o : Option (List It2)} {H : Hp} {Q : VK} (h1 : OLay H x o) (h2 : OLay H y o) (hn : ∀ xs, o = some xs → xs.length ≤ 1000) (k : Q (.bl true) H) : spSameB x y H Q := ⟨o, h1, h2, hn, k⟩
def LI (b D : Addr) (H1 : Hp) (i : Nat) (H : Hp) : Prop := ∃ zs : List (Addr × It2), zs.length = i ∧ H D = some (.lst (zs.map fun z => V.ref z.1)) ∧ (∀ z ∈ zs, H z.1 = some (.tup [.str z.2.1, .int z.2.2]) ∧ z.1 ≠ b ∧ z.1 ≠ D) ∧ BagAt H b ∧ Kb b H1 H

theorem ok_law (M : TX K mg w) : FnOk P w K mg base (L2.CX P w) 5 M.f_law M.d_law ["_law_script"] (spLaw K) := by
  have sc := sc_law
  refine M.F_law.okX sc (fun vs H Q E h => Sp1_len h) (fun cdv A outer s H vs Q E hr h => ?_)
  obtain ⟨x0, rfl, h⟩ := h
  have hu := hu_of hr
  have hu64 := hr.units
  refine ⟨_, (pss_cons (ps_set (i := 1) sc.nd rfl (Or.inr rfl) (pe_call (ok__law_bag M) (hr.mono (by decide)) rfl M.g__law_bag M.F__law_bag.kp M.b__law_bag .nil (passE rfl rfl rfl rfl) (pa_cons (pv 0) pa_nil)))
    (pss_cons (ps_for (passes_of rfl) rfl (pi_range1 rfl M.n_range (pa_cons pe_int pa_nil)) (pg_name (i := 2) sc.nd rfl (Or.inl rfl))
      (pss_cons (ps_set (i := 3) sc.nd rfl (Or.inl rfl) (pe_call (ok__law_body M) (hr.mono (by decide)) rfl M.g__law_body M.F__law_body.kp M.b__law_body .nil (passE rfl rfl rfl rfl) (pa_cons (pv 1) pa_nil)))
      (pss_cons (ps_set (i := 4) sc.nd rfl (Or.inl rfl) (pe_callTy (call_tupleK K) (by rfl) M.n_tuple (by decide +kernel) (pa_cons (pe_lc (own := [("_law_n", 14)]) (g := gName 14) (tt := tYes) (by rfl) sc.nd (pi_range1 rfl M.n_range (pa_cons (pe_call (ok__law_choice M) (hr.mono (by decide)) rfl M.g__law_choice M.F__law_choice.kp M.b__law_choice .nil passL (pa_cons (pv 1) (pa_cons (pe_lst (pa_cons pe_int (pa_cons pe_int (pa_cons pe_int (pa_cons pe_int (pa_cons pe_int (pa_cons pe_int (pa_cons pe_int pa_nil)))))))) pa_nil))) pa_nil)) (blkOk_by (own := [("_law_n", 14)]) (N := ["_law_script", "_law_bag_here", "_law_k", "_law_body_here", "_law_layout", "_law_ends", "_law_place", "_law_goal", "_law_due_here", "_law_told", "_law_between", "_law_first", "_law_items_here", "_law_lent", "_law_n"]) (sc := defScope s_law) (by decide +kernel)) (fun _ _ _ _ _ => pg_name (i := 14) sc.nd rfl (Or.inl rfl)) (fun _ _ _ _ _ => pts_nil) (fun _ _ _ _ _ => (pe_call (ok__law_source M) (hr.mono (by decide)) rfl M.g__law_source M.F__law_source.kp M.b__law_source .nil passL (pa_cons (pv 1) pa_nil)))) pa_nil)))
      (pss_cons (ps_set (i := 5) sc.nd rfl (Or.inl rfl) (pe_lst (pa_cons (pe_call (ok__law_pick M) (hr.mono (by decide)) rfl M.g__law_pick M.F__law_pick.kp M.b__law_pick .nil (passE rfl rfl rfl rfl) (pa_cons (pv 1) (pa_cons (pe_callB (call_lenK K) (by rfl) M.n_len PySem.boot_len (pa_cons (pv 3) pa_nil)) pa_nil))) (pa_cons (pe_call (ok__law_pick M) (hr.mono (by decide)) rfl M.g__law_pick M.F__law_pick.kp M.b__law_pick .nil (passE rfl rfl rfl rfl) (pa_cons (pv 1) (pa_cons (pe_callB (call_lenK K) (by rfl) M.n_len PySem.boot_len (pa_cons (pv 3) pa_nil)) pa_nil))) pa_nil))))
      (pss_cons (ps_set (i := 6) sc.nd rfl (Or.inl rfl) (pe_callB (cr_minLK K) (by rfl) M.n_min (by decide +kernel) (pa_cons (pv 5) pa_nil)))
      (pss_cons (ps_set (i := 7) sc.nd rfl (Or.inl rfl) (pe_ifExp (pt_cmpR op_eq (pe_call (ok__law_pick M) (hr.mono (by decide)) rfl M.g__law_pick M.F__law_pick.kp M.b__law_pick .nil (passE rfl rfl rfl rfl) (pa_cons (pv 1) (pa_cons pe_int pa_nil))) pe_int (nomark _)) (pe_callB (call_min2 rfl) (by rfl) M.n_min (by decide +kernel) (pa_cons (pe_op op_sub (pe_callB (call_lenK K) (by rfl) M.n_len PySem.boot_len (pa_cons (pv 3) pa_nil)) pe_int) (pa_cons (pe_op op_add (pv 6) (pe_call (ok__law_pick M) (hr.mono (by decide)) rfl M.g__law_pick M.F__law_pick.kp M.b__law_pick .nil (passE rfl rfl rfl rfl) (pa_cons (pv 1) (pa_cons pe_int pa_nil)))) pa_nil))) (pe_callB (cr_maxLK K) (by rfl) M.n_max (by decide +kernel) (pa_cons (pv 5) pa_nil))))
      (pss_cons (ps_if (pt_cmpR op_eq (pe_call (ok__law_pick M) (hr.mono (by decide)) rfl M.g__law_pick M.F__law_pick.kp M.b__law_pick .nil (passE rfl rfl rfl rfl) (pa_cons (pv 1) (pa_cons pe_int pa_nil))) pe_int (nomark _))
        (pss_cons (ps_set (i := 6) sc.nd rfl (Or.inl rfl) (pe_callB (cr_maxLK K) (by rfl) M.n_max (by decide +kernel) (pa_cons (pv 5) pa_nil)))
        (pss_one (ps_set (i := 7) sc.nd rfl (Or.inl rfl) (pe_callB (cr_minLK K) (by rfl) M.n_min (by decide +kernel) (pa_cons (pv 5) pa_nil)))))
        pss_nil)
      (pss_cons (ps_set (i := 8) sc.nd rfl (Or.inl rfl) (pe_call (ok__law_due M) (hr.mono (by decide)) rfl M.g__law_due M.F__law_due.kp M.b__law_due .nil (passE rfl rfl rfl rfl) (pa_cons (pv 3) (pa_cons (pv 6) (pa_cons (pe_callTy (call_listK K) (by rfl) M.n_list (by decide +kernel) (pa_cons (pv 4) pa_nil)) (pa_cons (pv 7) pa_nil))))))
      (pss_cons (ps_set (i := 9) sc.nd rfl (Or.inl rfl) (pe_call (ok_after_steps M) (hr.mono (by decide)) rfl M.g_after_steps M.F_after_steps.kp M.b_after_steps .nil (passE rfl rfl rfl rfl) (pa_cons (pv 3) (pa_cons (pv 6) (pa_cons (pv 4) (pa_cons (pv 7) pa_nil))))))
      (pss_cons (ps_if (PW.pt (pw_or (pt_not (pt_val (pe_call (ok__law_same M) (hr.mono (by decide)) rfl M.g__law_same M.F__law_same.kp M.b__law_same .nil (passE rfl rfl rfl rfl) (pa_cons (pv 9) (pa_cons (pv 8) pa_nil))))) (pw_or1 (pt_not (pt_val (pe_call (ok__law_same M) (hr.mono (by decide)) rfl M.g__law_same M.F__law_same.kp M.b__law_same .nil (passE rfl rfl rfl rfl) (pa_cons (pe_call (ok_after_steps M) (hr.mono (by decide)) rfl M.g_after_steps M.F_after_steps.kp M.b_after_steps .nil (passE rfl rfl rfl rfl) (pa_cons (pv 3) (pa_cons (pv 7) (pa_cons (pv 4) (pa_cons (pv 7) pa_nil))))) (pa_cons (pv 4) pa_nil))))))))
        (pss_one (ps_ret pe_bl))
        pss_nil)
      (pss_cons (ps_set (i := 10) sc.nd rfl (Or.inl rfl) (pe_op op_add (pv 6) (pe_call (ok__law_pick M) (hr.mono (by decide)) rfl M.g__law_pick M.F__law_pick.kp M.b__law_pick .nil (passE rfl rfl rfl rfl) (pa_cons (pv 1) (pa_cons (pe_callB (call_max2 rfl) (by rfl) M.n_max (by decide +kernel) (pa_cons pe_int (pa_cons (pe_op op_add (pe_op op_sub (pv 7) (pv 6)) pe_int) pa_nil))) pa_nil)))))
      (pss_cons (ps_set (i := 11) sc.nd rfl (Or.inl rfl) (pe_call (ok_after_steps M) (hr.mono (by decide)) rfl M.g_after_steps M.F_after_steps.kp M.b_after_steps .nil (passE rfl rfl rfl rfl) (pa_cons (pv 3) (pa_cons (pv 6) (pa_cons (pv 4) (pa_cons (pv 10) pa_nil))))))
      (pss_cons (ps_if (pt_not (pt_val (pe_call (ok__law_same M) (hr.mono (by decide)) rfl M.g__law_same M.F__law_same.kp M.b__law_same .nil (passE rfl rfl rfl rfl) (pa_cons (pv 11) (pa_cons (pe_call (ok__law_due M) (hr.mono (by decide)) rfl M.g__law_due M.F__law_due.kp M.b__law_due .nil (passE rfl rfl rfl rfl) (pa_cons (pv 3) (pa_cons (pv 6) (pa_cons (pe_callTy (call_listK K) (by rfl) M.n_list (by decide +kernel) (pa_cons (pv 4) pa_nil)) (pa_cons (pv 10) pa_nil))))) pa_nil)))))
        (pss_one (ps_ret pe_bl))
        pss_nil)
      (pss_cons (ps_if (PW.pt (pw_and (pt_cmpR op_notN (pv 8) pe_non (nomark _)) (pw_and1 (pt_not (pt_val (pe_call (ok__law_same M) (hr.mono (by decide)) rfl M.g__law_same M.F__law_same.kp M.b__law_same .nil (passE rfl rfl rfl rfl) (pa_cons (pe_call (ok_after_steps M) (hr.mono (by decide)) rfl M.g_after_steps M.F_after_steps.kp M.b_after_steps .nil (passE rfl rfl rfl rfl) (pa_cons (pv 3) (pa_cons (pv 10) (pa_cons (pv 11) (pa_cons (pv 7) pa_nil))))) (pa_cons (pv 8) pa_nil))))))))
        (pss_one (ps_ret pe_bl))
        pss_nil)
      (pss_cons (ps_setLc (i := 12) (own := [("_law_n", 14)]) (g := gName 14) (tt := tYes) (by rfl) sc.nd rfl rfl (sw_true rfl rfl rfl (by decide +kernel)) (pi_range1 rfl M.n_range (pa_cons pe_int pa_nil)) (blkOk_by (own := [("_law_n", 14)]) (N := ["_law_script", "_law_bag_here", "_law_k", "_law_body_here", "_law_layout", "_law_ends", "_law_place", "_law_goal", "_law_due_here", "_law_told", "_law_between", "_law_first", "_law_items_here", "_law_lent", "_law_n"]) (sc := defScope s_law) (by decide +kernel)) (fun _ _ _ _ _ => pg_name (i := 14) sc.nd rfl (Or.inl rfl)) (fun _ _ _ _ _ => pts_nil) (fun _ _ _ _ _ => (pe_tup (pa_cons pe_str (pa_cons (pe_op op_add (pe_op op_add pe_int (pe_call (ok__law_pick M) (hr.mono (by decide)) rfl M.g__law_pick M.F__law_pick.kp M.b__law_pick .nil passL (pa_cons (pv 1) (pa_cons pe_int pa_nil)))) (pe_op op_mul pe_int (pv 14))) pa_nil)))))
      (pss_cons (ps_set (i := 13) sc.nd rfl (Or.inl rfl) (pe_call (ok_after_steps M) (hr.mono (by decide)) rfl M.g_after_steps M.F_after_steps.kp M.b_after_steps .nil (passE rfl rfl rfl rfl) (pa_cons (pv 3) (pa_cons (pv 6) (pa_cons (pe_call (ok__law_items M) (hr.mono (by decide)) rfl M.g__law_items M.F__law_items.kp M.b__law_items .nil (passE rfl rfl rfl rfl) (pa_cons (pv 4) (pa_cons (pv 12) pa_nil))) (pa_cons (pv 7) pa_nil))))))
      (pss_cons (ps_if (PW.pt (pw_or (pt_cmpR op_ne (pe_cmpR op_isN (pv 13) pe_non (nomark _)) (pe_cmpR op_isN (pv 8) pe_non (nomark _)) (nomark _)) (pw_or1 (PW.pt (pw_and (pt_cmpR op_notN (pv 8) pe_non (nomark _)) (pw_and1 (pt_cmpR (op_nePK K hu64) (pv 13) (pe_call (ok__law_items M) (hr.mono (by decide)) rfl M.g__law_items M.F__law_items.kp M.b__law_items .nil (passE rfl rfl rfl rfl) (pa_cons (pv 8) (pa_cons (pv 12) pa_nil))) (nomark _))))))))
        (pss_one (ps_ret pe_bl))
        pss_nil)
      (pss_one (ps_if (pt_not (pt_val (pe_call (ok__law_same M) (hr.mono (by decide)) rfl M.g__law_same M.F__law_same.kp M.b__law_same .nil (passE rfl rfl rfl rfl) (pa_cons (pe_call (ok_after_steps M) (hr.mono (by decide)) rfl M.g_after_steps M.F_after_steps.kp M.b_after_steps .nil (passE rfl rfl rfl rfl) (pa_cons (pv 3) (pa_cons (pv 6) (pa_cons (pv 4) (pa_cons (pv 7) pa_nil))))) (pa_cons (pv 8) pa_nil)))))
        (pss_one (ps_ret pe_bl))
        pss_nil)))))))))))))))))))
    (pss_one (ps_ret pe_bl)))), ?_⟩

  obtain ⟨a, ns, rfl, hS, hl, k⟩ := h
  refine ⟨_, rfl, _, rfl, a, ns, rfl, hS, hl, fun b H1 hb B s1 => ?_⟩
  refine ⟨3, rfl, by decide, by decide, ?_⟩
  refine for_range (lo := 0) (n := 3) (fun i σ H' => ∃ v2 v3 v4 v5 v6 v7 v8 v9 v10 v11 v12 v13 v14, σ = [some (.ref a), some (.ref b), v2, v3, v4, v5, v6, v7, v8, v9, v10, v11, v12, v13, v14] ∧ BagAt H' b) ⟨none, none, none, none, none, none, none, none, none, none, none, none, none, rfl, B⟩ ?_ ?_
  · rintro i σ H0 hi ⟨v2, v3, v4, v5, v6, v7, v8, v9, v10, v11, v12, v13, v14, rfl, B0⟩
    clear B s1 hb hS hl
    refine seq_gen fun R1 r1 => ?_
    refine ⟨_, rfl, _, rfl, b, rfl, B0, fun q rows H1 hB1 hr0 hr1 nq B1 k1 => ?_⟩
    refine r1 _ _ ?_
    clear r1 R1
    refine seq_gen fun R2 r2 => ?_
    refine ⟨_, rfl, Nat.le_of_ble_eq_true rfl, fun lc hlc => ?_⟩
    refine alloc_gen hlc fun H2 s2 hlc2 => ?_
    have B2 := B1.same s2
    refine ⟨_, _, rfl, b, lc, _, rfl, rfl, hlc2, Nat.le_of_ble_eq_true rfl, Nat.le_of_ble_eq_true rfl, B2.ne_lst hlc2, B2, fun j v H3 hj B3 k3 => ?_⟩
    obtain ⟨c, rfl, hc⟩ : ∃ c : Nat, v = V.int c ∧ c ≤ 12 := by
      have mm := List.mem_of_getElem? hj
      simp only [List.mem_cons, List.not_mem_nil, or_false] at mm
      rcases mm with rfl | rfl | rfl | rfl | rfl | rfl | rfl
      · exact ⟨0, rfl, by decide⟩
      · exact ⟨1, rfl, by decide⟩
      · exact ⟨2, rfl, by decide⟩
      · exact ⟨3, rfl, by decide⟩
      · exact ⟨4, rfl, by decide⟩
      · exact ⟨5, rfl, by decide⟩
      · exact ⟨12, rfl, by decide⟩
    have hB3 := (hB1.same s2).kb B2 k3
    clear hj hlc2 hlc
    refine ⟨(c : Int), rfl, by omega, by omega, fun D hD => ?_⟩
    obtain ⟨ob, hob⟩ := B3.some
    have nD : D ≠ b := (ne_of_none hob hD).symm
    refine lc_range (lo := 0) (n := c) (LI b D H3) ⟨[], rfl, upd_same, fun w hw => (by cases hw), B3.put hD, Kb.put Kb.refl hD⟩ ?_ ?_
    · rintro i HH hi' ⟨zs, hzl, hzs, hzi, BH, kH⟩
      refine ⟨rfl, tYes_i (iteT ?_)⟩
      refine ⟨_, rfl, _, rfl, b, rfl, BH, fun t op ar H5 _ _ hin nt B5 k5 => ?_⟩
      have hD5 := k5 _ _ nD hzs
      have ntD : t ≠ D := ne_of hin hD5 (by intro z; cases z)
      have kk := kH.trans k5
      refine ⟨_, hD5, by rw [List.length_map, sizeLine_eq]; omega, zs ++ [(t, op, ar)], by rw [List.length_append, hzl]; rfl, by rw [List.map_append]; exact upd_same, fun w hw => ?_, B3.fresh hD kk B5, Kb.put kk hD⟩
      rcases List.mem_append.mp hw with hw | hw
      · obtain ⟨i1, i3, i4⟩ := hzi w hw
        exact ⟨by rw [upd_ne i4]; exact k5 _ _ i3 i1, i3, i4⟩
      · rw [List.mem_singleton.mp hw]
        exact ⟨by rw [upd_ne ntD]; exact hin, nt, ntD⟩
    · rintro HH ⟨zs, hzl, hzs, hzi, BH, kH⟩
      refine ⟨D, _, rfl, .inl ⟨SqL.of hzs, fun la hla => ?_⟩⟩
      refine alloc_gen hla fun H4 s4 hla4 => ?_
      have B4 := BH.same s4
      have hB4 := (hB3.kb B3 kH).same s4
      have hL4 : LayAt H4 la (zs.map (·.2)) := ⟨zs, hla4, fun z hz => s4 _ _ (hzi z hz).1, rfl⟩
      have hxs : (zs.map (·.2)).length ≤ 12 := by rw [List.length_map]; omega
      generalize zs.map (·.2) = xs at hL4 hxs
      refine r2 _ _ ?_
      clear r2 R2 hzs hzi BH kH hla4 s4 hla hD hob nD hB3 B3 k3 B2 s2 hB1 B1 k1 B0 nq
      refine seq_gen fun R3 r3 => ?_
      obtain ⟨ws, hq, hw, er⟩ := id hB4
      have hwl : ws.length = rows.length := by rw [er, List.length_map]
      have hqn := B4.ne_tup hq
      refine ⟨_, rfl, _, rfl, _, _, rfl, .inr (SqT.of hq), _, _, rfl, b, _, rfl, rfl, by rw [List.length_map]; omega, by rw [List.length_map]; omega, B4, fun p1 H5 p10 p11 B5 k5 => ?_⟩
      have hq5 := k5 _ _ hqn hq
      refine ⟨_, rfl, _, rfl, _, _, rfl, .inr (SqT.of hq5), _, _, rfl, b, _, rfl, rfl, by rw [List.length_map]; omega, by rw [List.length_map]; omega, B5, fun p2 H6 p20 p21 B6 k6 => ?_⟩
      rw [List.length_map, hwl] at p11 p21
      refine ⟨Nat.le_of_ble_eq_true rfl, fun le hle => ?_⟩
      refine alloc_gen hle fun H7 s7 hle7 => ?_
      have B7 := B6.same s7
      have k7 := (k5.trans k6).trans (Kb.of s7)
      have hB7 := hB4.kb B4 k7
      have hL7 := hL4.kb B4 k7
      refine r3 _ _ ?_
      clear r3 R3 k7 s7 hle B6 k6 B5 k5 hq5 hqn hB4 hL4 B4 hw hq er hwl ws
      have hm : ∀ m : Int, m ∈ [p1, p2] → 0 ≤ m ∧ m < rows.length := fun m hm => by
        simp only [List.mem_cons, List.not_mem_nil, or_false] at hm
        rcases hm with rfl | rfl <;> omega
      have hle7 : H7 le = some (.lst ([p1, p2].map V.int)) := hle7
      have hps : 0 < [p1, p2].length := Nat.zero_lt_succ _
      generalize [p1, p2] = ps at hm hle7 hps
      have nle := B7.ne_lst hle7
      clear p11 p21 p10 p20
      refine seq_gen fun R4 r4 => ?_
      refine ⟨_, rfl, le, ps, rfl, SqL.of hle7, hps, fun m0 hm0 _ => ?_⟩
      refine r4 _ _ ?_
      clear r4 R4
      obtain ⟨p, rfl⟩ : ∃ p : Nat, m0 = p := ⟨m0.toNat, by have := hm _ hm0; omega⟩
      have hp : p < rows.length := by have := hm _ hm0; omega
      refine seq_gen fun R5 r5 => ?_
      have key5 : ∀ (g : Nat) (HH : Hp), g < rows.length → BagAt HH b → Kb b H7 HH → R5 [some (.ref a), some (.ref b), some (.int (0 + (i : Int))), some (.ref q), some (.ref la), some (.ref le), some (.int p), some (.int g), v8, v9, v10, v11, v12, v13, v14] HH := by
        intro g HH hg BH kH
        refine r5 _ _ ?_
        clear r5 R5
        have hleH := kH _ _ nle hle7
        have hBH := hB7.kb B7 kH
        have hLH := hL7.kb B7 kH
        clear hle7 hB7 hL7 B7 kH
        refine seq_gen fun R6 r6 => ?_
        have key6 : ∀ (p g : Nat) (HH : Hp), p < rows.length → g < rows.length → BagAt HH b → BodyAt HH q rows → LayAt HH la xs → R6 [some (.ref a), some (.ref b), some (.int (0 + (i : Int))), some (.ref q), some (.ref la), some (.ref le), some (.int p), some (.int g), v8, v9, v10, v11, v12, v13, v14] HH := by
          clear hp hg BH hBH hLH hleH
          intro p g HH hp hg BH hBH hLH
          refine r6 _ _ ?_
          clear r6 R6
          have hn1 : ∀ t : Nat, t < rows.length → xs.length + (t - p) ≤ 100 := fun t ht => by omega
          have hob : ∀ {p : Nat} (t : Nat) (zs : List It2), t < rows.length → aft rows p t xs = some zs → zs.length ≤ 1000 := fun t zs ht e => by
            have := (aft_len e).2
            omega
          refine seq_gen fun R7 r7 => ?_
          obtain ⟨zs, hla, hzs, exs⟩ := id hLH
          refine ⟨_, rfl, _, rfl, _, rfl, la, _, rfl, .inr (SqT.of hla), fun lp hlp => ?_⟩
          refine alloc_gen hlp fun H8 s8 hlp8 => ?_
          refine ⟨_, rfl, _, _, _, _, rfl, due_ask (hBH.same s8) ⟨zs, hlp8, fun z hz => s8 _ _ (hzs z hz), exs⟩ (by omega) hg (by have := hn1 g hg; omega) fun due H9 hdue kd => ?_⟩
          have s9 := Kp.old hlp s8 kd
          refine r7 _ _ ?_
          clear r7 R7 kd hlp8 s8 hlp hla hzs exs zs
          have B9 := BH.same s9
          have hB9 := hBH.same s9
          have hL9 := hLH.same s9
          clear s9 BH hBH hLH
          refine seq_gen fun R8 r8 => ?_
          refine ⟨_, rfl, _, rfl, _, rfl, _, rfl, _, _, _, _, rfl, steps_ask hB9 hL9 (by omega) (by have := hn1 g hg; omega) fun told H10 htold s10 => ?_⟩
          refine r8 _ _ ?_
          clear r8 R8
          have hdue := hdue.same s10
          have B10 := B9.same s10
          have hB10 := hB9.same s10
          have hL10 := hL9.same s10
          clear s10 B9 hB9 hL9
          refine seq_gen fun R9 r9 => ?_
          refine ⟨_, rfl, _, rfl, _, _, rfl, same_ask htold hdue (fun zs e => hob g zs hg e) ⟨true, rfl, ?_⟩⟩
          refine ⟨_, rfl, _, rfl, _, rfl, _, rfl, _, _, _, _, rfl, steps_ask hB10 hL10 (by omega) (by omega) fun x H11 hx s11 => ?_⟩
          rw [aft_self] at hx
          refine ⟨_, rfl, _, _, rfl, same_ask hx ⟨la, rfl, hL10.same s11⟩ (fun zs e => by cases e; omega) ⟨true, rfl, ?_⟩⟩
          refine r9 _ _ ?_
          clear r9 R9 hx htold
          have hdue := hdue.same s11
          have B11 := B10.same s11
          have hB11 := hB10.same s11
          have hL11 := hL10.same s11
          clear s11 B10 hB10 hL10
          clear nle hm hps
          refine seq_gen fun R10 r10 => ?_
          refine ⟨_, rfl, _, rfl, _, rfl, _, rfl, _, _, rfl, rfl, _, _, rfl, rfl, _, _, rfl, _, _, rfl, b, _, rfl, rfl, by split <;> omega, by split <;> omega, B11, fun y H12 y0 y1 B12 k12 => ?_⟩
          refine ⟨_, _, rfl, rfl, ?_⟩
          obtain ⟨t, e, ht, hpt, htg⟩ : ∃ t : Nat, (p : Int) + y = t ∧ t < rows.length ∧ p ≤ t ∧ (p ≤ g → t ≤ g) := by
            refine ⟨p + y.toNat, by omega, ?_, by omega, fun c => ?_⟩
            · split at y1 <;> omega
            · split at y1 <;> omega
          suffices hh : R10 [some (.ref a), some (.ref b), some (.int (0 + (i : Int))), some (.ref q), some (.ref la), some (.ref le), some (.int p), some (.int g), some due, some told, some (.int t), v11, v12, v13, v14] H12 by
            rw [← e] at hh
            exact hh
          refine r10 _ _ ?_
          clear r10 R10 e y0 y1
          have hdue := hdue.kb B11 k12
          have hB12 := hB11.kb B11 k12
          have hL12 := hL11.kb B11 k12
          clear k12 B11 hB11 hL11
          refine seq_gen fun R11 r11 => ?_
          refine ⟨_, rfl, _, rfl, _, rfl, _, rfl, _, _, _, _, rfl, steps_ask hB12 hL12 (by omega) (by have := hn1 t ht; omega) fun first H13 hfirst s13 => ?_⟩
          refine r11 _ _ ?_
          clear r11 R11
          have hdue := hdue.same s13
          have B13 := B12.same s13
          have hB13 := hB12.same s13
          have hL13 := hL12.same s13
          clear s13 B12 hB12 hL12
          refine seq_gen fun R12 r12 => ?_
          obtain ⟨zs, hla, hzs, exs⟩ := id hL13
          refine ⟨_, rfl, _, rfl, _, rfl, _, rfl, la, _, rfl, .inr (SqT.of hla), fun lp hlp => ?_⟩
          refine alloc_gen hlp fun H14 s14 hlp14 => ?_
          refine ⟨_, rfl, _, _, _, _, rfl, due_ask (hB13.same s14) ⟨zs, hlp14, fun z hz => s14 _ _ (hzs z hz), exs⟩ (by omega) ht (by have := hn1 t ht; omega) fun x H15 hx kd => ?_⟩
          have s15 := Kp.old hlp s14 kd
          refine ⟨_, _, rfl, same_ask (hfirst.same s15) hx (fun zs e => hob t zs ht e) ⟨true, rfl, ?_⟩⟩
          refine r12 _ _ ?_
          clear r12 R12 kd hlp14 s14 hlp hla hzs exs zs hx
          have hdue := hdue.same s15
          have hfirst := hfirst.same s15
          have B15 := B13.same s15
          have hB15 := hB13.same s15
          have hL15 := hL13.same s15
          clear s15 B13 hB13 hL13
          refine seq_gen fun R13 r13 => ?_
          have key13 : ∀ HH, Same H15 HH → R13 [some (.ref a), some (.ref b), some (.int (0 + (i : Int))), some (.ref q), some (.ref la), some (.ref le), some (.int p), some (.int g), some due, some told, some (.int t), some first, v12, v13, v14] HH := by
            intro H16 s16
            refine r13 _ _ ?_
            clear r13 R13 hfirst
            have hdue := hdue.same s16
            have B16 := B15.same s16
            have hB16 := hB15.same s16
            have hL16 := hL15.same s16
            clear s16 B15 hB15 hL15
            refine seq_gen fun R14 r14 => ?_
            refine ⟨8, rfl, by decide, by decide, fun D2 hD2 => ?_⟩
            obtain ⟨ob, hob2⟩ := B16.some
            have nD2 : D2 ≠ b := (ne_of_none hob2 hD2).symm
            refine lc_range (lo := 0) (n := 8) (LI b D2 H16) ⟨[], rfl, upd_same, fun w hw => (by cases hw), B16.put hD2, Kb.put Kb.refl hD2⟩ ?_ ?_
            · rintro n HH hn ⟨zs, hzl, hzs, hzi, BH, kH⟩
              refine ⟨rfl, tYes_i (iteT ?_)⟩
              walk_at "rd"
              intro y H5 y0 y1 B5 k5
              walk_at "rd"
              intro t2 ht2
              refine alloc_gen ht2 fun H6 s6 ht6 => ?_
              have B6 := B5.same s6
              have hD6 := s6 _ _ (k5 _ _ nD2 hzs)
              have nb6 := B6.ne_tup ht6
              have ntD : t2 ≠ D2 := ne_of ht6 hD6 (by intro z; cases z)
              have kk := kH.trans (k5.trans (Kb.of s6))
              refine ⟨_, hD6, by rw [List.length_map, sizeLine_eq]; omega, zs ++ [(t2, ("lit" : Str), 5000 + y + 100 * (0 + (n : Int)))], by rw [List.length_append, hzl]; rfl, by rw [List.map_append]; exact upd_same, fun w hw => ?_, B16.fresh hD2 kk B6, Kb.put kk hD2⟩
              rcases List.mem_append.mp hw with hw | hw
              · obtain ⟨i1, i3, i4⟩ := hzi w hw
                exact ⟨by rw [upd_ne i4]; exact s6 _ _ (k5 _ _ i3 i1), i3, i4⟩
              · rw [List.mem_singleton.mp hw]
                exact ⟨by rw [upd_ne ntD]; exact ht6, nb6, ntD⟩
            · rintro HH ⟨its, n8, hits, hit, BH, kH⟩
              refine r14 _ _ ?_
              clear r14 R14
              have hdue := hdue.kb B16 kH
              have hBH := hB16.kb B16 kH
              have hLH := hL16.kb B16 kH
              have hit : ∀ z ∈ its, HH z.1 = some (.tup [.str z.2.1, .int z.2.2]) := fun z hz => (hit z hz).1
              clear kH B16 hB16 hL16 hob2 hD2 nD2
              refine seq_gen fun R15 r15 => ?_
              refine ⟨_, rfl, _, rfl, _, rfl, _, rfl, _, _, rfl, items_ask hLH (by omega) hits n8 hit fun r5 H17 hr5 s17 => ?_⟩
              refine ⟨_, rfl, _, _, _, _, rfl, steps_ask (hBH.same s17) hr5 (by omega) (by rw [List.length_map]; have := hn1 g hg; omega) fun lent H18 hlent s18 => ?_⟩
              rw [aft_map (subI_src _)] at hlent
              refine r15 _ _ ?_
              clear r15 R15 hr5
              have s1718 := s17.trans s18
              have hdue := hdue.same s1718
              have BH := BH.same s1718
              have hBH := hBH.same s1718
              have hLH := hLH.same s1718
              have hits := s1718 _ _ hits
              have hit : ∀ z ∈ its, H18 z.1 = some (.tup [.str z.2.1, .int z.2.2]) := fun z hz => s1718 _ _ (hit z hz)
              clear s17 s18 s1718
              refine seq_gen fun R16 r16 => ?_
              have key16 : ∀ HH, Same H18 HH → R16 [some (.ref a), some (.ref b), some (.int (0 + (i : Int))), some (.ref q), some (.ref la), some (.ref le), some (.int p), some (.int g), some due, some told, some (.int t), some first, some (.ref D2), some lent, v14] HH := by
                intro H19 s19
                refine r16 _ _ ?_
                clear r16 R16 hlent
                have hdue := hdue.same s19
                have BH := BH.same s19
                have hBH := hBH.same s19
                have hLH := hLH.same s19
                refine ⟨_, rfl, _, rfl, _, rfl, _, rfl, _, _, _, _, rfl, steps_ask hBH hLH (by omega) (by have := hn1 g hg; omega) fun x H20 hx s20 => ?_⟩
                refine ⟨_, rfl, _, _, rfl, same_ask hx (hdue.same s20) (fun zs e => hob g zs hg e) ⟨true, rfl, ?_⟩⟩
                exact ⟨_, _, _, _, _, _, _, _, _, _, _, _, _, rfl, BH.same s20⟩
              clear r16
              cases e : aft rows p g xs with
              | none =>
                rw [e] at hdue hlent
                cases hdue
                cases hlent
                refine ⟨_, rfl, rfl, _, rfl, rfl, rfl, _, rfl, ?_⟩
                refine iteNDF rfl ?_
                exact ⟨_, rfl, rfl, _, rfl, key16 _ (Same.refl _)⟩
              | some ys =>
                have hlys := hob g ys hg e
                rw [e] at hdue hlent
                obtain ⟨l1, rfl, hl1⟩ := hlent
                obtain ⟨l2, rfl, hl2⟩ := hdue
                refine ⟨_, rfl, rfl, _, rfl, rfl, rfl, _, rfl, ?_⟩
                refine iteNDF rfl ?_
                refine ⟨_, rfl, rfl, _, rfl, ?_⟩
                refine iteNDT (fun z => by cases z) ?_
                refine ⟨_, rfl, _, rfl, _, rfl, _, _, rfl, items_ask hl2 hlys hits n8 hit fun r5 H19 hr5 s19 => ?_⟩
                refine ⟨_, _, (hl1.same s19).dp, hr5.dp, (dLay_ok _).1, (dLay_ok _).1, (dLay_ok _).2, _, rfl, ?_⟩
                refine ite_neP (dLay_ok _).1 ?_
                exact key16 _ s19
          clear r13
          cases e : aft rows p g xs with
          | none =>
            rw [e] at hdue
            cases hdue
            exact ⟨_, rfl, rfl, _, rfl, key13 _ (Same.refl _)⟩
          | some ys =>
            have hpg := (aft_len e).1
            have hlys := hob g ys hg e
            rw [aft_split hpt (htg hpg)] at e
            rw [aft_split hpt (htg hpg), e] at hdue
            cases e1 : aft rows p t xs with
            | none => rw [e1] at e; cases e
            | some zs =>
              rw [e1] at e
              have e : aft rows t g zs = some ys := e
              have hlz := (aft_len e1).2
              rw [e1] at hfirst
              obtain ⟨l1, rfl, hl1⟩ := hfirst
              obtain ⟨l2, rfl, hl2⟩ := hdue
              refine ⟨_, rfl, rfl, _, rfl, ?_⟩
              refine iteNDT (fun z => by cases z) ?_
              refine ⟨_, rfl, _, rfl, _, rfl, _, rfl, _, _, _, _, rfl, steps_ask hB15 hl1 (by omega) (by omega) fun x H16 hx s16 => ?_⟩
              rw [e] at hx
              refine ⟨_, rfl, _, _, rfl, same_ask hx ⟨l2, rfl, hl2.same s16⟩ (fun zs e => by cases e; omega) ⟨true, rfl, ?_⟩⟩
              exact key13 _ s16
        clear r6
        walk_at "rd"
        intro x H8 x0 x1 B8 k8
        walk_at "rd"
        have hB8 := hBH.kb BH k8
        have hL8 := hLH.kb BH k8
        have hle8 := k8 _ _ nle hleH
        refine iteD (fun c => ?_) (fun c => ?_)
        · refine ⟨_, rfl, le, ps, rfl, SqL.of hle8, hps, fun m1 hm1 _ => ?_⟩
          obtain ⟨p1, rfl⟩ : ∃ p : Nat, m1 = p := ⟨m1.toNat, by have := hm _ hm1; omega⟩
          refine ⟨_, rfl, le, ps, rfl, SqL.of hle8, hps, fun m2 hm2 _ => ?_⟩
          obtain ⟨p2, rfl⟩ : ∃ p : Nat, m2 = p := ⟨m2.toNat, by have := hm _ hm2; omega⟩
          exact key6 p1 p2 H8 (by have := hm _ hm1; omega) (by have := hm _ hm2; omega) B8 hB8 hL8
        · exact key6 p g H8 hp hg B8 hB8 hL8
      clear r5
      walk_at "rd"
      intro x H8 x0 x1 B8 k8
      walk_at "rd"
      have hle8 := k8 _ _ nle hle7
      refine iteD (fun c => ?_) (fun c => ?_)
      · obtain ⟨ws, hq, hw, er⟩ := id (hB7.kb B7 k8)
        have hwl : ws.length = rows.length := by rw [er, List.length_map]
        refine ⟨_, rfl, _, _, rfl, .inr (SqT.of hq), _, _, rfl, rfl, _, rfl, ?_⟩
        walk_at "rd"
        intro y H9 y0 y1 B9 k9
        walk_at "rd"
        rw [List.length_map, hwl]
        obtain ⟨g, hg, e⟩ : ∃ g : Nat, g < rows.length ∧ (if (p : Int) + y < rows.length - 1 then (p : Int) + y else rows.length - 1) = g := by
          by_cases c : (p : Int) + y < rows.length - 1
          · exact ⟨p + y.toNat, by omega, by rw [if_pos c]; omega⟩
          · exact ⟨rows.length - 1, by omega, by rw [if_neg c]; omega⟩
        rw [e]
        exact key5 g H9 hg B9 (k8.trans k9)
      · refine ⟨_, rfl, le, ps, rfl, SqL.of hle8, hps, fun m1 hm1 _ => ?_⟩
        obtain ⟨g, rfl⟩ : ∃ p : Nat, m1 = p := ⟨m1.toNat, by have := hm _ hm1; omega⟩
        exact key5 g H8 (by have := hm _ hm1; omega) B8 k8
  · rintro σ H9 ⟨v2, v3, v4, v5, v6, v7, v8, v9, v10, v11, v12, v13, v14, rfl, B9⟩
    exact k H9

end
end K45
namespace K45
open PySem PySem.Spec PyProof.Rows L2 My
theorem all_mk {w : World} {K : PySem.W.Frag} {h : Heap} {mg : Str → Option Value} {fa : Addr} (X : K.In h) (G : h.Ns mainGlobals mg) (hfa : mg "law" = some (.ref fa))
    {f_is_step : Addr}
    {oc_is_step kV_is_step dc_is_step pm_is_step cd_is_step ct_is_step : Value} {od_is_step an_is_step : Option Addr} {sl_is_step : Array (Option Value)}
    {f_after_step : Addr}
    {oc_after_step kV_after_step dc_after_step pm_after_step cd_after_step ct_after_step : Value} {od_after_step an_after_step : Option Addr} {sl_after_step : Array (Option Value)}
    {f_after_steps : Addr}
    {oc_after_steps kV_after_steps dc_after_steps pm_after_steps cd_after_steps ct_after_steps : Value} {od_after_steps an_after_steps : Option Addr} {sl_after_steps : Array (Option Value)}
    {f__law_bag : Addr}
    {oc__law_bag kV__law_bag dc__law_bag pm__law_bag cd__law_bag ct__law_bag : Value} {od__law_bag an__law_bag : Option Addr} {sl__law_bag : Array (Option Value)}
    {f__law_pick : Addr}
    {oc__law_pick kV__law_pick dc__law_pick pm__law_pick cd__law_pick ct__law_pick : Value} {od__law_pick an__law_pick : Option Addr} {sl__law_pick : Array (Option Value)}
    {f__law_choice : Addr}
    {oc__law_choice kV__law_choice dc__law_choice pm__law_choice cd__law_choice ct__law_choice : Value} {od__law_choice an__law_choice : Option Addr} {sl__law_choice : Array (Option Value)}
    {f__law_integer : Addr}
    {oc__law_integer kV__law_integer dc__law_integer pm__law_integer cd__law_integer ct__law_integer : Value} {od__law_integer an__law_integer : Option Addr} {sl__law_integer : Array (Option Value)}
    {f__law_source : Addr}
    {oc__law_source kV__law_source dc__law_source pm__law_source cd__law_source ct__law_source : Value} {od__law_source an__law_source : Option Addr} {sl__law_source : Array (Option Value)}
    {f__law_instruction : Addr}
    {oc__law_instruction kV__law_instruction dc__law_instruction pm__law_instruction cd__law_instruction ct__law_instruction : Value} {od__law_instruction an__law_instruction : Option Addr} {sl__law_instruction : Array (Option Value)}
    {f__law_body : Addr}
    {oc__law_body kV__law_body dc__law_body pm__law_body cd__law_body ct__law_body : Value} {od__law_body an__law_body : Option Addr} {sl__law_body : Array (Option Value)}
    {f__law_moved : Addr}
    {oc__law_moved kV__law_moved dc__law_moved pm__law_moved cd__law_moved ct__law_moved : Value} {od__law_moved an__law_moved : Option Addr} {sl__law_moved : Array (Option Value)}
    {f__law_due : Addr}
    {oc__law_due kV__law_due dc__law_due pm__law_due cd__law_due ct__law_due : Value} {od__law_due an__law_due : Option Addr} {sl__law_due : Array (Option Value)}
    {f__law_same : Addr}
    {oc__law_same kV__law_same dc__law_same pm__law_same cd__law_same ct__law_same : Value} {od__law_same an__law_same : Option Addr} {sl__law_same : Array (Option Value)}
    {f__law_items : Addr}
    {oc__law_items kV__law_items dc__law_items pm__law_items cd__law_items ct__law_items : Value} {od__law_items an__law_items : Option Addr} {sl__law_items : Array (Option Value)}
    {f_law : Addr}
    {oc_law kV_law dc_law pm_law cd_law ct_law : Value} {od_law an_law : Option Addr} {sl_law : Array (Option Value)}
    {a_SOURCE_STEPS : Addr}
    {oda_SOURCE_STEPS : Option Addr} {itsa_SOURCE_STEPS : Array Value} {na_SOURCE_STEPS : Nat} {sla_SOURCE_STEPS : Array (Option Value)}
    {a_MOVE_STEPS : Addr}
    {oda_MOVE_STEPS : Option Addr} {itsa_MOVE_STEPS : Array Value} {na_MOVE_STEPS : Nat} {sla_MOVE_STEPS : Array (Option Value)}
    {a_EFFECTS : Addr}
    {e_dup : Addr}
    {esa_EFFECTS : Array DictEntry} {nda_EFFECTS : Nat}
    {ode_dup : Option Addr} {itse_dup : Array Value} {ne_dup : Nat} {sle_dup : Array (Option Value)}
    {e_drop : Addr}
    {ode_drop : Option Addr} {itse_drop : Array Value} {ne_drop : Nat} {sle_drop : Array (Option Value)}
    {e_swap : Addr}
    {ode_swap : Option Addr} {itse_swap : Array Value} {ne_swap : Nat} {sle_swap : Array (Option Value)}
    {e_over : Addr}
    {ode_over : Option Addr} {itse_over : Array Value} {ne_over : Nat} {sle_over : Array (Option Value)}
    {e_rot : Addr}
    {ode_rot : Option Addr} {itse_rot : Array Value} {ne_rot : Nat} {sle_rot : Array (Option Value)}
    (l_is_step : K.lookup f_is_step = some ⟨oc_is_step, od_is_step, .func (PySem.W.fnOf "is_step" "is_step" (defArgs s_is_step) (defBody s_is_step) (defScope s_is_step) .none kV_is_step dc_is_step pm_is_step an_is_step cd_is_step ct_is_step), sl_is_step⟩)
    (z_is_step : PySem.W.codeIn K cd_is_step "is_step" = true)
    (kk_is_step : PySem.W.keepIn K (.ref f_is_step) = true)
    (ag_is_step : PySem.W.nsIn K mainGlobals "is_step" = some (some (.ref f_is_step)))
    (l_after_step : K.lookup f_after_step = some ⟨oc_after_step, od_after_step, .func (PySem.W.fnOf "after_step" "after_step" (defArgs s_after_step) (defBody s_after_step) (defScope s_after_step) .none kV_after_step dc_after_step pm_after_step an_after_step cd_after_step ct_after_step), sl_after_step⟩)
    (z_after_step : PySem.W.codeIn K cd_after_step "after_step" = true)
    (kk_after_step : PySem.W.keepIn K (.ref f_after_step) = true)
    (ag_after_step : PySem.W.nsIn K mainGlobals "after_step" = some (some (.ref f_after_step)))
    (l_after_steps : K.lookup f_after_steps = some ⟨oc_after_steps, od_after_steps, .func (PySem.W.fnOf "after_steps" "after_steps" (defArgs s_after_steps) (defBody s_after_steps) (defScope s_after_steps) .none kV_after_steps dc_after_steps pm_after_steps an_after_steps cd_after_steps ct_after_steps), sl_after_steps⟩)
    (z_after_steps : PySem.W.codeIn K cd_after_steps "after_steps" = true)
    (kk_after_steps : PySem.W.keepIn K (.ref f_after_steps) = true)
    (ag_after_steps : PySem.W.nsIn K mainGlobals "after_steps" = some (some (.ref f_after_steps)))
    (l__law_bag : K.lookup f__law_bag = some ⟨oc__law_bag, od__law_bag, .func (PySem.W.fnOf "_law_bag" "_law_bag" (defArgs s__law_bag) (defBody s__law_bag) (defScope s__law_bag) .none kV__law_bag dc__law_bag pm__law_bag an__law_bag cd__law_bag ct__law_bag), sl__law_bag⟩)
    (z__law_bag : PySem.W.codeIn K cd__law_bag "_law_bag" = true)
    (kk__law_bag : PySem.W.keepIn K (.ref f__law_bag) = true)
    (ag__law_bag : PySem.W.nsIn K mainGlobals "_law_bag" = some (some (.ref f__law_bag)))
    (l__law_pick : K.lookup f__law_pick = some ⟨oc__law_pick, od__law_pick, .func (PySem.W.fnOf "_law_pick" "_law_pick" (defArgs s__law_pick) (defBody s__law_pick) (defScope s__law_pick) .none kV__law_pick dc__law_pick pm__law_pick an__law_pick cd__law_pick ct__law_pick), sl__law_pick⟩)
    (z__law_pick : PySem.W.codeIn K cd__law_pick "_law_pick" = true)
    (kk__law_pick : PySem.W.keepIn K (.ref f__law_pick) = true)
    (ag__law_pick : PySem.W.nsIn K mainGlobals "_law_pick" = some (some (.ref f__law_pick)))
    (l__law_choice : K.lookup f__law_choice = some ⟨oc__law_choice, od__law_choice, .func (PySem.W.fnOf "_law_choice" "_law_choice" (defArgs s__law_choice) (defBody s__law_choice) (defScope s__law_choice) .none kV__law_choice dc__law_choice pm__law_choice an__law_choice cd__law_choice ct__law_choice), sl__law_choice⟩)
    (z__law_choice : PySem.W.codeIn K cd__law_choice "_law_choice" = true)
    (kk__law_choice : PySem.W.keepIn K (.ref f__law_choice) = true)
    (ag__law_choice : PySem.W.nsIn K mainGlobals "_law_choice" = some (some (.ref f__law_choice)))
    (l__law_integer : K.lookup f__law_integer = some ⟨oc__law_integer, od__law_integer, .func (PySem.W.fnOf "_law_integer" "_law_integer" (defArgs s__law_integer) (defBody s__law_integer) (defScope s__law_integer) .none kV__law_integer dc__law_integer pm__law_integer an__law_integer cd__law_integer ct__law_integer), sl__law_integer⟩)
    (z__law_integer : PySem.W.codeIn K cd__law_integer "_law_integer" = true)
    (kk__law_integer : PySem.W.keepIn K (.ref f__law_integer) = true)
    (ag__law_integer : PySem.W.nsIn K mainGlobals "_law_integer" = some (some (.ref f__law_integer)))
    (l__law_source : K.lookup f__law_source = some ⟨oc__law_source, od__law_source, .func (PySem.W.fnOf "_law_source" "_law_source" (defArgs s__law_source) (defBody s__law_source) (defScope s__law_source) .none kV__law_source dc__law_source pm__law_source an__law_source cd__law_source ct__law_source), sl__law_source⟩)
    (z__law_source : PySem.W.codeIn K cd__law_source "_law_source" = true)
    (kk__law_source : PySem.W.keepIn K (.ref f__law_source) = true)
    (ag__law_source : PySem.W.nsIn K mainGlobals "_law_source" = some (some (.ref f__law_source)))
    (l__law_instruction : K.lookup f__law_instruction = some ⟨oc__law_instruction, od__law_instruction, .func (PySem.W.fnOf "_law_instruction" "_law_instruction" (defArgs s__law_instruction) (defBody s__law_instruction) (defScope s__law_instruction) .none kV__law_instruction dc__law_instruction pm__law_instruction an__law_instruction cd__law_instruction ct__law_instruction), sl__law_instruction⟩)
    (z__law_instruction : PySem.W.codeIn K cd__law_instruction "_law_instruction" = true)
    (kk__law_instruction : PySem.W.keepIn K (.ref f__law_instruction) = true)
    (ag__law_instruction : PySem.W.nsIn K mainGlobals "_law_instruction" = some (some (.ref f__law_instruction)))
    (l__law_body : K.lookup f__law_body = some ⟨oc__law_body, od__law_body, .func (PySem.W.fnOf "_law_body" "_law_body" (defArgs s__law_body) (defBody s__law_body) (defScope s__law_body) .none kV__law_body dc__law_body pm__law_body an__law_body cd__law_body ct__law_body), sl__law_body⟩)
    (z__law_body : PySem.W.codeIn K cd__law_body "_law_body" = true)
    (kk__law_body : PySem.W.keepIn K (.ref f__law_body) = true)
    (ag__law_body : PySem.W.nsIn K mainGlobals "_law_body" = some (some (.ref f__law_body)))
    (l__law_moved : K.lookup f__law_moved = some ⟨oc__law_moved, od__law_moved, .func (PySem.W.fnOf "_law_moved" "_law_moved" (defArgs s__law_moved) (defBody s__law_moved) (defScope s__law_moved) .none kV__law_moved dc__law_moved pm__law_moved an__law_moved cd__law_moved ct__law_moved), sl__law_moved⟩)
    (z__law_moved : PySem.W.codeIn K cd__law_moved "_law_moved" = true)
    (kk__law_moved : PySem.W.keepIn K (.ref f__law_moved) = true)
    (ag__law_moved : PySem.W.nsIn K mainGlobals "_law_moved" = some (some (.ref f__law_moved)))
    (l__law_due : K.lookup f__law_due = some ⟨oc__law_due, od__law_due, .func (PySem.W.fnOf "_law_due" "_law_due" (defArgs s__law_due) (defBody s__law_due) (defScope s__law_due) .none kV__law_due dc__law_due pm__law_due an__law_due cd__law_due ct__law_due), sl__law_due⟩)
    (z__law_due : PySem.W.codeIn K cd__law_due "_law_due" = true)
    (kk__law_due : PySem.W.keepIn K (.ref f__law_due) = true)
    (ag__law_due : PySem.W.nsIn K mainGlobals "_law_due" = some (some (.ref f__law_due)))
    (l__law_same : K.lookup f__law_same = some ⟨oc__law_same, od__law_same, .func (PySem.W.fnOf "_law_same" "_law_same" (defArgs s__law_same) (defBody s__law_same) (defScope s__law_same) .none kV__law_same dc__law_same pm__law_same an__law_same cd__law_same ct__law_same), sl__law_same⟩)
    (z__law_same : PySem.W.codeIn K cd__law_same "_law_same" = true)
    (kk__law_same : PySem.W.keepIn K (.ref f__law_same) = true)
    (ag__law_same : PySem.W.nsIn K mainGlobals "_law_same" = some (some (.ref f__law_same)))
    (l__law_items : K.lookup f__law_items = some ⟨oc__law_items, od__law_items, .func (PySem.W.fnOf "_law_items" "_law_items" (defArgs s__law_items) (defBody s__law_items) (defScope s__law_items) .none kV__law_items dc__law_items pm__law_items an__law_items cd__law_items ct__law_items), sl__law_items⟩)
    (z__law_items : PySem.W.codeIn K cd__law_items "_law_items" = true)
    (kk__law_items : PySem.W.keepIn K (.ref f__law_items) = true)
    (ag__law_items : PySem.W.nsIn K mainGlobals "_law_items" = some (some (.ref f__law_items)))
    (l_law : K.lookup f_law = some ⟨oc_law, od_law, .func (PySem.W.fnOf "law" "law" (defArgs s_law) (defBody s_law) (defScope s_law) .none kV_law dc_law pm_law an_law cd_law ct_law), sl_law⟩)
    (z_law : PySem.W.codeIn K cd_law "law" = true)
    (kk_law : PySem.W.keepIn K (.ref f_law) = true)
    (ag_law : PySem.W.nsIn K mainGlobals "law" = some (some (.ref f_law)))
    (ag_SOURCE_STEPS : PySem.W.nsIn K mainGlobals "SOURCE_STEPS" = some (some (.ref a_SOURCE_STEPS)))
    (lq_SOURCE_STEPS : K.lookup a_SOURCE_STEPS = some ⟨.type "tuple", oda_SOURCE_STEPS, .seq itsa_SOURCE_STEPS na_SOURCE_STEPS, sla_SOURCE_STEPS⟩)
    (sq_SOURCE_STEPS : itsa_SOURCE_STEPS.size ≤ sizeLine)
    (vq_SOURCE_STEPS : Vals [V.str "lit", V.str "data", V.str "token"] itsa_SOURCE_STEPS.toList)
    (ag_MOVE_STEPS : PySem.W.nsIn K mainGlobals "MOVE_STEPS" = some (some (.ref a_MOVE_STEPS)))
    (lq_MOVE_STEPS : K.lookup a_MOVE_STEPS = some ⟨.type "tuple", oda_MOVE_STEPS, .seq itsa_MOVE_STEPS na_MOVE_STEPS, sla_MOVE_STEPS⟩)
    (sq_MOVE_STEPS : itsa_MOVE_STEPS.size ≤ sizeLine)
    (vq_MOVE_STEPS : Vals [V.str "dup", V.str "drop", V.str "swap", V.str "over", V.str "rot"] itsa_MOVE_STEPS.toList)
    (an_bool : PySem.W.nsIn K mainGlobals "bool" = some none)
    (an_int : PySem.W.nsIn K mainGlobals "int" = some none)
    (an_isinstance : PySem.W.nsIn K mainGlobals "isinstance" = some none)
    (an_len : PySem.W.nsIn K mainGlobals "len" = some none)
    (an_list : PySem.W.nsIn K mainGlobals "list" = some none)
    (an_max : PySem.W.nsIn K mainGlobals "max" = some none)
    (an_min : PySem.W.nsIn K mainGlobals "min" = some none)
    (an_range : PySem.W.nsIn K mainGlobals "range" = some none)
    (an_tuple : PySem.W.nsIn K mainGlobals "tuple" = some none)
    (ag_EFFECTS : PySem.W.nsIn K mainGlobals "EFFECTS" = some (some (.ref a_EFFECTS)))
    (lka_EFFECTS : K.lookup a_EFFECTS = some ⟨.type "dict", none, .dict esa_EFFECTS nda_EFFECTS, #[]⟩)
    (kla_EFFECTS : PySem.W.KeysLit w.params esa_EFFECTS.toList)
    (nsd_dup : PySem.W.nsIn K a_EFFECTS "dup" = some (some (.ref e_dup)))
    (lv_dup : K.lookup e_dup = some ⟨.type "tuple", ode_dup, .seq itse_dup ne_dup, sle_dup⟩)
    (sv_dup : itse_dup.size ≤ sizeLine)
    (vv_dup : Vals [V.int 1, V.int 2] itse_dup.toList)
    (nsd_drop : PySem.W.nsIn K a_EFFECTS "drop" = some (some (.ref e_drop)))
    (lv_drop : K.lookup e_drop = some ⟨.type "tuple", ode_drop, .seq itse_drop ne_drop, sle_drop⟩)
    (sv_drop : itse_drop.size ≤ sizeLine)
    (vv_drop : Vals [V.int 1, V.int 0] itse_drop.toList)
    (nsd_swap : PySem.W.nsIn K a_EFFECTS "swap" = some (some (.ref e_swap)))
    (lv_swap : K.lookup e_swap = some ⟨.type "tuple", ode_swap, .seq itse_swap ne_swap, sle_swap⟩)
    (sv_swap : itse_swap.size ≤ sizeLine)
    (vv_swap : Vals [V.int 2, V.int 2] itse_swap.toList)
    (nsd_over : PySem.W.nsIn K a_EFFECTS "over" = some (some (.ref e_over)))
    (lv_over : K.lookup e_over = some ⟨.type "tuple", ode_over, .seq itse_over ne_over, sle_over⟩)
    (sv_over : itse_over.size ≤ sizeLine)
    (vv_over : Vals [V.int 2, V.int 3] itse_over.toList)
    (nsd_rot : PySem.W.nsIn K a_EFFECTS "rot" = some (some (.ref e_rot)))
    (lv_rot : K.lookup e_rot = some ⟨.type "tuple", ode_rot, .seq itse_rot ne_rot, sle_rot⟩)
    (sv_rot : itse_rot.size ≤ sizeLine)
    (vv_rot : Vals [V.int 3, V.int 3] itse_rot.toList) : ∃ M : TX K mg w, M.f_law = fa ∧ ∀ (s : Shared) (v : Value), BindsTo s M.d_law ⟨[v], []⟩ [("_law_script", v)] := by
  have e := hfa.symm.trans (PySem.W.mg_of X G ag_law)
  obtain rfl : f_law = fa := by
    injection e with e
    injection e with e
    exact e.symm
  have F_is_step := fun_mk (st := s_is_step) l_is_step z_is_step kk_is_step
  have F_after_step := fun_mk (st := s_after_step) l_after_step z_after_step kk_after_step
  have F_after_steps := fun_mk (st := s_after_steps) l_after_steps z_after_steps kk_after_steps
  have F__law_bag := fun_mk (st := s__law_bag) l__law_bag z__law_bag kk__law_bag
  have F__law_pick := fun_mk (st := s__law_pick) l__law_pick z__law_pick kk__law_pick
  have F__law_choice := fun_mk (st := s__law_choice) l__law_choice z__law_choice kk__law_choice
  have F__law_integer := fun_mk (st := s__law_integer) l__law_integer z__law_integer kk__law_integer
  have F__law_source := fun_mk (st := s__law_source) l__law_source z__law_source kk__law_source
  have F__law_instruction := fun_mk (st := s__law_instruction) l__law_instruction z__law_instruction kk__law_instruction
  have F__law_body := fun_mk (st := s__law_body) l__law_body z__law_body kk__law_body
  have F__law_moved := fun_mk (st := s__law_moved) l__law_moved z__law_moved kk__law_moved
  have F__law_due := fun_mk (st := s__law_due) l__law_due z__law_due kk__law_due
  have F__law_same := fun_mk (st := s__law_same) l__law_same z__law_same kk__law_same
  have F__law_items := fun_mk (st := s__law_items) l__law_items z__law_items kk__law_items
  have F_law := fun_mk (st := s_law) l_law z_law kk_law
  exact ⟨{
    f_is_step := f_is_step,
    d_is_step := _,
    F_is_step := F_is_step,
    g_is_step := PySem.W.mg_of X G ag_is_step,
    k_is_step := kk_is_step,
    b_is_step := F_is_step.binds (ps := ["op"]) fun _ _ _ _ _ _ us hl => match us, hl with | [_], _ => rfl,
    f_after_step := f_after_step,
    d_after_step := _,
    F_after_step := F_after_step,
    g_after_step := PySem.W.mg_of X G ag_after_step,
    k_after_step := kk_after_step,
    b_after_step := F_after_step.binds (ps := ["op", "arg", "layout"]) fun _ _ _ _ _ _ us hl => match us, hl with | [_, _, _], _ => rfl,
    f_after_steps := f_after_steps,
    d_after_steps := _,
    F_after_steps := F_after_steps,
    g_after_steps := PySem.W.mg_of X G ag_after_steps,
    k_after_steps := kk_after_steps,
    b_after_steps := F_after_steps.binds (ps := ["body", "place", "layout", "goal"]) fun _ _ _ _ _ _ us hl => match us, hl with | [_, _, _, _], _ => rfl,
    f__law_bag := f__law_bag,
    d__law_bag := _,
    F__law_bag := F__law_bag,
    g__law_bag := PySem.W.mg_of X G ag__law_bag,
    k__law_bag := kk__law_bag,
    b__law_bag := F__law_bag.binds (ps := ["_law_script"]) fun _ _ _ _ _ _ us hl => match us, hl with | [_], _ => rfl,
    f__law_pick := f__law_pick,
    d__law_pick := _,
    F__law_pick := F__law_pick,
    g__law_pick := PySem.W.mg_of X G ag__law_pick,
    k__law_pick := kk__law_pick,
    b__law_pick := F__law_pick.binds (ps := ["_law_bag_here", "_law_many"]) fun _ _ _ _ _ _ us hl => match us, hl with | [_, _], _ => rfl,
    f__law_choice := f__law_choice,
    d__law_choice := _,
    F__law_choice := F__law_choice,
    g__law_choice := PySem.W.mg_of X G ag__law_choice,
    k__law_choice := kk__law_choice,
    b__law_choice := F__law_choice.binds (ps := ["_law_bag_here", "_law_things"]) fun _ _ _ _ _ _ us hl => match us, hl with | [_, _], _ => rfl,
    f__law_integer := f__law_integer,
    d__law_integer := _,
    F__law_integer := F__law_integer,
    g__law_integer := PySem.W.mg_of X G ag__law_integer,
    k__law_integer := kk__law_integer,
    b__law_integer := F__law_integer.binds (ps := ["_law_thing"]) fun _ _ _ _ _ _ us hl => match us, hl with | [_], _ => rfl,
    f__law_source := f__law_source,
    d__law_source := _,
    F__law_source := F__law_source,
    g__law_source := PySem.W.mg_of X G ag__law_source,
    k__law_source := kk__law_source,
    b__law_source := F__law_source.binds (ps := ["_law_bag_here"]) fun _ _ _ _ _ _ us hl => match us, hl with | [_], _ => rfl,
    f__law_instruction := f__law_instruction,
    d__law_instruction := _,
    F__law_instruction := F__law_instruction,
    g__law_instruction := PySem.W.mg_of X G ag__law_instruction,
    k__law_instruction := kk__law_instruction,
    b__law_instruction := F__law_instruction.binds (ps := ["_law_bag_here", "_law_many", "_law_rate"]) fun _ _ _ _ _ _ us hl => match us, hl with | [_, _, _], _ => rfl,
    f__law_body := f__law_body,
    d__law_body := _,
    F__law_body := F__law_body,
    g__law_body := PySem.W.mg_of X G ag__law_body,
    k__law_body := kk__law_body,
    b__law_body := F__law_body.binds (ps := ["_law_bag_here"]) fun _ _ _ _ _ _ us hl => match us, hl with | [_], _ => rfl,
    f__law_moved := f__law_moved,
    d__law_moved := _,
    F__law_moved := F__law_moved,
    g__law_moved := PySem.W.mg_of X G ag__law_moved,
    k__law_moved := kk__law_moved,
    b__law_moved := F__law_moved.binds (ps := ["_law_row", "_law_pile"]) fun _ _ _ _ _ _ us hl => match us, hl with | [_, _], _ => rfl,
    f__law_due := f__law_due,
    d__law_due := _,
    F__law_due := F__law_due,
    g__law_due := PySem.W.mg_of X G ag__law_due,
    k__law_due := kk__law_due,
    b__law_due := F__law_due.binds (ps := ["_law_body_here", "_law_place", "_law_pile", "_law_goal"]) fun _ _ _ _ _ _ us hl => match us, hl with | [_, _, _, _], _ => rfl,
    f__law_same := f__law_same,
    d__law_same := _,
    F__law_same := F__law_same,
    g__law_same := PySem.W.mg_of X G ag__law_same,
    k__law_same := kk__law_same,
    b__law_same := F__law_same.binds (ps := ["_law_told", "_law_due_here"]) fun _ _ _ _ _ _ us hl => match us, hl with | [_, _], _ => rfl,
    f__law_items := f__law_items,
    d__law_items := _,
    F__law_items := F__law_items,
    g__law_items := PySem.W.mg_of X G ag__law_items,
    k__law_items := kk__law_items,
    b__law_items := F__law_items.binds (ps := ["_law_layout", "_law_items_here"]) fun _ _ _ _ _ _ us hl => match us, hl with | [_, _], _ => rfl,
    f_law := f_law,
    d_law := _,
    F_law := F_law,
    g_law := PySem.W.mg_of X G ag_law,
    k_law := kk_law,
    b_law := F_law.binds (ps := ["_law_script"]) fun _ _ _ _ _ _ us hl => match us, hl with | [_], _ => rfl,
    a_SOURCE_STEPS := a_SOURCE_STEPS,
    g_SOURCE_STEPS := PySem.W.mg_of X G ag_SOURCE_STEPS,
    q_SOURCE_STEPS := fun H => Or.inr ⟨_, _, _, lq_SOURCE_STEPS, rfl, rfl, sq_SOURCE_STEPS, vq_SOURCE_STEPS⟩,
    a_MOVE_STEPS := a_MOVE_STEPS,
    g_MOVE_STEPS := PySem.W.mg_of X G ag_MOVE_STEPS,
    q_MOVE_STEPS := fun H => Or.inr ⟨_, _, _, lq_MOVE_STEPS, rfl, rfl, sq_MOVE_STEPS, vq_MOVE_STEPS⟩,
    n_bool := PySem.W.mg_none_of X G an_bool,
    n_int := PySem.W.mg_none_of X G an_int,
    n_isinstance := PySem.W.mg_none_of X G an_isinstance,
    n_len := PySem.W.mg_none_of X G an_len,
    n_list := PySem.W.mg_none_of X G an_list,
    n_max := PySem.W.mg_none_of X G an_max,
    n_min := PySem.W.mg_none_of X G an_min,
    n_range := PySem.W.mg_none_of X G an_range,
    n_tuple := PySem.W.mg_none_of X G an_tuple,
    a_EFFECTS := a_EFFECTS,
    g_EFFECTS := PySem.W.mg_of X G ag_EFFECTS,
    e_dup := e_dup,
    d_dup := ⟨_, _, _, lka_EFFECTS, kla_EFFECTS, nsd_dup, rfl⟩,
    v_dup := fun H => Or.inr ⟨_, _, _, lv_dup, rfl, rfl, sv_dup, vv_dup⟩,
    e_drop := e_drop,
    d_drop := ⟨_, _, _, lka_EFFECTS, kla_EFFECTS, nsd_drop, rfl⟩,
    v_drop := fun H => Or.inr ⟨_, _, _, lv_drop, rfl, rfl, sv_drop, vv_drop⟩,
    e_swap := e_swap,
    d_swap := ⟨_, _, _, lka_EFFECTS, kla_EFFECTS, nsd_swap, rfl⟩,
    v_swap := fun H => Or.inr ⟨_, _, _, lv_swap, rfl, rfl, sv_swap, vv_swap⟩,
    e_over := e_over,
    d_over := ⟨_, _, _, lka_EFFECTS, kla_EFFECTS, nsd_over, rfl⟩,
    v_over := fun H => Or.inr ⟨_, _, _, lv_over, rfl, rfl, sv_over, vv_over⟩,
    e_rot := e_rot,
    d_rot := ⟨_, _, _, lka_EFFECTS, kla_EFFECTS, nsd_rot, rfl⟩,
    v_rot := fun H => Or.inr ⟨_, _, _, lv_rot, rfl, rfl, sv_rot, vv_rot⟩ }, rfl, fun s v => .of_eq rfl⟩
theorem last_walk {l : PySem.W.OpenLaw} {K : Params → PySem.W.Frag}
    {q : Program} {d : DefRec} {XP : (Str → Option Value) → Heap → Prop}
    {loose : List Str} {YP : World → Heap → Prop}
    (hn : l.most = some 63) (hdf : d.params.defaults = []) (hnm : d.name = "law")
    (hY : ∀ (w : World) (h : Heap), YP w h →
      (K w.params).In h)
    (F : ∀ (w : World) (mg : Str → Option Value) (fa : Addr) (h : Heap),
      (K w.params).In h → h.Ns mainGlobals mg → mg "law" = some (.ref fa) →
      ∃ M : TX (K w.params) mg w, M.f_law = fa ∧
        ∀ (s : Shared) (v : Value), BindsTo s M.d_law ⟨[v], []⟩ [("_law_script", v)]) :
    PySem.W.WalkO q loose XP YP
      l.row.toRowW d [] fun f vs =>
        PySem.call f vs :=
  L2.walk_of (n := 63) (k := 5) (x := "_law_script")
    (CX := fun w => L2.CX l.prog w) (sp := fun w => spLaw (K w.params))
    hn (by decide) hdf ⟨rfl, by decide, by decide⟩ hY
    (fun w mg fa h KX G hmg => by
      obtain ⟨M, rfl, bd⟩ := F w mg fa h KX G (hnm ▸ hmg)
      exact ⟨M.d_law, bd, fun base _ _ => ok_law M⟩)
    (fun _ _ a ns hl _ hS => ⟨_, rfl, a, ns, rfl, hS, hl, fun _ => rfl⟩)
    fun _ _ _ _ _ ⟨_, _, _, _, _, _, _, _, _, _, _, _, z⟩ => z
end K45
end
open PySem PySem.W PyProof.Rows
set_option maxRecDepth 100000 in
set_option maxHeartbeats 0 in
theorem PySem.Challenge.cw_wordmint_k45_layout_steps_holds : PySem.Challenge.rw_wordmint_k45_layout_steps.Holds := by
  w_on
  o_law
  k_head
  (case hw => w_witness2)
  k_fill
  refine K45.last_walk (l := PySem.Challenge.rw_wordmint_k45_layout_steps) rfl rfl rfl
    (fun w h Y => PySem.W.kIn_of Y) ?F
  case F =>
    intro w mg fa h KX G hmg
    refine' K45.all_mk (w := w) KX G hmg ?l_is_step ?z_is_step ?kk_is_step ?ag_is_step ?l_after_step ?z_after_step ?kk_after_step ?ag_after_step ?l_after_steps ?z_after_steps ?kk_after_steps ?ag_after_steps ?l__law_bag ?z__law_bag ?kk__law_bag ?ag__law_bag ?l__law_pick ?z__law_pick ?kk__law_pick ?ag__law_pick ?l__law_choice ?z__law_choice ?kk__law_choice ?ag__law_choice ?l__law_integer ?z__law_integer ?kk__law_integer ?ag__law_integer ?l__law_source ?z__law_source ?kk__law_source ?ag__law_source ?l__law_instruction ?z__law_instruction ?kk__law_instruction ?ag__law_instruction ?l__law_body ?z__law_body ?kk__law_body ?ag__law_body ?l__law_moved ?z__law_moved ?kk__law_moved ?ag__law_moved ?l__law_due ?z__law_due ?kk__law_due ?ag__law_due ?l__law_same ?z__law_same ?kk__law_same ?ag__law_same ?l__law_items ?z__law_items ?kk__law_items ?ag__law_items ?l_law ?z_law ?kk_law ?ag_law ?ag_SOURCE_STEPS ?lq_SOURCE_STEPS ?sq_SOURCE_STEPS ?vq_SOURCE_STEPS ?ag_MOVE_STEPS ?lq_MOVE_STEPS ?sq_MOVE_STEPS ?vq_MOVE_STEPS ?an_bool ?an_int ?an_isinstance ?an_len ?an_list ?an_max ?an_min ?an_range ?an_tuple ?ag_EFFECTS ?lka_EFFECTS ?kla_EFFECTS ?nsd_dup ?lv_dup ?sv_dup ?vv_dup ?nsd_drop ?lv_drop ?sv_drop ?vv_drop ?nsd_swap ?lv_swap ?sv_swap ?vv_swap ?nsd_over ?lv_over ?sv_over ?vv_over ?nsd_rot ?lv_rot ?sv_rot ?vv_rot
    (case ag_is_step => k_is)
    (case ag_after_step => k_is)
    (case ag_after_steps => k_is)
    (case ag__law_bag => k_is)
    (case ag__law_pick => k_is)
    (case ag__law_choice => k_is)
    (case ag__law_integer => k_is)
    (case ag__law_source => k_is)
    (case ag__law_instruction => k_is)
    (case ag__law_body => k_is)
    (case ag__law_moved => k_is)
    (case ag__law_due => k_is)
    (case ag__law_same => k_is)
    (case ag__law_items => k_is)
    (case ag_law => k_is)
    (case ag_SOURCE_STEPS => k_is)
    (case ag_MOVE_STEPS => k_is)
    (case ag_EFFECTS => k_is)
    (case l_is_step => k_is)
    (case z_is_step => k_is)
    (case kk_is_step => k_is)
    (case l_after_step => k_is)
    (case z_after_step => k_is)
    (case kk_after_step => k_is)
    (case l_after_steps => k_is)
    (case z_after_steps => k_is)
    (case kk_after_steps => k_is)
    (case l__law_bag => k_is)
    (case z__law_bag => k_is)
    (case kk__law_bag => k_is)
    (case l__law_pick => k_is)
    (case z__law_pick => k_is)
    (case kk__law_pick => k_is)
    (case l__law_choice => k_is)
    (case z__law_choice => k_is)
    (case kk__law_choice => k_is)
    (case l__law_integer => k_is)
    (case z__law_integer => k_is)
    (case kk__law_integer => k_is)
    (case l__law_source => k_is)
    (case z__law_source => k_is)
    (case kk__law_source => k_is)
    (case l__law_instruction => k_is)
    (case z__law_instruction => k_is)
    (case kk__law_instruction => k_is)
    (case l__law_body => k_is)
    (case z__law_body => k_is)
    (case kk__law_body => k_is)
    (case l__law_moved => k_is)
    (case z__law_moved => k_is)
    (case kk__law_moved => k_is)
    (case l__law_due => k_is)
    (case z__law_due => k_is)
    (case kk__law_due => k_is)
    (case l__law_same => k_is)
    (case z__law_same => k_is)
    (case kk__law_same => k_is)
    (case l__law_items => k_is)
    (case z__law_items => k_is)
    (case kk__law_items => k_is)
    (case l_law => k_is)
    (case z_law => k_is)
    (case kk_law => k_is)
    (case lq_SOURCE_STEPS => k_is)
    (case sq_SOURCE_STEPS => exact Nat.le_of_ble_eq_true rfl)
    (case vq_SOURCE_STEPS => exact (.cons ⟨_, rfl⟩ (.cons ⟨_, rfl⟩ (.cons ⟨_, rfl⟩ .nil))))
    (case lq_MOVE_STEPS => k_is)
    (case sq_MOVE_STEPS => exact Nat.le_of_ble_eq_true rfl)
    (case vq_MOVE_STEPS => exact (.cons ⟨_, rfl⟩ (.cons ⟨_, rfl⟩ (.cons ⟨_, rfl⟩ (.cons ⟨_, rfl⟩ (.cons ⟨_, rfl⟩ .nil))))))
    (case an_bool => k_is)
    (case an_int => k_is)
    (case an_isinstance => k_is)
    (case an_len => k_is)
    (case an_list => k_is)
    (case an_max => k_is)
    (case an_min => k_is)
    (case an_range => k_is)
    (case an_tuple => k_is)
    (case lka_EFFECTS => k_is)
    (case kla_EFFECTS => repeat (first | exact trivial | refine ⟨⟨_, _, rfl, rfl⟩, ?_⟩))
    (case nsd_dup => k_is)
    (case lv_dup => k_is)
    (case sv_dup => exact Nat.le_of_ble_eq_true rfl)
    (case vv_dup => exact (.cons ⟨_, rfl⟩ (.cons ⟨_, rfl⟩ .nil)))
    (case nsd_drop => k_is)
    (case lv_drop => k_is)
    (case sv_drop => exact Nat.le_of_ble_eq_true rfl)
    (case vv_drop => exact (.cons ⟨_, rfl⟩ (.cons ⟨_, rfl⟩ .nil)))
    (case nsd_swap => k_is)
    (case lv_swap => k_is)
    (case sv_swap => exact Nat.le_of_ble_eq_true rfl)
    (case vv_swap => exact (.cons ⟨_, rfl⟩ (.cons ⟨_, rfl⟩ .nil)))
    (case nsd_over => k_is)
    (case lv_over => k_is)
    (case sv_over => exact Nat.le_of_ble_eq_true rfl)
    (case vv_over => exact (.cons ⟨_, rfl⟩ (.cons ⟨_, rfl⟩ .nil)))
    (case nsd_rot => k_is)
    (case lv_rot => k_is)
    (case sv_rot => exact Nat.le_of_ble_eq_true rfl)
    (case vv_rot => exact (.cons ⟨_, rfl⟩ (.cons ⟨_, rfl⟩ .nil)))
#print axioms PySem.Challenge.cw_wordmint_k45_layout_steps_holds
