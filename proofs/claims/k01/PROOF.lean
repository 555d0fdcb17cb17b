import PyProof.Rows.All
import Wide.All
import OpenK.AllK
import Wide.FinOn
import HandS.ForMost
import HandS.ForExc
import HandS.ExcInit
import HandS.ExcField
import HandS.ExcIs
import HandS.IsInst
import HandS.Star
import HandS.Deep
import HandS.Style
import HandS.Wide
import KE.KExcIs
import KE.DataFind
import KE.BitLaws
import KE.KEqDeep
import PySem.Challenge.RW_wordmint_k01_arithmetic
set_option Elab.async false
set_option linter.all false
set_option maxRecDepth 100000
set_option maxHeartbeats 4000000
namespace My
open PySem PySem.Spec PyProof.Rows L2

/-! ### exceptions of the program: C(v) keeps v under one name -/
def spExc (C : Addr) (f : Str) : Sp := fun vs H Q _ => ∃ (a : Addr) (v : V), vs = [.ref a, v] ∧ H a = some (exo a C none) ∧
  ∀ dx, H dx = none → dx ≠ a → Q .non (upd (upd H dx (exd dx [(f, v)])) a (exo a C (some dx)))
/-- the error of C with v under f leaves -/
def Rz (C : Addr) (f : Str) (v : V) (H : Hp) (E : XK) : Prop := ∀ d, H d = none → E (.ref C) (some d) (upd H d (.xd [(f, v)]))
def tRz (C : Addr) (f : Str) (W : WX) (ta : TA) : TS := fun _ σ H => ta σ H fun vs H1 => ∃ v, vs = [v] ∧ ∀ d, H1 d = none → W (.ref C) (some d) σ (upd H1 d (.xd [(f, v)]))
theorem rz_heap {H : Hp} {a d C : Addr} {u : HO} {f : Str} {v : V} (ha : H a = none) (hd : d ≠ a) :
    upd (del (upd (upd (upd H a (exo a C none)) d u) a (exo a C (some d))) a) d (.xd [(f, v)]) = upd H d (.xd [(f, v)]) := by
  funext b
  by_cases h1 : b = d
  · rw [h1, upd_same, upd_same]
  · rw [upd_ne h1, upd_ne h1]
    by_cases h2 : b = a
    · rw [h2, del_same, ha]
    · rw [del_ne h2, upd_ne h2, upd_ne h1, upd_ne h2]
/-- a reading that may be weakened -/
def tW (ta : TA) : TA := fun σ H Q => ∃ Q0 : List V → Hp → Prop, ta σ H Q0 ∧ ∀ vs H1, Q0 vs H1 → Q vs H1
theorem pa_weak {X : Cx} {es : List Expr} {ta : TA} (h : PA X es ta) : PA X es (tW ta) := ⟨fun pos pins s σ H Q I ⟨Q0, q, w⟩ => thn (h.run pos pins s σ H Q0 I q) fun us s' ⟨vs, H1, I1, r, z⟩ => ⟨vs, H1, I1, r, w vs H1 z⟩⟩
theorem ps_rz {X : Cx} {W : WX} {x f : Str} {e : Expr} {ta : TA} {C fI : Addr} {k : Nat} {fd : FuncData} {ps : List Str} {p pos pos2 : Pos} (hc : X.calm = true) (tk : Takes X W) (T : OexC X.K C) (iC : PySem.W.findIn X.K (.ref C) "__init__" = some (some (.ref fI)))
    (tI : PySem.W.typeIn X.K (.ref fI) = some (.type "function")) (F1 : FnOk X.prog X.w X.K X.mg X.base (L2.CX X.prog X.w) k fI fd ps (spExc C f)) (hr : Room (k + 1) X.A) (hb : Binds X.K fd ps []) (hg : Gl X x) (hm : X.mg x = some (.ref C)) (ha : PA X [e] ta)
    (hdb : (x == ("__debug__" : Str)) = false := by decide) (he : starEach [e] X.env = (false, eval e X.env) :: starEach [] X.env := by rfl) (hpl : (backTo pos (starEach [] X.env)).any (·.1) = false := by rfl) :
    PS X (.Raise (some (.Call (.Name x p) [e] [] pos)) none pos2) (tRz C f W ta) := by
  have z := ps_raise (pos := pos2) hc tk (pmk_oex (p := p) (pos := pos) (dvs := []) (ds := []) T iC tI F1 hr hb .nil passL hg hm (pa_weak ha) hdb he hpl)
  refine ⟨fun pins s σ H D I h => z.run pins s σ H D I ?_⟩
  refine ⟨_, h, ?_⟩
  rintro vs H1 ⟨v, rfl, q⟩
  refine ⟨by show 1 ≤ 1000; decide, fun a ha => ⟨a, v, rfl, upd_same, fun dx hdx hne => ⟨rfl, dx, [(f, v)], upd_same, ?_, ?_, ?_⟩⟩⟩
  · rw [upd_ne hne, upd_same]
  · rw [upd_ne hne] at hdx
    exact hdx
  · rw [upd_ne hne] at hdx
    rw [rz_heap ha hne]
    exact q dx hdx
/-! ### isinstance of a caught error that keeps something -/
def rIsED (K : PySem.W.Frag) (a : Addr) (cls : Value) (d : Option Addr) : List V → Hp → VK → Prop := fun xs H Q => ∃ (D dd : Addr) (fs : List (Str × V)) (c : V) (cv : Value) (b : Bool), cls = .ref D ∧ d = some dd ∧ H dd = some (.xd fs) ∧ ExcC K D ∧ xs = [.ref a, c] ∧ ClsV c cv ∧
  PySem.W.kitOne K (.ref D) cv = some b ∧ Q (.bl b) H
theorem call_isED {X : Cx} {a : Addr} {cls : Value} {d : Option Addr} {oe : Obj} {pn : List (Addr × Obj)} (hz : Zc cls d oe) (hf : ∃ vs, oe.data = .fields vs) : CallR (X.suite a ((a, oe) :: pn)) (.builtin "isinstance") (rIsED X.K a cls d) := by
  intro pins s σ H xs us Q I r h
  obtain ⟨D, dd, fs, c, cv, b, ec, ed, hx, C, ex, hcv, e, q⟩ := h
  subst ec ed ex
  obtain ⟨u1, u2, rfl, r1, r2⟩ := vals2 r
  cases (show u1 = Value.ref a from r1)
  have e2 := hcv.eq r2
  subst e2
  obtain ⟨hget, _⟩ := I.pin (a, oe) (List.mem_append.mpr (.inl List.mem_cons_self))
  obtain ⟨vs, hv⟩ := hf
  obtain ⟨mA, hns, _⟩ := (show ObjOk X.prog X.w H s.heap dd (.xd fs) from I.hok dd _ hx)
  obtain ⟨od, ho, _⟩ := lookIn_ns hns
  have J : PySem.W.InstAt s.heap a oe D (some od) := ⟨hget, hz.1, by unfold PySem.W.notCls; rw [hv] <;> rfl, by rw [hz.2]; exact ho⟩
  have hcl : (PySem.W.clsIn X.K D).isSome = true := by
    obtain ⟨cd, hc, _⟩ := PySem.W.any_some C.hd
    rw [hc]; rfl
  exact PySem.W.kia_one (PySem.W.kitx_exc hcl C.hg C.hk C.hs C.ha C.hn C.ht C.hm) I.kIn J e (fun z => nomatch z) fun tk => ⟨.bl b, H, I.kept (t' := tk) fun _ _ z => z, rfl, q⟩
end My
namespace My
open PySem PySem.Spec PyProof.Rows L2
def rCntB (K : PySem.W.Frag) : V → List V → Hp → VK → Prop := fun x xs H Q => ∃ (p : Addr) (bs : List Bool), x = .ref p ∧ xs = [.bl true] ∧ SqL K H p (bs.map V.bl) ∧ Q (.int (bs.count true : Nat)) H
theorem cnt_bools : ∀ bs : List Bool, (bs.map PyData.bool).countP (fun y => PyData.eqv y (.bool true)) = bs.count true
  | [] => rfl
  | b :: r => by
    have ih := cnt_bools r
    cases b
    · show (List.map PyData.bool r).countP _ = List.count true (false :: r)
      rw [ih]; simp
    · show List.countP _ (PyData.bool true :: List.map PyData.bool r) = List.count true (true :: r)
      rw [List.countP_cons, ih]; simp [PyData.eqv]
theorem plain_bools : ∀ bs : List Bool, PyData.plainAll (bs.map PyData.bool) = true
  | [] => rfl
  | b :: r => by
    have ih := plain_bools r
    simp only [List.map_cons, PyData.plainAll, ih]; rfl
theorem dp_bools {K : PySem.W.Frag} {H : Hp} : ∀ bs : List Bool, DpAll K H (bs.map V.bl) (bs.map PyData.bool)
  | [] => .nil
  | b :: r => .cons (.bl b) (dp_bools r)
theorem mt_countB {X : Cx} (hu : X.A.units + 64 < cLine) : MtR X "list.count" (rCntB X.K) := by
  intro pins s σ H x xs v us Q I rx rxs h
  obtain ⟨p, bs, rfl, rfl, hs, q⟩ := h
  cases rx
  obtain ⟨u, rfl, ru⟩ := rxs.one
  cases ru
  obtain ⟨as, r1⟩ := Dp.reads I (.list (bs.map PyData.bool)) (.ref p) (.ref p) (.lst hs (dp_bools bs)) rfl
  obtain ⟨its, rv, hl, hlen⟩ := I.list hs
  obtain ⟨as2, r2⟩ := Dp.readsAll I (bs.map PyData.bool) _ its (dp_bools bs) rv
  refine PySem.SeqAt.count_list_data (xs := bs.map PyData.bool) (d := .bool true) (vs := its.toArray) ?_ (by simpa using r2) (Reads.bool true) (plain_bools bs) rfl ?_ ?_
  · obtain ⟨o, n, ho, hc, _, hd⟩ := hl
    exact ⟨o, ho, hc, n, hd⟩
  · have h1 : min (PyData.depthAll (bs.map PyData.bool)) (PyData.bool true).depth ≤ (PyData.bool true).depth := Nat.min_le_right _ _
    have h2 : (PyData.bool true).depth ≤ 1 := by decide
    omega
  · rw [cnt_bools]
    exact ⟨.int (bs.count true : Nat), H, I.tok _, ⟨_, rfl⟩, q⟩
end My
namespace My
open PySem PySem.Spec PyProof.Rows L2
/-! ### promises by the number of arguments -/
def Sp0 (f : Hp → VK → XK → Prop) : Sp := fun vs H Q E => vs = [] ∧ f H Q E
def Sp1 (f : V → Hp → VK → XK → Prop) : Sp := fun vs H Q E => ∃ a, vs = [a] ∧ f a H Q E
def Sp2 (f : V → V → Hp → VK → XK → Prop) : Sp := fun vs H Q E => ∃ a b, vs = [a, b] ∧ f a b H Q E
def Sp3 (f : V → V → V → Hp → VK → XK → Prop) : Sp := fun vs H Q E => ∃ a b c, vs = [a, b, c] ∧ f a b c H Q E
def Sp4 (f : V → V → V → V → Hp → VK → XK → Prop) : Sp := fun vs H Q E => ∃ a b c d, vs = [a, b, c, d] ∧ f a b c d H Q E
def Sp5 (f : V → V → V → V → V → Hp → VK → XK → Prop) : Sp := fun vs H Q E => ∃ a b c d e, vs = [a, b, c, d, e] ∧ f a b c d e H Q E
section
variable {vs : List V} {H : Hp} {Q : VK} {E : XK}
theorem Sp0_len {f} (h : Sp0 f vs H Q E) : vs.length = 0 := by obtain ⟨rfl, _⟩ := h; rfl
theorem Sp1_len {f} (h : Sp1 f vs H Q E) : vs.length = 1 := by obtain ⟨_, rfl, _⟩ := h; rfl
theorem Sp2_len {f} (h : Sp2 f vs H Q E) : vs.length = 2 := by obtain ⟨_, _, rfl, _⟩ := h; rfl
theorem Sp3_len {f} (h : Sp3 f vs H Q E) : vs.length = 3 := by obtain ⟨_, _, _, rfl, _⟩ := h; rfl
theorem Sp4_len {f} (h : Sp4 f vs H Q E) : vs.length = 4 := by obtain ⟨_, _, _, _, rfl, _⟩ := h; rfl
theorem Sp5_len {f} (h : Sp5 f vs H Q E) : vs.length = 5 := by obtain ⟨_, _, _, _, _, rfl, _⟩ := h; rfl
end
/-- in a def's body: what a call lets out is the def's own affair -/
theorem passE {X : Cx} {E : XK} {E₁ : Value → Shared → Prop} (hs : X.stack = X.env :: X.outer) (hf : X.env.frame = some X.env.locals) (hex : X.ex = [])
    (hx : X.xe = fun e s' => wpAny (model X.prog X.w) X.A (leaving X.env e) (fun _ s'' => L2.CX X.prog X.w X.outer X.H_0 X.s_0 E e s'') E₁ s') : Passes (L2.CX X.prog X.w) X E :=
  passes_call (takes_of hs hf hex hx) (fun _ _ _ _ h => h)
/-- all but b stand as they were -/
def Kp (b : Addr) (H H' : Hp) : Prop := ∀ p o, p ≠ b → H p = some o → H' p = some o
theorem Kp.refl {b : Addr} {H : Hp} : Kp b H H := fun _ _ _ h => h
theorem Kp.trans {b : Addr} {H H1 H2 : Hp} (h : Kp b H H1) (k : Kp b H1 H2) : Kp b H H2 := fun p o n e => k p o n (h p o n e)
theorem Kp.upd {b : Addr} {H H1 : Hp} {o : HO} (h : Kp b H H1) : Kp b H (upd H1 b o) := fun p u n e => by rw [upd_ne n]; exact h p u n e
theorem Kp.new {b l : Addr} {H H1 : Hp} {o : HO} (h : Kp b H H1) (hl : H1 l = none) : Kp b H (L2.upd H1 l o) := fun p u n e => by
  rw [upd_ne (ne_of_none (h p u n e) hl)]; exact h p u n e
theorem Kp.of {b : Addr} {H H' : Hp} (h : Same H H') : Kp b H H' := fun p o _ e => h p o e
theorem Same.new {H H1 : Hp} {l : Addr} {o : HO} (h : Same H H1) (hl : H1 l = none) : Same H (L2.upd H1 l o) := fun p u e => by
  rw [upd_ne (ne_of_none (h p u e) hl)]; exact h p u e
/-! ### the law's bag of numbers -/
def bagO (c : Addr) (a r s n : Int) : HO := .dK [(.inr ("cells" : Str), .ref c), (.inr ("at" : Str), .int a), (.inr ("rest" : Str), .int r), (.inr ("seed" : Str), .int s), (.inr ("count" : Str), .int n)]
structure BagAt (H : Hp) (b : Addr) : Prop where
  ex : ∃ (c : Addr) (ns : List Int) (a r s n : Int), H b = some (bagO c a r s n) ∧ H c = some (.lst (ns.map V.int)) ∧ 0 ≤ a ∧ ns.length ≤ 63
section
variable {H : Hp} {b c : Addr} {a r s n : Int}
theorem bg_cells (h : H b = some (bagO c a r s n)) : DGet H b (.str "cells") (some (.ref c)) := DGet.k (k := Sum.inr ("cells" : Str)) h
theorem kne1 : ¬ ((Sum.inr ("cells" : Str) : Key) = Sum.inr ("at" : Str)) := by decide +kernel
theorem kne2 : ¬ ((Sum.inr ("cells" : Str) : Key) = Sum.inr ("rest" : Str)) := by decide +kernel
theorem kne3 : ¬ ((Sum.inr ("cells" : Str) : Key) = Sum.inr ("seed" : Str)) := by decide +kernel
theorem kne4 : ¬ ((Sum.inr ("cells" : Str) : Key) = Sum.inr ("count" : Str)) := by decide +kernel
theorem kne5 : ¬ ((Sum.inr ("at" : Str) : Key) = Sum.inr ("rest" : Str)) := by decide +kernel
theorem kne6 : ¬ ((Sum.inr ("at" : Str) : Key) = Sum.inr ("seed" : Str)) := by decide +kernel
theorem kne7 : ¬ ((Sum.inr ("at" : Str) : Key) = Sum.inr ("count" : Str)) := by decide +kernel
theorem kne8 : ¬ ((Sum.inr ("rest" : Str) : Key) = Sum.inr ("seed" : Str)) := by decide +kernel
theorem kne9 : ¬ ((Sum.inr ("rest" : Str) : Key) = Sum.inr ("count" : Str)) := by decide +kernel
theorem kne10 : ¬ ((Sum.inr ("seed" : Str) : Key) = Sum.inr ("count" : Str)) := by decide +kernel
theorem dget_of {H : Hp} {b : Addr} {kvs : List (Key × V)} {k : Str} {v : V} (h : H b = some (.dK kvs)) (e : valV kvs (Sum.inr k : Key) = some v) : DGet H b (.str k) (some v) := by
  rw [← e]; exact DGet.k (k := Sum.inr k) h
theorem bg_at (h : H b = some (bagO c a r s n)) : DGet H b (.str "at") (some (.int a)) := dget_of h (by rw [valV_neg kne1, valV_pos rfl])
theorem bg_rest (h : H b = some (bagO c a r s n)) : DGet H b (.str "rest") (some (.int r)) := dget_of h (by rw [valV_neg kne2, valV_neg kne5, valV_pos rfl])
theorem bg_seed (h : H b = some (bagO c a r s n)) : DGet H b (.str "seed") (some (.int s)) := dget_of h (by rw [valV_neg kne3, valV_neg kne6, valV_neg kne8, valV_pos rfl])
theorem bg_count (h : H b = some (bagO c a r s n)) : DGet H b (.str "count") (some (.int n)) := dget_of h (by rw [valV_neg kne4, valV_neg kne7, valV_neg kne9, valV_neg kne10, valV_pos rfl])
theorem dput_of {H : Hp} {b : Addr} {kvs kvs' : List (Key × V)} {k : Str} {v : V} (h : H b = some (.dK kvs)) (e : putK kvs (Sum.inr k : Key) v = kvs') (hl : kvs.length < sizeLine) : DPut H b (.str k) v (upd H b (.dK kvs')) := by
  rw [← e]; exact DPut.k (k := Sum.inr k) h hl
theorem kns : ∀ {x y : Str}, ¬ ((Sum.inr x : Key) = Sum.inr y) → ¬ x = y := fun h e => h (by rw [e])
theorem bp_at {x : Int} (h : H b = some (bagO c a r s n)) : DPut H b (.str "at") (.int x) (upd H b (bagO c x r s n)) := dput_of h (by unfold putK; simp [kns kne1, kns kne5, kns kne6, kns kne7, Ne.symm (kns kne1), Ne.symm (kns kne5), Ne.symm (kns kne6), Ne.symm (kns kne7)]) (by show 5 < sizeLine; decide)
theorem bp_rest {x : Int} (h : H b = some (bagO c a r s n)) : DPut H b (.str "rest") (.int x) (upd H b (bagO c a x s n)) := dput_of h (by unfold putK; simp [kns kne2, kns kne5, kns kne8, kns kne9, Ne.symm (kns kne2), Ne.symm (kns kne5), Ne.symm (kns kne8), Ne.symm (kns kne9)]) (by show 5 < sizeLine; decide)
theorem bp_seed {x : Int} (h : H b = some (bagO c a r s n)) : DPut H b (.str "seed") (.int x) (upd H b (bagO c a r x n)) := dput_of h (by unfold putK; simp [kns kne3, kns kne6, kns kne8, kns kne10, Ne.symm (kns kne3), Ne.symm (kns kne6), Ne.symm (kns kne8), Ne.symm (kns kne10)]) (by show 5 < sizeLine; decide)
theorem bp_count {x : Int} (h : H b = some (bagO c a r s n)) : DPut H b (.str "count") (.int x) (upd H b (bagO c a r s x)) := dput_of h (by unfold putK; simp [kns kne4, kns kne7, kns kne9, kns kne10, Ne.symm (kns kne4), Ne.symm (kns kne7), Ne.symm (kns kne9), Ne.symm (kns kne10)]) (by show 5 < sizeLine; decide)
end
abbrev spPick : Sp := Sp2 fun x y H Q _ => ∃ (b : Addr) (m : Int), x = .ref b ∧ y = .int m ∧ 0 < m ∧ m < 1073741824 ∧ BagAt H b ∧ ∀ (v : Int) (H' : Hp), 0 ≤ v → v < m → BagAt H' b → Kp b H H' → Q (.int v) H'
abbrev spChoice (K : PySem.W.Frag) : Sp := Sp2 fun x y H Q _ => ∃ (b t : Addr) (xs : List V), x = .ref b ∧ y = .ref t ∧ H t = some (.lst xs) ∧ 0 < xs.length ∧ xs.length < 1073741824 ∧ t ≠ b ∧ BagAt H b ∧ ∀ (i : Nat) (v : V) (H' : Hp), xs[i]? = some v → BagAt H' b → Kp b H H' → Q v H'
end My
namespace My
open PySem PySem.Spec PyProof.Rows L2
/-! ### plain things: what a law hands about -/
inductive Pl (H : Hp) : V → Prop where
  | int (i : Int) : Pl H (.int i)
  | bl (b : Bool) : Pl H (.bl b)
  | non : Pl H .non
  | str (s : Str) : Pl H (.str s)
  | tup {a : Addr} {xs : List V} (h : H a = some (.tup xs)) : Pl H (.ref a)
  | lst {a : Addr} {xs : List V} (h : H a = some (.lst xs)) : Pl H (.ref a)
  | dK {a : Addr} {kvs : List (Key × V)} (h : H a = some (.dK kvs)) : Pl H (.ref a)
theorem Pl.kp {H H' : Hp} {x : V} {b : Addr} (h : Pl H x) (k : Kp b H H') (n : x ≠ .ref b) : Pl H' x := by
  cases h with
  | int i => exact .int i
  | bl b => exact .bl b
  | non => exact .non
  | str s => exact .str s
  | @tup a xs e => exact .tup (k a _ (fun z => n (by rw [z])) e)
  | @lst a xs e => exact .lst (k a _ (fun z => n (by rw [z])) e)
  | @dK a xs e => exact .dK (k a _ (fun z => n (by rw [z])) e)
theorem Pl.same {H H' : Hp} {x : V} (h : Pl H x) (k : Same H H') : Pl H' x := by
  cases h with
  | int i => exact .int i
  | bl b => exact .bl b
  | non => exact .non
  | str s => exact .str s
  | tup e => exact .tup (k _ _ e)
  | lst e => exact .lst (k _ _ e)
  | dK e => exact .dK (k _ _ e)
def isI : V → Bool
  | .int _ => true
  | _ => false
def isB : V → Bool
  | .bl _ => true
  | _ => false
def isS : V → Bool
  | .str _ => true
  | _ => false
section
variable {K : PySem.W.Frag} {H : Hp} {x : V} {Q : VK}
theorem isi_ty {n m : String} {b : Bool} (h : TyX K H x (.type n)) (hb : kitB n m = some b) (q : Q (.bl b) H) : rIsi K [x, .ty m] H Q := ⟨x, .ty m, .type n, .type m, b, rfl, .ty m, h, kit_ty hb, q⟩
theorem isi_int (h : Pl H x) (q : Q (.bl (isI x || isB x)) H) : rIsi K [x, .ty "int"] H Q := by
  cases h with
  | int i => exact isi_ty (b := true) (.base (.int i)) (by decide +kernel) q
  | bl b => exact isi_ty (b := true) (.base (.bl b)) (by decide +kernel) q
  | non => exact isi_ty (b := false) (.base .non) (by decide +kernel) q
  | str s => exact isi_ty (b := false) (.base (.str s)) (by decide +kernel) q
  | tup e => exact isi_ty (b := false) (.base (.tup e)) (by decide +kernel) q
  | lst e => exact isi_ty (b := false) (.base (.lst e)) (by decide +kernel) q
  | dK e => exact isi_ty (b := false) (.base (.dK e)) (by decide +kernel) q
theorem isi_bool (h : Pl H x) (q : Q (.bl (isB x)) H) : rIsi K [x, .ty "bool"] H Q := by
  cases h with
  | int i => exact isi_ty (b := false) (.base (.int i)) (by decide +kernel) q
  | bl b => exact isi_ty (b := true) (.base (.bl b)) (by decide +kernel) q
  | non => exact isi_ty (b := false) (.base .non) (by decide +kernel) q
  | str s => exact isi_ty (b := false) (.base (.str s)) (by decide +kernel) q
  | tup e => exact isi_ty (b := false) (.base (.tup e)) (by decide +kernel) q
  | lst e => exact isi_ty (b := false) (.base (.lst e)) (by decide +kernel) q
  | dK e => exact isi_ty (b := false) (.base (.dK e)) (by decide +kernel) q
theorem isi_str (h : Pl H x) (q : Q (.bl (isS x)) H) : rIsi K [x, .ty "str"] H Q := by
  cases h with
  | int i => exact isi_ty (b := false) (.base (.int i)) (by decide +kernel) q
  | bl b => exact isi_ty (b := false) (.base (.bl b)) (by decide +kernel) q
  | non => exact isi_ty (b := false) (.base .non) (by decide +kernel) q
  | str s => exact isi_ty (b := true) (.base (.str s)) (by decide +kernel) q
  | tup e => exact isi_ty (b := false) (.base (.tup e)) (by decide +kernel) q
  | lst e => exact isi_ty (b := false) (.base (.lst e)) (by decide +kernel) q
  | dK e => exact isi_ty (b := false) (.base (.dK e)) (by decide +kernel) q
end
def btw : V → Int → Int → Bool
  | .int i, lo, hi => decide (lo ≤ i) && decide (i ≤ hi)
  | _, _, _ => false
/-! ### widths -/
def hf (w : Int) : Int := 2 ^ (w - 1).toNat
def isW : V → Bool
  | .int i => decide (i = 16 ∨ i = 24 ∨ i = 32)
  | _ => false
def Wd (w : Int) : Prop := w = 16 ∨ w = 24 ∨ w = 32
theorem isW_int {w : Int} (h : Wd w) : isW (.int w) = true := decide_eq_true h
theorem isW_of {x : V} (h : isW x = true) : ∃ w, x = .int w ∧ Wd w := by
  cases x with
  | int i => exact ⟨i, rfl, (of_decide_eq_true h : i = 16 ∨ i = 24 ∨ i = 32)⟩
  | _ => cases h
def isN (w : Int) (x : V) : Bool := btw x (-(hf w)) (hf w - 1)
def wrapI (w n : Int) : Int := (n + hf w) % (2 * hf w) - hf w
theorem hf_val {w : Int} (h : Wd w) : (w = 16 ∧ hf w = 32768) ∨ (w = 24 ∧ hf w = 8388608) ∨ (w = 32 ∧ hf w = 2147483648) := by
  rcases h with rfl | rfl | rfl
  · exact .inl ⟨rfl, rfl⟩
  · exact .inr (.inl ⟨rfl, rfl⟩)
  · exact .inr (.inr ⟨rfl, rfl⟩)
theorem hf_pos {w : Int} (h : Wd w) : 0 < hf w ∧ hf w ≤ 2147483648 := by
  rcases hf_val h with ⟨_, e⟩ | ⟨_, e⟩ | ⟨_, e⟩ <;> rw [e] <;> decide
theorem op_fdivL {X : Cx} : OpR X (binaryOp .FloorDiv) (rI (fun _ j => j ≠ 0 ∧ j.natAbs.log2 < 9000) fun i j => .int (i.fdiv j)) := opI fun _ _ _ _ _ _ _ hc q => floordiv_int hc.1 q (.inl (PyProof.noPylong_of_log2 hc.2))
end My
namespace My
open PySem PySem.Spec PyProof.Rows L2
section
variable {X : Cx}
theorem CallR_imp {f : Value} {r r' : List V → Hp → VK → Prop} (h : CallR X f r) (i : ∀ xs H Q, r' xs H Q → r xs H Q) : CallR X f r' := fun pins s σ H xs us Q I rv q => h pins s σ H xs us Q I rv (i xs H Q q)
theorem call_isInt : CallR X (.builtin "isinstance") (fun xs H Q => ∃ x, xs = [x, .ty "int"] ∧ Pl H x ∧ Q (.bl (isI x || isB x)) H) := CallR_imp call_isi fun xs H Q ⟨x, e, p, q⟩ => by rw [e]; exact isi_int p q
theorem call_isBool : CallR X (.builtin "isinstance") (fun xs H Q => ∃ x, xs = [x, .ty "bool"] ∧ Pl H x ∧ Q (.bl (isB x)) H) := CallR_imp call_isi fun xs H Q ⟨x, e, p, q⟩ => by rw [e]; exact isi_bool p q
theorem call_isStr : CallR X (.builtin "isinstance") (fun xs H Q => ∃ x, xs = [x, .ty "str"] ∧ Pl H x ∧ Q (.bl (isS x)) H) := CallR_imp call_isi fun xs H Q ⟨x, e, p, q⟩ => by rw [e]; exact isi_str p q
/-- isinstance(x, tuple) of what is a tuple -/
theorem call_isTup : CallR X (.builtin "isinstance") (fun xs H Q => ∃ a ys, xs = [.ref a, .ty "tuple"] ∧ H a = some (.tup ys) ∧ Q (.bl true) H) := CallR_imp call_isi fun xs H Q ⟨a, ys, e, h, q⟩ => by
  rw [e]; exact isi_ty (.base (.tup h)) (by decide +kernel) q
theorem call_isTupK : CallR X (.builtin "isinstance") (fun xs H Q => ∃ a o, xs = [.ref a, .ty "tuple"] ∧ X.K.lookup a = some o ∧ o.cls = .type "tuple" ∧ Q (.bl true) H) := CallR_imp call_isi fun xs H Q ⟨a, o, e, h, hc, q⟩ => by
  rw [e]; exact isi_ty (.kTuple h hc) (by decide +kernel) q
end
theorem iteD {p : Prop} [Decidable p] {A B : Prop} (h1 : p → A) (h2 : ¬ p → B) : if decide p = true then A else B := by
  by_cases h : p
  · rw [if_pos (decide_eq_true h)]; exact h1 h
  · rw [if_neg (fun e => h (of_decide_eq_true e))]; exact h2 h
theorem iteND {p : Prop} [Decidable p] {A B : Prop} (h1 : ¬ p → A) (h2 : p → B) : if (!decide p) = true then A else B := by
  by_cases h : p
  · rw [decide_eq_true h]; exact iteF (h2 h)
  · rw [decide_eq_false h]; exact iteT (h1 h)
theorem iteDT {p : Prop} [Decidable p] {A B : Prop} (hp : p) (h : A) : if decide p = true then A else B := by rw [if_pos (decide_eq_true hp)]; exact h
theorem iteDF {p : Prop} [Decidable p] {A B : Prop} (hp : ¬ p) (h : B) : if decide p = true then A else B := by rw [if_neg (fun e => hp (of_decide_eq_true e))]; exact h
theorem iteB {c : Bool} {A B : Prop} (h1 : c = true → A) (h2 : c = false → B) : if c = true then A else B := by
  cases c
  · exact iteF (h2 rfl)
  · exact iteT (h1 rfl)
theorem Pl.new {H : Hp} {x : V} {l : Addr} {o : HO} (h : Pl H x) (hl : H l = none) : Pl (upd H l o) x := h.same (Same.new (Same.refl H) hl)
end My
namespace My
open PySem PySem.Spec PyProof.Rows L2
def bit (n : Int) (k : Nat) : Int := n / 2 ^ k % 2
def bts (w : Nat) (n : Int) : List Int := (List.range w).map (bit n)
theorem bit_01 (n : Int) (k : Nat) : bit n k = 0 ∨ bit n k = 1 := by unfold bit; omega
theorem bts_len (w : Nat) (n : Int) : (bts w n).length = w := by simp [bts]
theorem bts_get {w k : Nat} (n : Int) (h : k < w) : (bts w n)[k]? = some (bit n k) := by simp [bts, h]
theorem bts_succ (k : Nat) (n : Int) : bts (k + 1) n = bts k n ++ [bit n k] := by simp [bts, List.range_succ]
theorem bts_zero (n : Int) : bts 0 n = [] := rfl
theorem pow2_pos (k : Nat) : (0 : Int) < 2 ^ k := Int.pow_pos (by decide)
/-- q * P + r, in the range: quotient and rest -/
theorem dm {P q r x : Int} (hx : x = P * q + r) (h0 : 0 ≤ r) (h1 : r < P) : x / P = q ∧ x % P = r :=
  (Int.ediv_emod_unique (by omega)).mpr ⟨by rw [hx]; omega, h0, h1⟩
theorem bit_of {P n A r : Int} {k : Nat} (e : (2 : Int) ^ k = P) (hn : n = P * A + r) (h0 : 0 ≤ r) (h1 : r < P) : bit n k = A % 2 := by
  unfold bit; rw [e, (dm hn h0 h1).1]
/-- the carry into place k -/
def car (a b c : Int) (k : Nat) : Int := (a % 2 ^ k + b % 2 ^ k + c) / 2 ^ k
theorem car_01 {a b c : Int} (hc : c = 0 ∨ c = 1) (k : Nat) : car a b c k = 0 ∨ car a b c k = 1 := by
  have hP := pow2_pos k
  have h1 := Int.emod_nonneg a (Int.ne_of_gt hP)
  have h2 := Int.emod_lt_of_pos a hP
  have h3 := Int.emod_nonneg b (Int.ne_of_gt hP)
  have h4 := Int.emod_lt_of_pos b hP
  unfold car
  generalize (2 : Int) ^ k = P at *
  generalize a % P = x at *
  generalize b % P = y at *
  by_cases h : x + y + c < P
  · exact .inl (Int.ediv_eq_zero_of_lt (by omega) h)
  · refine .inr (dm (q := 1) (r := x + y + c - P) (by omega) (by omega) (by omega)).1
theorem split2 (A : Int) : ∃ q t, A = 2 * q + t ∧ (t = 0 ∨ t = 1) ∧ A % 2 = t := ⟨A / 2, A % 2, by omega, by omega, rfl⟩
theorem mod_next (a : Int) (k : Nat) : a % 2 ^ (k + 1) = 2 ^ k * bit a k + a % 2 ^ k := by
  have hP := pow2_pos k
  unfold bit
  rw [Int.pow_succ]
  have h1 := Int.emod_nonneg a (Int.ne_of_gt hP)
  have h2 := Int.emod_lt_of_pos a hP
  have h3 := Int.mul_ediv_add_emod a (2 ^ k)
  generalize (2 : Int) ^ k = P at *
  obtain ⟨q, t, e, ht, et⟩ := split2 (a / P)
  rw [et]
  have e2 : a = (P * 2) * q + (P * t + a % P) := by
    rw [e] at h3
    rw [Int.mul_add, ← Int.mul_assoc] at h3
    omega
  rcases ht with rfl | rfl
  · exact (dm e2 (by omega) (by omega)).2
  · exact (dm e2 (by omega) (by omega)).2
theorem add_bit {a b c : Int} (k : Nat) : bit a k + bit b k + car a b c k = bit (a + b + c) k + 2 * car a b c (k + 1) := by
  have hP := pow2_pos k
  have h1 := Int.mul_ediv_add_emod a (2 ^ k)
  have h2 := Int.mul_ediv_add_emod b (2 ^ k)
  have na := mod_next a k
  have nb := mod_next b k
  have e1 : (a + b + c) / 2 ^ k = a / 2 ^ k + b / 2 ^ k + car a b c k := by
    unfold car
    have e : a + b + c = (a % 2 ^ k + b % 2 ^ k + c) + 2 ^ k * (a / 2 ^ k + b / 2 ^ k) := by rw [Int.mul_add]; omega
    conv => lhs; rw [e]
    rw [Int.add_mul_ediv_left _ _ (Int.ne_of_gt hP)]
    omega
  have e2 : car a b c (k + 1) = (bit a k + bit b k + car a b c k) / 2 := by
    unfold car
    rw [na, nb, Int.pow_succ, ← Int.ediv_ediv_of_nonneg (Int.le_of_lt hP)]
    have e : 2 ^ k * bit a k + a % 2 ^ k + (2 ^ k * bit b k + b % 2 ^ k) + c = (a % 2 ^ k + b % 2 ^ k + c) + 2 ^ k * (bit a k + bit b k) := by rw [Int.mul_add]; omega
    rw [e, Int.add_mul_ediv_left _ _ (Int.ne_of_gt hP)]
    congr 1; omega
  rw [e2]
  have e3 : bit (a + b + c) k = (a / 2 ^ k + b / 2 ^ k + car a b c k) % 2 := by
    show (a + b + c) / 2 ^ k % 2 = _
    rw [e1]
  rw [e3]
  show a / 2 ^ k % 2 + b / 2 ^ k % 2 + car a b c k = (a / 2 ^ k + b / 2 ^ k + car a b c k) % 2 + 2 * ((a / 2 ^ k % 2 + b / 2 ^ k % 2 + car a b c k) / 2)
  generalize a / 2 ^ k = A
  generalize b / 2 ^ k = B
  generalize car a b c k = C
  omega
theorem bit_next (n : Int) (k : Nat) : bit n (k + 1) = bit (n / 2) k := by
  unfold bit
  rw [Int.pow_succ, Int.mul_comm, ← Int.ediv_ediv_of_nonneg (by decide)]
theorem bit_zero (n : Int) : bit n 0 = n % 2 := by unfold bit; simp
theorem bit_not (n : Int) (k : Nat) : bit (-1 - n) k = 1 - bit n k := by
  induction k generalizing n with
  | zero => rw [bit_zero, bit_zero]; omega
  | succ k ih =>
    rw [bit_next, bit_next]
    have e : (-1 - n) / 2 = -1 - n / 2 := by omega
    rw [e, ih]
theorem bits_not (w : Nat) (n : Int) : (bts w n).map (fun b => 1 - b) = bts w (-1 - n) := by
  unfold bts
  rw [List.map_map]
  exact List.map_congr_left fun k _ => (bit_not n k).symm
/-- a row of bits, the first i of them -/
def val (n : Int) : Nat → Int
  | 0 => 0
  | i + 1 => val n i + bit n i * 2 ^ i
theorem val_mod (n : Int) : ∀ i, val n i = n % 2 ^ i
  | 0 => by show 0 = n % 1; omega
  | i + 1 => by
    show val n i + bit n i * 2 ^ i = n % 2 ^ (i + 1)
    rw [val_mod n i, mod_next, Int.mul_comm]; omega
theorem val_wrap {w : Int} (hw : Wd w) (n : Int) : val n (w - 1).toNat - bit n (w - 1).toNat * 2 ^ (w - 1).toNat = wrapI w n := by
  rw [val_mod]
  unfold wrapI
  show n % 2 ^ (w - 1).toNat - n / 2 ^ (w - 1).toNat % 2 * 2 ^ (w - 1).toNat = _
  have e : (2 : Int) ^ (w - 1).toNat = hf w := rfl
  rw [e]
  obtain ⟨h0, _⟩ := hf_pos hw
  have h3 := Int.mul_ediv_add_emod n (hf w)
  have h1 := Int.emod_nonneg n (Int.ne_of_gt h0)
  have h2 := Int.emod_lt_of_pos n h0
  generalize hf w = P at *
  obtain ⟨q, t, e, ht, et⟩ := split2 (n / P)
  rw [et]
  rw [e] at h3
  have h4 : P * (2 * q + t) = 2 * P * q + P * t := by rw [Int.mul_add, ← Int.mul_assoc, Int.mul_comm P 2]
  rw [h4] at h3
  rcases ht with rfl | rfl
  · rw [(dm (P := 2 * P) (q := q) (r := n % P + P) (x := n + P) (by omega) (by omega) (by omega)).2]; omega
  · rw [(dm (P := 2 * P) (q := q + 1) (r := n % P) (x := n + P) (by rw [Int.mul_add]; omega) (by omega) (by omega)).2]; omega
/-! ### and, or, xor -/
theorem and_nat (a b : Nat) : ((a &&& b : Nat) : Int) = 2 * ((a / 2 &&& b / 2 : Nat) : Int) + ((a : Int) % 2) * ((b : Int) % 2) := by
  have h1 : (a &&& b) / 2 = a / 2 &&& b / 2 := Nat.and_div_two
  have h2 : (a &&& b) % 2 = (a % 2) * (b % 2) := by
    have h := Nat.and_mod_two_pow (a := a) (b := b) (n := 1)
    rw [Nat.pow_one] at h
    rw [h]
    rcases Nat.mod_two_eq_zero_or_one a with h | h <;> rcases Nat.mod_two_eq_zero_or_one b with h' | h' <;> rw [h, h'] <;> rfl
  have h3 : (a &&& b) = 2 * ((a &&& b) / 2) + (a &&& b) % 2 := by omega
  rw [h1, h2] at h3
  have h4 : ((a &&& b : Nat) : Int) = ((2 * (a / 2 &&& b / 2) + a % 2 * (b % 2) : Nat) : Int) := by rw [← h3]
  rw [h4]
  push_cast
  rfl
theorem or_nat (a b : Nat) : ((a ||| b : Nat) : Int) = 2 * ((a / 2 ||| b / 2 : Nat) : Int) + ((a : Int) % 2 + (b : Int) % 2 - ((a : Int) % 2) * ((b : Int) % 2)) := by
  have h1 : (a ||| b) / 2 = a / 2 ||| b / 2 := Nat.or_div_two
  have h2 : ((a ||| b) % 2 : Nat) = (a % 2) + (b % 2) - (a % 2) * (b % 2) := by
    have h := Nat.or_mod_two_pow (a := a) (b := b) (n := 1)
    rw [Nat.pow_one] at h
    rw [h]
    rcases Nat.mod_two_eq_zero_or_one a with h | h <;> rcases Nat.mod_two_eq_zero_or_one b with h' | h' <;> rw [h, h'] <;> rfl
  have h3 : (a ||| b) = 2 * ((a ||| b) / 2) + (a ||| b) % 2 := by omega
  rw [h1, h2] at h3
  have h4 : ((a ||| b : Nat) : Int) = ((2 * (a / 2 ||| b / 2) + (a % 2 + b % 2 - a % 2 * (b % 2)) : Nat) : Int) := by rw [← h3]
  rw [h4]
  have ha : (a % 2 : Nat) = 0 ∨ (a % 2 : Nat) = 1 := by omega
  have hb : (b % 2 : Nat) = 0 ∨ (b % 2 : Nat) = 1 := by omega
  have ea : (a : Int) % 2 = ((a % 2 : Nat) : Int) := by push_cast; rfl
  have eb : (b : Int) % 2 = ((b % 2 : Nat) : Int) := by push_cast; rfl
  rw [ea, eb]
  rcases ha with ha | ha <;> rcases hb with hb | hb <;> rw [ha, hb] <;> push_cast <;> omega
theorem not_half (y : Int) : (Builtin.bitNot y) / 2 = Builtin.bitNot (y / 2) := by unfold Builtin.bitNot; omega
theorem mul01 {a b : Int} (ha : a = 0 ∨ a = 1) (hb : b = 0 ∨ b = 1) : a * b = 0 ∨ a * b = 1 := by rcases ha with rfl | rfl <;> rcases hb with rfl | rfl <;> decide
theorem and_rec (x y : Int) : Builtin.bitAnd x y = 2 * Builtin.bitAnd (x / 2) (y / 2) + (x % 2) * (y % 2) := by
  by_cases hx : 0 ≤ x <;> by_cases hy : 0 ≤ y
  · have h1 : 0 ≤ x / 2 := by omega
    have h2 : 0 ≤ y / 2 := by omega
    have n := and_nat x.toNat y.toNat
    unfold Builtin.bitAnd
    simp only [decide_eq_true hx, decide_eq_true hy, decide_eq_true h1, decide_eq_true h2]
    rw [n]
    have e1 : ((x.toNat : Nat) : Int) = x := Int.toNat_of_nonneg hx
    have e2 : ((y.toNat : Nat) : Int) = y := Int.toNat_of_nonneg hy
    have e3 : x.toNat / 2 = (x / 2).toNat := by omega
    have e4 : y.toNat / 2 = (y / 2).toNat := by omega
    rw [e1, e2, e3, e4]
  · have h1 : 0 ≤ x / 2 := by omega
    have h2 : ¬ 0 ≤ y / 2 := by omega
    have n := and_nat x.toNat (Builtin.bitNot y).toNat
    unfold Builtin.bitAnd
    simp only [decide_eq_true hx, decide_eq_false hy, decide_eq_true h1, decide_eq_false h2]
    rw [n]
    have hn : 0 ≤ Builtin.bitNot y := by unfold Builtin.bitNot; omega
    have e1 : ((x.toNat : Nat) : Int) = x := Int.toNat_of_nonneg hx
    have e2 : (((Builtin.bitNot y).toNat : Nat) : Int) = Builtin.bitNot y := Int.toNat_of_nonneg hn
    have e3 : x.toNat / 2 = (x / 2).toNat := by omega
    have e4 : (Builtin.bitNot y).toNat / 2 = (Builtin.bitNot (y / 2)).toNat := by rw [← not_half]; omega
    rw [e1, e2, e3, e4]
    have hb : Builtin.bitNot y % 2 = 1 - y % 2 := by unfold Builtin.bitNot; omega
    rw [hb]
    rcases (show x % 2 = 0 ∨ x % 2 = 1 by omega) with h | h <;> rcases (show y % 2 = 0 ∨ y % 2 = 1 by omega) with h' | h' <;> rw [h, h'] <;> omega
  · have h1 : ¬ 0 ≤ x / 2 := by omega
    have h2 : 0 ≤ y / 2 := by omega
    have n := and_nat y.toNat (Builtin.bitNot x).toNat
    unfold Builtin.bitAnd
    simp only [decide_eq_false hx, decide_eq_true hy, decide_eq_false h1, decide_eq_true h2]
    rw [n]
    have hn : 0 ≤ Builtin.bitNot x := by unfold Builtin.bitNot; omega
    have e1 : ((y.toNat : Nat) : Int) = y := Int.toNat_of_nonneg hy
    have e2 : (((Builtin.bitNot x).toNat : Nat) : Int) = Builtin.bitNot x := Int.toNat_of_nonneg hn
    have e3 : y.toNat / 2 = (y / 2).toNat := by omega
    have e4 : (Builtin.bitNot x).toNat / 2 = (Builtin.bitNot (x / 2)).toNat := by rw [← not_half]; omega
    rw [e1, e2, e3, e4]
    have hb : Builtin.bitNot x % 2 = 1 - x % 2 := by unfold Builtin.bitNot; omega
    rw [hb]
    rcases (show x % 2 = 0 ∨ x % 2 = 1 by omega) with h | h <;> rcases (show y % 2 = 0 ∨ y % 2 = 1 by omega) with h' | h' <;> rw [h, h'] <;> omega
  · have h1 : ¬ 0 ≤ x / 2 := by omega
    have h2 : ¬ 0 ≤ y / 2 := by omega
    have n := or_nat (Builtin.bitNot x).toNat (Builtin.bitNot y).toNat
    unfold Builtin.bitAnd
    simp only [decide_eq_false hx, decide_eq_false hy, decide_eq_false h1, decide_eq_false h2]
    rw [n]
    have hm : 0 ≤ Builtin.bitNot x := by unfold Builtin.bitNot; omega
    have hn : 0 ≤ Builtin.bitNot y := by unfold Builtin.bitNot; omega
    have e1 : (((Builtin.bitNot x).toNat : Nat) : Int) = Builtin.bitNot x := Int.toNat_of_nonneg hm
    have e2 : (((Builtin.bitNot y).toNat : Nat) : Int) = Builtin.bitNot y := Int.toNat_of_nonneg hn
    have e3 : (Builtin.bitNot x).toNat / 2 = (Builtin.bitNot (x / 2)).toNat := by rw [← not_half]; omega
    have e4 : (Builtin.bitNot y).toNat / 2 = (Builtin.bitNot (y / 2)).toNat := by rw [← not_half]; omega
    rw [e1, e2, e3, e4]
    have ha : Builtin.bitNot x % 2 = 1 - x % 2 := by unfold Builtin.bitNot; omega
    have hb : Builtin.bitNot y % 2 = 1 - y % 2 := by unfold Builtin.bitNot; omega
    rw [ha, hb]
    generalize ((Builtin.bitNot (x / 2)).toNat ||| (Builtin.bitNot (y / 2)).toNat : Nat) = O
    show -(2 * (O : Int) + (1 - x % 2 + (1 - y % 2) - (1 - x % 2) * (1 - y % 2))) - 1 = 2 * (-(O : Int) - 1) + x % 2 * (y % 2)
    rcases (show x % 2 = 0 ∨ x % 2 = 1 by omega) with h | h <;> rcases (show y % 2 = 0 ∨ y % 2 = 1 by omega) with h' | h' <;> rw [h, h'] <;> omega
theorem m2 (x : Int) : x % 2 = 0 ∨ x % 2 = 1 := by omega
theorem and_half (x y : Int) : Builtin.bitAnd x y % 2 = (x % 2) * (y % 2) ∧ Builtin.bitAnd x y / 2 = Builtin.bitAnd (x / 2) (y / 2) := by
  have h := and_rec x y
  have m := mul01 (m2 x) (m2 y)
  generalize x % 2 * (y % 2) = p at *
  omega
theorem bit_and (x y : Int) (k : Nat) : bit (Builtin.bitAnd x y) k = bit x k * bit y k := by
  induction k generalizing x y with
  | zero => rw [bit_zero, bit_zero, bit_zero]; exact (and_half x y).1
  | succ k ih => rw [bit_next, bit_next, bit_next, (and_half x y).2, ih]
theorem bit_or (x y : Int) (k : Nat) : bit (Builtin.bitOr x y) k = bit x k + bit y k - bit x k * bit y k := by
  induction k generalizing x y with
  | zero =>
    rw [bit_zero, bit_zero, bit_zero, bitOr_and]
    have h := and_rec x y
    have m := mul01 (m2 x) (m2 y)
    rcases m2 x with hx | hx <;> rcases m2 y with hy | hy <;> rw [hx, hy] at h ⊢ <;> omega
  | succ k ih =>
    rw [bit_next, bit_next, bit_next, ← ih, bitOr_and, bitOr_and]
    have h := and_rec x y
    congr 1
    rcases m2 x with hx | hx <;> rcases m2 y with hy | hy <;> rw [hx, hy] at h <;> omega
theorem bit_xor (x y : Int) (k : Nat) : bit (Builtin.bitXor x y) k = (bit x k + bit y k) % 2 := by
  induction k generalizing x y with
  | zero =>
    rw [bit_zero, bit_zero, bit_zero, bitXor_and]
    have h := and_rec x y
    rcases m2 x with hx | hx <;> rcases m2 y with hy | hy <;> rw [hx, hy] at h ⊢ <;> omega
  | succ k ih =>
    rw [bit_next, bit_next, bit_next, ← ih, bitXor_and, bitXor_and]
    have h := and_rec x y
    congr 1
    rcases m2 x with hx | hx <;> rcases m2 y with hy | hy <;> rw [hx, hy] at h <;> omega
end My
namespace My
open PySem PySem.Spec PyProof.Rows L2
theorem Same.put {H1 H : Hp} {D : Addr} {o : HO} (h : Same H1 H) (hD : H1 D = none) : Same H1 (upd H D o) := fun p u e => by
  rw [upd_ne (ne_of_none e hD)]; exact h p u e
theorem Kp.put {b : Addr} {H1 H : Hp} {D : Addr} {o : HO} (h : Kp b H1 H) (hD : H1 D = none) : Kp b H1 (L2.upd H D o) := fun p u n e => by
  rw [upd_ne (ne_of_none e hD)]; exact h p u n e
theorem BagAt.put {H : Hp} {b D : Addr} {o : HO} (B : BagAt H b) (hD : H D = none) : BagAt (upd H D o) b := by
  obtain ⟨c, ns, a, r, s, n, hb, hc, ha, hl⟩ := B.ex
  exact ⟨c, ns, a, r, s, n, by rw [upd_ne (ne_of_none hb hD)]; exact hb, by rw [upd_ne (ne_of_none hc hD)]; exact hc, ha, hl⟩
theorem BagAt.same {H H' : Hp} {b : Addr} (B : BagAt H b) (h : Same H H') : BagAt H' b := by
  obtain ⟨c, ns, a, r, s, n, hb, hc, ha, hl⟩ := B.ex
  exact ⟨c, ns, a, r, s, n, h _ _ hb, h _ _ hc, ha, hl⟩
theorem BagAt.some {H : Hp} {b : Addr} (B : BagAt H b) : ∃ o, H b = some o := by
  obtain ⟨c, ns, a, r, s, n, hb, _⟩ := B.ex
  exact ⟨_, hb⟩
/-- a new list at D that grows to ys, all that was tracked ahead of it as it was -/
structure LBd (D : Addr) (ys : List V) (H1 : Hp) (i : Nat) (H : Hp) : Prop where
  hd : H D = some (.lst (ys.take i))
  sm : Same H1 H
theorem LBd_0 {D : Addr} {ys : List V} {H1 : Hp} (hD : H1 D = none) : LBd D ys H1 0 (upd H1 D (.lst [])) := ⟨upd_same, Same.put (Same.refl H1) hD⟩
theorem take_snoc {α : Type} {ys : List α} {i : Nat} {y : α} (hy : ys[i]? = some y) : ys.take (i + 1) = ys.take i ++ [y] := by rw [List.take_add_one, hy]; rfl
theorem LBd_s {D : Addr} {ys : List V} {H1 H : Hp} {i : Nat} {y : V} (h : LBd D ys H1 i H) (hD : H1 D = none) (hy : ys[i]? = some y) (hl : ys.length ≤ 1000000) :
    ∃ acc, H D = some (.lst acc) ∧ acc.length < sizeLine ∧ LBd D ys H1 (i + 1) (upd H D (.lst (acc ++ [y]))) :=
  ⟨_, h.1, by rw [List.length_take, sizeLine_eq]; omega, by rw [← take_snoc hy]; exact upd_same, Same.put h.2 hD⟩
theorem LBd_n {D : Addr} {ys : List V} {H1 H : Hp} {n : Nat} (h : LBd D ys H1 n H) (e : ys.length = n) : H D = some (.lst ys) ∧ Same H1 H := ⟨by rw [← List.take_length (l := ys), e]; exact h.1, h.2⟩
theorem map_get {ns : List Int} {i : Nat} {y : V} (h : (ns.map V.int)[i]? = some y) : ∃ z, ns[i]? = some z ∧ y = .int z := by
  rw [List.getElem?_map] at h
  cases e : ns[i]? with
  | none => rw [e] at h; cases h
  | some z => rw [e] at h; exact ⟨z, rfl, (Option.some.inj h).symm⟩
theorem map_put {ns : List Int} {i : Nat} {z : Int} (h : ns[i]? = some z) : (ns.map V.int)[i]? = some (.int z) := by rw [List.getElem?_map, h]; rfl
theorem merge_bag {c : Addr} : HO.dK (mergeK [] [((Sum.inr ("cells" : Str) : Key), V.ref c), (Sum.inr ("at" : Str), .int 0), (Sum.inr ("rest" : Str), .int 0), (Sum.inr ("seed" : Str), .int 20011), (Sum.inr ("count" : Str), .int 0)]) = bagO c 0 0 20011 0 := by
  unfold mergeK putK bagO
  simp [kns kne1, kns kne2, kns kne3, kns kne4, kns kne5, kns kne6, kns kne7, kns kne8, kns kne9, kns kne10]
abbrev spBag (K : PySem.W.Frag) : Sp := Sp1 fun x H Q _ => ∃ (a : Addr) (ns : List Int), x = .ref a ∧ SqL K H a (ns.map V.int) ∧ ns.length ≤ 63 ∧ ∀ b H', H b = none → BagAt H' b → Same H H' → Q (.ref b) H'
abbrev spHalf : Sp := Sp1 fun x H Q _ => ∃ w, x = .int w ∧ Wd w ∧ ∀ H', Same H H' → Q (.int (hf w)) H'
abbrev spWrap : Sp := Sp2 fun x y H Q _ => ∃ w n, x = .int w ∧ y = .int n ∧ Wd w ∧ ∀ H', Same H H' → Q (.int (wrapI w n)) H'
def InR (w v : Int) : Prop := -(hf w) ≤ v ∧ v < hf w
abbrev spNum : Sp := Sp2 fun x y H Q _ => ∃ (b : Addr) (w : Int), x = .ref b ∧ y = .int w ∧ Wd w ∧ BagAt H b ∧ ∀ v H', InR w v → BagAt H' b → Kp b H H' → Q (.int v) H'
theorem wrap_in {w n : Int} (h : Wd w) : InR w (wrapI w n) := by
  obtain ⟨h0, _⟩ := hf_pos h
  unfold InR wrapI
  have h1 := Int.emod_nonneg (n + hf w) (show 2 * hf w ≠ 0 by omega)
  have h2 := Int.emod_lt_of_pos (n + hf w) (show 0 < 2 * hf w by omega)
  omega
end My
namespace My
open PySem PySem.Spec PyProof.Rows L2
theorem tYes_i {σ : L2.St} {H : Hp} {Q : Bool → Hp → Prop} (h : Q true H) : tYes σ H Q := h
end My
namespace My
open PySem PySem.Spec PyProof.Rows L2
theorem pw {w : Int} (h : Wd w) : 2 * hf w = 2 ^ w.toNat := by rcases h with rfl | rfl | rfl <;> rfl
theorem pw1 {w : Int} (h : Wd w) : hf w = 2 ^ (w - 1).toNat := rfl
theorem wnat {w : Int} (h : Wd w) : 0 < w.toNat ∧ w.toNat ≤ 32 ∧ (w.toNat : Int) = w ∧ (w - 1).toNat + 1 = w.toNat := by rcases h with rfl | rfl | rfl <;> decide
/-- the rest behind i halvings -/
def rst (w n : Int) (i : Nat) : Int := n % (2 * hf w) / 2 ^ i
theorem rst_0 {w n : Int} : rst w n 0 = n % (2 * hf w) := by unfold rst; simp
theorem rst_s {w n : Int} (i : Nat) : rst w n i / 2 = rst w n (i + 1) := by
  unfold rst
  rw [Int.pow_succ, Int.ediv_ediv_of_nonneg (Int.le_of_lt (pow2_pos i))]
theorem rst_bit {w n : Int} (h : Wd w) {i : Nat} (hi : i < w.toNat) : rst w n i % 2 = bit n i := by
  unfold rst bit
  rw [pw h]
  have hP := pow2_pos i
  have e : (2 : Int) ^ w.toNat = 2 ^ i * 2 * 2 ^ (w.toNat - i - 1) := by
    rw [← Int.pow_succ, ← Int.pow_add]
    congr 1; omega
  have h3 := Int.mul_ediv_add_emod n (2 ^ w.toNat)
  have h4 : n = n % 2 ^ w.toNat + 2 ^ i * (2 * (2 ^ (w.toNat - i - 1) * (n / 2 ^ w.toNat))) := by
    conv => lhs; rw [← h3]
    rw [show (2 : Int) ^ w.toNat * (n / 2 ^ w.toNat) = 2 ^ i * (2 * (2 ^ (w.toNat - i - 1) * (n / 2 ^ w.toNat))) by
      conv => lhs; arg 1; rw [e]
      simp only [Int.mul_assoc]]
    omega
  conv => rhs; rw [h4]
  rw [Int.add_mul_ediv_left _ _ (Int.ne_of_gt hP)]
  omega
theorem bts_zeros (w : Nat) : bts w 0 = List.replicate w 0 := by
  refine List.ext_getElem (by simp [bts]) fun i h1 h2 => ?_
  simp [bts, bit]
theorem bts_shift {w : Nat} (h : 0 < w) (m : Int) : (0 : Int) :: (bts w m).dropLast = bts w (2 * m) := by
  obtain ⟨v, rfl⟩ : ∃ v, w = v + 1 := ⟨w - 1, by omega⟩
  rw [bts_succ, List.dropLast_concat]
  unfold bts
  rw [List.range_succ_eq_map, List.map_cons, List.map_map]
  congr 1
  · unfold bit; simp
  · refine List.map_congr_left fun k _ => ?_
    show bit m k = bit (2 * m) (k + 1)
    rw [bit_next]
    congr 1; omega
abbrev spBits : Sp := Sp2 fun x y H Q _ => ∃ w n, x = .int w ∧ y = .int n ∧ Wd w ∧ ∀ l H', H l = none → H' l = some (.lst ((bts w.toNat n).map V.int)) → Same H H' → Q (.ref l) H'
abbrev spOfBits (K : PySem.W.Frag) : Sp := Sp1 fun x H Q _ => ∃ (p : Addr) (w n : Int), x = .ref p ∧ H p = some (.lst ((bts w.toNat n).map V.int)) ∧ Wd w ∧ Q (.int (wrapI w n)) H
abbrev spSum (K : PySem.W.Frag) : Sp := Sp3 fun x y z H Q _ => ∃ (p q : Addr) (c : Int) (w : Nat) (a b : Int), x = .ref p ∧ y = .ref q ∧ z = .int c ∧ H p = some (.lst ((bts w a).map V.int)) ∧ H q = some (.lst ((bts w b).map V.int)) ∧ (c = 0 ∨ c = 1) ∧ w ≤ 64 ∧
  ∀ l H', H l = none → H' l = some (.lst ((bts w (a + b + c)).map V.int)) → Same H H' → Q (.ref l) H'
end My
namespace My
open PySem PySem.Spec PyProof.Rows L2
theorem LBd_p {D : Addr} {ys : List V} {H1 H : Hp} {i : Nat} {y : V} (h : LBd D ys H1 i H) (hD : H1 D = none) (hy : ys[i]? = some y) : LBd D ys H1 (i + 1) (upd H D (.lst (ys.take i ++ [y]))) :=
  ⟨by rw [← take_snoc hy]; exact upd_same, Same.put h.2 hD⟩
theorem cut_init (xs : List V) : cutV xs none (some (-1)) = xs.dropLast := by
  unfold cutV
  rw [HT.sIx_none]
  show (xs.drop 0).take (HT.sIx xs.length xs.length (some (-1)) - 0) = _
  have e : HT.sIx xs.length xs.length (some (-1)) = xs.length - 1 := by
    unfold HT.sIx
    simp only
    rw [if_pos (show (-1 : Int) < 0 by decide)]; omega
  rw [e, List.drop_zero, Nat.sub_zero, List.dropLast_eq_take]
end My
namespace My
open PySem PySem.Spec PyProof.Rows L2
abbrev spProd (K : PySem.W.Frag) : Sp := Sp2 fun x y H Q _ => ∃ (p q : Addr) (w : Nat) (a b : Int), x = .ref p ∧ y = .ref q ∧ H p = some (.lst ((bts w a).map V.int)) ∧ H q = some (.lst ((bts w b).map V.int)) ∧ w ≤ 64 ∧ 0 < w ∧
  ∀ l H', H l = none → H' l = some (.lst ((bts w (a * b)).map V.int)) → Same H H' → Q (.ref l) H'
end My

namespace My
open PySem PySem.Spec PyProof.Rows L2
theorem bit_add {w i : Nat} (h : i < w) (x y : Int) : bit (x + 2 ^ w * y) i = bit x i := by
  unfold bit
  have hP := pow2_pos i
  have e : (2 : Int) ^ w = 2 ^ i * (2 * 2 ^ (w - i - 1)) := by
    rw [← Int.mul_assoc, ← Int.pow_succ, ← Int.pow_add]
    congr 1; omega
  rw [e, Int.mul_assoc, Int.add_mul_ediv_left _ _ (Int.ne_of_gt hP), Int.mul_assoc]
  omega
theorem bts_mod (w : Nat) (x y : Int) (h : ∃ z, y = x + 2 ^ w * z) : bts w x = bts w y := by
  obtain ⟨z, rfl⟩ := h
  unfold bts
  exact List.map_congr_left fun k hk => (bit_add (List.mem_range.mp hk) x z).symm
end My
namespace My
open PySem PySem.Spec PyProof.Rows L2
theorem dp_ints {K : PySem.W.Frag} {H : Hp} : ∀ ns : List Int, DpAll K H (ns.map V.int) (ns.map PyData.int)
  | [] => .nil
  | n :: r => .cons (.int n) (dp_ints r)
theorem lay_ints : ∀ ns : List Int, PyData.canLayAll0 (ns.map PyData.int) = true
  | [] => rfl
  | n :: r => by
    have ih := lay_ints r
    simp only [List.map_cons, PyData.canLayAll0, ih]; rfl
theorem deep_ints : ∀ ns : List Int, PyData.depthAll (ns.map PyData.int) ≤ 1
  | [] => by simp [PyData.depthAll]
  | n :: r => by
    have ih := deep_ints r
    simp only [List.map_cons, PyData.depthAll, PyData.depth]; omega
theorem shaped_ints (ns : List Int) : SeqAt.shaped (.list (ns.map PyData.int)) = true := by
  unfold SeqAt.shaped
  have h1 : PyData.canLay0 (.list (ns.map PyData.int)) = true := by simp only [PyData.canLay0]; exact lay_ints ns
  have h2 := deep_ints ns
  have h3 : (PyData.list (ns.map PyData.int)).depth ≤ 64 := by simp only [PyData.depth]; omega
  rw [h1, decide_eq_true h3]; rfl
/-- == of two lists of ints -/
def rEqInts (K : PySem.W.Frag) (neg : Bool) : R2 := fun x y H Q => ∃ (p q : Addr) (xs ys : List Int), x = .ref p ∧ y = .ref q ∧ SqL K H p (xs.map V.int) ∧ SqL K H q (ys.map V.int) ∧ Q (.bl (if neg = true then !decide (xs = ys) else decide (xs = ys))) H
theorem eqv_ints (ns ms : List Int) : PyData.eqv (.list (ns.map PyData.int)) (.list (ms.map PyData.int)) = decide (ns = ms) := by
  rw [← PySem.W.ked_eqvAll]; simp only [PyData.eqv]
theorem op_eqInts {X : Cx} (hu : X.A.units + 64 < cLine) : OpR X (compareOp .Eq) (rEqInts X.K false) := by
  intro pins s σ H x y v u Q I rx ry h
  obtain ⟨p, q, xs, ys, rfl, rfl, hp, hq, k⟩ := h
  refine op_eqD hu pins s σ H _ _ v u Q I rx ry ⟨_, _, .lst hp (dp_ints xs), .lst hq (dp_ints ys), shaped_ints xs, shaped_ints ys, ?_⟩
  rw [eqv_ints]; exact k
theorem op_neInts {X : Cx} (hu : X.A.units + 64 < cLine) : OpR X (compareOp .NotEq) (rEqInts X.K true) := by
  intro pins s σ H x y v u Q I rx ry h
  obtain ⟨p, q, xs, ys, rfl, rfl, hp, hq, k⟩ := h
  refine op_neD hu pins s σ H _ _ v u Q I rx ry ⟨_, _, .lst hp (dp_ints xs), .lst hq (dp_ints ys), shaped_ints xs, shaped_ints ys, ?_⟩
  rw [eqv_ints]; exact k
end My
namespace My
open PySem PySem.Spec PyProof.Rows L2
/-- behind a new object the heap is a heap of its own -/
@[elab_as_elim] theorem alloc_gen {H : Hp} {p : Addr} {o : HO} {G : Hp → Prop} (hp : H p = none) (h : ∀ H1, Same H H1 → H1 p = some o → G H1) : G (upd H p o) :=
  h _ (Same.put (Same.refl H) hp) upd_same
/-- within a try: what a call lets out, whatever the slots are -/
theorem passT {X : Cx} {W : WX} (tk : Takes X W) : Passes (L2.CX X.prog X.w) X (fun cls d H => ∀ σ : L2.St, σ.length = X.N.length → W cls d σ H) :=
  fun _ σ _ _ e s' I c => tk e s' (XE.of_call I (fun _ _ _ h => h σ I.len) c)
theorem BagAt.ne_tup {H : Hp} {b p : Addr} {xs : List V} (B : BagAt H b) (h : H p = Option.some (HO.tup xs)) : p ≠ b := by
  obtain ⟨c, ns, a, r, s, n, hb, _⟩ := B.ex
  exact ne_of h hb (by intro z; cases z)
theorem BagAt.ne_lst {H : Hp} {b p : Addr} {xs : List V} (B : BagAt H b) (h : H p = Option.some (HO.lst xs)) : p ≠ b := by
  obtain ⟨c, ns, a, r, s, n, hb, _⟩ := B.ex
  exact ne_of h hb (by intro z; cases z)
theorem log2_of {n : Nat} (h : n < 2 ^ 9000) : n.log2 < 9000 := by
  by_cases e : n = 0
  · subst e; decide
  · exact (Nat.log2_lt e).mpr h
theorem log2_small {r : Int} (h : r.natAbs ≤ 4294967296) : r.natAbs.log2 < 9000 := by
  by_cases e : r.natAbs = 0
  · rw [e]; decide
  · have h1 : r.natAbs.log2 < 64 := (Nat.log2_lt e).mpr (by omega)
    omega
theorem InR.log2 {w r : Int} (hw : Wd w) (h : InR w r) : r.natAbs.log2 < 9000 := by
  have hq := hf_pos hw
  unfold InR at h
  exact log2_small (by omega)
end My
namespace My
open PySem PySem.Spec PyProof.Rows L2
def rNotInDT (K : PySem.W.Frag) : R2 := fun x y H Q => ∃ (d : PyData) (ds : List PyData), Dp K H x d ∧ Dp K H y (.tuple ds) ∧ SeqAt.shaped d = true ∧ SeqAt.shaped (.tuple ds) = true ∧ Q (.bl (!ds.any fun z => PyData.eqv z d)) H
theorem op_notInDT {X : Cx} (hu : X.A.units + 65 < cLine) : OpR X (compareOp .NotIn) (rNotInDT X.K) := by
  intro pins s σ H x y v u Q I rx ry h
  obtain ⟨d, ds, hd, he, sd, se, q⟩ := h
  obtain ⟨as, r1⟩ := Dp.reads I d x v hd rx
  obtain ⟨bs, r2⟩ := Dp.reads I (.tuple ds) y u he ry
  exact SeqAt.notIn_tuple_reads r2 r1 (SeqAt.canLay_of_shaped se) (SeqAt.canLay_of_shaped sd) (room_in_shaped sd hu) ⟨.bl _, H, I, rfl, q⟩
end My
namespace My
open PySem PySem.Spec PyProof.Rows L2
/-! ### plain things as data -/
inductive PD (H : Hp) : V → PyData → Prop where
  | int (i : Int) : PD H (.int i) (.int i)
  | bl (b : Bool) : PD H (.bl b) (.bool b)
  | non : PD H .non .none
  | str (s : Str) (h : PyData.strOk s = true) : PD H (.str s) (.str s)
  | tupI {a : Addr} {i : Int} (h : H a = some (.tup [.int i])) : PD H (.ref a) (.tuple [.int i])
  | tupS {a : Addr} {s : Str} (h : H a = some (.tup [.str s])) (hs : PyData.strOk s = true) : PD H (.ref a) (.tuple [.str s])
theorem PD.pl {H : Hp} {v : V} {d : PyData} (h : PD H v d) : Pl H v := by
  cases h with
  | int i => exact .int i
  | bl b => exact .bl b
  | non => exact .non
  | str s _ => exact .str s
  | tupI h => exact .tup h
  | tupS h _ => exact .tup h
theorem PD.same {H H' : Hp} {v : V} {d : PyData} (h : PD H v d) (k : Same H H') : PD H' v d := by
  cases h with
  | int i => exact .int i
  | bl b => exact .bl b
  | non => exact .non
  | str s h => exact .str s h
  | tupI h => exact .tupI (k _ _ h)
  | tupS h hs => exact .tupS (k _ _ h) hs
theorem PD.kp {H H' : Hp} {v : V} {d : PyData} {b : Addr} (h : PD H v d) (B : BagAt H b) (k : Kp b H H') : PD H' v d := by
  cases h with
  | int i => exact .int i
  | bl b => exact .bl b
  | non => exact .non
  | str s h => exact .str s h
  | tupI h => exact .tupI (k _ _ (B.ne_tup h) h)
  | tupS h hs => exact .tupS (k _ _ (B.ne_tup h) h) hs
theorem PD.dp {K : PySem.W.Frag} {H : Hp} {v : V} {d : PyData} (h : PD H v d) : Dp K H v d := by
  cases h with
  | int i => exact .int i
  | bl b => exact .bl b
  | non => exact .non
  | str s _ => exact .str s
  | tupI h => exact .tup (SqT.of h) (.cons (.int _) .nil)
  | tupS h _ => exact .tup (SqT.of h) (.cons (.str _) .nil)
theorem PD.lay {H : Hp} {v : V} {d : PyData} (h : PD H v d) : d.canLay0 = true := by
  cases h with
  | int i => simp [PyData.canLay0]
  | bl b => simp [PyData.canLay0]
  | non => simp [PyData.canLay0]
  | str s h => simpa [PyData.canLay0] using h
  | tupI h => simp [PyData.canLay0, PyData.canLayAll0]
  | tupS h hs => simpa [PyData.canLay0, PyData.canLayAll0] using hs
theorem PD.shp {H : Hp} {v : V} {d : PyData} (h : PD H v d) : SeqAt.shaped d = true := by
  have h1 := h.lay
  unfold SeqAt.shaped
  rw [h1, Bool.true_and]
  cases h <;> simp [PyData.depth, PyData.depthAll]
theorem PD.refl {H : Hp} {v : V} {d : PyData} (h : PD H v d) : PyData.eqv d d = true := SeqAt.eqv_refl d h.lay
/-- a pair: a word and a thing -/
abbrev spSame : Sp := Sp2 fun x y H Q _ => ∃ (t u : Addr) (k : Str) (v : V) (d : PyData), x = .ref t ∧ y = .ref u ∧ H t = some (.tup [.str k, v]) ∧ H u = some (.tup [.str k, v]) ∧ PD H v d ∧ Q (.bl true) H
theorem find_first {α : Type} {p : α → Bool} : ∀ {l : List α} {i : Nat} {y : α}, (∀ j x, j < i → l[j]? = some x → p x = false) → l[i]? = some y → p y = true → l.find? p = some y
  | [], i, y, _, h, _ => by simp at h
  | a :: r, 0, y, _, h, hp => by
    have e : a = y := Option.some.inj h
    subst e
    rw [List.find?_cons, hp]
  | a :: r, i + 1, y, hn, h, hp => by
    have ha : p a = false := hn 0 a (Nat.succ_pos i) rfl
    rw [List.find?_cons, ha]
    exact find_first (l := r) (i := i) (fun j x hj hx => hn (j + 1) x (Nat.succ_lt_succ hj) hx) h hp
theorem find_none {α : Type} {p : α → Bool} {l : List α} (h : ∀ (j : Nat) (x : α), l[j]? = some x → p x = false) : l.find? p = none := by
  refine List.find?_eq_none.mpr fun x hx => ?_
  obtain ⟨j, hj⟩ := List.mem_iff_getElem?.mp hx
  rw [h j x hj]; decide
end My
namespace My
open PySem PySem.Spec PyProof.Rows L2
/-- f(a, ..), f a def with *rest -/
theorem pe_callR {X : Cx} {CX : CXT} {k : Nat} {f : Addr} {sp : Sp} {E : XK} {x : Str} {e : Expr} {es : List Expr} {t : TA} {p pos : Pos} (F : FnR X.prog X.w X.K X.mg X.base CX k f sp) (room : Room k X.A) (kept : PySem.W.keepIn X.K (.ref f) = true) (hg : Gl X x)
    (hm : X.mg x = some (.ref f)) (hx : Passes CX X E) (ha : PA X (e :: es) t) (hd : (x == ("__debug__" : Str)) = false := by decide) (he : starEach (e :: es) X.env = (false, eval e X.env) :: starEach es X.env := by rfl)
    (hpl : (backTo pos (starEach es X.env)).any (·.1) = false := by rfl) : PE X (.Call (.Name x p) (e :: es) [] pos) (fun σ H Q => t σ H fun vs H1 => sp vs H1 Q E) := ⟨fun pins s σ H Q I h =>
  wpAny_Call_Name_kw (ld_glob I hg hm (PySem.W.callWith_K (h₀ := X.base) I.ok.mod.kin kept (thn (ha.run pos pins s σ H _ I h) fun us s1 ⟨vs, H1, I1, r, q⟩ => ⟨I1.kIn, wpAny_call (run_fnR F room hx I1 r q)⟩) he hpl) hd)⟩
end My
namespace My
open PySem PySem.Spec PyProof.Rows L2
def tLenK (K : PySem.W.Frag) (t : TA) : TE := tCB (fun xs H Q => ∃ p ys, xs = [.ref p] ∧ (SqL K H p ys ∨ SqT K H p ys) ∧ Q (.int ys.length) H) t
def ET (W : WX) (n : Nat) : XK := fun cls d H => ∀ σ : L2.St, σ.length = n → W cls d σ H
def tCallR (sp : Sp) (E : XK) (t : TA) : TE := fun σ H Q => t σ H fun vs H1 => sp vs H1 Q E
end My
namespace My
open PySem PySem.Spec PyProof.Rows L2
/-! ### the rules with the written part by its letter -/
section
variable {X : Cx}
theorem ix_listK (K : PySem.W.Frag) (h : X.K = K := by rfl) : IxR X (rIxL K) := by subst h; exact ix_list
theorem ix_tupK (K : PySem.W.Frag) (h : X.K = K := by rfl) : IxR X (rIxT K) := by subst h; exact ix_tup
def rLen (K : PySem.W.Frag) : List V → Hp → VK → Prop := fun xs H Q => ∃ p ys, xs = [.ref p] ∧ (SqL K H p ys ∨ SqT K H p ys) ∧ Q (.int ys.length) H
theorem call_lenK (K : PySem.W.Frag) (h : X.K = K := by rfl) : CallR X (.builtin "len") (rLen K) := by subst h; exact call_len_seq
def rListOf (K : PySem.W.Frag) : List V → Hp → VK → Prop := fun xs H Q => ∃ p ys, xs = [.ref p] ∧ (SqL K H p ys ∨ SqT K H p ys) ∧ ∀ l, H l = none → Q (.ref l) (upd H l (.lst ys))
theorem call_listK (K : PySem.W.Frag) (h : X.K = K := by rfl) : CallR X (.type "list") (rListOf K) := by subst h; exact call_list_of
theorem sl_listK (K : PySem.W.Frag) (h : X.K = K := by rfl) : SlR X (rSlL K) := by subst h; exact sl_list
theorem op_inK (K : PySem.W.Frag) (h : X.K = K := by rfl) : OpR X (compareOp .In) (rIn K false) := by subst h; exact op_in_seq
theorem op_notInK (K : PySem.W.Frag) (h : X.K = K := by rfl) : OpR X (compareOp .NotIn) (rIn K true) := by subst h; exact op_notIn_seq
theorem op_eqDK (K : PySem.W.Frag) (hu : X.A.units + 64 < cLine) (h : X.K = K := by rfl) : OpR X (compareOp .Eq) (rEqD K) := by subst h; exact op_eqD hu
theorem op_neDK (K : PySem.W.Frag) (hu : X.A.units + 64 < cLine) (h : X.K = K := by rfl) : OpR X (compareOp .NotEq) (rNeD K) := by subst h; exact op_neD hu
theorem op_notInDTK (K : PySem.W.Frag) (hu : X.A.units + 65 < cLine) (h : X.K = K := by rfl) : OpR X (compareOp .NotIn) (rNotInDT K) := by subst h; exact op_notInDT hu
theorem op_eqIntsK (K : PySem.W.Frag) (hu : X.A.units + 64 < cLine) (h : X.K = K := by rfl) : OpR X (compareOp .Eq) (rEqInts K false) := by subst h; exact op_eqInts hu
theorem op_neIntsK (K : PySem.W.Frag) (hu : X.A.units + 64 < cLine) (h : X.K = K := by rfl) : OpR X (compareOp .NotEq) (rEqInts K true) := by subst h; exact op_neInts hu
theorem mt_countBK (K : PySem.W.Frag) (hu : X.A.units + 64 < cLine) (h : X.K = K := by rfl) : MtR X "list.count" (rCntB K) := by subst h; exact mt_countB hu
theorem pi_listK {tg l : Expr} {tl : TE} (K : PySem.W.Frag) (hl : PI X tg l (iList X.K tl)) (h : X.K = K := by rfl) : PI X tg l (iList K tl) := by subst h; exact hl
theorem pi_tupK {tg l : Expr} {tl : TE} (K : PySem.W.Frag) (hl : PI X tg l (iTup X.K tl)) (h : X.K = K := by rfl) : PI X tg l (iTup K tl) := by subst h; exact hl
theorem pe_bmK {e : Expr} {T : String} {r : V → List V → Hp → VK → Prop} {to : TE} {t : TA} (K : PySem.W.Frag) (hb : PE X e (tBM X.K T r to t)) (h : X.K = K := by rfl) : PE X e (tBM K T r to t) := by subst h; exact hb
def rIsTupK (K : PySem.W.Frag) : List V → Hp → VK → Prop := fun xs H Q => ∃ a o, xs = [.ref a, .ty "tuple"] ∧ K.lookup a = some o ∧ o.cls = .type "tuple" ∧ Q (.bl true) H
theorem call_isTupKK (K : PySem.W.Frag) (h : X.K = K := by rfl) : CallR X (.builtin "isinstance") (rIsTupK K) := by subst h; exact call_isTupK
end
/-! ### what is behind is put by -/
theorem seq_gen {t u : TS} {D : Ends} {σ : L2.St} {H : Hp} (h : ∀ R : L2.St → Hp → Prop, (∀ σ' H', u D σ' H' → R σ' H') → t { nx := R, rt := D.rt, bk := D.bk, ct := D.ct } σ H) : tSeq t u D σ H := h (u D) (fun _ _ q => q)
theorem cons_gen {te : TE} {ta : TA} {σ : L2.St} {H : Hp} {Q : List V → Hp → Prop} (h : ∀ R : VK, (∀ x H1, (ta σ H1 fun xs H2 => Q (x :: xs) H2) → R x H1) → te σ H R) : tCons te ta σ H Q := h _ (fun _ _ q => q)
end My
section
open PySem PySem.Spec PyProof.Rows L2 My
local macro_rules | `(tactic| walk_at "ne") => `(tactic| first | assumption | exact Ne.symm (by assumption) | exact ne_of_none (by assumption) (by assumption) | exact Ne.symm (ne_of_none (by assumption) (by assumption)) | exact ne_of (by assumption) (by assumption) (by intro z; cases z))
local macro_rules | `(tactic| walk_at "hp") => `(tactic| first | assumption | exact upd_same | (refine Eq.trans (upd_ne (by walk_at "ne")) ?_; walk_at "hp"))
local macro_rules | `(tactic| walk_at "side") => `(tactic| first | rfl | omega | decide | assumption | exact Pl.int _ | exact Pl.bl _ | exact Pl.str _ | exact Pl.non | exact Nat.le_of_ble_eq_true rfl | exact ⟨by omega, by omega⟩ | exact Or.inl ⟨rfl, _, Or.inl (Or.inl (by walk_at "hp"))⟩ | exact Or.inr (by decide) | exact Or.inl (by decide) | exact Or.inl ⟨by omega, by omega⟩ | exact Or.inr ⟨by omega, by omega⟩)
local macro_rules | `(tactic| walk_at "bag") => `(tactic| first | exact bg_at (by walk_at "hp") | exact bg_rest (by walk_at "hp") | exact bg_seed (by walk_at "hp") | exact bg_count (by walk_at "hp") | exact bg_cells (by walk_at "hp") | exact bp_at (by walk_at "hp") | exact bp_rest (by walk_at "hp") | exact bp_seed (by walk_at "hp") | exact bp_count (by walk_at "hp"))
local macro_rules | `(tactic| walk_at "rd1") => `(tactic| (
  fail_if_success (intro _)
  first
  | refine ⟨_, rfl, ?_⟩
  | refine ⟨_, _, rfl, rfl, ?_⟩
  | refine ⟨_, _, _, rfl, rfl, rfl, ?_⟩
  | refine ⟨_, _, rfl, ?_⟩
  | refine ⟨_, _, _, rfl, ?_⟩
  | refine ⟨_, _, _, _, rfl, ?_⟩
  | refine ⟨_, _, rfl, (by walk_at "bag"), ?_⟩
  | refine Or.inl ⟨_, rfl, ?_⟩
  | refine Or.inr ⟨_, rfl, ?_⟩
  | refine ⟨_, _, rfl, Or.inl (SqL.of (by walk_at "hp")), ?_⟩
  | refine ⟨_, _, rfl, Or.inr (SqT.of (by walk_at "hp")), ?_⟩
  | refine ⟨_, _, _, rfl, rfl, (by walk_at "hp"), ?_⟩
  | refine And.intro (by walk_at "side") ?_))
local macro_rules | `(tactic| walk_at "rd") => `(tactic| repeat walk_at "rd1")
namespace K01
open PySem PySem.Spec PyProof.Rows L2 My

def top (i : Nat) : Stmt := PySem.Challenge.pw_wordmint_k01_arithmetic.main.body.getD i (.Pass ⟨0, 0, 0, 0⟩)
abbrev s_BadWidth___init__ : Stmt := inClass (top 2) 0
theorem sc_BadWidth___init__ : FnScope ["self", "width"] ["self", "width"] (defScope s_BadWidth___init__) := ⟨rfl, rfl, rfl, by decide +kernel, rfl, by decide +kernel, by decide +kernel⟩
abbrev s_BadNumber___init__ : Stmt := inClass (top 3) 0
theorem sc_BadNumber___init__ : FnScope ["self", "number"] ["self", "number"] (defScope s_BadNumber___init__) := ⟨rfl, rfl, rfl, by decide +kernel, rfl, by decide +kernel, by decide +kernel⟩
abbrev s_BadOp___init__ : Stmt := inClass (top 4) 0
theorem sc_BadOp___init__ : FnScope ["self", "op"] ["self", "op"] (defScope s_BadOp___init__) := ⟨rfl, rfl, rfl, by decide +kernel, rfl, by decide +kernel, by decide +kernel⟩
abbrev s_ByZero___init__ : Stmt := inClass (top 5) 0
theorem sc_ByZero___init__ : FnScope ["self", "number"] ["self", "number"] (defScope s_ByZero___init__) := ⟨rfl, rfl, rfl, by decide +kernel, rfl, by decide +kernel, by decide +kernel⟩
abbrev s_is_integer : Stmt := top 10
theorem sc_is_integer : FnScope ["thing"] ["thing"] (defScope s_is_integer) := ⟨rfl, rfl, rfl, by decide +kernel, rfl, by decide +kernel, by decide +kernel⟩
abbrev s_is_between : Stmt := top 11
theorem sc_is_between : FnScope ["thing", "low", "high"] ["thing", "low", "high"] (defScope s_is_between) := ⟨rfl, rfl, rfl, by decide +kernel, rfl, by decide +kernel, by decide +kernel⟩
abbrev s_check_width : Stmt := top 12
theorem sc_check_width : FnScope ["width"] ["width"] (defScope s_check_width) := ⟨rfl, rfl, rfl, by decide +kernel, rfl, by decide +kernel, by decide +kernel⟩
abbrev s_check_number : Stmt := top 13
theorem sc_check_number : FnScope ["width", "thing"] ["width", "thing"] (defScope s_check_number) := ⟨rfl, rfl, rfl, by decide +kernel, rfl, by decide +kernel, by decide +kernel⟩
abbrev s_half : Stmt := top 14
theorem sc_half : FnScope ["width"] ["width"] (defScope s_half) := ⟨rfl, rfl, rfl, by decide +kernel, rfl, by decide +kernel, by decide +kernel⟩
abbrev s_wrap : Stmt := top 15
theorem sc_wrap : FnScope ["width", "number", "bound"] ["width", "number"] (defScope s_wrap) := ⟨rfl, rfl, rfl, by decide +kernel, rfl, by decide +kernel, by decide +kernel⟩
abbrev s_is_number : Stmt := top 16
theorem sc_is_number : FnScope ["width", "thing", "bound"] ["width", "thing"] (defScope s_is_number) := ⟨rfl, rfl, rfl, by decide +kernel, rfl, by decide +kernel, by decide +kernel⟩
abbrev s_truth : Stmt := top 17
theorem sc_truth : FnScope ["holds"] ["holds"] (defScope s_truth) := ⟨rfl, rfl, rfl, by decide +kernel, rfl, by decide +kernel, by decide +kernel⟩
abbrev s_divided : Stmt := top 18
theorem sc_divided : FnScope ["op", "left", "right"] ["op", "left", "right"] (defScope s_divided) := ⟨rfl, rfl, rfl, by decide +kernel, rfl, by decide +kernel, by decide +kernel⟩
abbrev s_of_two : Stmt := top 19
theorem sc_of_two : FnScope ["width", "op", "left", "right", "whole"] ["width", "op", "left", "right"] (defScope s_of_two) := ⟨rfl, rfl, rfl, by decide +kernel, rfl, by decide +kernel, by decide +kernel⟩
abbrev s_result_of : Stmt := top 20
theorem sc_result_of : FnScope ["width", "op", "numbers"] ["width", "op", "numbers"] (defScope s_result_of) := ⟨rfl, rfl, rfl, by decide +kernel, rfl, by decide +kernel, by decide +kernel⟩
abbrev s_work : Stmt := top 21
theorem sc_work : FnScope ["width", "op", "numbers", "number"] ["width", "op", "numbers"] (defScope s_work) := ⟨rfl, rfl, rfl, by decide +kernel, rfl, by decide +kernel, by decide +kernel⟩
abbrev s__law_bag : Stmt := top 23
theorem sc__law_bag : FnScope ["_law_script", "_law_cell"] ["_law_script"] (defScope s__law_bag) := ⟨rfl, rfl, rfl, by decide +kernel, rfl, by decide +kernel, by decide +kernel⟩
abbrev s__law_pick : Stmt := top 24
theorem sc__law_pick : FnScope ["_law_bag_here", "_law_many", "_law_digit", "_law_cell", "_law_mixed"] ["_law_bag_here", "_law_many"] (defScope s__law_pick) := ⟨rfl, rfl, rfl, by decide +kernel, rfl, by decide +kernel, by decide +kernel⟩
abbrev s__law_choice : Stmt := top 25
theorem sc__law_choice : FnScope ["_law_bag_here", "_law_things"] ["_law_bag_here", "_law_things"] (defScope s__law_choice) := ⟨rfl, rfl, rfl, by decide +kernel, rfl, by decide +kernel, by decide +kernel⟩
abbrev s__law_integer : Stmt := top 26
theorem sc__law_integer : FnScope ["_law_thing"] ["_law_thing"] (defScope s__law_integer) := ⟨rfl, rfl, rfl, by decide +kernel, rfl, by decide +kernel, by decide +kernel⟩
abbrev s__law_half : Stmt := top 27
theorem sc__law_half : FnScope ["_law_width"] ["_law_width"] (defScope s__law_half) := ⟨rfl, rfl, rfl, by decide +kernel, rfl, by decide +kernel, by decide +kernel⟩
abbrev s__law_wrap : Stmt := top 28
theorem sc__law_wrap : FnScope ["_law_width", "_law_number", "_law_low"] ["_law_width", "_law_number"] (defScope s__law_wrap) := ⟨rfl, rfl, rfl, by decide +kernel, rfl, by decide +kernel, by decide +kernel⟩
abbrev s__law_num : Stmt := top 29
theorem sc__law_num : FnScope ["_law_bag_here", "_law_width", "_law_kind", "_law_low", "_law_near"] ["_law_bag_here", "_law_width"] (defScope s__law_num) := ⟨rfl, rfl, rfl, by decide +kernel, rfl, by decide +kernel, by decide +kernel⟩
abbrev s__law_bits : Stmt := top 30
theorem sc__law_bits : FnScope ["_law_width", "_law_number", "_law_rest", "_law_row", "_law_k"] ["_law_width", "_law_number"] (defScope s__law_bits) := ⟨rfl, rfl, rfl, by decide +kernel, rfl, by decide +kernel, by decide +kernel⟩
abbrev s__law_of_bits : Stmt := top 31
theorem sc__law_of_bits : FnScope ["_law_row", "_law_value", "_law_weight", "_law_k"] ["_law_row"] (defScope s__law_of_bits) := ⟨rfl, rfl, rfl, by decide +kernel, rfl, by decide +kernel, by decide +kernel⟩
abbrev s__law_sum : Stmt := top 32
theorem sc__law_sum : FnScope ["_law_first", "_law_second", "_law_carry", "_law_row", "_law_k", "_law_total"] ["_law_first", "_law_second", "_law_carry"] (defScope s__law_sum) := ⟨rfl, rfl, rfl, by decide +kernel, rfl, by decide +kernel, by decide +kernel⟩
abbrev s__law_product : Stmt := top 33
theorem sc__law_product : FnScope ["_law_first", "_law_second", "_law_row", "_law_shifted", "_law_k", "_law_bit"] ["_law_first", "_law_second"] (defScope s__law_product) := ⟨rfl, rfl, rfl, by decide +kernel, rfl, by decide +kernel, by decide +kernel⟩
abbrev s__law_joined : Stmt := top 34
theorem sc__law_joined : FnScope ["_law_op", "_law_first", "_law_second", "_law_row", "_law_k", "_law_total"] ["_law_op", "_law_first", "_law_second"] (defScope s__law_joined) := ⟨rfl, rfl, rfl, by decide +kernel, rfl, by decide +kernel, by decide +kernel⟩
abbrev s__law_below : Stmt := top 35
theorem sc__law_below : FnScope ["_law_first", "_law_second", "_law_told", "_law_k"] ["_law_first", "_law_second"] (defScope s__law_below) := ⟨rfl, rfl, rfl, by decide +kernel, rfl, by decide +kernel, by decide +kernel⟩
abbrev s__law_turned : Stmt := top 36
theorem sc__law_turned : FnScope ["_law_row"] ["_law_row"] (defScope s__law_turned) := ⟨rfl, rfl, rfl, by decide +kernel, rfl, by decide +kernel, by decide +kernel⟩
abbrev s__law_divided : Stmt := top 37
theorem sc__law_divided : FnScope ["_law_left", "_law_right", "_law_digits", "_law_rest", "_law_k", "_law_whole"] ["_law_left", "_law_right"] (defScope s__law_divided) := ⟨rfl, rfl, rfl, by decide +kernel, rfl, by decide +kernel, by decide +kernel⟩
abbrev s__law_due : Stmt := top 38
theorem sc__law_due : FnScope ["_law_width", "_law_op", "_law_left", "_law_right", "_law_first", "_law_second", "_law_bit"] ["_law_width", "_law_op", "_law_left", "_law_right"] (defScope s__law_due) := ⟨rfl, rfl, rfl, by decide +kernel, rfl, by decide +kernel, by decide +kernel⟩
abbrev s__law_asked : Stmt := top 39
theorem sc__law_asked : FnScope ["_law_width", "_law_op", "_law_numbers", "e", "_law_kinds"] ["_law_width", "_law_op", "_law_numbers"] (defScope s__law_asked) := ⟨rfl, rfl, rfl, by decide +kernel, rfl, by decide +kernel, by decide +kernel⟩
abbrev s__law_same : Stmt := top 40
theorem sc__law_same : FnScope ["_law_told", "_law_due_here"] ["_law_told", "_law_due_here"] (defScope s__law_same) := ⟨rfl, rfl, rfl, by decide +kernel, rfl, by decide +kernel, by decide +kernel⟩
abbrev s__law_pair : Stmt := top 41
theorem sc__law_pair : FnScope ["_law_bag_here", "_law_width", "_law_left", "_law_right", "_law_kind"] ["_law_bag_here", "_law_width"] (defScope s__law_pair) := ⟨rfl, rfl, rfl, by decide +kernel, rfl, by decide +kernel, by decide +kernel⟩
abbrev s__law_act_right : Stmt := top 42
theorem sc__law_act_right : FnScope ["_law_bag_here", "_law_width", "_law_op", "_law_pair_here", "_law_told"] ["_law_bag_here", "_law_width", "_law_op"] (defScope s__law_act_right) := ⟨rfl, rfl, rfl, by decide +kernel, rfl, by decide +kernel, by decide +kernel⟩
abbrev s__law_odd_number : Stmt := top 43
theorem sc__law_odd_number : FnScope ["_law_bag_here", "_law_width", "_law_low", "_law_things"] ["_law_bag_here", "_law_width"] (defScope s__law_odd_number) := ⟨rfl, rfl, rfl, by decide +kernel, rfl, by decide +kernel, by decide +kernel⟩
abbrev s__law_odd_width : Stmt := top 44
theorem sc__law_odd_width : FnScope ["_law_bag_here", "_law_number"] ["_law_bag_here"] (defScope s__law_odd_width) := ⟨rfl, rfl, rfl, by decide +kernel, rfl, by decide +kernel, by decide +kernel⟩
abbrev s__law_odd_op : Stmt := top 45
theorem sc__law_odd_op : FnScope ["_law_bag_here"] ["_law_bag_here"] (defScope s__law_odd_op) := ⟨rfl, rfl, rfl, by decide +kernel, rfl, by decide +kernel, by decide +kernel⟩
abbrev s__law_refused : Stmt := top 46
theorem sc__law_refused : FnScope ["_law_bag_here", "_law_width", "_law_op", "_law_one", "_law_good", "_law_other", "_law_bad", "_law_worse", "_law_wide", "_law_odd", "_law_cases", "_law_case"] ["_law_bag_here"] (defScope s__law_refused) := ⟨rfl, rfl, rfl, by decide +kernel, rfl, by decide +kernel, by decide +kernel⟩
abbrev s_law : Stmt := top 47
theorem sc_law : FnScope ["_law_script", "_law_bag_here", "_law_ops", "_law_width", "_law_op", "_law_k"] ["_law_script"] (defScope s_law) := ⟨rfl, rfl, rfl, by decide +kernel, rfl, by decide +kernel, by decide +kernel⟩
/-- what the top has written -/
structure TX (K : PySem.W.Frag) (mg : Str → Option Value) where
  f_BadWidth___init__ : Addr
  d_BadWidth___init__ : FuncData
  E_BadWidth___init__ : Fun K "__init__" "BadWidth.__init__" s_BadWidth___init__ f_BadWidth___init__ d_BadWidth___init__
  b_BadWidth___init__ : Binds K d_BadWidth___init__ ["self", "width"] []
  f_BadNumber___init__ : Addr
  d_BadNumber___init__ : FuncData
  E_BadNumber___init__ : Fun K "__init__" "BadNumber.__init__" s_BadNumber___init__ f_BadNumber___init__ d_BadNumber___init__
  b_BadNumber___init__ : Binds K d_BadNumber___init__ ["self", "number"] []
  f_BadOp___init__ : Addr
  d_BadOp___init__ : FuncData
  E_BadOp___init__ : Fun K "__init__" "BadOp.__init__" s_BadOp___init__ f_BadOp___init__ d_BadOp___init__
  b_BadOp___init__ : Binds K d_BadOp___init__ ["self", "op"] []
  f_ByZero___init__ : Addr
  d_ByZero___init__ : FuncData
  E_ByZero___init__ : Fun K "__init__" "ByZero.__init__" s_ByZero___init__ f_ByZero___init__ d_ByZero___init__
  b_ByZero___init__ : Binds K d_ByZero___init__ ["self", "number"] []
  f_is_integer : Addr
  d_is_integer : FuncData
  F_is_integer : Fun K "is_integer" "is_integer" s_is_integer f_is_integer d_is_integer
  g_is_integer : mg "is_integer" = some (.ref f_is_integer)
  k_is_integer : PySem.W.keepIn K (.ref f_is_integer) = true
  b_is_integer : Binds K d_is_integer ["thing"] []
  f_is_between : Addr
  d_is_between : FuncData
  F_is_between : Fun K "is_between" "is_between" s_is_between f_is_between d_is_between
  g_is_between : mg "is_between" = some (.ref f_is_between)
  k_is_between : PySem.W.keepIn K (.ref f_is_between) = true
  b_is_between : Binds K d_is_between ["thing", "low", "high"] []
  f_check_width : Addr
  d_check_width : FuncData
  F_check_width : Fun K "check_width" "check_width" s_check_width f_check_width d_check_width
  g_check_width : mg "check_width" = some (.ref f_check_width)
  k_check_width : PySem.W.keepIn K (.ref f_check_width) = true
  b_check_width : Binds K d_check_width ["width"] []
  f_check_number : Addr
  d_check_number : FuncData
  F_check_number : Fun K "check_number" "check_number" s_check_number f_check_number d_check_number
  g_check_number : mg "check_number" = some (.ref f_check_number)
  k_check_number : PySem.W.keepIn K (.ref f_check_number) = true
  b_check_number : Binds K d_check_number ["width", "thing"] []
  f_half : Addr
  d_half : FuncData
  F_half : Fun K "half" "half" s_half f_half d_half
  g_half : mg "half" = some (.ref f_half)
  k_half : PySem.W.keepIn K (.ref f_half) = true
  b_half : Binds K d_half ["width"] []
  f_wrap : Addr
  d_wrap : FuncData
  F_wrap : Fun K "wrap" "wrap" s_wrap f_wrap d_wrap
  g_wrap : mg "wrap" = some (.ref f_wrap)
  k_wrap : PySem.W.keepIn K (.ref f_wrap) = true
  b_wrap : Binds K d_wrap ["width", "number"] []
  f_is_number : Addr
  d_is_number : FuncData
  F_is_number : Fun K "is_number" "is_number" s_is_number f_is_number d_is_number
  g_is_number : mg "is_number" = some (.ref f_is_number)
  k_is_number : PySem.W.keepIn K (.ref f_is_number) = true
  b_is_number : Binds K d_is_number ["width", "thing"] []
  f_truth : Addr
  d_truth : FuncData
  F_truth : Fun K "truth" "truth" s_truth f_truth d_truth
  g_truth : mg "truth" = some (.ref f_truth)
  k_truth : PySem.W.keepIn K (.ref f_truth) = true
  b_truth : Binds K d_truth ["holds"] []
  f_divided : Addr
  d_divided : FuncData
  F_divided : Fun K "divided" "divided" s_divided f_divided d_divided
  g_divided : mg "divided" = some (.ref f_divided)
  k_divided : PySem.W.keepIn K (.ref f_divided) = true
  b_divided : Binds K d_divided ["op", "left", "right"] []
  f_of_two : Addr
  d_of_two : FuncData
  F_of_two : Fun K "of_two" "of_two" s_of_two f_of_two d_of_two
  g_of_two : mg "of_two" = some (.ref f_of_two)
  k_of_two : PySem.W.keepIn K (.ref f_of_two) = true
  b_of_two : Binds K d_of_two ["width", "op", "left", "right"] []
  f_result_of : Addr
  d_result_of : FuncData
  F_result_of : Fun K "result_of" "result_of" s_result_of f_result_of d_result_of
  g_result_of : mg "result_of" = some (.ref f_result_of)
  k_result_of : PySem.W.keepIn K (.ref f_result_of) = true
  b_result_of : Binds K d_result_of ["width", "op", "numbers"] []
  f_work : Addr
  d_work : FuncData
  F_work : Fun K "work" "work" s_work f_work d_work
  g_work : mg "work" = some (.ref f_work)
  k_work : PySem.W.keepIn K (.ref f_work) = true
  f__law_bag : Addr
  d__law_bag : FuncData
  F__law_bag : Fun K "_law_bag" "_law_bag" s__law_bag f__law_bag d__law_bag
  g__law_bag : mg "_law_bag" = some (.ref f__law_bag)
  k__law_bag : PySem.W.keepIn K (.ref f__law_bag) = true
  b__law_bag : Binds K d__law_bag ["_law_script"] []
  f__law_pick : Addr
  d__law_pick : FuncData
  F__law_pick : Fun K "_law_pick" "_law_pick" s__law_pick f__law_pick d__law_pick
  g__law_pick : mg "_law_pick" = some (.ref f__law_pick)
  k__law_pick : PySem.W.keepIn K (.ref f__law_pick) = true
  b__law_pick : Binds K d__law_pick ["_law_bag_here", "_law_many"] []
  f__law_choice : Addr
  d__law_choice : FuncData
  F__law_choice : Fun K "_law_choice" "_law_choice" s__law_choice f__law_choice d__law_choice
  g__law_choice : mg "_law_choice" = some (.ref f__law_choice)
  k__law_choice : PySem.W.keepIn K (.ref f__law_choice) = true
  b__law_choice : Binds K d__law_choice ["_law_bag_here", "_law_things"] []
  f__law_integer : Addr
  d__law_integer : FuncData
  F__law_integer : Fun K "_law_integer" "_law_integer" s__law_integer f__law_integer d__law_integer
  g__law_integer : mg "_law_integer" = some (.ref f__law_integer)
  k__law_integer : PySem.W.keepIn K (.ref f__law_integer) = true
  b__law_integer : Binds K d__law_integer ["_law_thing"] []
  f__law_half : Addr
  d__law_half : FuncData
  F__law_half : Fun K "_law_half" "_law_half" s__law_half f__law_half d__law_half
  g__law_half : mg "_law_half" = some (.ref f__law_half)
  k__law_half : PySem.W.keepIn K (.ref f__law_half) = true
  b__law_half : Binds K d__law_half ["_law_width"] []
  f__law_wrap : Addr
  d__law_wrap : FuncData
  F__law_wrap : Fun K "_law_wrap" "_law_wrap" s__law_wrap f__law_wrap d__law_wrap
  g__law_wrap : mg "_law_wrap" = some (.ref f__law_wrap)
  k__law_wrap : PySem.W.keepIn K (.ref f__law_wrap) = true
  b__law_wrap : Binds K d__law_wrap ["_law_width", "_law_number"] []
  f__law_num : Addr
  d__law_num : FuncData
  F__law_num : Fun K "_law_num" "_law_num" s__law_num f__law_num d__law_num
  g__law_num : mg "_law_num" = some (.ref f__law_num)
  k__law_num : PySem.W.keepIn K (.ref f__law_num) = true
  b__law_num : Binds K d__law_num ["_law_bag_here", "_law_width"] []
  f__law_bits : Addr
  d__law_bits : FuncData
  F__law_bits : Fun K "_law_bits" "_law_bits" s__law_bits f__law_bits d__law_bits
  g__law_bits : mg "_law_bits" = some (.ref f__law_bits)
  k__law_bits : PySem.W.keepIn K (.ref f__law_bits) = true
  b__law_bits : Binds K d__law_bits ["_law_width", "_law_number"] []
  f__law_of_bits : Addr
  d__law_of_bits : FuncData
  F__law_of_bits : Fun K "_law_of_bits" "_law_of_bits" s__law_of_bits f__law_of_bits d__law_of_bits
  g__law_of_bits : mg "_law_of_bits" = some (.ref f__law_of_bits)
  k__law_of_bits : PySem.W.keepIn K (.ref f__law_of_bits) = true
  b__law_of_bits : Binds K d__law_of_bits ["_law_row"] []
  f__law_sum : Addr
  d__law_sum : FuncData
  F__law_sum : Fun K "_law_sum" "_law_sum" s__law_sum f__law_sum d__law_sum
  g__law_sum : mg "_law_sum" = some (.ref f__law_sum)
  k__law_sum : PySem.W.keepIn K (.ref f__law_sum) = true
  b__law_sum : Binds K d__law_sum ["_law_first", "_law_second", "_law_carry"] []
  f__law_product : Addr
  d__law_product : FuncData
  F__law_product : Fun K "_law_product" "_law_product" s__law_product f__law_product d__law_product
  g__law_product : mg "_law_product" = some (.ref f__law_product)
  k__law_product : PySem.W.keepIn K (.ref f__law_product) = true
  b__law_product : Binds K d__law_product ["_law_first", "_law_second"] []
  f__law_joined : Addr
  d__law_joined : FuncData
  F__law_joined : Fun K "_law_joined" "_law_joined" s__law_joined f__law_joined d__law_joined
  g__law_joined : mg "_law_joined" = some (.ref f__law_joined)
  k__law_joined : PySem.W.keepIn K (.ref f__law_joined) = true
  b__law_joined : Binds K d__law_joined ["_law_op", "_law_first", "_law_second"] []
  f__law_below : Addr
  d__law_below : FuncData
  F__law_below : Fun K "_law_below" "_law_below" s__law_below f__law_below d__law_below
  g__law_below : mg "_law_below" = some (.ref f__law_below)
  k__law_below : PySem.W.keepIn K (.ref f__law_below) = true
  b__law_below : Binds K d__law_below ["_law_first", "_law_second"] []
  f__law_turned : Addr
  d__law_turned : FuncData
  F__law_turned : Fun K "_law_turned" "_law_turned" s__law_turned f__law_turned d__law_turned
  g__law_turned : mg "_law_turned" = some (.ref f__law_turned)
  k__law_turned : PySem.W.keepIn K (.ref f__law_turned) = true
  b__law_turned : Binds K d__law_turned ["_law_row"] []
  f__law_divided : Addr
  d__law_divided : FuncData
  F__law_divided : Fun K "_law_divided" "_law_divided" s__law_divided f__law_divided d__law_divided
  g__law_divided : mg "_law_divided" = some (.ref f__law_divided)
  k__law_divided : PySem.W.keepIn K (.ref f__law_divided) = true
  b__law_divided : Binds K d__law_divided ["_law_left", "_law_right"] []
  f__law_due : Addr
  d__law_due : FuncData
  F__law_due : Fun K "_law_due" "_law_due" s__law_due f__law_due d__law_due
  g__law_due : mg "_law_due" = some (.ref f__law_due)
  k__law_due : PySem.W.keepIn K (.ref f__law_due) = true
  b__law_due : Binds K d__law_due ["_law_width", "_law_op", "_law_left", "_law_right"] []
  f__law_asked : Addr
  d__law_asked : FuncData
  F__law_asked : Fun K "_law_asked" "_law_asked" s__law_asked f__law_asked d__law_asked
  g__law_asked : mg "_law_asked" = some (.ref f__law_asked)
  k__law_asked : PySem.W.keepIn K (.ref f__law_asked) = true
  b__law_asked : Binds K d__law_asked ["_law_width", "_law_op", "_law_numbers"] []
  f__law_same : Addr
  d__law_same : FuncData
  F__law_same : Fun K "_law_same" "_law_same" s__law_same f__law_same d__law_same
  g__law_same : mg "_law_same" = some (.ref f__law_same)
  k__law_same : PySem.W.keepIn K (.ref f__law_same) = true
  b__law_same : Binds K d__law_same ["_law_told", "_law_due_here"] []
  f__law_pair : Addr
  d__law_pair : FuncData
  F__law_pair : Fun K "_law_pair" "_law_pair" s__law_pair f__law_pair d__law_pair
  g__law_pair : mg "_law_pair" = some (.ref f__law_pair)
  k__law_pair : PySem.W.keepIn K (.ref f__law_pair) = true
  b__law_pair : Binds K d__law_pair ["_law_bag_here", "_law_width"] []
  f__law_act_right : Addr
  d__law_act_right : FuncData
  F__law_act_right : Fun K "_law_act_right" "_law_act_right" s__law_act_right f__law_act_right d__law_act_right
  g__law_act_right : mg "_law_act_right" = some (.ref f__law_act_right)
  k__law_act_right : PySem.W.keepIn K (.ref f__law_act_right) = true
  b__law_act_right : Binds K d__law_act_right ["_law_bag_here", "_law_width", "_law_op"] []
  f__law_odd_number : Addr
  d__law_odd_number : FuncData
  F__law_odd_number : Fun K "_law_odd_number" "_law_odd_number" s__law_odd_number f__law_odd_number d__law_odd_number
  g__law_odd_number : mg "_law_odd_number" = some (.ref f__law_odd_number)
  k__law_odd_number : PySem.W.keepIn K (.ref f__law_odd_number) = true
  b__law_odd_number : Binds K d__law_odd_number ["_law_bag_here", "_law_width"] []
  f__law_odd_width : Addr
  d__law_odd_width : FuncData
  F__law_odd_width : Fun K "_law_odd_width" "_law_odd_width" s__law_odd_width f__law_odd_width d__law_odd_width
  g__law_odd_width : mg "_law_odd_width" = some (.ref f__law_odd_width)
  k__law_odd_width : PySem.W.keepIn K (.ref f__law_odd_width) = true
  b__law_odd_width : Binds K d__law_odd_width ["_law_bag_here"] []
  f__law_odd_op : Addr
  d__law_odd_op : FuncData
  F__law_odd_op : Fun K "_law_odd_op" "_law_odd_op" s__law_odd_op f__law_odd_op d__law_odd_op
  g__law_odd_op : mg "_law_odd_op" = some (.ref f__law_odd_op)
  k__law_odd_op : PySem.W.keepIn K (.ref f__law_odd_op) = true
  b__law_odd_op : Binds K d__law_odd_op ["_law_bag_here"] []
  f__law_refused : Addr
  d__law_refused : FuncData
  F__law_refused : Fun K "_law_refused" "_law_refused" s__law_refused f__law_refused d__law_refused
  g__law_refused : mg "_law_refused" = some (.ref f__law_refused)
  k__law_refused : PySem.W.keepIn K (.ref f__law_refused) = true
  b__law_refused : Binds K d__law_refused ["_law_bag_here"] []
  f_law : Addr
  d_law : FuncData
  F_law : Fun K "law" "law" s_law f_law d_law
  g_law : mg "law" = some (.ref f_law)
  k_law : PySem.W.keepIn K (.ref f_law) = true
  b_law : Binds K d_law ["_law_script"] []
  c_MintError : Addr
  c_BadWidth : Addr
  c_BadNumber : Addr
  c_BadOp : Addr
  c_ByZero : Addr
  g_MintError : mg "MintError" = some (.ref c_MintError)
  g_BadWidth : mg "BadWidth" = some (.ref c_BadWidth)
  o_BadWidth : OexC K c_BadWidth
  x_BadWidth : XfC K c_BadWidth
  e_BadWidth : ExcC K c_BadWidth
  F_BadWidth___init__ : PySem.W.findIn K (.ref c_BadWidth) "__init__" = some (some (.ref f_BadWidth___init__)) ∧ PySem.W.typeIn K (.ref f_BadWidth___init__) = some (.type "function") ∧ PySem.W.findIn K (.ref c_BadWidth) "width" = some none
  m_BadWidth : PySem.W.exmOne K (.ref c_BadWidth) (.ref c_MintError) = some true
  v_BadWidth : PySem.W.kitOne K (.ref c_BadWidth) (.type "ValueError") = some true
  k_BadWidth_BadWidth : PySem.W.kitOne K (.ref c_BadWidth) (.ref c_BadWidth) = some true
  k_BadWidth_BadNumber : PySem.W.kitOne K (.ref c_BadWidth) (.ref c_BadNumber) = some false
  k_BadWidth_BadOp : PySem.W.kitOne K (.ref c_BadWidth) (.ref c_BadOp) = some false
  k_BadWidth_ByZero : PySem.W.kitOne K (.ref c_BadWidth) (.ref c_ByZero) = some false
  g_BadNumber : mg "BadNumber" = some (.ref c_BadNumber)
  o_BadNumber : OexC K c_BadNumber
  x_BadNumber : XfC K c_BadNumber
  e_BadNumber : ExcC K c_BadNumber
  F_BadNumber___init__ : PySem.W.findIn K (.ref c_BadNumber) "__init__" = some (some (.ref f_BadNumber___init__)) ∧ PySem.W.typeIn K (.ref f_BadNumber___init__) = some (.type "function") ∧ PySem.W.findIn K (.ref c_BadNumber) "number" = some none
  m_BadNumber : PySem.W.exmOne K (.ref c_BadNumber) (.ref c_MintError) = some true
  v_BadNumber : PySem.W.kitOne K (.ref c_BadNumber) (.type "ValueError") = some true
  k_BadNumber_BadWidth : PySem.W.kitOne K (.ref c_BadNumber) (.ref c_BadWidth) = some false
  k_BadNumber_BadNumber : PySem.W.kitOne K (.ref c_BadNumber) (.ref c_BadNumber) = some true
  k_BadNumber_BadOp : PySem.W.kitOne K (.ref c_BadNumber) (.ref c_BadOp) = some false
  k_BadNumber_ByZero : PySem.W.kitOne K (.ref c_BadNumber) (.ref c_ByZero) = some false
  g_BadOp : mg "BadOp" = some (.ref c_BadOp)
  o_BadOp : OexC K c_BadOp
  x_BadOp : XfC K c_BadOp
  e_BadOp : ExcC K c_BadOp
  F_BadOp___init__ : PySem.W.findIn K (.ref c_BadOp) "__init__" = some (some (.ref f_BadOp___init__)) ∧ PySem.W.typeIn K (.ref f_BadOp___init__) = some (.type "function") ∧ PySem.W.findIn K (.ref c_BadOp) "op" = some none
  m_BadOp : PySem.W.exmOne K (.ref c_BadOp) (.ref c_MintError) = some true
  v_BadOp : PySem.W.kitOne K (.ref c_BadOp) (.type "ValueError") = some true
  k_BadOp_BadWidth : PySem.W.kitOne K (.ref c_BadOp) (.ref c_BadWidth) = some false
  k_BadOp_BadNumber : PySem.W.kitOne K (.ref c_BadOp) (.ref c_BadNumber) = some false
  k_BadOp_BadOp : PySem.W.kitOne K (.ref c_BadOp) (.ref c_BadOp) = some true
  k_BadOp_ByZero : PySem.W.kitOne K (.ref c_BadOp) (.ref c_ByZero) = some false
  g_ByZero : mg "ByZero" = some (.ref c_ByZero)
  o_ByZero : OexC K c_ByZero
  x_ByZero : XfC K c_ByZero
  e_ByZero : ExcC K c_ByZero
  F_ByZero___init__ : PySem.W.findIn K (.ref c_ByZero) "__init__" = some (some (.ref f_ByZero___init__)) ∧ PySem.W.typeIn K (.ref f_ByZero___init__) = some (.type "function") ∧ PySem.W.findIn K (.ref c_ByZero) "number" = some none
  m_ByZero : PySem.W.exmOne K (.ref c_ByZero) (.ref c_MintError) = some true
  v_ByZero : PySem.W.kitOne K (.ref c_ByZero) (.type "ValueError") = some true
  k_ByZero_BadWidth : PySem.W.kitOne K (.ref c_ByZero) (.ref c_BadWidth) = some false
  k_ByZero_BadNumber : PySem.W.kitOne K (.ref c_ByZero) (.ref c_BadNumber) = some false
  k_ByZero_BadOp : PySem.W.kitOne K (.ref c_ByZero) (.ref c_BadOp) = some false
  k_ByZero_ByZero : PySem.W.kitOne K (.ref c_ByZero) (.ref c_ByZero) = some true
  a_WIDTHS : Addr
  g_WIDTHS : mg "WIDTHS" = some (.ref a_WIDTHS)
  q_WIDTHS : ∀ H, SqT K H a_WIDTHS [V.int 16, V.int 24, V.int 32]
  a_ARITHMETIC : Addr
  g_ARITHMETIC : mg "ARITHMETIC" = some (.ref a_ARITHMETIC)
  q_ARITHMETIC : ∀ H, SqT K H a_ARITHMETIC [V.str "+", V.str "-", V.str "*", V.str "/", V.str "mod", V.str "and", V.str "or", V.str "xor", V.str "=", V.str "<", V.str "u<", V.str "invert", V.str "0="]
  a_SINGLE : Addr
  g_SINGLE : mg "SINGLE" = some (.ref a_SINGLE)
  q_SINGLE : ∀ H, SqT K H a_SINGLE [V.str "invert", V.str "0="]
  n_ValueError : mg "ValueError" = none
  n_abs : mg "abs" = none
  n_bool : mg "bool" = none
  n_int : mg "int" = none
  n_isinstance : mg "isinstance" = none
  n_len : mg "len" = none
  n_list : mg "list" = none
  n_min : mg "min" = none
  n_range : mg "range" = none
  n_tuple : mg "tuple" = none

section
variable {P : Program} {w : World} {K : PySem.W.Frag} {mg : Str → Option Value} {base : Heap}

abbrev sp_check_width (M : TX K mg) : Sp := Sp1 fun x H Q E => Pl H x ∧ (isW x = true → Q .non H) ∧ (isW x = false → Rz M.c_BadWidth "width" x H E)
abbrev sp_check_number (M : TX K mg) : Sp := Sp2 fun x y H Q E => ∃ w, x = .int w ∧ Wd w ∧ Pl H y ∧ (isN w y = true → Q .non H) ∧ (isN w y = false → Rz M.c_BadNumber "number" y H E)
abbrev sp_half (M : TX K mg) : Sp := Sp1 fun x H Q E => Pl H x ∧ (∀ w, x = .int w → Wd w → Q (.int (hf w)) H) ∧ (isW x = false → Rz M.c_BadWidth "width" x H E)
abbrev sp_wrap (M : TX K mg) : Sp := Sp2 fun x y H Q E => ∃ n, y = .int n ∧ Pl H x ∧ (∀ w, x = .int w → Wd w → Q (.int (wrapI w n)) H) ∧ (isW x = false → Rz M.c_BadWidth "width" x H E)
abbrev sp_is_number (M : TX K mg) : Sp := Sp2 fun x y H Q E => Pl H y ∧ Pl H x ∧ (∀ w, x = .int w → Wd w → Q (.bl (isN w y)) H) ∧ (isW x = false → Rz M.c_BadWidth "width" x H E)
abbrev sp_divided (M : TX K mg) : Sp := Sp3 fun x y z H Q E => ∃ op l r, x = .str op ∧ y = .int l ∧ z = .int r ∧ r.natAbs.log2 < 9000 ∧ (r = 0 → Rz M.c_ByZero "number" (.int l) H E) ∧ (r ≠ 0 → Q (.int (if op = "/" then l.fdiv r else l.fmod r)) H)

end
end K01
namespace K01
open PySem PySem.Spec PyProof.Rows L2 My
section
variable {P : Program} {w : World} {K : PySem.W.Frag} {mg : Str → Option Value} {base : Heap}
theorem ok_BadWidth___init__ (M : TX K mg) : FnOk P w K mg base (L2.CX P w) 1 M.f_BadWidth___init__ M.d_BadWidth___init__ ["self", "width"] (spExc M.c_BadWidth "width") := by
  have sc := sc_BadWidth___init__
  refine M.E_BadWidth___init__.okX sc (fun vs H Q E h => ?_) (fun cdv A outer s H vs Q E hr h => ?_)
  · obtain ⟨a, v, rfl, _⟩ := h
    rfl
  · obtain ⟨a, v, rfl, ha, k⟩ := h
    refine ⟨_, pss_one (ps_ost (pv 0) (pv 1)), ?_⟩
    exact ⟨_, rfl, _, rfl, a, M.c_BadWidth, rfl, M.o_BadWidth, M.F_BadWidth___init__.2.2, .inl ⟨ha, k⟩⟩

theorem ok_BadNumber___init__ (M : TX K mg) : FnOk P w K mg base (L2.CX P w) 1 M.f_BadNumber___init__ M.d_BadNumber___init__ ["self", "number"] (spExc M.c_BadNumber "number") := by
  have sc := sc_BadNumber___init__
  refine M.E_BadNumber___init__.okX sc (fun vs H Q E h => ?_) (fun cdv A outer s H vs Q E hr h => ?_)
  · obtain ⟨a, v, rfl, _⟩ := h
    rfl
  · obtain ⟨a, v, rfl, ha, k⟩ := h
    refine ⟨_, pss_one (ps_ost (pv 0) (pv 1)), ?_⟩
    exact ⟨_, rfl, _, rfl, a, M.c_BadNumber, rfl, M.o_BadNumber, M.F_BadNumber___init__.2.2, .inl ⟨ha, k⟩⟩

theorem ok_BadOp___init__ (M : TX K mg) : FnOk P w K mg base (L2.CX P w) 1 M.f_BadOp___init__ M.d_BadOp___init__ ["self", "op"] (spExc M.c_BadOp "op") := by
  have sc := sc_BadOp___init__
  refine M.E_BadOp___init__.okX sc (fun vs H Q E h => ?_) (fun cdv A outer s H vs Q E hr h => ?_)
  · obtain ⟨a, v, rfl, _⟩ := h
    rfl
  · obtain ⟨a, v, rfl, ha, k⟩ := h
    refine ⟨_, pss_one (ps_ost (pv 0) (pv 1)), ?_⟩
    exact ⟨_, rfl, _, rfl, a, M.c_BadOp, rfl, M.o_BadOp, M.F_BadOp___init__.2.2, .inl ⟨ha, k⟩⟩

theorem ok_ByZero___init__ (M : TX K mg) : FnOk P w K mg base (L2.CX P w) 1 M.f_ByZero___init__ M.d_ByZero___init__ ["self", "number"] (spExc M.c_ByZero "number") := by
  have sc := sc_ByZero___init__
  refine M.E_ByZero___init__.okX sc (fun vs H Q E h => ?_) (fun cdv A outer s H vs Q E hr h => ?_)
  · obtain ⟨a, v, rfl, _⟩ := h
    rfl
  · obtain ⟨a, v, rfl, ha, k⟩ := h
    refine ⟨_, pss_one (ps_ost (pv 0) (pv 1)), ?_⟩
    exact ⟨_, rfl, _, rfl, a, M.c_ByZero, rfl, M.o_ByZero, M.F_ByZero___init__.2.2, .inl ⟨ha, k⟩⟩

theorem ok_is_integer (M : TX K mg) : FnOk P w K mg base (L2.CX P w) 1 M.f_is_integer M.d_is_integer ["thing"] (Sp1 fun x H Q _ => Pl H x ∧ Q (.bl (isI x)) H) := by
  have sc := sc_is_integer
  refine M.F_is_integer.okX sc (fun vs H Q E h => Sp1_len h) (fun cdv A outer s H vs Q E hr h => ?_)
  obtain ⟨x0, rfl, h⟩ := h
  have hu := hu_of hr
  have hu64 := hr.units
  refine ⟨_, (pss_one (ps_ret (pe_and (pe_callB call_isInt (by rfl) M.n_isinstance (by decide +kernel) (pa_cons (pv 0) (pa_cons (pe_bltn (v := .ty "int") (u := .type "int") (by rfl) M.n_int (by decide +kernel) rfl) pa_nil))) (pe_one (pe_not (pe_callB call_isBool (by rfl) M.n_isinstance (by decide +kernel) (pa_cons (pv 0) (pa_cons (pe_bltn (v := .ty "bool") (u := .type "bool") (by rfl) M.n_bool (by decide +kernel) rfl) pa_nil)))))))), ?_⟩

  obtain ⟨hp, q⟩ := h
  walk_at "rd"
  refine iteB (fun c => ?_) (fun c => ?_)
  · walk_at "rd"
    cases x0 <;> first | exact q | cases c
  · cases x0 <;> first | exact q | cases c

theorem ok_truth (M : TX K mg) : FnOk P w K mg base (L2.CX P w) 1 M.f_truth M.d_truth ["holds"] (Sp1 fun x H Q _ => ∃ b, x = .bl b ∧ Q (.int (if b = true then -1 else 0)) H) := by
  have sc := sc_truth
  refine M.F_truth.okX sc (fun vs H Q E h => Sp1_len h) (fun cdv A outer s H vs Q E hr h => ?_)
  obtain ⟨x0, rfl, h⟩ := h
  have hu := hu_of hr
  have hu64 := hr.units
  refine ⟨_, (pss_one (ps_ret (pe_ifExp (pt_val (pv 0)) (pe_un un_neg pe_int) pe_int))), ?_⟩

  obtain ⟨b, rfl, q⟩ := h
  walk_at "rd"
  cases b
  · exact iteF q
  · refine iteT ?_
    walk_at "rd"
    exact q

theorem ok_is_between (M : TX K mg) : FnOk P w K mg base (L2.CX P w) 2 M.f_is_between M.d_is_between ["thing", "low", "high"] (Sp3 fun x y z H Q _ => ∃ lo hi, y = .int lo ∧ z = .int hi ∧ Pl H x ∧ Q (.bl (btw x lo hi)) H) := by
  have sc := sc_is_between
  refine M.F_is_between.okX sc (fun vs H Q E h => Sp3_len h) (fun cdv A outer s H vs Q E hr h => ?_)
  obtain ⟨x0, x1, x2, rfl, h⟩ := h
  have hu := hu_of hr
  have hu64 := hr.units
  refine ⟨_, (pss_one (ps_ret (pe_and (pe_call (ok_is_integer M) (hr.mono (by decide)) rfl M.g_is_integer M.F_is_integer.kp M.b_is_integer .nil (passE rfl rfl rfl rfl) (pa_cons (pv 0) pa_nil)) (pe_one (pe_chain op_le op_le (pv 1) (pv 0) (pv 2)))))), ?_⟩

  obtain ⟨lo, hi, rfl, rfl, hp, q⟩ := h
  walk_at "rd"
  refine iteB (fun c => ?_) (fun c => ?_)
  · cases x0 <;> try (cases c)
    rename_i i
    walk_at "rd"
    refine iteB (fun c1 => ?_) (fun c1 => ?_)
    · walk_at "rd"
      have e : btw (.int i) lo hi = decide (i ≤ hi) := by
        show (decide (lo ≤ i) && decide (i ≤ hi)) = decide (i ≤ hi)
        rw [c1]; rfl
      rw [e] at q; exact q
    · have e : btw (.int i) lo hi = false := by
        show (decide (lo ≤ i) && decide (i ≤ hi)) = false
        rw [c1]; rfl
      rw [e] at q; exact q
  · cases x0 <;> first | exact q | cases c

theorem ok_check_width (M : TX K mg) : FnOk P w K mg base (L2.CX P w) 3 M.f_check_width M.d_check_width ["width"] (sp_check_width M) := by
  have sc := sc_check_width
  refine M.F_check_width.okX sc (fun vs H Q E h => Sp1_len h) (fun cdv A outer s H vs Q E hr h => ?_)
  obtain ⟨x0, rfl, h⟩ := h
  have hu := hu_of hr
  have hu64 := hr.units
  refine ⟨_, (pss_one (ps_if (PW.pt (pw_or (pt_not (pt_val (pe_call (ok_is_integer M) (hr.mono (by decide)) rfl M.g_is_integer M.F_is_integer.kp M.b_is_integer .nil (passE rfl rfl rfl rfl) (pa_cons (pv 0) pa_nil)))) (pw_or1 (pt_cmpR (op_notInK K) (pv 0) (pe_glob (v := .ref M.a_WIDTHS) rfl M.g_WIDTHS rfl) (by rfl)))))
      (pss_one (ps_rz rfl (takes_of rfl rfl rfl rfl) M.o_BadWidth M.F_BadWidth___init__.1 M.F_BadWidth___init__.2.1 (ok_BadWidth___init__ M) (hr.mono (by decide)) M.b_BadWidth___init__ rfl M.g_BadWidth (pa_cons (pv 0) pa_nil)))
      pss_nil)), ?_⟩

  obtain ⟨hp, k1, k2⟩ := h
  walk_at "rd"
  cases x0
  case int i =>
    refine iteF ?_
    refine ⟨_, rfl, _, _, rfl, .inr (M.q_WIDTHS _), rfl, rfl, _, rfl, ?_⟩
    have e : inV (.int i) [V.int 16, V.int 24, V.int 32] = isW (.int i) := by
      by_cases h1 : i = 16
      · subst h1; rfl
      · by_cases h2 : i = 24
        · subst h2; rfl
        · by_cases h3 : i = 32
          · subst h3; rfl
          · simp [inV, eqV, isW, h1, h2, h3, Ne.symm h1, Ne.symm h2, Ne.symm h3]
    show if (!inV (.int i) [V.int 16, V.int 24, V.int 32]) = true then _ else _
    rw [e]
    cases c : isW (.int i)
    · refine iteT ?_
      walk_at "rd"
      exact k2 c
    · exact iteF (k1 c)
  all_goals
    refine iteT (iteT ?_)
    walk_at "rd"
    exact k2 rfl

theorem ok_divided (M : TX K mg) : FnOk P w K mg base (L2.CX P w) 3 M.f_divided M.d_divided ["op", "left", "right"] (sp_divided M) := by
  have sc := sc_divided
  refine M.F_divided.okX sc (fun vs H Q E h => Sp3_len h) (fun cdv A outer s H vs Q E hr h => ?_)
  obtain ⟨x0, x1, x2, rfl, h⟩ := h
  have hu := hu_of hr
  have hu64 := hr.units
  refine ⟨_, (pss_cons (ps_if (pt_cmpR op_eq (pv 2) pe_int (nomark _))
      (pss_one (ps_rz rfl (takes_of rfl rfl rfl rfl) M.o_ByZero M.F_ByZero___init__.1 M.F_ByZero___init__.2.1 (ok_ByZero___init__ M) (hr.mono (by decide)) M.b_ByZero___init__ rfl M.g_ByZero (pa_cons (pv 1) pa_nil)))
      pss_nil)
    (pss_one (ps_ret (pe_ifExp (pt_cmpR op_eq (pv 0) pe_str (nomark _)) (pe_op op_fdivL (pv 1) (pv 2)) (pe_op op_modN (pv 1) (pv 2)))))), ?_⟩

  obtain ⟨op, l, r, rfl, rfl, rfl, hl, k1, k2⟩ := h
  walk_at "rd"
  refine iteD (fun c => ?_) (fun c => ?_)
  · walk_at "rd"
    exact k1 (V.int.inj c)
  · have hr0 : r ≠ 0 := fun e => c (by rw [e])
    have q := k2 hr0
    walk_at "rd"
    refine iteD (fun c2 => ?_) (fun c2 => ?_)
    · walk_at "rd"
      rw [if_pos (V.str.inj c2)] at q
      exact q
    · walk_at "rd"
      rw [if_neg (fun e => c2 (by rw [e]))] at q
      exact q

theorem ok_half (M : TX K mg) : FnOk P w K mg base (L2.CX P w) 4 M.f_half M.d_half ["width"] (sp_half M) := by
  have sc := sc_half
  refine M.F_half.okX sc (fun vs H Q E h => Sp1_len h) (fun cdv A outer s H vs Q E hr h => ?_)
  obtain ⟨x0, rfl, h⟩ := h
  have hu := hu_of hr
  have hu64 := hr.units
  refine ⟨_, (pss_cons (ps_expr (pe_call (ok_check_width M) (hr.mono (by decide)) rfl M.g_check_width M.F_check_width.kp M.b_check_width .nil (passE rfl rfl rfl rfl) (pa_cons (pv 0) pa_nil)))
    (pss_one (ps_ret (pe_op op_shl pe_int (pe_op op_sub (pv 0) pe_int))))), ?_⟩

  obtain ⟨hp, k1, k2⟩ := h
  refine ⟨_, rfl, _, rfl, hp, fun c => ?_, fun c => k2 c⟩
  obtain ⟨w, rfl, hw⟩ := isW_of c
  walk_at "rd"
  refine ⟨⟨by rcases hw with rfl | rfl | rfl <;> decide, by rcases hw with rfl | rfl | rfl <;> decide, by decide⟩, ?_⟩
  have q := k1 w rfl hw
  show Q (.int (1 * 2 ^ (w - 1).toNat)) H
  rw [Int.one_mul]
  exact q

theorem ok_wrap (M : TX K mg) : FnOk P w K mg base (L2.CX P w) 5 M.f_wrap M.d_wrap ["width", "number"] (sp_wrap M) := by
  have sc := sc_wrap
  refine M.F_wrap.okX sc (fun vs H Q E h => Sp2_len h) (fun cdv A outer s H vs Q E hr h => ?_)
  obtain ⟨x0, x1, rfl, h⟩ := h
  have hu := hu_of hr
  have hu64 := hr.units
  refine ⟨_, (pss_cons (ps_set (i := 2) sc.nd rfl (Or.inl rfl) (pe_call (ok_half M) (hr.mono (by decide)) rfl M.g_half M.F_half.kp M.b_half .nil (passE rfl rfl rfl rfl) (pa_cons (pv 0) pa_nil)))
    (pss_one (ps_ret (pe_op op_sub (pe_op op_mod (pe_op op_add (pv 1) (pv 2)) (pe_op op_mul pe_int (pv 2))) (pv 2))))), ?_⟩

  obtain ⟨n, rfl, hp, k1, k2⟩ := h
  refine ⟨_, rfl, _, rfl, hp, fun w e hw => ?_, fun c => k2 c⟩
  subst e
  have hq := hf_pos hw
  walk_at "rd"
  exact k1 w rfl hw

theorem ok_is_number (M : TX K mg) : FnOk P w K mg base (L2.CX P w) 5 M.f_is_number M.d_is_number ["width", "thing"] (sp_is_number M) := by
  have sc := sc_is_number
  refine M.F_is_number.okX sc (fun vs H Q E h => Sp2_len h) (fun cdv A outer s H vs Q E hr h => ?_)
  obtain ⟨x0, x1, rfl, h⟩ := h
  have hu := hu_of hr
  have hu64 := hr.units
  refine ⟨_, (pss_cons (ps_set (i := 2) sc.nd rfl (Or.inl rfl) (pe_call (ok_half M) (hr.mono (by decide)) rfl M.g_half M.F_half.kp M.b_half .nil (passE rfl rfl rfl rfl) (pa_cons (pv 0) pa_nil)))
    (pss_one (ps_ret (pe_call (ok_is_between M) (hr.mono (by decide)) rfl M.g_is_between M.F_is_between.kp M.b_is_between .nil (passE rfl rfl rfl rfl) (pa_cons (pv 1) (pa_cons (pe_un un_neg (pv 2)) (pa_cons (pe_op op_sub (pv 2) pe_int) pa_nil))))))), ?_⟩

  obtain ⟨hy, hp, k1, k2⟩ := h
  refine ⟨_, rfl, _, rfl, hp, fun w e hw => ?_, fun c => k2 c⟩
  subst e
  walk_at "rd"
  exact k1 w rfl hw

theorem ok_check_number (M : TX K mg) : FnOk P w K mg base (L2.CX P w) 6 M.f_check_number M.d_check_number ["width", "thing"] (sp_check_number M) := by
  have sc := sc_check_number
  refine M.F_check_number.okX sc (fun vs H Q E h => Sp2_len h) (fun cdv A outer s H vs Q E hr h => ?_)
  obtain ⟨x0, x1, rfl, h⟩ := h
  have hu := hu_of hr
  have hu64 := hr.units
  refine ⟨_, (pss_one (ps_if (pt_not (pt_val (pe_call (ok_is_number M) (hr.mono (by decide)) rfl M.g_is_number M.F_is_number.kp M.b_is_number .nil (passE rfl rfl rfl rfl) (pa_cons (pv 0) (pa_cons (pv 1) pa_nil)))))
      (pss_one (ps_rz rfl (takes_of rfl rfl rfl rfl) M.o_BadNumber M.F_BadNumber___init__.1 M.F_BadNumber___init__.2.1 (ok_BadNumber___init__ M) (hr.mono (by decide)) M.b_BadNumber___init__ rfl M.g_BadNumber (pa_cons (pv 1) pa_nil)))
      pss_nil)), ?_⟩

  obtain ⟨w, rfl, hw, hy, k1, k2⟩ := h
  refine ⟨_, rfl, _, rfl, _, _, rfl, hy, .int w, fun w' e hw' => ?_, fun c => by rw [isW_int hw] at c; cases c⟩
  cases e
  walk_at "rd"
  cases c : isN w x1
  · refine iteT ?_
    walk_at "rd"
    exact k2 c
  · exact iteF (k1 c)

end
end K01
namespace K01
open PySem PySem.Spec PyProof.Rows L2 My
section
variable {P : Program} {w : World} {K : PySem.W.Frag} {mg : Str → Option Value} {base : Heap}
theorem ok__law_bag (M : TX K mg) : FnOk P w K mg base (L2.CX P w) 1 M.f__law_bag M.d__law_bag ["_law_script"] (spBag K) := by
  have sc := sc__law_bag
  refine M.F__law_bag.okX sc (fun vs H Q E h => Sp1_len h) (fun cdv A outer s H vs Q E hr h => ?_)
  obtain ⟨x0, rfl, h⟩ := h
  have hu := hu_of hr
  have hu64 := hr.units
  refine ⟨_, (pss_one (ps_ret (pe_disp (pps_cons pe_str (pe_lc (own := [("_law_cell", 1)]) (g := gName 1) (tt := tYes) (by rfl) sc.nd (pi_listK K (pi_list (pv 0))) (blkOk_by (own := [("_law_cell", 1)]) (N := ["_law_script", "_law_cell"]) (sc := defScope s__law_bag) (by decide +kernel)) (fun _ _ _ _ _ => pg_name (i := 1) sc.nd rfl (Or.inl rfl)) (fun _ _ _ _ _ => pts_nil) (fun _ _ _ _ _ => (pe_callTy call_int1 (by rfl) M.n_int (by decide +kernel) (pa_cons (pv 1) pa_nil)))) (pps_cons pe_str pe_int (pps_cons pe_str pe_int (pps_cons pe_str pe_int (pps_cons pe_str pe_int pps_nil))))) (by rfl) (by rfl) (fun z => by cases z) (by decide)))), ?_⟩

  obtain ⟨a, ns, rfl, hS, hl, k⟩ := h
  intro p hp
  have s1 : Same H (upd H p (.dK [])) := Same.put (Same.refl H) hp
  refine ⟨_, rfl, a, rfl, ⟨_, s1.seq hS⟩, fun D hD => ?_⟩
  refine lc_list (xs := ns.map V.int) (LBd D (ns.map V.int) (upd H p (.dK []))) (LBd_0 hD) (fun i H' _ h => h.2.seq (s1.seq hS)) ?_ ?_
  · rintro i x H' hi B
    obtain ⟨z, hz, rfl⟩ := map_get hi
    refine ⟨rfl, tYes_i (iteT ?_)⟩
    walk_at "rd"
    exact LBd_s B hD hi (by rw [List.length_map]; omega)
  · intro H' B
    obtain ⟨hd, s2⟩ := LBd_n B rfl
    refine ⟨s2 _ _ upd_same, [((Sum.inr ("cells" : Str) : Key), V.ref D), (Sum.inr ("at" : Str), .int 0), (Sum.inr ("rest" : Str), .int 0), (Sum.inr ("seed" : Str), .int 20011), (Sum.inr ("count" : Str), .int 0)], rfl, Nat.le_of_ble_eq_true rfl, ?_⟩
    rw [merge_bag]
    have npd : D ≠ p := by
      intro e
      rw [e, upd_same] at hD
      cases hD
    refine k p _ hp ⟨D, ns, 0, 0, 20011, 0, upd_same, ?_, by decide, hl⟩ (Same.put (s1.trans s2) hp)
    rw [upd_ne npd]
    exact hd

theorem ok__law_pick (M : TX K mg) : FnOk P w K mg base (L2.CX P w) 1 M.f__law_pick M.d__law_pick ["_law_bag_here", "_law_many"] (spPick) := by
  have sc := sc__law_pick
  refine M.F__law_pick.okX sc (fun vs H Q E h => Sp2_len h) (fun cdv A outer s H vs Q E hr h => ?_)
  obtain ⟨x0, x1, rfl, h⟩ := h
  have hu := hu_of hr
  have hu64 := hr.units
  refine ⟨_, (pss_cons (ps_dput hu (pv 0) pe_str (pe_op op_add (pe_dget hu (pv 0) pe_str (fun _ _ => rfl)) pe_int) rfl)
    (pss_cons (ps_if (pt_cmpR op_gt (pe_dget hu (pv 0) pe_str (fun _ _ => rfl)) pe_int (nomark _))
      (pss_cons (ps_set (i := 2) sc.nd rfl (Or.inl rfl) (pe_op op_mod (pe_callTy call_int1 (by rfl) M.n_int (by decide +kernel) (pa_cons (pe_dget hu (pv 0) pe_str (fun _ _ => rfl)) pa_nil)) (pv 1)))
      (pss_cons (ps_dput hu (pv 0) pe_str (pe_op op_fdiv (pe_dget hu (pv 0) pe_str (fun _ _ => rfl)) (pv 1)) rfl)
      (pss_one (ps_ret (pv 2)))))
      pss_nil)
    (pss_cons (ps_if (pt_cmpR op_lt (pe_dget hu (pv 0) pe_str (fun _ _ => rfl)) (pe_callB (call_lenK K) (by rfl) M.n_len PySem.boot_len (pa_cons (pe_dget hu (pv 0) pe_str (fun _ _ => rfl)) pa_nil)) (nomark _))
      (pss_cons (ps_set (i := 3) sc.nd rfl (Or.inl rfl) (pe_ix (ix_listK K) (pe_dget hu (pv 0) pe_str (fun _ _ => rfl)) (pe_dget hu (pv 0) pe_str (fun _ _ => rfl)) (fun _ _ => rfl)))
      (pss_cons (ps_dput hu (pv 0) pe_str (pe_op op_add (pe_dget hu (pv 0) pe_str (fun _ _ => rfl)) pe_int) rfl)
      (pss_cons (ps_if (pt_cmpR op_ge (pv 3) pe_int (nomark _))
        (pss_cons (ps_dput hu (pv 0) pe_str (pe_op op_fdiv (pv 3) (pv 1)) rfl)
        (pss_one (ps_ret (pe_op op_mod (pe_callTy call_int1 (by rfl) M.n_int (by decide +kernel) (pa_cons (pv 3) pa_nil)) (pv 1)))))
        pss_nil)
      (pss_one (ps_dput hu (pv 0) pe_str (pe_op op_mod (pe_callTy call_int1 (by rfl) M.n_int (by decide +kernel) (pa_cons (pe_op op_add (pe_op op_add (pe_dget hu (pv 0) pe_str (fun _ _ => rfl)) (pe_op op_mul (pv 3) pe_int)) pe_int) pa_nil)) pe_int) rfl)))))
      pss_nil)
    (pss_cons (ps_dput hu (pv 0) pe_str (pe_op op_mod (pe_callTy call_int1 (by rfl) M.n_int (by decide +kernel) (pa_cons (pe_op op_add (pe_op op_add (pe_op op_mul (pe_dget hu (pv 0) pe_str (fun _ _ => rfl)) pe_int) (pe_op op_mul (pe_dget hu (pv 0) pe_str (fun _ _ => rfl)) pe_int)) pe_int) pa_nil)) pe_int) rfl)
    (pss_cons (ps_set (i := 4) sc.nd rfl (Or.inl rfl) (pe_op op_mod (pe_callTy call_int1 (by rfl) M.n_int (by decide +kernel) (pa_cons (pe_op op_add (pe_op op_mul (pe_dget hu (pv 0) pe_str (fun _ _ => rfl)) pe_int) (pe_op op_mul (pe_dget hu (pv 0) pe_str (fun _ _ => rfl)) pe_int)) pa_nil)) pe_int))
    (pss_one (ps_ret (pe_op op_mod (pe_callTy call_int1 (by rfl) M.n_int (by decide +kernel) (pa_cons (pe_op op_fdiv (pv 4) pe_int) pa_nil)) (pv 1))))))))), ?_⟩

  obtain ⟨b, m, rfl, rfl, h0, h1, B, k⟩ := h
  obtain ⟨c, ns, a, r, s0, n, hb, hc, ha, hl⟩ := B.ex
  have ncb : c ≠ b := ne_of hc hb (by intro z; cases z)
  have ed : ∀ x : Int, 0 ≤ x % m ∧ x % m < m := fun x => ⟨Int.emod_nonneg _ (by omega), Int.emod_lt_of_pos _ h0⟩
  walk_at "rd"
  refine iteD (fun c1 => ?_) (fun c1 => ?_)
  · walk_at "rd"
    refine k _ _ (ed _).1 (ed _).2 ⟨c, ns, _, _, _, _, upd_same, ?_, ?_, hl⟩ (Kp.refl.upd.upd) <;> first | walk_at "hp" | omega
  · walk_at "rd"
    refine iteD (fun c2 => ?_) (fun c2 => ?_)
    · rw [List.length_map] at c2
      obtain ⟨z, hz⟩ : ∃ z, ns[a.toNat]? = some z := ⟨_, List.getElem?_eq_getElem (by omega)⟩
      walk_at "rd"
      refine ⟨_, _, _, .int z, rfl, rfl, SqL.of (by walk_at "hp"), at_of (j := a.toNat) (by omega) (by rw [List.getElem?_map, hz]; rfl), ?_⟩
      walk_at "rd"
      refine iteD (fun c3 => ?_) (fun c3 => ?_)
      · walk_at "rd"
        refine k _ _ (ed _).1 (ed _).2 ⟨c, ns, _, _, _, _, upd_same, ?_, ?_, hl⟩ (Kp.refl.upd.upd.upd) <;> first | walk_at "hp" | omega
      · walk_at "rd"
        refine k _ _ (ed _).1 (ed _).2 ⟨c, ns, _, _, _, _, upd_same, ?_, ?_, hl⟩ (Kp.refl.upd.upd.upd.upd) <;> first | walk_at "hp" | omega
    · walk_at "rd"
      refine k _ _ (ed _).1 (ed _).2 ⟨c, ns, _, _, _, _, upd_same, ?_, ?_, hl⟩ (Kp.refl.upd.upd) <;> first | walk_at "hp" | omega

theorem ok__law_integer (M : TX K mg) : FnOk P w K mg base (L2.CX P w) 1 M.f__law_integer M.d__law_integer ["_law_thing"] (Sp1 fun x H Q _ => Pl H x ∧ Q (.bl (isI x)) H) := by
  have sc := sc__law_integer
  refine M.F__law_integer.okX sc (fun vs H Q E h => Sp1_len h) (fun cdv A outer s H vs Q E hr h => ?_)
  obtain ⟨x0, rfl, h⟩ := h
  have hu := hu_of hr
  have hu64 := hr.units
  refine ⟨_, (pss_one (ps_ret (pe_and (pe_callB call_isInt (by rfl) M.n_isinstance (by decide +kernel) (pa_cons (pv 0) (pa_cons (pe_bltn (v := .ty "int") (u := .type "int") (by rfl) M.n_int (by decide +kernel) rfl) pa_nil))) (pe_one (pe_not (pe_callB call_isBool (by rfl) M.n_isinstance (by decide +kernel) (pa_cons (pv 0) (pa_cons (pe_bltn (v := .ty "bool") (u := .type "bool") (by rfl) M.n_bool (by decide +kernel) rfl) pa_nil)))))))), ?_⟩

  obtain ⟨hp, q⟩ := h
  walk_at "rd"
  refine iteB (fun c => ?_) (fun c => ?_)
  · walk_at "rd"
    cases x0 <;> first | exact q | cases c
  · cases x0 <;> first | exact q | cases c

theorem ok__law_half (M : TX K mg) : FnOk P w K mg base (L2.CX P w) 1 M.f__law_half M.d__law_half ["_law_width"] (spHalf) := by
  have sc := sc__law_half
  refine M.F__law_half.okX sc (fun vs H Q E h => Sp1_len h) (fun cdv A outer s H vs Q E hr h => ?_)
  obtain ⟨x0, rfl, h⟩ := h
  have hu := hu_of hr
  have hu64 := hr.units
  refine ⟨_, (pss_one (ps_ret (pe_dget hu (pe_disp (pps_cons pe_int pe_int (pps_cons pe_int pe_int (pps_cons pe_int pe_int pps_nil))) (by rfl) (by rfl) (fun z => by cases z) (by decide)) (pv 0) (fun _ _ => rfl)))), ?_⟩

  obtain ⟨w, rfl, hw, k⟩ := h
  intro p hp
  refine ⟨upd_same, [((Sum.inl 16 : Key), V.int 32768), (Sum.inl 24, .int 8388608), (Sum.inl 32, .int 2147483648)], rfl, by decide, _, rfl, ?_⟩
  have s1 : ∀ o o', Same H (upd (upd H p o) p o') := fun o o' => Same.put (Same.put (Same.refl H) hp) hp
  rcases hw with rfl | rfl | rfl
  · exact ⟨_, _, rfl, DGet.k (k := Sum.inl 16) upd_same, k _ (s1 _ _)⟩
  · exact ⟨_, _, rfl, DGet.k (k := Sum.inl 24) upd_same, k _ (s1 _ _)⟩
  · exact ⟨_, _, rfl, DGet.k (k := Sum.inl 32) upd_same, k _ (s1 _ _)⟩

theorem ok__law_choice (M : TX K mg) : FnOk P w K mg base (L2.CX P w) 2 M.f__law_choice M.d__law_choice ["_law_bag_here", "_law_things"] (spChoice K) := by
  have sc := sc__law_choice
  refine M.F__law_choice.okX sc (fun vs H Q E h => Sp2_len h) (fun cdv A outer s H vs Q E hr h => ?_)
  obtain ⟨x0, x1, rfl, h⟩ := h
  have hu := hu_of hr
  have hu64 := hr.units
  refine ⟨_, (pss_one (ps_ret (pe_ix (ix_listK K) (pv 1) (pe_call (ok__law_pick M) (hr.mono (by decide)) rfl M.g__law_pick M.F__law_pick.kp M.b__law_pick .nil (passE rfl rfl rfl rfl) (pa_cons (pv 0) (pa_cons (pe_callB (call_lenK K) (by rfl) M.n_len PySem.boot_len (pa_cons (pv 1) pa_nil)) pa_nil))) (fun _ _ => rfl)))), ?_⟩

  obtain ⟨b, t, xs, rfl, rfl, ht, h0, h1, ntb, B, k⟩ := h
  walk_at "rd"
  intro v H' v0 v1 B' k'
  have hx : xs[v.toNat]? = some xs[v.toNat] := List.getElem?_eq_getElem (by omega)
  refine ⟨_, _, _, _, rfl, rfl, SqL.of (k' _ _ ntb ht), at_of (j := v.toNat) (by omega) hx, ?_⟩
  exact k _ _ _ hx B' k'

theorem ok__law_wrap (M : TX K mg) : FnOk P w K mg base (L2.CX P w) 2 M.f__law_wrap M.d__law_wrap ["_law_width", "_law_number"] (spWrap) := by
  have sc := sc__law_wrap
  refine M.F__law_wrap.okX sc (fun vs H Q E h => Sp2_len h) (fun cdv A outer s H vs Q E hr h => ?_)
  obtain ⟨x0, x1, rfl, h⟩ := h
  have hu := hu_of hr
  have hu64 := hr.units
  refine ⟨_, (pss_cons (ps_set (i := 2) sc.nd rfl (Or.inl rfl) (pe_call (ok__law_half M) (hr.mono (by decide)) rfl M.g__law_half M.F__law_half.kp M.b__law_half .nil (passE rfl rfl rfl rfl) (pa_cons (pv 0) pa_nil)))
    (pss_one (ps_ret (pe_op op_sub (pe_op op_mod (pe_callTy call_int1 (by rfl) M.n_int (by decide +kernel) (pa_cons (pe_op op_add (pv 1) (pv 2)) pa_nil)) (pe_op op_mul pe_int (pv 2))) (pv 2))))), ?_⟩

  obtain ⟨w, n, rfl, rfl, hw, k⟩ := h
  have hq := hf_pos hw
  walk_at "rd"
  intro H' s
  walk_at "rd"
  exact k _ s

theorem ok__law_num (M : TX K mg) : FnOk P w K mg base (L2.CX P w) 3 M.f__law_num M.d__law_num ["_law_bag_here", "_law_width"] (spNum) := by
  have sc := sc__law_num
  refine M.F__law_num.okX sc (fun vs H Q E h => Sp2_len h) (fun cdv A outer s H vs Q E hr h => ?_)
  obtain ⟨x0, x1, rfl, h⟩ := h
  have hu := hu_of hr
  have hu64 := hr.units
  refine ⟨_, (pss_cons (ps_set (i := 2) sc.nd rfl (Or.inl rfl) (pe_call (ok__law_pick M) (hr.mono (by decide)) rfl M.g__law_pick M.F__law_pick.kp M.b__law_pick .nil (passE rfl rfl rfl rfl) (pa_cons (pv 0) (pa_cons pe_int pa_nil))))
    (pss_cons (ps_set (i := 3) sc.nd rfl (Or.inl rfl) (pe_call (ok__law_half M) (hr.mono (by decide)) rfl M.g__law_half M.F__law_half.kp M.b__law_half .nil (passE rfl rfl rfl rfl) (pa_cons (pv 1) pa_nil)))
    (pss_cons (ps_if (pt_cmpR op_lt (pv 2) pe_int (nomark _))
      (pss_one (ps_ret (pe_call (ok__law_pick M) (hr.mono (by decide)) rfl M.g__law_pick M.F__law_pick.kp M.b__law_pick .nil (passE rfl rfl rfl rfl) (pa_cons (pv 0) (pa_cons pe_int pa_nil)))))
      pss_nil)
    (pss_cons (ps_if (pt_cmpR op_lt (pv 2) pe_int (nomark _))
      (pss_cons (ps_set (i := 4) sc.nd rfl (Or.inl rfl) (pe_call (ok__law_pick M) (hr.mono (by decide)) rfl M.g__law_pick M.F__law_pick.kp M.b__law_pick .nil (passE rfl rfl rfl rfl) (pa_cons (pv 0) (pa_cons pe_int pa_nil))))
      (pss_one (ps_ret (pe_ix (ix_listK K) (pe_lst (pa_cons (pe_op op_sub (pe_un un_neg pe_int) (pv 4)) (pa_cons (pe_op op_sub (pe_op op_sub (pv 3) pe_int) (pv 4)) (pa_cons (pe_op op_sub (pv 4) (pv 3)) (pa_cons (pe_op op_add pe_int (pe_op op_mul pe_int (pv 4))) pa_nil))))) (pe_op op_sub (pv 2) pe_int) (fun _ _ => rfl)))))
      pss_nil)
    (pss_one (ps_ret (pe_call (ok__law_wrap M) (hr.mono (by decide)) rfl M.g__law_wrap M.F__law_wrap.kp M.b__law_wrap .nil (passE rfl rfl rfl rfl) (pa_cons (pv 1) (pa_cons (pe_op op_add (pe_op op_mul (pe_call (ok__law_pick M) (hr.mono (by decide)) rfl M.g__law_pick M.F__law_pick.kp M.b__law_pick .nil (passE rfl rfl rfl rfl) (pa_cons (pv 0) (pa_cons pe_int pa_nil))) pe_int) (pe_call (ok__law_pick M) (hr.mono (by decide)) rfl M.g__law_pick M.F__law_pick.kp M.b__law_pick .nil (passE rfl rfl rfl rfl) (pa_cons (pv 0) (pa_cons pe_int pa_nil)))) pa_nil))))))))), ?_⟩

  obtain ⟨b, w, rfl, rfl, hw, B, k⟩ := h
  have hq := hf_pos hw
  have hq2 : 32768 ≤ hf w := by rcases hf_val hw with ⟨_, e⟩ | ⟨_, e⟩ | ⟨_, e⟩ <;> rw [e] <;> decide
  walk_at "rd"
  intro v H1 v0 v1 B1 k1
  walk_at "rd"
  intro H2 s2
  have B2 := B1.same s2
  have k2 := k1.trans (Kp.of s2)
  walk_at "rd"
  refine iteD (fun c1 => ?_) (fun c1 => ?_)
  · walk_at "rd"
    intro u H3 u0 u1 B3 k3
    exact k u H3 (by unfold InR; omega) B3 (k2.trans k3)
  · walk_at "rd"
    refine iteD (fun c2 => ?_) (fun c2 => ?_)
    · walk_at "rd"
      intro u H3 u0 u1 B3 k3
      walk_at "rd"
      intro p hp
      walk_at "rd"
      have fin : ∀ z, InR w z → Q (.int z) (upd H3 p (.lst [V.int (-1 - u), V.int (hf w - 1 - u), V.int (u - hf w), V.int (20 + 31 * u)])) := fun z hz => k z _ hz (B3.put hp) ((k2.trans k3).trans (Kp.put Kp.refl hp))
      have hv : v = 3 ∨ v = 4 ∨ v = 5 ∨ v = 6 := by omega
      rcases hv with rfl | rfl | rfl | rfl
      · exact ⟨_, _, _, _, rfl, rfl, SqL.of upd_same, rfl, fin _ (by unfold InR; omega)⟩
      · exact ⟨_, _, _, _, rfl, rfl, SqL.of upd_same, rfl, fin _ (by unfold InR; omega)⟩
      · exact ⟨_, _, _, _, rfl, rfl, SqL.of upd_same, rfl, fin _ (by unfold InR; omega)⟩
      · exact ⟨_, _, _, _, rfl, rfl, SqL.of upd_same, rfl, fin _ (by unfold InR; omega)⟩
    · walk_at "rd"
      intro u H3 u0 u1 B3 k3
      walk_at "rd"
      intro t H4 t0 t1 B4 k4
      walk_at "rd"
      intro H5 s5
      exact k _ _ (wrap_in hw) (B4.same s5) (((k2.trans k3).trans k4).trans (Kp.of s5))

end
end K01
namespace K01
open PySem PySem.Spec PyProof.Rows L2 My
section
variable {P : Program} {w : World} {K : PySem.W.Frag} {mg : Str → Option Value} {base : Heap}
theorem ok__law_of_bits (M : TX K mg) : FnOk P w K mg base (L2.CX P w) 1 M.f__law_of_bits M.d__law_of_bits ["_law_row"] (spOfBits K) := by
  have sc := sc__law_of_bits
  refine M.F__law_of_bits.okX sc (fun vs H Q E h => Sp1_len h) (fun cdv A outer s H vs Q E hr h => ?_)
  obtain ⟨x0, rfl, h⟩ := h
  have hu := hu_of hr
  have hu64 := hr.units
  refine ⟨_, (pss_cons (ps_set (i := 1) sc.nd rfl (Or.inl rfl) pe_int)
    (pss_cons (ps_set (i := 2) sc.nd rfl (Or.inl rfl) pe_int)
    (pss_cons (ps_for (passes_of rfl) rfl (pi_range1 rfl M.n_range (pa_cons (pe_op op_sub (pe_callB (call_lenK K) (by rfl) M.n_len PySem.boot_len (pa_cons (pv 0) pa_nil)) pe_int) pa_nil)) (pg_name (i := 3) sc.nd rfl (Or.inl rfl))
      (pss_cons (ps_set (i := 1) sc.nd rfl (Or.inl rfl) (pe_op op_add (pv 1) (pe_op op_mul (pe_ix (ix_listK K) (pv 0) (pv 3) (fun _ _ => rfl)) (pv 2))))
      (pss_one (ps_set (i := 2) sc.nd rfl (Or.inl rfl) (pe_op op_mul (pv 2) pe_int)))))
    (pss_one (ps_ret (pe_op op_sub (pv 1) (pe_op op_mul (pe_ix (ix_listK K) (pv 0) (pe_un un_neg pe_int) (fun _ _ => rfl)) (pv 2)))))))), ?_⟩

  obtain ⟨p, w, n, rfl, hp, hw, k⟩ := h
  have hn := wnat hw
  have hlen : ((bts w.toNat n).map V.int).length = w.toNat := by rw [List.length_map, bts_len]
  walk_at "rd"
  rw [hlen]
  have en : ((w.toNat : Int) - 1).toNat = (w - 1).toNat := by omega
  rw [en]
  refine for_range (lo := 0) (n := (w - 1).toNat) (fun i σ H2 => H2 = H ∧ ∃ v, σ = [some (.ref p), some (.int (val n i)), some (.int (2 ^ i)), v]) ⟨rfl, none, rfl⟩ ?_ ?_
  · rintro i σ H2 hi ⟨rfl, v, rfl⟩
    have hb := bit_01 n i
    refine ⟨_, rfl, _, rfl, _, rfl, ⟨_, _, _, _, rfl, rfl, SqL.of hp, at_of (j := i) (by omega) (map_put (bts_get n (by omega))), ?_⟩⟩
    walk_at "rd"
    exact ⟨some (.int (0 + i)), rfl⟩
  · rintro σ H2 ⟨rfl, v, rfl⟩
    have hb := bit_01 n (w - 1).toNat
    have hlast : (bts w.toNat n).map V.int = (bts (w - 1).toNat n).map V.int ++ [V.int (bit n (w - 1).toNat)] := by
      rw [← hn.2.2.2, bts_succ, List.map_append]; rfl
    refine ⟨_, rfl, _, rfl, _, rfl, _, _, _, .int (bit n (w - 1).toNat), rfl, rfl, SqL.of hp, by rw [hlast]; exact atI_last _ _, ?_⟩
    walk_at "rd"
    rw [← val_wrap hw n] at k
    exact k

theorem ok__law_sum (M : TX K mg) : FnOk P w K mg base (L2.CX P w) 1 M.f__law_sum M.d__law_sum ["_law_first", "_law_second", "_law_carry"] (spSum K) := by
  have sc := sc__law_sum
  refine M.F__law_sum.okX sc (fun vs H Q E h => Sp3_len h) (fun cdv A outer s H vs Q E hr h => ?_)
  obtain ⟨x0, x1, x2, rfl, h⟩ := h
  have hu := hu_of hr
  have hu64 := hr.units
  refine ⟨_, (pss_cons (ps_set (i := 3) sc.nd rfl (Or.inl rfl) (pe_lst pa_nil))
    (pss_cons (ps_for (passes_of rfl) rfl (pi_range1 rfl M.n_range (pa_cons (pe_callB (call_lenK K) (by rfl) M.n_len PySem.boot_len (pa_cons (pv 0) pa_nil)) pa_nil)) (pg_name (i := 4) sc.nd rfl (Or.inl rfl))
      (pss_cons (ps_set (i := 5) sc.nd rfl (Or.inl rfl) (pe_op op_add (pe_op op_add (pe_ix (ix_listK K) (pv 0) (pv 4) (fun _ _ => rfl)) (pe_ix (ix_listK K) (pv 1) (pv 4) (fun _ _ => rfl))) (pv 2)))
      (pss_cons (ps_expr (pe_bmK K (pe_bm PySem.F.plainAttrs_list PySem.F.slot_list_append PySem.F.type_list_append mt_append (pv 3) (pa_cons (pe_op op_mod (pe_callTy call_int1 (by rfl) M.n_int (by decide +kernel) (pa_cons (pv 5) pa_nil)) pe_int) pa_nil))))
      (pss_one (ps_set (i := 2) sc.nd rfl (Or.inl rfl) (pe_op op_fdiv (pv 5) pe_int))))))
    (pss_one (ps_ret (pv 3))))), ?_⟩

  obtain ⟨p, q, c, w, a, b, rfl, rfl, rfl, hp, hq, hc, hw, k⟩ := h
  have hlen : ((bts w a).map V.int).length = w := by rw [List.length_map, bts_len]
  have hp1 : ∀ l, H l = none → upd H l (.lst []) p = some (.lst ((bts w a).map V.int)) := fun l hl => by rw [upd_ne (ne_of_none hp hl)]; exact hp
  walk_at "rd"
  intro l hl
  have hp2 := hp1 l hl
  walk_at "rd"
  rw [hlen]
  refine for_range (lo := 0) (n := w) (fun i σ H2 => ∃ v t, σ = [some (.ref p), some (.ref q), some (.int (car a b c i)), some (.ref l), v, t] ∧ LBd l ((bts w (a + b + c)).map V.int) H i H2) ⟨none, none, ?_, LBd_0 hl⟩ ?_ ?_
  · have e : car a b c 0 = c := by unfold car; simp
    rw [e]; rfl
  · rintro i σ H2 hi ⟨v, t, rfl, B⟩
    have hB := B.1
    have hp2 := B.2 _ _ hp
    have hq2 := B.2 _ _ hq
    refine ⟨_, rfl, _, rfl, _, _, _, _, rfl, rfl, SqL.of hp2, at_of (j := i) (by omega) (map_put (bts_get a (by omega))), ?_⟩
    refine ⟨_, rfl, _, rfl, _, _, _, _, rfl, rfl, SqL.of hq2, at_of (j := i) (by omega) (map_put (bts_get b (by omega))), ?_⟩
    walk_at "rd"
    refine ⟨by rw [List.length_take, sizeLine_eq]; omega, ?_⟩
    walk_at "rd"
    have e := add_bit (a := a) (b := b) (c := c) i
    have hb := bit_01 (a + b + c) i
    have z := LBd_p B hl (map_put (bts_get (a + b + c) hi))
    have e1 : (bit a i + bit b i + car a b c i) % 2 = bit (a + b + c) i := by omega
    have e2 : (bit a i + bit b i + car a b c i) / 2 = car a b c (i + 1) := by omega
    rw [← e1] at z
    rw [← e2]
    exact ⟨_, _, rfl, z⟩
  · rintro σ H2 ⟨v, t, rfl, B⟩
    obtain ⟨hd, s2⟩ := LBd_n B (by rw [List.length_map, bts_len])
    walk_at "rd"
    exact k l H2 hl hd s2

theorem ok__law_bits (M : TX K mg) : FnOk P w K mg base (L2.CX P w) 2 M.f__law_bits M.d__law_bits ["_law_width", "_law_number"] (spBits) := by
  have sc := sc__law_bits
  refine M.F__law_bits.okX sc (fun vs H Q E h => Sp2_len h) (fun cdv A outer s H vs Q E hr h => ?_)
  obtain ⟨x0, x1, rfl, h⟩ := h
  have hu := hu_of hr
  have hu64 := hr.units
  refine ⟨_, (pss_cons (ps_set (i := 2) sc.nd rfl (Or.inl rfl) (pe_op op_mod (pe_callTy call_int1 (by rfl) M.n_int (by decide +kernel) (pa_cons (pv 1) pa_nil)) (pe_op op_mul pe_int (pe_call (ok__law_half M) (hr.mono (by decide)) rfl M.g__law_half M.F__law_half.kp M.b__law_half .nil (passE rfl rfl rfl rfl) (pa_cons (pv 0) pa_nil)))))
    (pss_cons (ps_set (i := 3) sc.nd rfl (Or.inl rfl) (pe_lst pa_nil))
    (pss_cons (ps_for (passes_of rfl) rfl (pi_range1 rfl M.n_range (pa_cons (pv 0) pa_nil)) (pg_name (i := 4) sc.nd rfl (Or.inl rfl))
      (pss_cons (ps_expr (pe_bmK K (pe_bm PySem.F.plainAttrs_list PySem.F.slot_list_append PySem.F.type_list_append mt_append (pv 3) (pa_cons (pe_op op_mod (pe_callTy call_int1 (by rfl) M.n_int (by decide +kernel) (pa_cons (pv 2) pa_nil)) pe_int) pa_nil))))
      (pss_one (ps_set (i := 2) sc.nd rfl (Or.inl rfl) (pe_op op_fdiv (pv 2) pe_int)))))
    (pss_one (ps_ret (pv 3)))))), ?_⟩

  obtain ⟨w, n, rfl, rfl, hw, k⟩ := h
  have hq := hf_pos hw
  have hn := wnat hw
  walk_at "rd"
  intro H1 s1
  walk_at "rd"
  intro l hl
  have hl0 : H l = none := s1.free hl
  walk_at "rd"
  refine for_range (lo := 0) (n := w.toNat) (fun i σ H2 => ∃ v, σ = [some (.int w), some (.int n), some (.int (rst w n i)), some (.ref l), v] ∧ LBd l ((bts w.toNat n).map V.int) H1 i H2) ⟨none, ?_, LBd_0 hl⟩ ?_ ?_
  · rw [rst_0]; rfl
  · rintro i σ H2 hi ⟨v, rfl, B⟩
    have hB := B.1
    walk_at "rd"
    refine ⟨by rw [List.length_take, sizeLine_eq]; omega, ?_⟩
    walk_at "rd"
    have e1 := rst_s (w := w) (n := n) i
    have e2 := rst_bit (n := n) hw hi
    have z := LBd_p B hl (map_put (bts_get n hi))
    rw [← e2] at z
    refine ⟨some (.int (0 + i)), ?_, z⟩
    rw [← e1]; rfl
  · rintro σ H2 ⟨v, rfl, B⟩
    obtain ⟨hd, s2⟩ := LBd_n B (by rw [List.length_map, bts_len])
    walk_at "rd"
    exact k l H2 hl0 hd (s1.trans s2)

end
end K01
namespace K01
open PySem PySem.Spec PyProof.Rows L2 My
section
variable {P : Program} {w : World} {K : PySem.W.Frag} {mg : Str → Option Value} {base : Heap}

abbrev spLDiv : Sp := Sp2 fun x y H Q _ => ∃ (l r : Int), x = .int l ∧ y = .int r ∧ r ≠ 0 ∧ l.natAbs < 2 ^ 33 ∧ ∀ H', Same H H' → Q (.int (l.fdiv r)) H'
def rsN (l : Int) (i : Nat) : Int := (if l < 0 then -l else l) / 2 ^ i
theorem rsN_0 {l : Int} : rsN l 0 = if l < 0 then -l else l := by unfold rsN; simp
theorem rsN_s (l : Int) (i : Nat) : rsN l i / 2 = rsN l (i + 1) := by
  unfold rsN
  rw [Int.pow_succ, Int.ediv_ediv_of_nonneg (Int.le_of_lt (pow2_pos i))]
theorem rsN_nn (l : Int) (i : Nat) : 0 ≤ rsN l i := by
  unfold rsN
  refine Int.ediv_nonneg ?_ (Int.le_of_lt (pow2_pos i))
  split <;> omega
def dgs (l : Int) : List Int := (List.range 33).map fun i => rsN l i % 2
theorem dgs_get (l : Int) {i : Nat} (h : i < 33) : (dgs l)[i]? = some (rsN l i % 2) := by simp [dgs, h]
theorem dgs_len (l : Int) : (dgs l).length = 33 := by simp [dgs]
theorem big0 {l : Int} (h : l.natAbs < 2 ^ 33) : rsN l 33 = 0 := by
  unfold rsN
  refine Int.ediv_eq_zero_of_lt (by split <;> omega) ?_
  split <;> omega
def ab (r : Int) : Int := if r < 0 then -r else r
theorem step_div {m d r w : Int} (hr : 0 < r) (hd : d = 0 ∨ d = 1) : 
    (m % r * 2 + d ≥ r → (2 * m + d) / r = m / r * 2 + 1 ∧ (2 * m + d) % r = m % r * 2 + d - r) ∧ (¬ m % r * 2 + d ≥ r → (2 * m + d) / r = m / r * 2 ∧ (2 * m + d) % r = m % r * 2 + d) := by
  have h3 := Int.mul_ediv_add_emod m r
  have h1 := Int.emod_nonneg m (Int.ne_of_gt hr)
  have h2 := Int.emod_lt_of_pos m hr
  refine ⟨fun c => dm ?_ (by omega) (by omega), fun c => dm ?_ (by omega) (by omega)⟩
  · rw [Int.mul_add, Int.mul_one, ← Int.mul_assoc]; omega
  · rw [← Int.mul_assoc]; omega
theorem fdiv_same {l r : Int} (hr : r ≠ 0) (h : (l < 0) = (r < 0)) : l.fdiv r = (if l < 0 then -l else l) / ab r := by
  unfold ab
  by_cases c : l < 0
  · have c2 : r < 0 := by rw [← h]; exact c
    rw [if_pos c, if_pos c2, ← Int.neg_fdiv_neg, Int.fdiv_eq_ediv_of_nonneg _ (by omega)]
  · have c2 : ¬ r < 0 := by rw [← h]; exact c
    rw [if_neg c, if_neg c2, Int.fdiv_eq_ediv_of_nonneg _ (by omega)]
theorem neg_div {m r : Int} (hr : 0 < r) : (-m) / r = if m % r > 0 then -(m / r + 1) else -(m / r) := by
  have h3 := Int.mul_ediv_add_emod m r
  have h1 := Int.emod_nonneg m (Int.ne_of_gt hr)
  have h2 := Int.emod_lt_of_pos m hr
  split
  · refine (dm (q := -(m / r + 1)) (r := r - m % r) ?_ (by omega) (by omega)).1
    rw [Int.mul_neg, Int.mul_add, Int.mul_one]; omega
  · refine (dm (q := -(m / r)) (r := 0) ?_ (by omega) (by omega)).1
    rw [Int.mul_neg]; omega
theorem fdiv_other {l r : Int} (hr : r ≠ 0) (h : ¬ (l < 0) = (r < 0)) : l.fdiv r = if (if l < 0 then -l else l) % ab r > 0 then -((if l < 0 then -l else l) / ab r + 1) else -((if l < 0 then -l else l) / ab r) := by
  unfold ab
  by_cases c : l < 0
  · have c2 : ¬ r < 0 := fun z => h (by simp [c, z])
    rw [if_pos c, if_neg c2, ← neg_div (by omega), Int.neg_neg, Int.fdiv_eq_ediv_of_nonneg _ (by omega)]
  · have c2 : r < 0 := by
      by_cases z : r < 0
      · exact z
      · exact absurd (by simp [c, z]) h
    rw [if_neg c, if_pos c2, ← neg_div (by omega), ← Int.neg_fdiv_neg, Int.fdiv_eq_ediv_of_nonneg _ (by omega)]

theorem ok__law_divided (M : TX K mg) : FnOk P w K mg base (L2.CX P w) 1 M.f__law_divided M.d__law_divided ["_law_left", "_law_right"] (spLDiv) := by
  have sc := sc__law_divided
  refine M.F__law_divided.okX sc (fun vs H Q E h => Sp2_len h) (fun cdv A outer s H vs Q E hr h => ?_)
  obtain ⟨x0, x1, rfl, h⟩ := h
  have hu := hu_of hr
  have hu64 := hr.units
  refine ⟨_, (pss_cons (ps_set (i := 2) sc.nd rfl (Or.inl rfl) (pe_lst pa_nil))
    (pss_cons (ps_set (i := 3) sc.nd rfl (Or.inl rfl) (pe_callB call_abs (by rfl) M.n_abs (by decide +kernel) (pa_cons (pv 0) pa_nil)))
    (pss_cons (ps_for (passes_of rfl) rfl (pi_range1 rfl M.n_range (pa_cons pe_int pa_nil)) (pg_name (i := 4) sc.nd rfl (Or.inl rfl))
      (pss_cons (ps_expr (pe_bmK K (pe_bm PySem.F.plainAttrs_list PySem.F.slot_list_append PySem.F.type_list_append mt_append (pv 2) (pa_cons (pe_op op_mod (pe_callTy call_int1 (by rfl) M.n_int (by decide +kernel) (pa_cons (pv 3) pa_nil)) pe_int) pa_nil))))
      (pss_one (ps_set (i := 3) sc.nd rfl (Or.inl rfl) (pe_op op_fdiv (pv 3) pe_int)))))
    (pss_cons (ps_set (i := 5) sc.nd rfl (Or.inl rfl) pe_int)
    (pss_cons (ps_set (i := 3) sc.nd rfl (Or.inl rfl) pe_int)
    (pss_cons (ps_for (passes_of rfl) rfl (pi_range1 rfl M.n_range (pa_cons pe_int pa_nil)) (pg_name (i := 4) sc.nd rfl (Or.inl rfl))
      (pss_cons (ps_set (i := 3) sc.nd rfl (Or.inl rfl) (pe_op op_add (pe_op op_mul (pv 3) pe_int) (pe_ix (ix_listK K) (pv 2) (pe_op op_sub pe_int (pv 4)) (fun _ _ => rfl))))
      (pss_cons (ps_set (i := 5) sc.nd rfl (Or.inl rfl) (pe_op op_mul (pv 5) pe_int))
      (pss_one (ps_if (pt_cmpR op_ge (pv 3) (pe_callB call_abs (by rfl) M.n_abs (by decide +kernel) (pa_cons (pv 1) pa_nil)) (nomark _))
        (pss_cons (ps_set (i := 3) sc.nd rfl (Or.inl rfl) (pe_op op_sub (pv 3) (pe_callB call_abs (by rfl) M.n_abs (by decide +kernel) (pa_cons (pv 1) pa_nil))))
        (pss_one (ps_set (i := 5) sc.nd rfl (Or.inl rfl) (pe_op op_add (pv 5) pe_int))))
        pss_nil)))))
    (pss_cons (ps_if (pt_cmpR op_eq (pe_cmpR op_lt (pv 0) pe_int (nomark _)) (pe_cmpR op_lt (pv 1) pe_int (nomark _)) (nomark _))
      (pss_one (ps_ret (pv 5)))
      pss_nil)
    (pss_cons (ps_if (pt_cmpR op_gt (pv 3) pe_int (nomark _))
      (pss_one (ps_set (i := 5) sc.nd rfl (Or.inl rfl) (pe_op op_add (pv 5) pe_int)))
      pss_nil)
    (pss_one (ps_ret (pe_un un_neg (pv 5)))))))))))), ?_⟩

  obtain ⟨l, r, rfl, rfl, hr0, hl, k⟩ := h
  have h33 := big0 hl
  have har : 0 < ab r := by unfold ab; split <;> omega
  walk_at "rd"
  intro d hd
  walk_at "rd"
  refine for_range (lo := 0) (n := 33) (fun i σ H2 => ∃ u, σ = [some (.int l), some (.int r), some (.ref d), some (.int (rsN l i)), u, none] ∧ LBd d ((dgs l).map V.int) H i H2) ⟨none, ?_, LBd_0 hd⟩ ?_ ?_
  · rw [rsN_0]; rfl
  · rintro i σ H2 hi ⟨u, rfl, B⟩
    have hB := B.hd
    have hl2 : (((dgs l).map V.int).take i).length < sizeLine := by rw [List.length_take, sizeLine_eq]; omega
    walk_at "rd"
    rw [← rsN_s]
    exact ⟨_, rfl, LBd_p B hd (map_put (dgs_get l hi))⟩
  · rintro σ H2 ⟨u, rfl, B⟩
    obtain ⟨hdd, s2⟩ := LBd_n B (by rw [List.length_map, dgs_len])
    walk_at "rd"
    refine for_range (lo := 0) (n := 33) (fun i σ H3 => H3 = H2 ∧ ∃ u, σ = [some (.int l), some (.int r), some (.ref d), some (.int (rsN l (33 - i) % ab r)), u, some (.int (rsN l (33 - i) / ab r))]) ⟨rfl, u, ?_⟩ ?_ ?_
    · show _ = [some (.int l), some (.int r), some (.ref d), some (.int (rsN l 33 % ab r)), u, some (.int (rsN l 33 / ab r))]
      rw [h33]; simp
    · rintro i σ H3 hi ⟨rfl, u, rfl⟩
      have e1 : rsN l (33 - (i + 1)) = 2 * rsN l (33 - i) + rsN l (32 - i) % 2 := by
        have e := rsN_s l (32 - i)
        have e2 : 32 - i + 1 = 33 - i := by omega
        have e3 : 33 - (i + 1) = 32 - i := by omega
        rw [e2] at e
        rw [e3]; omega
      have sd := step_div (m := rsN l (33 - i)) (d := rsN l (32 - i) % 2) (w := 0) har (by omega)
      rw [← e1] at sd
      walk_at "rd"
      refine ⟨_, _, _, .int (rsN l (32 - i) % 2), rfl, rfl, SqL.of hdd, at_of (j := 32 - i) (by omega) (map_put (dgs_get l (by omega))), ?_⟩
      walk_at "rd"
      refine iteD (fun c => ?_) (fun c => ?_)
      · obtain ⟨q1, q2⟩ := sd.1 c
        walk_at "rd"
        rw [q1, q2]
        exact ⟨_, rfl⟩
      · obtain ⟨q1, q2⟩ := sd.2 c
        rw [q1, q2]
        exact ⟨rfl, _, rfl⟩
    · rintro σ H3 ⟨rfl, u, rfl⟩
      have q := k H3 s2
      have e0 : rsN l (33 - 33) = if l < 0 then -l else l := rsN_0
      rw [e0]
      walk_at "rd"
      refine iteD (fun c => ?_) (fun c => ?_)
      · have h := propext (decide_eq_decide.mp (V.bl.inj c))
        rw [fdiv_same hr0 h] at q
        walk_at "rd"
        exact q
      · have h : ¬ (l < 0) = (r < 0) := fun e => c (congrArg V.bl (decide_eq_decide.mpr (by rw [e])))
        rw [fdiv_other hr0 h] at q
        walk_at "rd"
        refine iteD (fun c2 => ?_) (fun c2 => ?_)
        · rw [if_pos c2] at q
          walk_at "rd"
          exact q
        · rw [if_neg c2] at q
          walk_at "rd"
          exact q


theorem op_in1 {op s : Str} : V.str op = V.str s ↔ op = s := ⟨fun h => V.str.inj h, fun h => by rw [h]⟩
def tru (b : Bool) : Int := if b = true then -1 else 0
def two (w : Int) (op : Str) (l r : Int) : Int := if op = "+" then l + r else if op = "-" then l - r else if op = "*" then l * r else if op = "and" then Builtin.bitAnd l r else if op = "or" then Builtin.bitOr l r else if op = "xor" then Builtin.bitXor l r
  else if op = "=" then tru (decide (l = r)) else if op = "<" then tru (decide (l < r)) else if op = "u<" then tru (decide (l % (2 * hf w) < r % (2 * hf w))) else if op = "/" then l.fdiv r else l.fmod r
def DvOp (op : Str) : Prop := ¬ (op = "+" ∨ op = "-" ∨ op = "*" ∨ op = "and" ∨ op = "or" ∨ op = "xor" ∨ op = "=" ∨ op = "<" ∨ op = "u<")
instance (op : Str) : Decidable (DvOp op) := inferInstanceAs (Decidable (¬ _))
abbrev sp_of_two (M : TX K mg) : Sp := Sp4 fun x y z u H Q E => ∃ (w : Int) (op : Str) (l r : Int), x = .int w ∧ y = .str op ∧ z = .int l ∧ u = .int r ∧ Wd w ∧ InR w l ∧ InR w r ∧
  (DvOp op ∧ r = 0 → Rz M.c_ByZero "number" (.int l) H E) ∧ (¬ (DvOp op ∧ r = 0) → Q (.int (two w op l r)) H)

theorem ok_of_two (M : TX K mg) : FnOk P w K mg base (L2.CX P w) 5 M.f_of_two M.d_of_two ["width", "op", "left", "right"] (sp_of_two M) := by
  have sc := sc_of_two
  refine M.F_of_two.okX sc (fun vs H Q E h => Sp4_len h) (fun cdv A outer s H vs Q E hr h => ?_)
  obtain ⟨x0, x1, x2, x3, rfl, h⟩ := h
  have hu := hu_of hr
  have hu64 := hr.units
  refine ⟨_, (pss_cons (ps_if (pt_cmpR op_eq (pv 1) pe_str (nomark _))
      (pss_one (ps_ret (pe_op op_add (pv 2) (pv 3))))
      pss_nil)
    (pss_cons (ps_if (pt_cmpR op_eq (pv 1) pe_str (nomark _))
      (pss_one (ps_ret (pe_op op_sub (pv 2) (pv 3))))
      pss_nil)
    (pss_cons (ps_if (pt_cmpR op_eq (pv 1) pe_str (nomark _))
      (pss_one (ps_ret (pe_op op_mul (pv 2) (pv 3))))
      pss_nil)
    (pss_cons (ps_if (pt_cmpR op_eq (pv 1) pe_str (nomark _))
      (pss_one (ps_ret (pe_op op_and (pv 2) (pv 3))))
      pss_nil)
    (pss_cons (ps_if (pt_cmpR op_eq (pv 1) pe_str (nomark _))
      (pss_one (ps_ret (pe_op op_or (pv 2) (pv 3))))
      pss_nil)
    (pss_cons (ps_if (pt_cmpR op_eq (pv 1) pe_str (nomark _))
      (pss_one (ps_ret (pe_op op_xor (pv 2) (pv 3))))
      pss_nil)
    (pss_cons (ps_if (pt_cmpR op_eq (pv 1) pe_str (nomark _))
      (pss_one (ps_ret (pe_call (ok_truth M) (hr.mono (by decide)) rfl M.g_truth M.F_truth.kp M.b_truth .nil (passE rfl rfl rfl rfl) (pa_cons (pe_cmpR op_eq (pv 2) (pv 3) (nomark _)) pa_nil))))
      pss_nil)
    (pss_cons (ps_if (pt_cmpR op_eq (pv 1) pe_str (nomark _))
      (pss_one (ps_ret (pe_call (ok_truth M) (hr.mono (by decide)) rfl M.g_truth M.F_truth.kp M.b_truth .nil (passE rfl rfl rfl rfl) (pa_cons (pe_cmpR op_lt (pv 2) (pv 3) (nomark _)) pa_nil))))
      pss_nil)
    (pss_cons (ps_if (pt_cmpR op_eq (pv 1) pe_str (nomark _))
      (pss_cons (ps_set (i := 4) sc.nd rfl (Or.inl rfl) (pe_op op_mul pe_int (pe_call (ok_half M) (hr.mono (by decide)) rfl M.g_half M.F_half.kp M.b_half .nil (passE rfl rfl rfl rfl) (pa_cons (pv 0) pa_nil))))
      (pss_one (ps_ret (pe_call (ok_truth M) (hr.mono (by decide)) rfl M.g_truth M.F_truth.kp M.b_truth .nil (passE rfl rfl rfl rfl) (pa_cons (pe_cmpR op_lt (pe_op op_mod (pv 2) (pv 4)) (pe_op op_mod (pv 3) (pv 4)) (nomark _)) pa_nil)))))
      pss_nil)
    (pss_one (ps_ret (pe_call (ok_divided M) (hr.mono (by decide)) rfl M.g_divided M.F_divided.kp M.b_divided .nil (passE rfl rfl rfl rfl) (pa_cons (pv 1) (pa_cons (pv 2) (pa_cons (pv 3) pa_nil))))))))))))))), ?_⟩

  obtain ⟨w, op, l, r, rfl, rfl, rfl, rfl, hw, hl, hr', k1, k2⟩ := h
  have hq := hf_pos hw
  have hlog := hr'.log2 hw
  have hl' := hl
  have hr2 := hr'
  unfold InR at hl' hr2
  walk_at "rd"
  refine iteD (fun c0 => ?_) (fun c0 => ?_)
  · have eo : op = "+" := V.str.inj c0
    have q := k2 (fun z => z.1 (by simp [eo]))
    unfold two at q
    rw [if_pos eo] at q
    walk_at "rd"
    exact q
  · have n0 : ¬ op = "+" := fun e => c0 (by rw [e])
    walk_at "rd"
    refine iteD (fun c1 => ?_) (fun c1 => ?_)
    · have eo : op = "-" := V.str.inj c1
      have q := k2 (fun z => z.1 (by simp [eo]))
      unfold two at q
      rw [if_neg n0, if_pos eo] at q
      walk_at "rd"
      exact q
    · have n1 : ¬ op = "-" := fun e => c1 (by rw [e])
      walk_at "rd"
      refine iteD (fun c2 => ?_) (fun c2 => ?_)
      · have eo : op = "*" := V.str.inj c2
        have q := k2 (fun z => z.1 (by simp [eo]))
        unfold two at q
        rw [if_neg n0, if_neg n1, if_pos eo] at q
        walk_at "rd"
        exact q
      · have n2 : ¬ op = "*" := fun e => c2 (by rw [e])
        walk_at "rd"
        refine iteD (fun c3 => ?_) (fun c3 => ?_)
        · have eo : op = "and" := V.str.inj c3
          have q := k2 (fun z => z.1 (by simp [eo]))
          unfold two at q
          rw [if_neg n0, if_neg n1, if_neg n2, if_pos eo] at q
          walk_at "rd"
          exact q
        · have n3 : ¬ op = "and" := fun e => c3 (by rw [e])
          walk_at "rd"
          refine iteD (fun c4 => ?_) (fun c4 => ?_)
          · have eo : op = "or" := V.str.inj c4
            have q := k2 (fun z => z.1 (by simp [eo]))
            unfold two at q
            rw [if_neg n0, if_neg n1, if_neg n2, if_neg n3, if_pos eo] at q
            walk_at "rd"
            exact q
          · have n4 : ¬ op = "or" := fun e => c4 (by rw [e])
            walk_at "rd"
            refine iteD (fun c5 => ?_) (fun c5 => ?_)
            · have eo : op = "xor" := V.str.inj c5
              have q := k2 (fun z => z.1 (by simp [eo]))
              unfold two at q
              rw [if_neg n0, if_neg n1, if_neg n2, if_neg n3, if_neg n4, if_pos eo] at q
              walk_at "rd"
              exact q
            · have n5 : ¬ op = "xor" := fun e => c5 (by rw [e])
              walk_at "rd"
              refine iteD (fun c6 => ?_) (fun c6 => ?_)
              · have eo : op = "=" := V.str.inj c6
                have q := k2 (fun z => z.1 (by simp [eo]))
                unfold two at q
                rw [if_neg n0, if_neg n1, if_neg n2, if_neg n3, if_neg n4, if_neg n5, if_pos eo] at q
                have ee : decide (l = r) = decide (V.int l = V.int r) := by simp
                rw [ee] at q
                walk_at "rd"
                exact q
              · have n6 : ¬ op = "=" := fun e => c6 (by rw [e])
                walk_at "rd"
                refine iteD (fun c7 => ?_) (fun c7 => ?_)
                · have eo : op = "<" := V.str.inj c7
                  have q := k2 (fun z => z.1 (by simp [eo]))
                  unfold two at q
                  rw [if_neg n0, if_neg n1, if_neg n2, if_neg n3, if_neg n4, if_neg n5, if_neg n6, if_pos eo] at q
                  walk_at "rd"
                  exact q
                · have n7 : ¬ op = "<" := fun e => c7 (by rw [e])
                  walk_at "rd"
                  refine iteD (fun c8 => ?_) (fun c8 => ?_)
                  · have eo : op = "u<" := V.str.inj c8
                    have q := k2 (fun z => z.1 (by simp [eo]))
                    unfold two at q
                    rw [if_neg n0, if_neg n1, if_neg n2, if_neg n3, if_neg n4, if_neg n5, if_neg n6, if_neg n7, if_pos eo] at q
                    walk_at "rd"
                    refine ⟨fun w' e _ => ?_, fun c => by rw [isW_int hw] at c; cases c⟩
                    cases e
                    walk_at "rd"
                    exact q
                  · have n8 : ¬ op = "u<" := fun e => c8 (by rw [e])
                    have dv : DvOp op := by unfold DvOp; simp [n0, n1, n2, n3, n4, n5, n6, n7, n8]
                    walk_at "rd"
                    refine ⟨fun e => k1 ⟨dv, e⟩, fun e => ?_⟩
                    have q := k2 (fun z => e z.2)
                    unfold two at q
                    rw [if_neg n0, if_neg n1, if_neg n2, if_neg n3, if_neg n4, if_neg n5, if_neg n6, if_neg n7, if_neg n8] at q
                    exact q

end
end K01
namespace K01
open PySem PySem.Spec PyProof.Rows L2 My
section
variable {P : Program} {w : World} {K : PySem.W.Frag} {mg : Str → Option Value} {base : Heap}

def jn (op : Str) (a b : Int) : Int := if op = "and" then Builtin.bitAnd a b else if op = "or" then Builtin.bitOr a b else Builtin.bitXor a b
abbrev spJoin : Sp := Sp3 fun x y z H Q _ => ∃ (op : Str) (p q : Addr) (w : Nat) (a b : Int), x = .str op ∧ y = .ref p ∧ z = .ref q ∧ H p = some (.lst ((bts w a).map V.int)) ∧ H q = some (.lst ((bts w b).map V.int)) ∧ w ≤ 64 ∧
  ∀ l H', H l = none → H' l = some (.lst ((bts w (jn op a b)).map V.int)) → Same H H' → Q (.ref l) H'

theorem ok__law_joined (M : TX K mg) : FnOk P w K mg base (L2.CX P w) 1 M.f__law_joined M.d__law_joined ["_law_op", "_law_first", "_law_second"] (spJoin) := by
  have sc := sc__law_joined
  refine M.F__law_joined.okX sc (fun vs H Q E h => Sp3_len h) (fun cdv A outer s H vs Q E hr h => ?_)
  obtain ⟨x0, x1, x2, rfl, h⟩ := h
  have hu := hu_of hr
  have hu64 := hr.units
  refine ⟨_, (pss_cons (ps_set (i := 3) sc.nd rfl (Or.inl rfl) (pe_lst pa_nil))
    (pss_cons (ps_for (passes_of rfl) rfl (pi_range1 rfl M.n_range (pa_cons (pe_callB (call_lenK K) (by rfl) M.n_len PySem.boot_len (pa_cons (pv 1) pa_nil)) pa_nil)) (pg_name (i := 4) sc.nd rfl (Or.inl rfl))
      (pss_cons (ps_set (i := 5) sc.nd rfl (Or.inl rfl) (pe_op op_add (pe_ix (ix_listK K) (pv 1) (pv 4) (fun _ _ => rfl)) (pe_ix (ix_listK K) (pv 2) (pv 4) (fun _ _ => rfl))))
      (pss_one (ps_if (pt_cmpR op_eq (pv 0) pe_str (nomark _))
        (pss_one (ps_expr (pe_bmK K (pe_bm PySem.F.plainAttrs_list PySem.F.slot_list_append PySem.F.type_list_append mt_append (pv 3) (pa_cons (pe_op op_fdiv (pv 5) pe_int) pa_nil)))))
        (pss_one (ps_if (pt_cmpR op_eq (pv 0) pe_str (nomark _))
          (pss_one (ps_expr (pe_bmK K (pe_bm PySem.F.plainAttrs_list PySem.F.slot_list_append PySem.F.type_list_append mt_append (pv 3) (pa_cons (pe_callB (call_min2 rfl) (by rfl) M.n_min (by decide +kernel) (pa_cons pe_int (pa_cons (pv 5) pa_nil))) pa_nil)))))
          (pss_one (ps_expr (pe_bmK K (pe_bm PySem.F.plainAttrs_list PySem.F.slot_list_append PySem.F.type_list_append mt_append (pv 3) (pa_cons (pe_op op_mod (pe_callTy call_int1 (by rfl) M.n_int (by decide +kernel) (pa_cons (pv 5) pa_nil)) pe_int) pa_nil)))))))))))
    (pss_one (ps_ret (pv 3))))), ?_⟩

  obtain ⟨op, p, q, w, a, b, rfl, rfl, rfl, hp, hq, hw, k⟩ := h
  have hlen : ((bts w a).map V.int).length = w := by rw [List.length_map, bts_len]
  walk_at "rd"
  intro l hl
  have hp1 : upd H l (.lst []) p = some (.lst ((bts w a).map V.int)) := by rw [upd_ne (ne_of_none hp hl)]; exact hp
  walk_at "rd"
  rw [hlen]
  refine for_range (lo := 0) (n := w) (fun i σ H2 => ∃ u v, σ = [some (.str op), some (.ref p), some (.ref q), some (.ref l), u, v] ∧ LBd l ((bts w (jn op a b)).map V.int) H i H2) ⟨none, none, rfl, LBd_0 hl⟩ ?_ ?_
  · rintro i σ H2 hi ⟨u, v, rfl, B⟩
    have hB := B.1
    have ha := bit_01 a i
    have hb := bit_01 b i
    have fin : ∀ z, z = bit (jn op a b) i → LBd l ((bts w (jn op a b)).map V.int) H (i + 1) (upd H2 l (.lst (((bts w (jn op a b)).map V.int).take i ++ [V.int z]))) := fun z e => by
      rw [e]; exact LBd_p B hl (map_put (bts_get (jn op a b) hi))
    refine ⟨_, rfl, _, rfl, _, _, _, _, rfl, rfl, SqL.of (B.2 _ _ hp), at_of (j := i) (by omega) (map_put (bts_get a (by omega))), ?_⟩
    refine ⟨_, rfl, _, rfl, _, _, _, _, rfl, rfl, SqL.of (B.2 _ _ hq), at_of (j := i) (by omega) (map_put (bts_get b (by omega))), ?_⟩
    have hl2 : (((bts w (jn op a b)).map V.int).take i).length < sizeLine := by rw [List.length_take, sizeLine_eq]; omega
    walk_at "rd"
    refine iteD (fun c => ?_) (fun c => ?_)
    · have eo := V.str.inj c
      walk_at "rd"
      refine fin _ ?_
      show (bit a i + bit b i) / 2 = bit (jn op a b) i
      unfold jn
      rw [if_pos eo, bit_and]
      rcases ha with ha | ha <;> rcases hb with hb | hb <;> rw [ha, hb] <;> decide
    · walk_at "rd"
      have no : ¬ op = "and" := fun e => c (by rw [e])
      refine iteD (fun c2 => ?_) (fun c2 => ?_)
      · have eo := V.str.inj c2
        walk_at "rd"
        refine fin _ ?_
        show (if bit a i + bit b i < 1 then bit a i + bit b i else 1) = bit (jn op a b) i
        unfold jn
        rw [if_neg no, if_pos eo, bit_or]
        rcases ha with ha | ha <;> rcases hb with hb | hb <;> rw [ha, hb] <;> decide
      · have no2 : ¬ op = "or" := fun e => c2 (by rw [e])
        walk_at "rd"
        refine fin _ ?_
        show (bit a i + bit b i) % 2 = bit (jn op a b) i
        unfold jn
        rw [if_neg no, if_neg no2, bit_xor]
  · rintro σ H2 ⟨u, v, rfl, B⟩
    obtain ⟨hd, s2⟩ := LBd_n B (by rw [List.length_map, bts_len])
    walk_at "rd"
    exact k l H2 hl hd s2


def blw (w : Nat) (a b : Int) : Int := if a % 2 ^ w < b % 2 ^ w then -1 else 0
abbrev spBelow : Sp := Sp2 fun x y H Q _ => ∃ (p q : Addr) (w : Nat) (a b : Int), x = .ref p ∧ y = .ref q ∧ H p = some (.lst ((bts w a).map V.int)) ∧ H q = some (.lst ((bts w b).map V.int)) ∧ w ≤ 64 ∧ Q (.int (blw w a b)) H
theorem blw_s (i : Nat) (a b : Int) : blw (i + 1) a b = if bit a i ≠ bit b i then -(bit b i) else blw i a b := by
  unfold blw
  rw [mod_next, mod_next]
  have hP := pow2_pos i
  have h1 := Int.emod_nonneg a (Int.ne_of_gt hP)
  have h2 := Int.emod_lt_of_pos a hP
  have h3 := Int.emod_nonneg b (Int.ne_of_gt hP)
  have h4 := Int.emod_lt_of_pos b hP
  generalize (2 : Int) ^ i = P at *
  generalize a % P = x at *
  generalize b % P = y at *
  rcases bit_01 a i with ha | ha <;> rcases bit_01 b i with hb | hb <;> rw [ha, hb]
  · simp
  · rw [if_pos (by omega), if_pos (by decide)]
  · rw [if_neg (by omega), if_pos (by decide)]; rfl
  · rw [if_neg (show ¬ ((1 : Int) ≠ 1) by decide)]
    by_cases h : x < y
    · rw [if_pos h, if_pos (by omega)]
    · rw [if_neg h, if_neg (by omega)]

theorem ok__law_below (M : TX K mg) : FnOk P w K mg base (L2.CX P w) 1 M.f__law_below M.d__law_below ["_law_first", "_law_second"] (spBelow) := by
  have sc := sc__law_below
  refine M.F__law_below.okX sc (fun vs H Q E h => Sp2_len h) (fun cdv A outer s H vs Q E hr h => ?_)
  obtain ⟨x0, x1, rfl, h⟩ := h
  have hu := hu_of hr
  have hu64 := hr.units
  refine ⟨_, (pss_cons (ps_set (i := 2) sc.nd rfl (Or.inl rfl) pe_int)
    (pss_cons (ps_for (passes_of rfl) rfl (pi_range1 rfl M.n_range (pa_cons (pe_callB (call_lenK K) (by rfl) M.n_len PySem.boot_len (pa_cons (pv 0) pa_nil)) pa_nil)) (pg_name (i := 3) sc.nd rfl (Or.inl rfl))
      (pss_one (ps_if (pt_cmpR op_ne (pe_ix (ix_listK K) (pv 0) (pv 3) (fun _ _ => rfl)) (pe_ix (ix_listK K) (pv 1) (pv 3) (fun _ _ => rfl)) (nomark _))
        (pss_one (ps_set (i := 2) sc.nd rfl (Or.inl rfl) (pe_un un_neg (pe_ix (ix_listK K) (pv 1) (pv 3) (fun _ _ => rfl)))))
        pss_nil)))
    (pss_one (ps_ret (pv 2))))), ?_⟩

  obtain ⟨p, q, w, a, b, rfl, rfl, hp, hq, hw, k⟩ := h
  have hlen : ((bts w a).map V.int).length = w := by rw [List.length_map, bts_len]
  walk_at "rd"
  rw [hlen]
  refine for_range (lo := 0) (n := w) (fun i σ H2 => H2 = H ∧ ∃ v, σ = [some (.ref p), some (.ref q), some (.int (blw i a b)), v]) ⟨rfl, none, ?_⟩ ?_ ?_
  · have e : blw 0 a b = 0 := by unfold blw; simp [Int.emod_one]
    rw [e]; rfl
  · rintro i σ H2 hi ⟨rfl, v, rfl⟩
    have e := blw_s i a b
    refine ⟨_, rfl, _, rfl, _, _, _, _, rfl, rfl, SqL.of hp, at_of (j := i) (by omega) (map_put (bts_get a (by omega))), ?_⟩
    refine ⟨_, rfl, _, rfl, _, _, _, _, rfl, rfl, SqL.of hq, at_of (j := i) (by omega) (map_put (bts_get b (by omega))), ?_⟩
    walk_at "rd"
    refine iteND (fun c => ?_) (fun c => ?_)
    · rw [if_pos (fun z => c (by rw [z]))] at e
      refine ⟨_, rfl, _, rfl, _, _, _, _, rfl, rfl, SqL.of hq, at_of (j := i) (by omega) (map_put (bts_get b (by omega))), ?_⟩
      walk_at "rd"
      rw [e]
      exact ⟨_, rfl⟩
    · rw [if_neg (fun z => z (V.int.inj c))] at e
      rw [← e]
      exact ⟨rfl, _, rfl⟩
  · rintro σ H2 ⟨rfl, v, rfl⟩
    walk_at "rd"
    exact k


abbrev spTurn : Sp := Sp1 fun x H Q _ => ∃ (p : Addr) (w : Nat) (a : Int), x = .ref p ∧ H p = some (.lst ((bts (w + 1) a).map V.int)) ∧ w ≤ 64 ∧
  ∀ l H', H l = none → H' l = some (.lst ((bts (w + 1) (a + 2 ^ w)).map V.int)) → Same H H' → Q (.ref l) H'
theorem bts_turn (w : Nat) (a : Int) : bts w a ++ [1 - bit a w] = bts (w + 1) (a + 2 ^ w) := by
  rw [bts_succ]
  congr 1
  · exact bts_mod w _ _ ⟨1, by omega⟩
  · have e : bit (a + 2 ^ w) w = 1 - bit a w := by
      unfold bit
      have h := Int.add_mul_ediv_left a 1 (Int.ne_of_gt (pow2_pos w))
      rw [Int.mul_one] at h
      rw [h]; omega
    rw [e]

theorem ok__law_turned (M : TX K mg) : FnOk P w K mg base (L2.CX P w) 1 M.f__law_turned M.d__law_turned ["_law_row"] (spTurn) := by
  have sc := sc__law_turned
  refine M.F__law_turned.okX sc (fun vs H Q E h => Sp1_len h) (fun cdv A outer s H vs Q E hr h => ?_)
  obtain ⟨x0, rfl, h⟩ := h
  have hu := hu_of hr
  have hu64 := hr.units
  refine ⟨_, (pss_one (ps_ret (pe_op op_cat (pe_slice (sl_listK K) (pv 0) po_none (po_some (pe_un un_neg pe_int))) (pe_lst (pa_cons (pe_op op_sub pe_int (pe_ix (ix_listK K) (pv 0) (pe_un un_neg pe_int) (fun _ _ => rfl))) pa_nil))))), ?_⟩

  obtain ⟨p, w, a, rfl, hp, hw, k⟩ := h
  have hlast : (bts (w + 1) a).map V.int = (bts w a).map V.int ++ [V.int (bit a w)] := by rw [bts_succ, List.map_append]; rfl
  walk_at "rd"
  refine ⟨p, _, rfl, SqL.of hp, fun x hx => ?_⟩
  have hp1 : ∀ o, upd H x o p = some (.lst ((bts (w + 1) a).map V.int)) := fun o => by rw [upd_ne (ne_of_none hp hx)]; exact hp
  rw [cut_init, hlast, List.dropLast_concat]
  walk_at "rd"
  refine ⟨_, _, _, .int (bit a w), rfl, rfl, SqL.of (hp1 _), by rw [hlast]; exact atI_last _ _, ?_⟩
  walk_at "rd"
  intro y hy
  have nxy : x ≠ y := ne_of_none (o := .lst ((bts w a).map V.int)) upd_same hy
  refine ⟨x, y, _, _, rfl, rfl, by rw [upd_ne nxy, upd_same], upd_same, ?_, fun z hz => ?_⟩
  · rw [sizeLine_eq, List.length_map, bts_len]; simp; omega
  · have s1 : Same H (upd H x (.lst ((bts w a).map V.int))) := Same.put (Same.refl H) hx
    have s2 := Same.put (o := .lst [(fun i j => V.int (i - j)) 1 (bit a w)]) s1 (s1.free hy)
    refine k z _ (s2.free hz) ?_ (Same.put s2 (s2.free hz))
    rw [upd_same, ← bts_turn, List.map_append]; rfl

theorem ok__law_product (M : TX K mg) : FnOk P w K mg base (L2.CX P w) 2 M.f__law_product M.d__law_product ["_law_first", "_law_second"] (spProd K) := by
  have sc := sc__law_product
  refine M.F__law_product.okX sc (fun vs H Q E h => Sp2_len h) (fun cdv A outer s H vs Q E hr h => ?_)
  obtain ⟨x0, x1, rfl, h⟩ := h
  have hu := hu_of hr
  have hu64 := hr.units
  refine ⟨_, (pss_cons (ps_setLc (i := 2) (own := [("_law_bit", 5)]) (g := gName 5) (tt := tYes) (by rfl) sc.nd rfl rfl (sw_true rfl rfl rfl (by decide +kernel)) (pi_listK K (pi_list (pv 0))) (blkOk_by (own := [("_law_bit", 5)]) (N := ["_law_first", "_law_second", "_law_row", "_law_shifted", "_law_k", "_law_bit"]) (sc := defScope s__law_product) (by decide +kernel)) (fun _ _ _ _ _ => pg_name (i := 5) sc.nd rfl (Or.inl rfl)) (fun _ _ _ _ _ => pts_nil) (fun _ _ _ _ _ => pe_int))
    (pss_cons (ps_set (i := 3) sc.nd rfl (Or.inl rfl) (pe_callTy (call_listK K) (by rfl) M.n_list (by decide +kernel) (pa_cons (pv 0) pa_nil)))
    (pss_cons (ps_for (passes_of rfl) rfl (pi_range1 rfl M.n_range (pa_cons (pe_callB (call_lenK K) (by rfl) M.n_len PySem.boot_len (pa_cons (pv 1) pa_nil)) pa_nil)) (pg_name (i := 4) sc.nd rfl (Or.inl rfl))
      (pss_cons (ps_if (pt_cmpR op_eq (pe_ix (ix_listK K) (pv 1) (pv 4) (fun _ _ => rfl)) pe_int (nomark _))
        (pss_one (ps_set (i := 2) sc.nd rfl (Or.inl rfl) (pe_call (ok__law_sum M) (hr.mono (by decide)) rfl M.g__law_sum M.F__law_sum.kp M.b__law_sum .nil (passE rfl rfl rfl rfl) (pa_cons (pv 2) (pa_cons (pv 3) (pa_cons pe_int pa_nil))))))
        pss_nil)
      (pss_one (ps_set (i := 3) sc.nd rfl (Or.inl rfl) (pe_op op_cat (pe_lst (pa_cons pe_int pa_nil)) (pe_slice (sl_listK K) (pv 3) po_none (po_some (pe_un un_neg pe_int))))))))
    (pss_one (ps_ret (pv 2)))))), ?_⟩

  obtain ⟨p, q, w, a, b, rfl, rfl, hp, hq, hw, h0, k⟩ := h
  have hlen : ((bts w b).map V.int).length = w := by rw [List.length_map, bts_len]
  refine ⟨_, rfl, p, rfl, ⟨_, SqL.of hp⟩, fun D hD => ?_⟩
  have npD := ne_of_none hp hD
  refine lc_list (xs := (bts w a).map V.int) (LBd D ((bts w 0).map V.int) H) (LBd_0 hD) (fun i H' _ h => SqL.of (h.2 _ _ hp)) ?_ ?_
  · rintro i x H' hi B
    have hi2 : i < w := by
      have := (List.getElem?_eq_some_iff.mp hi).1
      rw [List.length_map, bts_len] at this; exact this
    refine ⟨rfl, tYes_i (iteT ?_)⟩
    have e : bit 0 i = 0 := by unfold bit; simp
    exact LBd_s B hD (by rw [map_put (bts_get 0 hi2), e]) (by rw [List.length_map, bts_len]; omega)
  · intro H1 B
    obtain ⟨hd, s1⟩ := LBd_n B (by rw [List.length_map, bts_len, List.length_map, bts_len])
    have hp1 := s1 _ _ hp
    have hq1 := s1 _ _ hq
    walk_at "rd"
    intro sh hsh
    have hq2 : upd H1 sh (.lst ((bts w a).map V.int)) q = some (.lst ((bts w b).map V.int)) := by rw [upd_ne (ne_of_none hq1 hsh)]; exact hq1
    walk_at "rd"
    rw [hlen]
    refine for_range (lo := 0) (n := w) (fun i σ H2 => ∃ r t u v, σ = [some (.ref p), some (.ref q), some (.ref r), some (.ref t), u, v] ∧ H2 r = some (.lst ((bts w (a * (b % 2 ^ i))).map V.int)) ∧ H2 t = some (.lst ((bts w (a * 2 ^ i)).map V.int)) ∧ Same H H2 ∧ H r = none) ⟨D, sh, none, none, rfl, ?_, ?_, Same.put s1 (s1.free hsh), hD⟩ ?_ ?_
    · rw [upd_ne (ne_of_none hd hsh), hd]; simp [Int.emod_one]
    · rw [upd_same]; simp
    · rintro i σ H2 hi ⟨r, t, u, v, rfl, hr2, ht2, s2, hr0⟩
      have hq3 := s2 _ _ hq
      have hb := bit_01 b i
      have hnx := mod_next b i
      refine ⟨_, rfl, _, rfl, _, _, _, _, rfl, rfl, SqL.of hq3, at_of (j := i) (by omega) (map_put (bts_get b (by omega))), ?_⟩
      have tail : ∀ (r' : Addr) (H3 : Hp), H3 r' = some (.lst ((bts w (a * (b % 2 ^ (i + 1)))).map V.int)) → Same H2 H3 → H r' = none →
          ∀ x y, H3 x = none → upd H3 x (.lst [V.int 0]) y = none → ∀ z, upd (upd H3 x (.lst [V.int 0])) y (.lst (((bts w (a * 2 ^ i)).map V.int).dropLast)) z = none →
          ∃ r1 t1 u1 v1, [some (V.ref p), some (V.ref q), some (V.ref r'), some (V.ref z), some (V.int (0 + i)), v] = [some (.ref p), some (.ref q), some (.ref r1), some (.ref t1), u1, v1] ∧
            upd (upd (upd H3 x (.lst [V.int 0])) y (.lst (((bts w (a * 2 ^ i)).map V.int).dropLast))) z (.lst ([V.int 0] ++ ((bts w (a * 2 ^ i)).map V.int).dropLast)) r1 = some (.lst ((bts w (a * (b % 2 ^ (i + 1)))).map V.int)) ∧
            upd (upd (upd H3 x (.lst [V.int 0])) y (.lst (((bts w (a * 2 ^ i)).map V.int).dropLast))) z (.lst ([V.int 0] ++ ((bts w (a * 2 ^ i)).map V.int).dropLast)) t1 = some (.lst ((bts w (a * 2 ^ (i + 1))).map V.int)) ∧
            Same H (upd (upd (upd H3 x (.lst [V.int 0])) y (.lst (((bts w (a * 2 ^ i)).map V.int).dropLast))) z (.lst ([V.int 0] ++ ((bts w (a * 2 ^ i)).map V.int).dropLast))) ∧ H r1 = none := by
        intro r' H3 hr3 s3 hr0' x y hx hy z hz
        have S3 := s2.trans s3
        have s4 : Same H3 (upd H3 x (.lst [V.int 0])) := Same.put (Same.refl H3) hx
        have s5 : Same H3 (upd (upd H3 x (.lst [V.int 0])) y (.lst (((bts w (a * 2 ^ i)).map V.int).dropLast))) := Same.put s4 (s4.free hy)
        have s6 := Same.put (o := .lst ([V.int 0] ++ ((bts w (a * 2 ^ i)).map V.int).dropLast)) s5 (s5.free hz)
        refine ⟨r', z, _, _, rfl, s6 _ _ hr3, ?_, S3.trans s6, hr0'⟩
        rw [upd_same, ← List.map_dropLast]
        have e := bts_shift h0 (a * 2 ^ i)
        have e2 : 2 * (a * 2 ^ i) = a * 2 ^ (i + 1) := by rw [Int.pow_succ, ← Int.mul_assoc a, Int.mul_comm 2]
        rw [e2] at e
        rw [← e]; rfl
      walk_at "rd"
      refine iteD (fun c => ?_) (fun c => ?_)
      · have c1 : bit b i = 1 := V.int.inj c
        have e : a * (b % 2 ^ i) + a * 2 ^ i + 0 = a * (b % 2 ^ (i + 1)) := by rw [hnx, c1, Int.mul_one, Int.mul_add]; omega
        walk_at "rd"
        refine ⟨r, t, 0, w, _, _, rfl, rfl, rfl, hr2, ht2, .inl rfl, hw, fun l H3 hl hd s3 => ?_⟩
        rw [e] at hd
        have T := tail l H3 hd s3 (s2.free hl)
        have ht3 := s3 _ _ ht2
        walk_at "rd"
        intro x hx
        have ht4 : upd H3 x (.lst [V.int 0]) t = some (.lst ((bts w (a * 2 ^ i)).map V.int)) := by rw [upd_ne (ne_of_none ht3 hx)]; exact ht3
        walk_at "rd"
        refine ⟨t, _, rfl, SqL.of ht4, fun y hy => ?_⟩
        rw [cut_init] 
        refine ⟨x, y, _, _, rfl, rfl, ?_, upd_same, ?_, fun z hz => T x y hx hy z hz⟩
        · have nxy : x ≠ y := ne_of_none (o := .lst [V.int 0]) upd_same hy
          rw [upd_ne nxy, upd_same]
        · rw [sizeLine_eq, List.length_dropLast, List.length_map, bts_len]; simp; omega
      · have c1 : bit b i = 0 := by
          rcases hb with h | h
          · exact h
          · exact absurd (by rw [h]) c
        have e : b % 2 ^ (i + 1) = b % 2 ^ i := by rw [hnx, c1]; omega
        have T := tail r H2 (by rw [e]; exact hr2) (Same.refl H2) hr0
        walk_at "rd"
        intro x hx
        have ht4 : upd H2 x (.lst [V.int 0]) t = some (.lst ((bts w (a * 2 ^ i)).map V.int)) := by rw [upd_ne (ne_of_none ht2 hx)]; exact ht2
        walk_at "rd"
        refine ⟨t, _, rfl, SqL.of ht4, fun y hy => ?_⟩
        rw [cut_init] 
        refine ⟨x, y, _, _, rfl, rfl, ?_, upd_same, ?_, fun z hz => T x y hx hy z hz⟩
        · have nxy : x ≠ y := ne_of_none (o := .lst [V.int 0]) upd_same hy
          rw [upd_ne nxy, upd_same]
        · rw [sizeLine_eq, List.length_dropLast, List.length_map, bts_len]; simp; omega
    · rintro σ H2 ⟨r, t, u, v, rfl, hr2, ht2, s2, hr0⟩
      walk_at "rd"
      refine k r H2 hr0 ?_ s2
      rw [hr2, bts_mod w (a * (b % 2 ^ w)) (a * b)]
      refine ⟨a * (b / 2 ^ w), ?_⟩
      have h3 := Int.mul_ediv_add_emod b (2 ^ w)
      have e : a * b = a * (2 ^ w * (b / 2 ^ w) + b % 2 ^ w) := by rw [h3]
      rw [e, Int.mul_add, Int.mul_left_comm, Int.add_comm]

end
end K01
namespace K01
open PySem PySem.Spec PyProof.Rows L2 My
section
variable {P : Program} {w : World} {K : PySem.W.Frag} {mg : Str → Option Value} {base : Heap}

def rs (w : Int) (op : Str) (ns : List Int) : Option Int := match ns with
  | [n] => some (if op = "invert" then -1 - n else tru (decide (n = 0)))
  | [l, r] => if DvOp op ∧ r = 0 then none else some (wrapI w (two w op l r))
  | _ => none
def ln (op : Str) : Nat := if op = "invert" ∨ op = "0=" then 1 else 2
abbrev sp_result_of (M : TX K mg) : Sp := Sp3 fun x y z H Q E => ∃ (w : Int) (op : Str) (t : Addr) (ns : List Int), x = .int w ∧ y = .str op ∧ z = .ref t ∧ H t = some (.tup (ns.map V.int)) ∧ Wd w ∧ (∀ n ∈ ns, InR w n) ∧ ns.length = ln op ∧
  (∀ v, rs w op ns = some v → Q (.int v) H) ∧ (rs w op ns = none → Rz M.c_ByZero "number" ((ns.map V.int).headD .non) H E)
theorem two_of : ∀ {ns : List Int}, ns.length = 2 → ∃ l r, ns = [l, r]
  | [l, r], _ => ⟨l, r, rfl⟩
  | [], h => by cases h
  | [_], h => by cases h
  | _ :: _ :: _ :: _, h => by simp at h
theorem one_of : ∀ {ns : List Int}, ns.length = 1 → ∃ n, ns = [n]
  | [n], _ => ⟨n, rfl⟩
  | [], h => by cases h
  | _ :: _ :: _, h => by simp at h

theorem ok_result_of (M : TX K mg) : FnOk P w K mg base (L2.CX P w) 6 M.f_result_of M.d_result_of ["width", "op", "numbers"] (sp_result_of M) := by
  have sc := sc_result_of
  refine M.F_result_of.okX sc (fun vs H Q E h => Sp3_len h) (fun cdv A outer s H vs Q E hr h => ?_)
  obtain ⟨x0, x1, x2, rfl, h⟩ := h
  have hu := hu_of hr
  have hu64 := hr.units
  refine ⟨_, (pss_cons (ps_if (pt_cmpR op_eq (pv 1) pe_str (nomark _))
      (pss_one (ps_ret (pe_op op_sub (pe_un un_neg pe_int) (pe_ix (ix_tupK K) (pv 2) pe_int (fun _ _ => rfl)))))
      pss_nil)
    (pss_cons (ps_if (pt_cmpR op_eq (pv 1) pe_str (nomark _))
      (pss_one (ps_ret (pe_call (ok_truth M) (hr.mono (by decide)) rfl M.g_truth M.F_truth.kp M.b_truth .nil (passE rfl rfl rfl rfl) (pa_cons (pe_cmpR op_eq (pe_ix (ix_tupK K) (pv 2) pe_int (fun _ _ => rfl)) pe_int (nomark _)) pa_nil))))
      pss_nil)
    (pss_one (ps_ret (pe_call (ok_wrap M) (hr.mono (by decide)) rfl M.g_wrap M.F_wrap.kp M.b_wrap .nil (passE rfl rfl rfl rfl) (pa_cons (pv 0) (pa_cons (pe_call (ok_of_two M) (hr.mono (by decide)) rfl M.g_of_two M.F_of_two.kp M.b_of_two .nil (passE rfl rfl rfl rfl) (pa_cons (pv 0) (pa_cons (pv 1) (pa_cons (pe_ix (ix_tupK K) (pv 2) pe_int (fun _ _ => rfl)) (pa_cons (pe_ix (ix_tupK K) (pv 2) pe_int (fun _ _ => rfl)) pa_nil))))) pa_nil))))))), ?_⟩

  obtain ⟨w, op, t, ns, rfl, rfl, rfl, ht, hw, hin, hlen, k1, k2⟩ := h
  walk_at "rd"
  refine iteD (fun c => ?_) (fun c => ?_)
  · have eo : op = "invert" := V.str.inj c
    have el : ln op = 1 := by unfold ln; rw [if_pos (.inl eo)]
    rw [el] at hlen
    obtain ⟨n, rfl⟩ := one_of hlen
    walk_at "rd"
    refine ⟨_, _, _, .int n, rfl, rfl, SqT.of ht, rfl, ?_⟩
    walk_at "rd"
    refine k1 _ ?_
    show some (if op = "invert" then -1 - n else tru (decide (n = 0))) = some (-1 - n)
    rw [if_pos eo]
  · have n0 : ¬ op = "invert" := fun e => c (by rw [e])
    walk_at "rd"
    refine iteD (fun c2 => ?_) (fun c2 => ?_)
    · have eo : op = "0=" := V.str.inj c2
      have el : ln op = 1 := by unfold ln; rw [if_pos (.inr eo)]
      rw [el] at hlen
      obtain ⟨n, rfl⟩ := one_of hlen
      walk_at "rd"
      refine ⟨_, _, _, .int n, rfl, rfl, SqT.of ht, rfl, ?_⟩
      walk_at "rd"
      refine k1 _ ?_
      show some (if op = "invert" then -1 - n else tru (decide (n = 0))) = some (if decide (V.int n = V.int 0) = true then -1 else 0)
      rw [if_neg n0]
      have ee : decide (V.int n = V.int 0) = decide (n = 0) := by simp
      rw [ee]; rfl
    · have n1 : ¬ op = "0=" := fun e => c2 (by rw [e])
      have el : ln op = 2 := by unfold ln; rw [if_neg (fun z => z.elim n0 n1)]
      rw [el] at hlen
      obtain ⟨l, r, rfl⟩ := two_of hlen
      have hl : InR w l := hin l (by simp)
      have hr2 : InR w r := hin r (by simp)
      walk_at "rd"
      refine ⟨_, _, _, .int l, rfl, rfl, SqT.of ht, rfl, ?_⟩
      refine ⟨_, rfl, _, _, _, .int r, rfl, rfl, SqT.of ht, rfl, ?_⟩
      refine ⟨_, _, _, _, rfl, w, op, l, r, rfl, rfl, rfl, rfl, hw, hl, hr2, fun z => k2 ?_, fun z => ?_⟩
      · show (if DvOp op ∧ r = 0 then none else some (wrapI w (two w op l r))) = none
        rw [if_pos z]
      · have q := k1 (wrapI w (two w op l r)) (by
          show (if DvOp op ∧ r = 0 then none else some (wrapI w (two w op l r))) = some _
          rw [if_neg z])
        walk_at "rd"
        refine ⟨fun w' e _ => by cases e; exact q, fun c => by rw [isW_int hw] at c; cases c⟩


inductive Oc where
  | told (i : Int) | bw (v : V) | bo (v : V) | bn (v : V) | bz (v : V)
def iw : V → Int
  | .int i => i
  | _ => 0
def actsD : List PyData := [.str "+", .str "-", .str "*", .str "/", .str "mod", .str "and", .str "or", .str "xor", .str "=", .str "<", .str "u<", .str "invert", .str "0="]
def okOp (d : PyData) : Bool := actsD.any fun z => PyData.eqv z d
def wk (x y : V) (d : PyData) (rest : List V) : Oc :=
  if isW x = false then .bw x else
  if okOp d = false then .bo y else
  match d with
  | .str o => if rest.length ≠ ln o then .bn .non else
    match rest.find? (fun v => !isN (iw x) v) with
    | some v => .bn v
    | none => match rs (iw x) o (rest.map iw) with
      | some r => .told r
      | none => .bz (rest.headD .non)
  | _ => .bo y
def Meets (M : TX K mg) (oc : Oc) (H : Hp) (Q : VK) (E : XK) : Prop := match oc with
  | .told i => Q (.int i) H
  | .bw v => Rz M.c_BadWidth "width" v H E
  | .bo v => Rz M.c_BadOp "op" v H E
  | .bn v => Rz M.c_BadNumber "number" v H E
  | .bz v => Rz M.c_ByZero "number" v H E
abbrev sp_work (M : TX K mg) : Sp := Sp3 fun x y z H Q E => ∃ (d : PyData) (t : Addr) (rest : List V), z = .ref t ∧ H t = some (.tup rest) ∧ Pl H x ∧ PD H y d ∧ (∀ v ∈ rest, Pl H v) ∧ rest.length ≤ 3 ∧ Meets M (wk x y d rest) H Q E
theorem okOp_str {d : PyData} (h : okOp d = true) : ∃ o, d = .str o := by
  cases d with
  | str o => exact ⟨o, rfl⟩
  | _ => unfold okOp actsD at h; simp [PyData.eqv] at h
theorem in_sgl (op : Str) : inV (.str op) [V.str "invert", V.str "0="] = decide (op = "invert" ∨ op = "0=") := by
  have e : ∀ s : Str, eqV (.str s) (.str op) = decide (op = s) := fun s => by
    show (s == op) = _
    by_cases h : op = s
    · subst h; simp
    · rw [decide_eq_false h]; exact beq_eq_false_iff_ne.mpr (fun z => h z.symm)
  unfold inV
  simp only [List.any_cons, List.any_nil, e, Bool.or_false, Bool.decide_or]
theorem acts_dp {K : PySem.W.Frag} {H : Hp} : DpAll K H [V.str "+", V.str "-", V.str "*", V.str "/", V.str "mod", V.str "and", V.str "or", V.str "xor", V.str "=", V.str "<", V.str "u<", V.str "invert", V.str "0="] actsD := by
  unfold actsD
  repeat (first | exact .nil | refine .cons (.str _) ?_)
theorem acts_sh : SeqAt.shaped (.tuple actsD) = true := by decide +kernel
theorem nums_of {w : Int} : ∀ {rest : List V}, (∀ v ∈ rest, isN w v = true) → rest = (rest.map iw).map V.int ∧ ∀ n ∈ rest.map iw, InR w n
  | [], _ => ⟨rfl, by simp⟩
  | v :: r, h => by
    obtain ⟨e, i⟩ := nums_of (rest := r) fun u hu => h u (List.mem_cons_of_mem _ hu)
    have hv := h v List.mem_cons_self
    cases v with
    | int n =>
      have hv' : (decide (-(hf w) ≤ n) && decide (n ≤ hf w - 1)) = true := hv
      rw [Bool.and_eq_true] at hv'
      have h1 := of_decide_eq_true hv'.1
      have h2 := of_decide_eq_true hv'.2
      refine ⟨by show V.int n :: r = V.int n :: (r.map iw).map V.int; rw [← e], fun m hm => ?_⟩
      rcases List.mem_cons.mp hm with hm | hm
      · rw [hm]
        show InR w n
        unfold InR; omega
      · exact i m hm
    | _ => cases hv

abbrev spR_work (M : TX K mg) : Sp := fun vs H Q E => ∃ ws rest, vs = ws ++ rest ∧ ws.length = (["width", "op"] : List Str).length ∧ rest.length ≤ sizeLine ∧ ∀ p, H p = Option.none → sp_work M (ws ++ [V.ref p]) (upd H p (.tup rest)) Q E

theorem ok_work (M : TX K mg) : FnR P w K mg base (L2.CX P w) 7 M.f_work (spR_work M) := by
  have sc := sc_work
  obtain ⟨oc, od, kV, doc, pm, an, cdv, ct, osl, e, lk, hcd⟩ := M.F_work.ex
  rw [e] at lk
  refine StX.fn_star (ps := ["width", "op"]) (pv := "numbers") lk hcd sc StX.cxUp (fun us rest hl => match us, hl, rest with
    | [_, _], _, [] => rfl
    | [_, _], _, _ :: _ => rfl) (fun A outer s H vs Q E hr h => ?_)
  obtain ⟨x0, x1, x2, rfl, h⟩ := h
  have hu := hu_of hr
  have hu64 := hr.units
  have hu65 : (A.deeper (envOfC "work" (defScope s_work) s.heap.objs.size M.f_work cdv)).units + 65 < cLine := by have := hr.un; omega
  refine ⟨_, (pss_cons (ps_expr (pe_call (ok_check_width M) (hr.mono (by decide)) rfl M.g_check_width M.F_check_width.kp M.b_check_width .nil (passE rfl rfl rfl rfl) (pa_cons (pv 0) pa_nil)))
    (pss_cons (ps_if (pt_cmpR (op_notInDTK K hu65) (pv 1) (pe_glob (v := .ref M.a_ARITHMETIC) rfl M.g_ARITHMETIC rfl) (by rfl))
      (pss_one (ps_rz rfl (takes_of rfl rfl rfl rfl) M.o_BadOp M.F_BadOp___init__.1 M.F_BadOp___init__.2.1 (ok_BadOp___init__ M) (hr.mono (by decide)) M.b_BadOp___init__ rfl M.g_BadOp (pa_cons (pv 1) pa_nil)))
      pss_nil)
    (pss_cons (ps_if (pt_cmpR op_ne (pe_callB (call_lenK K) (by rfl) M.n_len PySem.boot_len (pa_cons (pv 2) pa_nil)) (pe_ifExp (pt_cmpR (op_inK K) (pv 1) (pe_glob (v := .ref M.a_SINGLE) rfl M.g_SINGLE rfl) (by rfl)) pe_int pe_int) (nomark _))
      (pss_one (ps_rz rfl (takes_of rfl rfl rfl rfl) M.o_BadNumber M.F_BadNumber___init__.1 M.F_BadNumber___init__.2.1 (ok_BadNumber___init__ M) (hr.mono (by decide)) M.b_BadNumber___init__ rfl M.g_BadNumber (pa_cons pe_non pa_nil)))
      pss_nil)
    (pss_cons (ps_for (passes_of rfl) rfl (pi_tupK K (pi_tup (pv 2))) (pg_name (i := 3) sc.nd rfl (Or.inl rfl))
      (pss_one (ps_expr (pe_call (ok_check_number M) (hr.mono (by decide)) rfl M.g_check_number M.F_check_number.kp M.b_check_number .nil (passE rfl rfl rfl rfl) (pa_cons (pv 0) (pa_cons (pv 3) pa_nil))))))
    (pss_one (ps_ret (pe_call (ok_result_of M) (hr.mono (by decide)) rfl M.g_result_of M.F_result_of.kp M.b_result_of .nil (passE rfl rfl rfl rfl) (pa_cons (pv 0) (pa_cons (pv 1) (pa_cons (pv 2) pa_nil)))))))))), ?_⟩
  obtain ⟨d, t, rest, rfl, ht, hx, hy, hpl, hlen, m⟩ := h
  walk_at "rd"
  refine ⟨fun c => ?_, fun c => ?_⟩
  · obtain ⟨w, rfl, hw⟩ := isW_of c
    unfold wk at m
    rw [if_neg (by rw [c]; decide)] at m
    refine ⟨_, rfl, d, actsD, hy.dp, .tup (M.q_ARITHMETIC _) acts_dp, hy.shp, acts_sh, _, rfl, ?_⟩
    show if (!okOp d) = true then _ else _
    cases c2 : okOp d
    · rw [if_pos c2] at m
      refine iteT ?_
      walk_at "rd"
      exact m
    · rw [if_neg (by rw [c2]; decide)] at m
      refine iteF ?_
      obtain ⟨o, rfl⟩ := okOp_str c2
      cases hy with
      | str _ hso =>
      have m : Meets M (if rest.length ≠ ln o then Oc.bn V.non else match rest.find? (fun v => !isN w v) with | some v => Oc.bn v | none => match rs w o (rest.map iw) with | some r => Oc.told r | none => Oc.bz (rest.headD .non)) H Q E := m
      walk_at "rd"
      refine ⟨_, _, rfl, .inr (M.q_SINGLE _), rfl, rfl, _, rfl, ?_⟩
      show if inV (.str o) [V.str "invert", V.str "0="] = true then _ else _
      rw [in_sgl o]
      refine iteD (fun c3 => ?_) (fun c3 => ?_)
      · have eln : ln o = 1 := by unfold ln; rw [if_pos c3]
        walk_at "rd"
        refine iteND (fun c4 => ?_) (fun c4 => ?_)
        · have nl : rest.length ≠ ln o := fun z => c4 (by rw [z, eln]; rfl)
          rw [if_pos nl] at m
          walk_at "rd"
          exact m
        · have nl : ¬ rest.length ≠ ln o := fun z => z (by have := V.int.inj c4; rw [eln]; omega)
          rw [if_neg nl] at m
          walk_at "rd"
          refine ⟨⟨_, SqT.of ht⟩, ?_⟩
          refine for_tup (K := K) (a := t) (xs := rest) (fun i σ H2 => H2 = H ∧ ∃ v, σ = [some (.int w), some (.str o), some (.ref t), v] ∧ ∀ (j : Nat) (y : V), j < i → rest[j]? = some y → isN w y = true) ⟨rfl, none, rfl, fun j y hj => absurd hj (Nat.not_lt_zero j)⟩ (fun i σ H2 _ ⟨e, _⟩ => by rw [e]; exact SqT.of ht) ?_ ?_
          · rintro i y σ H2 hi ⟨rfl, v, rfl, hall⟩
            have hy' : Pl H2 y := hpl y (List.mem_of_getElem? hi)
            walk_at "rd"
            refine ⟨fun c5 => ⟨rfl, _, rfl, fun j z hj hz => ?_⟩, fun c5 => ?_⟩
            · by_cases e : j = i
              · rw [e, hi] at hz
                rw [← Option.some.inj hz]; exact c5
              · exact hall j z (by omega) hz
            · have e : rest.find? (fun v => !isN w v) = some y := find_first (fun j x hj hx => by rw [hall j x hj hx]; rfl) hi (by rw [c5]; rfl)
              rw [e] at m
              exact m
          · rintro σ H2 ⟨rfl, v, rfl, hall⟩
            have hal : ∀ u ∈ rest, isN w u = true := fun u hu => by
              obtain ⟨j, hj⟩ := List.mem_iff_getElem?.mp hu
              exact hall j u (List.getElem?_eq_some_iff.mp hj).1 hj
            have e : rest.find? (fun v => !isN w v) = none := find_none (fun j x hx => by rw [hal x (List.mem_of_getElem? hx)]; rfl)
            rw [e] at m
            obtain ⟨e1, e2⟩ := nums_of hal
            walk_at "rd"
            refine ⟨w, o, t, rest.map iw, rfl, rfl, rfl, by rw [← e1]; exact ht, hw, e2, by rw [List.length_map]; omega, fun u hu => ?_, fun hn => ?_⟩
            · have m2 : Meets M (match rs w o (rest.map iw) with | some r => Oc.told r | none => Oc.bz (rest.headD .non)) H2 Q E := m
              rw [hu] at m2
              exact m2
            · have m2 : Meets M (match rs w o (rest.map iw) with | some r => Oc.told r | none => Oc.bz (rest.headD .non)) H2 Q E := m
              rw [hn] at m2
              rw [← e1]
              exact m2
      · have eln : ln o = 2 := by unfold ln; rw [if_neg c3]
        walk_at "rd"
        refine iteND (fun c4 => ?_) (fun c4 => ?_)
        · have nl : rest.length ≠ ln o := fun z => c4 (by rw [z, eln]; rfl)
          rw [if_pos nl] at m
          walk_at "rd"
          exact m
        · have nl : ¬ rest.length ≠ ln o := fun z => z (by have := V.int.inj c4; rw [eln]; omega)
          rw [if_neg nl] at m
          walk_at "rd"
          refine ⟨⟨_, SqT.of ht⟩, ?_⟩
          refine for_tup (K := K) (a := t) (xs := rest) (fun i σ H2 => H2 = H ∧ ∃ v, σ = [some (.int w), some (.str o), some (.ref t), v] ∧ ∀ (j : Nat) (y : V), j < i → rest[j]? = some y → isN w y = true) ⟨rfl, none, rfl, fun j y hj => absurd hj (Nat.not_lt_zero j)⟩ (fun i σ H2 _ ⟨e, _⟩ => by rw [e]; exact SqT.of ht) ?_ ?_
          · rintro i y σ H2 hi ⟨rfl, v, rfl, hall⟩
            have hy' : Pl H2 y := hpl y (List.mem_of_getElem? hi)
            walk_at "rd"
            refine ⟨fun c5 => ⟨rfl, _, rfl, fun j z hj hz => ?_⟩, fun c5 => ?_⟩
            · by_cases e : j = i
              · rw [e, hi] at hz
                rw [← Option.some.inj hz]; exact c5
              · exact hall j z (by omega) hz
            · have e : rest.find? (fun v => !isN w v) = some y := find_first (fun j x hj hx => by rw [hall j x hj hx]; rfl) hi (by rw [c5]; rfl)
              rw [e] at m
              exact m
          · rintro σ H2 ⟨rfl, v, rfl, hall⟩
            have hal : ∀ u ∈ rest, isN w u = true := fun u hu => by
              obtain ⟨j, hj⟩ := List.mem_iff_getElem?.mp hu
              exact hall j u (List.getElem?_eq_some_iff.mp hj).1 hj
            have e : rest.find? (fun v => !isN w v) = none := find_none (fun j x hx => by rw [hal x (List.mem_of_getElem? hx)]; rfl)
            rw [e] at m
            obtain ⟨e1, e2⟩ := nums_of hal
            walk_at "rd"
            refine ⟨w, o, t, rest.map iw, rfl, rfl, rfl, by rw [← e1]; exact ht, hw, e2, by rw [List.length_map]; omega, fun u hu => ?_, fun hn => ?_⟩
            · have m2 : Meets M (match rs w o (rest.map iw) with | some r => Oc.told r | none => Oc.bz (rest.headD .non)) H2 Q E := m
              rw [hu] at m2
              exact m2
            · have m2 : Meets M (match rs w o (rest.map iw) with | some r => Oc.told r | none => Oc.bz (rest.headD .non)) H2 Q E := m
              rw [hn] at m2
              rw [← e1]
              exact m2
  · unfold wk at m
    rw [if_pos c] at m
    exact m

end
end K01
namespace K01
open PySem PySem.Spec PyProof.Rows L2 My
section
variable {P : Program} {w : World} {K : PySem.W.Frag} {mg : Str → Option Value} {base : Heap}

def res (w : Int) (op : Str) (l r : Int) : Int := if op = "invert" then -1 - l else if op = "0=" then tru (decide (l = 0)) else wrapI w (two w op l r)
def Acts (op : Str) : Prop := op = "+" ∨ op = "-" ∨ op = "*" ∨ op = "/" ∨ op = "mod" ∨ op = "and" ∨ op = "or" ∨ op = "xor" ∨ op = "=" ∨ op = "<" ∨ op = "u<" ∨ op = "invert" ∨ op = "0="
abbrev spDue : Sp := Sp4 fun x y z u H Q _ => ∃ (w : Int) (op : Str) (l r : Int), x = .int w ∧ y = .str op ∧ z = .int l ∧ u = .int r ∧ Wd w ∧ InR w l ∧ InR w r ∧ Acts op ∧ (op = "/" ∨ op = "mod" → r ≠ 0) ∧ ∀ H', Same H H' → Q (.int (res w op l r)) H'
theorem wrap_id {w v : Int} (hw : Wd w) (h : InR w v) : wrapI w v = v := by
  have hq := hf_pos hw
  unfold InR at h
  unfold wrapI
  rw [Int.emod_eq_of_lt (by omega) (by omega)]; omega
theorem fmod_in {w l r : Int} (hr : InR w r) (h0 : r ≠ 0) : l.fmod r = l - r * l.fdiv r ∧ InR w (l.fmod r) := by
  have e := Int.fmod_def l r
  refine ⟨e, ?_⟩
  unfold InR at hr ⊢
  by_cases c : 0 ≤ r
  · rw [Int.fmod_eq_emod_of_nonneg _ c]
    have h1 := Int.emod_nonneg l h0
    have h2 := Int.emod_lt_of_pos l (show 0 < r by omega)
    omega
  · rw [e, ← Int.neg_fdiv_neg, Int.fdiv_eq_ediv_of_nonneg _ (by omega)]
    have h3 := Int.mul_ediv_add_emod (-l) (-r)
    have h1 := Int.emod_nonneg (-l) (show -r ≠ 0 by omega)
    have h2 := Int.emod_lt_of_pos (-l) (show 0 < -r by omega)
    rw [Int.neg_mul] at h3
    generalize r * (-l / -r) = z at *
    omega
theorem val_cong {a b : Int} {w : Nat} (h : ∀ k, k < w → bit a k = bit b k) : ∀ i, i ≤ w → val a i = val b i
  | 0, _ => rfl
  | i + 1, hi => by
    show val a i + bit a i * 2 ^ i = val b i + bit b i * 2 ^ i
    rw [val_cong h i (by omega), h i (by omega)]
theorem bts_inj {w a b : Int} (hw : Wd w) (ha : InR w a) (hb : InR w b) : bts w.toNat a = bts w.toNat b ↔ a = b := by
  refine ⟨fun h => ?_, fun h => by rw [h]⟩
  have hn := wnat hw
  have e : ∀ k, k < w.toNat → bit a k = bit b k := fun k hk => by
    have h1 := bts_get a hk
    have h2 := bts_get b hk
    rw [h, h2] at h1
    exact (Option.some.inj h1).symm
  rw [← wrap_id hw ha, ← wrap_id hw hb, ← val_wrap hw a, ← val_wrap hw b, val_cong e _ (by omega), e _ (by omega)]
theorem any1 : ∀ ns : List Int, (∀ n ∈ ns, n = 0 ∨ n = 1) → inV (.int 1) (ns.map V.int) = !decide (ns = List.replicate ns.length 0)
  | [], _ => rfl
  | n :: r, h => by
    have ih := any1 r fun m hm => h m (List.mem_cons_of_mem _ hm)
    have hn := h n List.mem_cons_self
    show (eqV (.int n) (.int 1) || inV (.int 1) (r.map V.int)) = _
    rw [ih]
    rcases hn with rfl | rfl
    · show (false || _) = _
      rw [Bool.false_or, List.length_cons, List.replicate_succ]
      congr 1
      simp
    · show (true || _) = _
      rw [Bool.true_or, List.length_cons, List.replicate_succ]
      simp
theorem bits01 (w : Nat) (n : Int) : ∀ m ∈ bts w n, m = 0 ∨ m = 1 := fun m hm => by
  unfold bts at hm
  obtain ⟨k, _, rfl⟩ := List.mem_map.mp hm
  exact bit_01 n k
theorem flat_ints : ∀ ns : List Int, (ns.map V.int).all flatV = true
  | [] => rfl
  | n :: r => by
    have ih := flat_ints r
    simp only [List.map_cons, List.all_cons, ih]; rfl
theorem tru_in {w : Int} (hw : Wd w) (b : Bool) : InR w (tru b) := by
  have hq : 32768 ≤ hf w := by rcases hf_val hw with ⟨_, e⟩ | ⟨_, e⟩ | ⟨_, e⟩ <;> rw [e] <;> decide
  unfold InR tru
  cases b
  · simp; omega
  · simp; omega
theorem in3 (op : Str) : inV (.str op) [V.str "and", V.str "or", V.str "xor"] = decide (op = "and" ∨ op = "or" ∨ op = "xor") := by
  have e : ∀ s : Str, eqV (.str s) (.str op) = decide (op = s) := fun s => by
    show (s == op) = _
    by_cases h : op = s
    · subst h; simp
    · rw [decide_eq_false h]; exact beq_eq_false_iff_ne.mpr (fun z => h z.symm)
  unfold inV
  simp only [List.any_cons, List.any_nil, e, Bool.or_false, Bool.decide_or]
theorem blw_u {w l r : Int} (hw : Wd w) : blw w.toNat l r = tru (decide (l % (2 * hf w) < r % (2 * hf w))) := by
  unfold blw tru
  rw [pw hw]
  by_cases h : l % 2 ^ w.toNat < r % 2 ^ w.toNat
  · rw [if_pos h, if_pos (decide_eq_true h)]
  · rw [if_neg h, if_neg (fun e => h (of_decide_eq_true e))]
theorem blw_s2 {w l r : Int} (hw : Wd w) (hl : InR w l) (hr : InR w r) : blw w.toNat (l + 2 ^ (w - 1).toNat) (r + 2 ^ (w - 1).toNat) = tru (decide (l < r)) := by
  rw [blw_u hw]
  have e : (2 : Int) ^ (w - 1).toNat = hf w := rfl
  unfold InR at hl hr
  rw [e, Int.emod_eq_of_lt (by omega) (by omega), Int.emod_eq_of_lt (by omega) (by omega)]
  congr 1
  exact decide_eq_decide.mpr (by omega)

theorem ok__law_due (M : TX K mg) : FnOk P w K mg base (L2.CX P w) 3 M.f__law_due M.d__law_due ["_law_width", "_law_op", "_law_left", "_law_right"] (spDue) := by
  have sc := sc__law_due
  refine M.F__law_due.okX sc (fun vs H Q E h => Sp4_len h) (fun cdv A outer s H vs Q E hr h => ?_)
  obtain ⟨x0, x1, x2, x3, rfl, h⟩ := h
  have hu := hu_of hr
  have hu64 := hr.units
  refine ⟨_, (pss_cons (ps_set (i := 4) sc.nd rfl (Or.inl rfl) (pe_call (ok__law_bits M) (hr.mono (by decide)) rfl M.g__law_bits M.F__law_bits.kp M.b__law_bits .nil (passE rfl rfl rfl rfl) (pa_cons (pv 0) (pa_cons (pv 2) pa_nil))))
    (pss_cons (ps_set (i := 5) sc.nd rfl (Or.inl rfl) (pe_call (ok__law_bits M) (hr.mono (by decide)) rfl M.g__law_bits M.F__law_bits.kp M.b__law_bits .nil (passE rfl rfl rfl rfl) (pa_cons (pv 0) (pa_cons (pv 3) pa_nil))))
    (pss_cons (ps_if (pt_cmpR op_eq (pv 1) pe_str (nomark _))
      (pss_one (ps_ret (pe_call (ok__law_of_bits M) (hr.mono (by decide)) rfl M.g__law_of_bits M.F__law_of_bits.kp M.b__law_of_bits .nil (passE rfl rfl rfl rfl) (pa_cons (pe_call (ok__law_sum M) (hr.mono (by decide)) rfl M.g__law_sum M.F__law_sum.kp M.b__law_sum .nil (passE rfl rfl rfl rfl) (pa_cons (pv 4) (pa_cons (pv 5) (pa_cons pe_int pa_nil)))) pa_nil))))
      pss_nil)
    (pss_cons (ps_if (pt_cmpR op_eq (pv 1) pe_str (nomark _))
      (pss_one (ps_ret (pe_call (ok__law_of_bits M) (hr.mono (by decide)) rfl M.g__law_of_bits M.F__law_of_bits.kp M.b__law_of_bits .nil (passE rfl rfl rfl rfl) (pa_cons (pe_call (ok__law_sum M) (hr.mono (by decide)) rfl M.g__law_sum M.F__law_sum.kp M.b__law_sum .nil (passE rfl rfl rfl rfl) (pa_cons (pv 4) (pa_cons (pe_lc (own := [("_law_bit", 6)]) (g := gName 6) (tt := tYes) (by rfl) sc.nd (pi_listK K (pi_list (pv 5))) (blkOk_by (own := [("_law_bit", 6)]) (N := ["_law_width", "_law_op", "_law_left", "_law_right", "_law_first", "_law_second", "_law_bit"]) (sc := defScope s__law_due) (by decide +kernel)) (fun _ _ _ _ _ => pg_name (i := 6) sc.nd rfl (Or.inl rfl)) (fun _ _ _ _ _ => pts_nil) (fun _ _ _ _ _ => (pe_op op_sub pe_int (pv 6)))) (pa_cons pe_int pa_nil)))) pa_nil))))
      pss_nil)
    (pss_cons (ps_if (pt_cmpR op_eq (pv 1) pe_str (nomark _))
      (pss_one (ps_ret (pe_call (ok__law_of_bits M) (hr.mono (by decide)) rfl M.g__law_of_bits M.F__law_of_bits.kp M.b__law_of_bits .nil (passE rfl rfl rfl rfl) (pa_cons (pe_call (ok__law_product M) (hr.mono (by decide)) rfl M.g__law_product M.F__law_product.kp M.b__law_product .nil (passE rfl rfl rfl rfl) (pa_cons (pv 4) (pa_cons (pv 5) pa_nil))) pa_nil))))
      pss_nil)
    (pss_cons (ps_if (pt_cmpR op_eq (pv 1) pe_str (nomark _))
      (pss_one (ps_ret (pe_call (ok__law_of_bits M) (hr.mono (by decide)) rfl M.g__law_of_bits M.F__law_of_bits.kp M.b__law_of_bits .nil (passE rfl rfl rfl rfl) (pa_cons (pe_call (ok__law_bits M) (hr.mono (by decide)) rfl M.g__law_bits M.F__law_bits.kp M.b__law_bits .nil (passE rfl rfl rfl rfl) (pa_cons (pv 0) (pa_cons (pe_call (ok__law_divided M) (hr.mono (by decide)) rfl M.g__law_divided M.F__law_divided.kp M.b__law_divided .nil (passE rfl rfl rfl rfl) (pa_cons (pv 2) (pa_cons (pv 3) pa_nil))) pa_nil))) pa_nil))))
      pss_nil)
    (pss_cons (ps_if (pt_cmpR op_eq (pv 1) pe_str (nomark _))
      (pss_one (ps_ret (pe_op op_sub (pv 2) (pe_op op_mul (pv 3) (pe_call (ok__law_divided M) (hr.mono (by decide)) rfl M.g__law_divided M.F__law_divided.kp M.b__law_divided .nil (passE rfl rfl rfl rfl) (pa_cons (pv 2) (pa_cons (pv 3) pa_nil)))))))
      pss_nil)
    (pss_cons (ps_if (pt_cmpR (op_inK K) (pv 1) (pe_tup (pa_cons pe_str (pa_cons pe_str (pa_cons pe_str pa_nil)))) (by rfl))
      (pss_one (ps_ret (pe_call (ok__law_of_bits M) (hr.mono (by decide)) rfl M.g__law_of_bits M.F__law_of_bits.kp M.b__law_of_bits .nil (passE rfl rfl rfl rfl) (pa_cons (pe_call (ok__law_joined M) (hr.mono (by decide)) rfl M.g__law_joined M.F__law_joined.kp M.b__law_joined .nil (passE rfl rfl rfl rfl) (pa_cons (pv 1) (pa_cons (pv 4) (pa_cons (pv 5) pa_nil)))) pa_nil))))
      pss_nil)
    (pss_cons (ps_if (pt_cmpR op_eq (pv 1) pe_str (nomark _))
      (pss_one (ps_ret (pe_un un_neg (pe_callTy call_int1 (by rfl) M.n_int (by decide +kernel) (pa_cons (pe_cmpR (op_eqIntsK K hu64) (pv 4) (pv 5) (nomark _)) pa_nil)))))
      pss_nil)
    (pss_cons (ps_if (pt_cmpR op_eq (pv 1) pe_str (nomark _))
      (pss_one (ps_ret (pe_call (ok__law_below M) (hr.mono (by decide)) rfl M.g__law_below M.F__law_below.kp M.b__law_below .nil (passE rfl rfl rfl rfl) (pa_cons (pe_call (ok__law_turned M) (hr.mono (by decide)) rfl M.g__law_turned M.F__law_turned.kp M.b__law_turned .nil (passE rfl rfl rfl rfl) (pa_cons (pv 4) pa_nil)) (pa_cons (pe_call (ok__law_turned M) (hr.mono (by decide)) rfl M.g__law_turned M.F__law_turned.kp M.b__law_turned .nil (passE rfl rfl rfl rfl) (pa_cons (pv 5) pa_nil)) pa_nil)))))
      pss_nil)
    (pss_cons (ps_if (pt_cmpR op_eq (pv 1) pe_str (nomark _))
      (pss_one (ps_ret (pe_call (ok__law_below M) (hr.mono (by decide)) rfl M.g__law_below M.F__law_below.kp M.b__law_below .nil (passE rfl rfl rfl rfl) (pa_cons (pv 4) (pa_cons (pv 5) pa_nil)))))
      pss_nil)
    (pss_cons (ps_if (pt_cmpR op_eq (pv 1) pe_str (nomark _))
      (pss_one (ps_ret (pe_call (ok__law_of_bits M) (hr.mono (by decide)) rfl M.g__law_of_bits M.F__law_of_bits.kp M.b__law_of_bits .nil (passE rfl rfl rfl rfl) (pa_cons (pe_lc (own := [("_law_bit", 6)]) (g := gName 6) (tt := tYes) (by rfl) sc.nd (pi_listK K (pi_list (pv 4))) (blkOk_by (own := [("_law_bit", 6)]) (N := ["_law_width", "_law_op", "_law_left", "_law_right", "_law_first", "_law_second", "_law_bit"]) (sc := defScope s__law_due) (by decide +kernel)) (fun _ _ _ _ _ => pg_name (i := 6) sc.nd rfl (Or.inl rfl)) (fun _ _ _ _ _ => pts_nil) (fun _ _ _ _ _ => (pe_op op_sub pe_int (pv 6)))) pa_nil))))
      pss_nil)
    (pss_one (ps_ret (pe_un un_neg (pe_callTy call_int1 (by rfl) M.n_int (by decide +kernel) (pa_cons (pe_cmpR (op_notInK K) pe_int (pv 4) (by rfl)) pa_nil))))))))))))))))), ?_⟩

  obtain ⟨w, op, l, r, rfl, rfl, rfl, rfl, hw, hl, hr', hop, hz, k⟩ := h
  have hq := hf_pos hw
  have hn := wnat hw
  have hl' := hl
  have hr2 := hr'
  unfold InR at hl' hr2
  have fin : ∀ v H', Same H H' → v = res w op l r → Q (.int v) H' := fun v H' s e => by rw [e]; exact k H' s
  walk_at "rd"
  intro f H1 hf0 hf1 s1
  walk_at "rd"
  intro g H2 hg0 hg2 s2
  have hf2 := s2 _ _ hf1
  have S2 := s1.trans s2
  walk_at "rd"
  refine iteD (fun c0 => ?_) (fun c0 => ?_)
  · have eo : op = "+" := V.str.inj c0
    have er : res w op l r = wrapI w (l + r) := by rw [eo]; rfl
    walk_at "rd"
    refine ⟨f, g, 0, w.toNat, l, r, rfl, rfl, rfl, hf2, hg2, .inl rfl, by omega, fun x H3 hx hxx s3 => ?_⟩
    walk_at "rd"
    refine ⟨x, w, _, rfl, hxx, hw, fin _ _ (S2.trans s3) ?_⟩
    rw [er, Int.add_zero]
  · have n0 : ¬ op = "+" := fun e => c0 (by rw [e])
    walk_at "rd"
    refine iteD (fun c1 => ?_) (fun c1 => ?_)
    · have eo : op = "-" := V.str.inj c1
      have er : res w op l r = wrapI w (l - r) := by rw [eo]; rfl
      walk_at "rd"
      refine ⟨⟨_, SqL.of hg2⟩, fun D hD => ?_⟩
      refine lc_list (xs := (bts w.toNat r).map V.int) (LBd D ((bts w.toNat (-1 - r)).map V.int) H2) (LBd_0 hD) (fun i H' _ h => SqL.of (h.sm _ _ hg2)) ?_ ?_
      · rintro i x H' hi B
        have hi2 : i < w.toNat := by
          have := (List.getElem?_eq_some_iff.mp hi).1
          rw [List.length_map, bts_len] at this; exact this
        have ex : x = .int (bit r i) := by
          rw [map_put (bts_get r hi2)] at hi
          exact (Option.some.inj hi).symm
        subst ex
        refine ⟨rfl, tYes_i (iteT ?_)⟩
        walk_at "rd"
        have z := LBd_s B hD (map_put (bts_get (-1 - r) hi2)) (by rw [List.length_map, bts_len]; omega)
        rw [bit_not r i] at z
        exact z
      · intro H3 B
        obtain ⟨hd, s3⟩ := LBd_n B (by rw [List.length_map, bts_len, List.length_map, bts_len])
        walk_at "rd"
        refine ⟨f, D, 1, w.toNat, l, -1 - r, rfl, rfl, rfl, s3 _ _ hf2, hd, .inr rfl, by omega, fun x H4 hx hxx s4 => ?_⟩
        walk_at "rd"
        refine ⟨x, w, _, rfl, hxx, hw, fin _ _ ((S2.trans s3).trans s4) ?_⟩
        rw [er]
        congr 1; omega
    · have n1 : ¬ op = "-" := fun e => c1 (by rw [e])
      walk_at "rd"
      refine iteD (fun c2 => ?_) (fun c2 => ?_)
      · have eo : op = "*" := V.str.inj c2
        have er : res w op l r = wrapI w (l * r) := by rw [eo]; rfl
        walk_at "rd"
        refine ⟨f, g, w.toNat, l, r, rfl, rfl, hf2, hg2, by omega, by omega, fun x H3 hx hxx s3 => ?_⟩
        walk_at "rd"
        refine ⟨x, w, _, rfl, hxx, hw, fin _ _ (S2.trans s3) ?_⟩
        rw [er]
      · have n2 : ¬ op = "*" := fun e => c2 (by rw [e])
        walk_at "rd"
        refine iteD (fun c3 => ?_) (fun c3 => ?_)
        · have eo : op = "/" := V.str.inj c3
          have er : res w op l r = wrapI w (l.fdiv r) := by rw [eo]; rfl
          walk_at "rd"
          have hr0 := hz (.inl eo)
          refine ⟨hr0, by omega, fun H3 s3 => ?_⟩
          walk_at "rd"
          intro x H4 hx hxx s4
          walk_at "rd"
          refine ⟨x, w, _, rfl, hxx, hw, fin _ _ ((S2.trans s3).trans s4) ?_⟩
          rw [er]
        · have n3 : ¬ op = "/" := fun e => c3 (by rw [e])
          walk_at "rd"
          refine iteD (fun c4 => ?_) (fun c4 => ?_)
          · have eo : op = "mod" := V.str.inj c4
            have er : res w op l r = wrapI w (l.fmod r) := by rw [eo]; rfl
            walk_at "rd"
            have hr0 := hz (.inr eo)
            refine ⟨hr0, by omega, fun H3 s3 => ?_⟩
            have hfd : -4294967296 ≤ l.fdiv r ∧ l.fdiv r ≤ 4294967296 := by
              by_cases c : (l < 0) = (r < 0)
              · rw [fdiv_same hr0 c]
                have h1 : 0 < ab r := by unfold ab; split <;> omega
                have h2 := Int.ediv_nonneg (a := if l < 0 then -l else l) (b := ab r) (by split <;> omega) (by omega)
                have h3 := Int.ediv_le_self (a := if l < 0 then -l else l) (ab r) (by split <;> omega)
                have h4 : (if l < 0 then -l else l) ≤ 2147483648 := by split <;> omega
                omega
              · rw [fdiv_other hr0 c]
                have h1 : 0 < ab r := by unfold ab; split <;> omega
                have h2 := Int.ediv_nonneg (a := if l < 0 then -l else l) (b := ab r) (by split <;> omega) (by omega)
                have h3 := Int.ediv_le_self (a := if l < 0 then -l else l) (ab r) (by split <;> omega)
                have h4 : (if l < 0 then -l else l) ≤ 2147483648 := by split <;> omega
                generalize (if l < 0 then -l else l) / ab r = q at *
                split <;> omega
            walk_at "rd"
            refine fin _ _ (S2.trans s3) ?_
            obtain ⟨e1, e2⟩ := fmod_in (l := l) hr' hr0
            rw [er, wrap_id hw e2, e1]
          · have n4 : ¬ op = "mod" := fun e => c4 (by rw [e])
            walk_at "rd"
            intro t ht
            have s3 : Same H2 (upd H2 t (.tup [V.str "and", V.str "or", V.str "xor"])) := Same.put (Same.refl H2) ht
            have hf3 := s3 _ _ hf2
            have hg3 := s3 _ _ hg2
            have S3 := S2.trans s3
            walk_at "rd"
            rw [in3 op]
            refine iteD (fun c5 => ?_) (fun c5 => ?_)
            · walk_at "rd"
              refine ⟨op, f, g, w.toNat, l, r, rfl, rfl, rfl, hf3, hg3, by omega, fun x H3 hx hxx s4 => ?_⟩
              walk_at "rd"
              refine ⟨x, w, _, rfl, hxx, hw, fin _ _ (S3.trans s4) ?_⟩
              rcases c5 with rfl | rfl | rfl <;> rfl
            · have n5 : ¬ op = "and" := fun e => c5 (.inl e)
              have n6 : ¬ op = "or" := fun e => c5 (.inr (.inl e))
              have n7 : ¬ op = "xor" := fun e => c5 (.inr (.inr e))
              walk_at "rd"
              refine iteD (fun c6 => ?_) (fun c6 => ?_)
              · have eo : op = "=" := V.str.inj c6
                have er : res w op l r = wrapI w (tru (decide (l = r))) := by rw [eo]; rfl
                walk_at "rd"
                refine ⟨f, g, _, _, rfl, rfl, SqL.of hf3, SqL.of hg3, ?_⟩
                have e : decide (bts w.toNat l = bts w.toNat r) = decide (l = r) := decide_eq_decide.mpr (bts_inj hw hl hr')
                rw [e]
                walk_at "rd"
                refine fin _ _ S3 ?_
                rw [er, wrap_id hw (tru_in hw _)]
                unfold tru
                by_cases h : l = r
                · rw [decide_eq_true h]; rfl
                · rw [decide_eq_false h]; rfl
              · have n8 : ¬ op = "=" := fun e => c6 (by rw [e])
                walk_at "rd"
                refine iteD (fun c7 => ?_) (fun c7 => ?_)
                · have eo : op = "<" := V.str.inj c7
                  have er : res w op l r = wrapI w (tru (decide (l < r))) := by rw [eo]; rfl
                  have ew : w.toNat = (w - 1).toNat + 1 := by omega
                  walk_at "rd"
                  refine ⟨f, (w - 1).toNat, l, rfl, by rw [← ew]; exact hf3, by omega, fun x H4 hx hxx s4 => ?_⟩
                  walk_at "rd"
                  refine ⟨g, (w - 1).toNat, r, rfl, by rw [← ew]; exact s4 _ _ hg3, by omega, fun y H5 hy hyy s5 => ?_⟩
                  walk_at "rd"
                  refine ⟨x, y, (w - 1).toNat + 1, _, _, rfl, rfl, s5 _ _ hxx, hyy, by omega, fin _ _ ((S3.trans s4).trans s5) ?_⟩
                  rw [er, wrap_id hw (tru_in hw _), ← ew, blw_s2 hw hl hr']
                · have n9 : ¬ op = "<" := fun e => c7 (by rw [e])
                  walk_at "rd"
                  refine iteD (fun c8 => ?_) (fun c8 => ?_)
                  · have eo : op = "u<" := V.str.inj c8
                    have er : res w op l r = wrapI w (tru (decide (l % (2 * hf w) < r % (2 * hf w)))) := by rw [eo]; rfl
                    walk_at "rd"
                    refine ⟨f, g, w.toNat, _, _, rfl, rfl, hf3, hg3, by omega, fin _ _ S3 ?_⟩
                    rw [er, wrap_id hw (tru_in hw _), blw_u hw]
                  · have n10 : ¬ op = "u<" := fun e => c8 (by rw [e])
                    walk_at "rd"
                    refine iteD (fun c9 => ?_) (fun c9 => ?_)
                    · have eo : op = "invert" := V.str.inj c9
                      have er : res w op l r = -1 - l := by rw [eo]; rfl
                      walk_at "rd"
                      refine ⟨⟨_, SqL.of hf3⟩, fun D hD => ?_⟩
                      refine lc_list (xs := (bts w.toNat l).map V.int) (LBd D ((bts w.toNat (-1 - l)).map V.int) _) (LBd_0 hD) (fun i H' _ h => SqL.of (h.sm _ _ hf3)) ?_ ?_
                      · rintro i x H' hi B
                        have hi2 : i < w.toNat := by
                          have := (List.getElem?_eq_some_iff.mp hi).1
                          rw [List.length_map, bts_len] at this; exact this
                        have ex : x = .int (bit l i) := by
                          rw [map_put (bts_get l hi2)] at hi
                          exact (Option.some.inj hi).symm
                        subst ex
                        refine ⟨rfl, tYes_i (iteT ?_)⟩
                        walk_at "rd"
                        have z := LBd_s B hD (map_put (bts_get (-1 - l) hi2)) (by rw [List.length_map, bts_len]; omega)
                        rw [bit_not l i] at z
                        exact z
                      · intro H4 B
                        obtain ⟨hd, s4⟩ := LBd_n B (by rw [List.length_map, bts_len, List.length_map, bts_len])
                        walk_at "rd"
                        refine ⟨D, w, _, rfl, hd, hw, fin _ _ (S3.trans s4) ?_⟩
                        rw [er, wrap_id hw (by unfold InR; omega)]
                    · have n11 : ¬ op = "invert" := fun e => c9 (by rw [e])
                      have eo : op = "0=" := by
                        unfold Acts at hop
                        simp only [n0, n1, n2, n3, n4, n5, n6, n7, n8, n9, n10, n11, false_or] at hop
                        exact hop
                      have er : res w op l r = tru (decide (l = 0)) := by rw [eo]; rfl
                      walk_at "rd"
                      refine ⟨flat_ints _, ?_⟩
                      have h0 : InR w 0 := by unfold InR; omega
                      have e : inV (.int 1) ((bts w.toNat l).map V.int) = !decide (l = 0) := by
                        rw [any1 _ (bits01 _ _), bts_len, ← bts_zeros]
                        congr 1
                        exact decide_eq_decide.mpr (bts_inj hw hl h0)
                      show _
                      simp only [e]
                      walk_at "rd"
                      refine fin _ _ S3 ?_
                      rw [er]
                      unfold tru
                      by_cases h : l = 0
                      · rw [decide_eq_true h]; rfl
                      · rw [decide_eq_false h]; rfl

end
end K01
namespace K01
open PySem PySem.Spec PyProof.Rows L2 My
section
variable {P : Program} {w : World} {K : PySem.W.Frag} {mg : Str → Option Value} {base : Heap}

def nm : Oc → Str
  | .told _ => "told"
  | .bw _ => "BadWidth"
  | .bo _ => "BadOp"
  | .bn _ => "BadNumber"
  | .bz _ => "ByZero"
def vl : Oc → V
  | .told i => .int i
  | .bw v => v
  | .bo v => v
  | .bn v => v
  | .bz v => v
abbrev spAsked : Sp := Sp3 fun x y z H Q _ => ∃ (d : PyData) (p : Addr) (xs : List V), z = .ref p ∧ H p = some (.lst xs) ∧ Pl H x ∧ PD H y d ∧ (∀ v ∈ xs, Pl H v) ∧ xs.length ≤ 3 ∧
  ∀ t H', H' t = some (.tup [.str (nm (wk x y d xs)), vl (wk x y d xs)]) → Same H H' → Q (.ref t) H'
theorem len_two {α : Type} : ∀ {l : List α}, l.length = 2 → ∃ a b, l = [a, b]
  | [a, b], _ => ⟨a, b, rfl⟩
  | [], h => by cases h
  | [_], h => by cases h
  | _ :: _ :: _ :: _, h => by simp at h
theorem len_three {α : Type} : ∀ {l : List α}, l.length = 3 → ∃ a b c, l = [a, b, c]
  | [a, b, c], _ => ⟨a, b, c, rfl⟩
  | [], h => by cases h
  | [_], h => by cases h
  | [_, _], h => by cases h
  | _ :: _ :: _ :: _ :: _, h => by simp at h
theorem len5 : ∀ {σ : L2.St}, σ.length = 5 → ∃ a b c d e, σ = [a, b, c, d, e]
  | [a, b, c, d, e], _ => ⟨a, b, c, d, e, rfl⟩
  | [], h => by cases h
  | [_], h => by cases h
  | [_, _], h => by cases h
  | [_, _, _], h => by cases h
  | [_, _, _, _], h => by cases h
  | _ :: _ :: _ :: _ :: _ :: _ :: _, h => by simp at h
theorem meets_i {M : TX K mg} {oc : Oc} {H : Hp} {Q : VK} {E : XK} (h0 : ∀ i, oc = .told i → Q (.int i) H) (h1 : ∀ v, oc = .bw v → Rz M.c_BadWidth "width" v H E) (h2 : ∀ v, oc = .bo v → Rz M.c_BadOp "op" v H E)
    (h3 : ∀ v, oc = .bn v → Rz M.c_BadNumber "number" v H E) (h4 : ∀ v, oc = .bz v → Rz M.c_ByZero "number" v H E) : Meets M oc H Q E := by
  cases oc with
  | told i => exact h0 i rfl
  | bw v => exact h1 v rfl
  | bo v => exact h2 v rfl
  | bn v => exact h3 v rfl
  | bz v => exact h4 v rfl

theorem ok__law_asked (M : TX K mg) : FnOk P w K mg base (L2.CX P w) 8 M.f__law_asked M.d__law_asked ["_law_width", "_law_op", "_law_numbers"] (spAsked) := by
  have sc := sc__law_asked
  refine M.F__law_asked.okX sc (fun vs H Q E h => Sp3_len h) (fun cdv A outer s H vs Q E hr h => ?_)
  obtain ⟨x0, x1, x2, rfl, h⟩ := h
  have hu := hu_of hr
  have hu64 := hr.units
  refine ⟨_, (pss_one (ps_try_as (i := 3) (tb := fun W => (tSeq (tIfS (tTest (tOp rEq (tCB (My.rLen K) (tCons (tVar 2) tNil)) (tC (.int 0)))) (tRet (tTup (tCons (tC (.str "told")) (tCons (tCallR (spR_work M) (ET W 5) (tCons (tVar 0) (tCons (tVar 1) tNil))) tNil)))) tNext) (tSeq (tIfS (tTest (tOp rEq (tCB (My.rLen K) (tCons (tVar 2) tNil)) (tC (.int 1)))) (tRet (tTup (tCons (tC (.str "told")) (tCons (tCallR (spR_work M) (ET W 5) (tCons (tVar 0) (tCons (tVar 1) (tCons (tOp (rIxL K) (tVar 2) (tC (.int 0))) tNil)))) tNil)))) tNext) (tSeq (tIfS (tTest (tOp rEq (tCB (My.rLen K) (tCons (tVar 2) tNil)) (tC (.int 2)))) (tRet (tTup (tCons (tC (.str "told")) (tCons (tCallR (spR_work M) (ET W 5) (tCons (tVar 0) (tCons (tVar 1) (tCons (tOp (rIxL K) (tVar 2) (tC (.int 0))) (tCons (tOp (rIxL K) (tVar 2) (tC (.int 1))) tNil))))) tNil)))) tNext) (tRet (tTup (tCons (tC (.str "told")) (tCons (tCallR (spR_work M) (ET W 5) (tCons (tVar 0) (tCons (tVar 1) (tCons (tOp (rIxL K) (tVar 2) (tC (.int 0))) (tCons (tOp (rIxL K) (tVar 2) (tC (.int 1))) (tCons (tOp (rIxL K) (tVar 2) (tC (.int 2))) tNil)))))) tNil)))))))) (ts := fun a cls d => (tSeq (tAsg (tLst (tCons (tCB (rIsED K a cls d) (tCons (tVar 3) (tCons (tC (.ref M.c_BadWidth)) tNil))) (tCons (tCB (rIsED K a cls d) (tCons (tVar 3) (tCons (tC (.ref M.c_BadOp)) tNil))) (tCons (tCB (rIsED K a cls d) (tCons (tVar 3) (tCons (tC (.ref M.c_BadNumber)) tNil))) (tCons (tCB (rIsED K a cls d) (tCons (tVar 3) (tCons (tC (.ref M.c_ByZero)) tNil))) tNil))))) (gName 4)) (tSeq (tIfS (tOr (tNot (tB (tCB (rIsED K a cls d) (tCons (tVar 3) (tCons (tC (.ty "ValueError")) tNil))))) (tTest (tOp rNe (tBM K "list" (rCntB K) (tVar 4) (tCons (tC (.bl true)) tNil)) (tC (.int 1))))) (tRet (tTup (tCons (tC (.str "odd")) (tCons (tC .non) tNil)))) tNext) (tSeq (tIfS (tB (tOp (rIxL K) (tVar 4) (tC (.int 0)))) (tRet (tTup (tCons (tC (.str "BadWidth")) (tCons (tXf a cls d M.c_BadWidth "width" (tVar 3)) tNil)))) tNext) (tSeq (tIfS (tB (tOp (rIxL K) (tVar 4) (tC (.int 1)))) (tRet (tTup (tCons (tC (.str "BadOp")) (tCons (tXf a cls d M.c_BadOp "op" (tVar 3)) tNil)))) tNext) (tSeq (tIfS (tB (tOp (rIxL K) (tVar 4) (tC (.int 2)))) (tRet (tTup (tCons (tC (.str "BadNumber")) (tCons (tXf a cls d M.c_BadNumber "number" (tVar 3)) tNil)))) tNext) (tRet (tTup (tCons (tC (.str "ByZero")) (tCons (tXf a cls d M.c_ByZero "number" (tVar 3)) tNil)))))))))) (Wout := fun _ _ _ _ => False) rfl rfl sc.nd rfl rfl ⟨rfl, by decide, Or.inl M.g_MintError⟩ takes0
      (fun W pn xe tk _ => (pss_cons (ps_if (pt_cmpR op_eq (pe_callB (call_lenK K) (by rfl) M.n_len PySem.boot_len (pa_cons (pv 2) pa_nil)) pe_int (nomark _))
        (pss_one (ps_ret (pe_tup (pa_cons pe_str (pa_cons (pe_callR (ok_work M) (hr.mono (by decide)) M.k_work rfl M.g_work (passT tk) (pa_cons (pv 0) (pa_cons (pv 1) pa_nil))) pa_nil)))))
        pss_nil)
      (pss_cons (ps_if (pt_cmpR op_eq (pe_callB (call_lenK K) (by rfl) M.n_len PySem.boot_len (pa_cons (pv 2) pa_nil)) pe_int (nomark _))
        (pss_one (ps_ret (pe_tup (pa_cons pe_str (pa_cons (pe_callR (ok_work M) (hr.mono (by decide)) M.k_work rfl M.g_work (passT tk) (pa_cons (pv 0) (pa_cons (pv 1) (pa_cons (pe_ix (ix_listK K) (pv 2) pe_int (fun _ _ => rfl)) pa_nil)))) pa_nil)))))
        pss_nil)
      (pss_cons (ps_if (pt_cmpR op_eq (pe_callB (call_lenK K) (by rfl) M.n_len PySem.boot_len (pa_cons (pv 2) pa_nil)) pe_int (nomark _))
        (pss_one (ps_ret (pe_tup (pa_cons pe_str (pa_cons (pe_callR (ok_work M) (hr.mono (by decide)) M.k_work rfl M.g_work (passT tk) (pa_cons (pv 0) (pa_cons (pv 1) (pa_cons (pe_ix (ix_listK K) (pv 2) pe_int (fun _ _ => rfl)) (pa_cons (pe_ix (ix_listK K) (pv 2) pe_int (fun _ _ => rfl)) pa_nil))))) pa_nil)))))
        pss_nil)
      (pss_one (ps_ret (pe_tup (pa_cons pe_str (pa_cons (pe_callR (ok_work M) (hr.mono (by decide)) M.k_work rfl M.g_work (passT tk) (pa_cons (pv 0) (pa_cons (pv 1) (pa_cons (pe_ix (ix_listK K) (pv 2) pe_int (fun _ _ => rfl)) (pa_cons (pe_ix (ix_listK K) (pv 2) pe_int (fun _ _ => rfl)) (pa_cons (pe_ix (ix_listK K) (pv 2) pe_int (fun _ _ => rfl)) pa_nil)))))) pa_nil)))))))))
      (fun a oe cls d pn hz hf => (pss_cons (ps_set (i := 4) sc.nd rfl (Or.inl rfl) (pe_lst (pa_cons (pe_callB (call_isED hz hf) (by rfl) M.n_isinstance (by decide +kernel) (pa_cons (pv 3) (pa_cons (pe_glob (v := .ref M.c_BadWidth) rfl M.g_BadWidth rfl) pa_nil))) (pa_cons (pe_callB (call_isED hz hf) (by rfl) M.n_isinstance (by decide +kernel) (pa_cons (pv 3) (pa_cons (pe_glob (v := .ref M.c_BadOp) rfl M.g_BadOp rfl) pa_nil))) (pa_cons (pe_callB (call_isED hz hf) (by rfl) M.n_isinstance (by decide +kernel) (pa_cons (pv 3) (pa_cons (pe_glob (v := .ref M.c_BadNumber) rfl M.g_BadNumber rfl) pa_nil))) (pa_cons (pe_callB (call_isED hz hf) (by rfl) M.n_isinstance (by decide +kernel) (pa_cons (pv 3) (pa_cons (pe_glob (v := .ref M.c_ByZero) rfl M.g_ByZero rfl) pa_nil))) pa_nil))))))
      (pss_cons (ps_if (PW.pt (pw_or (pt_not (pt_val (pe_callB (call_isED hz hf) (by rfl) M.n_isinstance (by decide +kernel) (pa_cons (pv 3) (pa_cons (pe_bltn (v := .ty "ValueError") (u := .type "ValueError") (by rfl) M.n_ValueError (by decide +kernel) rfl) pa_nil))))) (pw_or1 (pt_cmpR op_ne (pe_bmK K (pe_bm PySem.F.plainAttrs_list PySem.F.slot_list_count PySem.F.type_list_count (by exact mt_countBK K hu64) (pv 4) (pa_cons pe_bl pa_nil))) pe_int (nomark _)))))
        (pss_one (ps_ret (pe_tup (pa_cons pe_str (pa_cons pe_non pa_nil)))))
        pss_nil)
      (pss_cons (ps_if (pt_val (pe_ix (ix_listK K) (pv 4) pe_int (fun _ _ => rfl)))
        (pss_one (ps_ret (pe_tup (pa_cons pe_str (pa_cons (pe_xf M.x_BadWidth M.F_BadWidth___init__.2.2 hz hf (pv 3)) pa_nil)))))
        pss_nil)
      (pss_cons (ps_if (pt_val (pe_ix (ix_listK K) (pv 4) pe_int (fun _ _ => rfl)))
        (pss_one (ps_ret (pe_tup (pa_cons pe_str (pa_cons (pe_xf M.x_BadOp M.F_BadOp___init__.2.2 hz hf (pv 3)) pa_nil)))))
        pss_nil)
      (pss_cons (ps_if (pt_val (pe_ix (ix_listK K) (pv 4) pe_int (fun _ _ => rfl)))
        (pss_one (ps_ret (pe_tup (pa_cons pe_str (pa_cons (pe_xf M.x_BadNumber M.F_BadNumber___init__.2.2 hz hf (pv 3)) pa_nil)))))
        pss_nil)
      (pss_one (ps_ret (pe_tup (pa_cons pe_str (pa_cons (pe_xf M.x_ByZero M.F_ByZero___init__.2.2 hz hf (pv 3)) pa_nil))))))))))))), ?_⟩

  obtain ⟨d, p, xs, rfl, hp, hx, hy, hpl, hlen, k⟩ := h
  walk_at "rd"
  refine iteD (fun c => ?_) (fun c => ?_)
  · have e0 : xs = [] := List.eq_nil_of_length_eq_zero (by have := V.int.inj c; omega)
    subst e0
    walk_at "rd"
    refine ⟨[x0, x1], [], rfl, rfl, Nat.le_of_ble_eq_true rfl, fun q hq => ?_⟩
    have S1 : Same H (upd H q (.tup [])) := Same.put (Same.refl H) hq
    have hq1 : upd H q (.tup []) q = some (.tup []) := upd_same
    generalize upd H q (.tup []) = H1 at *
    refine ⟨_, _, _, rfl, d, q, [], rfl, hq1, hx.same S1, hy.same S1, fun v hv => (hpl v hv).same S1, hlen, ?_⟩
    refine meets_i (fun i e => ?_) ?_ ?_ ?_ ?_
    · walk_at "rd"
      intro t ht
      refine k t _ ?_ (Same.put S1 (S1.free ht))
      rw [e]; exact upd_same
    · intro v ev dd hd0 σ hσ
      obtain ⟨s0, s1, s2, s3, s4, rfl⟩ := len5 hσ
      have S2 := Same.put (o := .xd [("width", v)]) S1 (S1.free hd0)
      have hdd : upd H1 dd (.xd [("width", v)]) dd = some (.xd [("width", v)]) := upd_same
      refine ⟨true, M.m_BadWidth, fun _ ea hea => ?_, fun z => Bool.noConfusion z⟩
      generalize upd H1 dd (.xd [("width", v)]) = H2 at *
      refine ⟨_, rfl, M.c_BadWidth, dd, _, _, _, _, rfl, rfl, hdd, M.e_BadWidth, rfl, .own _, M.k_BadWidth_BadWidth, ?_⟩
      refine ⟨_, rfl, M.c_BadWidth, dd, _, _, _, _, rfl, rfl, hdd, M.e_BadWidth, rfl, .own _, M.k_BadWidth_BadOp, ?_⟩
      refine ⟨_, rfl, M.c_BadWidth, dd, _, _, _, _, rfl, rfl, hdd, M.e_BadWidth, rfl, .own _, M.k_BadWidth_BadNumber, ?_⟩
      refine ⟨_, rfl, M.c_BadWidth, dd, _, _, _, _, rfl, rfl, hdd, M.e_BadWidth, rfl, .own _, M.k_BadWidth_ByZero, ?_⟩
      refine ⟨Nat.le_of_ble_eq_true rfl, fun kp hkp => ?_⟩
      have S3 := Same.put (o := .lst ([true, false, false, false].map V.bl)) S2 (S2.free hkp)
      have hdd3 : upd H2 kp (.lst ([true, false, false, false].map V.bl)) dd = some (.xd [("width", v)]) := by rw [upd_ne (ne_of_none hdd hkp)]; exact hdd
      have hk2 : upd H2 kp (.lst ([true, false, false, false].map V.bl)) kp = some (.lst ([true, false, false, false].map V.bl)) := upd_same
      have hkp0 : S2.free hkp = S2.free hkp := rfl
      show tSeq _ _ _ _ (upd H2 kp (.lst ([true, false, false, false].map V.bl)))
      generalize upd H2 kp (.lst ([true, false, false, false].map V.bl)) = H3 at *
      refine ⟨_, rfl, M.c_BadWidth, dd, _, _, _, _, rfl, rfl, hdd3, M.e_BadWidth, rfl, .ty _, M.v_BadWidth, _, rfl, ?_⟩
      refine iteF ?_
      walk_at "rd"
      refine ⟨kp, [true, false, false, false], rfl, rfl, SqL.of hk2, rfl, _, rfl, ?_⟩
      refine iteNS (by rfl) ?_
      refine ⟨_, rfl, _, _, _, .bl true, rfl, rfl, SqL.of hk2, rfl, _, rfl, ?_⟩
      refine iteT ?_
      refine ⟨_, rfl, rfl, rfl, dd, _, v, rfl, hdd3, by simp [List.lookup], ?_⟩
      refine ⟨Nat.le_of_ble_eq_true rfl, fun t ht => k t _ ?_ (Same.put S3 (S3.free ht))⟩
      rw [ev]; exact upd_same
    · intro v ev dd hd0 σ hσ
      obtain ⟨s0, s1, s2, s3, s4, rfl⟩ := len5 hσ
      have S2 := Same.put (o := .xd [("op", v)]) S1 (S1.free hd0)
      have hdd : upd H1 dd (.xd [("op", v)]) dd = some (.xd [("op", v)]) := upd_same
      refine ⟨true, M.m_BadOp, fun _ ea hea => ?_, fun z => Bool.noConfusion z⟩
      generalize upd H1 dd (.xd [("op", v)]) = H2 at *
      refine ⟨_, rfl, M.c_BadOp, dd, _, _, _, _, rfl, rfl, hdd, M.e_BadOp, rfl, .own _, M.k_BadOp_BadWidth, ?_⟩
      refine ⟨_, rfl, M.c_BadOp, dd, _, _, _, _, rfl, rfl, hdd, M.e_BadOp, rfl, .own _, M.k_BadOp_BadOp, ?_⟩
      refine ⟨_, rfl, M.c_BadOp, dd, _, _, _, _, rfl, rfl, hdd, M.e_BadOp, rfl, .own _, M.k_BadOp_BadNumber, ?_⟩
      refine ⟨_, rfl, M.c_BadOp, dd, _, _, _, _, rfl, rfl, hdd, M.e_BadOp, rfl, .own _, M.k_BadOp_ByZero, ?_⟩
      refine ⟨Nat.le_of_ble_eq_true rfl, fun kp hkp => ?_⟩
      have S3 := Same.put (o := .lst ([false, true, false, false].map V.bl)) S2 (S2.free hkp)
      have hdd3 : upd H2 kp (.lst ([false, true, false, false].map V.bl)) dd = some (.xd [("op", v)]) := by rw [upd_ne (ne_of_none hdd hkp)]; exact hdd
      have hk2 : upd H2 kp (.lst ([false, true, false, false].map V.bl)) kp = some (.lst ([false, true, false, false].map V.bl)) := upd_same
      have hkp0 : S2.free hkp = S2.free hkp := rfl
      show tSeq _ _ _ _ (upd H2 kp (.lst ([false, true, false, false].map V.bl)))
      generalize upd H2 kp (.lst ([false, true, false, false].map V.bl)) = H3 at *
      refine ⟨_, rfl, M.c_BadOp, dd, _, _, _, _, rfl, rfl, hdd3, M.e_BadOp, rfl, .ty _, M.v_BadOp, _, rfl, ?_⟩
      refine iteF ?_
      walk_at "rd"
      refine ⟨kp, [false, true, false, false], rfl, rfl, SqL.of hk2, rfl, _, rfl, ?_⟩
      refine iteNS (by rfl) ?_
      refine ⟨_, rfl, _, _, _, .bl false, rfl, rfl, SqL.of hk2, rfl, _, rfl, ?_⟩
      refine iteF ?_
      refine ⟨_, rfl, _, _, _, .bl true, rfl, rfl, SqL.of hk2, rfl, _, rfl, ?_⟩
      refine iteT ?_
      refine ⟨_, rfl, rfl, rfl, dd, _, v, rfl, hdd3, by simp [List.lookup], ?_⟩
      refine ⟨Nat.le_of_ble_eq_true rfl, fun t ht => k t _ ?_ (Same.put S3 (S3.free ht))⟩
      rw [ev]; exact upd_same
    · intro v ev dd hd0 σ hσ
      obtain ⟨s0, s1, s2, s3, s4, rfl⟩ := len5 hσ
      have S2 := Same.put (o := .xd [("number", v)]) S1 (S1.free hd0)
      have hdd : upd H1 dd (.xd [("number", v)]) dd = some (.xd [("number", v)]) := upd_same
      refine ⟨true, M.m_BadNumber, fun _ ea hea => ?_, fun z => Bool.noConfusion z⟩
      generalize upd H1 dd (.xd [("number", v)]) = H2 at *
      refine ⟨_, rfl, M.c_BadNumber, dd, _, _, _, _, rfl, rfl, hdd, M.e_BadNumber, rfl, .own _, M.k_BadNumber_BadWidth, ?_⟩
      refine ⟨_, rfl, M.c_BadNumber, dd, _, _, _, _, rfl, rfl, hdd, M.e_BadNumber, rfl, .own _, M.k_BadNumber_BadOp, ?_⟩
      refine ⟨_, rfl, M.c_BadNumber, dd, _, _, _, _, rfl, rfl, hdd, M.e_BadNumber, rfl, .own _, M.k_BadNumber_BadNumber, ?_⟩
      refine ⟨_, rfl, M.c_BadNumber, dd, _, _, _, _, rfl, rfl, hdd, M.e_BadNumber, rfl, .own _, M.k_BadNumber_ByZero, ?_⟩
      refine ⟨Nat.le_of_ble_eq_true rfl, fun kp hkp => ?_⟩
      have S3 := Same.put (o := .lst ([false, false, true, false].map V.bl)) S2 (S2.free hkp)
      have hdd3 : upd H2 kp (.lst ([false, false, true, false].map V.bl)) dd = some (.xd [("number", v)]) := by rw [upd_ne (ne_of_none hdd hkp)]; exact hdd
      have hk2 : upd H2 kp (.lst ([false, false, true, false].map V.bl)) kp = some (.lst ([false, false, true, false].map V.bl)) := upd_same
      have hkp0 : S2.free hkp = S2.free hkp := rfl
      show tSeq _ _ _ _ (upd H2 kp (.lst ([false, false, true, false].map V.bl)))
      generalize upd H2 kp (.lst ([false, false, true, false].map V.bl)) = H3 at *
      refine ⟨_, rfl, M.c_BadNumber, dd, _, _, _, _, rfl, rfl, hdd3, M.e_BadNumber, rfl, .ty _, M.v_BadNumber, _, rfl, ?_⟩
      refine iteF ?_
      walk_at "rd"
      refine ⟨kp, [false, false, true, false], rfl, rfl, SqL.of hk2, rfl, _, rfl, ?_⟩
      refine iteNS (by rfl) ?_
      refine ⟨_, rfl, _, _, _, .bl false, rfl, rfl, SqL.of hk2, rfl, _, rfl, ?_⟩
      refine iteF ?_
      refine ⟨_, rfl, _, _, _, .bl false, rfl, rfl, SqL.of hk2, rfl, _, rfl, ?_⟩
      refine iteF ?_
      refine ⟨_, rfl, _, _, _, .bl true, rfl, rfl, SqL.of hk2, rfl, _, rfl, ?_⟩
      refine iteT ?_
      refine ⟨_, rfl, rfl, rfl, dd, _, v, rfl, hdd3, by simp [List.lookup], ?_⟩
      refine ⟨Nat.le_of_ble_eq_true rfl, fun t ht => k t _ ?_ (Same.put S3 (S3.free ht))⟩
      rw [ev]; exact upd_same
    · intro v ev dd hd0 σ hσ
      obtain ⟨s0, s1, s2, s3, s4, rfl⟩ := len5 hσ
      have S2 := Same.put (o := .xd [("number", v)]) S1 (S1.free hd0)
      have hdd : upd H1 dd (.xd [("number", v)]) dd = some (.xd [("number", v)]) := upd_same
      refine ⟨true, M.m_ByZero, fun _ ea hea => ?_, fun z => Bool.noConfusion z⟩
      generalize upd H1 dd (.xd [("number", v)]) = H2 at *
      refine ⟨_, rfl, M.c_ByZero, dd, _, _, _, _, rfl, rfl, hdd, M.e_ByZero, rfl, .own _, M.k_ByZero_BadWidth, ?_⟩
      refine ⟨_, rfl, M.c_ByZero, dd, _, _, _, _, rfl, rfl, hdd, M.e_ByZero, rfl, .own _, M.k_ByZero_BadOp, ?_⟩
      refine ⟨_, rfl, M.c_ByZero, dd, _, _, _, _, rfl, rfl, hdd, M.e_ByZero, rfl, .own _, M.k_ByZero_BadNumber, ?_⟩
      refine ⟨_, rfl, M.c_ByZero, dd, _, _, _, _, rfl, rfl, hdd, M.e_ByZero, rfl, .own _, M.k_ByZero_ByZero, ?_⟩
      refine ⟨Nat.le_of_ble_eq_true rfl, fun kp hkp => ?_⟩
      have S3 := Same.put (o := .lst ([false, false, false, true].map V.bl)) S2 (S2.free hkp)
      have hdd3 : upd H2 kp (.lst ([false, false, false, true].map V.bl)) dd = some (.xd [("number", v)]) := by rw [upd_ne (ne_of_none hdd hkp)]; exact hdd
      have hk2 : upd H2 kp (.lst ([false, false, false, true].map V.bl)) kp = some (.lst ([false, false, false, true].map V.bl)) := upd_same
      have hkp0 : S2.free hkp = S2.free hkp := rfl
      show tSeq _ _ _ _ (upd H2 kp (.lst ([false, false, false, true].map V.bl)))
      generalize upd H2 kp (.lst ([false, false, false, true].map V.bl)) = H3 at *
      refine ⟨_, rfl, M.c_ByZero, dd, _, _, _, _, rfl, rfl, hdd3, M.e_ByZero, rfl, .ty _, M.v_ByZero, _, rfl, ?_⟩
      refine iteF ?_
      walk_at "rd"
      refine ⟨kp, [false, false, false, true], rfl, rfl, SqL.of hk2, rfl, _, rfl, ?_⟩
      refine iteNS (by rfl) ?_
      refine ⟨_, rfl, _, _, _, .bl false, rfl, rfl, SqL.of hk2, rfl, _, rfl, ?_⟩
      refine iteF ?_
      refine ⟨_, rfl, _, _, _, .bl false, rfl, rfl, SqL.of hk2, rfl, _, rfl, ?_⟩
      refine iteF ?_
      refine ⟨_, rfl, _, _, _, .bl false, rfl, rfl, SqL.of hk2, rfl, _, rfl, ?_⟩
      refine iteF ?_
      refine ⟨_, rfl, rfl, rfl, dd, _, v, rfl, hdd3, by simp [List.lookup], ?_⟩
      refine ⟨Nat.le_of_ble_eq_true rfl, fun t ht => k t _ ?_ (Same.put S3 (S3.free ht))⟩
      rw [ev]; exact upd_same
  · walk_at "rd"
    refine iteD (fun c1 => ?_) (fun c1 => ?_)
    · obtain ⟨a, rfl⟩ : ∃ a, xs = [a] := List.length_eq_one_iff.mp (by have := V.int.inj c1; omega)
      walk_at "rd"
      refine ⟨_, _, _, a, rfl, rfl, SqL.of hp, rfl, ?_⟩
      refine ⟨[x0, x1], [a], rfl, rfl, Nat.le_of_ble_eq_true rfl, fun q hq => ?_⟩
      have S1 : Same H (upd H q (.tup [a])) := Same.put (Same.refl H) hq
      have hq1 : upd H q (.tup [a]) q = some (.tup [a]) := upd_same
      generalize upd H q (.tup [a]) = H1 at *
      refine ⟨_, _, _, rfl, d, q, [a], rfl, hq1, hx.same S1, hy.same S1, fun v hv => (hpl v hv).same S1, hlen, ?_⟩
      refine meets_i (fun i e => ?_) ?_ ?_ ?_ ?_
      · walk_at "rd"
        intro t ht
        refine k t _ ?_ (Same.put S1 (S1.free ht))
        rw [e]; exact upd_same
      · intro v ev dd hd0 σ hσ
        obtain ⟨s0, s1, s2, s3, s4, rfl⟩ := len5 hσ
        have S2 := Same.put (o := .xd [("width", v)]) S1 (S1.free hd0)
        have hdd : upd H1 dd (.xd [("width", v)]) dd = some (.xd [("width", v)]) := upd_same
        refine ⟨true, M.m_BadWidth, fun _ ea hea => ?_, fun z => Bool.noConfusion z⟩
        generalize upd H1 dd (.xd [("width", v)]) = H2 at *
        refine ⟨_, rfl, M.c_BadWidth, dd, _, _, _, _, rfl, rfl, hdd, M.e_BadWidth, rfl, .own _, M.k_BadWidth_BadWidth, ?_⟩
        refine ⟨_, rfl, M.c_BadWidth, dd, _, _, _, _, rfl, rfl, hdd, M.e_BadWidth, rfl, .own _, M.k_BadWidth_BadOp, ?_⟩
        refine ⟨_, rfl, M.c_BadWidth, dd, _, _, _, _, rfl, rfl, hdd, M.e_BadWidth, rfl, .own _, M.k_BadWidth_BadNumber, ?_⟩
        refine ⟨_, rfl, M.c_BadWidth, dd, _, _, _, _, rfl, rfl, hdd, M.e_BadWidth, rfl, .own _, M.k_BadWidth_ByZero, ?_⟩
        refine ⟨Nat.le_of_ble_eq_true rfl, fun kp hkp => ?_⟩
        have S3 := Same.put (o := .lst ([true, false, false, false].map V.bl)) S2 (S2.free hkp)
        have hdd3 : upd H2 kp (.lst ([true, false, false, false].map V.bl)) dd = some (.xd [("width", v)]) := by rw [upd_ne (ne_of_none hdd hkp)]; exact hdd
        have hk2 : upd H2 kp (.lst ([true, false, false, false].map V.bl)) kp = some (.lst ([true, false, false, false].map V.bl)) := upd_same
        have hkp0 : S2.free hkp = S2.free hkp := rfl
        show tSeq _ _ _ _ (upd H2 kp (.lst ([true, false, false, false].map V.bl)))
        generalize upd H2 kp (.lst ([true, false, false, false].map V.bl)) = H3 at *
        refine ⟨_, rfl, M.c_BadWidth, dd, _, _, _, _, rfl, rfl, hdd3, M.e_BadWidth, rfl, .ty _, M.v_BadWidth, _, rfl, ?_⟩
        refine iteF ?_
        walk_at "rd"
        refine ⟨kp, [true, false, false, false], rfl, rfl, SqL.of hk2, rfl, _, rfl, ?_⟩
        refine iteNS (by rfl) ?_
        refine ⟨_, rfl, _, _, _, .bl true, rfl, rfl, SqL.of hk2, rfl, _, rfl, ?_⟩
        refine iteT ?_
        refine ⟨_, rfl, rfl, rfl, dd, _, v, rfl, hdd3, by simp [List.lookup], ?_⟩
        refine ⟨Nat.le_of_ble_eq_true rfl, fun t ht => k t _ ?_ (Same.put S3 (S3.free ht))⟩
        rw [ev]; exact upd_same
      · intro v ev dd hd0 σ hσ
        obtain ⟨s0, s1, s2, s3, s4, rfl⟩ := len5 hσ
        have S2 := Same.put (o := .xd [("op", v)]) S1 (S1.free hd0)
        have hdd : upd H1 dd (.xd [("op", v)]) dd = some (.xd [("op", v)]) := upd_same
        refine ⟨true, M.m_BadOp, fun _ ea hea => ?_, fun z => Bool.noConfusion z⟩
        generalize upd H1 dd (.xd [("op", v)]) = H2 at *
        refine ⟨_, rfl, M.c_BadOp, dd, _, _, _, _, rfl, rfl, hdd, M.e_BadOp, rfl, .own _, M.k_BadOp_BadWidth, ?_⟩
        refine ⟨_, rfl, M.c_BadOp, dd, _, _, _, _, rfl, rfl, hdd, M.e_BadOp, rfl, .own _, M.k_BadOp_BadOp, ?_⟩
        refine ⟨_, rfl, M.c_BadOp, dd, _, _, _, _, rfl, rfl, hdd, M.e_BadOp, rfl, .own _, M.k_BadOp_BadNumber, ?_⟩
        refine ⟨_, rfl, M.c_BadOp, dd, _, _, _, _, rfl, rfl, hdd, M.e_BadOp, rfl, .own _, M.k_BadOp_ByZero, ?_⟩
        refine ⟨Nat.le_of_ble_eq_true rfl, fun kp hkp => ?_⟩
        have S3 := Same.put (o := .lst ([false, true, false, false].map V.bl)) S2 (S2.free hkp)
        have hdd3 : upd H2 kp (.lst ([false, true, false, false].map V.bl)) dd = some (.xd [("op", v)]) := by rw [upd_ne (ne_of_none hdd hkp)]; exact hdd
        have hk2 : upd H2 kp (.lst ([false, true, false, false].map V.bl)) kp = some (.lst ([false, true, false, false].map V.bl)) := upd_same
        have hkp0 : S2.free hkp = S2.free hkp := rfl
        show tSeq _ _ _ _ (upd H2 kp (.lst ([false, true, false, false].map V.bl)))
        generalize upd H2 kp (.lst ([false, true, false, false].map V.bl)) = H3 at *
        refine ⟨_, rfl, M.c_BadOp, dd, _, _, _, _, rfl, rfl, hdd3, M.e_BadOp, rfl, .ty _, M.v_BadOp, _, rfl, ?_⟩
        refine iteF ?_
        walk_at "rd"
        refine ⟨kp, [false, true, false, false], rfl, rfl, SqL.of hk2, rfl, _, rfl, ?_⟩
        refine iteNS (by rfl) ?_
        refine ⟨_, rfl, _, _, _, .bl false, rfl, rfl, SqL.of hk2, rfl, _, rfl, ?_⟩
        refine iteF ?_
        refine ⟨_, rfl, _, _, _, .bl true, rfl, rfl, SqL.of hk2, rfl, _, rfl, ?_⟩
        refine iteT ?_
        refine ⟨_, rfl, rfl, rfl, dd, _, v, rfl, hdd3, by simp [List.lookup], ?_⟩
        refine ⟨Nat.le_of_ble_eq_true rfl, fun t ht => k t _ ?_ (Same.put S3 (S3.free ht))⟩
        rw [ev]; exact upd_same
      · intro v ev dd hd0 σ hσ
        obtain ⟨s0, s1, s2, s3, s4, rfl⟩ := len5 hσ
        have S2 := Same.put (o := .xd [("number", v)]) S1 (S1.free hd0)
        have hdd : upd H1 dd (.xd [("number", v)]) dd = some (.xd [("number", v)]) := upd_same
        refine ⟨true, M.m_BadNumber, fun _ ea hea => ?_, fun z => Bool.noConfusion z⟩
        generalize upd H1 dd (.xd [("number", v)]) = H2 at *
        refine ⟨_, rfl, M.c_BadNumber, dd, _, _, _, _, rfl, rfl, hdd, M.e_BadNumber, rfl, .own _, M.k_BadNumber_BadWidth, ?_⟩
        refine ⟨_, rfl, M.c_BadNumber, dd, _, _, _, _, rfl, rfl, hdd, M.e_BadNumber, rfl, .own _, M.k_BadNumber_BadOp, ?_⟩
        refine ⟨_, rfl, M.c_BadNumber, dd, _, _, _, _, rfl, rfl, hdd, M.e_BadNumber, rfl, .own _, M.k_BadNumber_BadNumber, ?_⟩
        refine ⟨_, rfl, M.c_BadNumber, dd, _, _, _, _, rfl, rfl, hdd, M.e_BadNumber, rfl, .own _, M.k_BadNumber_ByZero, ?_⟩
        refine ⟨Nat.le_of_ble_eq_true rfl, fun kp hkp => ?_⟩
        have S3 := Same.put (o := .lst ([false, false, true, false].map V.bl)) S2 (S2.free hkp)
        have hdd3 : upd H2 kp (.lst ([false, false, true, false].map V.bl)) dd = some (.xd [("number", v)]) := by rw [upd_ne (ne_of_none hdd hkp)]; exact hdd
        have hk2 : upd H2 kp (.lst ([false, false, true, false].map V.bl)) kp = some (.lst ([false, false, true, false].map V.bl)) := upd_same
        have hkp0 : S2.free hkp = S2.free hkp := rfl
        show tSeq _ _ _ _ (upd H2 kp (.lst ([false, false, true, false].map V.bl)))
        generalize upd H2 kp (.lst ([false, false, true, false].map V.bl)) = H3 at *
        refine ⟨_, rfl, M.c_BadNumber, dd, _, _, _, _, rfl, rfl, hdd3, M.e_BadNumber, rfl, .ty _, M.v_BadNumber, _, rfl, ?_⟩
        refine iteF ?_
        walk_at "rd"
        refine ⟨kp, [false, false, true, false], rfl, rfl, SqL.of hk2, rfl, _, rfl, ?_⟩
        refine iteNS (by rfl) ?_
        refine ⟨_, rfl, _, _, _, .bl false, rfl, rfl, SqL.of hk2, rfl, _, rfl, ?_⟩
        refine iteF ?_
        refine ⟨_, rfl, _, _, _, .bl false, rfl, rfl, SqL.of hk2, rfl, _, rfl, ?_⟩
        refine iteF ?_
        refine ⟨_, rfl, _, _, _, .bl true, rfl, rfl, SqL.of hk2, rfl, _, rfl, ?_⟩
        refine iteT ?_
        refine ⟨_, rfl, rfl, rfl, dd, _, v, rfl, hdd3, by simp [List.lookup], ?_⟩
        refine ⟨Nat.le_of_ble_eq_true rfl, fun t ht => k t _ ?_ (Same.put S3 (S3.free ht))⟩
        rw [ev]; exact upd_same
      · intro v ev dd hd0 σ hσ
        obtain ⟨s0, s1, s2, s3, s4, rfl⟩ := len5 hσ
        have S2 := Same.put (o := .xd [("number", v)]) S1 (S1.free hd0)
        have hdd : upd H1 dd (.xd [("number", v)]) dd = some (.xd [("number", v)]) := upd_same
        refine ⟨true, M.m_ByZero, fun _ ea hea => ?_, fun z => Bool.noConfusion z⟩
        generalize upd H1 dd (.xd [("number", v)]) = H2 at *
        refine ⟨_, rfl, M.c_ByZero, dd, _, _, _, _, rfl, rfl, hdd, M.e_ByZero, rfl, .own _, M.k_ByZero_BadWidth, ?_⟩
        refine ⟨_, rfl, M.c_ByZero, dd, _, _, _, _, rfl, rfl, hdd, M.e_ByZero, rfl, .own _, M.k_ByZero_BadOp, ?_⟩
        refine ⟨_, rfl, M.c_ByZero, dd, _, _, _, _, rfl, rfl, hdd, M.e_ByZero, rfl, .own _, M.k_ByZero_BadNumber, ?_⟩
        refine ⟨_, rfl, M.c_ByZero, dd, _, _, _, _, rfl, rfl, hdd, M.e_ByZero, rfl, .own _, M.k_ByZero_ByZero, ?_⟩
        refine ⟨Nat.le_of_ble_eq_true rfl, fun kp hkp => ?_⟩
        have S3 := Same.put (o := .lst ([false, false, false, true].map V.bl)) S2 (S2.free hkp)
        have hdd3 : upd H2 kp (.lst ([false, false, false, true].map V.bl)) dd = some (.xd [("number", v)]) := by rw [upd_ne (ne_of_none hdd hkp)]; exact hdd
        have hk2 : upd H2 kp (.lst ([false, false, false, true].map V.bl)) kp = some (.lst ([false, false, false, true].map V.bl)) := upd_same
        have hkp0 : S2.free hkp = S2.free hkp := rfl
        show tSeq _ _ _ _ (upd H2 kp (.lst ([false, false, false, true].map V.bl)))
        generalize upd H2 kp (.lst ([false, false, false, true].map V.bl)) = H3 at *
        refine ⟨_, rfl, M.c_ByZero, dd, _, _, _, _, rfl, rfl, hdd3, M.e_ByZero, rfl, .ty _, M.v_ByZero, _, rfl, ?_⟩
        refine iteF ?_
        walk_at "rd"
        refine ⟨kp, [false, false, false, true], rfl, rfl, SqL.of hk2, rfl, _, rfl, ?_⟩
        refine iteNS (by rfl) ?_
        refine ⟨_, rfl, _, _, _, .bl false, rfl, rfl, SqL.of hk2, rfl, _, rfl, ?_⟩
        refine iteF ?_
        refine ⟨_, rfl, _, _, _, .bl false, rfl, rfl, SqL.of hk2, rfl, _, rfl, ?_⟩
        refine iteF ?_
        refine ⟨_, rfl, _, _, _, .bl false, rfl, rfl, SqL.of hk2, rfl, _, rfl, ?_⟩
        refine iteF ?_
        refine ⟨_, rfl, rfl, rfl, dd, _, v, rfl, hdd3, by simp [List.lookup], ?_⟩
        refine ⟨Nat.le_of_ble_eq_true rfl, fun t ht => k t _ ?_ (Same.put S3 (S3.free ht))⟩
        rw [ev]; exact upd_same
    · walk_at "rd"
      refine iteD (fun c2 => ?_) (fun c2 => ?_)
      · obtain ⟨a, b, rfl⟩ : ∃ a b, xs = [a, b] := len_two (by have := V.int.inj c2; omega)
        walk_at "rd"
        refine ⟨_, _, _, a, rfl, rfl, SqL.of hp, rfl, ?_⟩
        refine ⟨_, rfl, _, _, _, b, rfl, rfl, SqL.of hp, rfl, ?_⟩
        refine ⟨[x0, x1], [a, b], rfl, rfl, Nat.le_of_ble_eq_true rfl, fun q hq => ?_⟩
        have S1 : Same H (upd H q (.tup [a, b])) := Same.put (Same.refl H) hq
        have hq1 : upd H q (.tup [a, b]) q = some (.tup [a, b]) := upd_same
        generalize upd H q (.tup [a, b]) = H1 at *
        refine ⟨_, _, _, rfl, d, q, [a, b], rfl, hq1, hx.same S1, hy.same S1, fun v hv => (hpl v hv).same S1, hlen, ?_⟩
        refine meets_i (fun i e => ?_) ?_ ?_ ?_ ?_
        · walk_at "rd"
          intro t ht
          refine k t _ ?_ (Same.put S1 (S1.free ht))
          rw [e]; exact upd_same
        · intro v ev dd hd0 σ hσ
          obtain ⟨s0, s1, s2, s3, s4, rfl⟩ := len5 hσ
          have S2 := Same.put (o := .xd [("width", v)]) S1 (S1.free hd0)
          have hdd : upd H1 dd (.xd [("width", v)]) dd = some (.xd [("width", v)]) := upd_same
          refine ⟨true, M.m_BadWidth, fun _ ea hea => ?_, fun z => Bool.noConfusion z⟩
          generalize upd H1 dd (.xd [("width", v)]) = H2 at *
          refine ⟨_, rfl, M.c_BadWidth, dd, _, _, _, _, rfl, rfl, hdd, M.e_BadWidth, rfl, .own _, M.k_BadWidth_BadWidth, ?_⟩
          refine ⟨_, rfl, M.c_BadWidth, dd, _, _, _, _, rfl, rfl, hdd, M.e_BadWidth, rfl, .own _, M.k_BadWidth_BadOp, ?_⟩
          refine ⟨_, rfl, M.c_BadWidth, dd, _, _, _, _, rfl, rfl, hdd, M.e_BadWidth, rfl, .own _, M.k_BadWidth_BadNumber, ?_⟩
          refine ⟨_, rfl, M.c_BadWidth, dd, _, _, _, _, rfl, rfl, hdd, M.e_BadWidth, rfl, .own _, M.k_BadWidth_ByZero, ?_⟩
          refine ⟨Nat.le_of_ble_eq_true rfl, fun kp hkp => ?_⟩
          have S3 := Same.put (o := .lst ([true, false, false, false].map V.bl)) S2 (S2.free hkp)
          have hdd3 : upd H2 kp (.lst ([true, false, false, false].map V.bl)) dd = some (.xd [("width", v)]) := by rw [upd_ne (ne_of_none hdd hkp)]; exact hdd
          have hk2 : upd H2 kp (.lst ([true, false, false, false].map V.bl)) kp = some (.lst ([true, false, false, false].map V.bl)) := upd_same
          have hkp0 : S2.free hkp = S2.free hkp := rfl
          show tSeq _ _ _ _ (upd H2 kp (.lst ([true, false, false, false].map V.bl)))
          generalize upd H2 kp (.lst ([true, false, false, false].map V.bl)) = H3 at *
          refine ⟨_, rfl, M.c_BadWidth, dd, _, _, _, _, rfl, rfl, hdd3, M.e_BadWidth, rfl, .ty _, M.v_BadWidth, _, rfl, ?_⟩
          refine iteF ?_
          walk_at "rd"
          refine ⟨kp, [true, false, false, false], rfl, rfl, SqL.of hk2, rfl, _, rfl, ?_⟩
          refine iteNS (by rfl) ?_
          refine ⟨_, rfl, _, _, _, .bl true, rfl, rfl, SqL.of hk2, rfl, _, rfl, ?_⟩
          refine iteT ?_
          refine ⟨_, rfl, rfl, rfl, dd, _, v, rfl, hdd3, by simp [List.lookup], ?_⟩
          refine ⟨Nat.le_of_ble_eq_true rfl, fun t ht => k t _ ?_ (Same.put S3 (S3.free ht))⟩
          rw [ev]; exact upd_same
        · intro v ev dd hd0 σ hσ
          obtain ⟨s0, s1, s2, s3, s4, rfl⟩ := len5 hσ
          have S2 := Same.put (o := .xd [("op", v)]) S1 (S1.free hd0)
          have hdd : upd H1 dd (.xd [("op", v)]) dd = some (.xd [("op", v)]) := upd_same
          refine ⟨true, M.m_BadOp, fun _ ea hea => ?_, fun z => Bool.noConfusion z⟩
          generalize upd H1 dd (.xd [("op", v)]) = H2 at *
          refine ⟨_, rfl, M.c_BadOp, dd, _, _, _, _, rfl, rfl, hdd, M.e_BadOp, rfl, .own _, M.k_BadOp_BadWidth, ?_⟩
          refine ⟨_, rfl, M.c_BadOp, dd, _, _, _, _, rfl, rfl, hdd, M.e_BadOp, rfl, .own _, M.k_BadOp_BadOp, ?_⟩
          refine ⟨_, rfl, M.c_BadOp, dd, _, _, _, _, rfl, rfl, hdd, M.e_BadOp, rfl, .own _, M.k_BadOp_BadNumber, ?_⟩
          refine ⟨_, rfl, M.c_BadOp, dd, _, _, _, _, rfl, rfl, hdd, M.e_BadOp, rfl, .own _, M.k_BadOp_ByZero, ?_⟩
          refine ⟨Nat.le_of_ble_eq_true rfl, fun kp hkp => ?_⟩
          have S3 := Same.put (o := .lst ([false, true, false, false].map V.bl)) S2 (S2.free hkp)
          have hdd3 : upd H2 kp (.lst ([false, true, false, false].map V.bl)) dd = some (.xd [("op", v)]) := by rw [upd_ne (ne_of_none hdd hkp)]; exact hdd
          have hk2 : upd H2 kp (.lst ([false, true, false, false].map V.bl)) kp = some (.lst ([false, true, false, false].map V.bl)) := upd_same
          have hkp0 : S2.free hkp = S2.free hkp := rfl
          show tSeq _ _ _ _ (upd H2 kp (.lst ([false, true, false, false].map V.bl)))
          generalize upd H2 kp (.lst ([false, true, false, false].map V.bl)) = H3 at *
          refine ⟨_, rfl, M.c_BadOp, dd, _, _, _, _, rfl, rfl, hdd3, M.e_BadOp, rfl, .ty _, M.v_BadOp, _, rfl, ?_⟩
          refine iteF ?_
          walk_at "rd"
          refine ⟨kp, [false, true, false, false], rfl, rfl, SqL.of hk2, rfl, _, rfl, ?_⟩
          refine iteNS (by rfl) ?_
          refine ⟨_, rfl, _, _, _, .bl false, rfl, rfl, SqL.of hk2, rfl, _, rfl, ?_⟩
          refine iteF ?_
          refine ⟨_, rfl, _, _, _, .bl true, rfl, rfl, SqL.of hk2, rfl, _, rfl, ?_⟩
          refine iteT ?_
          refine ⟨_, rfl, rfl, rfl, dd, _, v, rfl, hdd3, by simp [List.lookup], ?_⟩
          refine ⟨Nat.le_of_ble_eq_true rfl, fun t ht => k t _ ?_ (Same.put S3 (S3.free ht))⟩
          rw [ev]; exact upd_same
        · intro v ev dd hd0 σ hσ
          obtain ⟨s0, s1, s2, s3, s4, rfl⟩ := len5 hσ
          have S2 := Same.put (o := .xd [("number", v)]) S1 (S1.free hd0)
          have hdd : upd H1 dd (.xd [("number", v)]) dd = some (.xd [("number", v)]) := upd_same
          refine ⟨true, M.m_BadNumber, fun _ ea hea => ?_, fun z => Bool.noConfusion z⟩
          generalize upd H1 dd (.xd [("number", v)]) = H2 at *
          refine ⟨_, rfl, M.c_BadNumber, dd, _, _, _, _, rfl, rfl, hdd, M.e_BadNumber, rfl, .own _, M.k_BadNumber_BadWidth, ?_⟩
          refine ⟨_, rfl, M.c_BadNumber, dd, _, _, _, _, rfl, rfl, hdd, M.e_BadNumber, rfl, .own _, M.k_BadNumber_BadOp, ?_⟩
          refine ⟨_, rfl, M.c_BadNumber, dd, _, _, _, _, rfl, rfl, hdd, M.e_BadNumber, rfl, .own _, M.k_BadNumber_BadNumber, ?_⟩
          refine ⟨_, rfl, M.c_BadNumber, dd, _, _, _, _, rfl, rfl, hdd, M.e_BadNumber, rfl, .own _, M.k_BadNumber_ByZero, ?_⟩
          refine ⟨Nat.le_of_ble_eq_true rfl, fun kp hkp => ?_⟩
          have S3 := Same.put (o := .lst ([false, false, true, false].map V.bl)) S2 (S2.free hkp)
          have hdd3 : upd H2 kp (.lst ([false, false, true, false].map V.bl)) dd = some (.xd [("number", v)]) := by rw [upd_ne (ne_of_none hdd hkp)]; exact hdd
          have hk2 : upd H2 kp (.lst ([false, false, true, false].map V.bl)) kp = some (.lst ([false, false, true, false].map V.bl)) := upd_same
          have hkp0 : S2.free hkp = S2.free hkp := rfl
          show tSeq _ _ _ _ (upd H2 kp (.lst ([false, false, true, false].map V.bl)))
          generalize upd H2 kp (.lst ([false, false, true, false].map V.bl)) = H3 at *
          refine ⟨_, rfl, M.c_BadNumber, dd, _, _, _, _, rfl, rfl, hdd3, M.e_BadNumber, rfl, .ty _, M.v_BadNumber, _, rfl, ?_⟩
          refine iteF ?_
          walk_at "rd"
          refine ⟨kp, [false, false, true, false], rfl, rfl, SqL.of hk2, rfl, _, rfl, ?_⟩
          refine iteNS (by rfl) ?_
          refine ⟨_, rfl, _, _, _, .bl false, rfl, rfl, SqL.of hk2, rfl, _, rfl, ?_⟩
          refine iteF ?_
          refine ⟨_, rfl, _, _, _, .bl false, rfl, rfl, SqL.of hk2, rfl, _, rfl, ?_⟩
          refine iteF ?_
          refine ⟨_, rfl, _, _, _, .bl true, rfl, rfl, SqL.of hk2, rfl, _, rfl, ?_⟩
          refine iteT ?_
          refine ⟨_, rfl, rfl, rfl, dd, _, v, rfl, hdd3, by simp [List.lookup], ?_⟩
          refine ⟨Nat.le_of_ble_eq_true rfl, fun t ht => k t _ ?_ (Same.put S3 (S3.free ht))⟩
          rw [ev]; exact upd_same
        · intro v ev dd hd0 σ hσ
          obtain ⟨s0, s1, s2, s3, s4, rfl⟩ := len5 hσ
          have S2 := Same.put (o := .xd [("number", v)]) S1 (S1.free hd0)
          have hdd : upd H1 dd (.xd [("number", v)]) dd = some (.xd [("number", v)]) := upd_same
          refine ⟨true, M.m_ByZero, fun _ ea hea => ?_, fun z => Bool.noConfusion z⟩
          generalize upd H1 dd (.xd [("number", v)]) = H2 at *
          refine ⟨_, rfl, M.c_ByZero, dd, _, _, _, _, rfl, rfl, hdd, M.e_ByZero, rfl, .own _, M.k_ByZero_BadWidth, ?_⟩
          refine ⟨_, rfl, M.c_ByZero, dd, _, _, _, _, rfl, rfl, hdd, M.e_ByZero, rfl, .own _, M.k_ByZero_BadOp, ?_⟩
          refine ⟨_, rfl, M.c_ByZero, dd, _, _, _, _, rfl, rfl, hdd, M.e_ByZero, rfl, .own _, M.k_ByZero_BadNumber, ?_⟩
          refine ⟨_, rfl, M.c_ByZero, dd, _, _, _, _, rfl, rfl, hdd, M.e_ByZero, rfl, .own _, M.k_ByZero_ByZero, ?_⟩
          refine ⟨Nat.le_of_ble_eq_true rfl, fun kp hkp => ?_⟩
          have S3 := Same.put (o := .lst ([false, false, false, true].map V.bl)) S2 (S2.free hkp)
          have hdd3 : upd H2 kp (.lst ([false, false, false, true].map V.bl)) dd = some (.xd [("number", v)]) := by rw [upd_ne (ne_of_none hdd hkp)]; exact hdd
          have hk2 : upd H2 kp (.lst ([false, false, false, true].map V.bl)) kp = some (.lst ([false, false, false, true].map V.bl)) := upd_same
          have hkp0 : S2.free hkp = S2.free hkp := rfl
          show tSeq _ _ _ _ (upd H2 kp (.lst ([false, false, false, true].map V.bl)))
          generalize upd H2 kp (.lst ([false, false, false, true].map V.bl)) = H3 at *
          refine ⟨_, rfl, M.c_ByZero, dd, _, _, _, _, rfl, rfl, hdd3, M.e_ByZero, rfl, .ty _, M.v_ByZero, _, rfl, ?_⟩
          refine iteF ?_
          walk_at "rd"
          refine ⟨kp, [false, false, false, true], rfl, rfl, SqL.of hk2, rfl, _, rfl, ?_⟩
          refine iteNS (by rfl) ?_
          refine ⟨_, rfl, _, _, _, .bl false, rfl, rfl, SqL.of hk2, rfl, _, rfl, ?_⟩
          refine iteF ?_
          refine ⟨_, rfl, _, _, _, .bl false, rfl, rfl, SqL.of hk2, rfl, _, rfl, ?_⟩
          refine iteF ?_
          refine ⟨_, rfl, _, _, _, .bl false, rfl, rfl, SqL.of hk2, rfl, _, rfl, ?_⟩
          refine iteF ?_
          refine ⟨_, rfl, rfl, rfl, dd, _, v, rfl, hdd3, by simp [List.lookup], ?_⟩
          refine ⟨Nat.le_of_ble_eq_true rfl, fun t ht => k t _ ?_ (Same.put S3 (S3.free ht))⟩
          rw [ev]; exact upd_same
      · have n0 : xs.length ≠ 0 := fun z => c (by rw [z]; rfl)
        have n1 : xs.length ≠ 1 := fun z => c1 (by rw [z]; rfl)
        have n2 : xs.length ≠ 2 := fun z => c2 (by rw [z]; rfl)
        obtain ⟨a, b, g, rfl⟩ : ∃ a b g, xs = [a, b, g] := len_three (by omega)
        walk_at "rd"
        refine ⟨_, _, _, a, rfl, rfl, SqL.of hp, rfl, ?_⟩
        refine ⟨_, rfl, _, _, _, b, rfl, rfl, SqL.of hp, rfl, ?_⟩
        refine ⟨_, rfl, _, _, _, g, rfl, rfl, SqL.of hp, rfl, ?_⟩
        refine ⟨[x0, x1], [a, b, g], rfl, rfl, Nat.le_of_ble_eq_true rfl, fun q hq => ?_⟩
        have S1 : Same H (upd H q (.tup [a, b, g])) := Same.put (Same.refl H) hq
        have hq1 : upd H q (.tup [a, b, g]) q = some (.tup [a, b, g]) := upd_same
        generalize upd H q (.tup [a, b, g]) = H1 at *
        refine ⟨_, _, _, rfl, d, q, [a, b, g], rfl, hq1, hx.same S1, hy.same S1, fun v hv => (hpl v hv).same S1, hlen, ?_⟩
        refine meets_i (fun i e => ?_) ?_ ?_ ?_ ?_
        · walk_at "rd"
          intro t ht
          refine k t _ ?_ (Same.put S1 (S1.free ht))
          rw [e]; exact upd_same
        · intro v ev dd hd0 σ hσ
          obtain ⟨s0, s1, s2, s3, s4, rfl⟩ := len5 hσ
          have S2 := Same.put (o := .xd [("width", v)]) S1 (S1.free hd0)
          have hdd : upd H1 dd (.xd [("width", v)]) dd = some (.xd [("width", v)]) := upd_same
          refine ⟨true, M.m_BadWidth, fun _ ea hea => ?_, fun z => Bool.noConfusion z⟩
          generalize upd H1 dd (.xd [("width", v)]) = H2 at *
          refine ⟨_, rfl, M.c_BadWidth, dd, _, _, _, _, rfl, rfl, hdd, M.e_BadWidth, rfl, .own _, M.k_BadWidth_BadWidth, ?_⟩
          refine ⟨_, rfl, M.c_BadWidth, dd, _, _, _, _, rfl, rfl, hdd, M.e_BadWidth, rfl, .own _, M.k_BadWidth_BadOp, ?_⟩
          refine ⟨_, rfl, M.c_BadWidth, dd, _, _, _, _, rfl, rfl, hdd, M.e_BadWidth, rfl, .own _, M.k_BadWidth_BadNumber, ?_⟩
          refine ⟨_, rfl, M.c_BadWidth, dd, _, _, _, _, rfl, rfl, hdd, M.e_BadWidth, rfl, .own _, M.k_BadWidth_ByZero, ?_⟩
          refine ⟨Nat.le_of_ble_eq_true rfl, fun kp hkp => ?_⟩
          have S3 := Same.put (o := .lst ([true, false, false, false].map V.bl)) S2 (S2.free hkp)
          have hdd3 : upd H2 kp (.lst ([true, false, false, false].map V.bl)) dd = some (.xd [("width", v)]) := by rw [upd_ne (ne_of_none hdd hkp)]; exact hdd
          have hk2 : upd H2 kp (.lst ([true, false, false, false].map V.bl)) kp = some (.lst ([true, false, false, false].map V.bl)) := upd_same
          have hkp0 : S2.free hkp = S2.free hkp := rfl
          show tSeq _ _ _ _ (upd H2 kp (.lst ([true, false, false, false].map V.bl)))
          generalize upd H2 kp (.lst ([true, false, false, false].map V.bl)) = H3 at *
          refine ⟨_, rfl, M.c_BadWidth, dd, _, _, _, _, rfl, rfl, hdd3, M.e_BadWidth, rfl, .ty _, M.v_BadWidth, _, rfl, ?_⟩
          refine iteF ?_
          walk_at "rd"
          refine ⟨kp, [true, false, false, false], rfl, rfl, SqL.of hk2, rfl, _, rfl, ?_⟩
          refine iteNS (by rfl) ?_
          refine ⟨_, rfl, _, _, _, .bl true, rfl, rfl, SqL.of hk2, rfl, _, rfl, ?_⟩
          refine iteT ?_
          refine ⟨_, rfl, rfl, rfl, dd, _, v, rfl, hdd3, by simp [List.lookup], ?_⟩
          refine ⟨Nat.le_of_ble_eq_true rfl, fun t ht => k t _ ?_ (Same.put S3 (S3.free ht))⟩
          rw [ev]; exact upd_same
        · intro v ev dd hd0 σ hσ
          obtain ⟨s0, s1, s2, s3, s4, rfl⟩ := len5 hσ
          have S2 := Same.put (o := .xd [("op", v)]) S1 (S1.free hd0)
          have hdd : upd H1 dd (.xd [("op", v)]) dd = some (.xd [("op", v)]) := upd_same
          refine ⟨true, M.m_BadOp, fun _ ea hea => ?_, fun z => Bool.noConfusion z⟩
          generalize upd H1 dd (.xd [("op", v)]) = H2 at *
          refine ⟨_, rfl, M.c_BadOp, dd, _, _, _, _, rfl, rfl, hdd, M.e_BadOp, rfl, .own _, M.k_BadOp_BadWidth, ?_⟩
          refine ⟨_, rfl, M.c_BadOp, dd, _, _, _, _, rfl, rfl, hdd, M.e_BadOp, rfl, .own _, M.k_BadOp_BadOp, ?_⟩
          refine ⟨_, rfl, M.c_BadOp, dd, _, _, _, _, rfl, rfl, hdd, M.e_BadOp, rfl, .own _, M.k_BadOp_BadNumber, ?_⟩
          refine ⟨_, rfl, M.c_BadOp, dd, _, _, _, _, rfl, rfl, hdd, M.e_BadOp, rfl, .own _, M.k_BadOp_ByZero, ?_⟩
          refine ⟨Nat.le_of_ble_eq_true rfl, fun kp hkp => ?_⟩
          have S3 := Same.put (o := .lst ([false, true, false, false].map V.bl)) S2 (S2.free hkp)
          have hdd3 : upd H2 kp (.lst ([false, true, false, false].map V.bl)) dd = some (.xd [("op", v)]) := by rw [upd_ne (ne_of_none hdd hkp)]; exact hdd
          have hk2 : upd H2 kp (.lst ([false, true, false, false].map V.bl)) kp = some (.lst ([false, true, false, false].map V.bl)) := upd_same
          have hkp0 : S2.free hkp = S2.free hkp := rfl
          show tSeq _ _ _ _ (upd H2 kp (.lst ([false, true, false, false].map V.bl)))
          generalize upd H2 kp (.lst ([false, true, false, false].map V.bl)) = H3 at *
          refine ⟨_, rfl, M.c_BadOp, dd, _, _, _, _, rfl, rfl, hdd3, M.e_BadOp, rfl, .ty _, M.v_BadOp, _, rfl, ?_⟩
          refine iteF ?_
          walk_at "rd"
          refine ⟨kp, [false, true, false, false], rfl, rfl, SqL.of hk2, rfl, _, rfl, ?_⟩
          refine iteNS (by rfl) ?_
          refine ⟨_, rfl, _, _, _, .bl false, rfl, rfl, SqL.of hk2, rfl, _, rfl, ?_⟩
          refine iteF ?_
          refine ⟨_, rfl, _, _, _, .bl true, rfl, rfl, SqL.of hk2, rfl, _, rfl, ?_⟩
          refine iteT ?_
          refine ⟨_, rfl, rfl, rfl, dd, _, v, rfl, hdd3, by simp [List.lookup], ?_⟩
          refine ⟨Nat.le_of_ble_eq_true rfl, fun t ht => k t _ ?_ (Same.put S3 (S3.free ht))⟩
          rw [ev]; exact upd_same
        · intro v ev dd hd0 σ hσ
          obtain ⟨s0, s1, s2, s3, s4, rfl⟩ := len5 hσ
          have S2 := Same.put (o := .xd [("number", v)]) S1 (S1.free hd0)
          have hdd : upd H1 dd (.xd [("number", v)]) dd = some (.xd [("number", v)]) := upd_same
          refine ⟨true, M.m_BadNumber, fun _ ea hea => ?_, fun z => Bool.noConfusion z⟩
          generalize upd H1 dd (.xd [("number", v)]) = H2 at *
          refine ⟨_, rfl, M.c_BadNumber, dd, _, _, _, _, rfl, rfl, hdd, M.e_BadNumber, rfl, .own _, M.k_BadNumber_BadWidth, ?_⟩
          refine ⟨_, rfl, M.c_BadNumber, dd, _, _, _, _, rfl, rfl, hdd, M.e_BadNumber, rfl, .own _, M.k_BadNumber_BadOp, ?_⟩
          refine ⟨_, rfl, M.c_BadNumber, dd, _, _, _, _, rfl, rfl, hdd, M.e_BadNumber, rfl, .own _, M.k_BadNumber_BadNumber, ?_⟩
          refine ⟨_, rfl, M.c_BadNumber, dd, _, _, _, _, rfl, rfl, hdd, M.e_BadNumber, rfl, .own _, M.k_BadNumber_ByZero, ?_⟩
          refine ⟨Nat.le_of_ble_eq_true rfl, fun kp hkp => ?_⟩
          have S3 := Same.put (o := .lst ([false, false, true, false].map V.bl)) S2 (S2.free hkp)
          have hdd3 : upd H2 kp (.lst ([false, false, true, false].map V.bl)) dd = some (.xd [("number", v)]) := by rw [upd_ne (ne_of_none hdd hkp)]; exact hdd
          have hk2 : upd H2 kp (.lst ([false, false, true, false].map V.bl)) kp = some (.lst ([false, false, true, false].map V.bl)) := upd_same
          have hkp0 : S2.free hkp = S2.free hkp := rfl
          show tSeq _ _ _ _ (upd H2 kp (.lst ([false, false, true, false].map V.bl)))
          generalize upd H2 kp (.lst ([false, false, true, false].map V.bl)) = H3 at *
          refine ⟨_, rfl, M.c_BadNumber, dd, _, _, _, _, rfl, rfl, hdd3, M.e_BadNumber, rfl, .ty _, M.v_BadNumber, _, rfl, ?_⟩
          refine iteF ?_
          walk_at "rd"
          refine ⟨kp, [false, false, true, false], rfl, rfl, SqL.of hk2, rfl, _, rfl, ?_⟩
          refine iteNS (by rfl) ?_
          refine ⟨_, rfl, _, _, _, .bl false, rfl, rfl, SqL.of hk2, rfl, _, rfl, ?_⟩
          refine iteF ?_
          refine ⟨_, rfl, _, _, _, .bl false, rfl, rfl, SqL.of hk2, rfl, _, rfl, ?_⟩
          refine iteF ?_
          refine ⟨_, rfl, _, _, _, .bl true, rfl, rfl, SqL.of hk2, rfl, _, rfl, ?_⟩
          refine iteT ?_
          refine ⟨_, rfl, rfl, rfl, dd, _, v, rfl, hdd3, by simp [List.lookup], ?_⟩
          refine ⟨Nat.le_of_ble_eq_true rfl, fun t ht => k t _ ?_ (Same.put S3 (S3.free ht))⟩
          rw [ev]; exact upd_same
        · intro v ev dd hd0 σ hσ
          obtain ⟨s0, s1, s2, s3, s4, rfl⟩ := len5 hσ
          have S2 := Same.put (o := .xd [("number", v)]) S1 (S1.free hd0)
          have hdd : upd H1 dd (.xd [("number", v)]) dd = some (.xd [("number", v)]) := upd_same
          refine ⟨true, M.m_ByZero, fun _ ea hea => ?_, fun z => Bool.noConfusion z⟩
          generalize upd H1 dd (.xd [("number", v)]) = H2 at *
          refine ⟨_, rfl, M.c_ByZero, dd, _, _, _, _, rfl, rfl, hdd, M.e_ByZero, rfl, .own _, M.k_ByZero_BadWidth, ?_⟩
          refine ⟨_, rfl, M.c_ByZero, dd, _, _, _, _, rfl, rfl, hdd, M.e_ByZero, rfl, .own _, M.k_ByZero_BadOp, ?_⟩
          refine ⟨_, rfl, M.c_ByZero, dd, _, _, _, _, rfl, rfl, hdd, M.e_ByZero, rfl, .own _, M.k_ByZero_BadNumber, ?_⟩
          refine ⟨_, rfl, M.c_ByZero, dd, _, _, _, _, rfl, rfl, hdd, M.e_ByZero, rfl, .own _, M.k_ByZero_ByZero, ?_⟩
          refine ⟨Nat.le_of_ble_eq_true rfl, fun kp hkp => ?_⟩
          have S3 := Same.put (o := .lst ([false, false, false, true].map V.bl)) S2 (S2.free hkp)
          have hdd3 : upd H2 kp (.lst ([false, false, false, true].map V.bl)) dd = some (.xd [("number", v)]) := by rw [upd_ne (ne_of_none hdd hkp)]; exact hdd
          have hk2 : upd H2 kp (.lst ([false, false, false, true].map V.bl)) kp = some (.lst ([false, false, false, true].map V.bl)) := upd_same
          have hkp0 : S2.free hkp = S2.free hkp := rfl
          show tSeq _ _ _ _ (upd H2 kp (.lst ([false, false, false, true].map V.bl)))
          generalize upd H2 kp (.lst ([false, false, false, true].map V.bl)) = H3 at *
          refine ⟨_, rfl, M.c_ByZero, dd, _, _, _, _, rfl, rfl, hdd3, M.e_ByZero, rfl, .ty _, M.v_ByZero, _, rfl, ?_⟩
          refine iteF ?_
          walk_at "rd"
          refine ⟨kp, [false, false, false, true], rfl, rfl, SqL.of hk2, rfl, _, rfl, ?_⟩
          refine iteNS (by rfl) ?_
          refine ⟨_, rfl, _, _, _, .bl false, rfl, rfl, SqL.of hk2, rfl, _, rfl, ?_⟩
          refine iteF ?_
          refine ⟨_, rfl, _, _, _, .bl false, rfl, rfl, SqL.of hk2, rfl, _, rfl, ?_⟩
          refine iteF ?_
          refine ⟨_, rfl, _, _, _, .bl false, rfl, rfl, SqL.of hk2, rfl, _, rfl, ?_⟩
          refine iteF ?_
          refine ⟨_, rfl, rfl, rfl, dd, _, v, rfl, hdd3, by simp [List.lookup], ?_⟩
          refine ⟨Nat.le_of_ble_eq_true rfl, fun t ht => k t _ ?_ (Same.put S3 (S3.free ht))⟩
          rw [ev]; exact upd_same

end
end K01
namespace K01
open PySem PySem.Spec PyProof.Rows L2 My
section
variable {P : Program} {w : World} {K : PySem.W.Frag} {mg : Str → Option Value} {base : Heap}
theorem ok__law_same (M : TX K mg) : FnOk P w K mg base (L2.CX P w) 1 M.f__law_same M.d__law_same ["_law_told", "_law_due_here"] (spSame) := by
  have sc := sc__law_same
  refine M.F__law_same.okX sc (fun vs H Q E h => Sp2_len h) (fun cdv A outer s H vs Q E hr h => ?_)
  obtain ⟨x0, x1, rfl, h⟩ := h
  have hu := hu_of hr
  have hu64 := hr.units
  refine ⟨_, (pss_one (ps_ret (pe_and (pe_cmpR op_eq (pe_ix (ix_tupK K) (pv 0) pe_int (fun _ _ => rfl)) (pe_ix (ix_tupK K) (pv 1) pe_int (fun _ _ => rfl)) (nomark _)) (pe_and (pe_cmpR op_eq (pe_callB call_isBool (by rfl) M.n_isinstance (by decide +kernel) (pa_cons (pe_ix (ix_tupK K) (pv 0) pe_int (fun _ _ => rfl)) (pa_cons (pe_bltn (v := .ty "bool") (u := .type "bool") (by rfl) M.n_bool (by decide +kernel) rfl) pa_nil))) (pe_callB call_isBool (by rfl) M.n_isinstance (by decide +kernel) (pa_cons (pe_ix (ix_tupK K) (pv 1) pe_int (fun _ _ => rfl)) (pa_cons (pe_bltn (v := .ty "bool") (u := .type "bool") (by rfl) M.n_bool (by decide +kernel) rfl) pa_nil))) (nomark _)) (pe_one (pe_cmpR (op_eqDK K hu64) (pe_ix (ix_tupK K) (pv 0) pe_int (fun _ _ => rfl)) (pe_ix (ix_tupK K) (pv 1) pe_int (fun _ _ => rfl)) (nomark _))))))), ?_⟩

  obtain ⟨t, u, k, v, d, rfl, rfl, ht, hu', hd, q⟩ := h
  refine ⟨_, rfl, _, _, _, .str k, rfl, rfl, SqT.of ht, rfl, ?_⟩
  refine ⟨_, rfl, _, _, _, .str k, rfl, rfl, SqT.of hu', rfl, ?_⟩
  refine ⟨rfl, _, rfl, ?_⟩
  rw [decide_eq_true (rfl : V.str k = V.str k)]
  refine iteT ?_
  refine ⟨_, rfl, _, _, _, v, rfl, rfl, SqT.of ht, rfl, v, rfl, hd.pl, ?_⟩
  refine ⟨_, rfl, _, _, _, v, rfl, rfl, SqT.of hu', rfl, v, rfl, hd.pl, ?_⟩
  refine ⟨rfl, _, rfl, ?_⟩
  rw [decide_eq_true (rfl : V.bl (isB v) = V.bl (isB v))]
  refine iteT ?_
  refine ⟨_, rfl, _, _, _, v, rfl, rfl, SqT.of ht, rfl, ?_⟩
  refine ⟨_, rfl, _, _, _, v, rfl, rfl, SqT.of hu', rfl, ?_⟩
  refine ⟨d, d, hd.dp, hd.dp, hd.shp, hd.shp, ?_⟩
  rw [hd.refl]
  exact q


theorem _root_.My.BagAt.none_of {H H' : Hp} {b p : Addr} (B : BagAt H' b) (k : Kp b H H') (h : H' p = Option.none) : H p = Option.none := by
  cases e : H p with
  | none => rfl
  | some o =>
    by_cases hb : p = b
    · obtain ⟨c, ns, a, r, s, n, hb', _⟩ := B.ex
      rw [hb, hb'] at h
      cases h
    · rw [k p o hb e] at h
      cases h
abbrev spPair : Sp := Sp2 fun x y H Q _ => ∃ (b : Addr) (w : Int), x = .ref b ∧ y = .int w ∧ Wd w ∧ BagAt H b ∧ ∀ l r t H', InR w l → InR w r → H t = none → H' t = some (.lst [.int l, .int r]) → BagAt H' b → Kp b H H' → Q (.ref t) H'

theorem ok__law_pair (M : TX K mg) : FnOk P w K mg base (L2.CX P w) 4 M.f__law_pair M.d__law_pair ["_law_bag_here", "_law_width"] (spPair) := by
  have sc := sc__law_pair
  refine M.F__law_pair.okX sc (fun vs H Q E h => Sp2_len h) (fun cdv A outer s H vs Q E hr h => ?_)
  obtain ⟨x0, x1, rfl, h⟩ := h
  have hu := hu_of hr
  have hu64 := hr.units
  refine ⟨_, (pss_cons (ps_set (i := 2) sc.nd rfl (Or.inl rfl) (pe_call (ok__law_num M) (hr.mono (by decide)) rfl M.g__law_num M.F__law_num.kp M.b__law_num .nil (passE rfl rfl rfl rfl) (pa_cons (pv 0) (pa_cons (pv 1) pa_nil))))
    (pss_cons (ps_set (i := 3) sc.nd rfl (Or.inl rfl) (pe_call (ok__law_num M) (hr.mono (by decide)) rfl M.g__law_num M.F__law_num.kp M.b__law_num .nil (passE rfl rfl rfl rfl) (pa_cons (pv 0) (pa_cons (pv 1) pa_nil))))
    (pss_cons (ps_set (i := 4) sc.nd rfl (Or.inl rfl) (pe_call (ok__law_pick M) (hr.mono (by decide)) rfl M.g__law_pick M.F__law_pick.kp M.b__law_pick .nil (passE rfl rfl rfl rfl) (pa_cons (pv 0) (pa_cons pe_int pa_nil))))
    (pss_cons (ps_if (pt_cmpR op_eq (pv 4) pe_int (nomark _))
      (pss_one (ps_set (i := 3) sc.nd rfl (Or.inl rfl) (pv 2)))
      pss_nil)
    (pss_cons (ps_if (pt_cmpR op_eq (pv 4) pe_int (nomark _))
      (pss_one (ps_set (i := 3) sc.nd rfl (Or.inl rfl) pe_int))
      pss_nil)
    (pss_cons (ps_if (pt_cmpR op_eq (pv 4) pe_int (nomark _))
      (pss_cons (ps_set (i := 2) sc.nd rfl (Or.inl rfl) (pe_un un_neg (pe_call (ok__law_half M) (hr.mono (by decide)) rfl M.g__law_half M.F__law_half.kp M.b__law_half .nil (passE rfl rfl rfl rfl) (pa_cons (pv 1) pa_nil))))
      (pss_one (ps_set (i := 3) sc.nd rfl (Or.inl rfl) (pe_un un_neg pe_int))))
      pss_nil)
    (pss_cons (ps_if (pt_cmpR op_eq (pv 4) pe_int (nomark _))
      (pss_one (ps_set (i := 2) sc.nd rfl (Or.inl rfl) (pe_un un_neg (pe_call (ok__law_half M) (hr.mono (by decide)) rfl M.g__law_half M.F__law_half.kp M.b__law_half .nil (passE rfl rfl rfl rfl) (pa_cons (pv 1) pa_nil)))))
      pss_nil)
    (pss_one (ps_ret (pe_lst (pa_cons (pv 2) (pa_cons (pv 3) pa_nil)))))))))))), ?_⟩

  obtain ⟨b, w, rfl, rfl, hw, B, k⟩ := h
  have hq := hf_pos hw
  have h0 : InR w 0 := by unfold InR; omega
  have hm : InR w (-1) := by unfold InR; omega
  have hh : InR w (-(hf w)) := by unfold InR; omega
  walk_at "rd"
  intro l H1 hl B1 k1
  walk_at "rd"
  intro r H2 hr' B2 k2
  walk_at "rd"
  intro kd H3 _ _ B3 k3
  have K3 := (k1.trans k2).trans k3
  have fin : ∀ l r, InR w l → InR w r → ∀ t H', Same H3 H' → H t = none → H' t = some (.lst [.int l, .int r]) → Q (.ref t) H' := fun l r hl hr t H' s ht ht' => k l r t H' hl hr ht ht' (B3.same s) (K3.trans (Kp.of s))
  walk_at "rd"
  have hkd : kd = 0 ∨ kd = 1 ∨ kd = 2 ∨ kd = 3 ∨ (kd ≠ 0 ∧ kd ≠ 1 ∧ kd ≠ 2 ∧ kd ≠ 3) := by omega
  rcases hkd with rfl | rfl | rfl | rfl | hkd
  · walk_at "rd"
    intro t ht
    exact fin l l hl hl t _ (Same.put (Same.refl H3) ht) (B3.none_of K3 ht) upd_same
  · walk_at "rd"
    intro t ht
    exact fin l 0 hl h0 t _ (Same.put (Same.refl H3) ht) (B3.none_of K3 ht) upd_same
  · walk_at "rd"
    intro H4 s4
    walk_at "rd"
    intro t ht
    exact fin _ _ hh hm t _ (Same.put s4 (s4.free ht)) ((B3.same s4).none_of (K3.trans (Kp.of s4)) ht) upd_same
  · walk_at "rd"
    intro H4 s4
    walk_at "rd"
    intro t ht
    exact fin _ _ hh hr' t _ (Same.put s4 (s4.free ht)) ((B3.same s4).none_of (K3.trans (Kp.of s4)) ht) upd_same
  · refine iteDF (fun h => by have := V.int.inj h; omega) ?_
    walk_at "rd"
    refine iteDF (fun h => by have := V.int.inj h; omega) ?_
    walk_at "rd"
    refine iteDF (fun h => by have := V.int.inj h; omega) ?_
    walk_at "rd"
    refine iteDF (fun h => by have := V.int.inj h; omega) ?_
    walk_at "rd"
    intro t ht
    exact fin l r hl hr' t _ (Same.put (Same.refl H3) ht) (B3.none_of K3 ht) upd_same

end
end K01
namespace K01
open PySem PySem.Spec PyProof.Rows L2 My
section
variable {P : Program} {w : World} {K : PySem.W.Frag} {mg : Str → Option Value} {base : Heap}

abbrev spAct : Sp := Sp3 fun x y z H Q _ => ∃ (b : Addr) (w : Int) (op : Str), x = .ref b ∧ y = .int w ∧ z = .str op ∧ Wd w ∧ Acts op ∧ BagAt H b ∧ ∀ H', BagAt H' b → Kp b H H' → Q (.bl true) H'
theorem acts_ok {op : Str} (h : Acts op) : okOp (.str op) = true ∧ PyData.strOk op = true := by
  rcases h with rfl | rfl | rfl | rfl | rfl | rfl | rfl | rfl | rfl | rfl | rfl | rfl | rfl <;> exact ⟨by decide +kernel, by decide +kernel⟩
theorem isN_int {w n : Int} (h : InR w n) : isN w (.int n) = true := by
  unfold InR at h
  show (decide (-(hf w) ≤ n) && decide (n ≤ hf w - 1)) = true
  rw [decide_eq_true (show -(hf w) ≤ n by omega), decide_eq_true (show n ≤ hf w - 1 by omega)]; rfl
theorem map_iw : ∀ ns : List Int, (ns.map V.int).map iw = ns
  | [] => rfl
  | n :: r => by rw [List.map_cons, List.map_cons, map_iw r]; rfl
theorem wk_num {w : Int} {op : Str} {ns : List Int} (hw : Wd w) (ha : Acts op) (hin : ∀ n ∈ ns, InR w n) (hl : ns.length = ln op) :
    wk (.int w) (.str op) (.str op) (ns.map V.int) = match rs w op ns with | some r => .told r | none => .bz ((ns.map V.int).headD .non) := by
  have e1 : isW (.int w) = true := isW_int hw
  have e2 := (acts_ok ha).1
  have e3 : (ns.map V.int).find? (fun v => !isN w v) = none := find_none (fun j x hx => by
    obtain ⟨z, hz, rfl⟩ := map_get hx
    rw [isN_int (hin z (List.mem_of_getElem? hz))]; rfl)
  have e4 : (ns.map V.int).length = ln op := by rw [List.length_map]; exact hl
  unfold wk
  rw [if_neg (by rw [e1]; decide), if_neg (by rw [e2]; decide)]
  show (if (ns.map V.int).length ≠ ln op then Oc.bn .non else match (ns.map V.int).find? (fun v => !isN w v) with | some v => Oc.bn v | none => match rs w op ((ns.map V.int).map iw) with | some r => Oc.told r | none => Oc.bz ((ns.map V.int).headD .non)) = _
  rw [if_neg (fun z => z e4), e3, map_iw]
theorem in_dm (op : Str) : inV (.str op) [V.str "/", V.str "mod"] = decide (op = "/" ∨ op = "mod") := by
  have e : ∀ s : Str, eqV (.str s) (.str op) = decide (op = s) := fun s => by
    show (s == op) = _
    by_cases h : op = s
    · subst h; simp
    · rw [decide_eq_false h]; exact beq_eq_false_iff_ne.mpr (fun z => h z.symm)
  unfold inV
  simp only [List.any_cons, List.any_nil, e, Bool.or_false, Bool.decide_or]
theorem dv_of {op : Str} (ha : Acts op) (h1 : ¬ (op = "invert" ∨ op = "0=")) : DvOp op ↔ (op = "/" ∨ op = "mod") := by
  rcases ha with rfl | rfl | rfl | rfl | rfl | rfl | rfl | rfl | rfl | rfl | rfl | rfl | rfl <;> first | (exact absurd (.inl rfl) h1) | (exact absurd (.inr rfl) h1) | decide +kernel
theorem rs_two {w : Int} {op : Str} {l r : Int} (h1 : ¬ (op = "invert" ∨ op = "0=")) (h : ¬ (DvOp op ∧ r = 0)) : rs w op [l, r] = some (res w op l r) := by
  show (if DvOp op ∧ r = 0 then none else some (wrapI w (two w op l r))) = _
  rw [if_neg h]
  unfold res
  rw [if_neg (fun e => h1 (.inl e)), if_neg (fun e => h1 (.inr e))]
theorem rs_one {w : Int} {op : Str} {l r : Int} (h1 : op = "invert" ∨ op = "0=") : rs w op [l] = some (res w op l r) := by
  show some (if op = "invert" then -1 - l else tru (decide (l = 0))) = _
  unfold res
  rcases h1 with rfl | rfl
  · rfl
  · rfl

theorem ok__law_act_right (M : TX K mg) : FnOk P w K mg base (L2.CX P w) 9 M.f__law_act_right M.d__law_act_right ["_law_bag_here", "_law_width", "_law_op"] (spAct) := by
  have sc := sc__law_act_right
  refine M.F__law_act_right.okX sc (fun vs H Q E h => Sp3_len h) (fun cdv A outer s H vs Q E hr h => ?_)
  obtain ⟨x0, x1, x2, rfl, h⟩ := h
  have hu := hu_of hr
  have hu64 := hr.units
  refine ⟨_, (pss_cons (ps_set (i := 3) sc.nd rfl (Or.inl rfl) (pe_call (ok__law_pair M) (hr.mono (by decide)) rfl M.g__law_pair M.F__law_pair.kp M.b__law_pair .nil (passE rfl rfl rfl rfl) (pa_cons (pv 0) (pa_cons (pv 1) pa_nil))))
    (pss_cons (ps_if (pt_cmpR (op_inK K) (pv 2) (pe_tup (pa_cons pe_str (pa_cons pe_str pa_nil))) (by rfl))
      (pss_one (ps_set (i := 3) sc.nd rfl (Or.inl rfl) (pe_slice (sl_listK K) (pv 3) po_none (po_some pe_int))))
      pss_nil)
    (pss_cons (ps_set (i := 4) sc.nd rfl (Or.inl rfl) (pe_call (ok__law_asked M) (hr.mono (by decide)) rfl M.g__law_asked M.F__law_asked.kp M.b__law_asked .nil (passE rfl rfl rfl rfl) (pa_cons (pv 1) (pa_cons (pv 2) (pa_cons (pv 3) pa_nil)))))
    (pss_cons (ps_if (PW.pt (pw_and (pt_cmpR (op_inK K) (pv 2) (pe_tup (pa_cons pe_str (pa_cons pe_str pa_nil))) (by rfl)) (pw_and1 (pt_cmpR op_eq (pe_ix (ix_listK K) (pv 3) pe_int (fun _ _ => rfl)) pe_int (nomark _)))))
      (pss_one (ps_ret (pe_call (ok__law_same M) (hr.mono (by decide)) rfl M.g__law_same M.F__law_same.kp M.b__law_same .nil (passE rfl rfl rfl rfl) (pa_cons (pv 4) (pa_cons (pe_tup (pa_cons pe_str (pa_cons (pe_ix (ix_listK K) (pv 3) pe_int (fun _ _ => rfl)) pa_nil))) pa_nil)))))
      pss_nil)
    (pss_cons (ps_if (PW.pt (pw_or (pt_cmpR op_ne (pe_ix (ix_tupK K) (pv 4) pe_int (fun _ _ => rfl)) pe_str (nomark _)) (pw_or1 (pt_not (pt_val (pe_call (ok__law_integer M) (hr.mono (by decide)) rfl M.g__law_integer M.F__law_integer.kp M.b__law_integer .nil (passE rfl rfl rfl rfl) (pa_cons (pe_ix (ix_tupK K) (pv 4) pe_int (fun _ _ => rfl)) pa_nil)))))))
      (pss_one (ps_ret pe_bl))
      pss_nil)
    (pss_one (ps_ret (pe_cmpR op_eq (pe_ix (ix_tupK K) (pv 4) pe_int (fun _ _ => rfl)) (pe_call (ok__law_due M) (hr.mono (by decide)) rfl M.g__law_due M.F__law_due.kp M.b__law_due .nil (passE rfl rfl rfl rfl) (pa_cons (pv 1) (pa_cons (pv 2) (pa_cons (pe_ix (ix_listK K) (pv 3) pe_int (fun _ _ => rfl)) (pa_cons (pe_ix (ix_listK K) (pv 3) (pe_un un_neg pe_int) (fun _ _ => rfl)) pa_nil))))) (nomark _))))))))), ?_⟩

  obtain ⟨b, w, op, rfl, rfl, rfl, hw, hop, B, k⟩ := h
  have hso := (acts_ok hop).2
  walk_at "rd"
  intro l r t H1 hl hr' ht0 ht B1 K1
  walk_at "rd"
  intro q hq
  have ht1 : upd H1 q (.tup [V.str "invert", V.str "0="]) t = some (.lst [.int l, .int r]) := by rw [upd_ne (ne_of_none ht hq)]; exact ht
  have s2 : Same H1 (upd H1 q (.tup [V.str "invert", V.str "0="])) := Same.put (Same.refl H1) hq
  walk_at "rd"
  generalize upd H1 q (.tup [V.str "invert", V.str "0="]) = H2 at *
  show if inV (.str op) [V.str "invert", V.str "0="] = true then _ else _
  rw [in_sgl op]
  refine iteD (fun c => ?_) (fun c => ?_)
  · have hin : ∀ n ∈ ([l] : List Int), InR w n := fun n hn => by rw [List.mem_singleton.mp hn]; exact hl
    have hlen : ([l] : List Int).length = ln op := by unfold ln; rw [if_pos c]; rfl
    have hpl : ∀ v ∈ ([l] : List Int).map V.int, ∀ H, Pl H v := fun v hv H => by
      obtain ⟨n, _, rfl⟩ := List.mem_map.mp hv
      exact .int n
    walk_at "rd"
    refine ⟨t, _, rfl, SqL.of ht1, fun z hz => ?_⟩
    have hz1 : upd H2 z (.lst (cutV [V.int l, V.int r] none (some 1))) z = some (.lst (([l] : List Int).map V.int)) := upd_same
    have s3 : Same H2 (upd H2 z (.lst (cutV [V.int l, V.int r] none (some 1)))) := Same.put (Same.refl H2) hz
    walk_at "rd"
    generalize upd H2 z (.lst (cutV [V.int l, V.int r] none (some 1))) = H3 at *
    have hpl : ∀ v ∈ ([l] : List Int).map V.int, Pl H3 v := fun v hv => hpl v hv H3
    refine ⟨.str op, z, ([l] : List Int).map V.int, rfl, hz1, .int w, .str op hso, hpl, Nat.le_of_ble_eq_true rfl, fun t2 H4 ht2 s4 => ?_⟩
    have hq4 := s4 _ _ hz1
    rw [wk_num hw hop hin hlen] at ht2
    have S4 := (s2.trans s3).trans s4
    walk_at "rd"
    intro u hu0
    have ht5 : ∀ o o', H4 t2 = some o → upd H4 u o' t2 = some o := fun o o' e => by rw [upd_ne (ne_of_none e hu0)]; exact e
    have ht5 := ht5 _ (.tup [V.str "/", V.str "mod"]) ht2
    have hq5 : upd H4 u (.tup [V.str "/", V.str "mod"]) z = some (.lst (([l] : List Int).map V.int)) := by rw [upd_ne (ne_of_none hq4 hu0)]; exact hq4
    have s5 : Same H4 (upd H4 u (.tup [V.str "/", V.str "mod"])) := Same.put (Same.refl H4) hu0
    have S5 := S4.trans s5
    walk_at "rd"
    generalize upd H4 u (.tup [V.str "/", V.str "mod"]) = H5 at *
    show if inV (.str op) [V.str "/", V.str "mod"] = true then _ else _
    rw [in_dm op]
    refine iteDF (fun z => by rcases c with rfl | rfl <;> rcases z with z | z <;> exact absurd z (by decide +kernel)) ?_
    have er : rs w op [l] = some (res w op l l) := rs_one c
    rw [er] at ht5
    walk_at "rd"
    refine ⟨_, _, _, .str "told", rfl, rfl, SqT.of ht5, rfl, ?_⟩
    walk_at "rd"
    refine ⟨_, _, _, .int (res w op l l), rfl, rfl, SqT.of ht5, rfl, ?_⟩
    walk_at "rd"
    refine ⟨_, _, _, .int (res w op l l), rfl, rfl, SqT.of ht5, rfl, ?_⟩
    walk_at "rd"
    refine ⟨_, _, _, .int l, rfl, rfl, SqL.of hq5, rfl, ?_⟩
    walk_at "rd"
    refine ⟨_, _, _, .int l, rfl, rfl, SqL.of hq5, rfl, ?_⟩
    walk_at "rd"
    refine ⟨w, op, l, l, rfl, rfl, rfl, rfl, hw, hl, hl, hop, (fun z => by rcases c with rfl | rfl <;> rcases z with z | z <;> exact absurd z (by decide +kernel)), fun H6 s6 => ?_⟩
    refine ⟨rfl, ?_⟩
    rw [decide_eq_true (rfl : V.int (res w op l l) = V.int (res w op l l))]
    exact k _ (B1.same (S5.trans s6)) (K1.trans (Kp.of (S5.trans s6)))
  · have hin : ∀ n ∈ ([l, r] : List Int), InR w n := fun n hn => by
      rcases List.mem_cons.mp hn with rfl | hn
      · exact hl
      · rw [List.mem_singleton.mp hn]; exact hr'
    have hlen : ([l, r] : List Int).length = ln op := by unfold ln; rw [if_neg c]; rfl
    have hpl : ∀ v ∈ ([l, r] : List Int).map V.int, Pl H2 v := fun v hv => by
      obtain ⟨n, _, rfl⟩ := List.mem_map.mp hv
      exact .int n
    walk_at "rd"
    refine ⟨.str op, t, ([l, r] : List Int).map V.int, rfl, ht1, .int w, .str op hso, hpl, Nat.le_of_ble_eq_true rfl, fun t2 H4 ht2 s4 => ?_⟩
    have hq4 := s4 _ _ ht1
    rw [wk_num hw hop hin hlen] at ht2
    have S4 := (s2).trans s4
    walk_at "rd"
    intro u hu0
    have ht5 : ∀ o o', H4 t2 = some o → upd H4 u o' t2 = some o := fun o o' e => by rw [upd_ne (ne_of_none e hu0)]; exact e
    have ht5 := ht5 _ (.tup [V.str "/", V.str "mod"]) ht2
    have hq5 : upd H4 u (.tup [V.str "/", V.str "mod"]) t = some (.lst (([l, r] : List Int).map V.int)) := by rw [upd_ne (ne_of_none hq4 hu0)]; exact hq4
    have s5 : Same H4 (upd H4 u (.tup [V.str "/", V.str "mod"])) := Same.put (Same.refl H4) hu0
    have S5 := S4.trans s5
    walk_at "rd"
    generalize upd H4 u (.tup [V.str "/", V.str "mod"]) = H5 at *
    show if inV (.str op) [V.str "/", V.str "mod"] = true then _ else _
    rw [in_dm op]
    refine iteD (fun cz => ?_) (fun cz => ?_)
    · walk_at "rd"
      refine ⟨_, _, _, .int r, rfl, rfl, SqL.of hq5, rfl, ?_⟩
      walk_at "rd"
      refine iteD (fun cr => ?_) (fun cr => ?_)
      · have er0 : r = 0 := V.int.inj cr
        have er : rs w op [l, r] = none := by
          show (if DvOp op ∧ r = 0 then none else some (wrapI w (two w op l r))) = none
          rw [if_pos ⟨(dv_of hop c).mpr cz, er0⟩]
        rw [er] at ht5
        walk_at "rd"
        refine ⟨_, _, _, .int l, rfl, rfl, SqL.of hq5, rfl, ?_⟩
        refine ⟨Nat.le_of_ble_eq_true rfl, fun g hg => ?_⟩
        refine ⟨_, _, rfl, t2, g, "ByZero", .int l, .int l, rfl, rfl, by rw [upd_ne (ne_of_none ht5 hg)]; exact ht5, upd_same, .int l, ?_⟩
        have s6 := Same.put (o := .tup [V.str "ByZero", V.int l]) S5 (S5.free hg)
        exact k _ (B1.same s6) (K1.trans (Kp.of s6))
      · have nr : r ≠ 0 := fun z => cr (by rw [z])
        walk_at "rd"
        have er : rs w op [l, r] = some (res w op l r) := rs_two c (fun z => nr z.2)
        rw [er] at ht5
        walk_at "rd"
        refine ⟨_, _, _, .str "told", rfl, rfl, SqT.of ht5, rfl, ?_⟩
        walk_at "rd"
        refine ⟨_, _, _, .int (res w op l r), rfl, rfl, SqT.of ht5, rfl, ?_⟩
        walk_at "rd"
        refine ⟨_, _, _, .int (res w op l r), rfl, rfl, SqT.of ht5, rfl, ?_⟩
        walk_at "rd"
        refine ⟨_, _, _, .int l, rfl, rfl, SqL.of hq5, rfl, ?_⟩
        walk_at "rd"
        refine ⟨_, _, _, .int r, rfl, rfl, SqL.of hq5, rfl, ?_⟩
        walk_at "rd"
        refine ⟨w, op, l, r, rfl, rfl, rfl, rfl, hw, hl, hr', hop, (fun _ => nr), fun H6 s6 => ?_⟩
        refine ⟨rfl, ?_⟩
        rw [decide_eq_true (rfl : V.int (res w op l r) = V.int (res w op l r))]
        exact k _ (B1.same (S5.trans s6)) (K1.trans (Kp.of (S5.trans s6)))
    · walk_at "rd"
      have er : rs w op [l, r] = some (res w op l r) := rs_two c (fun z => cz ((dv_of hop c).mp z.1))
      rw [er] at ht5
      walk_at "rd"
      refine ⟨_, _, _, .str "told", rfl, rfl, SqT.of ht5, rfl, ?_⟩
      walk_at "rd"
      refine ⟨_, _, _, .int (res w op l r), rfl, rfl, SqT.of ht5, rfl, ?_⟩
      walk_at "rd"
      refine ⟨_, _, _, .int (res w op l r), rfl, rfl, SqT.of ht5, rfl, ?_⟩
      walk_at "rd"
      refine ⟨_, _, _, .int l, rfl, rfl, SqL.of hq5, rfl, ?_⟩
      walk_at "rd"
      refine ⟨_, _, _, .int r, rfl, rfl, SqL.of hq5, rfl, ?_⟩
      walk_at "rd"
      refine ⟨w, op, l, r, rfl, rfl, rfl, rfl, hw, hl, hr', hop, (fun z => absurd z cz), fun H6 s6 => ?_⟩
      refine ⟨rfl, ?_⟩
      rw [decide_eq_true (rfl : V.int (res w op l r) = V.int (res w op l r))]
      exact k _ (B1.same (S5.trans s6)) (K1.trans (Kp.of (S5.trans s6)))

end
end K01
namespace K01
open PySem PySem.Spec PyProof.Rows L2 My
section
variable {P : Program} {w : World} {K : PySem.W.Frag} {mg : Str → Option Value} {base : Heap}

abbrev spOddN : Sp := Sp2 fun x y H Q _ => ∃ (b : Addr) (w : Int), x = .ref b ∧ y = .int w ∧ Wd w ∧ BagAt H b ∧ ∀ v d H', PD H' v d → isN w v = false → BagAt H' b → Kp b H H' → Q v H'
theorem isN_out {w n : Int} (h : ¬ InR w n) : isN w (.int n) = false := by
  unfold InR at h
  show (decide (-(hf w) ≤ n) && decide (n ≤ hf w - 1)) = false
  by_cases c : -(hf w) ≤ n
  · rw [decide_eq_false (show ¬ n ≤ hf w - 1 by omega), Bool.and_false]
  · rw [decide_eq_false c, Bool.false_and]
theorem get_mem {α : Type} {xs : List α} {i : Nat} {v : α} (h : xs[i]? = some v) : v ∈ xs := List.mem_of_getElem? h

theorem ok__law_odd_number (M : TX K mg) : FnOk P w K mg base (L2.CX P w) 3 M.f__law_odd_number M.d__law_odd_number ["_law_bag_here", "_law_width"] (spOddN) := by
  have sc := sc__law_odd_number
  refine M.F__law_odd_number.okX sc (fun vs H Q E h => Sp2_len h) (fun cdv A outer s H vs Q E hr h => ?_)
  obtain ⟨x0, x1, rfl, h⟩ := h
  have hu := hu_of hr
  have hu64 := hr.units
  refine ⟨_, (pss_cons (ps_set (i := 2) sc.nd rfl (Or.inl rfl) (pe_call (ok__law_half M) (hr.mono (by decide)) rfl M.g__law_half M.F__law_half.kp M.b__law_half .nil (passE rfl rfl rfl rfl) (pa_cons (pv 1) pa_nil)))
    (pss_cons (ps_set (i := 3) sc.nd rfl (Or.inl rfl) (pe_lst (pa_cons (pv 2) (pa_cons (pe_op op_sub (pe_un un_neg (pv 2)) pe_int) (pa_cons (pe_op op_add (pv 2) (pe_call (ok__law_pick M) (hr.mono (by decide)) rfl M.g__law_pick M.F__law_pick.kp M.b__law_pick .nil (passE rfl rfl rfl rfl) (pa_cons (pv 0) (pa_cons pe_int pa_nil)))) (pa_cons (pe_op op_sub (pe_op op_sub (pe_un un_neg (pv 2)) pe_int) (pe_call (ok__law_pick M) (hr.mono (by decide)) rfl M.g__law_pick M.F__law_pick.kp M.b__law_pick .nil (passE rfl rfl rfl rfl) (pa_cons (pv 0) (pa_cons pe_int pa_nil)))) (pa_cons (pe_op op_sub (pe_op op_mul pe_int (pv 2)) pe_int) (pa_cons (pe_op op_pow pe_int pe_int) (pa_cons (pe_un un_neg (pe_op op_pow pe_int pe_int)) (pa_cons pe_bl (pa_cons pe_bl (pa_cons pe_non (pa_cons pe_str (pa_cons pe_str (pa_cons (pe_tup (pa_cons pe_int pa_nil)) (pa_cons (pe_tup (pa_cons pe_int pa_nil)) pa_nil))))))))))))))))
    (pss_one (ps_ret (pe_call (ok__law_choice M) (hr.mono (by decide)) rfl M.g__law_choice M.F__law_choice.kp M.b__law_choice .nil (passE rfl rfl rfl rfl) (pa_cons (pv 0) (pa_cons (pv 3) pa_nil))))))), ?_⟩

  obtain ⟨b, w, rfl, rfl, hw, B, k⟩ := h
  have hq := hf_pos hw
  walk_at "rd"
  intro H1 s1
  have B1 := B.same s1
  walk_at "rd"
  intro u H2 u0 u1 B2 k2
  walk_at "rd"
  intro z H3 z0 z1 B3 k3
  walk_at "rd"
  intro p hp
  have S4 : Same H3 (upd H3 p (.tup [V.int 0])) := Same.put (Same.refl H3) hp
  have hp4 : upd H3 p (.tup [V.int 0]) p = some (.tup [V.int 0]) := upd_same
  generalize upd H3 p (.tup [V.int 0]) = H4 at *
  walk_at "rd"
  intro q hq0
  have S5 : Same H4 (upd H4 q (.tup [V.int 3])) := Same.put (Same.refl H4) hq0
  have hq5 : upd H4 q (.tup [V.int 3]) q = some (.tup [V.int 3]) := upd_same
  have hp5 := S5 _ _ hp4
  generalize upd H4 q (.tup [V.int 3]) = H5 at *
  walk_at "rd"
  intro t ht
  have B5 := (B3.same S4).same S5
  have K5 := (((Kp.of s1).trans k2).trans k3).trans (Kp.of (S4.trans S5))
  have Pr : ∀ v ∈ ([V.int (hf w), V.int (-(hf w) - 1), V.int (hf w + u), V.int (-(hf w) - 1 - z), V.int (2 * hf w - 1), V.int (10 ^ (39 : Int).toNat), V.int (-(10 ^ (39 : Int).toNat)), V.bl true, V.bl false, V.non, V.str "5", V.str "", V.ref p, V.ref q] : List V), ∃ d, PD H5 v d ∧ isN w v = false := by
    intro v hv
    simp only [List.mem_cons, List.not_mem_nil, or_false] at hv
    have e39 : (10 : Int) ^ (39 : Int).toNat = 1000000000000000000000000000000000000000 := by decide
    rcases hv with rfl | rfl | rfl | rfl | rfl | rfl | rfl | rfl | rfl | rfl | rfl | rfl | rfl | rfl
    · exact ⟨_, .int _, isN_out (by unfold InR; omega)⟩
    · exact ⟨_, .int _, isN_out (by unfold InR; omega)⟩
    · exact ⟨_, .int _, isN_out (by unfold InR; omega)⟩
    · exact ⟨_, .int _, isN_out (by unfold InR; omega)⟩
    · exact ⟨_, .int _, isN_out (by unfold InR; omega)⟩
    · exact ⟨_, .int _, isN_out (by rw [e39]; unfold InR; omega)⟩
    · exact ⟨_, .int _, isN_out (by rw [e39]; unfold InR; omega)⟩
    · exact ⟨_, .bl _, rfl⟩
    · exact ⟨_, .bl _, rfl⟩
    · exact ⟨_, .non, rfl⟩
    · exact ⟨_, .str _ (by decide +kernel), rfl⟩
    · exact ⟨_, .str _ (by decide +kernel), rfl⟩
    · exact ⟨_, .tupI hp5, rfl⟩
    · exact ⟨_, .tupI hq5, rfl⟩
  walk_at "rd"
  obtain ⟨ob, hob⟩ := B5.some
  refine ⟨(ne_of_none hob ht).symm, B5.put ht, fun i v H6 hi B6 k6 => ?_⟩
  obtain ⟨d, hd, hn⟩ := Pr v (get_mem hi)
  exact k v d H6 ((hd.same (Same.put (Same.refl H5) ht)).kp (B5.put ht) k6) hn B6 (K5.trans (Kp.trans (Kp.put Kp.refl ht) k6))


abbrev spOddW : Sp := Sp1 fun x H Q _ => ∃ (b : Addr), x = .ref b ∧ BagAt H b ∧ ∀ v d H', PD H' v d → isW v = false → BagAt H' b → Kp b H H' → Q v H'
theorem isW_out {n : Int} (h : ¬ (n = 16 ∨ n = 24 ∨ n = 32)) : isW (.int n) = false := decide_eq_false h

theorem ok__law_odd_width (M : TX K mg) : FnOk P w K mg base (L2.CX P w) 3 M.f__law_odd_width M.d__law_odd_width ["_law_bag_here"] (spOddW) := by
  have sc := sc__law_odd_width
  refine M.F__law_odd_width.okX sc (fun vs H Q E h => Sp1_len h) (fun cdv A outer s H vs Q E hr h => ?_)
  obtain ⟨x0, rfl, h⟩ := h
  have hu := hu_of hr
  have hu64 := hr.units
  refine ⟨_, (pss_cons (ps_set (i := 1) sc.nd rfl (Or.inl rfl) (pe_op op_add pe_int (pe_call (ok__law_pick M) (hr.mono (by decide)) rfl M.g__law_pick M.F__law_pick.kp M.b__law_pick .nil (passE rfl rfl rfl rfl) (pa_cons (pv 0) (pa_cons pe_int pa_nil)))))
    (pss_one (ps_ret (pe_call (ok__law_choice M) (hr.mono (by decide)) rfl M.g__law_choice M.F__law_choice.kp M.b__law_choice .nil (passE rfl rfl rfl rfl) (pa_cons (pv 0) (pa_cons (pe_lst (pa_cons pe_int (pa_cons pe_int (pa_cons pe_int (pa_cons pe_int (pa_cons pe_int (pa_cons pe_int (pa_cons pe_int (pa_cons pe_int (pa_cons pe_int (pa_cons pe_int (pa_cons (pe_un un_neg pe_int) (pa_cons (pe_un un_neg pe_int) (pa_cons pe_bl (pa_cons pe_non (pa_cons pe_str (pa_cons (pe_tup (pa_cons pe_int pa_nil)) (pa_cons (pv 1) (pa_cons (pe_un un_neg (pv 1)) pa_nil))))))))))))))))))) pa_nil)))))), ?_⟩

  obtain ⟨b, rfl, B, k⟩ := h
  walk_at "rd"
  intro u H3 u0 u1 B3 k3
  walk_at "rd"
  intro p hp
  have S4 : Same H3 (upd H3 p (.tup [V.int 16])) := Same.put (Same.refl H3) hp
  have hp4 : upd H3 p (.tup [V.int 16]) p = some (.tup [V.int 16]) := upd_same
  generalize upd H3 p (.tup [V.int 16]) = H4 at *
  walk_at "rd"
  intro t ht
  have B5 := B3.same S4
  have K5 := k3.trans (Kp.of S4)
  have Pr : ∀ v ∈ ([V.int 8, V.int 0, V.int 1, V.int 15, V.int 17, V.int 23, V.int 25, V.int 31, V.int 33, V.int 64, V.int (-16), V.int (-32), V.bl true, V.non, V.str "16", V.ref p, V.int (33 + u), V.int (-(33 + u))] : List V), ∃ d, PD H4 v d ∧ isW v = false := by
    intro v hv
    simp only [List.mem_cons, List.not_mem_nil, or_false] at hv
    rcases hv with rfl | rfl | rfl | rfl | rfl | rfl | rfl | rfl | rfl | rfl | rfl | rfl | rfl | rfl | rfl | rfl | rfl | rfl
    all_goals first
      | exact ⟨_, .int _, isW_out (by omega)⟩
      | exact ⟨_, .bl _, rfl⟩
      | exact ⟨_, .non, rfl⟩
      | exact ⟨_, .str _ (by decide +kernel), rfl⟩
      | exact ⟨_, .tupI hp4, rfl⟩
  walk_at "rd"
  obtain ⟨ob, hob⟩ := B5.some
  refine ⟨(ne_of_none hob ht).symm, B5.put ht, fun i v H6 hi B6 k6 => ?_⟩
  obtain ⟨d, hd, hn⟩ := Pr v (get_mem hi)
  exact k v d H6 ((hd.same (Same.put (Same.refl H4) ht)).kp (B5.put ht) k6) hn B6 (K5.trans (Kp.trans (Kp.put Kp.refl ht) k6))


abbrev spOddO : Sp := Sp1 fun x H Q _ => ∃ (b : Addr), x = .ref b ∧ BagAt H b ∧ ∀ v d H', PD H' v d → okOp d = false → BagAt H' b → Kp b H H' → Q v H'

theorem ok__law_odd_op (M : TX K mg) : FnOk P w K mg base (L2.CX P w) 3 M.f__law_odd_op M.d__law_odd_op ["_law_bag_here"] (spOddO) := by
  have sc := sc__law_odd_op
  refine M.F__law_odd_op.okX sc (fun vs H Q E h => Sp1_len h) (fun cdv A outer s H vs Q E hr h => ?_)
  obtain ⟨x0, rfl, h⟩ := h
  have hu := hu_of hr
  have hu64 := hr.units
  refine ⟨_, (pss_one (ps_ret (pe_call (ok__law_choice M) (hr.mono (by decide)) rfl M.g__law_choice M.F__law_choice.kp M.b__law_choice .nil (passE rfl rfl rfl rfl) (pa_cons (pv 0) (pa_cons (pe_lst (pa_cons pe_str (pa_cons pe_str (pa_cons pe_str (pa_cons pe_str (pa_cons pe_str (pa_cons pe_str (pa_cons pe_str (pa_cons pe_str (pa_cons pe_str (pa_cons pe_str (pa_cons pe_str (pa_cons pe_str (pa_cons pe_non (pa_cons pe_int (pa_cons pe_bl (pa_cons (pe_tup (pa_cons pe_str pa_nil)) pa_nil))))))))))))))))) pa_nil))))), ?_⟩

  obtain ⟨b, rfl, B, k⟩ := h
  walk_at "rd"
  intro p hp
  have S4 : Same H (upd H p (.tup [V.str "+"])) := Same.put (Same.refl H) hp
  have hp4 : upd H p (.tup [V.str "+"]) p = some (.tup [V.str "+"]) := upd_same
  generalize upd H p (.tup [V.str "+"]) = H4 at *
  walk_at "rd"
  intro t ht
  have B5 := B.same S4
  have K5 := Kp.of (b := b) S4
  have Pr : ∀ v ∈ ([V.str "", V.str "add", V.str "dup", V.str "**", V.str "+ ", V.str " +", V.str "U<", V.str "u>", V.str ">", V.str "0 =", V.str "MOD", V.str "//", V.non, V.int 7, V.bl true, V.ref p] : List V), ∃ d, PD H4 v d ∧ okOp d = false := by
    intro v hv
    simp only [List.mem_cons, List.not_mem_nil, or_false] at hv
    rcases hv with rfl | rfl | rfl | rfl | rfl | rfl | rfl | rfl | rfl | rfl | rfl | rfl | rfl | rfl | rfl | rfl
    all_goals first
      | exact ⟨_, .str _ (by decide +kernel), by decide +kernel⟩
      | exact ⟨_, .int _, by decide +kernel⟩
      | exact ⟨_, .bl _, by decide +kernel⟩
      | exact ⟨_, .non, by decide +kernel⟩
      | exact ⟨_, .tupS hp4 (by decide +kernel), by decide +kernel⟩
  walk_at "rd"
  obtain ⟨ob, hob⟩ := B5.some
  refine ⟨(ne_of_none hob ht).symm, B5.put ht, fun i v H6 hi B6 k6 => ?_⟩
  obtain ⟨d, hd, hn⟩ := Pr v (get_mem hi)
  exact k v d H6 ((hd.same (Same.put (Same.refl H4) ht)).kp (B5.put ht) k6) hn B6 (K5.trans (Kp.trans (Kp.put Kp.refl ht) k6))

end
end K01
namespace K01
open PySem PySem.Spec PyProof.Rows L2 My
section
variable {P : Program} {w : World} {K : PySem.W.Frag} {mg : Str → Option Value} {base : Heap}

theorem sig {F : L2.St → Hp → Prop} {σ σ' : L2.St} {H : Hp} (h : σ = σ') (q : F σ' H) : F σ H := by rw [h]; exact q
theorem asg_i {te : TE} {g : TG} {D : Ends} {σ : L2.St} {H : Hp} (h : te σ H fun x H1 => g x σ H1 D.nx) : tAsg te g D σ H := h
theorem lst_i {t : TA} {σ : L2.St} {H : Hp} {Q : VK} (h : t σ H fun xs H1 => xs.length ≤ sizeLine ∧ ∀ p, H1 p = none → Q (.ref p) (upd H1 p (.lst xs))) : tLst t σ H Q := h
def CaseOk (H : Hp) (c : V) : Prop := ∃ (p : Addr) (x y : V) (d : PyData) (l u : Addr) (xs : List V) (k : Str) (v : V) (dv : PyData), c = .ref p ∧ H p = some (.tup [x, y, .ref l, .ref u]) ∧ H l = some (.lst xs) ∧ H u = some (.tup [.str k, v]) ∧
  Pl H x ∧ PD H y d ∧ (∀ a ∈ xs, Pl H a) ∧ xs.length ≤ 3 ∧ nm (wk x y d xs) = k ∧ vl (wk x y d xs) = v ∧ PD H v dv
theorem CaseOk.same {H H' : Hp} {c : V} (h : CaseOk H c) (s : Same H H') : CaseOk H' c := by
  obtain ⟨p, x, y, d, l, u, xs, k, v, dv, e, h1, h2, h3, h4, h5, h6, h7, h8, h9, h10⟩ := h
  exact ⟨p, x, y, d, l, u, xs, k, v, dv, e, s _ _ h1, s _ _ h2, s _ _ h3, h4.same s, h5.same s, fun a ha => (h6 a ha).same s, h7, h8, h9, h10.same s⟩
abbrev spRef : Sp := Sp1 fun x H Q _ => ∃ (b : Addr), x = .ref b ∧ BagAt H b ∧ ∀ H', Q (.bl true) H'
theorem all_add {P : V → Prop} {acc : List V} {c : V} (h : ∀ v ∈ acc, P v) (hc : P c) : ∀ v ∈ acc ++ [c], P v := fun v hv => (List.mem_append.mp hv).elim (h v) fun e => by rw [List.mem_singleton.mp e]; exact hc
section
variable {x y wv : V} {d : PyData} {o : Str} {w : Int} {xs : List V}
theorem wk_bw (h : isW x = false) : wk x y d xs = .bw x := by unfold wk; rw [if_pos h]
theorem wk_bo (h : isW x = true) (h2 : okOp d = false) : wk x y d xs = .bo y := by unfold wk; rw [if_neg (by rw [h]; decide), if_pos h2]
theorem wk_in (hw : Wd w) (ha : Acts o) : wk (.int w) (.str o) (.str o) xs = if xs.length ≠ ln o then .bn .non else match xs.find? (fun v => !isN w v) with | some v => .bn v | none => match rs w o (xs.map iw) with | some r => .told r | none => .bz (xs.headD .non) := by
  unfold wk
  rw [if_neg (by rw [isW_int hw]; decide), if_neg (by rw [(acts_ok ha).1]; decide)]
  rfl
theorem wk_len (hw : Wd w) (ha : Acts o) (h : xs.length ≠ ln o) : wk (.int w) (.str o) (.str o) xs = .bn .non := by rw [wk_in hw ha, if_pos h]
theorem wk_bn (hw : Wd w) (ha : Acts o) (h : xs.length = ln o) (hf : xs.find? (fun v => !isN w v) = some wv) : wk (.int w) (.str o) (.str o) xs = .bn wv := by rw [wk_in hw ha, if_neg (fun z => z h), hf]
theorem wk_bz {n : Int} (hw : Wd w) (ha : Acts o) (hl : ln o = 2) (hd : DvOp o) (hn : InR w n) : wk (.int w) (.str o) (.str o) [.int n, .int 0] = .bz (.int n) := by
  have h0 : InR w 0 := by
    have := hf_pos hw
    unfold InR; omega
  have e := wk_num (ns := [n, 0]) hw ha (fun m hm => by
    rcases List.mem_cons.mp hm with hm | hm
    · rw [hm]; exact hn
    · rw [List.mem_singleton.mp hm]; exact h0) (by rw [hl]; rfl)
  have e2 : rs w o [n, 0] = none := by
    show (if DvOp o ∧ (0 : Int) = 0 then none else some (wrapI w (two w o n 0))) = none
    rw [if_pos ⟨hd, rfl⟩]
  rw [e2] at e
  exact e
end

theorem body_ok {D : Ends} {σ : L2.St} {H : Hp} {E : XK} {c : V} (hl : σ.length = 12) (C : CaseOk H c) (hn : ∀ H3, Same H H3 → D.nx (σ.set 11 (some c)) H3) :
    gName 11 c σ H fun σ2 H2 => tIfS (tNot (tB (tCall spSame [] E (tCons (tCall spAsked [] E (tCons (tOp (rIxT K) (tVar 11) (tC (V.int 0))) (tCons (tOp (rIxT K) (tVar 11) (tC (V.int 1))) (tCons (tOp (rIxT K) (tVar 11) (tC (V.int 2))) tNil)))) (tCons (tOp (rIxT K) (tVar 11) (tC (V.int 3))) tNil))))) (tRet (tC (V.bl false))) tNext D σ2 H2 := by
  obtain ⟨p, x, y, d, l, u, xs, kd, vd, dv, rfl, h1, h2, h3, h4, h5, h6, h7, h8, h9, h10⟩ := C
  have hv : (σ.set 11 (some (.ref p)))[11]? = some (some (.ref p)) := by
    rw [List.getElem?_set]
    simp [hl]
  have hn' : ∀ H3, Same H H3 → D.nx (σ.set 11 (some (.ref p))) H3 := hn
  clear hn
  show tIfS _ _ _ D (σ.set 11 (some (.ref p))) H
  generalize σ.set 11 (some (.ref p)) = σ2 at hv hn' ⊢
  refine ⟨_, hv, p, _, 0, x, rfl, rfl, SqT.of h1, rfl, ?_⟩
  refine ⟨_, hv, p, _, 1, y, rfl, rfl, SqT.of h1, rfl, ?_⟩
  refine ⟨_, hv, p, _, 2, .ref l, rfl, rfl, SqT.of h1, rfl, ?_⟩
  refine ⟨_, _, _, rfl, d, l, xs, rfl, h2, h4, h5, h6, h7, fun t H3 ht s3 => ?_⟩
  rw [h8, h9] at ht
  refine ⟨_, hv, p, _, 3, .ref u, rfl, rfl, SqT.of (s3 _ _ h1), rfl, ?_⟩
  refine ⟨_, _, rfl, t, u, kd, vd, dv, rfl, rfl, ht, s3 _ _ h3, h10.same s3, ?_⟩
  refine ⟨true, rfl, ?_⟩
  exact hn' _ s3

theorem ok__law_refused (M : TX K mg) : FnOk P w K mg base (L2.CX P w) 9 M.f__law_refused M.d__law_refused ["_law_bag_here"] (spRef) := by
  have sc := sc__law_refused
  refine M.F__law_refused.okX sc (fun vs H Q E h => Sp1_len h) (fun cdv A outer s H vs Q E hr h => ?_)
  obtain ⟨x0, rfl, h⟩ := h
  have hu := hu_of hr
  have hu64 := hr.units
  refine ⟨_, (pss_cons (ps_set (i := 1) sc.nd rfl (Or.inl rfl) (pe_call (ok__law_choice M) (hr.mono (by decide)) rfl M.g__law_choice M.F__law_choice.kp M.b__law_choice .nil (passE rfl rfl rfl rfl) (pa_cons (pv 0) (pa_cons (pe_lst (pa_cons pe_int (pa_cons pe_int (pa_cons pe_int pa_nil)))) pa_nil))))
    (pss_cons (ps_set (i := 2) sc.nd rfl (Or.inl rfl) (pe_call (ok__law_choice M) (hr.mono (by decide)) rfl M.g__law_choice M.F__law_choice.kp M.b__law_choice .nil (passE rfl rfl rfl rfl) (pa_cons (pv 0) (pa_cons (pe_lst (pa_cons pe_str (pa_cons pe_str (pa_cons pe_str (pa_cons pe_str (pa_cons pe_str (pa_cons pe_str (pa_cons pe_str (pa_cons pe_str (pa_cons pe_str (pa_cons pe_str (pa_cons pe_str pa_nil)))))))))))) pa_nil))))
    (pss_cons (ps_set (i := 3) sc.nd rfl (Or.inl rfl) (pe_call (ok__law_choice M) (hr.mono (by decide)) rfl M.g__law_choice M.F__law_choice.kp M.b__law_choice .nil (passE rfl rfl rfl rfl) (pa_cons (pv 0) (pa_cons (pe_lst (pa_cons pe_str (pa_cons pe_str pa_nil))) pa_nil))))
    (pss_cons (ps_set (i := 4) sc.nd rfl (Or.inl rfl) (pe_call (ok__law_num M) (hr.mono (by decide)) rfl M.g__law_num M.F__law_num.kp M.b__law_num .nil (passE rfl rfl rfl rfl) (pa_cons (pv 0) (pa_cons (pv 1) pa_nil))))
    (pss_cons (ps_set (i := 5) sc.nd rfl (Or.inl rfl) (pe_call (ok__law_num M) (hr.mono (by decide)) rfl M.g__law_num M.F__law_num.kp M.b__law_num .nil (passE rfl rfl rfl rfl) (pa_cons (pv 0) (pa_cons (pv 1) pa_nil))))
    (pss_cons (ps_set (i := 6) sc.nd rfl (Or.inl rfl) (pe_call (ok__law_odd_number M) (hr.mono (by decide)) rfl M.g__law_odd_number M.F__law_odd_number.kp M.b__law_odd_number .nil (passE rfl rfl rfl rfl) (pa_cons (pv 0) (pa_cons (pv 1) pa_nil))))
    (pss_cons (ps_set (i := 7) sc.nd rfl (Or.inl rfl) (pe_call (ok__law_odd_number M) (hr.mono (by decide)) rfl M.g__law_odd_number M.F__law_odd_number.kp M.b__law_odd_number .nil (passE rfl rfl rfl rfl) (pa_cons (pv 0) (pa_cons (pv 1) pa_nil))))
    (pss_cons (ps_set (i := 8) sc.nd rfl (Or.inl rfl) (pe_call (ok__law_odd_width M) (hr.mono (by decide)) rfl M.g__law_odd_width M.F__law_odd_width.kp M.b__law_odd_width .nil (passE rfl rfl rfl rfl) (pa_cons (pv 0) pa_nil)))
    (pss_cons (ps_set (i := 9) sc.nd rfl (Or.inl rfl) (pe_call (ok__law_odd_op M) (hr.mono (by decide)) rfl M.g__law_odd_op M.F__law_odd_op.kp M.b__law_odd_op .nil (passE rfl rfl rfl rfl) (pa_cons (pv 0) pa_nil)))
    (pss_cons (ps_set (i := 10) sc.nd rfl (Or.inl rfl) (pe_lst (pa_cons (pe_tup (pa_cons (pv 8) (pa_cons (pv 2) (pa_cons (pe_lst (pa_cons (pv 4) (pa_cons (pv 5) pa_nil))) (pa_cons (pe_tup (pa_cons pe_str (pa_cons (pv 8) pa_nil))) pa_nil))))) (pa_cons (pe_tup (pa_cons (pv 8) (pa_cons (pv 9) (pa_cons (pe_lst (pa_cons (pv 6) pa_nil)) (pa_cons (pe_tup (pa_cons pe_str (pa_cons (pv 8) pa_nil))) pa_nil))))) (pa_cons (pe_tup (pa_cons (pv 1) (pa_cons (pv 9) (pa_cons (pe_lst (pa_cons (pv 4) (pa_cons (pv 5) pa_nil))) (pa_cons (pe_tup (pa_cons pe_str (pa_cons (pv 9) pa_nil))) pa_nil))))) (pa_cons (pe_tup (pa_cons (pv 1) (pa_cons (pv 9) (pa_cons (pe_lst (pa_cons (pv 6) pa_nil)) (pa_cons (pe_tup (pa_cons pe_str (pa_cons (pv 9) pa_nil))) pa_nil))))) (pa_cons (pe_tup (pa_cons (pv 1) (pa_cons (pv 2) (pa_cons (pe_lst pa_nil) (pa_cons (pe_tup (pa_cons pe_str (pa_cons pe_non pa_nil))) pa_nil))))) (pa_cons (pe_tup (pa_cons (pv 1) (pa_cons (pv 2) (pa_cons (pe_lst (pa_cons (pv 6) pa_nil)) (pa_cons (pe_tup (pa_cons pe_str (pa_cons pe_non pa_nil))) pa_nil))))) (pa_cons (pe_tup (pa_cons (pv 1) (pa_cons (pv 2) (pa_cons (pe_lst (pa_cons (pv 4) (pa_cons (pv 5) (pa_cons (pv 4) pa_nil)))) (pa_cons (pe_tup (pa_cons pe_str (pa_cons pe_non pa_nil))) pa_nil))))) (pa_cons (pe_tup (pa_cons (pv 1) (pa_cons (pv 3) (pa_cons (pe_lst pa_nil) (pa_cons (pe_tup (pa_cons pe_str (pa_cons pe_non pa_nil))) pa_nil))))) (pa_cons (pe_tup (pa_cons (pv 1) (pa_cons (pv 3) (pa_cons (pe_lst (pa_cons (pv 4) (pa_cons (pv 6) pa_nil))) (pa_cons (pe_tup (pa_cons pe_str (pa_cons pe_non pa_nil))) pa_nil))))) (pa_cons (pe_tup (pa_cons (pv 1) (pa_cons (pv 3) (pa_cons (pe_lst (pa_cons (pv 6) (pa_cons (pv 7) (pa_cons (pv 4) pa_nil)))) (pa_cons (pe_tup (pa_cons pe_str (pa_cons pe_non pa_nil))) pa_nil))))) (pa_cons (pe_tup (pa_cons (pv 1) (pa_cons (pv 3) (pa_cons (pe_lst (pa_cons (pv 6) pa_nil)) (pa_cons (pe_tup (pa_cons pe_str (pa_cons (pv 6) pa_nil))) pa_nil))))) (pa_cons (pe_tup (pa_cons (pv 1) (pa_cons (pv 2) (pa_cons (pe_lst (pa_cons (pv 6) (pa_cons (pv 7) pa_nil))) (pa_cons (pe_tup (pa_cons pe_str (pa_cons (pv 6) pa_nil))) pa_nil))))) (pa_cons (pe_tup (pa_cons (pv 1) (pa_cons (pv 2) (pa_cons (pe_lst (pa_cons (pv 4) (pa_cons (pv 7) pa_nil))) (pa_cons (pe_tup (pa_cons pe_str (pa_cons (pv 7) pa_nil))) pa_nil))))) (pa_cons (pe_tup (pa_cons (pv 1) (pa_cons pe_str (pa_cons (pe_lst (pa_cons (pv 6) (pa_cons pe_int pa_nil))) (pa_cons (pe_tup (pa_cons pe_str (pa_cons (pv 6) pa_nil))) pa_nil))))) (pa_cons (pe_tup (pa_cons (pv 1) (pa_cons pe_str (pa_cons (pe_lst (pa_cons (pv 4) (pa_cons pe_int pa_nil))) (pa_cons (pe_tup (pa_cons pe_str (pa_cons (pv 4) pa_nil))) pa_nil))))) (pa_cons (pe_tup (pa_cons (pv 1) (pa_cons pe_str (pa_cons (pe_lst (pa_cons (pv 5) (pa_cons pe_int pa_nil))) (pa_cons (pe_tup (pa_cons pe_str (pa_cons (pv 5) pa_nil))) pa_nil))))) pa_nil))))))))))))))))))
    (pss_cons (ps_for (passes_of rfl) rfl (pi_listK K (pi_list (pv 10))) (pg_name (i := 11) sc.nd rfl (Or.inl rfl))
      (pss_one (ps_if (pt_not (pt_val (pe_call (ok__law_same M) (hr.mono (by decide)) rfl M.g__law_same M.F__law_same.kp M.b__law_same .nil (passE rfl rfl rfl rfl) (pa_cons (pe_call (ok__law_asked M) (hr.mono (by decide)) rfl M.g__law_asked M.F__law_asked.kp M.b__law_asked .nil (passE rfl rfl rfl rfl) (pa_cons (pe_ix (ix_tupK K) (pv 11) pe_int (fun _ _ => rfl)) (pa_cons (pe_ix (ix_tupK K) (pv 11) pe_int (fun _ _ => rfl)) (pa_cons (pe_ix (ix_tupK K) (pv 11) pe_int (fun _ _ => rfl)) pa_nil)))) (pa_cons (pe_ix (ix_tupK K) (pv 11) pe_int (fun _ _ => rfl)) pa_nil)))))
        (pss_one (ps_ret pe_bl))
        pss_nil)))
    (pss_one (ps_ret pe_bl))))))))))))), ?_⟩
  obtain ⟨b, rfl, B, k⟩ := h
  have hdv : Acts "/" ∧ PyData.strOk "/" = true := ⟨by unfold Acts; simp, by decide +kernel⟩
  have hmd : Acts "mod" ∧ PyData.strOk "mod" = true := ⟨by unfold Acts; simp, by decide +kernel⟩
  refine seq_gen fun R1 r1 => ?_
  walk_at "rd"
  intro t1 ht1
  walk_at "rd"
  obtain ⟨ob1, hob1⟩ := B.some
  refine ⟨(ne_of_none hob1 ht1).symm, B.put ht1, fun i1 v1 H1 hi1 B1 k1 => ?_⟩
  have m1 := get_mem hi1
  simp only [List.mem_cons, List.not_mem_nil, or_false] at m1
  obtain ⟨w, rfl, hw⟩ : ∃ w, v1 = V.int w ∧ Wd w := by
    rcases m1 with rfl | rfl | rfl
    · exact ⟨_, rfl, .inl rfl⟩
    · exact ⟨_, rfl, .inr (.inl rfl)⟩
    · exact ⟨_, rfl, .inr (.inr rfl)⟩
  refine r1 _ _ ?_
  refine seq_gen fun R2 r2 => ?_
  walk_at "rd"
  intro t2 ht2
  walk_at "rd"
  obtain ⟨ob2, hob2⟩ := B1.some
  refine ⟨(ne_of_none hob2 ht2).symm, B1.put ht2, fun i2 v2 H2 hi2 B2 k2 => ?_⟩
  have m2 := get_mem hi2
  simp only [List.mem_cons, List.not_mem_nil, or_false] at m2
  obtain ⟨op, rfl, hop⟩ : ∃ op, v2 = V.str op ∧ Acts op ∧ PyData.strOk op = true ∧ ln op = 2 := by
    rcases m2 with rfl | rfl | rfl | rfl | rfl | rfl | rfl | rfl | rfl | rfl | rfl
    all_goals exact ⟨_, rfl, by unfold Acts; simp, by decide +kernel, by decide⟩
  refine r2 _ _ ?_
  refine seq_gen fun R3 r3 => ?_
  walk_at "rd"
  intro t3 ht3
  walk_at "rd"
  obtain ⟨ob3, hob3⟩ := B2.some
  refine ⟨(ne_of_none hob3 ht3).symm, B2.put ht3, fun i3 v3 H3 hi3 B3 k3 => ?_⟩
  have m3 := get_mem hi3
  simp only [List.mem_cons, List.not_mem_nil, or_false] at m3
  obtain ⟨one, rfl, hone⟩ : ∃ op, v3 = V.str op ∧ Acts op ∧ PyData.strOk op = true ∧ ln op = 1 := by
    rcases m3 with rfl | rfl
    all_goals exact ⟨_, rfl, by unfold Acts; simp, by decide +kernel, by decide⟩
  refine r3 _ _ ?_
  refine seq_gen fun R4 r4 => ?_
  walk_at "rd"
  intro g H4 hg B4 k4
  refine r4 _ _ ?_
  refine seq_gen fun R5 r5 => ?_
  walk_at "rd"
  intro o H5 ho B5 k5
  refine r5 _ _ ?_
  refine seq_gen fun R6 r6 => ?_
  walk_at "rd"
  intro bad dbad H6 hbad nbad B6 k6
  refine r6 _ _ ?_
  refine seq_gen fun R7 r7 => ?_
  walk_at "rd"
  intro worse dworse H7 hworse nworse B7 k7
  refine r7 _ _ ?_
  have hbad := hbad.kp B6 k7
  refine seq_gen fun R8 r8 => ?_
  walk_at "rd"
  intro wide dwide H8 hwide nwide B8 k8
  refine r8 _ _ ?_
  have hbad := hbad.kp B7 k8
  have hworse := hworse.kp B7 k8
  refine seq_gen fun R9 r9 => ?_
  walk_at "rd"
  intro odd dodd G0 hodd nodd B9 k9
  refine r9 _ _ ?_
  have hbad := hbad.kp B8 k9
  have hworse := hworse.kp B8 k9
  have hwide := hwide.kp B8 k9
  have T0 : Same G0 G0 := Same.refl _
  have A0 : ∀ v ∈ ([] : List V), CaseOk G0 v := fun v hv => nomatch hv
  refine sig (σ' := [some (.ref b), some (.int w), some (.str op), some (.str one), some (.int g), some (.int o), some bad, some worse, some wide, some odd, none, none]) rfl ?_
  refine seq_gen fun R10 r10 => ?_
  refine asg_i (lst_i ?_)
  refine cons_gen fun Q0 q0 => ?_
  walk_at "rd"
  intro l0 hl0
  have s1 : Same G0 (upd G0 l0 (.lst [V.int g, V.int o])) := Same.put (Same.refl _) hl0
  have al0 : upd G0 l0 (.lst [V.int g, V.int o]) l0 = some (.lst [V.int g, V.int o]) := upd_same
  generalize upd G0 l0 (.lst [V.int g, V.int o]) = G1 at s1 al0 ⊢
  have T1 : Same G0 G1 := T0.trans s1
  walk_at "rd"
  intro u0 hu0
  have s2 : Same G1 (upd G1 u0 (.tup [V.str "BadWidth", wide])) := Same.put (Same.refl _) hu0
  have au0 : upd G1 u0 (.tup [V.str "BadWidth", wide]) u0 = some (.tup [V.str "BadWidth", wide]) := upd_same
  generalize upd G1 u0 (.tup [V.str "BadWidth", wide]) = G2 at s2 au0 ⊢
  have T2 : Same G0 G2 := T1.trans s2
  walk_at "rd"
  intro p0 hp0
  have s3 : Same G2 (upd G2 p0 (.tup [wide, V.str op, V.ref l0, V.ref u0])) := Same.put (Same.refl _) hp0
  have ap0 : upd G2 p0 (.tup [wide, V.str op, V.ref l0, V.ref u0]) p0 = some (.tup [wide, V.str op, V.ref l0, V.ref u0]) := upd_same
  generalize upd G2 p0 (.tup [wide, V.str op, V.ref l0, V.ref u0]) = G3 at s3 ap0 ⊢
  have T3 : Same G0 G3 := T2.trans s3
  have C0 : CaseOk G3 (.ref p0) := by
    have S := T3
    have e : wk (wide) (V.str op) (PyData.str op) [V.int g, V.int o] = _ := wk_bw nwide
    refine ⟨p0, _, _, PyData.str op, l0, u0, _, _, _, dwide, rfl, ap0, s3 _ _ (s2 _ _ al0), s3 _ _ au0, (hwide.same S).pl, PD.str op hop.2.1, fun a ha => by
      simp only [List.mem_cons, List.not_mem_nil, or_false] at ha
      rcases ha with rfl | rfl
      all_goals first | exact .int _ | exact (hbad.same S).pl | exact (hworse.same S).pl, Nat.le_of_ble_eq_true rfl, by rw [e]; rfl, by rw [e]; rfl, hwide.same S⟩
  have A1 := all_add (fun v hv => CaseOk.same (A0 v hv) ((s1.trans s2).trans s3)) C0
  clear C0 al0 au0 ap0 hl0 hu0 hp0 s3 s2 s1 T2 T1 A0
  refine q0 _ _ ?_
  clear q0
  refine cons_gen fun Q1 q1 => ?_
  walk_at "rd"
  intro l1 hl1
  have s4 : Same G3 (upd G3 l1 (.lst [bad])) := Same.put (Same.refl _) hl1
  have al1 : upd G3 l1 (.lst [bad]) l1 = some (.lst [bad]) := upd_same
  generalize upd G3 l1 (.lst [bad]) = G4 at s4 al1 ⊢
  have T4 : Same G0 G4 := T3.trans s4
  walk_at "rd"
  intro u1 hu1
  have s5 : Same G4 (upd G4 u1 (.tup [V.str "BadWidth", wide])) := Same.put (Same.refl _) hu1
  have au1 : upd G4 u1 (.tup [V.str "BadWidth", wide]) u1 = some (.tup [V.str "BadWidth", wide]) := upd_same
  generalize upd G4 u1 (.tup [V.str "BadWidth", wide]) = G5 at s5 au1 ⊢
  have T5 : Same G0 G5 := T4.trans s5
  walk_at "rd"
  intro p1 hp1
  have s6 : Same G5 (upd G5 p1 (.tup [wide, odd, V.ref l1, V.ref u1])) := Same.put (Same.refl _) hp1
  have ap1 : upd G5 p1 (.tup [wide, odd, V.ref l1, V.ref u1]) p1 = some (.tup [wide, odd, V.ref l1, V.ref u1]) := upd_same
  generalize upd G5 p1 (.tup [wide, odd, V.ref l1, V.ref u1]) = G6 at s6 ap1 ⊢
  have T6 : Same G0 G6 := T5.trans s6
  have C1 : CaseOk G6 (.ref p1) := by
    have S := T6
    have e : wk (wide) (odd) (dodd) [bad] = _ := wk_bw nwide
    refine ⟨p1, _, _, dodd, l1, u1, _, _, _, dwide, rfl, ap1, s6 _ _ (s5 _ _ al1), s6 _ _ au1, (hwide.same S).pl, hodd.same S, fun a ha => by
      simp only [List.mem_cons, List.not_mem_nil, or_false] at ha
      subst ha
      all_goals first | exact .int _ | exact (hbad.same S).pl | exact (hworse.same S).pl, Nat.le_of_ble_eq_true rfl, by rw [e]; rfl, by rw [e]; rfl, hwide.same S⟩
  have A2 := all_add (fun v hv => CaseOk.same (A1 v hv) ((s4.trans s5).trans s6)) C1
  clear C1 al1 au1 ap1 hl1 hu1 hp1 s6 s5 s4 T5 T4 A1
  refine q1 _ _ ?_
  clear q1
  refine cons_gen fun Q2 q2 => ?_
  walk_at "rd"
  intro l2 hl2
  have s7 : Same G6 (upd G6 l2 (.lst [V.int g, V.int o])) := Same.put (Same.refl _) hl2
  have al2 : upd G6 l2 (.lst [V.int g, V.int o]) l2 = some (.lst [V.int g, V.int o]) := upd_same
  generalize upd G6 l2 (.lst [V.int g, V.int o]) = G7 at s7 al2 ⊢
  have T7 : Same G0 G7 := T6.trans s7
  walk_at "rd"
  intro u2 hu2
  have s8 : Same G7 (upd G7 u2 (.tup [V.str "BadOp", odd])) := Same.put (Same.refl _) hu2
  have au2 : upd G7 u2 (.tup [V.str "BadOp", odd]) u2 = some (.tup [V.str "BadOp", odd]) := upd_same
  generalize upd G7 u2 (.tup [V.str "BadOp", odd]) = G8 at s8 au2 ⊢
  have T8 : Same G0 G8 := T7.trans s8
  walk_at "rd"
  intro p2 hp2
  have s9 : Same G8 (upd G8 p2 (.tup [V.int w, odd, V.ref l2, V.ref u2])) := Same.put (Same.refl _) hp2
  have ap2 : upd G8 p2 (.tup [V.int w, odd, V.ref l2, V.ref u2]) p2 = some (.tup [V.int w, odd, V.ref l2, V.ref u2]) := upd_same
  generalize upd G8 p2 (.tup [V.int w, odd, V.ref l2, V.ref u2]) = G9 at s9 ap2 ⊢
  have T9 : Same G0 G9 := T8.trans s9
  have C2 : CaseOk G9 (.ref p2) := by
    have S := T9
    have e : wk (V.int w) (odd) (dodd) [V.int g, V.int o] = _ := wk_bo (isW_int hw) nodd
    refine ⟨p2, _, _, dodd, l2, u2, _, _, _, dodd, rfl, ap2, s9 _ _ (s8 _ _ al2), s9 _ _ au2, (PD.int w).pl, hodd.same S, fun a ha => by
      simp only [List.mem_cons, List.not_mem_nil, or_false] at ha
      rcases ha with rfl | rfl
      all_goals first | exact .int _ | exact (hbad.same S).pl | exact (hworse.same S).pl, Nat.le_of_ble_eq_true rfl, by rw [e]; rfl, by rw [e]; rfl, hodd.same S⟩
  have A3 := all_add (fun v hv => CaseOk.same (A2 v hv) ((s7.trans s8).trans s9)) C2
  clear C2 al2 au2 ap2 hl2 hu2 hp2 s9 s8 s7 T8 T7 A2
  refine q2 _ _ ?_
  clear q2
  refine cons_gen fun Q3 q3 => ?_
  walk_at "rd"
  intro l3 hl3
  have s10 : Same G9 (upd G9 l3 (.lst [bad])) := Same.put (Same.refl _) hl3
  have al3 : upd G9 l3 (.lst [bad]) l3 = some (.lst [bad]) := upd_same
  generalize upd G9 l3 (.lst [bad]) = G10 at s10 al3 ⊢
  have T10 : Same G0 G10 := T9.trans s10
  walk_at "rd"
  intro u3 hu3
  have s11 : Same G10 (upd G10 u3 (.tup [V.str "BadOp", odd])) := Same.put (Same.refl _) hu3
  have au3 : upd G10 u3 (.tup [V.str "BadOp", odd]) u3 = some (.tup [V.str "BadOp", odd]) := upd_same
  generalize upd G10 u3 (.tup [V.str "BadOp", odd]) = G11 at s11 au3 ⊢
  have T11 : Same G0 G11 := T10.trans s11
  walk_at "rd"
  intro p3 hp3
  have s12 : Same G11 (upd G11 p3 (.tup [V.int w, odd, V.ref l3, V.ref u3])) := Same.put (Same.refl _) hp3
  have ap3 : upd G11 p3 (.tup [V.int w, odd, V.ref l3, V.ref u3]) p3 = some (.tup [V.int w, odd, V.ref l3, V.ref u3]) := upd_same
  generalize upd G11 p3 (.tup [V.int w, odd, V.ref l3, V.ref u3]) = G12 at s12 ap3 ⊢
  have T12 : Same G0 G12 := T11.trans s12
  have C3 : CaseOk G12 (.ref p3) := by
    have S := T12
    have e : wk (V.int w) (odd) (dodd) [bad] = _ := wk_bo (isW_int hw) nodd
    refine ⟨p3, _, _, dodd, l3, u3, _, _, _, dodd, rfl, ap3, s12 _ _ (s11 _ _ al3), s12 _ _ au3, (PD.int w).pl, hodd.same S, fun a ha => by
      simp only [List.mem_cons, List.not_mem_nil, or_false] at ha
      subst ha
      all_goals first | exact .int _ | exact (hbad.same S).pl | exact (hworse.same S).pl, Nat.le_of_ble_eq_true rfl, by rw [e]; rfl, by rw [e]; rfl, hodd.same S⟩
  have A4 := all_add (fun v hv => CaseOk.same (A3 v hv) ((s10.trans s11).trans s12)) C3
  clear C3 al3 au3 ap3 hl3 hu3 hp3 s12 s11 s10 T11 T10 A3
  refine q3 _ _ ?_
  clear q3
  refine cons_gen fun Q4 q4 => ?_
  walk_at "rd"
  intro l4 hl4
  have s13 : Same G12 (upd G12 l4 (.lst ([] : List V))) := Same.put (Same.refl _) hl4
  have al4 : upd G12 l4 (.lst ([] : List V)) l4 = some (.lst ([] : List V)) := upd_same
  generalize upd G12 l4 (.lst ([] : List V)) = G13 at s13 al4 ⊢
  have T13 : Same G0 G13 := T12.trans s13
  walk_at "rd"
  intro u4 hu4
  have s14 : Same G13 (upd G13 u4 (.tup [V.str "BadNumber", V.non])) := Same.put (Same.refl _) hu4
  have au4 : upd G13 u4 (.tup [V.str "BadNumber", V.non]) u4 = some (.tup [V.str "BadNumber", V.non]) := upd_same
  generalize upd G13 u4 (.tup [V.str "BadNumber", V.non]) = G14 at s14 au4 ⊢
  have T14 : Same G0 G14 := T13.trans s14
  walk_at "rd"
  intro p4 hp4
  have s15 : Same G14 (upd G14 p4 (.tup [V.int w, V.str op, V.ref l4, V.ref u4])) := Same.put (Same.refl _) hp4
  have ap4 : upd G14 p4 (.tup [V.int w, V.str op, V.ref l4, V.ref u4]) p4 = some (.tup [V.int w, V.str op, V.ref l4, V.ref u4]) := upd_same
  generalize upd G14 p4 (.tup [V.int w, V.str op, V.ref l4, V.ref u4]) = G15 at s15 ap4 ⊢
  have T15 : Same G0 G15 := T14.trans s15
  have C4 : CaseOk G15 (.ref p4) := by
    have S := T15
    have e : wk (V.int w) (V.str op) (PyData.str op) ([] : List V) = _ := wk_len hw hop.1 (by rw [hop.2.2]; decide)
    refine ⟨p4, _, _, PyData.str op, l4, u4, _, _, _, PyData.none, rfl, ap4, s15 _ _ (s14 _ _ al4), s15 _ _ au4, (PD.int w).pl, PD.str op hop.2.1, (fun a ha => nomatch ha), Nat.le_of_ble_eq_true rfl, by rw [e]; rfl, by rw [e]; rfl, PD.non⟩
  have A5 := all_add (fun v hv => CaseOk.same (A4 v hv) ((s13.trans s14).trans s15)) C4
  clear C4 al4 au4 ap4 hl4 hu4 hp4 s15 s14 s13 T14 T13 A4
  refine q4 _ _ ?_
  clear q4
  refine cons_gen fun Q5 q5 => ?_
  walk_at "rd"
  intro l5 hl5
  have s16 : Same G15 (upd G15 l5 (.lst [bad])) := Same.put (Same.refl _) hl5
  have al5 : upd G15 l5 (.lst [bad]) l5 = some (.lst [bad]) := upd_same
  generalize upd G15 l5 (.lst [bad]) = G16 at s16 al5 ⊢
  have T16 : Same G0 G16 := T15.trans s16
  walk_at "rd"
  intro u5 hu5
  have s17 : Same G16 (upd G16 u5 (.tup [V.str "BadNumber", V.non])) := Same.put (Same.refl _) hu5
  have au5 : upd G16 u5 (.tup [V.str "BadNumber", V.non]) u5 = some (.tup [V.str "BadNumber", V.non]) := upd_same
  generalize upd G16 u5 (.tup [V.str "BadNumber", V.non]) = G17 at s17 au5 ⊢
  have T17 : Same G0 G17 := T16.trans s17
  walk_at "rd"
  intro p5 hp5
  have s18 : Same G17 (upd G17 p5 (.tup [V.int w, V.str op, V.ref l5, V.ref u5])) := Same.put (Same.refl _) hp5
  have ap5 : upd G17 p5 (.tup [V.int w, V.str op, V.ref l5, V.ref u5]) p5 = some (.tup [V.int w, V.str op, V.ref l5, V.ref u5]) := upd_same
  generalize upd G17 p5 (.tup [V.int w, V.str op, V.ref l5, V.ref u5]) = G18 at s18 ap5 ⊢
  have T18 : Same G0 G18 := T17.trans s18
  have C5 : CaseOk G18 (.ref p5) := by
    have S := T18
    have e : wk (V.int w) (V.str op) (PyData.str op) [bad] = _ := wk_len hw hop.1 (by rw [hop.2.2]; simp)
    refine ⟨p5, _, _, PyData.str op, l5, u5, _, _, _, PyData.none, rfl, ap5, s18 _ _ (s17 _ _ al5), s18 _ _ au5, (PD.int w).pl, PD.str op hop.2.1, fun a ha => by
      simp only [List.mem_cons, List.not_mem_nil, or_false] at ha
      subst ha
      all_goals first | exact .int _ | exact (hbad.same S).pl | exact (hworse.same S).pl, Nat.le_of_ble_eq_true rfl, by rw [e]; rfl, by rw [e]; rfl, PD.non⟩
  have A6 := all_add (fun v hv => CaseOk.same (A5 v hv) ((s16.trans s17).trans s18)) C5
  clear C5 al5 au5 ap5 hl5 hu5 hp5 s18 s17 s16 T17 T16 A5
  refine q5 _ _ ?_
  clear q5
  refine cons_gen fun Q6 q6 => ?_
  walk_at "rd"
  intro l6 hl6
  have s19 : Same G18 (upd G18 l6 (.lst [V.int g, V.int o, V.int g])) := Same.put (Same.refl _) hl6
  have al6 : upd G18 l6 (.lst [V.int g, V.int o, V.int g]) l6 = some (.lst [V.int g, V.int o, V.int g]) := upd_same
  generalize upd G18 l6 (.lst [V.int g, V.int o, V.int g]) = G19 at s19 al6 ⊢
  have T19 : Same G0 G19 := T18.trans s19
  walk_at "rd"
  intro u6 hu6
  have s20 : Same G19 (upd G19 u6 (.tup [V.str "BadNumber", V.non])) := Same.put (Same.refl _) hu6
  have au6 : upd G19 u6 (.tup [V.str "BadNumber", V.non]) u6 = some (.tup [V.str "BadNumber", V.non]) := upd_same
  generalize upd G19 u6 (.tup [V.str "BadNumber", V.non]) = G20 at s20 au6 ⊢
  have T20 : Same G0 G20 := T19.trans s20
  walk_at "rd"
  intro p6 hp6
  have s21 : Same G20 (upd G20 p6 (.tup [V.int w, V.str op, V.ref l6, V.ref u6])) := Same.put (Same.refl _) hp6
  have ap6 : upd G20 p6 (.tup [V.int w, V.str op, V.ref l6, V.ref u6]) p6 = some (.tup [V.int w, V.str op, V.ref l6, V.ref u6]) := upd_same
  generalize upd G20 p6 (.tup [V.int w, V.str op, V.ref l6, V.ref u6]) = G21 at s21 ap6 ⊢
  have T21 : Same G0 G21 := T20.trans s21
  have C6 : CaseOk G21 (.ref p6) := by
    have S := T21
    have e : wk (V.int w) (V.str op) (PyData.str op) [V.int g, V.int o, V.int g] = _ := wk_len hw hop.1 (by rw [hop.2.2]; simp)
    refine ⟨p6, _, _, PyData.str op, l6, u6, _, _, _, PyData.none, rfl, ap6, s21 _ _ (s20 _ _ al6), s21 _ _ au6, (PD.int w).pl, PD.str op hop.2.1, fun a ha => by
      simp only [List.mem_cons, List.not_mem_nil, or_false] at ha
      rcases ha with rfl | rfl | rfl
      all_goals first | exact .int _ | exact (hbad.same S).pl | exact (hworse.same S).pl, Nat.le_of_ble_eq_true rfl, by rw [e]; rfl, by rw [e]; rfl, PD.non⟩
  have A7 := all_add (fun v hv => CaseOk.same (A6 v hv) ((s19.trans s20).trans s21)) C6
  clear C6 al6 au6 ap6 hl6 hu6 hp6 s21 s20 s19 T20 T19 A6
  refine q6 _ _ ?_
  clear q6
  refine cons_gen fun Q7 q7 => ?_
  walk_at "rd"
  intro l7 hl7
  have s22 : Same G21 (upd G21 l7 (.lst ([] : List V))) := Same.put (Same.refl _) hl7
  have al7 : upd G21 l7 (.lst ([] : List V)) l7 = some (.lst ([] : List V)) := upd_same
  generalize upd G21 l7 (.lst ([] : List V)) = G22 at s22 al7 ⊢
  have T22 : Same G0 G22 := T21.trans s22
  walk_at "rd"
  intro u7 hu7
  have s23 : Same G22 (upd G22 u7 (.tup [V.str "BadNumber", V.non])) := Same.put (Same.refl _) hu7
  have au7 : upd G22 u7 (.tup [V.str "BadNumber", V.non]) u7 = some (.tup [V.str "BadNumber", V.non]) := upd_same
  generalize upd G22 u7 (.tup [V.str "BadNumber", V.non]) = G23 at s23 au7 ⊢
  have T23 : Same G0 G23 := T22.trans s23
  walk_at "rd"
  intro p7 hp7
  have s24 : Same G23 (upd G23 p7 (.tup [V.int w, V.str one, V.ref l7, V.ref u7])) := Same.put (Same.refl _) hp7
  have ap7 : upd G23 p7 (.tup [V.int w, V.str one, V.ref l7, V.ref u7]) p7 = some (.tup [V.int w, V.str one, V.ref l7, V.ref u7]) := upd_same
  generalize upd G23 p7 (.tup [V.int w, V.str one, V.ref l7, V.ref u7]) = G24 at s24 ap7 ⊢
  have T24 : Same G0 G24 := T23.trans s24
  have C7 : CaseOk G24 (.ref p7) := by
    have S := T24
    have e : wk (V.int w) (V.str one) (PyData.str one) ([] : List V) = _ := wk_len hw hone.1 (by rw [hone.2.2]; decide)
    refine ⟨p7, _, _, PyData.str one, l7, u7, _, _, _, PyData.none, rfl, ap7, s24 _ _ (s23 _ _ al7), s24 _ _ au7, (PD.int w).pl, PD.str one hone.2.1, (fun a ha => nomatch ha), Nat.le_of_ble_eq_true rfl, by rw [e]; rfl, by rw [e]; rfl, PD.non⟩
  have A8 := all_add (fun v hv => CaseOk.same (A7 v hv) ((s22.trans s23).trans s24)) C7
  clear C7 al7 au7 ap7 hl7 hu7 hp7 s24 s23 s22 T23 T22 A7
  refine q7 _ _ ?_
  clear q7
  refine cons_gen fun Q8 q8 => ?_
  walk_at "rd"
  intro l8 hl8
  have s25 : Same G24 (upd G24 l8 (.lst [V.int g, bad])) := Same.put (Same.refl _) hl8
  have al8 : upd G24 l8 (.lst [V.int g, bad]) l8 = some (.lst [V.int g, bad]) := upd_same
  generalize upd G24 l8 (.lst [V.int g, bad]) = G25 at s25 al8 ⊢
  have T25 : Same G0 G25 := T24.trans s25
  walk_at "rd"
  intro u8 hu8
  have s26 : Same G25 (upd G25 u8 (.tup [V.str "BadNumber", V.non])) := Same.put (Same.refl _) hu8
  have au8 : upd G25 u8 (.tup [V.str "BadNumber", V.non]) u8 = some (.tup [V.str "BadNumber", V.non]) := upd_same
  generalize upd G25 u8 (.tup [V.str "BadNumber", V.non]) = G26 at s26 au8 ⊢
  have T26 : Same G0 G26 := T25.trans s26
  walk_at "rd"
  intro p8 hp8
  have s27 : Same G26 (upd G26 p8 (.tup [V.int w, V.str one, V.ref l8, V.ref u8])) := Same.put (Same.refl _) hp8
  have ap8 : upd G26 p8 (.tup [V.int w, V.str one, V.ref l8, V.ref u8]) p8 = some (.tup [V.int w, V.str one, V.ref l8, V.ref u8]) := upd_same
  generalize upd G26 p8 (.tup [V.int w, V.str one, V.ref l8, V.ref u8]) = G27 at s27 ap8 ⊢
  have T27 : Same G0 G27 := T26.trans s27
  have C8 : CaseOk G27 (.ref p8) := by
    have S := T27
    have e : wk (V.int w) (V.str one) (PyData.str one) [V.int g, bad] = _ := wk_len hw hone.1 (by rw [hone.2.2]; simp)
    refine ⟨p8, _, _, PyData.str one, l8, u8, _, _, _, PyData.none, rfl, ap8, s27 _ _ (s26 _ _ al8), s27 _ _ au8, (PD.int w).pl, PD.str one hone.2.1, fun a ha => by
      simp only [List.mem_cons, List.not_mem_nil, or_false] at ha
      rcases ha with rfl | rfl
      all_goals first | exact .int _ | exact (hbad.same S).pl | exact (hworse.same S).pl, Nat.le_of_ble_eq_true rfl, by rw [e]; rfl, by rw [e]; rfl, PD.non⟩
  have A9 := all_add (fun v hv => CaseOk.same (A8 v hv) ((s25.trans s26).trans s27)) C8
  clear C8 al8 au8 ap8 hl8 hu8 hp8 s27 s26 s25 T26 T25 A8
  refine q8 _ _ ?_
  clear q8
  refine cons_gen fun Q9 q9 => ?_
  walk_at "rd"
  intro l9 hl9
  have s28 : Same G27 (upd G27 l9 (.lst [bad, worse, V.int g])) := Same.put (Same.refl _) hl9
  have al9 : upd G27 l9 (.lst [bad, worse, V.int g]) l9 = some (.lst [bad, worse, V.int g]) := upd_same
  generalize upd G27 l9 (.lst [bad, worse, V.int g]) = G28 at s28 al9 ⊢
  have T28 : Same G0 G28 := T27.trans s28
  walk_at "rd"
  intro u9 hu9
  have s29 : Same G28 (upd G28 u9 (.tup [V.str "BadNumber", V.non])) := Same.put (Same.refl _) hu9
  have au9 : upd G28 u9 (.tup [V.str "BadNumber", V.non]) u9 = some (.tup [V.str "BadNumber", V.non]) := upd_same
  generalize upd G28 u9 (.tup [V.str "BadNumber", V.non]) = G29 at s29 au9 ⊢
  have T29 : Same G0 G29 := T28.trans s29
  walk_at "rd"
  intro p9 hp9
  have s30 : Same G29 (upd G29 p9 (.tup [V.int w, V.str one, V.ref l9, V.ref u9])) := Same.put (Same.refl _) hp9
  have ap9 : upd G29 p9 (.tup [V.int w, V.str one, V.ref l9, V.ref u9]) p9 = some (.tup [V.int w, V.str one, V.ref l9, V.ref u9]) := upd_same
  generalize upd G29 p9 (.tup [V.int w, V.str one, V.ref l9, V.ref u9]) = G30 at s30 ap9 ⊢
  have T30 : Same G0 G30 := T29.trans s30
  have C9 : CaseOk G30 (.ref p9) := by
    have S := T30
    have e : wk (V.int w) (V.str one) (PyData.str one) [bad, worse, V.int g] = _ := wk_len hw hone.1 (by rw [hone.2.2]; simp)
    refine ⟨p9, _, _, PyData.str one, l9, u9, _, _, _, PyData.none, rfl, ap9, s30 _ _ (s29 _ _ al9), s30 _ _ au9, (PD.int w).pl, PD.str one hone.2.1, fun a ha => by
      simp only [List.mem_cons, List.not_mem_nil, or_false] at ha
      rcases ha with rfl | rfl | rfl
      all_goals first | exact .int _ | exact (hbad.same S).pl | exact (hworse.same S).pl, Nat.le_of_ble_eq_true rfl, by rw [e]; rfl, by rw [e]; rfl, PD.non⟩
  have A10 := all_add (fun v hv => CaseOk.same (A9 v hv) ((s28.trans s29).trans s30)) C9
  clear C9 al9 au9 ap9 hl9 hu9 hp9 s30 s29 s28 T29 T28 A9
  refine q9 _ _ ?_
  clear q9
  refine cons_gen fun Q10 q10 => ?_
  walk_at "rd"
  intro l10 hl10
  have s31 : Same G30 (upd G30 l10 (.lst [bad])) := Same.put (Same.refl _) hl10
  have al10 : upd G30 l10 (.lst [bad]) l10 = some (.lst [bad]) := upd_same
  generalize upd G30 l10 (.lst [bad]) = G31 at s31 al10 ⊢
  have T31 : Same G0 G31 := T30.trans s31
  walk_at "rd"
  intro u10 hu10
  have s32 : Same G31 (upd G31 u10 (.tup [V.str "BadNumber", bad])) := Same.put (Same.refl _) hu10
  have au10 : upd G31 u10 (.tup [V.str "BadNumber", bad]) u10 = some (.tup [V.str "BadNumber", bad]) := upd_same
  generalize upd G31 u10 (.tup [V.str "BadNumber", bad]) = G32 at s32 au10 ⊢
  have T32 : Same G0 G32 := T31.trans s32
  walk_at "rd"
  intro p10 hp10
  have s33 : Same G32 (upd G32 p10 (.tup [V.int w, V.str one, V.ref l10, V.ref u10])) := Same.put (Same.refl _) hp10
  have ap10 : upd G32 p10 (.tup [V.int w, V.str one, V.ref l10, V.ref u10]) p10 = some (.tup [V.int w, V.str one, V.ref l10, V.ref u10]) := upd_same
  generalize upd G32 p10 (.tup [V.int w, V.str one, V.ref l10, V.ref u10]) = G33 at s33 ap10 ⊢
  have T33 : Same G0 G33 := T32.trans s33
  have C10 : CaseOk G33 (.ref p10) := by
    have S := T33
    have e : wk (V.int w) (V.str one) (PyData.str one) [bad] = _ := wk_bn (wv := bad) hw hone.1 (by rw [hone.2.2]; rfl) (by simp [List.find?, nbad])
    refine ⟨p10, _, _, PyData.str one, l10, u10, _, _, _, dbad, rfl, ap10, s33 _ _ (s32 _ _ al10), s33 _ _ au10, (PD.int w).pl, PD.str one hone.2.1, fun a ha => by
      simp only [List.mem_cons, List.not_mem_nil, or_false] at ha
      subst ha
      all_goals first | exact .int _ | exact (hbad.same S).pl | exact (hworse.same S).pl, Nat.le_of_ble_eq_true rfl, by rw [e]; rfl, by rw [e]; rfl, hbad.same S⟩
  have A11 := all_add (fun v hv => CaseOk.same (A10 v hv) ((s31.trans s32).trans s33)) C10
  clear C10 al10 au10 ap10 hl10 hu10 hp10 s33 s32 s31 T32 T31 A10
  refine q10 _ _ ?_
  clear q10
  refine cons_gen fun Q11 q11 => ?_
  walk_at "rd"
  intro l11 hl11
  have s34 : Same G33 (upd G33 l11 (.lst [bad, worse])) := Same.put (Same.refl _) hl11
  have al11 : upd G33 l11 (.lst [bad, worse]) l11 = some (.lst [bad, worse]) := upd_same
  generalize upd G33 l11 (.lst [bad, worse]) = G34 at s34 al11 ⊢
  have T34 : Same G0 G34 := T33.trans s34
  walk_at "rd"
  intro u11 hu11
  have s35 : Same G34 (upd G34 u11 (.tup [V.str "BadNumber", bad])) := Same.put (Same.refl _) hu11
  have au11 : upd G34 u11 (.tup [V.str "BadNumber", bad]) u11 = some (.tup [V.str "BadNumber", bad]) := upd_same
  generalize upd G34 u11 (.tup [V.str "BadNumber", bad]) = G35 at s35 au11 ⊢
  have T35 : Same G0 G35 := T34.trans s35
  walk_at "rd"
  intro p11 hp11
  have s36 : Same G35 (upd G35 p11 (.tup [V.int w, V.str op, V.ref l11, V.ref u11])) := Same.put (Same.refl _) hp11
  have ap11 : upd G35 p11 (.tup [V.int w, V.str op, V.ref l11, V.ref u11]) p11 = some (.tup [V.int w, V.str op, V.ref l11, V.ref u11]) := upd_same
  generalize upd G35 p11 (.tup [V.int w, V.str op, V.ref l11, V.ref u11]) = G36 at s36 ap11 ⊢
  have T36 : Same G0 G36 := T35.trans s36
  have C11 : CaseOk G36 (.ref p11) := by
    have S := T36
    have e : wk (V.int w) (V.str op) (PyData.str op) [bad, worse] = _ := wk_bn (wv := bad) hw hop.1 (by rw [hop.2.2]; rfl) (by simp [List.find?, nbad])
    refine ⟨p11, _, _, PyData.str op, l11, u11, _, _, _, dbad, rfl, ap11, s36 _ _ (s35 _ _ al11), s36 _ _ au11, (PD.int w).pl, PD.str op hop.2.1, fun a ha => by
      simp only [List.mem_cons, List.not_mem_nil, or_false] at ha
      rcases ha with rfl | rfl
      all_goals first | exact .int _ | exact (hbad.same S).pl | exact (hworse.same S).pl, Nat.le_of_ble_eq_true rfl, by rw [e]; rfl, by rw [e]; rfl, hbad.same S⟩
  have A12 := all_add (fun v hv => CaseOk.same (A11 v hv) ((s34.trans s35).trans s36)) C11
  clear C11 al11 au11 ap11 hl11 hu11 hp11 s36 s35 s34 T35 T34 A11
  refine q11 _ _ ?_
  clear q11
  refine cons_gen fun Q12 q12 => ?_
  walk_at "rd"
  intro l12 hl12
  have s37 : Same G36 (upd G36 l12 (.lst [V.int g, worse])) := Same.put (Same.refl _) hl12
  have al12 : upd G36 l12 (.lst [V.int g, worse]) l12 = some (.lst [V.int g, worse]) := upd_same
  generalize upd G36 l12 (.lst [V.int g, worse]) = G37 at s37 al12 ⊢
  have T37 : Same G0 G37 := T36.trans s37
  walk_at "rd"
  intro u12 hu12
  have s38 : Same G37 (upd G37 u12 (.tup [V.str "BadNumber", worse])) := Same.put (Same.refl _) hu12
  have au12 : upd G37 u12 (.tup [V.str "BadNumber", worse]) u12 = some (.tup [V.str "BadNumber", worse]) := upd_same
  generalize upd G37 u12 (.tup [V.str "BadNumber", worse]) = G38 at s38 au12 ⊢
  have T38 : Same G0 G38 := T37.trans s38
  walk_at "rd"
  intro p12 hp12
  have s39 : Same G38 (upd G38 p12 (.tup [V.int w, V.str op, V.ref l12, V.ref u12])) := Same.put (Same.refl _) hp12
  have ap12 : upd G38 p12 (.tup [V.int w, V.str op, V.ref l12, V.ref u12]) p12 = some (.tup [V.int w, V.str op, V.ref l12, V.ref u12]) := upd_same
  generalize upd G38 p12 (.tup [V.int w, V.str op, V.ref l12, V.ref u12]) = G39 at s39 ap12 ⊢
  have T39 : Same G0 G39 := T38.trans s39
  have C12 : CaseOk G39 (.ref p12) := by
    have S := T39
    have e : wk (V.int w) (V.str op) (PyData.str op) [V.int g, worse] = _ := wk_bn (wv := worse) hw hop.1 (by rw [hop.2.2]; rfl) (by simp [List.find?, nworse, isN_int hg])
    refine ⟨p12, _, _, PyData.str op, l12, u12, _, _, _, dworse, rfl, ap12, s39 _ _ (s38 _ _ al12), s39 _ _ au12, (PD.int w).pl, PD.str op hop.2.1, fun a ha => by
      simp only [List.mem_cons, List.not_mem_nil, or_false] at ha
      rcases ha with rfl | rfl
      all_goals first | exact .int _ | exact (hbad.same S).pl | exact (hworse.same S).pl, Nat.le_of_ble_eq_true rfl, by rw [e]; rfl, by rw [e]; rfl, hworse.same S⟩
  have A13 := all_add (fun v hv => CaseOk.same (A12 v hv) ((s37.trans s38).trans s39)) C12
  clear C12 al12 au12 ap12 hl12 hu12 hp12 s39 s38 s37 T38 T37 A12
  refine q12 _ _ ?_
  clear q12
  refine cons_gen fun Q13 q13 => ?_
  walk_at "rd"
  intro l13 hl13
  have s40 : Same G39 (upd G39 l13 (.lst [bad, V.int 0])) := Same.put (Same.refl _) hl13
  have al13 : upd G39 l13 (.lst [bad, V.int 0]) l13 = some (.lst [bad, V.int 0]) := upd_same
  generalize upd G39 l13 (.lst [bad, V.int 0]) = G40 at s40 al13 ⊢
  have T40 : Same G0 G40 := T39.trans s40
  walk_at "rd"
  intro u13 hu13
  have s41 : Same G40 (upd G40 u13 (.tup [V.str "BadNumber", bad])) := Same.put (Same.refl _) hu13
  have au13 : upd G40 u13 (.tup [V.str "BadNumber", bad]) u13 = some (.tup [V.str "BadNumber", bad]) := upd_same
  generalize upd G40 u13 (.tup [V.str "BadNumber", bad]) = G41 at s41 au13 ⊢
  have T41 : Same G0 G41 := T40.trans s41
  walk_at "rd"
  intro p13 hp13
  have s42 : Same G41 (upd G41 p13 (.tup [V.int w, V.str "/", V.ref l13, V.ref u13])) := Same.put (Same.refl _) hp13
  have ap13 : upd G41 p13 (.tup [V.int w, V.str "/", V.ref l13, V.ref u13]) p13 = some (.tup [V.int w, V.str "/", V.ref l13, V.ref u13]) := upd_same
  generalize upd G41 p13 (.tup [V.int w, V.str "/", V.ref l13, V.ref u13]) = G42 at s42 ap13 ⊢
  have T42 : Same G0 G42 := T41.trans s42
  have C13 : CaseOk G42 (.ref p13) := by
    have S := T42
    have e : wk (V.int w) (V.str "/") (PyData.str "/") [bad, V.int 0] = _ := wk_bn (wv := bad) hw hdv.1 (by rfl) (by simp [List.find?, nbad])
    refine ⟨p13, _, _, PyData.str "/", l13, u13, _, _, _, dbad, rfl, ap13, s42 _ _ (s41 _ _ al13), s42 _ _ au13, (PD.int w).pl, PD.str _ hdv.2, fun a ha => by
      simp only [List.mem_cons, List.not_mem_nil, or_false] at ha
      rcases ha with rfl | rfl
      all_goals first | exact .int _ | exact (hbad.same S).pl | exact (hworse.same S).pl, Nat.le_of_ble_eq_true rfl, by rw [e]; rfl, by rw [e]; rfl, hbad.same S⟩
  have A14 := all_add (fun v hv => CaseOk.same (A13 v hv) ((s40.trans s41).trans s42)) C13
  clear C13 al13 au13 ap13 hl13 hu13 hp13 s42 s41 s40 T41 T40 A13
  refine q13 _ _ ?_
  clear q13
  refine cons_gen fun Q14 q14 => ?_
  walk_at "rd"
  intro l14 hl14
  have s43 : Same G42 (upd G42 l14 (.lst [V.int g, V.int 0])) := Same.put (Same.refl _) hl14
  have al14 : upd G42 l14 (.lst [V.int g, V.int 0]) l14 = some (.lst [V.int g, V.int 0]) := upd_same
  generalize upd G42 l14 (.lst [V.int g, V.int 0]) = G43 at s43 al14 ⊢
  have T43 : Same G0 G43 := T42.trans s43
  walk_at "rd"
  intro u14 hu14
  have s44 : Same G43 (upd G43 u14 (.tup [V.str "ByZero", V.int g])) := Same.put (Same.refl _) hu14
  have au14 : upd G43 u14 (.tup [V.str "ByZero", V.int g]) u14 = some (.tup [V.str "ByZero", V.int g]) := upd_same
  generalize upd G43 u14 (.tup [V.str "ByZero", V.int g]) = G44 at s44 au14 ⊢
  have T44 : Same G0 G44 := T43.trans s44
  walk_at "rd"
  intro p14 hp14
  have s45 : Same G44 (upd G44 p14 (.tup [V.int w, V.str "mod", V.ref l14, V.ref u14])) := Same.put (Same.refl _) hp14
  have ap14 : upd G44 p14 (.tup [V.int w, V.str "mod", V.ref l14, V.ref u14]) p14 = some (.tup [V.int w, V.str "mod", V.ref l14, V.ref u14]) := upd_same
  generalize upd G44 p14 (.tup [V.int w, V.str "mod", V.ref l14, V.ref u14]) = G45 at s45 ap14 ⊢
  have T45 : Same G0 G45 := T44.trans s45
  have C14 : CaseOk G45 (.ref p14) := by
    have S := T45
    have e : wk (V.int w) (V.str "mod") (PyData.str "mod") [V.int g, V.int 0] = _ := wk_bz hw hmd.1 (by rfl) (by decide +kernel) hg
    refine ⟨p14, _, _, PyData.str "mod", l14, u14, _, _, _, PyData.int g, rfl, ap14, s45 _ _ (s44 _ _ al14), s45 _ _ au14, (PD.int w).pl, PD.str _ hmd.2, fun a ha => by
      simp only [List.mem_cons, List.not_mem_nil, or_false] at ha
      rcases ha with rfl | rfl
      all_goals first | exact .int _ | exact (hbad.same S).pl | exact (hworse.same S).pl, Nat.le_of_ble_eq_true rfl, by rw [e]; rfl, by rw [e]; rfl, PD.int g⟩
  have A15 := all_add (fun v hv => CaseOk.same (A14 v hv) ((s43.trans s44).trans s45)) C14
  clear C14 al14 au14 ap14 hl14 hu14 hp14 s45 s44 s43 T44 T43 A14
  refine q14 _ _ ?_
  clear q14
  refine cons_gen fun Q15 q15 => ?_
  walk_at "rd"
  intro l15 hl15
  have s46 : Same G45 (upd G45 l15 (.lst [V.int o, V.int 0])) := Same.put (Same.refl _) hl15
  have al15 : upd G45 l15 (.lst [V.int o, V.int 0]) l15 = some (.lst [V.int o, V.int 0]) := upd_same
  generalize upd G45 l15 (.lst [V.int o, V.int 0]) = G46 at s46 al15 ⊢
  have T46 : Same G0 G46 := T45.trans s46
  walk_at "rd"
  intro u15 hu15
  have s47 : Same G46 (upd G46 u15 (.tup [V.str "ByZero", V.int o])) := Same.put (Same.refl _) hu15
  have au15 : upd G46 u15 (.tup [V.str "ByZero", V.int o]) u15 = some (.tup [V.str "ByZero", V.int o]) := upd_same
  generalize upd G46 u15 (.tup [V.str "ByZero", V.int o]) = G47 at s47 au15 ⊢
  have T47 : Same G0 G47 := T46.trans s47
  walk_at "rd"
  intro p15 hp15
  have s48 : Same G47 (upd G47 p15 (.tup [V.int w, V.str "/", V.ref l15, V.ref u15])) := Same.put (Same.refl _) hp15
  have ap15 : upd G47 p15 (.tup [V.int w, V.str "/", V.ref l15, V.ref u15]) p15 = some (.tup [V.int w, V.str "/", V.ref l15, V.ref u15]) := upd_same
  generalize upd G47 p15 (.tup [V.int w, V.str "/", V.ref l15, V.ref u15]) = G48 at s48 ap15 ⊢
  have T48 : Same G0 G48 := T47.trans s48
  have C15 : CaseOk G48 (.ref p15) := by
    have S := T48
    have e : wk (V.int w) (V.str "/") (PyData.str "/") [V.int o, V.int 0] = _ := wk_bz hw hdv.1 (by rfl) (by decide +kernel) ho
    refine ⟨p15, _, _, PyData.str "/", l15, u15, _, _, _, PyData.int o, rfl, ap15, s48 _ _ (s47 _ _ al15), s48 _ _ au15, (PD.int w).pl, PD.str _ hdv.2, fun a ha => by
      simp only [List.mem_cons, List.not_mem_nil, or_false] at ha
      rcases ha with rfl | rfl
      all_goals first | exact .int _ | exact (hbad.same S).pl | exact (hworse.same S).pl, Nat.le_of_ble_eq_true rfl, by rw [e]; rfl, by rw [e]; rfl, PD.int o⟩
  have A16 := all_add (fun v hv => CaseOk.same (A15 v hv) ((s46.trans s47).trans s48)) C15
  clear C15 al15 au15 ap15 hl15 hu15 hp15 s48 s47 s46 T47 T46 A15
  refine q15 _ _ ?_
  clear q15
  walk_at "rd"
  intro cs hcs
  have sc2 : Same G48 (upd G48 cs (.lst [V.ref p0, V.ref p1, V.ref p2, V.ref p3, V.ref p4, V.ref p5, V.ref p6, V.ref p7, V.ref p8, V.ref p9, V.ref p10, V.ref p11, V.ref p12, V.ref p13, V.ref p14, V.ref p15])) := Same.put (Same.refl _) hcs
  have acs : upd G48 cs (.lst [V.ref p0, V.ref p1, V.ref p2, V.ref p3, V.ref p4, V.ref p5, V.ref p6, V.ref p7, V.ref p8, V.ref p9, V.ref p10, V.ref p11, V.ref p12, V.ref p13, V.ref p14, V.ref p15]) cs = some (.lst [V.ref p0, V.ref p1, V.ref p2, V.ref p3, V.ref p4, V.ref p5, V.ref p6, V.ref p7, V.ref p8, V.ref p9, V.ref p10, V.ref p11, V.ref p12, V.ref p13, V.ref p14, V.ref p15]) := upd_same
  generalize upd G48 cs (.lst [V.ref p0, V.ref p1, V.ref p2, V.ref p3, V.ref p4, V.ref p5, V.ref p6, V.ref p7, V.ref p8, V.ref p9, V.ref p10, V.ref p11, V.ref p12, V.ref p13, V.ref p14, V.ref p15]) = GC at sc2 acs ⊢
  have AA : ∀ v ∈ [V.ref p0, V.ref p1, V.ref p2, V.ref p3, V.ref p4, V.ref p5, V.ref p6, V.ref p7, V.ref p8, V.ref p9, V.ref p10, V.ref p11, V.ref p12, V.ref p13, V.ref p14, V.ref p15], CaseOk GC v := fun v hv => CaseOk.same (A16 v hv) sc2
  refine r10 _ _ ?_
  clear r1 r2 r3 r4 r5 r6 r7 r8 r9 r10
  clear A16 sc2 hcs T3 T6 T9 T12 T15 T18 T21 T24 T27 T30 T33 T36 T39 T42 T45 T48
  generalize [V.ref p0, V.ref p1, V.ref p2, V.ref p3, V.ref p4, V.ref p5, V.ref p6, V.ref p7, V.ref p8, V.ref p9, V.ref p10, V.ref p11, V.ref p12, V.ref p13, V.ref p14, V.ref p15] = cl at acs AA ⊢
  refine sig (σ' := [some (.ref b), some (.int w), some (.str op), some (.str one), some (.int g), some (.int o), some bad, some worse, some wide, some odd, some (.ref cs), none]) rfl ?_
  walk_at "rd"
  refine ⟨⟨_, SqL.of acs⟩, ?_⟩
  refine for_list (K := K) (a := cs) (xs := cl) (fun i σ H2 => Same GC H2 ∧ ∃ v, σ = [some (.ref b), some (.int w), some (.str op), some (.str one), some (.int g), some (.int o), some bad, some worse, some wide, some odd, some (.ref cs), v]) ⟨Same.refl _, none, rfl⟩ (fun i σ H2 _ ⟨s, _⟩ => SqL.of (s _ _ acs)) ?_ ?_
  · rintro i c σ H2 hi ⟨s2, v, rfl⟩
    exact body_ok rfl ((AA c (get_mem hi)).same s2) fun H3 s3 => ⟨s2.trans s3, _, rfl⟩
  · rintro σ H2 ⟨s2, v, rfl⟩
    walk_at "rd"
    exact k _

end
end K01
namespace K01
open PySem PySem.Spec PyProof.Rows L2 My
section
variable {P : Program} {w : World} {K : PySem.W.Frag} {mg : Str → Option Value} {base : Heap}

abbrev spLaw (K : PySem.W.Frag) : Sp := Sp1 fun x H Q _ => ∃ (a : Addr) (ns : List Int), x = .ref a ∧ SqL K H a (ns.map V.int) ∧ ns.length ≤ 63 ∧ ∀ H', Q (.bl true) H'
theorem sqT_K {K : PySem.W.Frag} {a : Addr} {xs : List V} (h : ∀ H, SqT K H a xs) : ∃ o, K.lookup a = some o ∧ o.cls = .type "tuple" := by
  rcases h (fun _ => none) with (h | ⟨_, h⟩) | ⟨o, its, n, h1, h2, _⟩
  · cases h
  · cases h
  · exact ⟨o, h1, h2⟩
theorem acts_of {xs : List V} (h : xs = [V.str "+", V.str "-", V.str "*", V.str "/", V.str "mod", V.str "and", V.str "or", V.str "xor", V.str "=", V.str "<", V.str "u<", V.str "invert", V.str "0="]) {i : Nat} {v : V} (hi : xs[i]? = some v) : ∃ op, v = .str op ∧ Acts op := by
  have m := List.mem_of_getElem? hi
  rw [h] at m
  simp only [List.mem_cons, List.not_mem_nil, or_false] at m
  unfold Acts
  rcases m with rfl | rfl | rfl | rfl | rfl | rfl | rfl | rfl | rfl | rfl | rfl | rfl | rfl <;> exact ⟨_, rfl, by simp⟩
def widD : List PyData := [.int 16, .int 24, .int 32]
theorem wid_dp {K : PySem.W.Frag} {H : Hp} : DpAll K H [V.int 16, V.int 24, V.int 32] widD := .cons (.int _) (.cons (.int _) (.cons (.int _) .nil))

theorem ok_law (M : TX K mg) : FnOk P w K mg base (L2.CX P w) 10 M.f_law M.d_law ["_law_script"] (spLaw K) := by
  have sc := sc_law
  refine M.F_law.okX sc (fun vs H Q E h => Sp1_len h) (fun cdv A outer s H vs Q E hr h => ?_)
  obtain ⟨x0, rfl, h⟩ := h
  have hu := hu_of hr
  have hu64 := hr.units
  refine ⟨_, (pss_cons (ps_set (i := 1) sc.nd rfl (Or.inl rfl) (pe_call (ok__law_bag M) (hr.mono (by decide)) rfl M.g__law_bag M.F__law_bag.kp M.b__law_bag .nil (passE rfl rfl rfl rfl) (pa_cons (pv 0) pa_nil)))
    (pss_cons (ps_set (i := 2) sc.nd rfl (Or.inl rfl) (pe_tup (pa_cons pe_str (pa_cons pe_str (pa_cons pe_str (pa_cons pe_str (pa_cons pe_str (pa_cons pe_str (pa_cons pe_str (pa_cons pe_str (pa_cons pe_str (pa_cons pe_str (pa_cons pe_str (pa_cons pe_str (pa_cons pe_str pa_nil)))))))))))))))
    (pss_cons (ps_if (PW.pt (pw_or (pt_not (pt_val (pe_callB (call_isTupKK K) (by rfl) M.n_isinstance (by decide +kernel) (pa_cons (pe_glob (v := .ref M.a_ARITHMETIC) rfl M.g_ARITHMETIC rfl) (pa_cons (pe_bltn (v := .ty "tuple") (u := .type "tuple") (by rfl) M.n_tuple (by decide +kernel) rfl) pa_nil))))) (pw_or1 (pt_cmpR (op_neDK K hu64) (pe_glob (v := .ref M.a_ARITHMETIC) rfl M.g_ARITHMETIC rfl) (pv 2) (nomark _)))))
      (pss_one (ps_ret pe_bl))
      pss_nil)
    (pss_cons (ps_if (PW.pt (pw_or (pt_not (pt_val (pe_callB (call_isTupKK K) (by rfl) M.n_isinstance (by decide +kernel) (pa_cons (pe_glob (v := .ref M.a_WIDTHS) rfl M.g_WIDTHS rfl) (pa_cons (pe_bltn (v := .ty "tuple") (u := .type "tuple") (by rfl) M.n_tuple (by decide +kernel) rfl) pa_nil))))) (pw_or1 (pt_cmpR (op_neDK K hu64) (pe_glob (v := .ref M.a_WIDTHS) rfl M.g_WIDTHS rfl) (pe_tup (pa_cons pe_int (pa_cons pe_int (pa_cons pe_int pa_nil)))) (nomark _)))))
      (pss_one (ps_ret pe_bl))
      pss_nil)
    (pss_cons (ps_for (passes_of rfl) rfl (pi_tupK K (pi_tup (pe_tup (pa_cons pe_int (pa_cons pe_int (pa_cons pe_int pa_nil)))))) (pg_name (i := 3) sc.nd rfl (Or.inl rfl))
      (pss_one (ps_for (passes_of rfl) rfl (pi_tupK K (pi_tup (pv 2))) (pg_name (i := 4) sc.nd rfl (Or.inl rfl))
        (pss_one (ps_for (passes_of rfl) rfl (pi_range1 rfl M.n_range (pa_cons pe_int pa_nil)) (pg_name (i := 5) sc.nd rfl (Or.inl rfl))
          (pss_one (ps_if (pt_not (pt_val (pe_call (ok__law_act_right M) (hr.mono (by decide)) rfl M.g__law_act_right M.F__law_act_right.kp M.b__law_act_right .nil (passE rfl rfl rfl rfl) (pa_cons (pv 1) (pa_cons (pv 3) (pa_cons (pv 4) pa_nil))))))
            (pss_one (ps_ret pe_bl))
            pss_nil)))))))
    (pss_one (ps_ret (pe_call (ok__law_refused M) (hr.mono (by decide)) rfl M.g__law_refused M.F__law_refused.kp M.b__law_refused .nil (passE rfl rfl rfl rfl) (pa_cons (pv 1) pa_nil))))))))), ?_⟩

  obtain ⟨a, ns, rfl, hS, hl, k⟩ := h
  refine seq_gen fun R1 r1 => ?_
  walk_at "rd"
  refine ⟨a, ns, rfl, hS, hl, fun b H1 hb B s1 => ?_⟩
  refine r1 _ _ ?_
  clear r1 R1
  refine sig (σ' := [some (.ref a), some (.ref b), none, none, none, none]) rfl ?_
  refine seq_gen fun R2 r2 => ?_
  walk_at "rd"
  intro ops hops
  obtain ⟨bo0, hbo0⟩ := B.some
  have no : ops ≠ b := (ne_of_none hbo0 hops).symm
  have ho2 : upd H1 ops (.tup [V.str "+", V.str "-", V.str "*", V.str "/", V.str "mod", V.str "and", V.str "or", V.str "xor", V.str "=", V.str "<", V.str "u<", V.str "invert", V.str "0="]) ops = some (.tup [V.str "+", V.str "-", V.str "*", V.str "/", V.str "mod", V.str "and", V.str "or", V.str "xor", V.str "=", V.str "<", V.str "u<", V.str "invert", V.str "0="]) := upd_same
  have B2 := B.put (o := .tup [V.str "+", V.str "-", V.str "*", V.str "/", V.str "mod", V.str "and", V.str "or", V.str "xor", V.str "=", V.str "<", V.str "u<", V.str "invert", V.str "0="]) hops
  generalize upd H1 ops (.tup [V.str "+", V.str "-", V.str "*", V.str "/", V.str "mod", V.str "and", V.str "or", V.str "xor", V.str "=", V.str "<", V.str "u<", V.str "invert", V.str "0="]) = H2 at ho2 B2 ⊢
  refine r2 _ _ ?_
  clear r2 R2
  refine sig (σ' := [some (.ref a), some (.ref b), some (.ref ops), none, none, none]) rfl ?_
  refine seq_gen fun R3 r3 => ?_
  obtain ⟨o1, ho1, hc1⟩ := sqT_K M.q_ARITHMETIC
  refine ⟨_, o1, rfl, ho1, hc1, true, rfl, ?_⟩
  refine ⟨_, rfl, .tuple actsD, .tuple actsD, .tup (M.q_ARITHMETIC _) acts_dp, .tup (SqT.of ho2) acts_dp, acts_sh, acts_sh, ?_⟩
  refine ⟨false, by rw [show PyData.eqv (.tuple actsD) (.tuple actsD) = true by decide +kernel]; rfl, ?_⟩
  refine r3 _ _ ?_
  clear r3 R3
  refine seq_gen fun R4 r4 => ?_
  obtain ⟨o2, ho2', hc2⟩ := sqT_K M.q_WIDTHS
  refine ⟨_, o2, rfl, ho2', hc2, true, rfl, ?_⟩
  refine ⟨Nat.le_of_ble_eq_true rfl, fun wp hwp => ?_⟩
  have hw3 : upd H2 wp (.tup [V.int 16, V.int 24, V.int 32]) wp = some (.tup [V.int 16, V.int 24, V.int 32]) := upd_same
  have s3 : Same H2 (upd H2 wp (.tup [V.int 16, V.int 24, V.int 32])) := Same.put (Same.refl _) hwp
  have B3 := B2.put (o := .tup [V.int 16, V.int 24, V.int 32]) hwp
  obtain ⟨bo, hbo⟩ := B2.some
  refine ⟨.tuple widD, .tuple widD, .tup (M.q_WIDTHS _) wid_dp, .tup (SqT.of hw3) wid_dp, by decide +kernel, by decide +kernel, ?_⟩
  refine ⟨false, by rw [show PyData.eqv (.tuple widD) (.tuple widD) = true by decide +kernel]; rfl, ?_⟩
  refine r4 _ _ ?_
  clear r4 R4
  have ho4 := s3 _ _ ho2
  have hbo4 := s3 _ _ hbo
  generalize upd H2 wp (.tup [V.int 16, V.int 24, V.int 32]) = H4 at B3 ho4 hbo4 ⊢
  refine seq_gen fun R5 r5 => ?_
  refine ⟨Nat.le_of_ble_eq_true rfl, fun wp2 hwp2 => ?_⟩
  have hw5 : upd H4 wp2 (.tup [V.int 16, V.int 24, V.int 32]) wp2 = some (.tup [V.int 16, V.int 24, V.int 32]) := upd_same
  have s5 : Same H4 (upd H4 wp2 (.tup [V.int 16, V.int 24, V.int 32])) := Same.put (Same.refl _) hwp2
  have B5 := B3.put (o := .tup [V.int 16, V.int 24, V.int 32]) hwp2
  have ho5 := s5 _ _ ho4
  have nw : wp2 ≠ b := (ne_of_none hbo4 hwp2).symm
  generalize upd H4 wp2 (.tup [V.int 16, V.int 24, V.int 32]) = H5 at B5 ho5 hw5 ⊢
  refine ⟨wp2, rfl, ⟨_, SqT.of hw5⟩, ?_⟩
  refine for_tup (K := K) (a := wp2) (xs := [V.int 16, V.int 24, V.int 32]) (fun i σ H' => ∃ v1 v2 v3, σ = [some (.ref a), some (.ref b), some (.ref ops), v1, v2, v3] ∧ BagAt H' b ∧ H' ops = some (.tup [V.str "+", V.str "-", V.str "*", V.str "/", V.str "mod", V.str "and", V.str "or", V.str "xor", V.str "=", V.str "<", V.str "u<", V.str "invert", V.str "0="]) ∧ H' wp2 = some (.tup [V.int 16, V.int 24, V.int 32])) ⟨_, _, _, rfl, B5, ho5, hw5⟩ (fun i σ H' _ ⟨_, _, _, _, _, _, h⟩ => SqT.of h) ?_ ?_
  · rintro i x σ H6 hi ⟨v1, v2, v3, rfl, B6, ho6, hw6⟩
    obtain ⟨wd, rfl, hwd⟩ : ∃ w, x = V.int w ∧ Wd w := by
      have m := List.mem_of_getElem? hi
      simp only [List.mem_cons, List.not_mem_nil, or_false] at m
      rcases m with rfl | rfl | rfl
      · exact ⟨_, rfl, .inl rfl⟩
      · exact ⟨_, rfl, .inr (.inl rfl)⟩
      · exact ⟨_, rfl, .inr (.inr rfl)⟩
    refine ⟨_, rfl, ops, rfl, ⟨_, SqT.of ho6⟩, ?_⟩
    refine for_tup (K := K) (a := ops) (xs := [V.str "+", V.str "-", V.str "*", V.str "/", V.str "mod", V.str "and", V.str "or", V.str "xor", V.str "=", V.str "<", V.str "u<", V.str "invert", V.str "0="]) (fun i σ H' => ∃ v2 v3, σ = [some (.ref a), some (.ref b), some (.ref ops), some (.int wd), v2, v3] ∧ BagAt H' b ∧ H' ops = some (.tup [V.str "+", V.str "-", V.str "*", V.str "/", V.str "mod", V.str "and", V.str "or", V.str "xor", V.str "=", V.str "<", V.str "u<", V.str "invert", V.str "0="]) ∧ H' wp2 = some (.tup [V.int 16, V.int 24, V.int 32])) ⟨_, _, rfl, B6, ho6, hw6⟩ (fun i σ H' _ ⟨_, _, _, _, h, _⟩ => SqT.of h) ?_ ?_
    · rintro j y σ H7 hj ⟨v2, v3, rfl, B7, ho7, hw7⟩
      obtain ⟨op, rfl, hop⟩ := acts_of rfl hj
      refine ⟨2, rfl, by decide, by decide, ?_⟩
      refine for_range (lo := 0) (n := 2) (fun i σ H' => ∃ v3, σ = [some (.ref a), some (.ref b), some (.ref ops), some (.int wd), some (.str op), v3] ∧ BagAt H' b ∧ H' ops = some (.tup [V.str "+", V.str "-", V.str "*", V.str "/", V.str "mod", V.str "and", V.str "or", V.str "xor", V.str "=", V.str "<", V.str "u<", V.str "invert", V.str "0="]) ∧ H' wp2 = some (.tup [V.int 16, V.int 24, V.int 32])) ⟨_, rfl, B7, ho7, hw7⟩ ?_ ?_
      · rintro c σ H8 hc ⟨v3, rfl, B8, ho8, hw8⟩
        refine ⟨_, rfl, _, rfl, _, rfl, _, _, _, rfl, b, wd, op, rfl, rfl, rfl, hwd, hop, B8, fun H9 B9 k9 => ?_⟩
        refine ⟨true, rfl, ?_⟩
        exact ⟨_, rfl, B9, k9 _ _ no ho8, k9 _ _ nw hw8⟩
      · rintro σ H9 ⟨v3, rfl, B9, ho9, hw9⟩
        exact ⟨_, _, rfl, B9, ho9, hw9⟩
    · rintro σ H9 ⟨v2, v3, rfl, B9, ho9, hw9⟩
      exact ⟨_, _, _, rfl, B9, ho9, hw9⟩
  · rintro σ H9 ⟨v1, v2, v3, rfl, B9, ho9, hw9⟩
    refine r5 _ _ ?_
    exact ⟨_, rfl, _, rfl, b, rfl, B9, fun H' => k H'⟩

end
end K01
namespace K01
open PySem PySem.Spec PyProof.Rows L2 My
theorem all_mk {K : PySem.W.Frag} {h : Heap} {mg : Str → Option Value} {fa : Addr} (X : K.In h) (G : h.Ns mainGlobals mg) (hfa : mg "law" = some (.ref fa))
    {f_BadWidth___init__ : Addr}
    {oc_BadWidth___init__ kV_BadWidth___init__ dc_BadWidth___init__ pm_BadWidth___init__ cd_BadWidth___init__ ct_BadWidth___init__ : Value} {od_BadWidth___init__ an_BadWidth___init__ : Option Addr} {sl_BadWidth___init__ : Array (Option Value)}
    {f_BadNumber___init__ : Addr}
    {oc_BadNumber___init__ kV_BadNumber___init__ dc_BadNumber___init__ pm_BadNumber___init__ cd_BadNumber___init__ ct_BadNumber___init__ : Value} {od_BadNumber___init__ an_BadNumber___init__ : Option Addr} {sl_BadNumber___init__ : Array (Option Value)}
    {f_BadOp___init__ : Addr}
    {oc_BadOp___init__ kV_BadOp___init__ dc_BadOp___init__ pm_BadOp___init__ cd_BadOp___init__ ct_BadOp___init__ : Value} {od_BadOp___init__ an_BadOp___init__ : Option Addr} {sl_BadOp___init__ : Array (Option Value)}
    {f_ByZero___init__ : Addr}
    {oc_ByZero___init__ kV_ByZero___init__ dc_ByZero___init__ pm_ByZero___init__ cd_ByZero___init__ ct_ByZero___init__ : Value} {od_ByZero___init__ an_ByZero___init__ : Option Addr} {sl_ByZero___init__ : Array (Option Value)}
    {f_is_integer : Addr}
    {oc_is_integer kV_is_integer dc_is_integer pm_is_integer cd_is_integer ct_is_integer : Value} {od_is_integer an_is_integer : Option Addr} {sl_is_integer : Array (Option Value)}
    {f_is_between : Addr}
    {oc_is_between kV_is_between dc_is_between pm_is_between cd_is_between ct_is_between : Value} {od_is_between an_is_between : Option Addr} {sl_is_between : Array (Option Value)}
    {f_check_width : Addr}
    {oc_check_width kV_check_width dc_check_width pm_check_width cd_check_width ct_check_width : Value} {od_check_width an_check_width : Option Addr} {sl_check_width : Array (Option Value)}
    {f_check_number : Addr}
    {oc_check_number kV_check_number dc_check_number pm_check_number cd_check_number ct_check_number : Value} {od_check_number an_check_number : Option Addr} {sl_check_number : Array (Option Value)}
    {f_half : Addr}
    {oc_half kV_half dc_half pm_half cd_half ct_half : Value} {od_half an_half : Option Addr} {sl_half : Array (Option Value)}
    {f_wrap : Addr}
    {oc_wrap kV_wrap dc_wrap pm_wrap cd_wrap ct_wrap : Value} {od_wrap an_wrap : Option Addr} {sl_wrap : Array (Option Value)}
    {f_is_number : Addr}
    {oc_is_number kV_is_number dc_is_number pm_is_number cd_is_number ct_is_number : Value} {od_is_number an_is_number : Option Addr} {sl_is_number : Array (Option Value)}
    {f_truth : Addr}
    {oc_truth kV_truth dc_truth pm_truth cd_truth ct_truth : Value} {od_truth an_truth : Option Addr} {sl_truth : Array (Option Value)}
    {f_divided : Addr}
    {oc_divided kV_divided dc_divided pm_divided cd_divided ct_divided : Value} {od_divided an_divided : Option Addr} {sl_divided : Array (Option Value)}
    {f_of_two : Addr}
    {oc_of_two kV_of_two dc_of_two pm_of_two cd_of_two ct_of_two : Value} {od_of_two an_of_two : Option Addr} {sl_of_two : Array (Option Value)}
    {f_result_of : Addr}
    {oc_result_of kV_result_of dc_result_of pm_result_of cd_result_of ct_result_of : Value} {od_result_of an_result_of : Option Addr} {sl_result_of : Array (Option Value)}
    {f_work : Addr}
    {oc_work kV_work dc_work pm_work cd_work ct_work : Value} {od_work an_work : Option Addr} {sl_work : Array (Option Value)}
    {f__law_bag : Addr}
    {oc__law_bag kV__law_bag dc__law_bag pm__law_bag cd__law_bag ct__law_bag : Value} {od__law_bag an__law_bag : Option Addr} {sl__law_bag : Array (Option Value)}
    {f__law_pick : Addr}
    {oc__law_pick kV__law_pick dc__law_pick pm__law_pick cd__law_pick ct__law_pick : Value} {od__law_pick an__law_pick : Option Addr} {sl__law_pick : Array (Option Value)}
    {f__law_choice : Addr}
    {oc__law_choice kV__law_choice dc__law_choice pm__law_choice cd__law_choice ct__law_choice : Value} {od__law_choice an__law_choice : Option Addr} {sl__law_choice : Array (Option Value)}
    {f__law_integer : Addr}
    {oc__law_integer kV__law_integer dc__law_integer pm__law_integer cd__law_integer ct__law_integer : Value} {od__law_integer an__law_integer : Option Addr} {sl__law_integer : Array (Option Value)}
    {f__law_half : Addr}
    {oc__law_half kV__law_half dc__law_half pm__law_half cd__law_half ct__law_half : Value} {od__law_half an__law_half : Option Addr} {sl__law_half : Array (Option Value)}
    {f__law_wrap : Addr}
    {oc__law_wrap kV__law_wrap dc__law_wrap pm__law_wrap cd__law_wrap ct__law_wrap : Value} {od__law_wrap an__law_wrap : Option Addr} {sl__law_wrap : Array (Option Value)}
    {f__law_num : Addr}
    {oc__law_num kV__law_num dc__law_num pm__law_num cd__law_num ct__law_num : Value} {od__law_num an__law_num : Option Addr} {sl__law_num : Array (Option Value)}
    {f__law_bits : Addr}
    {oc__law_bits kV__law_bits dc__law_bits pm__law_bits cd__law_bits ct__law_bits : Value} {od__law_bits an__law_bits : Option Addr} {sl__law_bits : Array (Option Value)}
    {f__law_of_bits : Addr}
    {oc__law_of_bits kV__law_of_bits dc__law_of_bits pm__law_of_bits cd__law_of_bits ct__law_of_bits : Value} {od__law_of_bits an__law_of_bits : Option Addr} {sl__law_of_bits : Array (Option Value)}
    {f__law_sum : Addr}
    {oc__law_sum kV__law_sum dc__law_sum pm__law_sum cd__law_sum ct__law_sum : Value} {od__law_sum an__law_sum : Option Addr} {sl__law_sum : Array (Option Value)}
    {f__law_product : Addr}
    {oc__law_product kV__law_product dc__law_product pm__law_product cd__law_product ct__law_product : Value} {od__law_product an__law_product : Option Addr} {sl__law_product : Array (Option Value)}
    {f__law_joined : Addr}
    {oc__law_joined kV__law_joined dc__law_joined pm__law_joined cd__law_joined ct__law_joined : Value} {od__law_joined an__law_joined : Option Addr} {sl__law_joined : Array (Option Value)}
    {f__law_below : Addr}
    {oc__law_below kV__law_below dc__law_below pm__law_below cd__law_below ct__law_below : Value} {od__law_below an__law_below : Option Addr} {sl__law_below : Array (Option Value)}
    {f__law_turned : Addr}
    {oc__law_turned kV__law_turned dc__law_turned pm__law_turned cd__law_turned ct__law_turned : Value} {od__law_turned an__law_turned : Option Addr} {sl__law_turned : Array (Option Value)}
    {f__law_divided : Addr}
    {oc__law_divided kV__law_divided dc__law_divided pm__law_divided cd__law_divided ct__law_divided : Value} {od__law_divided an__law_divided : Option Addr} {sl__law_divided : Array (Option Value)}
    {f__law_due : Addr}
    {oc__law_due kV__law_due dc__law_due pm__law_due cd__law_due ct__law_due : Value} {od__law_due an__law_due : Option Addr} {sl__law_due : Array (Option Value)}
    {f__law_asked : Addr}
    {oc__law_asked kV__law_asked dc__law_asked pm__law_asked cd__law_asked ct__law_asked : Value} {od__law_asked an__law_asked : Option Addr} {sl__law_asked : Array (Option Value)}
    {f__law_same : Addr}
    {oc__law_same kV__law_same dc__law_same pm__law_same cd__law_same ct__law_same : Value} {od__law_same an__law_same : Option Addr} {sl__law_same : Array (Option Value)}
    {f__law_pair : Addr}
    {oc__law_pair kV__law_pair dc__law_pair pm__law_pair cd__law_pair ct__law_pair : Value} {od__law_pair an__law_pair : Option Addr} {sl__law_pair : Array (Option Value)}
    {f__law_act_right : Addr}
    {oc__law_act_right kV__law_act_right dc__law_act_right pm__law_act_right cd__law_act_right ct__law_act_right : Value} {od__law_act_right an__law_act_right : Option Addr} {sl__law_act_right : Array (Option Value)}
    {f__law_odd_number : Addr}
    {oc__law_odd_number kV__law_odd_number dc__law_odd_number pm__law_odd_number cd__law_odd_number ct__law_odd_number : Value} {od__law_odd_number an__law_odd_number : Option Addr} {sl__law_odd_number : Array (Option Value)}
    {f__law_odd_width : Addr}
    {oc__law_odd_width kV__law_odd_width dc__law_odd_width pm__law_odd_width cd__law_odd_width ct__law_odd_width : Value} {od__law_odd_width an__law_odd_width : Option Addr} {sl__law_odd_width : Array (Option Value)}
    {f__law_odd_op : Addr}
    {oc__law_odd_op kV__law_odd_op dc__law_odd_op pm__law_odd_op cd__law_odd_op ct__law_odd_op : Value} {od__law_odd_op an__law_odd_op : Option Addr} {sl__law_odd_op : Array (Option Value)}
    {f__law_refused : Addr}
    {oc__law_refused kV__law_refused dc__law_refused pm__law_refused cd__law_refused ct__law_refused : Value} {od__law_refused an__law_refused : Option Addr} {sl__law_refused : Array (Option Value)}
    {f_law : Addr}
    {oc_law kV_law dc_law pm_law cd_law ct_law : Value} {od_law an_law : Option Addr} {sl_law : Array (Option Value)}
    {c_MintError : Addr}
    {c_BadWidth : Addr}
    {c_BadNumber : Addr}
    {c_BadOp : Addr}
    {c_ByZero : Addr}
    {nm_BadWidth q_BadWidth : Str} {N_BadWidth : Addr} {bs_BadWidth bm_BadWidth sub_BadWidth : List Value} {sn_BadWidth : List Str} {ab_BadWidth : Bool} {col_BadWidth : Option Bool} {dd_BadWidth : Option Addr} {m0_BadWidth m1_BadWidth m2_BadWidth m3_BadWidth m5_BadWidth : Option Value}
    {nm_BadNumber q_BadNumber : Str} {N_BadNumber : Addr} {bs_BadNumber bm_BadNumber sub_BadNumber : List Value} {sn_BadNumber : List Str} {ab_BadNumber : Bool} {col_BadNumber : Option Bool} {dd_BadNumber : Option Addr} {m0_BadNumber m1_BadNumber m2_BadNumber m3_BadNumber m5_BadNumber : Option Value}
    {nm_BadOp q_BadOp : Str} {N_BadOp : Addr} {bs_BadOp bm_BadOp sub_BadOp : List Value} {sn_BadOp : List Str} {ab_BadOp : Bool} {col_BadOp : Option Bool} {dd_BadOp : Option Addr} {m0_BadOp m1_BadOp m2_BadOp m3_BadOp m5_BadOp : Option Value}
    {nm_ByZero q_ByZero : Str} {N_ByZero : Addr} {bs_ByZero bm_ByZero sub_ByZero : List Value} {sn_ByZero : List Str} {ab_ByZero : Bool} {col_ByZero : Option Bool} {dd_ByZero : Option Addr} {m0_ByZero m1_ByZero m2_ByZero m3_ByZero m5_ByZero : Option Value}
    {a_WIDTHS : Addr}
    {oda_WIDTHS : Option Addr} {itsa_WIDTHS : Array Value} {na_WIDTHS : Nat} {sla_WIDTHS : Array (Option Value)}
    {a_ARITHMETIC : Addr}
    {oda_ARITHMETIC : Option Addr} {itsa_ARITHMETIC : Array Value} {na_ARITHMETIC : Nat} {sla_ARITHMETIC : Array (Option Value)}
    {a_SINGLE : Addr}
    {oda_SINGLE : Option Addr} {itsa_SINGLE : Array Value} {na_SINGLE : Nat} {sla_SINGLE : Array (Option Value)}
    (l_BadWidth___init__ : K.lookup f_BadWidth___init__ = some ⟨oc_BadWidth___init__, od_BadWidth___init__, .func (PySem.W.fnOf "__init__" "BadWidth.__init__" (defArgs s_BadWidth___init__) (defBody s_BadWidth___init__) (defScope s_BadWidth___init__) .none kV_BadWidth___init__ dc_BadWidth___init__ pm_BadWidth___init__ an_BadWidth___init__ cd_BadWidth___init__ ct_BadWidth___init__), sl_BadWidth___init__⟩)
    (z_BadWidth___init__ : PySem.W.codeIn K cd_BadWidth___init__ "BadWidth.__init__" = true)
    (kk_BadWidth___init__ : PySem.W.keepIn K (.ref f_BadWidth___init__) = true)
    (l_BadNumber___init__ : K.lookup f_BadNumber___init__ = some ⟨oc_BadNumber___init__, od_BadNumber___init__, .func (PySem.W.fnOf "__init__" "BadNumber.__init__" (defArgs s_BadNumber___init__) (defBody s_BadNumber___init__) (defScope s_BadNumber___init__) .none kV_BadNumber___init__ dc_BadNumber___init__ pm_BadNumber___init__ an_BadNumber___init__ cd_BadNumber___init__ ct_BadNumber___init__), sl_BadNumber___init__⟩)
    (z_BadNumber___init__ : PySem.W.codeIn K cd_BadNumber___init__ "BadNumber.__init__" = true)
    (kk_BadNumber___init__ : PySem.W.keepIn K (.ref f_BadNumber___init__) = true)
    (l_BadOp___init__ : K.lookup f_BadOp___init__ = some ⟨oc_BadOp___init__, od_BadOp___init__, .func (PySem.W.fnOf "__init__" "BadOp.__init__" (defArgs s_BadOp___init__) (defBody s_BadOp___init__) (defScope s_BadOp___init__) .none kV_BadOp___init__ dc_BadOp___init__ pm_BadOp___init__ an_BadOp___init__ cd_BadOp___init__ ct_BadOp___init__), sl_BadOp___init__⟩)
    (z_BadOp___init__ : PySem.W.codeIn K cd_BadOp___init__ "BadOp.__init__" = true)
    (kk_BadOp___init__ : PySem.W.keepIn K (.ref f_BadOp___init__) = true)
    (l_ByZero___init__ : K.lookup f_ByZero___init__ = some ⟨oc_ByZero___init__, od_ByZero___init__, .func (PySem.W.fnOf "__init__" "ByZero.__init__" (defArgs s_ByZero___init__) (defBody s_ByZero___init__) (defScope s_ByZero___init__) .none kV_ByZero___init__ dc_ByZero___init__ pm_ByZero___init__ an_ByZero___init__ cd_ByZero___init__ ct_ByZero___init__), sl_ByZero___init__⟩)
    (z_ByZero___init__ : PySem.W.codeIn K cd_ByZero___init__ "ByZero.__init__" = true)
    (kk_ByZero___init__ : PySem.W.keepIn K (.ref f_ByZero___init__) = true)
    (l_is_integer : K.lookup f_is_integer = some ⟨oc_is_integer, od_is_integer, .func (PySem.W.fnOf "is_integer" "is_integer" (defArgs s_is_integer) (defBody s_is_integer) (defScope s_is_integer) .none kV_is_integer dc_is_integer pm_is_integer an_is_integer cd_is_integer ct_is_integer), sl_is_integer⟩)
    (z_is_integer : PySem.W.codeIn K cd_is_integer "is_integer" = true)
    (kk_is_integer : PySem.W.keepIn K (.ref f_is_integer) = true)
    (ag_is_integer : PySem.W.nsIn K mainGlobals "is_integer" = some (some (.ref f_is_integer)))
    (l_is_between : K.lookup f_is_between = some ⟨oc_is_between, od_is_between, .func (PySem.W.fnOf "is_between" "is_between" (defArgs s_is_between) (defBody s_is_between) (defScope s_is_between) .none kV_is_between dc_is_between pm_is_between an_is_between cd_is_between ct_is_between), sl_is_between⟩)
    (z_is_between : PySem.W.codeIn K cd_is_between "is_between" = true)
    (kk_is_between : PySem.W.keepIn K (.ref f_is_between) = true)
    (ag_is_between : PySem.W.nsIn K mainGlobals "is_between" = some (some (.ref f_is_between)))
    (l_check_width : K.lookup f_check_width = some ⟨oc_check_width, od_check_width, .func (PySem.W.fnOf "check_width" "check_width" (defArgs s_check_width) (defBody s_check_width) (defScope s_check_width) .none kV_check_width dc_check_width pm_check_width an_check_width cd_check_width ct_check_width), sl_check_width⟩)
    (z_check_width : PySem.W.codeIn K cd_check_width "check_width" = true)
    (kk_check_width : PySem.W.keepIn K (.ref f_check_width) = true)
    (ag_check_width : PySem.W.nsIn K mainGlobals "check_width" = some (some (.ref f_check_width)))
    (l_check_number : K.lookup f_check_number = some ⟨oc_check_number, od_check_number, .func (PySem.W.fnOf "check_number" "check_number" (defArgs s_check_number) (defBody s_check_number) (defScope s_check_number) .none kV_check_number dc_check_number pm_check_number an_check_number cd_check_number ct_check_number), sl_check_number⟩)
    (z_check_number : PySem.W.codeIn K cd_check_number "check_number" = true)
    (kk_check_number : PySem.W.keepIn K (.ref f_check_number) = true)
    (ag_check_number : PySem.W.nsIn K mainGlobals "check_number" = some (some (.ref f_check_number)))
    (l_half : K.lookup f_half = some ⟨oc_half, od_half, .func (PySem.W.fnOf "half" "half" (defArgs s_half) (defBody s_half) (defScope s_half) .none kV_half dc_half pm_half an_half cd_half ct_half), sl_half⟩)
    (z_half : PySem.W.codeIn K cd_half "half" = true)
    (kk_half : PySem.W.keepIn K (.ref f_half) = true)
    (ag_half : PySem.W.nsIn K mainGlobals "half" = some (some (.ref f_half)))
    (l_wrap : K.lookup f_wrap = some ⟨oc_wrap, od_wrap, .func (PySem.W.fnOf "wrap" "wrap" (defArgs s_wrap) (defBody s_wrap) (defScope s_wrap) .none kV_wrap dc_wrap pm_wrap an_wrap cd_wrap ct_wrap), sl_wrap⟩)
    (z_wrap : PySem.W.codeIn K cd_wrap "wrap" = true)
    (kk_wrap : PySem.W.keepIn K (.ref f_wrap) = true)
    (ag_wrap : PySem.W.nsIn K mainGlobals "wrap" = some (some (.ref f_wrap)))
    (l_is_number : K.lookup f_is_number = some ⟨oc_is_number, od_is_number, .func (PySem.W.fnOf "is_number" "is_number" (defArgs s_is_number) (defBody s_is_number) (defScope s_is_number) .none kV_is_number dc_is_number pm_is_number an_is_number cd_is_number ct_is_number), sl_is_number⟩)
    (z_is_number : PySem.W.codeIn K cd_is_number "is_number" = true)
    (kk_is_number : PySem.W.keepIn K (.ref f_is_number) = true)
    (ag_is_number : PySem.W.nsIn K mainGlobals "is_number" = some (some (.ref f_is_number)))
    (l_truth : K.lookup f_truth = some ⟨oc_truth, od_truth, .func (PySem.W.fnOf "truth" "truth" (defArgs s_truth) (defBody s_truth) (defScope s_truth) .none kV_truth dc_truth pm_truth an_truth cd_truth ct_truth), sl_truth⟩)
    (z_truth : PySem.W.codeIn K cd_truth "truth" = true)
    (kk_truth : PySem.W.keepIn K (.ref f_truth) = true)
    (ag_truth : PySem.W.nsIn K mainGlobals "truth" = some (some (.ref f_truth)))
    (l_divided : K.lookup f_divided = some ⟨oc_divided, od_divided, .func (PySem.W.fnOf "divided" "divided" (defArgs s_divided) (defBody s_divided) (defScope s_divided) .none kV_divided dc_divided pm_divided an_divided cd_divided ct_divided), sl_divided⟩)
    (z_divided : PySem.W.codeIn K cd_divided "divided" = true)
    (kk_divided : PySem.W.keepIn K (.ref f_divided) = true)
    (ag_divided : PySem.W.nsIn K mainGlobals "divided" = some (some (.ref f_divided)))
    (l_of_two : K.lookup f_of_two = some ⟨oc_of_two, od_of_two, .func (PySem.W.fnOf "of_two" "of_two" (defArgs s_of_two) (defBody s_of_two) (defScope s_of_two) .none kV_of_two dc_of_two pm_of_two an_of_two cd_of_two ct_of_two), sl_of_two⟩)
    (z_of_two : PySem.W.codeIn K cd_of_two "of_two" = true)
    (kk_of_two : PySem.W.keepIn K (.ref f_of_two) = true)
    (ag_of_two : PySem.W.nsIn K mainGlobals "of_two" = some (some (.ref f_of_two)))
    (l_result_of : K.lookup f_result_of = some ⟨oc_result_of, od_result_of, .func (PySem.W.fnOf "result_of" "result_of" (defArgs s_result_of) (defBody s_result_of) (defScope s_result_of) .none kV_result_of dc_result_of pm_result_of an_result_of cd_result_of ct_result_of), sl_result_of⟩)
    (z_result_of : PySem.W.codeIn K cd_result_of "result_of" = true)
    (kk_result_of : PySem.W.keepIn K (.ref f_result_of) = true)
    (ag_result_of : PySem.W.nsIn K mainGlobals "result_of" = some (some (.ref f_result_of)))
    (l_work : K.lookup f_work = some ⟨oc_work, od_work, .func (PySem.W.fnOf "work" "work" (defArgs s_work) (defBody s_work) (defScope s_work) .none kV_work dc_work pm_work an_work cd_work ct_work), sl_work⟩)
    (z_work : PySem.W.codeIn K cd_work "work" = true)
    (kk_work : PySem.W.keepIn K (.ref f_work) = true)
    (ag_work : PySem.W.nsIn K mainGlobals "work" = some (some (.ref f_work)))
    (l__law_bag : K.lookup f__law_bag = some ⟨oc__law_bag, od__law_bag, .func (PySem.W.fnOf "_law_bag" "_law_bag" (defArgs s__law_bag) (defBody s__law_bag) (defScope s__law_bag) .none kV__law_bag dc__law_bag pm__law_bag an__law_bag cd__law_bag ct__law_bag), sl__law_bag⟩)
    (z__law_bag : PySem.W.codeIn K cd__law_bag "_law_bag" = true)
    (kk__law_bag : PySem.W.keepIn K (.ref f__law_bag) = true)
    (ag__law_bag : PySem.W.nsIn K mainGlobals "_law_bag" = some (some (.ref f__law_bag)))
    (l__law_pick : K.lookup f__law_pick = some ⟨oc__law_pick, od__law_pick, .func (PySem.W.fnOf "_law_pick" "_law_pick" (defArgs s__law_pick) (defBody s__law_pick) (defScope s__law_pick) .none kV__law_pick dc__law_pick pm__law_pick an__law_pick cd__law_pick ct__law_pick), sl__law_pick⟩)
    (z__law_pick : PySem.W.codeIn K cd__law_pick "_law_pick" = true)
    (kk__law_pick : PySem.W.keepIn K (.ref f__law_pick) = true)
    (ag__law_pick : PySem.W.nsIn K mainGlobals "_law_pick" = some (some (.ref f__law_pick)))
    (l__law_choice : K.lookup f__law_choice = some ⟨oc__law_choice, od__law_choice, .func (PySem.W.fnOf "_law_choice" "_law_choice" (defArgs s__law_choice) (defBody s__law_choice) (defScope s__law_choice) .none kV__law_choice dc__law_choice pm__law_choice an__law_choice cd__law_choice ct__law_choice), sl__law_choice⟩)
    (z__law_choice : PySem.W.codeIn K cd__law_choice "_law_choice" = true)
    (kk__law_choice : PySem.W.keepIn K (.ref f__law_choice) = true)
    (ag__law_choice : PySem.W.nsIn K mainGlobals "_law_choice" = some (some (.ref f__law_choice)))
    (l__law_integer : K.lookup f__law_integer = some ⟨oc__law_integer, od__law_integer, .func (PySem.W.fnOf "_law_integer" "_law_integer" (defArgs s__law_integer) (defBody s__law_integer) (defScope s__law_integer) .none kV__law_integer dc__law_integer pm__law_integer an__law_integer cd__law_integer ct__law_integer), sl__law_integer⟩)
    (z__law_integer : PySem.W.codeIn K cd__law_integer "_law_integer" = true)
    (kk__law_integer : PySem.W.keepIn K (.ref f__law_integer) = true)
    (ag__law_integer : PySem.W.nsIn K mainGlobals "_law_integer" = some (some (.ref f__law_integer)))
    (l__law_half : K.lookup f__law_half = some ⟨oc__law_half, od__law_half, .func (PySem.W.fnOf "_law_half" "_law_half" (defArgs s__law_half) (defBody s__law_half) (defScope s__law_half) .none kV__law_half dc__law_half pm__law_half an__law_half cd__law_half ct__law_half), sl__law_half⟩)
    (z__law_half : PySem.W.codeIn K cd__law_half "_law_half" = true)
    (kk__law_half : PySem.W.keepIn K (.ref f__law_half) = true)
    (ag__law_half : PySem.W.nsIn K mainGlobals "_law_half" = some (some (.ref f__law_half)))
    (l__law_wrap : K.lookup f__law_wrap = some ⟨oc__law_wrap, od__law_wrap, .func (PySem.W.fnOf "_law_wrap" "_law_wrap" (defArgs s__law_wrap) (defBody s__law_wrap) (defScope s__law_wrap) .none kV__law_wrap dc__law_wrap pm__law_wrap an__law_wrap cd__law_wrap ct__law_wrap), sl__law_wrap⟩)
    (z__law_wrap : PySem.W.codeIn K cd__law_wrap "_law_wrap" = true)
    (kk__law_wrap : PySem.W.keepIn K (.ref f__law_wrap) = true)
    (ag__law_wrap : PySem.W.nsIn K mainGlobals "_law_wrap" = some (some (.ref f__law_wrap)))
    (l__law_num : K.lookup f__law_num = some ⟨oc__law_num, od__law_num, .func (PySem.W.fnOf "_law_num" "_law_num" (defArgs s__law_num) (defBody s__law_num) (defScope s__law_num) .none kV__law_num dc__law_num pm__law_num an__law_num cd__law_num ct__law_num), sl__law_num⟩)
    (z__law_num : PySem.W.codeIn K cd__law_num "_law_num" = true)
    (kk__law_num : PySem.W.keepIn K (.ref f__law_num) = true)
    (ag__law_num : PySem.W.nsIn K mainGlobals "_law_num" = some (some (.ref f__law_num)))
    (l__law_bits : K.lookup f__law_bits = some ⟨oc__law_bits, od__law_bits, .func (PySem.W.fnOf "_law_bits" "_law_bits" (defArgs s__law_bits) (defBody s__law_bits) (defScope s__law_bits) .none kV__law_bits dc__law_bits pm__law_bits an__law_bits cd__law_bits ct__law_bits), sl__law_bits⟩)
    (z__law_bits : PySem.W.codeIn K cd__law_bits "_law_bits" = true)
    (kk__law_bits : PySem.W.keepIn K (.ref f__law_bits) = true)
    (ag__law_bits : PySem.W.nsIn K mainGlobals "_law_bits" = some (some (.ref f__law_bits)))
    (l__law_of_bits : K.lookup f__law_of_bits = some ⟨oc__law_of_bits, od__law_of_bits, .func (PySem.W.fnOf "_law_of_bits" "_law_of_bits" (defArgs s__law_of_bits) (defBody s__law_of_bits) (defScope s__law_of_bits) .none kV__law_of_bits dc__law_of_bits pm__law_of_bits an__law_of_bits cd__law_of_bits ct__law_of_bits), sl__law_of_bits⟩)
    (z__law_of_bits : PySem.W.codeIn K cd__law_of_bits "_law_of_bits" = true)
    (kk__law_of_bits : PySem.W.keepIn K (.ref f__law_of_bits) = true)
    (ag__law_of_bits : PySem.W.nsIn K mainGlobals "_law_of_bits" = some (some (.ref f__law_of_bits)))
    (l__law_sum : K.lookup f__law_sum = some ⟨oc__law_sum, od__law_sum, .func (PySem.W.fnOf "_law_sum" "_law_sum" (defArgs s__law_sum) (defBody s__law_sum) (defScope s__law_sum) .none kV__law_sum dc__law_sum pm__law_sum an__law_sum cd__law_sum ct__law_sum), sl__law_sum⟩)
    (z__law_sum : PySem.W.codeIn K cd__law_sum "_law_sum" = true)
    (kk__law_sum : PySem.W.keepIn K (.ref f__law_sum) = true)
    (ag__law_sum : PySem.W.nsIn K mainGlobals "_law_sum" = some (some (.ref f__law_sum)))
    (l__law_product : K.lookup f__law_product = some ⟨oc__law_product, od__law_product, .func (PySem.W.fnOf "_law_product" "_law_product" (defArgs s__law_product) (defBody s__law_product) (defScope s__law_product) .none kV__law_product dc__law_product pm__law_product an__law_product cd__law_product ct__law_product), sl__law_product⟩)
    (z__law_product : PySem.W.codeIn K cd__law_product "_law_product" = true)
    (kk__law_product : PySem.W.keepIn K (.ref f__law_product) = true)
    (ag__law_product : PySem.W.nsIn K mainGlobals "_law_product" = some (some (.ref f__law_product)))
    (l__law_joined : K.lookup f__law_joined = some ⟨oc__law_joined, od__law_joined, .func (PySem.W.fnOf "_law_joined" "_law_joined" (defArgs s__law_joined) (defBody s__law_joined) (defScope s__law_joined) .none kV__law_joined dc__law_joined pm__law_joined an__law_joined cd__law_joined ct__law_joined), sl__law_joined⟩)
    (z__law_joined : PySem.W.codeIn K cd__law_joined "_law_joined" = true)
    (kk__law_joined : PySem.W.keepIn K (.ref f__law_joined) = true)
    (ag__law_joined : PySem.W.nsIn K mainGlobals "_law_joined" = some (some (.ref f__law_joined)))
    (l__law_below : K.lookup f__law_below = some ⟨oc__law_below, od__law_below, .func (PySem.W.fnOf "_law_below" "_law_below" (defArgs s__law_below) (defBody s__law_below) (defScope s__law_below) .none kV__law_below dc__law_below pm__law_below an__law_below cd__law_below ct__law_below), sl__law_below⟩)
    (z__law_below : PySem.W.codeIn K cd__law_below "_law_below" = true)
    (kk__law_below : PySem.W.keepIn K (.ref f__law_below) = true)
    (ag__law_below : PySem.W.nsIn K mainGlobals "_law_below" = some (some (.ref f__law_below)))
    (l__law_turned : K.lookup f__law_turned = some ⟨oc__law_turned, od__law_turned, .func (PySem.W.fnOf "_law_turned" "_law_turned" (defArgs s__law_turned) (defBody s__law_turned) (defScope s__law_turned) .none kV__law_turned dc__law_turned pm__law_turned an__law_turned cd__law_turned ct__law_turned), sl__law_turned⟩)
    (z__law_turned : PySem.W.codeIn K cd__law_turned "_law_turned" = true)
    (kk__law_turned : PySem.W.keepIn K (.ref f__law_turned) = true)
    (ag__law_turned : PySem.W.nsIn K mainGlobals "_law_turned" = some (some (.ref f__law_turned)))
    (l__law_divided : K.lookup f__law_divided = some ⟨oc__law_divided, od__law_divided, .func (PySem.W.fnOf "_law_divided" "_law_divided" (defArgs s__law_divided) (defBody s__law_divided) (defScope s__law_divided) .none kV__law_divided dc__law_divided pm__law_divided an__law_divided cd__law_divided ct__law_divided), sl__law_divided⟩)
    (z__law_divided : PySem.W.codeIn K cd__law_divided "_law_divided" = true)
    (kk__law_divided : PySem.W.keepIn K (.ref f__law_divided) = true)
    (ag__law_divided : PySem.W.nsIn K mainGlobals "_law_divided" = some (some (.ref f__law_divided)))
    (l__law_due : K.lookup f__law_due = some ⟨oc__law_due, od__law_due, .func (PySem.W.fnOf "_law_due" "_law_due" (defArgs s__law_due) (defBody s__law_due) (defScope s__law_due) .none kV__law_due dc__law_due pm__law_due an__law_due cd__law_due ct__law_due), sl__law_due⟩)
    (z__law_due : PySem.W.codeIn K cd__law_due "_law_due" = true)
    (kk__law_due : PySem.W.keepIn K (.ref f__law_due) = true)
    (ag__law_due : PySem.W.nsIn K mainGlobals "_law_due" = some (some (.ref f__law_due)))
    (l__law_asked : K.lookup f__law_asked = some ⟨oc__law_asked, od__law_asked, .func (PySem.W.fnOf "_law_asked" "_law_asked" (defArgs s__law_asked) (defBody s__law_asked) (defScope s__law_asked) .none kV__law_asked dc__law_asked pm__law_asked an__law_asked cd__law_asked ct__law_asked), sl__law_asked⟩)
    (z__law_asked : PySem.W.codeIn K cd__law_asked "_law_asked" = true)
    (kk__law_asked : PySem.W.keepIn K (.ref f__law_asked) = true)
    (ag__law_asked : PySem.W.nsIn K mainGlobals "_law_asked" = some (some (.ref f__law_asked)))
    (l__law_same : K.lookup f__law_same = some ⟨oc__law_same, od__law_same, .func (PySem.W.fnOf "_law_same" "_law_same" (defArgs s__law_same) (defBody s__law_same) (defScope s__law_same) .none kV__law_same dc__law_same pm__law_same an__law_same cd__law_same ct__law_same), sl__law_same⟩)
    (z__law_same : PySem.W.codeIn K cd__law_same "_law_same" = true)
    (kk__law_same : PySem.W.keepIn K (.ref f__law_same) = true)
    (ag__law_same : PySem.W.nsIn K mainGlobals "_law_same" = some (some (.ref f__law_same)))
    (l__law_pair : K.lookup f__law_pair = some ⟨oc__law_pair, od__law_pair, .func (PySem.W.fnOf "_law_pair" "_law_pair" (defArgs s__law_pair) (defBody s__law_pair) (defScope s__law_pair) .none kV__law_pair dc__law_pair pm__law_pair an__law_pair cd__law_pair ct__law_pair), sl__law_pair⟩)
    (z__law_pair : PySem.W.codeIn K cd__law_pair "_law_pair" = true)
    (kk__law_pair : PySem.W.keepIn K (.ref f__law_pair) = true)
    (ag__law_pair : PySem.W.nsIn K mainGlobals "_law_pair" = some (some (.ref f__law_pair)))
    (l__law_act_right : K.lookup f__law_act_right = some ⟨oc__law_act_right, od__law_act_right, .func (PySem.W.fnOf "_law_act_right" "_law_act_right" (defArgs s__law_act_right) (defBody s__law_act_right) (defScope s__law_act_right) .none kV__law_act_right dc__law_act_right pm__law_act_right an__law_act_right cd__law_act_right ct__law_act_right), sl__law_act_right⟩)
    (z__law_act_right : PySem.W.codeIn K cd__law_act_right "_law_act_right" = true)
    (kk__law_act_right : PySem.W.keepIn K (.ref f__law_act_right) = true)
    (ag__law_act_right : PySem.W.nsIn K mainGlobals "_law_act_right" = some (some (.ref f__law_act_right)))
    (l__law_odd_number : K.lookup f__law_odd_number = some ⟨oc__law_odd_number, od__law_odd_number, .func (PySem.W.fnOf "_law_odd_number" "_law_odd_number" (defArgs s__law_odd_number) (defBody s__law_odd_number) (defScope s__law_odd_number) .none kV__law_odd_number dc__law_odd_number pm__law_odd_number an__law_odd_number cd__law_odd_number ct__law_odd_number), sl__law_odd_number⟩)
    (z__law_odd_number : PySem.W.codeIn K cd__law_odd_number "_law_odd_number" = true)
    (kk__law_odd_number : PySem.W.keepIn K (.ref f__law_odd_number) = true)
    (ag__law_odd_number : PySem.W.nsIn K mainGlobals "_law_odd_number" = some (some (.ref f__law_odd_number)))
    (l__law_odd_width : K.lookup f__law_odd_width = some ⟨oc__law_odd_width, od__law_odd_width, .func (PySem.W.fnOf "_law_odd_width" "_law_odd_width" (defArgs s__law_odd_width) (defBody s__law_odd_width) (defScope s__law_odd_width) .none kV__law_odd_width dc__law_odd_width pm__law_odd_width an__law_odd_width cd__law_odd_width ct__law_odd_width), sl__law_odd_width⟩)
    (z__law_odd_width : PySem.W.codeIn K cd__law_odd_width "_law_odd_width" = true)
    (kk__law_odd_width : PySem.W.keepIn K (.ref f__law_odd_width) = true)
    (ag__law_odd_width : PySem.W.nsIn K mainGlobals "_law_odd_width" = some (some (.ref f__law_odd_width)))
    (l__law_odd_op : K.lookup f__law_odd_op = some ⟨oc__law_odd_op, od__law_odd_op, .func (PySem.W.fnOf "_law_odd_op" "_law_odd_op" (defArgs s__law_odd_op) (defBody s__law_odd_op) (defScope s__law_odd_op) .none kV__law_odd_op dc__law_odd_op pm__law_odd_op an__law_odd_op cd__law_odd_op ct__law_odd_op), sl__law_odd_op⟩)
    (z__law_odd_op : PySem.W.codeIn K cd__law_odd_op "_law_odd_op" = true)
    (kk__law_odd_op : PySem.W.keepIn K (.ref f__law_odd_op) = true)
    (ag__law_odd_op : PySem.W.nsIn K mainGlobals "_law_odd_op" = some (some (.ref f__law_odd_op)))
    (l__law_refused : K.lookup f__law_refused = some ⟨oc__law_refused, od__law_refused, .func (PySem.W.fnOf "_law_refused" "_law_refused" (defArgs s__law_refused) (defBody s__law_refused) (defScope s__law_refused) .none kV__law_refused dc__law_refused pm__law_refused an__law_refused cd__law_refused ct__law_refused), sl__law_refused⟩)
    (z__law_refused : PySem.W.codeIn K cd__law_refused "_law_refused" = true)
    (kk__law_refused : PySem.W.keepIn K (.ref f__law_refused) = true)
    (ag__law_refused : PySem.W.nsIn K mainGlobals "_law_refused" = some (some (.ref f__law_refused)))
    (l_law : K.lookup f_law = some ⟨oc_law, od_law, .func (PySem.W.fnOf "law" "law" (defArgs s_law) (defBody s_law) (defScope s_law) .none kV_law dc_law pm_law an_law cd_law ct_law), sl_law⟩)
    (z_law : PySem.W.codeIn K cd_law "law" = true)
    (kk_law : PySem.W.keepIn K (.ref f_law) = true)
    (ag_law : PySem.W.nsIn K mainGlobals "law" = some (some (.ref f_law)))
    (ag_MintError : PySem.W.nsIn K mainGlobals "MintError" = some (some (.ref c_MintError)))
    (ag_BadWidth : PySem.W.nsIn K mainGlobals "BadWidth" = some (some (.ref c_BadWidth)))
    (xl_BadWidth : K.lookup c_BadWidth = some (excClassObj nm_BadWidth q_BadWidth c_BadWidth N_BadWidth bs_BadWidth bm_BadWidth true sn_BadWidth sub_BadWidth ab_BadWidth col_BadWidth dd_BadWidth m0_BadWidth m1_BadWidth m2_BadWidth m3_BadWidth m5_BadWidth "ValueError.__new__"))
    (rv_BadWidth : HandSPX.refsVE bm_BadWidth = true)
    (sa_BadWidth : PySem.W.findIn K (.ref c_BadWidth) "__setattr__" = some (some (.builtin "object.__setattr__")))
    (ex_BadWidth : PySem.W.subIn K (.ref c_BadWidth) (.type "BaseException") = some true)
    (ty_BadWidth : PySem.W.typeIn K (.ref c_BadWidth) = some (.type "type"))
    (kC_BadWidth : PySem.W.keepIn K (.ref c_BadWidth) = true)
    (ga_BadWidth : PySem.W.findIn K (.ref c_BadWidth) "__getattribute__" = some (some (.builtin "BaseException.__getattribute__")))
    (gg_BadWidth : PySem.W.findIn K (.ref c_BadWidth) "__getattr__" = some none)
    (hd_BadWidth : PySem.W.hasDictIn K c_BadWidth = true)
    (sn_get : PySem.W.specialIn K (.builtin "object.__class__") "__get__" = some (some (.builtin "getset_descriptor.__get__")))
    (st_get : PySem.W.takesIn K (.builtin "object.__class__") = some true)
    (hc_BadWidth : PySem.W.findIn K (.ref c_BadWidth) "__class__" = some (some (.builtin "object.__class__")))
    (mr_BadWidth : PySem.W.mroIn K c_BadWidth (.type "object") = some true)
    (F_BadWidth___init___0 : PySem.W.findIn K (.ref c_BadWidth) "__init__" = some (some (.ref f_BadWidth___init__)))
    (F_BadWidth___init___1 : PySem.W.typeIn K (.ref f_BadWidth___init__) = some (.type "function"))
    (F_BadWidth___init___2 : PySem.W.findIn K (.ref c_BadWidth) "width" = some none)
    (hm_BadWidth : PySem.W.exmOne K (.ref c_BadWidth) (.ref c_MintError) = some true)
    (hv_BadWidth : PySem.W.kitOne K (.ref c_BadWidth) (.type "ValueError") = some true)
    (hk_BadWidth_BadWidth : PySem.W.kitOne K (.ref c_BadWidth) (.ref c_BadWidth) = some true)
    (hk_BadWidth_BadNumber : PySem.W.kitOne K (.ref c_BadWidth) (.ref c_BadNumber) = some false)
    (hk_BadWidth_BadOp : PySem.W.kitOne K (.ref c_BadWidth) (.ref c_BadOp) = some false)
    (hk_BadWidth_ByZero : PySem.W.kitOne K (.ref c_BadWidth) (.ref c_ByZero) = some false)
    (ag_BadNumber : PySem.W.nsIn K mainGlobals "BadNumber" = some (some (.ref c_BadNumber)))
    (xl_BadNumber : K.lookup c_BadNumber = some (excClassObj nm_BadNumber q_BadNumber c_BadNumber N_BadNumber bs_BadNumber bm_BadNumber true sn_BadNumber sub_BadNumber ab_BadNumber col_BadNumber dd_BadNumber m0_BadNumber m1_BadNumber m2_BadNumber m3_BadNumber m5_BadNumber "ValueError.__new__"))
    (rv_BadNumber : HandSPX.refsVE bm_BadNumber = true)
    (sa_BadNumber : PySem.W.findIn K (.ref c_BadNumber) "__setattr__" = some (some (.builtin "object.__setattr__")))
    (ex_BadNumber : PySem.W.subIn K (.ref c_BadNumber) (.type "BaseException") = some true)
    (ty_BadNumber : PySem.W.typeIn K (.ref c_BadNumber) = some (.type "type"))
    (kC_BadNumber : PySem.W.keepIn K (.ref c_BadNumber) = true)
    (ga_BadNumber : PySem.W.findIn K (.ref c_BadNumber) "__getattribute__" = some (some (.builtin "BaseException.__getattribute__")))
    (gg_BadNumber : PySem.W.findIn K (.ref c_BadNumber) "__getattr__" = some none)
    (hd_BadNumber : PySem.W.hasDictIn K c_BadNumber = true)
    (hc_BadNumber : PySem.W.findIn K (.ref c_BadNumber) "__class__" = some (some (.builtin "object.__class__")))
    (mr_BadNumber : PySem.W.mroIn K c_BadNumber (.type "object") = some true)
    (F_BadNumber___init___0 : PySem.W.findIn K (.ref c_BadNumber) "__init__" = some (some (.ref f_BadNumber___init__)))
    (F_BadNumber___init___1 : PySem.W.typeIn K (.ref f_BadNumber___init__) = some (.type "function"))
    (F_BadNumber___init___2 : PySem.W.findIn K (.ref c_BadNumber) "number" = some none)
    (hm_BadNumber : PySem.W.exmOne K (.ref c_BadNumber) (.ref c_MintError) = some true)
    (hv_BadNumber : PySem.W.kitOne K (.ref c_BadNumber) (.type "ValueError") = some true)
    (hk_BadNumber_BadWidth : PySem.W.kitOne K (.ref c_BadNumber) (.ref c_BadWidth) = some false)
    (hk_BadNumber_BadNumber : PySem.W.kitOne K (.ref c_BadNumber) (.ref c_BadNumber) = some true)
    (hk_BadNumber_BadOp : PySem.W.kitOne K (.ref c_BadNumber) (.ref c_BadOp) = some false)
    (hk_BadNumber_ByZero : PySem.W.kitOne K (.ref c_BadNumber) (.ref c_ByZero) = some false)
    (ag_BadOp : PySem.W.nsIn K mainGlobals "BadOp" = some (some (.ref c_BadOp)))
    (xl_BadOp : K.lookup c_BadOp = some (excClassObj nm_BadOp q_BadOp c_BadOp N_BadOp bs_BadOp bm_BadOp true sn_BadOp sub_BadOp ab_BadOp col_BadOp dd_BadOp m0_BadOp m1_BadOp m2_BadOp m3_BadOp m5_BadOp "ValueError.__new__"))
    (rv_BadOp : HandSPX.refsVE bm_BadOp = true)
    (sa_BadOp : PySem.W.findIn K (.ref c_BadOp) "__setattr__" = some (some (.builtin "object.__setattr__")))
    (ex_BadOp : PySem.W.subIn K (.ref c_BadOp) (.type "BaseException") = some true)
    (ty_BadOp : PySem.W.typeIn K (.ref c_BadOp) = some (.type "type"))
    (kC_BadOp : PySem.W.keepIn K (.ref c_BadOp) = true)
    (ga_BadOp : PySem.W.findIn K (.ref c_BadOp) "__getattribute__" = some (some (.builtin "BaseException.__getattribute__")))
    (gg_BadOp : PySem.W.findIn K (.ref c_BadOp) "__getattr__" = some none)
    (hd_BadOp : PySem.W.hasDictIn K c_BadOp = true)
    (hc_BadOp : PySem.W.findIn K (.ref c_BadOp) "__class__" = some (some (.builtin "object.__class__")))
    (mr_BadOp : PySem.W.mroIn K c_BadOp (.type "object") = some true)
    (F_BadOp___init___0 : PySem.W.findIn K (.ref c_BadOp) "__init__" = some (some (.ref f_BadOp___init__)))
    (F_BadOp___init___1 : PySem.W.typeIn K (.ref f_BadOp___init__) = some (.type "function"))
    (F_BadOp___init___2 : PySem.W.findIn K (.ref c_BadOp) "op" = some none)
    (hm_BadOp : PySem.W.exmOne K (.ref c_BadOp) (.ref c_MintError) = some true)
    (hv_BadOp : PySem.W.kitOne K (.ref c_BadOp) (.type "ValueError") = some true)
    (hk_BadOp_BadWidth : PySem.W.kitOne K (.ref c_BadOp) (.ref c_BadWidth) = some false)
    (hk_BadOp_BadNumber : PySem.W.kitOne K (.ref c_BadOp) (.ref c_BadNumber) = some false)
    (hk_BadOp_BadOp : PySem.W.kitOne K (.ref c_BadOp) (.ref c_BadOp) = some true)
    (hk_BadOp_ByZero : PySem.W.kitOne K (.ref c_BadOp) (.ref c_ByZero) = some false)
    (ag_ByZero : PySem.W.nsIn K mainGlobals "ByZero" = some (some (.ref c_ByZero)))
    (xl_ByZero : K.lookup c_ByZero = some (excClassObj nm_ByZero q_ByZero c_ByZero N_ByZero bs_ByZero bm_ByZero true sn_ByZero sub_ByZero ab_ByZero col_ByZero dd_ByZero m0_ByZero m1_ByZero m2_ByZero m3_ByZero m5_ByZero "ValueError.__new__"))
    (rv_ByZero : HandSPX.refsVE bm_ByZero = true)
    (sa_ByZero : PySem.W.findIn K (.ref c_ByZero) "__setattr__" = some (some (.builtin "object.__setattr__")))
    (ex_ByZero : PySem.W.subIn K (.ref c_ByZero) (.type "BaseException") = some true)
    (ty_ByZero : PySem.W.typeIn K (.ref c_ByZero) = some (.type "type"))
    (kC_ByZero : PySem.W.keepIn K (.ref c_ByZero) = true)
    (ga_ByZero : PySem.W.findIn K (.ref c_ByZero) "__getattribute__" = some (some (.builtin "BaseException.__getattribute__")))
    (gg_ByZero : PySem.W.findIn K (.ref c_ByZero) "__getattr__" = some none)
    (hd_ByZero : PySem.W.hasDictIn K c_ByZero = true)
    (hc_ByZero : PySem.W.findIn K (.ref c_ByZero) "__class__" = some (some (.builtin "object.__class__")))
    (mr_ByZero : PySem.W.mroIn K c_ByZero (.type "object") = some true)
    (F_ByZero___init___0 : PySem.W.findIn K (.ref c_ByZero) "__init__" = some (some (.ref f_ByZero___init__)))
    (F_ByZero___init___1 : PySem.W.typeIn K (.ref f_ByZero___init__) = some (.type "function"))
    (F_ByZero___init___2 : PySem.W.findIn K (.ref c_ByZero) "number" = some none)
    (hm_ByZero : PySem.W.exmOne K (.ref c_ByZero) (.ref c_MintError) = some true)
    (hv_ByZero : PySem.W.kitOne K (.ref c_ByZero) (.type "ValueError") = some true)
    (hk_ByZero_BadWidth : PySem.W.kitOne K (.ref c_ByZero) (.ref c_BadWidth) = some false)
    (hk_ByZero_BadNumber : PySem.W.kitOne K (.ref c_ByZero) (.ref c_BadNumber) = some false)
    (hk_ByZero_BadOp : PySem.W.kitOne K (.ref c_ByZero) (.ref c_BadOp) = some false)
    (hk_ByZero_ByZero : PySem.W.kitOne K (.ref c_ByZero) (.ref c_ByZero) = some true)
    (ag_WIDTHS : PySem.W.nsIn K mainGlobals "WIDTHS" = some (some (.ref a_WIDTHS)))
    (lq_WIDTHS : K.lookup a_WIDTHS = some ⟨.type "tuple", oda_WIDTHS, .seq itsa_WIDTHS na_WIDTHS, sla_WIDTHS⟩)
    (sq_WIDTHS : itsa_WIDTHS.size ≤ sizeLine)
    (vq_WIDTHS : Vals [V.int 16, V.int 24, V.int 32] itsa_WIDTHS.toList)
    (ag_ARITHMETIC : PySem.W.nsIn K mainGlobals "ARITHMETIC" = some (some (.ref a_ARITHMETIC)))
    (lq_ARITHMETIC : K.lookup a_ARITHMETIC = some ⟨.type "tuple", oda_ARITHMETIC, .seq itsa_ARITHMETIC na_ARITHMETIC, sla_ARITHMETIC⟩)
    (sq_ARITHMETIC : itsa_ARITHMETIC.size ≤ sizeLine)
    (vq_ARITHMETIC : Vals [V.str "+", V.str "-", V.str "*", V.str "/", V.str "mod", V.str "and", V.str "or", V.str "xor", V.str "=", V.str "<", V.str "u<", V.str "invert", V.str "0="] itsa_ARITHMETIC.toList)
    (ag_SINGLE : PySem.W.nsIn K mainGlobals "SINGLE" = some (some (.ref a_SINGLE)))
    (lq_SINGLE : K.lookup a_SINGLE = some ⟨.type "tuple", oda_SINGLE, .seq itsa_SINGLE na_SINGLE, sla_SINGLE⟩)
    (sq_SINGLE : itsa_SINGLE.size ≤ sizeLine)
    (vq_SINGLE : Vals [V.str "invert", V.str "0="] itsa_SINGLE.toList)
    (an_ValueError : PySem.W.nsIn K mainGlobals "ValueError" = some none)
    (an_abs : PySem.W.nsIn K mainGlobals "abs" = some none)
    (an_bool : PySem.W.nsIn K mainGlobals "bool" = some none)
    (an_int : PySem.W.nsIn K mainGlobals "int" = some none)
    (an_isinstance : PySem.W.nsIn K mainGlobals "isinstance" = some none)
    (an_len : PySem.W.nsIn K mainGlobals "len" = some none)
    (an_list : PySem.W.nsIn K mainGlobals "list" = some none)
    (an_min : PySem.W.nsIn K mainGlobals "min" = some none)
    (an_range : PySem.W.nsIn K mainGlobals "range" = some none)
    (an_tuple : PySem.W.nsIn K mainGlobals "tuple" = some none) : ∃ M : TX K mg, M.f_law = fa ∧ ∀ (s : Shared) (v : Value), BindsTo s M.d_law ⟨[v], []⟩ [("_law_script", v)] := by
  have e := hfa.symm.trans (PySem.W.mg_of X G ag_law)
  obtain rfl : f_law = fa := by
    injection e with e
    injection e with e
    exact e.symm
  have E_BadWidth___init__ := fun_mk (st := s_BadWidth___init__) l_BadWidth___init__ z_BadWidth___init__ kk_BadWidth___init__
  have E_BadNumber___init__ := fun_mk (st := s_BadNumber___init__) l_BadNumber___init__ z_BadNumber___init__ kk_BadNumber___init__
  have E_BadOp___init__ := fun_mk (st := s_BadOp___init__) l_BadOp___init__ z_BadOp___init__ kk_BadOp___init__
  have E_ByZero___init__ := fun_mk (st := s_ByZero___init__) l_ByZero___init__ z_ByZero___init__ kk_ByZero___init__
  have F_is_integer := fun_mk (st := s_is_integer) l_is_integer z_is_integer kk_is_integer
  have F_is_between := fun_mk (st := s_is_between) l_is_between z_is_between kk_is_between
  have F_check_width := fun_mk (st := s_check_width) l_check_width z_check_width kk_check_width
  have F_check_number := fun_mk (st := s_check_number) l_check_number z_check_number kk_check_number
  have F_half := fun_mk (st := s_half) l_half z_half kk_half
  have F_wrap := fun_mk (st := s_wrap) l_wrap z_wrap kk_wrap
  have F_is_number := fun_mk (st := s_is_number) l_is_number z_is_number kk_is_number
  have F_truth := fun_mk (st := s_truth) l_truth z_truth kk_truth
  have F_divided := fun_mk (st := s_divided) l_divided z_divided kk_divided
  have F_of_two := fun_mk (st := s_of_two) l_of_two z_of_two kk_of_two
  have F_result_of := fun_mk (st := s_result_of) l_result_of z_result_of kk_result_of
  have F_work := fun_mk (st := s_work) l_work z_work kk_work
  have F__law_bag := fun_mk (st := s__law_bag) l__law_bag z__law_bag kk__law_bag
  have F__law_pick := fun_mk (st := s__law_pick) l__law_pick z__law_pick kk__law_pick
  have F__law_choice := fun_mk (st := s__law_choice) l__law_choice z__law_choice kk__law_choice
  have F__law_integer := fun_mk (st := s__law_integer) l__law_integer z__law_integer kk__law_integer
  have F__law_half := fun_mk (st := s__law_half) l__law_half z__law_half kk__law_half
  have F__law_wrap := fun_mk (st := s__law_wrap) l__law_wrap z__law_wrap kk__law_wrap
  have F__law_num := fun_mk (st := s__law_num) l__law_num z__law_num kk__law_num
  have F__law_bits := fun_mk (st := s__law_bits) l__law_bits z__law_bits kk__law_bits
  have F__law_of_bits := fun_mk (st := s__law_of_bits) l__law_of_bits z__law_of_bits kk__law_of_bits
  have F__law_sum := fun_mk (st := s__law_sum) l__law_sum z__law_sum kk__law_sum
  have F__law_product := fun_mk (st := s__law_product) l__law_product z__law_product kk__law_product
  have F__law_joined := fun_mk (st := s__law_joined) l__law_joined z__law_joined kk__law_joined
  have F__law_below := fun_mk (st := s__law_below) l__law_below z__law_below kk__law_below
  have F__law_turned := fun_mk (st := s__law_turned) l__law_turned z__law_turned kk__law_turned
  have F__law_divided := fun_mk (st := s__law_divided) l__law_divided z__law_divided kk__law_divided
  have F__law_due := fun_mk (st := s__law_due) l__law_due z__law_due kk__law_due
  have F__law_asked := fun_mk (st := s__law_asked) l__law_asked z__law_asked kk__law_asked
  have F__law_same := fun_mk (st := s__law_same) l__law_same z__law_same kk__law_same
  have F__law_pair := fun_mk (st := s__law_pair) l__law_pair z__law_pair kk__law_pair
  have F__law_act_right := fun_mk (st := s__law_act_right) l__law_act_right z__law_act_right kk__law_act_right
  have F__law_odd_number := fun_mk (st := s__law_odd_number) l__law_odd_number z__law_odd_number kk__law_odd_number
  have F__law_odd_width := fun_mk (st := s__law_odd_width) l__law_odd_width z__law_odd_width kk__law_odd_width
  have F__law_odd_op := fun_mk (st := s__law_odd_op) l__law_odd_op z__law_odd_op kk__law_odd_op
  have F__law_refused := fun_mk (st := s__law_refused) l__law_refused z__law_refused kk__law_refused
  have F_law := fun_mk (st := s_law) l_law z_law kk_law
  exact ⟨{
    f_BadWidth___init__ := f_BadWidth___init__,
    d_BadWidth___init__ := _,
    E_BadWidth___init__ := E_BadWidth___init__,
    b_BadWidth___init__ := E_BadWidth___init__.binds (ps := ["self", "width"]) fun _ _ _ _ _ _ us hl => match us, hl with | [_, _], _ => rfl,
    f_BadNumber___init__ := f_BadNumber___init__,
    d_BadNumber___init__ := _,
    E_BadNumber___init__ := E_BadNumber___init__,
    b_BadNumber___init__ := E_BadNumber___init__.binds (ps := ["self", "number"]) fun _ _ _ _ _ _ us hl => match us, hl with | [_, _], _ => rfl,
    f_BadOp___init__ := f_BadOp___init__,
    d_BadOp___init__ := _,
    E_BadOp___init__ := E_BadOp___init__,
    b_BadOp___init__ := E_BadOp___init__.binds (ps := ["self", "op"]) fun _ _ _ _ _ _ us hl => match us, hl with | [_, _], _ => rfl,
    f_ByZero___init__ := f_ByZero___init__,
    d_ByZero___init__ := _,
    E_ByZero___init__ := E_ByZero___init__,
    b_ByZero___init__ := E_ByZero___init__.binds (ps := ["self", "number"]) fun _ _ _ _ _ _ us hl => match us, hl with | [_, _], _ => rfl,
    f_is_integer := f_is_integer,
    d_is_integer := _,
    F_is_integer := F_is_integer,
    g_is_integer := PySem.W.mg_of X G ag_is_integer,
    k_is_integer := kk_is_integer,
    b_is_integer := F_is_integer.binds (ps := ["thing"]) fun _ _ _ _ _ _ us hl => match us, hl with | [_], _ => rfl,
    f_is_between := f_is_between,
    d_is_between := _,
    F_is_between := F_is_between,
    g_is_between := PySem.W.mg_of X G ag_is_between,
    k_is_between := kk_is_between,
    b_is_between := F_is_between.binds (ps := ["thing", "low", "high"]) fun _ _ _ _ _ _ us hl => match us, hl with | [_, _, _], _ => rfl,
    f_check_width := f_check_width,
    d_check_width := _,
    F_check_width := F_check_width,
    g_check_width := PySem.W.mg_of X G ag_check_width,
    k_check_width := kk_check_width,
    b_check_width := F_check_width.binds (ps := ["width"]) fun _ _ _ _ _ _ us hl => match us, hl with | [_], _ => rfl,
    f_check_number := f_check_number,
    d_check_number := _,
    F_check_number := F_check_number,
    g_check_number := PySem.W.mg_of X G ag_check_number,
    k_check_number := kk_check_number,
    b_check_number := F_check_number.binds (ps := ["width", "thing"]) fun _ _ _ _ _ _ us hl => match us, hl with | [_, _], _ => rfl,
    f_half := f_half,
    d_half := _,
    F_half := F_half,
    g_half := PySem.W.mg_of X G ag_half,
    k_half := kk_half,
    b_half := F_half.binds (ps := ["width"]) fun _ _ _ _ _ _ us hl => match us, hl with | [_], _ => rfl,
    f_wrap := f_wrap,
    d_wrap := _,
    F_wrap := F_wrap,
    g_wrap := PySem.W.mg_of X G ag_wrap,
    k_wrap := kk_wrap,
    b_wrap := F_wrap.binds (ps := ["width", "number"]) fun _ _ _ _ _ _ us hl => match us, hl with | [_, _], _ => rfl,
    f_is_number := f_is_number,
    d_is_number := _,
    F_is_number := F_is_number,
    g_is_number := PySem.W.mg_of X G ag_is_number,
    k_is_number := kk_is_number,
    b_is_number := F_is_number.binds (ps := ["width", "thing"]) fun _ _ _ _ _ _ us hl => match us, hl with | [_, _], _ => rfl,
    f_truth := f_truth,
    d_truth := _,
    F_truth := F_truth,
    g_truth := PySem.W.mg_of X G ag_truth,
    k_truth := kk_truth,
    b_truth := F_truth.binds (ps := ["holds"]) fun _ _ _ _ _ _ us hl => match us, hl with | [_], _ => rfl,
    f_divided := f_divided,
    d_divided := _,
    F_divided := F_divided,
    g_divided := PySem.W.mg_of X G ag_divided,
    k_divided := kk_divided,
    b_divided := F_divided.binds (ps := ["op", "left", "right"]) fun _ _ _ _ _ _ us hl => match us, hl with | [_, _, _], _ => rfl,
    f_of_two := f_of_two,
    d_of_two := _,
    F_of_two := F_of_two,
    g_of_two := PySem.W.mg_of X G ag_of_two,
    k_of_two := kk_of_two,
    b_of_two := F_of_two.binds (ps := ["width", "op", "left", "right"]) fun _ _ _ _ _ _ us hl => match us, hl with | [_, _, _, _], _ => rfl,
    f_result_of := f_result_of,
    d_result_of := _,
    F_result_of := F_result_of,
    g_result_of := PySem.W.mg_of X G ag_result_of,
    k_result_of := kk_result_of,
    b_result_of := F_result_of.binds (ps := ["width", "op", "numbers"]) fun _ _ _ _ _ _ us hl => match us, hl with | [_, _, _], _ => rfl,
    f_work := f_work,
    d_work := _,
    F_work := F_work,
    g_work := PySem.W.mg_of X G ag_work,
    k_work := kk_work,
    f__law_bag := f__law_bag,
    d__law_bag := _,
    F__law_bag := F__law_bag,
    g__law_bag := PySem.W.mg_of X G ag__law_bag,
    k__law_bag := kk__law_bag,
    b__law_bag := F__law_bag.binds (ps := ["_law_script"]) fun _ _ _ _ _ _ us hl => match us, hl with | [_], _ => rfl,
    f__law_pick := f__law_pick,
    d__law_pick := _,
    F__law_pick := F__law_pick,
    g__law_pick := PySem.W.mg_of X G ag__law_pick,
    k__law_pick := kk__law_pick,
    b__law_pick := F__law_pick.binds (ps := ["_law_bag_here", "_law_many"]) fun _ _ _ _ _ _ us hl => match us, hl with | [_, _], _ => rfl,
    f__law_choice := f__law_choice,
    d__law_choice := _,
    F__law_choice := F__law_choice,
    g__law_choice := PySem.W.mg_of X G ag__law_choice,
    k__law_choice := kk__law_choice,
    b__law_choice := F__law_choice.binds (ps := ["_law_bag_here", "_law_things"]) fun _ _ _ _ _ _ us hl => match us, hl with | [_, _], _ => rfl,
    f__law_integer := f__law_integer,
    d__law_integer := _,
    F__law_integer := F__law_integer,
    g__law_integer := PySem.W.mg_of X G ag__law_integer,
    k__law_integer := kk__law_integer,
    b__law_integer := F__law_integer.binds (ps := ["_law_thing"]) fun _ _ _ _ _ _ us hl => match us, hl with | [_], _ => rfl,
    f__law_half := f__law_half,
    d__law_half := _,
    F__law_half := F__law_half,
    g__law_half := PySem.W.mg_of X G ag__law_half,
    k__law_half := kk__law_half,
    b__law_half := F__law_half.binds (ps := ["_law_width"]) fun _ _ _ _ _ _ us hl => match us, hl with | [_], _ => rfl,
    f__law_wrap := f__law_wrap,
    d__law_wrap := _,
    F__law_wrap := F__law_wrap,
    g__law_wrap := PySem.W.mg_of X G ag__law_wrap,
    k__law_wrap := kk__law_wrap,
    b__law_wrap := F__law_wrap.binds (ps := ["_law_width", "_law_number"]) fun _ _ _ _ _ _ us hl => match us, hl with | [_, _], _ => rfl,
    f__law_num := f__law_num,
    d__law_num := _,
    F__law_num := F__law_num,
    g__law_num := PySem.W.mg_of X G ag__law_num,
    k__law_num := kk__law_num,
    b__law_num := F__law_num.binds (ps := ["_law_bag_here", "_law_width"]) fun _ _ _ _ _ _ us hl => match us, hl with | [_, _], _ => rfl,
    f__law_bits := f__law_bits,
    d__law_bits := _,
    F__law_bits := F__law_bits,
    g__law_bits := PySem.W.mg_of X G ag__law_bits,
    k__law_bits := kk__law_bits,
    b__law_bits := F__law_bits.binds (ps := ["_law_width", "_law_number"]) fun _ _ _ _ _ _ us hl => match us, hl with | [_, _], _ => rfl,
    f__law_of_bits := f__law_of_bits,
    d__law_of_bits := _,
    F__law_of_bits := F__law_of_bits,
    g__law_of_bits := PySem.W.mg_of X G ag__law_of_bits,
    k__law_of_bits := kk__law_of_bits,
    b__law_of_bits := F__law_of_bits.binds (ps := ["_law_row"]) fun _ _ _ _ _ _ us hl => match us, hl with | [_], _ => rfl,
    f__law_sum := f__law_sum,
    d__law_sum := _,
    F__law_sum := F__law_sum,
    g__law_sum := PySem.W.mg_of X G ag__law_sum,
    k__law_sum := kk__law_sum,
    b__law_sum := F__law_sum.binds (ps := ["_law_first", "_law_second", "_law_carry"]) fun _ _ _ _ _ _ us hl => match us, hl with | [_, _, _], _ => rfl,
    f__law_product := f__law_product,
    d__law_product := _,
    F__law_product := F__law_product,
    g__law_product := PySem.W.mg_of X G ag__law_product,
    k__law_product := kk__law_product,
    b__law_product := F__law_product.binds (ps := ["_law_first", "_law_second"]) fun _ _ _ _ _ _ us hl => match us, hl with | [_, _], _ => rfl,
    f__law_joined := f__law_joined,
    d__law_joined := _,
    F__law_joined := F__law_joined,
    g__law_joined := PySem.W.mg_of X G ag__law_joined,
    k__law_joined := kk__law_joined,
    b__law_joined := F__law_joined.binds (ps := ["_law_op", "_law_first", "_law_second"]) fun _ _ _ _ _ _ us hl => match us, hl with | [_, _, _], _ => rfl,
    f__law_below := f__law_below,
    d__law_below := _,
    F__law_below := F__law_below,
    g__law_below := PySem.W.mg_of X G ag__law_below,
    k__law_below := kk__law_below,
    b__law_below := F__law_below.binds (ps := ["_law_first", "_law_second"]) fun _ _ _ _ _ _ us hl => match us, hl with | [_, _], _ => rfl,
    f__law_turned := f__law_turned,
    d__law_turned := _,
    F__law_turned := F__law_turned,
    g__law_turned := PySem.W.mg_of X G ag__law_turned,
    k__law_turned := kk__law_turned,
    b__law_turned := F__law_turned.binds (ps := ["_law_row"]) fun _ _ _ _ _ _ us hl => match us, hl with | [_], _ => rfl,
    f__law_divided := f__law_divided,
    d__law_divided := _,
    F__law_divided := F__law_divided,
    g__law_divided := PySem.W.mg_of X G ag__law_divided,
    k__law_divided := kk__law_divided,
    b__law_divided := F__law_divided.binds (ps := ["_law_left", "_law_right"]) fun _ _ _ _ _ _ us hl => match us, hl with | [_, _], _ => rfl,
    f__law_due := f__law_due,
    d__law_due := _,
    F__law_due := F__law_due,
    g__law_due := PySem.W.mg_of X G ag__law_due,
    k__law_due := kk__law_due,
    b__law_due := F__law_due.binds (ps := ["_law_width", "_law_op", "_law_left", "_law_right"]) fun _ _ _ _ _ _ us hl => match us, hl with | [_, _, _, _], _ => rfl,
    f__law_asked := f__law_asked,
    d__law_asked := _,
    F__law_asked := F__law_asked,
    g__law_asked := PySem.W.mg_of X G ag__law_asked,
    k__law_asked := kk__law_asked,
    b__law_asked := F__law_asked.binds (ps := ["_law_width", "_law_op", "_law_numbers"]) fun _ _ _ _ _ _ us hl => match us, hl with | [_, _, _], _ => rfl,
    f__law_same := f__law_same,
    d__law_same := _,
    F__law_same := F__law_same,
    g__law_same := PySem.W.mg_of X G ag__law_same,
    k__law_same := kk__law_same,
    b__law_same := F__law_same.binds (ps := ["_law_told", "_law_due_here"]) fun _ _ _ _ _ _ us hl => match us, hl with | [_, _], _ => rfl,
    f__law_pair := f__law_pair,
    d__law_pair := _,
    F__law_pair := F__law_pair,
    g__law_pair := PySem.W.mg_of X G ag__law_pair,
    k__law_pair := kk__law_pair,
    b__law_pair := F__law_pair.binds (ps := ["_law_bag_here", "_law_width"]) fun _ _ _ _ _ _ us hl => match us, hl with | [_, _], _ => rfl,
    f__law_act_right := f__law_act_right,
    d__law_act_right := _,
    F__law_act_right := F__law_act_right,
    g__law_act_right := PySem.W.mg_of X G ag__law_act_right,
    k__law_act_right := kk__law_act_right,
    b__law_act_right := F__law_act_right.binds (ps := ["_law_bag_here", "_law_width", "_law_op"]) fun _ _ _ _ _ _ us hl => match us, hl with | [_, _, _], _ => rfl,
    f__law_odd_number := f__law_odd_number,
    d__law_odd_number := _,
    F__law_odd_number := F__law_odd_number,
    g__law_odd_number := PySem.W.mg_of X G ag__law_odd_number,
    k__law_odd_number := kk__law_odd_number,
    b__law_odd_number := F__law_odd_number.binds (ps := ["_law_bag_here", "_law_width"]) fun _ _ _ _ _ _ us hl => match us, hl with | [_, _], _ => rfl,
    f__law_odd_width := f__law_odd_width,
    d__law_odd_width := _,
    F__law_odd_width := F__law_odd_width,
    g__law_odd_width := PySem.W.mg_of X G ag__law_odd_width,
    k__law_odd_width := kk__law_odd_width,
    b__law_odd_width := F__law_odd_width.binds (ps := ["_law_bag_here"]) fun _ _ _ _ _ _ us hl => match us, hl with | [_], _ => rfl,
    f__law_odd_op := f__law_odd_op,
    d__law_odd_op := _,
    F__law_odd_op := F__law_odd_op,
    g__law_odd_op := PySem.W.mg_of X G ag__law_odd_op,
    k__law_odd_op := kk__law_odd_op,
    b__law_odd_op := F__law_odd_op.binds (ps := ["_law_bag_here"]) fun _ _ _ _ _ _ us hl => match us, hl with | [_], _ => rfl,
    f__law_refused := f__law_refused,
    d__law_refused := _,
    F__law_refused := F__law_refused,
    g__law_refused := PySem.W.mg_of X G ag__law_refused,
    k__law_refused := kk__law_refused,
    b__law_refused := F__law_refused.binds (ps := ["_law_bag_here"]) fun _ _ _ _ _ _ us hl => match us, hl with | [_], _ => rfl,
    f_law := f_law,
    d_law := _,
    F_law := F_law,
    g_law := PySem.W.mg_of X G ag_law,
    k_law := kk_law,
    b_law := F_law.binds (ps := ["_law_script"]) fun _ _ _ _ _ _ us hl => match us, hl with | [_], _ => rfl,
    c_MintError := c_MintError,
    c_BadWidth := c_BadWidth,
    c_BadNumber := c_BadNumber,
    c_BadOp := c_BadOp,
    c_ByZero := c_ByZero,
    g_MintError := PySem.W.mg_of X G ag_MintError,
    g_BadWidth := PySem.W.mg_of X G ag_BadWidth,
    o_BadWidth := ⟨⟨nm_BadWidth, q_BadWidth, N_BadWidth, bs_BadWidth, bm_BadWidth, sn_BadWidth, sub_BadWidth, ab_BadWidth, col_BadWidth, dd_BadWidth, m0_BadWidth, m1_BadWidth, m2_BadWidth, m3_BadWidth, m5_BadWidth, xl_BadWidth, rv_BadWidth⟩, sa_BadWidth, ex_BadWidth, ty_BadWidth, kC_BadWidth⟩,
    x_BadWidth := ⟨ga_BadWidth, gg_BadWidth, ex_BadWidth, hd_BadWidth⟩,
    e_BadWidth := ⟨ga_BadWidth, gg_BadWidth, ex_BadWidth, hd_BadWidth, hc_BadWidth, sn_get, st_get, mr_BadWidth⟩,
    F_BadWidth___init__ := ⟨F_BadWidth___init___0, F_BadWidth___init___1, F_BadWidth___init___2⟩,
    m_BadWidth := hm_BadWidth,
    v_BadWidth := hv_BadWidth,
    k_BadWidth_BadWidth := hk_BadWidth_BadWidth,
    k_BadWidth_BadNumber := hk_BadWidth_BadNumber,
    k_BadWidth_BadOp := hk_BadWidth_BadOp,
    k_BadWidth_ByZero := hk_BadWidth_ByZero,
    g_BadNumber := PySem.W.mg_of X G ag_BadNumber,
    o_BadNumber := ⟨⟨nm_BadNumber, q_BadNumber, N_BadNumber, bs_BadNumber, bm_BadNumber, sn_BadNumber, sub_BadNumber, ab_BadNumber, col_BadNumber, dd_BadNumber, m0_BadNumber, m1_BadNumber, m2_BadNumber, m3_BadNumber, m5_BadNumber, xl_BadNumber, rv_BadNumber⟩, sa_BadNumber, ex_BadNumber, ty_BadNumber, kC_BadNumber⟩,
    x_BadNumber := ⟨ga_BadNumber, gg_BadNumber, ex_BadNumber, hd_BadNumber⟩,
    e_BadNumber := ⟨ga_BadNumber, gg_BadNumber, ex_BadNumber, hd_BadNumber, hc_BadNumber, sn_get, st_get, mr_BadNumber⟩,
    F_BadNumber___init__ := ⟨F_BadNumber___init___0, F_BadNumber___init___1, F_BadNumber___init___2⟩,
    m_BadNumber := hm_BadNumber,
    v_BadNumber := hv_BadNumber,
    k_BadNumber_BadWidth := hk_BadNumber_BadWidth,
    k_BadNumber_BadNumber := hk_BadNumber_BadNumber,
    k_BadNumber_BadOp := hk_BadNumber_BadOp,
    k_BadNumber_ByZero := hk_BadNumber_ByZero,
    g_BadOp := PySem.W.mg_of X G ag_BadOp,
    o_BadOp := ⟨⟨nm_BadOp, q_BadOp, N_BadOp, bs_BadOp, bm_BadOp, sn_BadOp, sub_BadOp, ab_BadOp, col_BadOp, dd_BadOp, m0_BadOp, m1_BadOp, m2_BadOp, m3_BadOp, m5_BadOp, xl_BadOp, rv_BadOp⟩, sa_BadOp, ex_BadOp, ty_BadOp, kC_BadOp⟩,
    x_BadOp := ⟨ga_BadOp, gg_BadOp, ex_BadOp, hd_BadOp⟩,
    e_BadOp := ⟨ga_BadOp, gg_BadOp, ex_BadOp, hd_BadOp, hc_BadOp, sn_get, st_get, mr_BadOp⟩,
    F_BadOp___init__ := ⟨F_BadOp___init___0, F_BadOp___init___1, F_BadOp___init___2⟩,
    m_BadOp := hm_BadOp,
    v_BadOp := hv_BadOp,
    k_BadOp_BadWidth := hk_BadOp_BadWidth,
    k_BadOp_BadNumber := hk_BadOp_BadNumber,
    k_BadOp_BadOp := hk_BadOp_BadOp,
    k_BadOp_ByZero := hk_BadOp_ByZero,
    g_ByZero := PySem.W.mg_of X G ag_ByZero,
    o_ByZero := ⟨⟨nm_ByZero, q_ByZero, N_ByZero, bs_ByZero, bm_ByZero, sn_ByZero, sub_ByZero, ab_ByZero, col_ByZero, dd_ByZero, m0_ByZero, m1_ByZero, m2_ByZero, m3_ByZero, m5_ByZero, xl_ByZero, rv_ByZero⟩, sa_ByZero, ex_ByZero, ty_ByZero, kC_ByZero⟩,
    x_ByZero := ⟨ga_ByZero, gg_ByZero, ex_ByZero, hd_ByZero⟩,
    e_ByZero := ⟨ga_ByZero, gg_ByZero, ex_ByZero, hd_ByZero, hc_ByZero, sn_get, st_get, mr_ByZero⟩,
    F_ByZero___init__ := ⟨F_ByZero___init___0, F_ByZero___init___1, F_ByZero___init___2⟩,
    m_ByZero := hm_ByZero,
    v_ByZero := hv_ByZero,
    k_ByZero_BadWidth := hk_ByZero_BadWidth,
    k_ByZero_BadNumber := hk_ByZero_BadNumber,
    k_ByZero_BadOp := hk_ByZero_BadOp,
    k_ByZero_ByZero := hk_ByZero_ByZero,
    a_WIDTHS := a_WIDTHS,
    g_WIDTHS := PySem.W.mg_of X G ag_WIDTHS,
    q_WIDTHS := fun H => Or.inr ⟨_, _, _, lq_WIDTHS, rfl, rfl, sq_WIDTHS, vq_WIDTHS⟩,
    a_ARITHMETIC := a_ARITHMETIC,
    g_ARITHMETIC := PySem.W.mg_of X G ag_ARITHMETIC,
    q_ARITHMETIC := fun H => Or.inr ⟨_, _, _, lq_ARITHMETIC, rfl, rfl, sq_ARITHMETIC, vq_ARITHMETIC⟩,
    a_SINGLE := a_SINGLE,
    g_SINGLE := PySem.W.mg_of X G ag_SINGLE,
    q_SINGLE := fun H => Or.inr ⟨_, _, _, lq_SINGLE, rfl, rfl, sq_SINGLE, vq_SINGLE⟩,
    n_ValueError := PySem.W.mg_none_of X G an_ValueError,
    n_abs := PySem.W.mg_none_of X G an_abs,
    n_bool := PySem.W.mg_none_of X G an_bool,
    n_int := PySem.W.mg_none_of X G an_int,
    n_isinstance := PySem.W.mg_none_of X G an_isinstance,
    n_len := PySem.W.mg_none_of X G an_len,
    n_list := PySem.W.mg_none_of X G an_list,
    n_min := PySem.W.mg_none_of X G an_min,
    n_range := PySem.W.mg_none_of X G an_range,
    n_tuple := PySem.W.mg_none_of X G an_tuple }, rfl, fun s v => .of_eq rfl⟩
theorem last_walk {l : PySem.W.OpenLaw} {K : Params → PySem.W.Frag}
    {q : Program} {d : DefRec} {XP : (Str → Option Value) → Heap → Prop}
    {loose : List Str} {YP : World → Heap → Prop}
    (hn : l.most = some 63) (hdf : d.params.defaults = []) (hnm : d.name = "law")
    (hY : ∀ (w : World) (h : Heap), YP w h →
      (K w.params).In h)
    (F : ∀ (w : World) (mg : Str → Option Value) (fa : Addr) (h : Heap),
      (K w.params).In h → h.Ns mainGlobals mg → mg "law" = some (.ref fa) →
      ∃ M : TX (K w.params) mg, M.f_law = fa ∧
        ∀ (s : Shared) (v : Value), BindsTo s M.d_law ⟨[v], []⟩ [("_law_script", v)]) :
    PySem.W.WalkO q loose XP YP
      l.row.toRowW d [] fun f vs =>
        PySem.call f vs :=
  L2.walk_of (n := 63) (k := 10) (x := "_law_script")
    (CX := fun w => L2.CX l.prog w) (sp := fun w => spLaw (K w.params))
    hn (by decide) hdf ⟨rfl, by decide, by decide⟩ hY
    (fun w mg fa h KX G hmg => by
      obtain ⟨M, rfl, bd⟩ := F w mg fa h KX G (hnm ▸ hmg)
      exact ⟨M.d_law, bd, fun base _ _ => ok_law M⟩)
    (fun _ _ a ns hl _ hS => ⟨_, rfl, a, ns, rfl, hS, hl, fun _ => rfl⟩)
    fun _ _ _ _ _ ⟨_, _, _, _, _, _, _, _, _, _, _, _, z⟩ => z
end K01
end
open PySem PySem.W PyProof.Rows
set_option maxRecDepth 100000 in
set_option maxHeartbeats 0 in
theorem PySem.Challenge.cw_wordmint_k01_arithmetic_holds : PySem.Challenge.rw_wordmint_k01_arithmetic.Holds := by
  w_on
  o_law
  k_head
  (case hw => w_witness2)
  k_fill
  refine K01.last_walk (l := PySem.Challenge.rw_wordmint_k01_arithmetic) rfl rfl rfl
    (fun w h Y => PySem.W.kIn_of Y) ?F
  case F =>
    intro w mg fa h KX G hmg
    refine' K01.all_mk KX G hmg ?l_BadWidth___init__ ?z_BadWidth___init__ ?kk_BadWidth___init__ ?l_BadNumber___init__ ?z_BadNumber___init__ ?kk_BadNumber___init__ ?l_BadOp___init__ ?z_BadOp___init__ ?kk_BadOp___init__ ?l_ByZero___init__ ?z_ByZero___init__ ?kk_ByZero___init__ ?l_is_integer ?z_is_integer ?kk_is_integer ?ag_is_integer ?l_is_between ?z_is_between ?kk_is_between ?ag_is_between ?l_check_width ?z_check_width ?kk_check_width ?ag_check_width ?l_check_number ?z_check_number ?kk_check_number ?ag_check_number ?l_half ?z_half ?kk_half ?ag_half ?l_wrap ?z_wrap ?kk_wrap ?ag_wrap ?l_is_number ?z_is_number ?kk_is_number ?ag_is_number ?l_truth ?z_truth ?kk_truth ?ag_truth ?l_divided ?z_divided ?kk_divided ?ag_divided ?l_of_two ?z_of_two ?kk_of_two ?ag_of_two ?l_result_of ?z_result_of ?kk_result_of ?ag_result_of ?l_work ?z_work ?kk_work ?ag_work ?l__law_bag ?z__law_bag ?kk__law_bag ?ag__law_bag ?l__law_pick ?z__law_pick ?kk__law_pick ?ag__law_pick ?l__law_choice ?z__law_choice ?kk__law_choice ?ag__law_choice ?l__law_integer ?z__law_integer ?kk__law_integer ?ag__law_integer ?l__law_half ?z__law_half ?kk__law_half ?ag__law_half ?l__law_wrap ?z__law_wrap ?kk__law_wrap ?ag__law_wrap ?l__law_num ?z__law_num ?kk__law_num ?ag__law_num ?l__law_bits ?z__law_bits ?kk__law_bits ?ag__law_bits ?l__law_of_bits ?z__law_of_bits ?kk__law_of_bits ?ag__law_of_bits ?l__law_sum ?z__law_sum ?kk__law_sum ?ag__law_sum ?l__law_product ?z__law_product ?kk__law_product ?ag__law_product ?l__law_joined ?z__law_joined ?kk__law_joined ?ag__law_joined ?l__law_below ?z__law_below ?kk__law_below ?ag__law_below ?l__law_turned ?z__law_turned ?kk__law_turned ?ag__law_turned ?l__law_divided ?z__law_divided ?kk__law_divided ?ag__law_divided ?l__law_due ?z__law_due ?kk__law_due ?ag__law_due ?l__law_asked ?z__law_asked ?kk__law_asked ?ag__law_asked ?l__law_same ?z__law_same ?kk__law_same ?ag__law_same ?l__law_pair ?z__law_pair ?kk__law_pair ?ag__law_pair ?l__law_act_right ?z__law_act_right ?kk__law_act_right ?ag__law_act_right ?l__law_odd_number ?z__law_odd_number ?kk__law_odd_number ?ag__law_odd_number ?l__law_odd_width ?z__law_odd_width ?kk__law_odd_width ?ag__law_odd_width ?l__law_odd_op ?z__law_odd_op ?kk__law_odd_op ?ag__law_odd_op ?l__law_refused ?z__law_refused ?kk__law_refused ?ag__law_refused ?l_law ?z_law ?kk_law ?ag_law ?ag_MintError ?ag_BadWidth ?xl_BadWidth ?rv_BadWidth ?sa_BadWidth ?ex_BadWidth ?ty_BadWidth ?kC_BadWidth ?ga_BadWidth ?gg_BadWidth ?hd_BadWidth ?sn_get ?st_get ?hc_BadWidth ?mr_BadWidth ?F_BadWidth___init___0 ?F_BadWidth___init___1 ?F_BadWidth___init___2 ?hm_BadWidth ?hv_BadWidth ?hk_BadWidth_BadWidth ?hk_BadWidth_BadNumber ?hk_BadWidth_BadOp ?hk_BadWidth_ByZero ?ag_BadNumber ?xl_BadNumber ?rv_BadNumber ?sa_BadNumber ?ex_BadNumber ?ty_BadNumber ?kC_BadNumber ?ga_BadNumber ?gg_BadNumber ?hd_BadNumber ?hc_BadNumber ?mr_BadNumber ?F_BadNumber___init___0 ?F_BadNumber___init___1 ?F_BadNumber___init___2 ?hm_BadNumber ?hv_BadNumber ?hk_BadNumber_BadWidth ?hk_BadNumber_BadNumber ?hk_BadNumber_BadOp ?hk_BadNumber_ByZero ?ag_BadOp ?xl_BadOp ?rv_BadOp ?sa_BadOp ?ex_BadOp ?ty_BadOp ?kC_BadOp ?ga_BadOp ?gg_BadOp ?hd_BadOp ?hc_BadOp ?mr_BadOp ?F_BadOp___init___0 ?F_BadOp___init___1 ?F_BadOp___init___2 ?hm_BadOp ?hv_BadOp ?hk_BadOp_BadWidth ?hk_BadOp_BadNumber ?hk_BadOp_BadOp ?hk_BadOp_ByZero ?ag_ByZero ?xl_ByZero ?rv_ByZero ?sa_ByZero ?ex_ByZero ?ty_ByZero ?kC_ByZero ?ga_ByZero ?gg_ByZero ?hd_ByZero ?hc_ByZero ?mr_ByZero ?F_ByZero___init___0 ?F_ByZero___init___1 ?F_ByZero___init___2 ?hm_ByZero ?hv_ByZero ?hk_ByZero_BadWidth ?hk_ByZero_BadNumber ?hk_ByZero_BadOp ?hk_ByZero_ByZero ?ag_WIDTHS ?lq_WIDTHS ?sq_WIDTHS ?vq_WIDTHS ?ag_ARITHMETIC ?lq_ARITHMETIC ?sq_ARITHMETIC ?vq_ARITHMETIC ?ag_SINGLE ?lq_SINGLE ?sq_SINGLE ?vq_SINGLE ?an_ValueError ?an_abs ?an_bool ?an_int ?an_isinstance ?an_len ?an_list ?an_min ?an_range ?an_tuple
    (case ag_is_integer => k_is)
    (case ag_is_between => k_is)
    (case ag_check_width => k_is)
    (case ag_check_number => k_is)
    (case ag_half => k_is)
    (case ag_wrap => k_is)
    (case ag_is_number => k_is)
    (case ag_truth => k_is)
    (case ag_divided => k_is)
    (case ag_of_two => k_is)
    (case ag_result_of => k_is)
    (case ag_work => k_is)
    (case ag__law_bag => k_is)
    (case ag__law_pick => k_is)
    (case ag__law_choice => k_is)
    (case ag__law_integer => k_is)
    (case ag__law_half => k_is)
    (case ag__law_wrap => k_is)
    (case ag__law_num => k_is)
    (case ag__law_bits => k_is)
    (case ag__law_of_bits => k_is)
    (case ag__law_sum => k_is)
    (case ag__law_product => k_is)
    (case ag__law_joined => k_is)
    (case ag__law_below => k_is)
    (case ag__law_turned => k_is)
    (case ag__law_divided => k_is)
    (case ag__law_due => k_is)
    (case ag__law_asked => k_is)
    (case ag__law_same => k_is)
    (case ag__law_pair => k_is)
    (case ag__law_act_right => k_is)
    (case ag__law_odd_number => k_is)
    (case ag__law_odd_width => k_is)
    (case ag__law_odd_op => k_is)
    (case ag__law_refused => k_is)
    (case ag_law => k_is)
    (case ag_MintError => k_is)
    (case ag_BadWidth => k_is)
    (case ag_BadNumber => k_is)
    (case ag_BadOp => k_is)
    (case ag_ByZero => k_is)
    (case ag_WIDTHS => k_is)
    (case ag_ARITHMETIC => k_is)
    (case ag_SINGLE => k_is)
    (case F_BadWidth___init___0 => k_is)
    (case F_BadNumber___init___0 => k_is)
    (case F_BadOp___init___0 => k_is)
    (case F_ByZero___init___0 => k_is)
    (case l_BadWidth___init__ => k_is)
    (case z_BadWidth___init__ => k_is)
    (case kk_BadWidth___init__ => k_is)
    (case l_BadNumber___init__ => k_is)
    (case z_BadNumber___init__ => k_is)
    (case kk_BadNumber___init__ => k_is)
    (case l_BadOp___init__ => k_is)
    (case z_BadOp___init__ => k_is)
    (case kk_BadOp___init__ => k_is)
    (case l_ByZero___init__ => k_is)
    (case z_ByZero___init__ => k_is)
    (case kk_ByZero___init__ => k_is)
    (case l_is_integer => k_is)
    (case z_is_integer => k_is)
    (case kk_is_integer => k_is)
    (case l_is_between => k_is)
    (case z_is_between => k_is)
    (case kk_is_between => k_is)
    (case l_check_width => k_is)
    (case z_check_width => k_is)
    (case kk_check_width => k_is)
    (case l_check_number => k_is)
    (case z_check_number => k_is)
    (case kk_check_number => k_is)
    (case l_half => k_is)
    (case z_half => k_is)
    (case kk_half => k_is)
    (case l_wrap => k_is)
    (case z_wrap => k_is)
    (case kk_wrap => k_is)
    (case l_is_number => k_is)
    (case z_is_number => k_is)
    (case kk_is_number => k_is)
    (case l_truth => k_is)
    (case z_truth => k_is)
    (case kk_truth => k_is)
    (case l_divided => k_is)
    (case z_divided => k_is)
    (case kk_divided => k_is)
    (case l_of_two => k_is)
    (case z_of_two => k_is)
    (case kk_of_two => k_is)
    (case l_result_of => k_is)
    (case z_result_of => k_is)
    (case kk_result_of => k_is)
    (case l_work => k_is)
    (case z_work => k_is)
    (case kk_work => k_is)
    (case l__law_bag => k_is)
    (case z__law_bag => k_is)
    (case kk__law_bag => k_is)
    (case l__law_pick => k_is)
    (case z__law_pick => k_is)
    (case kk__law_pick => k_is)
    (case l__law_choice => k_is)
    (case z__law_choice => k_is)
    (case kk__law_choice => k_is)
    (case l__law_integer => k_is)
    (case z__law_integer => k_is)
    (case kk__law_integer => k_is)
    (case l__law_half => k_is)
    (case z__law_half => k_is)
    (case kk__law_half => k_is)
    (case l__law_wrap => k_is)
    (case z__law_wrap => k_is)
    (case kk__law_wrap => k_is)
    (case l__law_num => k_is)
    (case z__law_num => k_is)
    (case kk__law_num => k_is)
    (case l__law_bits => k_is)
    (case z__law_bits => k_is)
    (case kk__law_bits => k_is)
    (case l__law_of_bits => k_is)
    (case z__law_of_bits => k_is)
    (case kk__law_of_bits => k_is)
    (case l__law_sum => k_is)
    (case z__law_sum => k_is)
    (case kk__law_sum => k_is)
    (case l__law_product => k_is)
    (case z__law_product => k_is)
    (case kk__law_product => k_is)
    (case l__law_joined => k_is)
    (case z__law_joined => k_is)
    (case kk__law_joined => k_is)
    (case l__law_below => k_is)
    (case z__law_below => k_is)
    (case kk__law_below => k_is)
    (case l__law_turned => k_is)
    (case z__law_turned => k_is)
    (case kk__law_turned => k_is)
    (case l__law_divided => k_is)
    (case z__law_divided => k_is)
    (case kk__law_divided => k_is)
    (case l__law_due => k_is)
    (case z__law_due => k_is)
    (case kk__law_due => k_is)
    (case l__law_asked => k_is)
    (case z__law_asked => k_is)
    (case kk__law_asked => k_is)
    (case l__law_same => k_is)
    (case z__law_same => k_is)
    (case kk__law_same => k_is)
    (case l__law_pair => k_is)
    (case z__law_pair => k_is)
    (case kk__law_pair => k_is)
    (case l__law_act_right => k_is)
    (case z__law_act_right => k_is)
    (case kk__law_act_right => k_is)
    (case l__law_odd_number => k_is)
    (case z__law_odd_number => k_is)
    (case kk__law_odd_number => k_is)
    (case l__law_odd_width => k_is)
    (case z__law_odd_width => k_is)
    (case kk__law_odd_width => k_is)
    (case l__law_odd_op => k_is)
    (case z__law_odd_op => k_is)
    (case kk__law_odd_op => k_is)
    (case l__law_refused => k_is)
    (case z__law_refused => k_is)
    (case kk__law_refused => k_is)
    (case l_law => k_is)
    (case z_law => k_is)
    (case kk_law => k_is)
    (case xl_BadWidth => k_is)
    (case rv_BadWidth => decide +kernel)
    (case sa_BadWidth => k_is)
    (case ex_BadWidth => k_is)
    (case ty_BadWidth => k_is)
    (case kC_BadWidth => k_is)
    (case ga_BadWidth => k_is)
    (case gg_BadWidth => k_is)
    (case hd_BadWidth => k_is)
    (case sn_get => k_is)
    (case st_get => k_is)
    (case hc_BadWidth => k_is)
    (case mr_BadWidth => k_is)
    (case F_BadWidth___init___1 => k_is)
    (case F_BadWidth___init___2 => k_is)
    (case hm_BadWidth => first | rfl | k_is)
    (case hv_BadWidth => first | rfl | k_is)
    (case hk_BadWidth_BadWidth => first | rfl | k_is)
    (case hk_BadWidth_BadNumber => first | rfl | k_is)
    (case hk_BadWidth_BadOp => first | rfl | k_is)
    (case hk_BadWidth_ByZero => first | rfl | k_is)
    (case xl_BadNumber => k_is)
    (case rv_BadNumber => decide +kernel)
    (case sa_BadNumber => k_is)
    (case ex_BadNumber => k_is)
    (case ty_BadNumber => k_is)
    (case kC_BadNumber => k_is)
    (case ga_BadNumber => k_is)
    (case gg_BadNumber => k_is)
    (case hd_BadNumber => k_is)
    (case hc_BadNumber => k_is)
    (case mr_BadNumber => k_is)
    (case F_BadNumber___init___1 => k_is)
    (case F_BadNumber___init___2 => k_is)
    (case hm_BadNumber => first | rfl | k_is)
    (case hv_BadNumber => first | rfl | k_is)
    (case hk_BadNumber_BadWidth => first | rfl | k_is)
    (case hk_BadNumber_BadNumber => first | rfl | k_is)
    (case hk_BadNumber_BadOp => first | rfl | k_is)
    (case hk_BadNumber_ByZero => first | rfl | k_is)
    (case xl_BadOp => k_is)
    (case rv_BadOp => decide +kernel)
    (case sa_BadOp => k_is)
    (case ex_BadOp => k_is)
    (case ty_BadOp => k_is)
    (case kC_BadOp => k_is)
    (case ga_BadOp => k_is)
    (case gg_BadOp => k_is)
    (case hd_BadOp => k_is)
    (case hc_BadOp => k_is)
    (case mr_BadOp => k_is)
    (case F_BadOp___init___1 => k_is)
    (case F_BadOp___init___2 => k_is)
    (case hm_BadOp => first | rfl | k_is)
    (case hv_BadOp => first | rfl | k_is)
    (case hk_BadOp_BadWidth => first | rfl | k_is)
    (case hk_BadOp_BadNumber => first | rfl | k_is)
    (case hk_BadOp_BadOp => first | rfl | k_is)
    (case hk_BadOp_ByZero => first | rfl | k_is)
    (case xl_ByZero => k_is)
    (case rv_ByZero => decide +kernel)
    (case sa_ByZero => k_is)
    (case ex_ByZero => k_is)
    (case ty_ByZero => k_is)
    (case kC_ByZero => k_is)
    (case ga_ByZero => k_is)
    (case gg_ByZero => k_is)
    (case hd_ByZero => k_is)
    (case hc_ByZero => k_is)
    (case mr_ByZero => k_is)
    (case F_ByZero___init___1 => k_is)
    (case F_ByZero___init___2 => k_is)
    (case hm_ByZero => first | rfl | k_is)
    (case hv_ByZero => first | rfl | k_is)
    (case hk_ByZero_BadWidth => first | rfl | k_is)
    (case hk_ByZero_BadNumber => first | rfl | k_is)
    (case hk_ByZero_BadOp => first | rfl | k_is)
    (case hk_ByZero_ByZero => first | rfl | k_is)
    (case lq_WIDTHS => k_is)
    (case sq_WIDTHS => exact Nat.le_of_ble_eq_true rfl)
    (case vq_WIDTHS => exact (.cons ⟨_, rfl⟩ (.cons ⟨_, rfl⟩ (.cons ⟨_, rfl⟩ .nil))))
    (case lq_ARITHMETIC => k_is)
    (case sq_ARITHMETIC => exact Nat.le_of_ble_eq_true rfl)
    (case vq_ARITHMETIC => exact (.cons ⟨_, rfl⟩ (.cons ⟨_, rfl⟩ (.cons ⟨_, rfl⟩ (.cons ⟨_, rfl⟩ (.cons ⟨_, rfl⟩ (.cons ⟨_, rfl⟩ (.cons ⟨_, rfl⟩ (.cons ⟨_, rfl⟩ (.cons ⟨_, rfl⟩ (.cons ⟨_, rfl⟩ (.cons ⟨_, rfl⟩ (.cons ⟨_, rfl⟩ (.cons ⟨_, rfl⟩ .nil))))))))))))))
    (case lq_SINGLE => k_is)
    (case sq_SINGLE => exact Nat.le_of_ble_eq_true rfl)
    (case vq_SINGLE => exact (.cons ⟨_, rfl⟩ (.cons ⟨_, rfl⟩ .nil)))
    (case an_ValueError => k_is)
    (case an_abs => k_is)
    (case an_bool => k_is)
    (case an_int => k_is)
    (case an_isinstance => k_is)
    (case an_len => k_is)
    (case an_list => k_is)
    (case an_min => k_is)
    (case an_range => k_is)
    (case an_tuple => k_is)
#print axioms PySem.Challenge.cw_wordmint_k01_arithmetic_holds
