import PyProof.Rows.All
import Wide.All
import OpenK.AllK
import Wide.FinOn
import HandS.ForMost
import HandS.ForExc
import HandS.ExcInit
import HandS.ExcField
import HandS.ExcIs
import HandS.IsInst
import HandS.Star
import HandS.Deep
import HandS.Style
import HandS.Wide
import KE.KExcIs
import KE.DataFind
import KE.BitLaws
import KE.KEqDeep
import HandS.Walk
import PySem.Challenge.RW_wordmint_k03_numbers_shown
set_option Elab.async false
set_option linter.all false
set_option maxRecDepth 100000
set_option maxHeartbeats 4000000
namespace My
open PySem PySem.Spec PyProof.Rows L2

/-! ### exceptions of the program: C(v) keeps v under one name -/
def spExc (C : Addr) (f : Str) : Sp := fun vs H Q _ => ∃ (a : Addr) (v : V), vs = [.ref a, v] ∧ H a = some (exo a C none) ∧
  ∀ dx, H dx = none → dx ≠ a → Q .non (upd (upd H dx (exd dx [(f, v)])) a (exo a C (some dx)))
/-- the error of C with v under f leaves -/
def Rz (C : Addr) (f : Str) (v : V) (H : Hp) (E : XK) : Prop := ∀ d, H d = none → E (.ref C) (some d) (upd H d (.xd [(f, v)]))
def tRz (C : Addr) (f : Str) (W : WX) (ta : TA) : TS := fun _ σ H => ta σ H fun vs H1 => ∃ v, vs = [v] ∧ ∀ d, H1 d = none → W (.ref C) (some d) σ (upd H1 d (.xd [(f, v)]))
theorem rz_heap {H : Hp} {a d C : Addr} {u : HO} {f : Str} {v : V} (ha : H a = none) (hd : d ≠ a) :
    upd (del (upd (upd (upd H a (exo a C none)) d u) a (exo a C (some d))) a) d (.xd [(f, v)]) = upd H d (.xd [(f, v)]) := by
  funext b
  by_cases h1 : b = d
  · rw [h1, upd_same, upd_same]
  · rw [upd_ne h1, upd_ne h1]
    by_cases h2 : b = a
    · rw [h2, del_same, ha]
    · rw [del_ne h2, upd_ne h2, upd_ne h1, upd_ne h2]
/-- a reading that may be weakened -/
def tW (ta : TA) : TA := fun σ H Q => ∃ Q0 : List V → Hp → Prop, ta σ H Q0 ∧ ∀ vs H1, Q0 vs H1 → Q vs H1
theorem pa_weak {X : Cx} {es : List Expr} {ta : TA} (h : PA X es ta) : PA X es (tW ta) := ⟨fun pos pins s σ H Q I ⟨Q0, q, w⟩ => thn (h.run pos pins s σ H Q0 I q) fun us s' ⟨vs, H1, I1, r, z⟩ => ⟨vs, H1, I1, r, w vs H1 z⟩⟩
theorem ps_rz {X : Cx} {W : WX} {x f : Str} {e : Expr} {ta : TA} {C fI : Addr} {k : Nat} {fd : FuncData} {ps : List Str} {p pos pos2 : Pos} (hc : X.calm = true) (tk : Takes X W) (T : OexC X.K C) (iC : PySem.W.findIn X.K (.ref C) "__init__" = some (some (.ref fI)))
    (tI : PySem.W.typeIn X.K (.ref fI) = some (.type "function")) (F1 : FnOk X.prog X.w X.K X.mg X.base (L2.CX X.prog X.w) k fI fd ps (spExc C f)) (hr : Room (k + 1) X.A) (hb : Binds X.K fd ps []) (hg : Gl X x) (hm : X.mg x = some (.ref C)) (ha : PA X [e] ta)
    (hdb : (x == ("__debug__" : Str)) = false := by decide) (he : starEach [e] X.env = (false, eval e X.env) :: starEach [] X.env := by rfl) (hpl : (backTo pos (starEach [] X.env)).any (·.1) = false := by rfl) :
    PS X (.Raise (some (.Call (.Name x p) [e] [] pos)) none pos2) (tRz C f W ta) := by
  have z := ps_raise (pos := pos2) hc tk (pmk_oex (p := p) (pos := pos) (dvs := []) (ds := []) T iC tI F1 hr hb .nil passL hg hm (pa_weak ha) hdb he hpl)
  refine ⟨fun pins s σ H D I h => z.run pins s σ H D I ?_⟩
  refine ⟨_, h, ?_⟩
  rintro vs H1 ⟨v, rfl, q⟩
  refine ⟨by show 1 ≤ 1000; decide, fun a ha => ⟨a, v, rfl, upd_same, fun dx hdx hne => ⟨rfl, dx, [(f, v)], upd_same, ?_, ?_, ?_⟩⟩⟩
  · rw [upd_ne hne, upd_same]
  · rw [upd_ne hne] at hdx
    exact hdx
  · rw [upd_ne hne] at hdx
    rw [rz_heap ha hne]
    exact q dx hdx
/-! ### isinstance of a caught error that keeps something -/
def rIsED (K : PySem.W.Frag) (a : Addr) (cls : Value) (d : Option Addr) : List V → Hp → VK → Prop := fun xs H Q => ∃ (D dd : Addr) (fs : List (Str × V)) (c : V) (cv : Value) (b : Bool), cls = .ref D ∧ d = some dd ∧ H dd = some (.xd fs) ∧ ExcC K D ∧ xs = [.ref a, c] ∧ ClsV c cv ∧
  PySem.W.kitOne K (.ref D) cv = some b ∧ Q (.bl b) H
theorem call_isED {X : Cx} {a : Addr} {cls : Value} {d : Option Addr} {oe : Obj} {pn : List (Addr × Obj)} (hz : Zc cls d oe) (hf : ∃ vs, oe.data = .fields vs) : CallR (X.suite a ((a, oe) :: pn)) (.builtin "isinstance") (rIsED X.K a cls d) := by
  intro pins s σ H xs us Q I r h
  obtain ⟨D, dd, fs, c, cv, b, ec, ed, hx, C, ex, hcv, e, q⟩ := h
  subst ec ed ex
  obtain ⟨u1, u2, rfl, r1, r2⟩ := vals2 r
  cases (show u1 = Value.ref a from r1)
  have e2 := hcv.eq r2
  subst e2
  obtain ⟨hget, _⟩ := I.pin (a, oe) (List.mem_append.mpr (.inl List.mem_cons_self))
  obtain ⟨vs, hv⟩ := hf
  obtain ⟨mA, hns, _⟩ := (show ObjOk X.prog X.w H s.heap dd (.xd fs) from I.hok dd _ hx)
  obtain ⟨od, ho, _⟩ := lookIn_ns hns
  have J : PySem.W.InstAt s.heap a oe D (some od) := ⟨hget, hz.1, by unfold PySem.W.notCls; rw [hv] <;> rfl, by rw [hz.2]; exact ho⟩
  have hcl : (PySem.W.clsIn X.K D).isSome = true := by
    obtain ⟨cd, hc, _⟩ := PySem.W.any_some C.hd
    rw [hc]; rfl
  exact PySem.W.kia_one (PySem.W.kitx_exc hcl C.hg C.hk C.hs C.ha C.hn C.ht C.hm) I.kIn J e (fun z => nomatch z) fun tk => ⟨.bl b, H, I.kept (t' := tk) fun _ _ z => z, rfl, q⟩
end My
namespace My
open PySem PySem.Spec PyProof.Rows L2
def rCntB (K : PySem.W.Frag) : V → List V → Hp → VK → Prop := fun x xs H Q => ∃ (p : Addr) (bs : List Bool), x = .ref p ∧ xs = [.bl true] ∧ SqL K H p (bs.map V.bl) ∧ Q (.int (bs.count true : Nat)) H
theorem cnt_bools : ∀ bs : List Bool, (bs.map PyData.bool).countP (fun y => PyData.eqv y (.bool true)) = bs.count true
  | [] => rfl
  | b :: r => by
    have ih := cnt_bools r
    cases b
    · show (List.map PyData.bool r).countP _ = List.count true (false :: r)
      rw [ih]; simp
    · show List.countP _ (PyData.bool true :: List.map PyData.bool r) = List.count true (true :: r)
      rw [List.countP_cons, ih]; simp [PyData.eqv]
theorem plain_bools : ∀ bs : List Bool, PyData.plainAll (bs.map PyData.bool) = true
  | [] => rfl
  | b :: r => by
    have ih := plain_bools r
    simp only [List.map_cons, PyData.plainAll, ih]; rfl
theorem dp_bools {K : PySem.W.Frag} {H : Hp} : ∀ bs : List Bool, DpAll K H (bs.map V.bl) (bs.map PyData.bool)
  | [] => .nil
  | b :: r => .cons (.bl b) (dp_bools r)
theorem mt_countB {X : Cx} (hu : X.A.units + 64 < cLine) : MtR X "list.count" (rCntB X.K) := by
  intro pins s σ H x xs v us Q I rx rxs h
  obtain ⟨p, bs, rfl, rfl, hs, q⟩ := h
  cases rx
  obtain ⟨u, rfl, ru⟩ := rxs.one
  cases ru
  obtain ⟨as, r1⟩ := Dp.reads I (.list (bs.map PyData.bool)) (.ref p) (.ref p) (.lst hs (dp_bools bs)) rfl
  obtain ⟨its, rv, hl, hlen⟩ := I.list hs
  obtain ⟨as2, r2⟩ := Dp.readsAll I (bs.map PyData.bool) _ its (dp_bools bs) rv
  refine PySem.SeqAt.count_list_data (xs := bs.map PyData.bool) (d := .bool true) (vs := its.toArray) ?_ (by simpa using r2) (Reads.bool true) (plain_bools bs) rfl ?_ ?_
  · obtain ⟨o, n, ho, hc, _, hd⟩ := hl
    exact ⟨o, ho, hc, n, hd⟩
  · have h1 : min (PyData.depthAll (bs.map PyData.bool)) (PyData.bool true).depth ≤ (PyData.bool true).depth := Nat.min_le_right _ _
    have h2 : (PyData.bool true).depth ≤ 1 := by decide
    omega
  · rw [cnt_bools]
    exact ⟨.int (bs.count true : Nat), H, I.tok _, ⟨_, rfl⟩, q⟩
end My
namespace My
open PySem PySem.Spec PyProof.Rows L2
/-! ### promises by the number of arguments -/
def Sp0 (f : Hp → VK → XK → Prop) : Sp := fun vs H Q E => vs = [] ∧ f H Q E
def Sp1 (f : V → Hp → VK → XK → Prop) : Sp := fun vs H Q E => ∃ a, vs = [a] ∧ f a H Q E
def Sp2 (f : V → V → Hp → VK → XK → Prop) : Sp := fun vs H Q E => ∃ a b, vs = [a, b] ∧ f a b H Q E
def Sp3 (f : V → V → V → Hp → VK → XK → Prop) : Sp := fun vs H Q E => ∃ a b c, vs = [a, b, c] ∧ f a b c H Q E
def Sp4 (f : V → V → V → V → Hp → VK → XK → Prop) : Sp := fun vs H Q E => ∃ a b c d, vs = [a, b, c, d] ∧ f a b c d H Q E
def Sp5 (f : V → V → V → V → V → Hp → VK → XK → Prop) : Sp := fun vs H Q E => ∃ a b c d e, vs = [a, b, c, d, e] ∧ f a b c d e H Q E
section
variable {vs : List V} {H : Hp} {Q : VK} {E : XK}
theorem Sp0_len {f} (h : Sp0 f vs H Q E) : vs.length = 0 := by obtain ⟨rfl, _⟩ := h; rfl
theorem Sp1_len {f} (h : Sp1 f vs H Q E) : vs.length = 1 := by obtain ⟨_, rfl, _⟩ := h; rfl
theorem Sp2_len {f} (h : Sp2 f vs H Q E) : vs.length = 2 := by obtain ⟨_, _, rfl, _⟩ := h; rfl
theorem Sp3_len {f} (h : Sp3 f vs H Q E) : vs.length = 3 := by obtain ⟨_, _, _, rfl, _⟩ := h; rfl
theorem Sp4_len {f} (h : Sp4 f vs H Q E) : vs.length = 4 := by obtain ⟨_, _, _, _, rfl, _⟩ := h; rfl
theorem Sp5_len {f} (h : Sp5 f vs H Q E) : vs.length = 5 := by obtain ⟨_, _, _, _, _, rfl, _⟩ := h; rfl
end
/-- in a def's body: what a call lets out is the def's own affair -/
theorem passE {X : Cx} {E : XK} {E₁ : Value → Shared → Prop} (hs : X.stack = X.env :: X.outer) (hf : X.env.frame = some X.env.locals) (hex : X.ex = [])
    (hx : X.xe = fun e s' => wpAny (model X.prog X.w) X.A (leaving X.env e) (fun _ s'' => L2.CX X.prog X.w X.outer X.H_0 X.s_0 E e s'') E₁ s') : Passes (L2.CX X.prog X.w) X E :=
  passes_call (takes_of hs hf hex hx) (fun _ _ _ _ h => h)
/-- all but b stand as they were -/
def Kp (b : Addr) (H H' : Hp) : Prop := ∀ p o, p ≠ b → H p = some o → H' p = some o
theorem Kp.refl {b : Addr} {H : Hp} : Kp b H H := fun _ _ _ h => h
theorem Kp.trans {b : Addr} {H H1 H2 : Hp} (h : Kp b H H1) (k : Kp b H1 H2) : Kp b H H2 := fun p o n e => k p o n (h p o n e)
theorem Kp.upd {b : Addr} {H H1 : Hp} {o : HO} (h : Kp b H H1) : Kp b H (upd H1 b o) := fun p u n e => by rw [upd_ne n]; exact h p u n e
theorem Kp.new {b l : Addr} {H H1 : Hp} {o : HO} (h : Kp b H H1) (hl : H1 l = none) : Kp b H (L2.upd H1 l o) := fun p u n e => by
  rw [upd_ne (ne_of_none (h p u n e) hl)]; exact h p u n e
theorem Kp.of {b : Addr} {H H' : Hp} (h : Same H H') : Kp b H H' := fun p o _ e => h p o e
theorem Same.new {H H1 : Hp} {l : Addr} {o : HO} (h : Same H H1) (hl : H1 l = none) : Same H (L2.upd H1 l o) := fun p u e => by
  rw [upd_ne (ne_of_none (h p u e) hl)]; exact h p u e
/-! ### the law's bag of numbers -/
def bagO (c : Addr) (a r s n : Int) : HO := .dK [(.inr ("cells" : Str), .ref c), (.inr ("at" : Str), .int a), (.inr ("rest" : Str), .int r), (.inr ("seed" : Str), .int s), (.inr ("count" : Str), .int n)]
structure BagAt (H : Hp) (b : Addr) : Prop where
  ex : ∃ (c : Addr) (ns : List Int) (a r s n : Int), H b = some (bagO c a r s n) ∧ H c = some (.lst (ns.map V.int)) ∧ 0 ≤ a ∧ ns.length ≤ 63
section
variable {H : Hp} {b c : Addr} {a r s n : Int}
theorem bg_cells (h : H b = some (bagO c a r s n)) : DGet H b (.str "cells") (some (.ref c)) := DGet.k (k := Sum.inr ("cells" : Str)) h
theorem kne1 : ¬ ((Sum.inr ("cells" : Str) : Key) = Sum.inr ("at" : Str)) := by decide +kernel
theorem kne2 : ¬ ((Sum.inr ("cells" : Str) : Key) = Sum.inr ("rest" : Str)) := by decide +kernel
theorem kne3 : ¬ ((Sum.inr ("cells" : Str) : Key) = Sum.inr ("seed" : Str)) := by decide +kernel
theorem kne4 : ¬ ((Sum.inr ("cells" : Str) : Key) = Sum.inr ("count" : Str)) := by decide +kernel
theorem kne5 : ¬ ((Sum.inr ("at" : Str) : Key) = Sum.inr ("rest" : Str)) := by decide +kernel
theorem kne6 : ¬ ((Sum.inr ("at" : Str) : Key) = Sum.inr ("seed" : Str)) := by decide +kernel
theorem kne7 : ¬ ((Sum.inr ("at" : Str) : Key) = Sum.inr ("count" : Str)) := by decide +kernel
theorem kne8 : ¬ ((Sum.inr ("rest" : Str) : Key) = Sum.inr ("seed" : Str)) := by decide +kernel
theorem kne9 : ¬ ((Sum.inr ("rest" : Str) : Key) = Sum.inr ("count" : Str)) := by decide +kernel
theorem kne10 : ¬ ((Sum.inr ("seed" : Str) : Key) = Sum.inr ("count" : Str)) := by decide +kernel
theorem dget_of {H : Hp} {b : Addr} {kvs : List (Key × V)} {k : Str} {v : V} (h : H b = some (.dK kvs)) (e : valV kvs (Sum.inr k : Key) = some v) : DGet H b (.str k) (some v) := by
  rw [← e]; exact DGet.k (k := Sum.inr k) h
theorem bg_at (h : H b = some (bagO c a r s n)) : DGet H b (.str "at") (some (.int a)) := dget_of h (by rw [valV_neg kne1, valV_pos rfl])
theorem bg_rest (h : H b = some (bagO c a r s n)) : DGet H b (.str "rest") (some (.int r)) := dget_of h (by rw [valV_neg kne2, valV_neg kne5, valV_pos rfl])
theorem bg_seed (h : H b = some (bagO c a r s n)) : DGet H b (.str "seed") (some (.int s)) := dget_of h (by rw [valV_neg kne3, valV_neg kne6, valV_neg kne8, valV_pos rfl])
theorem bg_count (h : H b = some (bagO c a r s n)) : DGet H b (.str "count") (some (.int n)) := dget_of h (by rw [valV_neg kne4, valV_neg kne7, valV_neg kne9, valV_neg kne10, valV_pos rfl])
theorem dput_of {H : Hp} {b : Addr} {kvs kvs' : List (Key × V)} {k : Str} {v : V} (h : H b = some (.dK kvs)) (e : putK kvs (Sum.inr k : Key) v = kvs') (hl : kvs.length < sizeLine) : DPut H b (.str k) v (upd H b (.dK kvs')) := by
  rw [← e]; exact DPut.k (k := Sum.inr k) h hl
theorem kns : ∀ {x y : Str}, ¬ ((Sum.inr x : Key) = Sum.inr y) → ¬ x = y := fun h e => h (by rw [e])
theorem bp_at {x : Int} (h : H b = some (bagO c a r s n)) : DPut H b (.str "at") (.int x) (upd H b (bagO c x r s n)) := dput_of h (by unfold putK; simp [kns kne1, kns kne5, kns kne6, kns kne7, Ne.symm (kns kne1), Ne.symm (kns kne5), Ne.symm (kns kne6), Ne.symm (kns kne7)]) (by show 5 < sizeLine; decide)
theorem bp_rest {x : Int} (h : H b = some (bagO c a r s n)) : DPut H b (.str "rest") (.int x) (upd H b (bagO c a x s n)) := dput_of h (by unfold putK; simp [kns kne2, kns kne5, kns kne8, kns kne9, Ne.symm (kns kne2), Ne.symm (kns kne5), Ne.symm (kns kne8), Ne.symm (kns kne9)]) (by show 5 < sizeLine; decide)
theorem bp_seed {x : Int} (h : H b = some (bagO c a r s n)) : DPut H b (.str "seed") (.int x) (upd H b (bagO c a r x n)) := dput_of h (by unfold putK; simp [kns kne3, kns kne6, kns kne8, kns kne10, Ne.symm (kns kne3), Ne.symm (kns kne6), Ne.symm (kns kne8), Ne.symm (kns kne10)]) (by show 5 < sizeLine; decide)
theorem bp_count {x : Int} (h : H b = some (bagO c a r s n)) : DPut H b (.str "count") (.int x) (upd H b (bagO c a r s x)) := dput_of h (by unfold putK; simp [kns kne4, kns kne7, kns kne9, kns kne10, Ne.symm (kns kne4), Ne.symm (kns kne7), Ne.symm (kns kne9), Ne.symm (kns kne10)]) (by show 5 < sizeLine; decide)
end
abbrev spPick : Sp := Sp2 fun x y H Q _ => ∃ (b : Addr) (m : Int), x = .ref b ∧ y = .int m ∧ 0 < m ∧ m < 1073741824 ∧ BagAt H b ∧ ∀ (v : Int) (H' : Hp), 0 ≤ v → v < m → BagAt H' b → Kp b H H' → Q (.int v) H'
abbrev spChoice (K : PySem.W.Frag) : Sp := Sp2 fun x y H Q _ => ∃ (b t : Addr) (xs : List V), x = .ref b ∧ y = .ref t ∧ H t = some (.lst xs) ∧ 0 < xs.length ∧ xs.length < 1073741824 ∧ t ≠ b ∧ BagAt H b ∧ ∀ (i : Nat) (v : V) (H' : Hp), xs[i]? = some v → BagAt H' b → Kp b H H' → Q v H'
end My
namespace My
open PySem PySem.Spec PyProof.Rows L2
/-! ### plain things: what a law hands about -/
inductive Pl (H : Hp) : V → Prop where
  | int (i : Int) : Pl H (.int i)
  | bl (b : Bool) : Pl H (.bl b)
  | non : Pl H .non
  | str (s : Str) : Pl H (.str s)
  | tup {a : Addr} {xs : List V} (h : H a = some (.tup xs)) : Pl H (.ref a)
  | lst {a : Addr} {xs : List V} (h : H a = some (.lst xs)) : Pl H (.ref a)
  | dK {a : Addr} {kvs : List (Key × V)} (h : H a = some (.dK kvs)) : Pl H (.ref a)
theorem Pl.kp {H H' : Hp} {x : V} {b : Addr} (h : Pl H x) (k : Kp b H H') (n : x ≠ .ref b) : Pl H' x := by
  cases h with
  | int i => exact .int i
  | bl b => exact .bl b
  | non => exact .non
  | str s => exact .str s
  | @tup a xs e => exact .tup (k a _ (fun z => n (by rw [z])) e)
  | @lst a xs e => exact .lst (k a _ (fun z => n (by rw [z])) e)
  | @dK a xs e => exact .dK (k a _ (fun z => n (by rw [z])) e)
theorem Pl.same {H H' : Hp} {x : V} (h : Pl H x) (k : Same H H') : Pl H' x := by
  cases h with
  | int i => exact .int i
  | bl b => exact .bl b
  | non => exact .non
  | str s => exact .str s
  | tup e => exact .tup (k _ _ e)
  | lst e => exact .lst (k _ _ e)
  | dK e => exact .dK (k _ _ e)
def isI : V → Bool
  | .int _ => true
  | _ => false
def isB : V → Bool
  | .bl _ => true
  | _ => false
def isS : V → Bool
  | .str _ => true
  | _ => false
section
variable {K : PySem.W.Frag} {H : Hp} {x : V} {Q : VK}
theorem isi_ty {n m : String} {b : Bool} (h : TyX K H x (.type n)) (hb : kitB n m = some b) (q : Q (.bl b) H) : rIsi K [x, .ty m] H Q := ⟨x, .ty m, .type n, .type m, b, rfl, .ty m, h, kit_ty hb, q⟩
theorem isi_int (h : Pl H x) (q : Q (.bl (isI x || isB x)) H) : rIsi K [x, .ty "int"] H Q := by
  cases h with
  | int i => exact isi_ty (b := true) (.base (.int i)) (by decide +kernel) q
  | bl b => exact isi_ty (b := true) (.base (.bl b)) (by decide +kernel) q
  | non => exact isi_ty (b := false) (.base .non) (by decide +kernel) q
  | str s => exact isi_ty (b := false) (.base (.str s)) (by decide +kernel) q
  | tup e => exact isi_ty (b := false) (.base (.tup e)) (by decide +kernel) q
  | lst e => exact isi_ty (b := false) (.base (.lst e)) (by decide +kernel) q
  | dK e => exact isi_ty (b := false) (.base (.dK e)) (by decide +kernel) q
theorem isi_bool (h : Pl H x) (q : Q (.bl (isB x)) H) : rIsi K [x, .ty "bool"] H Q := by
  cases h with
  | int i => exact isi_ty (b := false) (.base (.int i)) (by decide +kernel) q
  | bl b => exact isi_ty (b := true) (.base (.bl b)) (by decide +kernel) q
  | non => exact isi_ty (b := false) (.base .non) (by decide +kernel) q
  | str s => exact isi_ty (b := false) (.base (.str s)) (by decide +kernel) q
  | tup e => exact isi_ty (b := false) (.base (.tup e)) (by decide +kernel) q
  | lst e => exact isi_ty (b := false) (.base (.lst e)) (by decide +kernel) q
  | dK e => exact isi_ty (b := false) (.base (.dK e)) (by decide +kernel) q
theorem isi_str (h : Pl H x) (q : Q (.bl (isS x)) H) : rIsi K [x, .ty "str"] H Q := by
  cases h with
  | int i => exact isi_ty (b := false) (.base (.int i)) (by decide +kernel) q
  | bl b => exact isi_ty (b := false) (.base (.bl b)) (by decide +kernel) q
  | non => exact isi_ty (b := false) (.base .non) (by decide +kernel) q
  | str s => exact isi_ty (b := true) (.base (.str s)) (by decide +kernel) q
  | tup e => exact isi_ty (b := false) (.base (.tup e)) (by decide +kernel) q
  | lst e => exact isi_ty (b := false) (.base (.lst e)) (by decide +kernel) q
  | dK e => exact isi_ty (b := false) (.base (.dK e)) (by decide +kernel) q
end
def btw : V → Int → Int → Bool
  | .int i, lo, hi => decide (lo ≤ i) && decide (i ≤ hi)
  | _, _, _ => false
/-! ### widths -/
def hf (w : Int) : Int := 2 ^ (w - 1).toNat
def isW : V → Bool
  | .int i => decide (i = 16 ∨ i = 24 ∨ i = 32)
  | _ => false
def Wd (w : Int) : Prop := w = 16 ∨ w = 24 ∨ w = 32
theorem isW_int {w : Int} (h : Wd w) : isW (.int w) = true := decide_eq_true h
theorem isW_of {x : V} (h : isW x = true) : ∃ w, x = .int w ∧ Wd w := by
  cases x with
  | int i => exact ⟨i, rfl, (of_decide_eq_true h : i = 16 ∨ i = 24 ∨ i = 32)⟩
  | _ => cases h
def isN (w : Int) (x : V) : Bool := btw x (-(hf w)) (hf w - 1)
def wrapI (w n : Int) : Int := (n + hf w) % (2 * hf w) - hf w
theorem hf_val {w : Int} (h : Wd w) : (w = 16 ∧ hf w = 32768) ∨ (w = 24 ∧ hf w = 8388608) ∨ (w = 32 ∧ hf w = 2147483648) := by
  rcases h with rfl | rfl | rfl
  · exact .inl ⟨rfl, rfl⟩
  · exact .inr (.inl ⟨rfl, rfl⟩)
  · exact .inr (.inr ⟨rfl, rfl⟩)
theorem hf_pos {w : Int} (h : Wd w) : 0 < hf w ∧ hf w ≤ 2147483648 := by
  rcases hf_val h with ⟨_, e⟩ | ⟨_, e⟩ | ⟨_, e⟩ <;> rw [e] <;> decide
theorem op_fdivL {X : Cx} : OpR X (binaryOp .FloorDiv) (rI (fun _ j => j ≠ 0 ∧ j.natAbs.log2 < 9000) fun i j => .int (i.fdiv j)) := opI fun _ _ _ _ _ _ _ hc q => floordiv_int hc.1 q (.inl (PyProof.noPylong_of_log2 hc.2))
end My
namespace My
open PySem PySem.Spec PyProof.Rows L2
section
variable {X : Cx}
theorem CallR_imp {f : Value} {r r' : List V → Hp → VK → Prop} (h : CallR X f r) (i : ∀ xs H Q, r' xs H Q → r xs H Q) : CallR X f r' := fun pins s σ H xs us Q I rv q => h pins s σ H xs us Q I rv (i xs H Q q)
theorem call_isInt : CallR X (.builtin "isinstance") (fun xs H Q => ∃ x, xs = [x, .ty "int"] ∧ Pl H x ∧ Q (.bl (isI x || isB x)) H) := CallR_imp call_isi fun xs H Q ⟨x, e, p, q⟩ => by rw [e]; exact isi_int p q
theorem call_isBool : CallR X (.builtin "isinstance") (fun xs H Q => ∃ x, xs = [x, .ty "bool"] ∧ Pl H x ∧ Q (.bl (isB x)) H) := CallR_imp call_isi fun xs H Q ⟨x, e, p, q⟩ => by rw [e]; exact isi_bool p q
theorem call_isStr : CallR X (.builtin "isinstance") (fun xs H Q => ∃ x, xs = [x, .ty "str"] ∧ Pl H x ∧ Q (.bl (isS x)) H) := CallR_imp call_isi fun xs H Q ⟨x, e, p, q⟩ => by rw [e]; exact isi_str p q
/-- isinstance(x, tuple) of what is a tuple -/
theorem call_isTup : CallR X (.builtin "isinstance") (fun xs H Q => ∃ a ys, xs = [.ref a, .ty "tuple"] ∧ H a = some (.tup ys) ∧ Q (.bl true) H) := CallR_imp call_isi fun xs H Q ⟨a, ys, e, h, q⟩ => by
  rw [e]; exact isi_ty (.base (.tup h)) (by decide +kernel) q
theorem call_isTupK : CallR X (.builtin "isinstance") (fun xs H Q => ∃ a o, xs = [.ref a, .ty "tuple"] ∧ X.K.lookup a = some o ∧ o.cls = .type "tuple" ∧ Q (.bl true) H) := CallR_imp call_isi fun xs H Q ⟨a, o, e, h, hc, q⟩ => by
  rw [e]; exact isi_ty (.kTuple h hc) (by decide +kernel) q
end
theorem iteD {p : Prop} [Decidable p] {A B : Prop} (h1 : p → A) (h2 : ¬ p → B) : if decide p = true then A else B := by
  by_cases h : p
  · rw [if_pos (decide_eq_true h)]; exact h1 h
  · rw [if_neg (fun e => h (of_decide_eq_true e))]; exact h2 h
theorem iteND {p : Prop} [Decidable p] {A B : Prop} (h1 : ¬ p → A) (h2 : p → B) : if (!decide p) = true then A else B := by
  by_cases h : p
  · rw [decide_eq_true h]; exact iteF (h2 h)
  · rw [decide_eq_false h]; exact iteT (h1 h)
theorem iteDT {p : Prop} [Decidable p] {A B : Prop} (hp : p) (h : A) : if decide p = true then A else B := by rw [if_pos (decide_eq_true hp)]; exact h
theorem iteDF {p : Prop} [Decidable p] {A B : Prop} (hp : ¬ p) (h : B) : if decide p = true then A else B := by rw [if_neg (fun e => hp (of_decide_eq_true e))]; exact h
theorem iteB {c : Bool} {A B : Prop} (h1 : c = true → A) (h2 : c = false → B) : if c = true then A else B := by
  cases c
  · exact iteF (h2 rfl)
  · exact iteT (h1 rfl)
theorem Pl.new {H : Hp} {x : V} {l : Addr} {o : HO} (h : Pl H x) (hl : H l = none) : Pl (upd H l o) x := h.same (Same.new (Same.refl H) hl)
end My
namespace My
open PySem PySem.Spec PyProof.Rows L2
def bit (n : Int) (k : Nat) : Int := n / 2 ^ k % 2
def bts (w : Nat) (n : Int) : List Int := (List.range w).map (bit n)
theorem bit_01 (n : Int) (k : Nat) : bit n k = 0 ∨ bit n k = 1 := by unfold bit; omega
theorem bts_len (w : Nat) (n : Int) : (bts w n).length = w := by simp [bts]
theorem bts_get {w k : Nat} (n : Int) (h : k < w) : (bts w n)[k]? = some (bit n k) := by simp [bts, h]
theorem bts_succ (k : Nat) (n : Int) : bts (k + 1) n = bts k n ++ [bit n k] := by simp [bts, List.range_succ]
theorem bts_zero (n : Int) : bts 0 n = [] := rfl
theorem pow2_pos (k : Nat) : (0 : Int) < 2 ^ k := Int.pow_pos (by decide)
/-- q * P + r, in the range: quotient and rest -/
theorem dm {P q r x : Int} (hx : x = P * q + r) (h0 : 0 ≤ r) (h1 : r < P) : x / P = q ∧ x % P = r :=
  (Int.ediv_emod_unique (by omega)).mpr ⟨by rw [hx]; omega, h0, h1⟩
theorem bit_of {P n A r : Int} {k : Nat} (e : (2 : Int) ^ k = P) (hn : n = P * A + r) (h0 : 0 ≤ r) (h1 : r < P) : bit n k = A % 2 := by
  unfold bit; rw [e, (dm hn h0 h1).1]
/-- the carry into place k -/
def car (a b c : Int) (k : Nat) : Int := (a % 2 ^ k + b % 2 ^ k + c) / 2 ^ k
theorem car_01 {a b c : Int} (hc : c = 0 ∨ c = 1) (k : Nat) : car a b c k = 0 ∨ car a b c k = 1 := by
  have hP := pow2_pos k
  have h1 := Int.emod_nonneg a (Int.ne_of_gt hP)
  have h2 := Int.emod_lt_of_pos a hP
  have h3 := Int.emod_nonneg b (Int.ne_of_gt hP)
  have h4 := Int.emod_lt_of_pos b hP
  unfold car
  generalize (2 : Int) ^ k = P at *
  generalize a % P = x at *
  generalize b % P = y at *
  by_cases h : x + y + c < P
  · exact .inl (Int.ediv_eq_zero_of_lt (by omega) h)
  · refine .inr (dm (q := 1) (r := x + y + c - P) (by omega) (by omega) (by omega)).1
theorem split2 (A : Int) : ∃ q t, A = 2 * q + t ∧ (t = 0 ∨ t = 1) ∧ A % 2 = t := ⟨A / 2, A % 2, by omega, by omega, rfl⟩
theorem mod_next (a : Int) (k : Nat) : a % 2 ^ (k + 1) = 2 ^ k * bit a k + a % 2 ^ k := by
  have hP := pow2_pos k
  unfold bit
  rw [Int.pow_succ]
  have h1 := Int.emod_nonneg a (Int.ne_of_gt hP)
  have h2 := Int.emod_lt_of_pos a hP
  have h3 := Int.mul_ediv_add_emod a (2 ^ k)
  generalize (2 : Int) ^ k = P at *
  obtain ⟨q, t, e, ht, et⟩ := split2 (a / P)
  rw [et]
  have e2 : a = (P * 2) * q + (P * t + a % P) := by
    rw [e] at h3
    rw [Int.mul_add, ← Int.mul_assoc] at h3
    omega
  rcases ht with rfl | rfl
  · exact (dm e2 (by omega) (by omega)).2
  · exact (dm e2 (by omega) (by omega)).2
theorem add_bit {a b c : Int} (k : Nat) : bit a k + bit b k + car a b c k = bit (a + b + c) k + 2 * car a b c (k + 1) := by
  have hP := pow2_pos k
  have h1 := Int.mul_ediv_add_emod a (2 ^ k)
  have h2 := Int.mul_ediv_add_emod b (2 ^ k)
  have na := mod_next a k
  have nb := mod_next b k
  have e1 : (a + b + c) / 2 ^ k = a / 2 ^ k + b / 2 ^ k + car a b c k := by
    unfold car
    have e : a + b + c = (a % 2 ^ k + b % 2 ^ k + c) + 2 ^ k * (a / 2 ^ k + b / 2 ^ k) := by rw [Int.mul_add]; omega
    conv => lhs; rw [e]
    rw [Int.add_mul_ediv_left _ _ (Int.ne_of_gt hP)]
    omega
  have e2 : car a b c (k + 1) = (bit a k + bit b k + car a b c k) / 2 := by
    unfold car
    rw [na, nb, Int.pow_succ, ← Int.ediv_ediv_of_nonneg (Int.le_of_lt hP)]
    have e : 2 ^ k * bit a k + a % 2 ^ k + (2 ^ k * bit b k + b % 2 ^ k) + c = (a % 2 ^ k + b % 2 ^ k + c) + 2 ^ k * (bit a k + bit b k) := by rw [Int.mul_add]; omega
    rw [e, Int.add_mul_ediv_left _ _ (Int.ne_of_gt hP)]
    congr 1; omega
  rw [e2]
  have e3 : bit (a + b + c) k = (a / 2 ^ k + b / 2 ^ k + car a b c k) % 2 := by
    show (a + b + c) / 2 ^ k % 2 = _
    rw [e1]
  rw [e3]
  show a / 2 ^ k % 2 + b / 2 ^ k % 2 + car a b c k = (a / 2 ^ k + b / 2 ^ k + car a b c k) % 2 + 2 * ((a / 2 ^ k % 2 + b / 2 ^ k % 2 + car a b c k) / 2)
  generalize a / 2 ^ k = A
  generalize b / 2 ^ k = B
  generalize car a b c k = C
  omega
theorem bit_next (n : Int) (k : Nat) : bit n (k + 1) = bit (n / 2) k := by
  unfold bit
  rw [Int.pow_succ, Int.mul_comm, ← Int.ediv_ediv_of_nonneg (by decide)]
theorem bit_zero (n : Int) : bit n 0 = n % 2 := by unfold bit; simp
theorem bit_not (n : Int) (k : Nat) : bit (-1 - n) k = 1 - bit n k := by
  induction k generalizing n with
  | zero => rw [bit_zero, bit_zero]; omega
  | succ k ih =>
    rw [bit_next, bit_next]
    have e : (-1 - n) / 2 = -1 - n / 2 := by omega
    rw [e, ih]
theorem bits_not (w : Nat) (n : Int) : (bts w n).map (fun b => 1 - b) = bts w (-1 - n) := by
  unfold bts
  rw [List.map_map]
  exact List.map_congr_left fun k _ => (bit_not n k).symm
/-- a row of bits, the first i of them -/
def val (n : Int) : Nat → Int
  | 0 => 0
  | i + 1 => val n i + bit n i * 2 ^ i
theorem val_mod (n : Int) : ∀ i, val n i = n % 2 ^ i
  | 0 => by show 0 = n % 1; omega
  | i + 1 => by
    show val n i + bit n i * 2 ^ i = n % 2 ^ (i + 1)
    rw [val_mod n i, mod_next, Int.mul_comm]; omega
theorem val_wrap {w : Int} (hw : Wd w) (n : Int) : val n (w - 1).toNat - bit n (w - 1).toNat * 2 ^ (w - 1).toNat = wrapI w n := by
  rw [val_mod]
  unfold wrapI
  show n % 2 ^ (w - 1).toNat - n / 2 ^ (w - 1).toNat % 2 * 2 ^ (w - 1).toNat = _
  have e : (2 : Int) ^ (w - 1).toNat = hf w := rfl
  rw [e]
  obtain ⟨h0, _⟩ := hf_pos hw
  have h3 := Int.mul_ediv_add_emod n (hf w)
  have h1 := Int.emod_nonneg n (Int.ne_of_gt h0)
  have h2 := Int.emod_lt_of_pos n h0
  generalize hf w = P at *
  obtain ⟨q, t, e, ht, et⟩ := split2 (n / P)
  rw [et]
  rw [e] at h3
  have h4 : P * (2 * q + t) = 2 * P * q + P * t := by rw [Int.mul_add, ← Int.mul_assoc, Int.mul_comm P 2]
  rw [h4] at h3
  rcases ht with rfl | rfl
  · rw [(dm (P := 2 * P) (q := q) (r := n % P + P) (x := n + P) (by omega) (by omega) (by omega)).2]; omega
  · rw [(dm (P := 2 * P) (q := q + 1) (r := n % P) (x := n + P) (by rw [Int.mul_add]; omega) (by omega) (by omega)).2]; omega
/-! ### and, or, xor -/
theorem and_nat (a b : Nat) : ((a &&& b : Nat) : Int) = 2 * ((a / 2 &&& b / 2 : Nat) : Int) + ((a : Int) % 2) * ((b : Int) % 2) := by
  have h1 : (a &&& b) / 2 = a / 2 &&& b / 2 := Nat.and_div_two
  have h2 : (a &&& b) % 2 = (a % 2) * (b % 2) := by
    have h := Nat.and_mod_two_pow (a := a) (b := b) (n := 1)
    rw [Nat.pow_one] at h
    rw [h]
    rcases Nat.mod_two_eq_zero_or_one a with h | h <;> rcases Nat.mod_two_eq_zero_or_one b with h' | h' <;> rw [h, h'] <;> rfl
  have h3 : (a &&& b) = 2 * ((a &&& b) / 2) + (a &&& b) % 2 := by omega
  rw [h1, h2] at h3
  have h4 : ((a &&& b : Nat) : Int) = ((2 * (a / 2 &&& b / 2) + a % 2 * (b % 2) : Nat) : Int) := by rw [← h3]
  rw [h4]
  push_cast
  rfl
theorem or_nat (a b : Nat) : ((a ||| b : Nat) : Int) = 2 * ((a / 2 ||| b / 2 : Nat) : Int) + ((a : Int) % 2 + (b : Int) % 2 - ((a : Int) % 2) * ((b : Int) % 2)) := by
  have h1 : (a ||| b) / 2 = a / 2 ||| b / 2 := Nat.or_div_two
  have h2 : ((a ||| b) % 2 : Nat) = (a % 2) + (b % 2) - (a % 2) * (b % 2) := by
    have h := Nat.or_mod_two_pow (a := a) (b := b) (n := 1)
    rw [Nat.pow_one] at h
    rw [h]
    rcases Nat.mod_two_eq_zero_or_one a with h | h <;> rcases Nat.mod_two_eq_zero_or_one b with h' | h' <;> rw [h, h'] <;> rfl
  have h3 : (a ||| b) = 2 * ((a ||| b) / 2) + (a ||| b) % 2 := by omega
  rw [h1, h2] at h3
  have h4 : ((a ||| b : Nat) : Int) = ((2 * (a / 2 ||| b / 2) + (a % 2 + b % 2 - a % 2 * (b % 2)) : Nat) : Int) := by rw [← h3]
  rw [h4]
  have ha : (a % 2 : Nat) = 0 ∨ (a % 2 : Nat) = 1 := by omega
  have hb : (b % 2 : Nat) = 0 ∨ (b % 2 : Nat) = 1 := by omega
  have ea : (a : Int) % 2 = ((a % 2 : Nat) : Int) := by push_cast; rfl
  have eb : (b : Int) % 2 = ((b % 2 : Nat) : Int) := by push_cast; rfl
  rw [ea, eb]
  rcases ha with ha | ha <;> rcases hb with hb | hb <;> rw [ha, hb] <;> push_cast <;> omega
theorem not_half (y : Int) : (Builtin.bitNot y) / 2 = Builtin.bitNot (y / 2) := by unfold Builtin.bitNot; omega
theorem mul01 {a b : Int} (ha : a = 0 ∨ a = 1) (hb : b = 0 ∨ b = 1) : a * b = 0 ∨ a * b = 1 := by rcases ha with rfl | rfl <;> rcases hb with rfl | rfl <;> decide
theorem and_rec (x y : Int) : Builtin.bitAnd x y = 2 * Builtin.bitAnd (x / 2) (y / 2) + (x % 2) * (y % 2) := by
  by_cases hx : 0 ≤ x <;> by_cases hy : 0 ≤ y
  · have h1 : 0 ≤ x / 2 := by omega
    have h2 : 0 ≤ y / 2 := by omega
    have n := and_nat x.toNat y.toNat
    unfold Builtin.bitAnd
    simp only [decide_eq_true hx, decide_eq_true hy, decide_eq_true h1, decide_eq_true h2]
    rw [n]
    have e1 : ((x.toNat : Nat) : Int) = x := Int.toNat_of_nonneg hx
    have e2 : ((y.toNat : Nat) : Int) = y := Int.toNat_of_nonneg hy
    have e3 : x.toNat / 2 = (x / 2).toNat := by omega
    have e4 : y.toNat / 2 = (y / 2).toNat := by omega
    rw [e1, e2, e3, e4]
  · have h1 : 0 ≤ x / 2 := by omega
    have h2 : ¬ 0 ≤ y / 2 := by omega
    have n := and_nat x.toNat (Builtin.bitNot y).toNat
    unfold Builtin.bitAnd
    simp only [decide_eq_true hx, decide_eq_false hy, decide_eq_true h1, decide_eq_false h2]
    rw [n]
    have hn : 0 ≤ Builtin.bitNot y := by unfold Builtin.bitNot; omega
    have e1 : ((x.toNat : Nat) : Int) = x := Int.toNat_of_nonneg hx
    have e2 : (((Builtin.bitNot y).toNat : Nat) : Int) = Builtin.bitNot y := Int.toNat_of_nonneg hn
    have e3 : x.toNat / 2 = (x / 2).toNat := by omega
    have e4 : (Builtin.bitNot y).toNat / 2 = (Builtin.bitNot (y / 2)).toNat := by rw [← not_half]; omega
    rw [e1, e2, e3, e4]
    have hb : Builtin.bitNot y % 2 = 1 - y % 2 := by unfold Builtin.bitNot; omega
    rw [hb]
    rcases (show x % 2 = 0 ∨ x % 2 = 1 by omega) with h | h <;> rcases (show y % 2 = 0 ∨ y % 2 = 1 by omega) with h' | h' <;> rw [h, h'] <;> omega
  · have h1 : ¬ 0 ≤ x / 2 := by omega
    have h2 : 0 ≤ y / 2 := by omega
    have n := and_nat y.toNat (Builtin.bitNot x).toNat
    unfold Builtin.bitAnd
    simp only [decide_eq_false hx, decide_eq_true hy, decide_eq_false h1, decide_eq_true h2]
    rw [n]
    have hn : 0 ≤ Builtin.bitNot x := by unfold Builtin.bitNot; omega
    have e1 : ((y.toNat : Nat) : Int) = y := Int.toNat_of_nonneg hy
    have e2 : (((Builtin.bitNot x).toNat : Nat) : Int) = Builtin.bitNot x := Int.toNat_of_nonneg hn
    have e3 : y.toNat / 2 = (y / 2).toNat := by omega
    have e4 : (Builtin.bitNot x).toNat / 2 = (Builtin.bitNot (x / 2)).toNat := by rw [← not_half]; omega
    rw [e1, e2, e3, e4]
    have hb : Builtin.bitNot x % 2 = 1 - x % 2 := by unfold Builtin.bitNot; omega
    rw [hb]
    rcases (show x % 2 = 0 ∨ x % 2 = 1 by omega) with h | h <;> rcases (show y % 2 = 0 ∨ y % 2 = 1 by omega) with h' | h' <;> rw [h, h'] <;> omega
  · have h1 : ¬ 0 ≤ x / 2 := by omega
    have h2 : ¬ 0 ≤ y / 2 := by omega
    have n := or_nat (Builtin.bitNot x).toNat (Builtin.bitNot y).toNat
    unfold Builtin.bitAnd
    simp only [decide_eq_false hx, decide_eq_false hy, decide_eq_false h1, decide_eq_false h2]
    rw [n]
    have hm : 0 ≤ Builtin.bitNot x := by unfold Builtin.bitNot; omega
    have hn : 0 ≤ Builtin.bitNot y := by unfold Builtin.bitNot; omega
    have e1 : (((Builtin.bitNot x).toNat : Nat) : Int) = Builtin.bitNot x := Int.toNat_of_nonneg hm
    have e2 : (((Builtin.bitNot y).toNat : Nat) : Int) = Builtin.bitNot y := Int.toNat_of_nonneg hn
    have e3 : (Builtin.bitNot x).toNat / 2 = (Builtin.bitNot (x / 2)).toNat := by rw [← not_half]; omega
    have e4 : (Builtin.bitNot y).toNat / 2 = (Builtin.bitNot (y / 2)).toNat := by rw [← not_half]; omega
    rw [e1, e2, e3, e4]
    have ha : Builtin.bitNot x % 2 = 1 - x % 2 := by unfold Builtin.bitNot; omega
    have hb : Builtin.bitNot y % 2 = 1 - y % 2 := by unfold Builtin.bitNot; omega
    rw [ha, hb]
    generalize ((Builtin.bitNot (x / 2)).toNat ||| (Builtin.bitNot (y / 2)).toNat : Nat) = O
    show -(2 * (O : Int) + (1 - x % 2 + (1 - y % 2) - (1 - x % 2) * (1 - y % 2))) - 1 = 2 * (-(O : Int) - 1) + x % 2 * (y % 2)
    rcases (show x % 2 = 0 ∨ x % 2 = 1 by omega) with h | h <;> rcases (show y % 2 = 0 ∨ y % 2 = 1 by omega) with h' | h' <;> rw [h, h'] <;> omega
theorem m2 (x : Int) : x % 2 = 0 ∨ x % 2 = 1 := by omega
theorem and_half (x y : Int) : Builtin.bitAnd x y % 2 = (x % 2) * (y % 2) ∧ Builtin.bitAnd x y / 2 = Builtin.bitAnd (x / 2) (y / 2) := by
  have h := and_rec x y
  have m := mul01 (m2 x) (m2 y)
  generalize x % 2 * (y % 2) = p at *
  omega
theorem bit_and (x y : Int) (k : Nat) : bit (Builtin.bitAnd x y) k = bit x k * bit y k := by
  induction k generalizing x y with
  | zero => rw [bit_zero, bit_zero, bit_zero]; exact (and_half x y).1
  | succ k ih => rw [bit_next, bit_next, bit_next, (and_half x y).2, ih]
theorem bit_or (x y : Int) (k : Nat) : bit (Builtin.bitOr x y) k = bit x k + bit y k - bit x k * bit y k := by
  induction k generalizing x y with
  | zero =>
    rw [bit_zero, bit_zero, bit_zero, bitOr_and]
    have h := and_rec x y
    have m := mul01 (m2 x) (m2 y)
    rcases m2 x with hx | hx <;> rcases m2 y with hy | hy <;> rw [hx, hy] at h ⊢ <;> omega
  | succ k ih =>
    rw [bit_next, bit_next, bit_next, ← ih, bitOr_and, bitOr_and]
    have h := and_rec x y
    congr 1
    rcases m2 x with hx | hx <;> rcases m2 y with hy | hy <;> rw [hx, hy] at h <;> omega
theorem bit_xor (x y : Int) (k : Nat) : bit (Builtin.bitXor x y) k = (bit x k + bit y k) % 2 := by
  induction k generalizing x y with
  | zero =>
    rw [bit_zero, bit_zero, bit_zero, bitXor_and]
    have h := and_rec x y
    rcases m2 x with hx | hx <;> rcases m2 y with hy | hy <;> rw [hx, hy] at h ⊢ <;> omega
  | succ k ih =>
    rw [bit_next, bit_next, bit_next, ← ih, bitXor_and, bitXor_and]
    have h := and_rec x y
    congr 1
    rcases m2 x with hx | hx <;> rcases m2 y with hy | hy <;> rw [hx, hy] at h <;> omega
end My
namespace My
open PySem PySem.Spec PyProof.Rows L2
theorem Same.put {H1 H : Hp} {D : Addr} {o : HO} (h : Same H1 H) (hD : H1 D = none) : Same H1 (upd H D o) := fun p u e => by
  rw [upd_ne (ne_of_none e hD)]; exact h p u e
theorem Kp.put {b : Addr} {H1 H : Hp} {D : Addr} {o : HO} (h : Kp b H1 H) (hD : H1 D = none) : Kp b H1 (L2.upd H D o) := fun p u n e => by
  rw [upd_ne (ne_of_none e hD)]; exact h p u n e
theorem BagAt.put {H : Hp} {b D : Addr} {o : HO} (B : BagAt H b) (hD : H D = none) : BagAt (upd H D o) b := by
  obtain ⟨c, ns, a, r, s, n, hb, hc, ha, hl⟩ := B.ex
  exact ⟨c, ns, a, r, s, n, by rw [upd_ne (ne_of_none hb hD)]; exact hb, by rw [upd_ne (ne_of_none hc hD)]; exact hc, ha, hl⟩
theorem BagAt.same {H H' : Hp} {b : Addr} (B : BagAt H b) (h : Same H H') : BagAt H' b := by
  obtain ⟨c, ns, a, r, s, n, hb, hc, ha, hl⟩ := B.ex
  exact ⟨c, ns, a, r, s, n, h _ _ hb, h _ _ hc, ha, hl⟩
theorem BagAt.some {H : Hp} {b : Addr} (B : BagAt H b) : ∃ o, H b = some o := by
  obtain ⟨c, ns, a, r, s, n, hb, _⟩ := B.ex
  exact ⟨_, hb⟩
/-- a new list at D that grows to ys, all that was tracked ahead of it as it was -/
structure LBd (D : Addr) (ys : List V) (H1 : Hp) (i : Nat) (H : Hp) : Prop where
  hd : H D = some (.lst (ys.take i))
  sm : Same H1 H
theorem LBd_0 {D : Addr} {ys : List V} {H1 : Hp} (hD : H1 D = none) : LBd D ys H1 0 (upd H1 D (.lst [])) := ⟨upd_same, Same.put (Same.refl H1) hD⟩
theorem take_snoc {α : Type} {ys : List α} {i : Nat} {y : α} (hy : ys[i]? = some y) : ys.take (i + 1) = ys.take i ++ [y] := by rw [List.take_add_one, hy]; rfl
theorem LBd_s {D : Addr} {ys : List V} {H1 H : Hp} {i : Nat} {y : V} (h : LBd D ys H1 i H) (hD : H1 D = none) (hy : ys[i]? = some y) (hl : ys.length ≤ 1000000) :
    ∃ acc, H D = some (.lst acc) ∧ acc.length < sizeLine ∧ LBd D ys H1 (i + 1) (upd H D (.lst (acc ++ [y]))) :=
  ⟨_, h.1, by rw [List.length_take, sizeLine_eq]; omega, by rw [← take_snoc hy]; exact upd_same, Same.put h.2 hD⟩
theorem LBd_n {D : Addr} {ys : List V} {H1 H : Hp} {n : Nat} (h : LBd D ys H1 n H) (e : ys.length = n) : H D = some (.lst ys) ∧ Same H1 H := ⟨by rw [← List.take_length (l := ys), e]; exact h.1, h.2⟩
theorem map_get {ns : List Int} {i : Nat} {y : V} (h : (ns.map V.int)[i]? = some y) : ∃ z, ns[i]? = some z ∧ y = .int z := by
  rw [List.getElem?_map] at h
  cases e : ns[i]? with
  | none => rw [e] at h; cases h
  | some z => rw [e] at h; exact ⟨z, rfl, (Option.some.inj h).symm⟩
theorem map_put {ns : List Int} {i : Nat} {z : Int} (h : ns[i]? = some z) : (ns.map V.int)[i]? = some (.int z) := by rw [List.getElem?_map, h]; rfl
theorem merge_bag {c : Addr} : HO.dK (mergeK [] [((Sum.inr ("cells" : Str) : Key), V.ref c), (Sum.inr ("at" : Str), .int 0), (Sum.inr ("rest" : Str), .int 0), (Sum.inr ("seed" : Str), .int 20011), (Sum.inr ("count" : Str), .int 0)]) = bagO c 0 0 20011 0 := by
  unfold mergeK putK bagO
  simp [kns kne1, kns kne2, kns kne3, kns kne4, kns kne5, kns kne6, kns kne7, kns kne8, kns kne9, kns kne10]
abbrev spBag (K : PySem.W.Frag) : Sp := Sp1 fun x H Q _ => ∃ (a : Addr) (ns : List Int), x = .ref a ∧ SqL K H a (ns.map V.int) ∧ ns.length ≤ 63 ∧ ∀ b H', H b = none → BagAt H' b → Same H H' → Q (.ref b) H'
abbrev spHalf : Sp := Sp1 fun x H Q _ => ∃ w, x = .int w ∧ Wd w ∧ ∀ H', Same H H' → Q (.int (hf w)) H'
abbrev spWrap : Sp := Sp2 fun x y H Q _ => ∃ w n, x = .int w ∧ y = .int n ∧ Wd w ∧ ∀ H', Same H H' → Q (.int (wrapI w n)) H'
def InR (w v : Int) : Prop := -(hf w) ≤ v ∧ v < hf w
abbrev spNum : Sp := Sp2 fun x y H Q _ => ∃ (b : Addr) (w : Int), x = .ref b ∧ y = .int w ∧ Wd w ∧ BagAt H b ∧ ∀ v H', InR w v → BagAt H' b → Kp b H H' → Q (.int v) H'
theorem wrap_in {w n : Int} (h : Wd w) : InR w (wrapI w n) := by
  obtain ⟨h0, _⟩ := hf_pos h
  unfold InR wrapI
  have h1 := Int.emod_nonneg (n + hf w) (show 2 * hf w ≠ 0 by omega)
  have h2 := Int.emod_lt_of_pos (n + hf w) (show 0 < 2 * hf w by omega)
  omega
end My
namespace My
open PySem PySem.Spec PyProof.Rows L2
theorem tYes_i {σ : L2.St} {H : Hp} {Q : Bool → Hp → Prop} (h : Q true H) : tYes σ H Q := h
end My
namespace My
open PySem PySem.Spec PyProof.Rows L2
theorem pw {w : Int} (h : Wd w) : 2 * hf w = 2 ^ w.toNat := by rcases h with rfl | rfl | rfl <;> rfl
theorem pw1 {w : Int} (h : Wd w) : hf w = 2 ^ (w - 1).toNat := rfl
theorem wnat {w : Int} (h : Wd w) : 0 < w.toNat ∧ w.toNat ≤ 32 ∧ (w.toNat : Int) = w ∧ (w - 1).toNat + 1 = w.toNat := by rcases h with rfl | rfl | rfl <;> decide
/-- the rest behind i halvings -/
def rst (w n : Int) (i : Nat) : Int := n % (2 * hf w) / 2 ^ i
theorem rst_0 {w n : Int} : rst w n 0 = n % (2 * hf w) := by unfold rst; simp
theorem rst_s {w n : Int} (i : Nat) : rst w n i / 2 = rst w n (i + 1) := by
  unfold rst
  rw [Int.pow_succ, Int.ediv_ediv_of_nonneg (Int.le_of_lt (pow2_pos i))]
theorem rst_bit {w n : Int} (h : Wd w) {i : Nat} (hi : i < w.toNat) : rst w n i % 2 = bit n i := by
  unfold rst bit
  rw [pw h]
  have hP := pow2_pos i
  have e : (2 : Int) ^ w.toNat = 2 ^ i * 2 * 2 ^ (w.toNat - i - 1) := by
    rw [← Int.pow_succ, ← Int.pow_add]
    congr 1; omega
  have h3 := Int.mul_ediv_add_emod n (2 ^ w.toNat)
  have h4 : n = n % 2 ^ w.toNat + 2 ^ i * (2 * (2 ^ (w.toNat - i - 1) * (n / 2 ^ w.toNat))) := by
    conv => lhs; rw [← h3]
    rw [show (2 : Int) ^ w.toNat * (n / 2 ^ w.toNat) = 2 ^ i * (2 * (2 ^ (w.toNat - i - 1) * (n / 2 ^ w.toNat))) by
      conv => lhs; arg 1; rw [e]
      simp only [Int.mul_assoc]]
    omega
  conv => rhs; rw [h4]
  rw [Int.add_mul_ediv_left _ _ (Int.ne_of_gt hP)]
  omega
theorem bts_zeros (w : Nat) : bts w 0 = List.replicate w 0 := by
  refine List.ext_getElem (by simp [bts]) fun i h1 h2 => ?_
  simp [bts, bit]
theorem bts_shift {w : Nat} (h : 0 < w) (m : Int) : (0 : Int) :: (bts w m).dropLast = bts w (2 * m) := by
  obtain ⟨v, rfl⟩ : ∃ v, w = v + 1 := ⟨w - 1, by omega⟩
  rw [bts_succ, List.dropLast_concat]
  unfold bts
  rw [List.range_succ_eq_map, List.map_cons, List.map_map]
  congr 1
  · unfold bit; simp
  · refine List.map_congr_left fun k _ => ?_
    show bit m k = bit (2 * m) (k + 1)
    rw [bit_next]
    congr 1; omega
abbrev spBits : Sp := Sp2 fun x y H Q _ => ∃ w n, x = .int w ∧ y = .int n ∧ Wd w ∧ ∀ l H', H l = none → H' l = some (.lst ((bts w.toNat n).map V.int)) → Same H H' → Q (.ref l) H'
abbrev spOfBits (K : PySem.W.Frag) : Sp := Sp1 fun x H Q _ => ∃ (p : Addr) (w n : Int), x = .ref p ∧ H p = some (.lst ((bts w.toNat n).map V.int)) ∧ Wd w ∧ Q (.int (wrapI w n)) H
abbrev spSum (K : PySem.W.Frag) : Sp := Sp3 fun x y z H Q _ => ∃ (p q : Addr) (c : Int) (w : Nat) (a b : Int), x = .ref p ∧ y = .ref q ∧ z = .int c ∧ H p = some (.lst ((bts w a).map V.int)) ∧ H q = some (.lst ((bts w b).map V.int)) ∧ (c = 0 ∨ c = 1) ∧ w ≤ 64 ∧
  ∀ l H', H l = none → H' l = some (.lst ((bts w (a + b + c)).map V.int)) → Same H H' → Q (.ref l) H'
end My
namespace My
open PySem PySem.Spec PyProof.Rows L2
theorem LBd_p {D : Addr} {ys : List V} {H1 H : Hp} {i : Nat} {y : V} (h : LBd D ys H1 i H) (hD : H1 D = none) (hy : ys[i]? = some y) : LBd D ys H1 (i + 1) (upd H D (.lst (ys.take i ++ [y]))) :=
  ⟨by rw [← take_snoc hy]; exact upd_same, Same.put h.2 hD⟩
theorem cut_init (xs : List V) : cutV xs none (some (-1)) = xs.dropLast := by
  unfold cutV
  rw [HT.sIx_none]
  show (xs.drop 0).take (HT.sIx xs.length xs.length (some (-1)) - 0) = _
  have e : HT.sIx xs.length xs.length (some (-1)) = xs.length - 1 := by
    unfold HT.sIx
    simp only
    rw [if_pos (show (-1 : Int) < 0 by decide)]; omega
  rw [e, List.drop_zero, Nat.sub_zero, List.dropLast_eq_take]
end My
namespace My
open PySem PySem.Spec PyProof.Rows L2
abbrev spProd (K : PySem.W.Frag) : Sp := Sp2 fun x y H Q _ => ∃ (p q : Addr) (w : Nat) (a b : Int), x = .ref p ∧ y = .ref q ∧ H p = some (.lst ((bts w a).map V.int)) ∧ H q = some (.lst ((bts w b).map V.int)) ∧ w ≤ 64 ∧ 0 < w ∧
  ∀ l H', H l = none → H' l = some (.lst ((bts w (a * b)).map V.int)) → Same H H' → Q (.ref l) H'
end My

namespace My
open PySem PySem.Spec PyProof.Rows L2
theorem bit_add {w i : Nat} (h : i < w) (x y : Int) : bit (x + 2 ^ w * y) i = bit x i := by
  unfold bit
  have hP := pow2_pos i
  have e : (2 : Int) ^ w = 2 ^ i * (2 * 2 ^ (w - i - 1)) := by
    rw [← Int.mul_assoc, ← Int.pow_succ, ← Int.pow_add]
    congr 1; omega
  rw [e, Int.mul_assoc, Int.add_mul_ediv_left _ _ (Int.ne_of_gt hP), Int.mul_assoc]
  omega
theorem bts_mod (w : Nat) (x y : Int) (h : ∃ z, y = x + 2 ^ w * z) : bts w x = bts w y := by
  obtain ⟨z, rfl⟩ := h
  unfold bts
  exact List.map_congr_left fun k hk => (bit_add (List.mem_range.mp hk) x z).symm
end My
namespace My
open PySem PySem.Spec PyProof.Rows L2
theorem dp_ints {K : PySem.W.Frag} {H : Hp} : ∀ ns : List Int, DpAll K H (ns.map V.int) (ns.map PyData.int)
  | [] => .nil
  | n :: r => .cons (.int n) (dp_ints r)
theorem lay_ints : ∀ ns : List Int, PyData.canLayAll0 (ns.map PyData.int) = true
  | [] => rfl
  | n :: r => by
    have ih := lay_ints r
    simp only [List.map_cons, PyData.canLayAll0, ih]; rfl
theorem deep_ints : ∀ ns : List Int, PyData.depthAll (ns.map PyData.int) ≤ 1
  | [] => by simp [PyData.depthAll]
  | n :: r => by
    have ih := deep_ints r
    simp only [List.map_cons, PyData.depthAll, PyData.depth]; omega
theorem shaped_ints (ns : List Int) : SeqAt.shaped (.list (ns.map PyData.int)) = true := by
  unfold SeqAt.shaped
  have h1 : PyData.canLay0 (.list (ns.map PyData.int)) = true := by simp only [PyData.canLay0]; exact lay_ints ns
  have h2 := deep_ints ns
  have h3 : (PyData.list (ns.map PyData.int)).depth ≤ 64 := by simp only [PyData.depth]; omega
  rw [h1, decide_eq_true h3]; rfl
/-- == of two lists of ints -/
def rEqInts (K : PySem.W.Frag) (neg : Bool) : R2 := fun x y H Q => ∃ (p q : Addr) (xs ys : List Int), x = .ref p ∧ y = .ref q ∧ SqL K H p (xs.map V.int) ∧ SqL K H q (ys.map V.int) ∧ Q (.bl (if neg = true then !decide (xs = ys) else decide (xs = ys))) H
theorem eqv_ints (ns ms : List Int) : PyData.eqv (.list (ns.map PyData.int)) (.list (ms.map PyData.int)) = decide (ns = ms) := by
  rw [← PySem.W.ked_eqvAll]; simp only [PyData.eqv]
theorem op_eqInts {X : Cx} (hu : X.A.units + 64 < cLine) : OpR X (compareOp .Eq) (rEqInts X.K false) := by
  intro pins s σ H x y v u Q I rx ry h
  obtain ⟨p, q, xs, ys, rfl, rfl, hp, hq, k⟩ := h
  refine op_eqD hu pins s σ H _ _ v u Q I rx ry ⟨_, _, .lst hp (dp_ints xs), .lst hq (dp_ints ys), shaped_ints xs, shaped_ints ys, ?_⟩
  rw [eqv_ints]; exact k
theorem op_neInts {X : Cx} (hu : X.A.units + 64 < cLine) : OpR X (compareOp .NotEq) (rEqInts X.K true) := by
  intro pins s σ H x y v u Q I rx ry h
  obtain ⟨p, q, xs, ys, rfl, rfl, hp, hq, k⟩ := h
  refine op_neD hu pins s σ H _ _ v u Q I rx ry ⟨_, _, .lst hp (dp_ints xs), .lst hq (dp_ints ys), shaped_ints xs, shaped_ints ys, ?_⟩
  rw [eqv_ints]; exact k
end My
namespace My
open PySem PySem.Spec PyProof.Rows L2
/-- behind a new object the heap is a heap of its own -/
@[elab_as_elim] theorem alloc_gen {H : Hp} {p : Addr} {o : HO} {G : Hp → Prop} (hp : H p = none) (h : ∀ H1, Same H H1 → H1 p = some o → G H1) : G (upd H p o) :=
  h _ (Same.put (Same.refl H) hp) upd_same
/-- within a try: what a call lets out, whatever the slots are -/
theorem passT {X : Cx} {W : WX} (tk : Takes X W) : Passes (L2.CX X.prog X.w) X (fun cls d H => ∀ σ : L2.St, σ.length = X.N.length → W cls d σ H) :=
  fun _ σ _ _ e s' I c => tk e s' (XE.of_call I (fun _ _ _ h => h σ I.len) c)
theorem BagAt.ne_tup {H : Hp} {b p : Addr} {xs : List V} (B : BagAt H b) (h : H p = Option.some (HO.tup xs)) : p ≠ b := by
  obtain ⟨c, ns, a, r, s, n, hb, _⟩ := B.ex
  exact ne_of h hb (by intro z; cases z)
theorem BagAt.ne_lst {H : Hp} {b p : Addr} {xs : List V} (B : BagAt H b) (h : H p = Option.some (HO.lst xs)) : p ≠ b := by
  obtain ⟨c, ns, a, r, s, n, hb, _⟩ := B.ex
  exact ne_of h hb (by intro z; cases z)
theorem log2_of {n : Nat} (h : n < 2 ^ 9000) : n.log2 < 9000 := by
  by_cases e : n = 0
  · subst e; decide
  · exact (Nat.log2_lt e).mpr h
theorem log2_small {r : Int} (h : r.natAbs ≤ 4294967296) : r.natAbs.log2 < 9000 := by
  by_cases e : r.natAbs = 0
  · rw [e]; decide
  · have h1 : r.natAbs.log2 < 64 := (Nat.log2_lt e).mpr (by omega)
    omega
theorem InR.log2 {w r : Int} (hw : Wd w) (h : InR w r) : r.natAbs.log2 < 9000 := by
  have hq := hf_pos hw
  unfold InR at h
  exact log2_small (by omega)
end My
namespace My
open PySem PySem.Spec PyProof.Rows L2
def rNotInDT (K : PySem.W.Frag) : R2 := fun x y H Q => ∃ (d : PyData) (ds : List PyData), Dp K H x d ∧ Dp K H y (.tuple ds) ∧ SeqAt.shaped d = true ∧ SeqAt.shaped (.tuple ds) = true ∧ Q (.bl (!ds.any fun z => PyData.eqv z d)) H
theorem op_notInDT {X : Cx} (hu : X.A.units + 65 < cLine) : OpR X (compareOp .NotIn) (rNotInDT X.K) := by
  intro pins s σ H x y v u Q I rx ry h
  obtain ⟨d, ds, hd, he, sd, se, q⟩ := h
  obtain ⟨as, r1⟩ := Dp.reads I d x v hd rx
  obtain ⟨bs, r2⟩ := Dp.reads I (.tuple ds) y u he ry
  exact SeqAt.notIn_tuple_reads r2 r1 (SeqAt.canLay_of_shaped se) (SeqAt.canLay_of_shaped sd) (room_in_shaped sd hu) ⟨.bl _, H, I, rfl, q⟩
end My
namespace My
open PySem PySem.Spec PyProof.Rows L2
/-! ### plain things as data -/
inductive PD (H : Hp) : V → PyData → Prop where
  | int (i : Int) : PD H (.int i) (.int i)
  | bl (b : Bool) : PD H (.bl b) (.bool b)
  | non : PD H .non .none
  | str (s : Str) (h : PyData.strOk s = true) : PD H (.str s) (.str s)
  | tupI {a : Addr} {i : Int} (h : H a = some (.tup [.int i])) : PD H (.ref a) (.tuple [.int i])
  | tupS {a : Addr} {s : Str} (h : H a = some (.tup [.str s])) (hs : PyData.strOk s = true) : PD H (.ref a) (.tuple [.str s])
theorem PD.pl {H : Hp} {v : V} {d : PyData} (h : PD H v d) : Pl H v := by
  cases h with
  | int i => exact .int i
  | bl b => exact .bl b
  | non => exact .non
  | str s _ => exact .str s
  | tupI h => exact .tup h
  | tupS h _ => exact .tup h
theorem PD.same {H H' : Hp} {v : V} {d : PyData} (h : PD H v d) (k : Same H H') : PD H' v d := by
  cases h with
  | int i => exact .int i
  | bl b => exact .bl b
  | non => exact .non
  | str s h => exact .str s h
  | tupI h => exact .tupI (k _ _ h)
  | tupS h hs => exact .tupS (k _ _ h) hs
theorem PD.kp {H H' : Hp} {v : V} {d : PyData} {b : Addr} (h : PD H v d) (B : BagAt H b) (k : Kp b H H') : PD H' v d := by
  cases h with
  | int i => exact .int i
  | bl b => exact .bl b
  | non => exact .non
  | str s h => exact .str s h
  | tupI h => exact .tupI (k _ _ (B.ne_tup h) h)
  | tupS h hs => exact .tupS (k _ _ (B.ne_tup h) h) hs
theorem PD.dp {K : PySem.W.Frag} {H : Hp} {v : V} {d : PyData} (h : PD H v d) : Dp K H v d := by
  cases h with
  | int i => exact .int i
  | bl b => exact .bl b
  | non => exact .non
  | str s _ => exact .str s
  | tupI h => exact .tup (SqT.of h) (.cons (.int _) .nil)
  | tupS h _ => exact .tup (SqT.of h) (.cons (.str _) .nil)
theorem PD.lay {H : Hp} {v : V} {d : PyData} (h : PD H v d) : d.canLay0 = true := by
  cases h with
  | int i => simp [PyData.canLay0]
  | bl b => simp [PyData.canLay0]
  | non => simp [PyData.canLay0]
  | str s h => simpa [PyData.canLay0] using h
  | tupI h => simp [PyData.canLay0, PyData.canLayAll0]
  | tupS h hs => simpa [PyData.canLay0, PyData.canLayAll0] using hs
theorem PD.shp {H : Hp} {v : V} {d : PyData} (h : PD H v d) : SeqAt.shaped d = true := by
  have h1 := h.lay
  unfold SeqAt.shaped
  rw [h1, Bool.true_and]
  cases h <;> simp [PyData.depth, PyData.depthAll]
theorem PD.refl {H : Hp} {v : V} {d : PyData} (h : PD H v d) : PyData.eqv d d = true := SeqAt.eqv_refl d h.lay
/-- a pair: a word and a thing -/
abbrev spSame : Sp := Sp2 fun x y H Q _ => ∃ (t u : Addr) (k : Str) (v : V) (d : PyData), x = .ref t ∧ y = .ref u ∧ H t = some (.tup [.str k, v]) ∧ H u = some (.tup [.str k, v]) ∧ PD H v d ∧ Q (.bl true) H
theorem find_first {α : Type} {p : α → Bool} : ∀ {l : List α} {i : Nat} {y : α}, (∀ j x, j < i → l[j]? = some x → p x = false) → l[i]? = some y → p y = true → l.find? p = some y
  | [], i, y, _, h, _ => by simp at h
  | a :: r, 0, y, _, h, hp => by
    have e : a = y := Option.some.inj h
    subst e
    rw [List.find?_cons, hp]
  | a :: r, i + 1, y, hn, h, hp => by
    have ha : p a = false := hn 0 a (Nat.succ_pos i) rfl
    rw [List.find?_cons, ha]
    exact find_first (l := r) (i := i) (fun j x hj hx => hn (j + 1) x (Nat.succ_lt_succ hj) hx) h hp
theorem find_none {α : Type} {p : α → Bool} {l : List α} (h : ∀ (j : Nat) (x : α), l[j]? = some x → p x = false) : l.find? p = none := by
  refine List.find?_eq_none.mpr fun x hx => ?_
  obtain ⟨j, hj⟩ := List.mem_iff_getElem?.mp hx
  rw [h j x hj]; decide
end My
namespace My
open PySem PySem.Spec PyProof.Rows L2
/-- f(a, ..), f a def with *rest -/
theorem pe_callR {X : Cx} {CX : CXT} {k : Nat} {f : Addr} {sp : Sp} {E : XK} {x : Str} {e : Expr} {es : List Expr} {t : TA} {p pos : Pos} (F : FnR X.prog X.w X.K X.mg X.base CX k f sp) (room : Room k X.A) (kept : PySem.W.keepIn X.K (.ref f) = true) (hg : Gl X x)
    (hm : X.mg x = some (.ref f)) (hx : Passes CX X E) (ha : PA X (e :: es) t) (hd : (x == ("__debug__" : Str)) = false := by decide) (he : starEach (e :: es) X.env = (false, eval e X.env) :: starEach es X.env := by rfl)
    (hpl : (backTo pos (starEach es X.env)).any (·.1) = false := by rfl) : PE X (.Call (.Name x p) (e :: es) [] pos) (fun σ H Q => t σ H fun vs H1 => sp vs H1 Q E) := ⟨fun pins s σ H Q I h =>
  wpAny_Call_Name_kw (ld_glob I hg hm (PySem.W.callWith_K (h₀ := X.base) I.ok.mod.kin kept (thn (ha.run pos pins s σ H _ I h) fun us s1 ⟨vs, H1, I1, r, q⟩ => ⟨I1.kIn, wpAny_call (run_fnR F room hx I1 r q)⟩) he hpl) hd)⟩
end My
namespace My
open PySem PySem.Spec PyProof.Rows L2
def tLenK (K : PySem.W.Frag) (t : TA) : TE := tCB (fun xs H Q => ∃ p ys, xs = [.ref p] ∧ (SqL K H p ys ∨ SqT K H p ys) ∧ Q (.int ys.length) H) t
def ET (W : WX) (n : Nat) : XK := fun cls d H => ∀ σ : L2.St, σ.length = n → W cls d σ H
def tCallR (sp : Sp) (E : XK) (t : TA) : TE := fun σ H Q => t σ H fun vs H1 => sp vs H1 Q E
end My
namespace My
open PySem PySem.Spec PyProof.Rows L2
/-! ### the rules with the written part by its letter -/
section
variable {X : Cx}
theorem ix_listK (K : PySem.W.Frag) (h : X.K = K := by rfl) : IxR X (rIxL K) := by subst h; exact ix_list
theorem ix_tupK (K : PySem.W.Frag) (h : X.K = K := by rfl) : IxR X (rIxT K) := by subst h; exact ix_tup
def rLen (K : PySem.W.Frag) : List V → Hp → VK → Prop := fun xs H Q => ∃ p ys, xs = [.ref p] ∧ (SqL K H p ys ∨ SqT K H p ys) ∧ Q (.int ys.length) H
theorem call_lenK (K : PySem.W.Frag) (h : X.K = K := by rfl) : CallR X (.builtin "len") (rLen K) := by subst h; exact call_len_seq
def rListOf (K : PySem.W.Frag) : List V → Hp → VK → Prop := fun xs H Q => ∃ p ys, xs = [.ref p] ∧ (SqL K H p ys ∨ SqT K H p ys) ∧ ∀ l, H l = none → Q (.ref l) (upd H l (.lst ys))
theorem call_listK (K : PySem.W.Frag) (h : X.K = K := by rfl) : CallR X (.type "list") (rListOf K) := by subst h; exact call_list_of
theorem sl_listK (K : PySem.W.Frag) (h : X.K = K := by rfl) : SlR X (rSlL K) := by subst h; exact sl_list
theorem op_inK (K : PySem.W.Frag) (h : X.K = K := by rfl) : OpR X (compareOp .In) (rIn K false) := by subst h; exact op_in_seq
theorem op_notInK (K : PySem.W.Frag) (h : X.K = K := by rfl) : OpR X (compareOp .NotIn) (rIn K true) := by subst h; exact op_notIn_seq
theorem op_eqDK (K : PySem.W.Frag) (hu : X.A.units + 64 < cLine) (h : X.K = K := by rfl) : OpR X (compareOp .Eq) (rEqD K) := by subst h; exact op_eqD hu
theorem op_neDK (K : PySem.W.Frag) (hu : X.A.units + 64 < cLine) (h : X.K = K := by rfl) : OpR X (compareOp .NotEq) (rNeD K) := by subst h; exact op_neD hu
theorem op_notInDTK (K : PySem.W.Frag) (hu : X.A.units + 65 < cLine) (h : X.K = K := by rfl) : OpR X (compareOp .NotIn) (rNotInDT K) := by subst h; exact op_notInDT hu
theorem op_eqIntsK (K : PySem.W.Frag) (hu : X.A.units + 64 < cLine) (h : X.K = K := by rfl) : OpR X (compareOp .Eq) (rEqInts K false) := by subst h; exact op_eqInts hu
theorem op_neIntsK (K : PySem.W.Frag) (hu : X.A.units + 64 < cLine) (h : X.K = K := by rfl) : OpR X (compareOp .NotEq) (rEqInts K true) := by subst h; exact op_neInts hu
theorem mt_countBK (K : PySem.W.Frag) (hu : X.A.units + 64 < cLine) (h : X.K = K := by rfl) : MtR X "list.count" (rCntB K) := by subst h; exact mt_countB hu
theorem pi_listK {tg l : Expr} {tl : TE} (K : PySem.W.Frag) (hl : PI X tg l (iList X.K tl)) (h : X.K = K := by rfl) : PI X tg l (iList K tl) := by subst h; exact hl
theorem pi_tupK {tg l : Expr} {tl : TE} (K : PySem.W.Frag) (hl : PI X tg l (iTup X.K tl)) (h : X.K = K := by rfl) : PI X tg l (iTup K tl) := by subst h; exact hl
theorem pe_bmK {e : Expr} {T : String} {r : V → List V → Hp → VK → Prop} {to : TE} {t : TA} (K : PySem.W.Frag) (hb : PE X e (tBM X.K T r to t)) (h : X.K = K := by rfl) : PE X e (tBM K T r to t) := by subst h; exact hb
def rIsTupK (K : PySem.W.Frag) : List V → Hp → VK → Prop := fun xs H Q => ∃ a o, xs = [.ref a, .ty "tuple"] ∧ K.lookup a = some o ∧ o.cls = .type "tuple" ∧ Q (.bl true) H
theorem call_isTupKK (K : PySem.W.Frag) (h : X.K = K := by rfl) : CallR X (.builtin "isinstance") (rIsTupK K) := by subst h; exact call_isTupK
end
/-! ### what is behind is put by -/
theorem seq_gen {t u : TS} {D : Ends} {σ : L2.St} {H : Hp} (h : ∀ R : L2.St → Hp → Prop, (∀ σ' H', u D σ' H' → R σ' H') → t { nx := R, rt := D.rt, bk := D.bk, ct := D.ct } σ H) : tSeq t u D σ H := h (u D) (fun _ _ q => q)
theorem cons_gen {te : TE} {ta : TA} {σ : L2.St} {H : Hp} {Q : List V → Hp → Prop} (h : ∀ R : VK, (∀ x H1, (ta σ H1 fun xs H2 => Q (x :: xs) H2) → R x H1) → te σ H R) : tCons te ta σ H Q := h _ (fun _ _ q => q)
end My
namespace My
open PySem PySem.Spec PyProof.Rows L2
/-! ### two readings of one expression: the promise chooses which one -/
def tEi (t u : TE) : TE := fun σ H Q => t σ H Q ∨ u σ H Q
def iEi (t u : TI) : TI := fun σ H R => t σ H R ∨ u σ H R
theorem pe_ei {X : Cx} {e : Expr} {t u : TE} (h : PE X e t) (h2 : PE X e u) : PE X e (tEi t u) :=
  ⟨fun pins s σ H Q i z => z.elim (h.run pins s σ H Q i) (h2.run pins s σ H Q i)⟩
theorem pi_ei {X : Cx} {tg e : Expr} {t u : TI} (h : PI X tg e t) (h2 : PI X tg e u) : PI X tg e (iEi t u) :=
  ⟨fun pins s σ H R i z => z.elim (h.run pins s σ H R i) (h2.run pins s σ H R i)⟩
end My
namespace My
open PySem PySem.Spec PyProof.Rows L2
/-! ### t[::-1] of a tuple -/
theorem sliceApplied_rev {prog : Program} {w : World} {A : Around} {E : Value → Shared → Prop} {s : Shared} {sl : Addr} {n : Nat} {k : Tok} {Q : Int × Int × Nat → Shared → Prop}
    (hs : s.heap.IsSliceOf sl .none .none (.int (-1) k)) (h : Q ((n : Int) - 1, -1, n) s) : wpAny (model prog w) A (Builtin.Slice.sliceApplied (.ref sl) (pure (n : Int))) Q E s := by
  obtain ⟨os, hos, hcs, hds⟩ := hs
  unfold Builtin.Slice.sliceApplied Builtin.Slice.sliceFields
  refine wpAny_bind (wpAny_bind (wpAny_field hos hds rfl (wpAny_bind (wpAny_field hos hds rfl (wpAny_bind (wpAny_field hos hds rfl (wpAny_pure ?_)))))))
  refine wpAny_bind (HT.slicePart_ (IsPart.int (-1) k) ?_)
  show wpAny _ _ (if ((-1 : Int) == 0) = true then _ else _) _ _ _
  rw [if_neg (by decide)]
  refine wpAny_bind (slicePart_none (wpAny_bind (slicePart_none (wpAny_bind (wpAny_pure ?_)))))
  refine wpAny_pure ?_
  have e : Builtin.Slice.slicePlaces ((n : Int) - 1) (-1) (-1) = n := by
    unfold Builtin.Slice.slicePlaces
    rw [if_neg (by decide)]
    by_cases c : (n : Int) - 1 > -1
    · rw [if_pos c, show (- -1 : Int) = 1 by decide, Int.ediv_one]; omega
    · rw [if_neg c]; omega
  show Q ((n : Int) - 1, -1, Builtin.Slice.slicePlaces ((n : Int) - 1) (-1) (-1)) s
  rw [e]
  exact h
theorem fm_congr {α β : Type} {f g : α → Option β} : ∀ {l : List α}, (∀ x ∈ l, f x = g x) → l.filterMap f = l.filterMap g
  | [], _ => rfl
  | a :: r, h => by
    rw [List.filterMap_cons, List.filterMap_cons, h a List.mem_cons_self, fm_congr (l := r) fun x hx => h x (List.mem_cons_of_mem _ hx)]
theorem pick_rev (xs : Array Value) : (List.filterMap (fun (m : Nat) => xs[((xs.size : Int) - 1 + (m : Int) * -1).toNat]?) (List.range xs.size)).toArray = xs.toList.reverse.toArray := by
  congr 1
  have h1 : (List.range xs.size).filterMap (fun (m : Nat) => xs[((xs.size : Int) - 1 + (m : Int) * -1).toNat]?) = (List.range xs.size).filterMap (fun m => xs.toList.reverse[m]?) := by
    refine fm_congr fun m hm => ?_
    have hm := List.mem_range.mp hm
    rw [List.getElem?_reverse (by rw [Array.length_toList]; exact hm), Array.length_toList, Array.getElem?_toList]
    congr 1
    omega
  rw [h1]
  generalize hl : xs.toList.reverse = l
  have hn : xs.size = l.length := by rw [← hl, List.length_reverse, Array.length_toList]
  rw [hn]
  clear h1 hl hn
  refine List.ext_getElem? fun i => ?_
  have h2 : (List.range l.length).filterMap (fun m => l[m]?) = l := by
    induction l with
    | nil => rfl
    | cons a r ih =>
      rw [List.length_cons, List.range_succ_eq_map, List.filterMap_cons]
      show (a :: (List.map Nat.succ (List.range r.length)).filterMap fun m => (a :: r)[m]?) = a :: r
      rw [List.filterMap_map]
      congr 1
  rw [h2]
theorem getItem_tuple_rev {prog : Program} {w : World} {A : Around} {E : Value → Shared → Prop} {s : Shared} {t sl : Addr} {k : Tok} {items : Array Value} {Q : Value → Shared → Prop} (ht : IsTup s.heap t items)
    (hs : s.heap.IsSliceOf sl .none .none (.int (-1) k))
    (h : Q (.ref s.heap.objs.size) { heap := s.heap.push { cls := .type "tuple", data := .seq items.toList.reverse.toArray }, gens := s.gens, drawn := s.drawn, toks := s.toks, os := s.os })
    (hz : items.size ≤ sizeLine) : wpAny (model prog w) A (getItem (.ref t) (.ref sl)) Q E s := by
  have hs' := hs
  obtain ⟨os, hos, hcs, hds⟩ := hs
  have hTs : s.TypeIs (.ref sl) "slice" := ⟨os, hos, hcs⟩
  refine wpAny_holding (wpAny_bind (wpAny_sequenceKey ht.typeIs (by decide) (wpAny_bind (wpAny_callSpecial?_slot ht.typeIs slot_tuple_getitem (wpAny_call_entry slot_tuple_getitem ht.typeIs entry_tuple_getitem ?_ (args_tuple_getitem _ _))))))
  show wpAny _ _ (do
      let xs ← Builtin.Tuple.tupleItemsOf (.ref t)
      _) _ _ _
  refine wpAny_bind (tupleItemsOf_ ht (wpAny_bind (wpAny_typeOf hTs ?_)))
  rw [if_pos (by decide)]
  refine wpAny_bind (sliceApplied_rev hs' ?_)
  simp only
  rw [if_neg (by
    intro q
    rw [Bool.and_eq_true, Bool.and_eq_true] at q
    exact absurd q.1.2 (by decide))]
  rw [pick_rev]
  refine wpAny_bind (wpAny_newObj_type (wpAny_pure ⟨_, rfl, wpAny_pure h⟩) ?_)
  show items.toList.reverse.toArray.size ≤ sizeLine
  simpa using hz
def tRevT (K : PySem.W.Frag) (te : TE) : TE := fun σ H Q => te σ H fun x H1 => ∃ a xs, x = .ref a ∧ SqT K H1 a xs ∧ ∀ p, H1 p = none → Q (.ref p) (upd H1 p (.tup xs.reverse))
theorem pe_revT {X : Cx} {e : Expr} {te : TE} {k : Nat} {p1 p2 p3 pos : Pos} (he : PE X e te) :
    PE X (.Subscript e (.Slice none none (some (.UnaryOp .USub (.Constant (.int 1) k p1) p2)) p3) pos) (tRevT X.K te) := ⟨fun pins s σ H Q I h => by
  refine Subscript_ (thn (he.run pins s σ H _ I h) ?_)
  rintro v s1 ⟨x, H1, I1, r1, a, xs, rfl, hx, q⟩
  cases r1
  have hst := po_some (X := X) (pe_un un_neg (pe_int (X := X) (i := 1) (j := k) (pos := p1)) (pos := p2))
  refine wpAny_Slice (thn (po_none.run pins s1 σ H1 (fun o H2 => o = none ∧ H2 = H1) I1 ⟨rfl, rfl⟩) ?_)
  rintro vl s2 ⟨l, H2, I2, pl, rfl, rfl⟩
  refine thn (po_none.run pins s2 σ H2 (fun o H3 => o = none ∧ H3 = H2) I2 ⟨rfl, rfl⟩) ?_
  rintro vu s3 ⟨u, H3, I3, pu, rfl, rfl⟩
  refine thn (hst.run pins s3 σ H3 (fun o H4 => o = some (-1) ∧ H4 = H3) I3 ⟨_, rfl, _, rfl, rfl, rfl⟩) ?_
  rintro vs s4 ⟨o, H4, I4, ps, rfl, rfl⟩
  cases pl
  cases pu
  obtain ⟨tk, rfl⟩ : ∃ tk, vs = Value.int (-1) tk := by cases ps; exact ⟨_, rfl⟩
  have I5 := I4.kept (h' := s4.heap.push { cls := .type "slice", data := .fields #[.none, .none, .int (-1) tk] }) (t' := s4.toks) fun b ob q => Heap.get?_push_of_some _ q
  obtain ⟨its, r, ht, hz⟩ := I5.tuple hx
  have hlen : its.toArray.size = xs.length := by rw [List.size_toArray]; exact r.length.symm
  refine tail_any ht.typeIs slot_tuple_getitem.lookup (getItem_tuple_rev ht ⟨_, Heap.get?_push_size _ rfl, rfl, rfl⟩ ?_ (by rw [hlen]; exact hz)) rfl
  refine ⟨.ref _, upd _ _ (.tup xs.reverse), I5.laid (fun b ob q => Heap.get?_push_of_some _ q) (Nat.le_refl _) ⟨by rw [List.length_reverse]; exact hz, its.reverse, r.reverse, ?_⟩, rfl, q _ (HOk.fresh I5.hok (Nat.le_refl _))⟩
  exact IsTup.new _ _⟩
end My
namespace My
open PySem PySem.Spec PyProof.Rows L2
theorem pe_revLK {X : Cx} {e : Expr} {te : TE} {k : Nat} {p1 p2 p3 pos : Pos} (K : PySem.W.Frag) (he : PE X e te) (h : X.K = K := by rfl) :
    PE X (.Subscript e (.Slice none none (some (.UnaryOp .USub (.Constant (.int 1) k p1) p2)) p3) pos) (tRevL K te) := by subst h; exact pe_revL he
theorem pe_revTK {X : Cx} {e : Expr} {te : TE} {k : Nat} {p1 p2 p3 pos : Pos} (K : PySem.W.Frag) (he : PE X e te) (h : X.K = K := by rfl) :
    PE X (.Subscript e (.Slice none none (some (.UnaryOp .USub (.Constant (.int 1) k p1) p2)) p3) pos) (tRevT K te) := by subst h; exact pe_revT he
end My
namespace My
open PySem PySem.Spec PyProof.Rows L2
def rTupOf (K : PySem.W.Frag) : List V → Hp → VK → Prop := fun xs H Q => ∃ p ys, xs = [.ref p] ∧ ((SqL K H p ys ∧ ∀ l, H l = none → Q (.ref l) (upd H l (.tup ys))) ∨ (SqT K H p ys ∧ Q (.ref p) H))
theorem call_tupleK {X : Cx} (K : PySem.W.Frag) (h : X.K = K := by rfl) : CallR X (.type "tuple") (rTupOf K) := by subst h; exact call_tuple_of
theorem op_catTK {X : Cx} (K : PySem.W.Frag) (h : X.K = K := by rfl) : OpR X (binaryOp .Add) (rCatT K) := by subst h; exact op_catT
end My
namespace My
open PySem PySem.Spec PyProof.Rows L2
/-! ### digits and texts -/
def DG : Str := "0123456789abcdefghijklmnopqrstuvwxyz"
def dch (d : Nat) : Nat := if d < 10 then 48 + d else 87 + d
def fd (c : Nat) : Int := if 48 ≤ c ∧ c ≤ 57 then c - 48 else if 97 ≤ c ∧ c ≤ 122 then c - 87 else -1
theorem find_fin : ∀ c : Fin 128, Txt.find DG ⟨#[c.val]⟩ = fd c.val := by decide +kernel
theorem find_dig {c : Nat} (h : c < 128) : Txt.find DG ⟨#[c]⟩ = fd c := find_fin ⟨c, h⟩
theorem DG_cps : DG.cps.toList = (List.range 36).map dch := by decide +kernel
theorem DG_at {d : Nat} (h : d < 36) : atI DG.cps.toList (d : Int) = some (dch d) := by
  rw [DG_cps]
  unfold atI ixN
  rw [if_pos (by omega), if_pos (by rw [List.length_map, List.length_range]; omega)]
  show ((List.range 36).map dch)[((d : Nat) : Int).toNat]? = some (dch d)
  rw [Int.toNat_natCast, List.getElem?_map, List.getElem?_range h]
  rfl
theorem DG_len : DG.length ≤ sizeLine := by rw [sizeLine_eq]; decide +kernel
theorem fd_dch {d : Nat} (h : d < 36) : fd (dch d) = d ∧ dch d < 128 := by
  unfold fd dch
  by_cases c : d < 10
  · rw [if_pos c, if_pos ⟨by omega, by omega⟩]; omega
  · rw [if_neg c, if_neg (by omega), if_pos ⟨by omega, by omega⟩]; omega
theorem foldl_cps : ∀ (ys : List Str) (a : Array Nat), ys.foldl (fun acc p => acc ++ (Str.empty).cps ++ p.cps) a = a ++ (ys.flatMap (·.cps.toList)).toArray
  | [], a => by simp
  | y :: r, a => by
    rw [List.foldl_cons, foldl_cps r]
    apply Array.toList_inj.mp
    simp [Str.empty]
theorem join_empty (ys : List Str) : Txt.join "" ys = ⟨(ys.flatMap (·.cps.toList)).toArray⟩ := by
  cases ys with
  | nil => rfl
  | cons y r =>
    have e : ("" : Str) = Str.empty := by decide +kernel
    show Builtin.Str.glued "" (y :: r) = _
    rw [e]
    unfold Builtin.Str.glued
    show Str.mk (List.foldl (fun acc p => acc ++ Str.empty.cps ++ p.cps) y.cps r) = _
    rw [foldl_cps]
    congr 1
    apply Array.toList_inj.mp
    simp
/-- a text of these codes -/
def tx (cs : List Nat) : Str := ⟨cs.toArray⟩
theorem tx_len (cs : List Nat) : (tx cs).length = cs.length := by show cs.toArray.size = _; rw [List.size_toArray]
theorem tx_one (c : Nat) : (⟨#[c]⟩ : Str) = tx [c] := rfl
theorem tx_app (a b : List Nat) : tx a ++ tx b = tx (a ++ b) := by
  show Str.append (tx a) (tx b) = _
  unfold Str.append tx
  simp
def ones (cs : List Nat) : List Str := cs.map fun c => tx [c]
theorem flat_ones (cs : List Nat) : (ones cs).flatMap (·.cps.toList) = cs := by
  unfold ones
  induction cs with
  | nil => rfl
  | cons c r ih =>
    rw [List.map_cons, List.flatMap_cons, ih]
    rfl
theorem join_onesT (cs : List Nat) : Txt.join "" (ones cs) = tx cs := by rw [join_empty, flat_ones]; rfl
theorem sum_ones (cs : List Nat) : ((ones cs).map (·.length)).sum = cs.length := by
  unfold ones
  induction cs with
  | nil => rfl
  | cons c r ih =>
    rw [List.map_cons, List.map_cons, List.sum_cons, ih, tx_len]
    simp only [List.length_cons, List.length_nil]
    omega
theorem ones_len (cs : List Nat) : (ones cs).length = cs.length := List.length_map ..
theorem ones_rev (cs : List Nat) : ((ones cs).map V.str).reverse = (ones cs.reverse).map V.str := by
  unfold ones
  rw [List.map_map, List.map_map, List.map_reverse]
theorem ones_snoc (cs : List Nat) (c : Nat) : (ones cs).map V.str ++ [V.str (tx [c])] = (ones (cs ++ [c])).map V.str := by
  unfold ones
  rw [List.map_append, List.map_append]
  rfl
/-- the digits of r in base b, the least significant first -/
def dgl (b r k : Nat) : List Nat := (List.range k).map fun j => dch (r / b ^ j % b)
theorem dgl_len (b r k : Nat) : (dgl b r k).length = k := by unfold dgl; rw [List.length_map, List.length_range]
theorem dgl_succ (b r k : Nat) : dgl b r (k + 1) = dgl b r k ++ [dch (r / b ^ k % b)] := by
  unfold dgl
  rw [List.range_succ, List.map_append]
  rfl
def sgn (n : Int) : List Nat := if n < 0 then [45] else []
/-- s is how n is written in base b -/
def IsSh (b : Nat) (n : Int) (s : Str) : Prop := ∃ k, 1 ≤ k ∧ n.natAbs < b ^ k ∧ (∀ j, 1 ≤ j → j < k → b ^ j ≤ n.natAbs) ∧ s = tx (sgn n ++ (dgl b n.natAbs k).reverse)
theorem IsSh.uniq {b : Nat} {n : Int} {s t : Str} (h : IsSh b n s) (g : IsSh b n t) : s = t := by
  obtain ⟨k, hk, h1, h2, rfl⟩ := h
  obtain ⟨m, hm, g1, g2, rfl⟩ := g
  have e : k = m := by
    rcases Nat.lt_trichotomy k m with c | c | c
    · have := g2 k hk c; omega
    · exact c
    · have := h2 m hm c; omega
  rw [e]
theorem pow_le_bound {b j r : Nat} (hb : 2 ≤ b) (h : b ^ j ≤ r) (hr : r < 2 ^ 200) : j < 200 := by
  have h1 : 2 ^ j ≤ b ^ j := Nat.pow_le_pow_left hb j
  exact (Nat.pow_lt_pow_iff_right (by decide : 1 < 2)).mp (by omega)
end My
namespace My
open PySem PySem.Spec PyProof.Rows L2
theorem starts_one (cs : List Nat) (c : Nat) : Txt.startswith (tx cs) (tx [c]) = decide (cs.head? = some c) := by
  unfold Txt.startswith Builtin.Str.subAt
  rw [tx_len, tx_len]
  cases cs with
  | nil => rfl
  | cons a r =>
    show (decide (0 + 1 ≤ (a :: r).length) && ((a :: r).toArray.extract 0 (0 + 1) == [c].toArray)) = decide (some a = some c)
    rw [decide_eq_true (show 0 + 1 ≤ (a :: r).length by rw [List.length_cons]; omega), Bool.true_and]
    have e : (a :: r).toArray.extract 0 (0 + 1) = [a].toArray := by
      apply Array.toList_inj.mp
      simp
    rw [e]
    by_cases h : a = c
    · subst h
      rw [decide_eq_true rfl]
      exact beq_self_eq_true _
    · rw [decide_eq_false (fun z => h (Option.some.inj z))]
      apply Bool.eq_false_iff.mpr
      intro z
      have := eq_of_beq z
      have := congrArg Array.toList this
      simp at this
      exact h this
theorem cut_tail (cs : List Nat) : cutS (tx cs) (some 1) none = tx (cs.drop 1) := by
  unfold cutS HT.sIx
  rw [tx_len]
  simp only [if_neg (show ¬ (1 : Int) < 0 by decide)]
  show Str.mk (List.take (cs.length - min 1 cs.length) (List.drop (min 1 cs.length) cs)).toArray = tx (cs.drop 1)
  cases cs with
  | nil => rfl
  | cons a r =>
    rw [List.length_cons, Nat.min_eq_left (by omega)]
    show Str.mk (List.take (r.length + 1 - 1) r).toArray = tx r
    rw [Nat.add_sub_cancel, List.take_length]
    rfl
def vFold (b : Int) : List Nat → Int → Option Int
  | [], v => some v
  | c :: r, v => if fd c < 0 ∨ b ≤ fd c then none else vFold b r (v * b + fd c)
def vOf (b : Int) (cs : List Nat) : Option Int := if cs = [] then none else vFold b cs 0
def ov : Option Int → V
  | none => .non
  | some v => .int v
def pre (b : Int) (cs : List Nat) : Int × List Nat := if cs.head? = some 36 then (16, cs.drop 1) else if cs.head? = some 35 then (10, cs.drop 1) else (b, cs)
def fin (w : Int) (neg : Bool) : Option Int → Option Int
  | none => none
  | some v => if -(hf w) ≤ (if neg = true then -v else v) ∧ (if neg = true then -v else v) < 2 * hf w then some (wrapI w (if neg = true then -v else v)) else none
def rdN (w b : Int) (cs : List Nat) : Option Int := fin w (decide (cs.head? = some 45)) (vOf b (if cs.head? = some 45 then cs.drop 1 else cs))
def rdV (w b : Int) (cs : List Nat) : Option Int := rdN w (pre b cs).1 (pre b cs).2
theorem vsub {F : V → Hp → Prop} {x y : V} {H : Hp} (e : x = y) (h : F y H) : F x H := by rw [e]; exact h
theorem tx_inj {a b : List Nat} (h : tx a = tx b) : a = b := by
  have := congrArg (fun s : Str => s.cps.toList) h
  simpa [tx] using this
theorem tx_nil : tx [] = Str.ofString "" := by decide +kernel
end My
namespace My
open PySem PySem.Spec PyProof.Rows L2
def due (w v : Int) : Option Int := if v < -(hf w) ∨ 2 * hf w - 1 < v then none else some (wrapI w v)
theorem vFold_dgl {b r : Nat} (hb : 2 ≤ b) (hb3 : b ≤ 36) : ∀ (k : Nat) (v : Int), vFold b (dgl b r k).reverse v = some (v * (b : Int) ^ k + ((r % b ^ k : Nat) : Int))
  | 0, v => by
    show some v = _
    rw [Int.pow_zero, Nat.pow_zero, Nat.mod_one]
    simp
  | k + 1, v => by
    have hd : r / b ^ k % b < b := Nat.mod_lt _ (by omega)
    have hf := (fd_dch (d := r / b ^ k % b) (by omega)).1
    rw [dgl_succ, List.reverse_append]
    show vFold b (dch (r / b ^ k % b) :: (dgl b r k).reverse) v = _
    unfold vFold
    rw [hf, if_neg (by omega), vFold_dgl hb hb3 k, Nat.mod_pow_succ, Int.pow_succ]
    congr 1
    rw [Int.natCast_add, Int.natCast_mul, Int.natCast_pow, Int.add_mul, Int.mul_assoc]
    have e1 : (b : Int) * (b : Int) ^ k = (b : Int) ^ k * (b : Int) := Int.mul_comm _ _
    have e2 : ((r / b ^ k % b : Nat) : Int) * (b : Int) ^ k = (b : Int) ^ k * ((r / b ^ k % b : Nat) : Int) := Int.mul_comm _ _
    rw [e1, e2]
    omega
theorem dch_big (d : Nat) : 48 ≤ dch d := by unfold dch; split <;> omega
theorem fin_due {w n : Int} (hw : Wd w) : fin w (decide (n < 0)) (some (n.natAbs : Int)) = due w n := by
  have hq := hf_pos hw
  by_cases c : n < 0
  · rw [decide_eq_true c]
    show (if -(hf w) ≤ -((n.natAbs : Nat) : Int) ∧ -((n.natAbs : Nat) : Int) < 2 * hf w then some (wrapI w (-((n.natAbs : Nat) : Int))) else none) = due w n
    rw [show -((n.natAbs : Nat) : Int) = n by omega]
    unfold due
    by_cases c2 : n < -(hf w) ∨ 2 * hf w - 1 < n
    · rw [if_pos c2, if_neg (by omega)]
    · rw [if_neg c2, if_pos (by omega)]
  · rw [decide_eq_false c]
    show (if -(hf w) ≤ ((n.natAbs : Nat) : Int) ∧ ((n.natAbs : Nat) : Int) < 2 * hf w then some (wrapI w ((n.natAbs : Nat) : Int)) else none) = due w n
    rw [show ((n.natAbs : Nat) : Int) = n by omega]
    unfold due
    by_cases c2 : n < -(hf w) ∨ 2 * hf w - 1 < n
    · rw [if_pos c2, if_neg (by omega)]
    · rw [if_neg c2, if_pos (by omega)]
theorem rd_shown {w n : Int} {bn : Nat} {s : Str} (hw : Wd w) (h2 : 2 ≤ bn) (h3 : bn ≤ 36) (hn : n.natAbs < 2 ^ 200) (h : IsSh bn n s) : ∃ cs, s = tx cs ∧ (∀ c ∈ cs, c < 128) ∧ cs.length ≤ 1000 ∧ rdV w bn cs = due w n := by
  obtain ⟨k, hk, hlt, hj, rfl⟩ := h
  have hk2 : k ≤ 201 := by
    have : k - 1 < 200 ∨ k = 1 := by
      by_cases e : k = 1
      · exact .inr e
      · exact .inl (pow_le_bound h2 (hj (k - 1) (by omega) (by omega)) hn)
    omega
  have hall : ∀ c ∈ (dgl bn n.natAbs k).reverse, 48 ≤ c ∧ c < 128 := by
    intro c hc
    rw [List.mem_reverse] at hc
    obtain ⟨j, _, rfl⟩ := List.mem_map.mp hc
    exact ⟨dch_big _, (fd_dch (Nat.lt_of_lt_of_le (Nat.mod_lt _ (by omega)) h3)).2⟩
  have hne : (dgl bn n.natAbs k).reverse ≠ [] := by
    intro z
    have := congrArg List.length z
    rw [List.length_reverse, dgl_len] at this
    simp at this
    omega
  have hv : vOf bn (dgl bn n.natAbs k).reverse = some (n.natAbs : Int) := by
    unfold vOf
    rw [if_neg hne, vFold_dgl h2 h3, Nat.mod_eq_of_lt hlt]
    simp
  have hh : ∀ c, (dgl bn n.natAbs k).reverse.head? = some c → 48 ≤ c := fun c hc => (hall c (List.mem_of_mem_head? hc)).1
  have h36 : (sgn n ++ (dgl bn n.natAbs k).reverse).head? ≠ some 36 := by
    unfold sgn
    by_cases c : n < 0
    · rw [if_pos c]; simp
    · rw [if_neg c]; intro z; have := hh 36 z; omega
  have h35 : (sgn n ++ (dgl bn n.natAbs k).reverse).head? ≠ some 35 := by
    unfold sgn
    by_cases c : n < 0
    · rw [if_pos c]; simp
    · rw [if_neg c]; intro z; have := hh 35 z; omega
  refine ⟨_, rfl, ?_, ?_, ?_⟩
  · intro c hc
    rcases List.mem_append.mp hc with hc | hc
    · unfold sgn at hc
      by_cases c0 : n < 0
      · rw [if_pos c0] at hc; rw [List.mem_singleton.mp hc]; decide
      · rw [if_neg c0] at hc; cases hc
    · exact (hall c hc).2
  · rw [List.length_append, List.length_reverse, dgl_len]
    have : (sgn n).length ≤ 1 := by unfold sgn; split <;> simp
    omega
  · unfold rdV pre
    rw [if_neg h36, if_neg h35]
    show rdN w bn (sgn n ++ (dgl bn n.natAbs k).reverse) = due w n
    rw [← fin_due hw]
    unfold rdN sgn
    by_cases c : n < 0
    · rw [if_pos c, decide_eq_true c]
      have hm : ([45] ++ (dgl bn n.natAbs k).reverse).head? = some 45 := rfl
      rw [decide_eq_true hm, if_pos hm]
      show fin w true (vOf bn (dgl bn n.natAbs k).reverse) = _
      rw [hv]
    · rw [if_neg c, decide_eq_false c]
      have hm : ([] ++ (dgl bn n.natAbs k).reverse).head? ≠ some 45 := fun z => by have := hh 45 z; omega
      rw [decide_eq_false hm, if_neg hm]
      show fin w false (vOf bn (dgl bn n.natAbs k).reverse) = _
      rw [hv]
end My
namespace My
open PySem PySem.Spec PyProof.Rows L2
/-! ### words that are numbers, and words that are none -/
theorem tx_cps (cs : List Nat) : (tx cs).cps.toList = cs := by simp [tx]
def BadD (b : Int) (c : Nat) : Prop := fd c < 0 ∨ b ≤ fd c
theorem vFold_bad {b : Int} : ∀ {cs : List Nat} {v : Int} {c : Nat}, c ∈ cs → BadD b c → vFold b cs v = none
  | [], v, c, h, _ => by cases h
  | a :: r, v, c, h, hb => by
    unfold vFold
    by_cases e : fd a < 0 ∨ b ≤ fd a
    · rw [if_pos e]
    · rw [if_neg e]
      rcases List.mem_cons.mp h with h | h
      · subst h; exact absurd hb e
      · exact vFold_bad h hb
theorem vOf_bad {b : Int} {cs : List Nat} {c : Nat} (h : c ∈ cs) (hb : BadD b c) : vOf b cs = none := by
  unfold vOf
  by_cases e : cs = []
  · rw [if_pos e]
  · rw [if_neg e]; exact vFold_bad h hb
theorem bad36 {b : Int} : BadD b 36 := .inl (by decide)
theorem bad35 {b : Int} : BadD b 35 := .inl (by decide)
theorem bad45 {b : Int} : BadD b 45 := .inl (by decide)
def Pfx (base : Int) (pfx : List Nat) (real : Int) : Prop := (pfx = [] ∧ real = base) ∨ (pfx = [36] ∧ real = 16) ∨ (pfx = [35] ∧ real = 10)
theorem rd_minus {w base real : Int} {pfx X : List Nat} (hp : Pfx base pfx real) : rdV w base (pfx ++ [45] ++ X) = fin w true (vOf real X) := by
  rcases hp with ⟨rfl, rfl⟩ | ⟨rfl, rfl⟩ | ⟨rfl, rfl⟩ <;> rfl
theorem rd_plain {w base real : Int} {pfx X : List Nat} (hp : Pfx base pfx real) (h : X.head? ≠ some 36 ∧ X.head? ≠ some 35 ∧ X.head? ≠ some 45) : rdV w base (pfx ++ X) = fin w false (vOf real X) := by
  have h1 : rdN w real X = fin w false (vOf real X) := by
    unfold rdN
    rw [decide_eq_false h.2.2, if_neg h.2.2]
  rcases hp with ⟨rfl, rfl⟩ | ⟨rfl, rfl⟩ | ⟨rfl, rfl⟩
  · unfold rdV pre
    rw [List.nil_append, if_neg h.1, if_neg h.2.1]
    exact h1
  · exact h1
  · exact h1
theorem rd_front {w base real : Int} {pfx mns X : List Nat} (hp : Pfx base pfx real) (hm : mns = [] ∨ mns = [45]) (h : X.head? ≠ some 36 ∧ X.head? ≠ some 35 ∧ X.head? ≠ some 45) :
    rdV w base (pfx ++ mns ++ X) = fin w (decide (mns = [45])) (vOf real X) := by
  rcases hm with rfl | rfl
  · rw [List.append_nil, decide_eq_false (by decide)]
    exact rd_plain hp h
  · rw [decide_eq_true rfl]
    exact rd_minus hp
theorem fin_any {w v : Int} {neg : Bool} (hw : Wd w) : fin w neg (some v) = due w (if neg = true then -v else v) := by
  have hq := hf_pos hw
  show (if -(hf w) ≤ (if neg = true then -v else v) ∧ (if neg = true then -v else v) < 2 * hf w then some (wrapI w (if neg = true then -v else v)) else none) = _
  generalize (if neg = true then -v else v) = n
  unfold due
  by_cases c2 : n < -(hf w) ∨ 2 * hf w - 1 < n
  · rw [if_pos c2, if_neg (by omega)]
  · rw [if_neg c2, if_pos (by omega)]
theorem fin_none {w : Int} {neg : Bool} : fin w neg none = none := rfl
theorem rdN_bad {w b : Int} {cs : List Nat} {c : Nat} (h : c ∈ cs.drop 1 ∨ (c ∈ cs ∧ c ≠ 45)) (hb : BadD b c) : rdN w b cs = none := by
  unfold rdN
  by_cases e : cs.head? = some 45
  · rw [if_pos e]
    have : c ∈ cs.drop 1 := by
      rcases h with h | ⟨h, h2⟩
      · exact h
      · cases cs with
        | nil => cases h
        | cons a r =>
          have ea : a = 45 := Option.some.inj e
          rcases List.mem_cons.mp h with h | h
          · exact absurd (h.trans ea) h2
          · exact h
    rw [vOf_bad this hb]
    rfl
  · rw [if_neg e]
    have : c ∈ cs := by
      rcases h with h | h
      · exact List.mem_of_mem_drop h
      · exact h.1
    rw [vOf_bad this hb]
    rfl
/-- the digits of a word: none of them leads a sign or a prefix -/
def Dg (ts : List Nat) : Prop := ts ≠ [] ∧ ts.length ≤ 200 ∧ ∀ c ∈ ts, 48 ≤ c ∧ c < 128
theorem Dg.head {ts : List Nat} (h : Dg ts) : ∃ a r, ts = a :: r ∧ 48 ≤ a := by
  cases ts with
  | nil => exact absurd rfl h.1
  | cons a r => exact ⟨a, r, rfl, (h.2.2 a List.mem_cons_self).1⟩
theorem Dg.no {ts X : List Nat} (h : Dg ts) : (ts ++ X).head? ≠ some 36 ∧ (ts ++ X).head? ≠ some 35 ∧ (ts ++ X).head? ≠ some 45 := by
  obtain ⟨a, r, rfl, ha⟩ := h.head
  refine ⟨fun z => ?_, fun z => ?_, fun z => ?_⟩ <;> (have := Option.some.inj (show some a = some _ from z); omega)
structure Bt (w base : Int) (pfx mns ts : List Nat) (v real : Int) : Prop where
  p : Pfx base pfx real
  m : mns = [] ∨ mns = [45]
  d : Dg ts
  r0 : 2 ≤ real
  r1 : real ≤ 36
  v : ∃ v0, vOf real ts = some v0 ∧ v = if mns = [45] then -v0 else v0
theorem Bt.reads {w base v real : Int} {pfx mns ts : List Nat} (hw : Wd w) (h : Bt w base pfx mns ts v real) : rdV w base (pfx ++ mns ++ ts) = due w v := by
  obtain ⟨v0, e, ev⟩ := h.v
  have hd := h.d.no (X := [])
  rw [List.append_nil] at hd
  rw [rd_front h.p h.m hd, e, fin_any hw, ev]
  congr 1
  by_cases c : mns = [45]
  · rw [if_pos c, if_pos (decide_eq_true c)]
  · rw [if_neg c, if_neg (by rw [decide_eq_false c]; decide)]
theorem Bt.len {w base v real : Int} {pfx mns ts : List Nat} (h : Bt w base pfx mns ts v real) : pfx.length ≤ 1 ∧ mns.length ≤ 1 ∧ ts.length ≤ 200 := by
  refine ⟨?_, ?_, h.d.2.1⟩
  · rcases h.p with ⟨rfl, _⟩ | ⟨rfl, _⟩ | ⟨rfl, _⟩ <;> simp
  · rcases h.m with rfl | rfl <;> simp
theorem Bt.lt {w base v real : Int} {pfx mns ts : List Nat} (h : Bt w base pfx mns ts v real) : (∀ c ∈ pfx, c < 128) ∧ (∀ c ∈ mns, c < 128) ∧ (∀ c ∈ ts, c < 128) := by
  refine ⟨?_, ?_, fun c hc => (h.d.2.2 c hc).2⟩
  · rcases h.p with ⟨rfl, _⟩ | ⟨rfl, _⟩ | ⟨rfl, _⟩ <;> simp
  · rcases h.m with rfl | rfl <;> simp
theorem vFold_dig {b : Int} : ∀ {ns : List Nat} {v : Int}, (∀ n ∈ ns, n < 36 ∧ (n : Int) < b) → vFold b (ns.map dch) v = some (ns.foldl (fun (v : Int) (d : Nat) => v * b + (d : Int)) v)
  | [], v, _ => rfl
  | a :: r, v, h => by
    have ha := h a List.mem_cons_self
    have hf := (fd_dch ha.1).1
    show vFold b (dch a :: r.map dch) v = _
    unfold vFold
    rw [hf, if_neg (by omega), vFold_dig (ns := r) (fun n hn => h n (List.mem_cons_of_mem _ hn))]
    rfl
theorem fold_zeros (b : Int) : ∀ (k : Nat) (ns : List Nat), (List.replicate k 0 ++ ns).foldl (fun (v : Int) (d : Nat) => v * b + (d : Int)) 0 = ns.foldl (fun (v : Int) (d : Nat) => v * b + (d : Int)) 0
  | 0, ns => rfl
  | k + 1, ns => by
    rw [List.replicate_succ, List.cons_append, List.foldl_cons]
    rw [show (0 : Int) * b + ((0 : Nat) : Int) = 0 by rw [Int.zero_mul]; rfl]
    exact fold_zeros b k ns
end My
namespace My
open PySem PySem.Spec PyProof.Rows L2
theorem nat_of {ns : List Int} (h : ∀ n ∈ ns, 0 ≤ n) : ∃ ms : List Nat, ns = ms.map (fun n : Nat => (n : Int)) := by
  refine ⟨ns.map Int.toNat, ?_⟩
  rw [List.map_map]
  conv => lhs; rw [← List.map_id ns]
  refine List.map_congr_left fun n hn => ?_
  have := h n hn
  show n = ((n.toNat : Nat) : Int)
  omega
def lval (b : Int) (ns : List Int) (v : Int) : Int := ns.foldl (fun v d => v * b + d) v
theorem vOf_row {b : Int} {ms : List Nat} {k : Nat} (h : ∀ n ∈ ms, n < 36 ∧ (n : Int) < b) (hb : 0 < b) (hn : 0 < ms.length) : vOf b ((List.replicate k 0 ++ ms).map dch) = some (lval b (ms.map (fun n : Nat => (n : Int))) 0) := by
  unfold vOf
  rw [if_neg (by
    intro z
    have := congrArg List.length z
    rw [List.length_map, List.length_append, List.length_replicate, List.length_nil] at this
    omega)]
  rw [vFold_dig (ns := List.replicate k 0 ++ ms) (fun n hn => by
    rcases List.mem_append.mp hn with hn | hn
    · rw [List.eq_of_mem_replicate hn]
      exact ⟨by decide, by omega⟩
    · exact h n hn), fold_zeros]
  unfold lval
  rw [List.foldl_map]
theorem row_dg {ms : List Nat} {k : Nat} (h : ∀ n ∈ ms, n < 36) (hn : 0 < ms.length) (hl : ms.length ≤ 40) (hk : k ≤ 120) : Dg ((List.replicate k 0 ++ ms).map dch) := by
  refine ⟨?_, ?_, ?_⟩
  · intro z
    have := congrArg List.length z
    rw [List.length_map, List.length_append, List.length_replicate, List.length_nil] at this
    omega
  · rw [List.length_map, List.length_append, List.length_replicate]; omega
  · intro c hc
    obtain ⟨n, hn, rfl⟩ := List.mem_map.mp hc
    have hlt : n < 36 := by
      rcases List.mem_append.mp hn with hn | hn
      · rw [List.eq_of_mem_replicate hn]; decide
      · exact h n hn
    exact ⟨dch_big n, (fd_dch hlt).2⟩
theorem shown_dg {b : Nat} {n : Int} {s : Str} (h2 : 2 ≤ b) (h3 : b ≤ 36) (hn : 0 ≤ n) (hn2 : n.natAbs < 2 ^ 140) (h : IsSh b n s) : ∃ ts, s = tx ts ∧ Dg ts ∧ vOf b ts = some n := by
  obtain ⟨k, hk, hlt, hj, rfl⟩ := h
  have hk2 : k ≤ 141 := by
    have : k - 1 < 140 ∨ k = 1 := by
      by_cases e : k = 1
      · exact .inr e
      · refine .inl ?_
        have h1 : 2 ^ (k - 1) ≤ b ^ (k - 1) := Nat.pow_le_pow_left h2 (k - 1)
        have h4 := hj (k - 1) (by omega) (by omega)
        exact (Nat.pow_lt_pow_iff_right (by decide : 1 < 2)).mp (by omega)
    omega
  have hne : (dgl b n.natAbs k).reverse ≠ [] := by
    intro z
    have := congrArg List.length z
    rw [List.length_reverse, dgl_len] at this
    simp at this
    omega
  refine ⟨(dgl b n.natAbs k).reverse, ?_, ⟨hne, by rw [List.length_reverse, dgl_len]; omega, ?_⟩, ?_⟩
  · unfold sgn
    rw [if_neg (by omega)]
    rfl
  · intro c hc
    rw [List.mem_reverse] at hc
    obtain ⟨j, _, rfl⟩ := List.mem_map.mp hc
    exact ⟨dch_big _, (fd_dch (Nat.lt_of_lt_of_le (Nat.mod_lt _ (by omega)) h3)).2⟩
  · unfold vOf
    rw [if_neg hne, vFold_dgl h2 h3, Nat.mod_eq_of_lt hlt]
    congr 1
    omega
def blO (pfx mns ts : List Nat) (v real : Int) : HO := .dK [(.inr ("prefix" : Str), .str (tx pfx)), (.inr ("minus" : Str), .str (tx mns)), (.inr ("text" : Str), .str (tx ts)), (.inr ("value" : Str), .int v), (.inr ("real" : Str), .int real)]
theorem bne1 : ¬ ((Sum.inr ("prefix" : Str) : Key) = Sum.inr ("minus" : Str)) := by decide +kernel
theorem bne2 : ¬ ((Sum.inr ("prefix" : Str) : Key) = Sum.inr ("text" : Str)) := by decide +kernel
theorem bne3 : ¬ ((Sum.inr ("prefix" : Str) : Key) = Sum.inr ("value" : Str)) := by decide +kernel
theorem bne4 : ¬ ((Sum.inr ("prefix" : Str) : Key) = Sum.inr ("real" : Str)) := by decide +kernel
theorem bne5 : ¬ ((Sum.inr ("minus" : Str) : Key) = Sum.inr ("text" : Str)) := by decide +kernel
theorem bne6 : ¬ ((Sum.inr ("minus" : Str) : Key) = Sum.inr ("value" : Str)) := by decide +kernel
theorem bne7 : ¬ ((Sum.inr ("minus" : Str) : Key) = Sum.inr ("real" : Str)) := by decide +kernel
theorem bne8 : ¬ ((Sum.inr ("text" : Str) : Key) = Sum.inr ("value" : Str)) := by decide +kernel
theorem bne9 : ¬ ((Sum.inr ("text" : Str) : Key) = Sum.inr ("real" : Str)) := by decide +kernel
theorem bne10 : ¬ ((Sum.inr ("value" : Str) : Key) = Sum.inr ("real" : Str)) := by decide +kernel
theorem merge_built {pfx mns ts : List Nat} {v real : Int} : HO.dK (mergeK [] [((Sum.inr ("prefix" : Str) : Key), V.str (tx pfx)), (Sum.inr ("minus" : Str), .str (tx mns)), (Sum.inr ("text" : Str), .str (tx ts)), (Sum.inr ("value" : Str), .int v), (Sum.inr ("real" : Str), .int real)]) = blO pfx mns ts v real := by
  unfold mergeK putK blO
  simp [kns bne1, kns bne2, kns bne3, kns bne4, kns bne5, kns bne6, kns bne7, kns bne8, kns bne9, kns bne10]
section
variable {H : Hp} {d : Addr} {pfx mns ts : List Nat} {v real : Int}
theorem bl_prefix (h : H d = some (blO pfx mns ts v real)) : DGet H d (.str "prefix") (some (.str (tx pfx))) := dget_of h (by rw [valV_pos rfl])
theorem bl_minus (h : H d = some (blO pfx mns ts v real)) : DGet H d (.str "minus") (some (.str (tx mns))) := dget_of h (by rw [valV_neg bne1, valV_pos rfl])
theorem bl_text (h : H d = some (blO pfx mns ts v real)) : DGet H d (.str "text") (some (.str (tx ts))) := dget_of h (by rw [valV_neg bne2, valV_neg bne5, valV_pos rfl])
theorem bl_value (h : H d = some (blO pfx mns ts v real)) : DGet H d (.str "value") (some (.int v)) := dget_of h (by rw [valV_neg bne3, valV_neg bne6, valV_neg bne8, valV_pos rfl])
theorem bl_real (h : H d = some (blO pfx mns ts v real)) : DGet H d (.str "real") (some (.int real)) := dget_of h (by rw [valV_neg bne4, valV_neg bne7, valV_neg bne9, valV_neg bne10, valV_pos rfl])
end
end My
namespace My
open PySem PySem.Spec PyProof.Rows L2
theorem la {a b : List Nat} (ha : ∀ c ∈ a, c < 128) (hb : ∀ c ∈ b, c < 128) : ∀ c ∈ a ++ b, c < 128 := fun c hc => (List.mem_append.mp hc).elim (ha c) (hb c)
theorem headX {ts : List Nat} {p c : Nat} {Y : List Nat} (hd : Dg ts) (hc : p = 0 → c ≠ 36 ∧ c ≠ 35 ∧ c ≠ 45) : (ts.take p ++ ([c] ++ Y)).head? ≠ some 36 ∧ (ts.take p ++ ([c] ++ Y)).head? ≠ some 35 ∧ (ts.take p ++ ([c] ++ Y)).head? ≠ some 45 := by
  cases p with
  | zero =>
    obtain ⟨h1, h2, h3⟩ := hc rfl
    exact ⟨fun z => h1 (Option.some.inj (show some c = some 36 from z)), fun z => h2 (Option.some.inj (show some c = some 35 from z)), fun z => h3 (Option.some.inj (show some c = some 45 from z))⟩
  | succ p =>
    obtain ⟨a, r, rfl, ha⟩ := hd.head
    refine ⟨fun z => ?_, fun z => ?_, fun z => ?_⟩ <;> (have := Option.some.inj (show some a = some _ from z); omega)
section
variable {w base v real : Int} {pfx mns ts : List Nat}
theorem Bt.none (h : Bt w base pfx mns ts v real) {X : List Nat} {c : Nat} (hX : X.head? ≠ some 36 ∧ X.head? ≠ some 35 ∧ X.head? ≠ some 45) (hc : c ∈ X) (hb : BadD real c) : rdV w base (pfx ++ mns ++ X) = Option.none := by
  rw [rd_front h.p h.m hX, vOf_bad hc hb]
  rfl
theorem Bt.n1 (h : Bt w base pfx mns ts v real) {p c : Nat} {Y : List Nat} (hb : BadD real c) (hc : p = 0 → c ≠ 36 ∧ c ≠ 35 ∧ c ≠ 45) : rdV w base (pfx ++ mns ++ ts.take p ++ [c] ++ Y) = Option.none := by
  rw [List.append_assoc (pfx ++ mns ++ ts.take p), List.append_assoc (pfx ++ mns)]
  exact h.none (headX h.d hc) (List.mem_append_right _ (List.mem_append_left _ (List.mem_singleton.mpr rfl))) hb
theorem Bt.n3 (h : Bt w base pfx mns ts v real) {c : Nat} (hb : BadD real c) : rdV w base (pfx ++ mns ++ ts ++ [c]) = Option.none := by
  rw [List.append_assoc (pfx ++ mns)]
  exact h.none (h.d.no) (List.mem_append_right _ (List.mem_singleton.mpr rfl)) hb
theorem Bt.n4 (h : Bt w base pfx mns ts v real) : rdV w base (pfx ++ mns) = Option.none := by
  have e := rd_front (w := w) h.p h.m (X := []) ⟨by simp, by simp, by simp⟩
  rw [List.append_nil] at e
  rw [e]
  rfl
theorem Bt.n5 (h : Bt w base pfx mns ts v real) : rdV w base (pfx ++ [45] ++ mns) = Option.none := by
  rw [rd_minus h.p]
  rcases h.m with rfl | rfl
  · rfl
  · rw [vOf_bad (List.mem_singleton.mpr rfl) bad45]; rfl
theorem rd45 {X : List Nat} {c : Nat} (hc : c ∈ X) (hb : BadD base c) : rdV w base ([45] ++ X) = Option.none := by
  have e := rd_minus (w := w) (base := base) (real := base) (pfx := []) (X := X) (.inl ⟨rfl, rfl⟩)
  rw [List.nil_append] at e
  rw [e, vOf_bad hc hb]
  rfl
theorem rd36 {X : List Nat} {c : Nat} (h : c ∈ X.drop 1 ∨ (c ∈ X ∧ c ≠ 45)) (hb : BadD 16 c) : rdV w base ([36] ++ X) = Option.none := by
  have e : rdV w base ([36] ++ X) = rdN w 16 X := rfl
  rw [e, rdN_bad h hb]
theorem rd35 {X : List Nat} {c : Nat} (h : c ∈ X.drop 1 ∨ (c ∈ X ∧ c ≠ 45)) (hb : BadD 10 c) : rdV w base ([35] ++ X) = Option.none := by
  have e : rdV w base ([35] ++ X) = rdN w 10 X := rfl
  rw [e, rdN_bad h hb]
end
end My
section
open PySem PySem.Spec PyProof.Rows L2 My
local macro_rules | `(tactic| walk_at "ne") => `(tactic| first | assumption | exact Ne.symm (by assumption) | exact ne_of_none (by assumption) (by assumption) | exact Ne.symm (ne_of_none (by assumption) (by assumption)) | exact ne_of (by assumption) (by assumption) (by intro z; cases z))
local macro_rules | `(tactic| walk_at "hp") => `(tactic| first | assumption | exact upd_same | (refine Eq.trans (upd_ne (by walk_at "ne")) ?_; walk_at "hp"))
local macro_rules | `(tactic| walk_at "side") => `(tactic| first | rfl | omega | decide | assumption | exact Pl.int _ | exact Pl.bl _ | exact Pl.str _ | exact Pl.non | exact Nat.le_of_ble_eq_true rfl | exact ⟨by omega, by omega⟩ | exact Or.inl ⟨rfl, _, Or.inl (Or.inl (by walk_at "hp"))⟩ | exact Or.inr (by decide) | exact Or.inl (by decide) | exact Or.inl ⟨by omega, by omega⟩ | exact Or.inr ⟨by omega, by omega⟩)
local macro_rules | `(tactic| walk_at "bag") => `(tactic| first | exact bg_at (by walk_at "hp") | exact bg_rest (by walk_at "hp") | exact bg_seed (by walk_at "hp") | exact bg_count (by walk_at "hp") | exact bg_cells (by walk_at "hp") | exact bp_at (by walk_at "hp") | exact bp_rest (by walk_at "hp") | exact bp_seed (by walk_at "hp") | exact bp_count (by walk_at "hp"))
local macro_rules | `(tactic| walk_at "rd1") => `(tactic| (
  fail_if_success (intro _)
  first
  | refine ⟨_, rfl, ?_⟩
  | refine ⟨_, _, rfl, rfl, ?_⟩
  | refine ⟨_, _, _, rfl, rfl, rfl, ?_⟩
  | refine ⟨_, _, rfl, ?_⟩
  | refine ⟨_, _, _, rfl, ?_⟩
  | refine ⟨_, _, _, _, rfl, ?_⟩
  | refine ⟨_, _, rfl, (by walk_at "bag"), ?_⟩
  | refine Or.inl ⟨_, rfl, ?_⟩
  | refine Or.inr ⟨_, rfl, ?_⟩
  | refine ⟨_, _, rfl, Or.inl (SqL.of (by walk_at "hp")), ?_⟩
  | refine ⟨_, _, rfl, Or.inr (SqT.of (by walk_at "hp")), ?_⟩
  | refine ⟨_, _, _, rfl, rfl, (by walk_at "hp"), ?_⟩
  | refine And.intro (by walk_at "side") ?_))
local macro_rules | `(tactic| walk_at "rd") => `(tactic| repeat walk_at "rd1")
namespace K03
open PySem PySem.Spec PyProof.Rows L2 My

def top (i : Nat) : Stmt := PySem.Challenge.pw_wordmint_k03_numbers_shown.main.body.getD i (.Pass ⟨0, 0, 0, 0⟩)
abbrev s_BadWidth___init__ : Stmt := inClass (top 2) 0
theorem sc_BadWidth___init__ : FnScope ["self", "width"] ["self", "width"] (defScope s_BadWidth___init__) := ⟨rfl, rfl, rfl, by decide +kernel, rfl, by decide +kernel, by decide +kernel⟩
abbrev s_BadBase___init__ : Stmt := inClass (top 3) 0
theorem sc_BadBase___init__ : FnScope ["self", "base"] ["self", "base"] (defScope s_BadBase___init__) := ⟨rfl, rfl, rfl, by decide +kernel, rfl, by decide +kernel, by decide +kernel⟩
abbrev s_is_integer : Stmt := top 7
theorem sc_is_integer : FnScope ["thing"] ["thing"] (defScope s_is_integer) := ⟨rfl, rfl, rfl, by decide +kernel, rfl, by decide +kernel, by decide +kernel⟩
abbrev s_is_between : Stmt := top 8
theorem sc_is_between : FnScope ["thing", "low", "high"] ["thing", "low", "high"] (defScope s_is_between) := ⟨rfl, rfl, rfl, by decide +kernel, rfl, by decide +kernel, by decide +kernel⟩
abbrev s_is_base : Stmt := top 9
theorem sc_is_base : FnScope ["thing"] ["thing"] (defScope s_is_base) := ⟨rfl, rfl, rfl, by decide +kernel, rfl, by decide +kernel, by decide +kernel⟩
abbrev s_check_width : Stmt := top 10
theorem sc_check_width : FnScope ["width"] ["width"] (defScope s_check_width) := ⟨rfl, rfl, rfl, by decide +kernel, rfl, by decide +kernel, by decide +kernel⟩
abbrev s_check_base : Stmt := top 11
theorem sc_check_base : FnScope ["base"] ["base"] (defScope s_check_base) := ⟨rfl, rfl, rfl, by decide +kernel, rfl, by decide +kernel, by decide +kernel⟩
abbrev s_half : Stmt := top 12
theorem sc_half : FnScope ["width"] ["width"] (defScope s_half) := ⟨rfl, rfl, rfl, by decide +kernel, rfl, by decide +kernel, by decide +kernel⟩
abbrev s_wrap : Stmt := top 13
theorem sc_wrap : FnScope ["width", "number", "bound"] ["width", "number"] (defScope s_wrap) := ⟨rfl, rfl, rfl, by decide +kernel, rfl, by decide +kernel, by decide +kernel⟩
abbrev s_show : Stmt := top 14
theorem sc_show : FnScope ["base", "number", "rest", "signs"] ["base", "number"] (defScope s_show) := ⟨rfl, rfl, rfl, by decide +kernel, rfl, by decide +kernel, by decide +kernel⟩
abbrev s_value_of : Stmt := top 15
theorem sc_value_of : FnScope ["base", "digits", "value", "sign", "digit"] ["base", "digits"] (defScope s_value_of) := ⟨rfl, rfl, rfl, by decide +kernel, rfl, by decide +kernel, by decide +kernel⟩
abbrev s_read_number : Stmt := top 16
theorem sc_read_number : FnScope ["width", "base", "word", "digits", "negative", "value", "bound"] ["width", "base", "word"] (defScope s_read_number) := ⟨rfl, rfl, rfl, by decide +kernel, rfl, by decide +kernel, by decide +kernel⟩
abbrev s__law_bag : Stmt := top 18
theorem sc__law_bag : FnScope ["_law_script", "_law_cell"] ["_law_script"] (defScope s__law_bag) := ⟨rfl, rfl, rfl, by decide +kernel, rfl, by decide +kernel, by decide +kernel⟩
abbrev s__law_pick : Stmt := top 19
theorem sc__law_pick : FnScope ["_law_bag_here", "_law_many", "_law_digit", "_law_cell", "_law_mixed"] ["_law_bag_here", "_law_many"] (defScope s__law_pick) := ⟨rfl, rfl, rfl, by decide +kernel, rfl, by decide +kernel, by decide +kernel⟩
abbrev s__law_choice : Stmt := top 20
theorem sc__law_choice : FnScope ["_law_bag_here", "_law_things"] ["_law_bag_here", "_law_things"] (defScope s__law_choice) := ⟨rfl, rfl, rfl, by decide +kernel, rfl, by decide +kernel, by decide +kernel⟩
abbrev s__law_integer : Stmt := top 21
theorem sc__law_integer : FnScope ["_law_thing"] ["_law_thing"] (defScope s__law_integer) := ⟨rfl, rfl, rfl, by decide +kernel, rfl, by decide +kernel, by decide +kernel⟩
abbrev s__law_half : Stmt := top 22
theorem sc__law_half : FnScope ["_law_width"] ["_law_width"] (defScope s__law_half) := ⟨rfl, rfl, rfl, by decide +kernel, rfl, by decide +kernel, by decide +kernel⟩
abbrev s__law_wrap : Stmt := top 23
theorem sc__law_wrap : FnScope ["_law_width", "_law_number", "_law_low"] ["_law_width", "_law_number"] (defScope s__law_wrap) := ⟨rfl, rfl, rfl, by decide +kernel, rfl, by decide +kernel, by decide +kernel⟩
abbrev s__law_num : Stmt := top 24
theorem sc__law_num : FnScope ["_law_bag_here", "_law_width", "_law_kind", "_law_low", "_law_near"] ["_law_bag_here", "_law_width"] (defScope s__law_num) := ⟨rfl, rfl, rfl, by decide +kernel, rfl, by decide +kernel, by decide +kernel⟩
abbrev s__law_shown : Stmt := top 25
theorem sc__law_shown : FnScope ["_law_base", "_law_number", "_law_digits_here", "_law_rest", "_law_text", "_law_k"] ["_law_base", "_law_number"] (defScope s__law_shown) := ⟨rfl, rfl, rfl, by decide +kernel, rfl, by decide +kernel, by decide +kernel⟩
abbrev s__law_read : Stmt := top 26
theorem sc__law_read : FnScope ["_law_width", "_law_base", "_law_word", "e", "_law_kinds"] ["_law_width", "_law_base", "_law_word"] (defScope s__law_read) := ⟨rfl, rfl, rfl, by decide +kernel, rfl, by decide +kernel, by decide +kernel⟩
abbrev s__law_show : Stmt := top 27
theorem sc__law_show : FnScope ["_law_base", "_law_number", "e"] ["_law_base", "_law_number"] (defScope s__law_show) := ⟨rfl, rfl, rfl, by decide +kernel, rfl, by decide +kernel, by decide +kernel⟩
abbrev s__law_same : Stmt := top 28
theorem sc__law_same : FnScope ["_law_told", "_law_due"] ["_law_told", "_law_due"] (defScope s__law_same) := ⟨rfl, rfl, rfl, by decide +kernel, rfl, by decide +kernel, by decide +kernel⟩
abbrev s__law_value_due : Stmt := top 29
theorem sc__law_value_due : FnScope ["_law_width", "_law_value_here", "_law_low"] ["_law_width", "_law_value_here"] (defScope s__law_value_due) := ⟨rfl, rfl, rfl, by decide +kernel, rfl, by decide +kernel, by decide +kernel⟩
abbrev s__law_reads : Stmt := top 30
theorem sc__law_reads : FnScope ["_law_width", "_law_base", "_law_word", "_law_due", "_law_told"] ["_law_width", "_law_base", "_law_word", "_law_due"] (defScope s__law_reads) := ⟨rfl, rfl, rfl, by decide +kernel, rfl, by decide +kernel, by decide +kernel⟩
abbrev s__law_great : Stmt := top 31
theorem sc__law_great : FnScope ["_law_bag_here", "_law_number", "_law_k"] ["_law_bag_here"] (defScope s__law_great) := ⟨rfl, rfl, rfl, by decide +kernel, rfl, by decide +kernel, by decide +kernel⟩
abbrev s__law_shown_right : Stmt := top 32
theorem sc__law_shown_right : FnScope ["_law_bag_here", "_law_width", "_law_base", "_law_low", "_law_number", "_law_thing", "_law_told"] ["_law_bag_here", "_law_width", "_law_base"] (defScope s__law_shown_right) := ⟨rfl, rfl, rfl, by decide +kernel, rfl, by decide +kernel, by decide +kernel⟩
abbrev s__law_digits : Stmt := top 33
theorem sc__law_digits : FnScope ["_law_bag_here", "_law_base", "_law_many", "_law_row", "_law_k"] ["_law_bag_here", "_law_base", "_law_many"] (defScope s__law_digits) := ⟨rfl, rfl, rfl, by decide +kernel, rfl, by decide +kernel, by decide +kernel⟩
abbrev s__law_spelled : Stmt := top 34
theorem sc__law_spelled : FnScope ["_law_row", "_law_digits_here", "_law_digit"] ["_law_row"] (defScope s__law_spelled) := ⟨rfl, rfl, rfl, by decide +kernel, rfl, by decide +kernel, by decide +kernel⟩
abbrev s__law_value : Stmt := top 35
theorem sc__law_value : FnScope ["_law_base", "_law_row", "_law_value_here", "_law_digit"] ["_law_base", "_law_row"] (defScope s__law_value) := ⟨rfl, rfl, rfl, by decide +kernel, rfl, by decide +kernel, by decide +kernel⟩
abbrev s__law_built : Stmt := top 36
theorem sc__law_built : FnScope ["_law_bag_here", "_law_width", "_law_base", "_law_prefix", "_law_real", "_law_minus", "_law_kind", "_law_row", "_law_zeros", "_law_text", "_law_value_here", "_law_low", "_law_k"] ["_law_bag_here", "_law_width", "_law_base"] (defScope s__law_built) := ⟨rfl, rfl, rfl, by decide +kernel, rfl, by decide +kernel, by decide +kernel⟩
abbrev s__law_strange : Stmt := top 37
theorem sc__law_strange : FnScope ["_law_bag_here", "_law_real", "_law_first", "_law_letters", "_law_sign"] ["_law_bag_here", "_law_real", "_law_first"] (defScope s__law_strange) := ⟨rfl, rfl, rfl, by decide +kernel, rfl, by decide +kernel, by decide +kernel⟩
abbrev s__law_spoilt : Stmt := top 38
theorem sc__law_spoilt : FnScope ["_law_bag_here", "_law_built_here", "_law_text", "_law_place", "_law_strange_here", "_law_front"] ["_law_bag_here", "_law_built_here"] (defScope s__law_spoilt) := ⟨rfl, rfl, rfl, by decide +kernel, rfl, by decide +kernel, by decide +kernel⟩
abbrev s__law_odd_base : Stmt := top 39
theorem sc__law_odd_base : FnScope ["_law_bag_here", "_law_number"] ["_law_bag_here"] (defScope s__law_odd_base) := ⟨rfl, rfl, rfl, by decide +kernel, rfl, by decide +kernel, by decide +kernel⟩
abbrev s__law_refused : Stmt := top 40
theorem sc__law_refused : FnScope ["_law_bag_here", "_law_width", "_law_base", "_law_wide", "_law_odd", "_law_number", "_law_word"] ["_law_bag_here"] (defScope s__law_refused) := ⟨rfl, rfl, rfl, by decide +kernel, rfl, by decide +kernel, by decide +kernel⟩
abbrev s_law : Stmt := top 41
theorem sc_law : FnScope ["_law_script", "_law_bag_here", "_law_width", "_law_base", "_law_k", "_law_built_here", "_law_word", "_law_spoilt_here"] ["_law_script"] (defScope s_law) := ⟨rfl, rfl, rfl, by decide +kernel, rfl, by decide +kernel, by decide +kernel⟩
/-- what the top has written -/
structure TX (K : PySem.W.Frag) (mg : Str → Option Value) where
  f_BadWidth___init__ : Addr
  d_BadWidth___init__ : FuncData
  E_BadWidth___init__ : Fun K "__init__" "BadWidth.__init__" s_BadWidth___init__ f_BadWidth___init__ d_BadWidth___init__
  b_BadWidth___init__ : Binds K d_BadWidth___init__ ["self", "width"] []
  f_BadBase___init__ : Addr
  d_BadBase___init__ : FuncData
  E_BadBase___init__ : Fun K "__init__" "BadBase.__init__" s_BadBase___init__ f_BadBase___init__ d_BadBase___init__
  b_BadBase___init__ : Binds K d_BadBase___init__ ["self", "base"] []
  f_is_integer : Addr
  d_is_integer : FuncData
  F_is_integer : Fun K "is_integer" "is_integer" s_is_integer f_is_integer d_is_integer
  g_is_integer : mg "is_integer" = some (.ref f_is_integer)
  k_is_integer : PySem.W.keepIn K (.ref f_is_integer) = true
  b_is_integer : Binds K d_is_integer ["thing"] []
  f_is_between : Addr
  d_is_between : FuncData
  F_is_between : Fun K "is_between" "is_between" s_is_between f_is_between d_is_between
  g_is_between : mg "is_between" = some (.ref f_is_between)
  k_is_between : PySem.W.keepIn K (.ref f_is_between) = true
  b_is_between : Binds K d_is_between ["thing", "low", "high"] []
  f_is_base : Addr
  d_is_base : FuncData
  F_is_base : Fun K "is_base" "is_base" s_is_base f_is_base d_is_base
  g_is_base : mg "is_base" = some (.ref f_is_base)
  k_is_base : PySem.W.keepIn K (.ref f_is_base) = true
  b_is_base : Binds K d_is_base ["thing"] []
  f_check_width : Addr
  d_check_width : FuncData
  F_check_width : Fun K "check_width" "check_width" s_check_width f_check_width d_check_width
  g_check_width : mg "check_width" = some (.ref f_check_width)
  k_check_width : PySem.W.keepIn K (.ref f_check_width) = true
  b_check_width : Binds K d_check_width ["width"] []
  f_check_base : Addr
  d_check_base : FuncData
  F_check_base : Fun K "check_base" "check_base" s_check_base f_check_base d_check_base
  g_check_base : mg "check_base" = some (.ref f_check_base)
  k_check_base : PySem.W.keepIn K (.ref f_check_base) = true
  b_check_base : Binds K d_check_base ["base"] []
  f_half : Addr
  d_half : FuncData
  F_half : Fun K "half" "half" s_half f_half d_half
  g_half : mg "half" = some (.ref f_half)
  k_half : PySem.W.keepIn K (.ref f_half) = true
  b_half : Binds K d_half ["width"] []
  f_wrap : Addr
  d_wrap : FuncData
  F_wrap : Fun K "wrap" "wrap" s_wrap f_wrap d_wrap
  g_wrap : mg "wrap" = some (.ref f_wrap)
  k_wrap : PySem.W.keepIn K (.ref f_wrap) = true
  b_wrap : Binds K d_wrap ["width", "number"] []
  f_show : Addr
  d_show : FuncData
  F_show : Fun K "show" "show" s_show f_show d_show
  g_show : mg "show" = some (.ref f_show)
  k_show : PySem.W.keepIn K (.ref f_show) = true
  b_show : Binds K d_show ["base", "number"] []
  f_value_of : Addr
  d_value_of : FuncData
  F_value_of : Fun K "value_of" "value_of" s_value_of f_value_of d_value_of
  g_value_of : mg "value_of" = some (.ref f_value_of)
  k_value_of : PySem.W.keepIn K (.ref f_value_of) = true
  b_value_of : Binds K d_value_of ["base", "digits"] []
  f_read_number : Addr
  d_read_number : FuncData
  F_read_number : Fun K "read_number" "read_number" s_read_number f_read_number d_read_number
  g_read_number : mg "read_number" = some (.ref f_read_number)
  k_read_number : PySem.W.keepIn K (.ref f_read_number) = true
  b_read_number : Binds K d_read_number ["width", "base", "word"] []
  f__law_bag : Addr
  d__law_bag : FuncData
  F__law_bag : Fun K "_law_bag" "_law_bag" s__law_bag f__law_bag d__law_bag
  g__law_bag : mg "_law_bag" = some (.ref f__law_bag)
  k__law_bag : PySem.W.keepIn K (.ref f__law_bag) = true
  b__law_bag : Binds K d__law_bag ["_law_script"] []
  f__law_pick : Addr
  d__law_pick : FuncData
  F__law_pick : Fun K "_law_pick" "_law_pick" s__law_pick f__law_pick d__law_pick
  g__law_pick : mg "_law_pick" = some (.ref f__law_pick)
  k__law_pick : PySem.W.keepIn K (.ref f__law_pick) = true
  b__law_pick : Binds K d__law_pick ["_law_bag_here", "_law_many"] []
  f__law_choice : Addr
  d__law_choice : FuncData
  F__law_choice : Fun K "_law_choice" "_law_choice" s__law_choice f__law_choice d__law_choice
  g__law_choice : mg "_law_choice" = some (.ref f__law_choice)
  k__law_choice : PySem.W.keepIn K (.ref f__law_choice) = true
  b__law_choice : Binds K d__law_choice ["_law_bag_here", "_law_things"] []
  f__law_integer : Addr
  d__law_integer : FuncData
  F__law_integer : Fun K "_law_integer" "_law_integer" s__law_integer f__law_integer d__law_integer
  g__law_integer : mg "_law_integer" = some (.ref f__law_integer)
  k__law_integer : PySem.W.keepIn K (.ref f__law_integer) = true
  b__law_integer : Binds K d__law_integer ["_law_thing"] []
  f__law_half : Addr
  d__law_half : FuncData
  F__law_half : Fun K "_law_half" "_law_half" s__law_half f__law_half d__law_half
  g__law_half : mg "_law_half" = some (.ref f__law_half)
  k__law_half : PySem.W.keepIn K (.ref f__law_half) = true
  b__law_half : Binds K d__law_half ["_law_width"] []
  f__law_wrap : Addr
  d__law_wrap : FuncData
  F__law_wrap : Fun K "_law_wrap" "_law_wrap" s__law_wrap f__law_wrap d__law_wrap
  g__law_wrap : mg "_law_wrap" = some (.ref f__law_wrap)
  k__law_wrap : PySem.W.keepIn K (.ref f__law_wrap) = true
  b__law_wrap : Binds K d__law_wrap ["_law_width", "_law_number"] []
  f__law_num : Addr
  d__law_num : FuncData
  F__law_num : Fun K "_law_num" "_law_num" s__law_num f__law_num d__law_num
  g__law_num : mg "_law_num" = some (.ref f__law_num)
  k__law_num : PySem.W.keepIn K (.ref f__law_num) = true
  b__law_num : Binds K d__law_num ["_law_bag_here", "_law_width"] []
  f__law_shown : Addr
  d__law_shown : FuncData
  F__law_shown : Fun K "_law_shown" "_law_shown" s__law_shown f__law_shown d__law_shown
  g__law_shown : mg "_law_shown" = some (.ref f__law_shown)
  k__law_shown : PySem.W.keepIn K (.ref f__law_shown) = true
  b__law_shown : Binds K d__law_shown ["_law_base", "_law_number"] []
  f__law_read : Addr
  d__law_read : FuncData
  F__law_read : Fun K "_law_read" "_law_read" s__law_read f__law_read d__law_read
  g__law_read : mg "_law_read" = some (.ref f__law_read)
  k__law_read : PySem.W.keepIn K (.ref f__law_read) = true
  b__law_read : Binds K d__law_read ["_law_width", "_law_base", "_law_word"] []
  f__law_show : Addr
  d__law_show : FuncData
  F__law_show : Fun K "_law_show" "_law_show" s__law_show f__law_show d__law_show
  g__law_show : mg "_law_show" = some (.ref f__law_show)
  k__law_show : PySem.W.keepIn K (.ref f__law_show) = true
  b__law_show : Binds K d__law_show ["_law_base", "_law_number"] []
  f__law_same : Addr
  d__law_same : FuncData
  F__law_same : Fun K "_law_same" "_law_same" s__law_same f__law_same d__law_same
  g__law_same : mg "_law_same" = some (.ref f__law_same)
  k__law_same : PySem.W.keepIn K (.ref f__law_same) = true
  b__law_same : Binds K d__law_same ["_law_told", "_law_due"] []
  f__law_value_due : Addr
  d__law_value_due : FuncData
  F__law_value_due : Fun K "_law_value_due" "_law_value_due" s__law_value_due f__law_value_due d__law_value_due
  g__law_value_due : mg "_law_value_due" = some (.ref f__law_value_due)
  k__law_value_due : PySem.W.keepIn K (.ref f__law_value_due) = true
  b__law_value_due : Binds K d__law_value_due ["_law_width", "_law_value_here"] []
  f__law_reads : Addr
  d__law_reads : FuncData
  F__law_reads : Fun K "_law_reads" "_law_reads" s__law_reads f__law_reads d__law_reads
  g__law_reads : mg "_law_reads" = some (.ref f__law_reads)
  k__law_reads : PySem.W.keepIn K (.ref f__law_reads) = true
  b__law_reads : Binds K d__law_reads ["_law_width", "_law_base", "_law_word", "_law_due"] []
  f__law_great : Addr
  d__law_great : FuncData
  F__law_great : Fun K "_law_great" "_law_great" s__law_great f__law_great d__law_great
  g__law_great : mg "_law_great" = some (.ref f__law_great)
  k__law_great : PySem.W.keepIn K (.ref f__law_great) = true
  b__law_great : Binds K d__law_great ["_law_bag_here"] []
  f__law_shown_right : Addr
  d__law_shown_right : FuncData
  F__law_shown_right : Fun K "_law_shown_right" "_law_shown_right" s__law_shown_right f__law_shown_right d__law_shown_right
  g__law_shown_right : mg "_law_shown_right" = some (.ref f__law_shown_right)
  k__law_shown_right : PySem.W.keepIn K (.ref f__law_shown_right) = true
  b__law_shown_right : Binds K d__law_shown_right ["_law_bag_here", "_law_width", "_law_base"] []
  f__law_digits : Addr
  d__law_digits : FuncData
  F__law_digits : Fun K "_law_digits" "_law_digits" s__law_digits f__law_digits d__law_digits
  g__law_digits : mg "_law_digits" = some (.ref f__law_digits)
  k__law_digits : PySem.W.keepIn K (.ref f__law_digits) = true
  b__law_digits : Binds K d__law_digits ["_law_bag_here", "_law_base", "_law_many"] []
  f__law_spelled : Addr
  d__law_spelled : FuncData
  F__law_spelled : Fun K "_law_spelled" "_law_spelled" s__law_spelled f__law_spelled d__law_spelled
  g__law_spelled : mg "_law_spelled" = some (.ref f__law_spelled)
  k__law_spelled : PySem.W.keepIn K (.ref f__law_spelled) = true
  b__law_spelled : Binds K d__law_spelled ["_law_row"] []
  f__law_value : Addr
  d__law_value : FuncData
  F__law_value : Fun K "_law_value" "_law_value" s__law_value f__law_value d__law_value
  g__law_value : mg "_law_value" = some (.ref f__law_value)
  k__law_value : PySem.W.keepIn K (.ref f__law_value) = true
  b__law_value : Binds K d__law_value ["_law_base", "_law_row"] []
  f__law_built : Addr
  d__law_built : FuncData
  F__law_built : Fun K "_law_built" "_law_built" s__law_built f__law_built d__law_built
  g__law_built : mg "_law_built" = some (.ref f__law_built)
  k__law_built : PySem.W.keepIn K (.ref f__law_built) = true
  b__law_built : Binds K d__law_built ["_law_bag_here", "_law_width", "_law_base"] []
  f__law_strange : Addr
  d__law_strange : FuncData
  F__law_strange : Fun K "_law_strange" "_law_strange" s__law_strange f__law_strange d__law_strange
  g__law_strange : mg "_law_strange" = some (.ref f__law_strange)
  k__law_strange : PySem.W.keepIn K (.ref f__law_strange) = true
  b__law_strange : Binds K d__law_strange ["_law_bag_here", "_law_real", "_law_first"] []
  f__law_spoilt : Addr
  d__law_spoilt : FuncData
  F__law_spoilt : Fun K "_law_spoilt" "_law_spoilt" s__law_spoilt f__law_spoilt d__law_spoilt
  g__law_spoilt : mg "_law_spoilt" = some (.ref f__law_spoilt)
  k__law_spoilt : PySem.W.keepIn K (.ref f__law_spoilt) = true
  b__law_spoilt : Binds K d__law_spoilt ["_law_bag_here", "_law_built_here"] []
  f__law_odd_base : Addr
  d__law_odd_base : FuncData
  F__law_odd_base : Fun K "_law_odd_base" "_law_odd_base" s__law_odd_base f__law_odd_base d__law_odd_base
  g__law_odd_base : mg "_law_odd_base" = some (.ref f__law_odd_base)
  k__law_odd_base : PySem.W.keepIn K (.ref f__law_odd_base) = true
  b__law_odd_base : Binds K d__law_odd_base ["_law_bag_here"] []
  f__law_refused : Addr
  d__law_refused : FuncData
  F__law_refused : Fun K "_law_refused" "_law_refused" s__law_refused f__law_refused d__law_refused
  g__law_refused : mg "_law_refused" = some (.ref f__law_refused)
  k__law_refused : PySem.W.keepIn K (.ref f__law_refused) = true
  b__law_refused : Binds K d__law_refused ["_law_bag_here"] []
  f_law : Addr
  d_law : FuncData
  F_law : Fun K "law" "law" s_law f_law d_law
  g_law : mg "law" = some (.ref f_law)
  k_law : PySem.W.keepIn K (.ref f_law) = true
  b_law : Binds K d_law ["_law_script"] []
  c_MintError : Addr
  c_BadWidth : Addr
  c_BadBase : Addr
  g_MintError : mg "MintError" = some (.ref c_MintError)
  g_BadWidth : mg "BadWidth" = some (.ref c_BadWidth)
  o_BadWidth : OexC K c_BadWidth
  x_BadWidth : XfC K c_BadWidth
  e_BadWidth : ExcC K c_BadWidth
  F_BadWidth___init__ : PySem.W.findIn K (.ref c_BadWidth) "__init__" = some (some (.ref f_BadWidth___init__)) ∧ PySem.W.typeIn K (.ref f_BadWidth___init__) = some (.type "function") ∧ PySem.W.findIn K (.ref c_BadWidth) "width" = some none
  m_BadWidth : PySem.W.exmOne K (.ref c_BadWidth) (.ref c_MintError) = some true
  v_BadWidth : PySem.W.kitOne K (.ref c_BadWidth) (.type "ValueError") = some true
  k_BadWidth_BadWidth : PySem.W.kitOne K (.ref c_BadWidth) (.ref c_BadWidth) = some true
  k_BadWidth_BadBase : PySem.W.kitOne K (.ref c_BadWidth) (.ref c_BadBase) = some false
  g_BadBase : mg "BadBase" = some (.ref c_BadBase)
  o_BadBase : OexC K c_BadBase
  x_BadBase : XfC K c_BadBase
  e_BadBase : ExcC K c_BadBase
  F_BadBase___init__ : PySem.W.findIn K (.ref c_BadBase) "__init__" = some (some (.ref f_BadBase___init__)) ∧ PySem.W.typeIn K (.ref f_BadBase___init__) = some (.type "function") ∧ PySem.W.findIn K (.ref c_BadBase) "base" = some none
  m_BadBase : PySem.W.exmOne K (.ref c_BadBase) (.ref c_MintError) = some true
  v_BadBase : PySem.W.kitOne K (.ref c_BadBase) (.type "ValueError") = some true
  k_BadBase_BadWidth : PySem.W.kitOne K (.ref c_BadBase) (.ref c_BadWidth) = some false
  k_BadBase_BadBase : PySem.W.kitOne K (.ref c_BadBase) (.ref c_BadBase) = some true
  a_WIDTHS : Addr
  g_WIDTHS : mg "WIDTHS" = some (.ref a_WIDTHS)
  q_WIDTHS : ∀ H, SqT K H a_WIDTHS [V.int 16, V.int 24, V.int 32]
  t_DIGITS : Tok
  g_DIGITS : mg "DIGITS" = some (.str "0123456789abcdefghijklmnopqrstuvwxyz" t_DIGITS)
  n_ValueError : mg "ValueError" = none
  n_abs : mg "abs" = none
  n_bool : mg "bool" = none
  n_int : mg "int" = none
  n_isinstance : mg "isinstance" = none
  n_len : mg "len" = none
  n_range : mg "range" = none
  n_str : mg "str" = none

section
variable {P : Program} {w : World} {K : PySem.W.Frag} {mg : Str → Option Value} {base : Heap}

abbrev sp_check_width (M : TX K mg) : Sp := Sp1 fun x H Q E => Pl H x ∧ (isW x = true → Q .non H) ∧ (isW x = false → Rz M.c_BadWidth "width" x H E)
abbrev sp_half (M : TX K mg) : Sp := Sp1 fun x H Q E => Pl H x ∧ (∀ w, x = .int w → Wd w → Q (.int (hf w)) H) ∧ (isW x = false → Rz M.c_BadWidth "width" x H E)
abbrev sp_wrap (M : TX K mg) : Sp := Sp2 fun x y H Q E => ∃ n, y = .int n ∧ Pl H x ∧ (∀ w, x = .int w → Wd w → Q (.int (wrapI w n)) H) ∧ (isW x = false → Rz M.c_BadWidth "width" x H E)

abbrev sp_check_base (M : TX K mg) : Sp := Sp1 fun x H Q E => Pl H x ∧ (btw x 2 36 = true → Q .non H) ∧ (btw x 2 36 = false → Rz M.c_BadBase "base" x H E)

end
end K03
namespace K03
open PySem PySem.Spec PyProof.Rows L2 My
section
variable {P : Program} {w : World} {K : PySem.W.Frag} {mg : Str → Option Value} {base : Heap}
theorem ok_BadWidth___init__ (M : TX K mg) : FnOk P w K mg base (L2.CX P w) 1 M.f_BadWidth___init__ M.d_BadWidth___init__ ["self", "width"] (spExc M.c_BadWidth "width") := by
  have sc := sc_BadWidth___init__
  refine M.E_BadWidth___init__.okX sc (fun vs H Q E h => ?_) (fun cdv A outer s H vs Q E hr h => ?_)
  · obtain ⟨a, v, rfl, _⟩ := h
    rfl
  · obtain ⟨a, v, rfl, ha, k⟩ := h
    refine ⟨_, pss_one (ps_ost (pv 0) (pv 1)), ?_⟩
    exact ⟨_, rfl, _, rfl, a, M.c_BadWidth, rfl, M.o_BadWidth, M.F_BadWidth___init__.2.2, .inl ⟨ha, k⟩⟩

theorem ok_BadBase___init__ (M : TX K mg) : FnOk P w K mg base (L2.CX P w) 1 M.f_BadBase___init__ M.d_BadBase___init__ ["self", "base"] (spExc M.c_BadBase "base") := by
  have sc := sc_BadBase___init__
  refine M.E_BadBase___init__.okX sc (fun vs H Q E h => ?_) (fun cdv A outer s H vs Q E hr h => ?_)
  · obtain ⟨a, v, rfl, _⟩ := h
    rfl
  · obtain ⟨a, v, rfl, ha, k⟩ := h
    refine ⟨_, pss_one (ps_ost (pv 0) (pv 1)), ?_⟩
    exact ⟨_, rfl, _, rfl, a, M.c_BadBase, rfl, M.o_BadBase, M.F_BadBase___init__.2.2, .inl ⟨ha, k⟩⟩

theorem ok_is_integer (M : TX K mg) : FnOk P w K mg base (L2.CX P w) 1 M.f_is_integer M.d_is_integer ["thing"] (Sp1 fun x H Q _ => Pl H x ∧ Q (.bl (isI x)) H) := by
  have sc := sc_is_integer
  refine M.F_is_integer.okX sc (fun vs H Q E h => Sp1_len h) (fun cdv A outer s H vs Q E hr h => ?_)
  obtain ⟨x0, rfl, h⟩ := h
  have hu := hu_of hr
  have hu64 := hr.units
  refine ⟨_, (pss_one (ps_ret (pe_and (pe_callB call_isInt (by rfl) M.n_isinstance (by decide +kernel) (pa_cons (pv 0) (pa_cons (pe_bltn (v := .ty "int") (u := .type "int") (by rfl) M.n_int (by decide +kernel) rfl) pa_nil))) (pe_one (pe_not (pe_callB call_isBool (by rfl) M.n_isinstance (by decide +kernel) (pa_cons (pv 0) (pa_cons (pe_bltn (v := .ty "bool") (u := .type "bool") (by rfl) M.n_bool (by decide +kernel) rfl) pa_nil)))))))), ?_⟩

  obtain ⟨hp, q⟩ := h
  walk_at "rd"
  refine iteB (fun c => ?_) (fun c => ?_)
  · walk_at "rd"
    cases x0 <;> first | exact q | cases c
  · cases x0 <;> first | exact q | cases c

theorem ok_is_between (M : TX K mg) : FnOk P w K mg base (L2.CX P w) 2 M.f_is_between M.d_is_between ["thing", "low", "high"] (Sp3 fun x y z H Q _ => ∃ lo hi, y = .int lo ∧ z = .int hi ∧ Pl H x ∧ Q (.bl (btw x lo hi)) H) := by
  have sc := sc_is_between
  refine M.F_is_between.okX sc (fun vs H Q E h => Sp3_len h) (fun cdv A outer s H vs Q E hr h => ?_)
  obtain ⟨x0, x1, x2, rfl, h⟩ := h
  have hu := hu_of hr
  have hu64 := hr.units
  refine ⟨_, (pss_one (ps_ret (pe_and (pe_call (ok_is_integer M) (hr.mono (by decide)) rfl M.g_is_integer M.F_is_integer.kp M.b_is_integer .nil (passE rfl rfl rfl rfl) (pa_cons (pv 0) pa_nil)) (pe_one (pe_chain op_le op_le (pv 1) (pv 0) (pv 2)))))), ?_⟩

  obtain ⟨lo, hi, rfl, rfl, hp, q⟩ := h
  walk_at "rd"
  refine iteB (fun c => ?_) (fun c => ?_)
  · cases x0 <;> try (cases c)
    rename_i i
    walk_at "rd"
    refine iteB (fun c1 => ?_) (fun c1 => ?_)
    · walk_at "rd"
      have e : btw (.int i) lo hi = decide (i ≤ hi) := by
        show (decide (lo ≤ i) && decide (i ≤ hi)) = decide (i ≤ hi)
        rw [c1]; rfl
      rw [e] at q; exact q
    · have e : btw (.int i) lo hi = false := by
        show (decide (lo ≤ i) && decide (i ≤ hi)) = false
        rw [c1]; rfl
      rw [e] at q; exact q
  · cases x0 <;> first | exact q | cases c

theorem ok_is_base (M : TX K mg) : FnOk P w K mg base (L2.CX P w) 3 M.f_is_base M.d_is_base ["thing"] (Sp1 fun x H Q _ => Pl H x ∧ Q (.bl (btw x 2 36)) H) := by
  have sc := sc_is_base
  refine M.F_is_base.okX sc (fun vs H Q E h => Sp1_len h) (fun cdv A outer s H vs Q E hr h => ?_)
  obtain ⟨x0, rfl, h⟩ := h
  have hu := hu_of hr
  have hu64 := hr.units
  refine ⟨_, (pss_one (ps_ret (pe_call (ok_is_between M) (hr.mono (by decide)) rfl M.g_is_between M.F_is_between.kp M.b_is_between .nil (passE rfl rfl rfl rfl) (pa_cons (pv 0) (pa_cons pe_int (pa_cons pe_int pa_nil)))))), ?_⟩

  obtain ⟨hp, q⟩ := h
  walk_at "rd"
  exact q

theorem ok_check_width (M : TX K mg) : FnOk P w K mg base (L2.CX P w) 3 M.f_check_width M.d_check_width ["width"] (sp_check_width M) := by
  have sc := sc_check_width
  refine M.F_check_width.okX sc (fun vs H Q E h => Sp1_len h) (fun cdv A outer s H vs Q E hr h => ?_)
  obtain ⟨x0, rfl, h⟩ := h
  have hu := hu_of hr
  have hu64 := hr.units
  refine ⟨_, (pss_one (ps_if (PW.pt (pw_or (pt_not (pt_val (pe_call (ok_is_integer M) (hr.mono (by decide)) rfl M.g_is_integer M.F_is_integer.kp M.b_is_integer .nil (passE rfl rfl rfl rfl) (pa_cons (pv 0) pa_nil)))) (pw_or1 (pt_cmpR (op_notInK K) (pv 0) (pe_glob (v := .ref M.a_WIDTHS) rfl M.g_WIDTHS rfl) (by rfl)))))
      (pss_one (ps_rz rfl (takes_of rfl rfl rfl rfl) M.o_BadWidth M.F_BadWidth___init__.1 M.F_BadWidth___init__.2.1 (ok_BadWidth___init__ M) (hr.mono (by decide)) M.b_BadWidth___init__ rfl M.g_BadWidth (pa_cons (pv 0) pa_nil)))
      pss_nil)), ?_⟩

  obtain ⟨hp, k1, k2⟩ := h
  walk_at "rd"
  cases x0
  case int i =>
    refine iteF ?_
    refine ⟨_, rfl, _, _, rfl, .inr (M.q_WIDTHS _), rfl, rfl, _, rfl, ?_⟩
    have e : inV (.int i) [V.int 16, V.int 24, V.int 32] = isW (.int i) := by
      by_cases h1 : i = 16
      · subst h1; rfl
      · by_cases h2 : i = 24
        · subst h2; rfl
        · by_cases h3 : i = 32
          · subst h3; rfl
          · simp [inV, eqV, isW, h1, h2, h3, Ne.symm h1, Ne.symm h2, Ne.symm h3]
    show if (!inV (.int i) [V.int 16, V.int 24, V.int 32]) = true then _ else _
    rw [e]
    cases c : isW (.int i)
    · refine iteT ?_
      walk_at "rd"
      exact k2 c
    · exact iteF (k1 c)
  all_goals
    refine iteT (iteT ?_)
    walk_at "rd"
    exact k2 rfl


theorem iteNB {c : Bool} {A B : Prop} (h1 : c = true → B) (h2 : c = false → A) : if (!c) = true then A else B := by
  cases c
  · exact iteT (h2 rfl)
  · exact iteF (h1 rfl)

theorem ok_check_base (M : TX K mg) : FnOk P w K mg base (L2.CX P w) 4 M.f_check_base M.d_check_base ["base"] (sp_check_base M) := by
  have sc := sc_check_base
  refine M.F_check_base.okX sc (fun vs H Q E h => Sp1_len h) (fun cdv A outer s H vs Q E hr h => ?_)
  obtain ⟨x0, rfl, h⟩ := h
  have hu := hu_of hr
  have hu64 := hr.units
  refine ⟨_, (pss_one (ps_if (pt_not (pt_val (pe_call (ok_is_base M) (hr.mono (by decide)) rfl M.g_is_base M.F_is_base.kp M.b_is_base .nil (passE rfl rfl rfl rfl) (pa_cons (pv 0) pa_nil))))
      (pss_one (ps_rz rfl (takes_of rfl rfl rfl rfl) M.o_BadBase M.F_BadBase___init__.1 M.F_BadBase___init__.2.1 (ok_BadBase___init__ M) (hr.mono (by decide)) M.b_BadBase___init__ rfl M.g_BadBase (pa_cons (pv 0) pa_nil)))
      pss_nil)), ?_⟩

  obtain ⟨hp, k1, k2⟩ := h
  walk_at "rd"
  refine iteNB (fun c => ?_) (fun c => ?_)
  · exact k1 c
  · walk_at "rd"
    exact k2 c

theorem ok_half (M : TX K mg) : FnOk P w K mg base (L2.CX P w) 4 M.f_half M.d_half ["width"] (sp_half M) := by
  have sc := sc_half
  refine M.F_half.okX sc (fun vs H Q E h => Sp1_len h) (fun cdv A outer s H vs Q E hr h => ?_)
  obtain ⟨x0, rfl, h⟩ := h
  have hu := hu_of hr
  have hu64 := hr.units
  refine ⟨_, (pss_cons (ps_expr (pe_call (ok_check_width M) (hr.mono (by decide)) rfl M.g_check_width M.F_check_width.kp M.b_check_width .nil (passE rfl rfl rfl rfl) (pa_cons (pv 0) pa_nil)))
    (pss_one (ps_ret (pe_op op_shl pe_int (pe_op op_sub (pv 0) pe_int))))), ?_⟩

  obtain ⟨hp, k1, k2⟩ := h
  refine ⟨_, rfl, _, rfl, hp, fun c => ?_, fun c => k2 c⟩
  obtain ⟨w, rfl, hw⟩ := isW_of c
  walk_at "rd"
  refine ⟨⟨by rcases hw with rfl | rfl | rfl <;> decide, by rcases hw with rfl | rfl | rfl <;> decide, by decide⟩, ?_⟩
  have q := k1 w rfl hw
  show Q (.int (1 * 2 ^ (w - 1).toNat)) H
  rw [Int.one_mul]
  exact q

theorem ok_wrap (M : TX K mg) : FnOk P w K mg base (L2.CX P w) 5 M.f_wrap M.d_wrap ["width", "number"] (sp_wrap M) := by
  have sc := sc_wrap
  refine M.F_wrap.okX sc (fun vs H Q E h => Sp2_len h) (fun cdv A outer s H vs Q E hr h => ?_)
  obtain ⟨x0, x1, rfl, h⟩ := h
  have hu := hu_of hr
  have hu64 := hr.units
  refine ⟨_, (pss_cons (ps_set (i := 2) sc.nd rfl (Or.inl rfl) (pe_call (ok_half M) (hr.mono (by decide)) rfl M.g_half M.F_half.kp M.b_half .nil (passE rfl rfl rfl rfl) (pa_cons (pv 0) pa_nil)))
    (pss_one (ps_ret (pe_op op_sub (pe_op op_mod (pe_op op_add (pv 1) (pv 2)) (pe_op op_mul pe_int (pv 2))) (pv 2))))), ?_⟩

  obtain ⟨n, rfl, hp, k1, k2⟩ := h
  refine ⟨_, rfl, _, rfl, hp, fun w e hw => ?_, fun c => k2 c⟩
  subst e
  have hq := hf_pos hw
  walk_at "rd"
  exact k1 w rfl hw

end
end K03
namespace K03
open PySem PySem.Spec PyProof.Rows L2 My
section
variable {P : Program} {w : World} {K : PySem.W.Frag} {mg : Str → Option Value} {base : Heap}
theorem ok__law_bag (M : TX K mg) : FnOk P w K mg base (L2.CX P w) 1 M.f__law_bag M.d__law_bag ["_law_script"] (spBag K) := by
  have sc := sc__law_bag
  refine M.F__law_bag.okX sc (fun vs H Q E h => Sp1_len h) (fun cdv A outer s H vs Q E hr h => ?_)
  obtain ⟨x0, rfl, h⟩ := h
  have hu := hu_of hr
  have hu64 := hr.units
  refine ⟨_, (pss_one (ps_ret (pe_disp (pps_cons pe_str (pe_lc (own := [("_law_cell", 1)]) (g := gName 1) (tt := tYes) (by rfl) sc.nd (pi_listK K (pi_list (pv 0))) (blkOk_by (own := [("_law_cell", 1)]) (N := ["_law_script", "_law_cell"]) (sc := defScope s__law_bag) (by decide +kernel)) (fun _ _ _ _ _ => pg_name (i := 1) sc.nd rfl (Or.inl rfl)) (fun _ _ _ _ _ => pts_nil) (fun _ _ _ _ _ => (pe_callTy call_int1 (by rfl) M.n_int (by decide +kernel) (pa_cons (pv 1) pa_nil)))) (pps_cons pe_str pe_int (pps_cons pe_str pe_int (pps_cons pe_str pe_int (pps_cons pe_str pe_int pps_nil))))) (by rfl) (by rfl) (fun z => by cases z) (by decide)))), ?_⟩

  obtain ⟨a, ns, rfl, hS, hl, k⟩ := h
  intro p hp
  have s1 : Same H (upd H p (.dK [])) := Same.put (Same.refl H) hp
  refine ⟨_, rfl, a, rfl, ⟨_, s1.seq hS⟩, fun D hD => ?_⟩
  refine lc_list (xs := ns.map V.int) (LBd D (ns.map V.int) (upd H p (.dK []))) (LBd_0 hD) (fun i H' _ h => h.2.seq (s1.seq hS)) ?_ ?_
  · rintro i x H' hi B
    obtain ⟨z, hz, rfl⟩ := map_get hi
    refine ⟨rfl, tYes_i (iteT ?_)⟩
    walk_at "rd"
    exact LBd_s B hD hi (by rw [List.length_map]; omega)
  · intro H' B
    obtain ⟨hd, s2⟩ := LBd_n B rfl
    refine ⟨s2 _ _ upd_same, [((Sum.inr ("cells" : Str) : Key), V.ref D), (Sum.inr ("at" : Str), .int 0), (Sum.inr ("rest" : Str), .int 0), (Sum.inr ("seed" : Str), .int 20011), (Sum.inr ("count" : Str), .int 0)], rfl, Nat.le_of_ble_eq_true rfl, ?_⟩
    rw [merge_bag]
    have npd : D ≠ p := by
      intro e
      rw [e, upd_same] at hD
      cases hD
    refine k p _ hp ⟨D, ns, 0, 0, 20011, 0, upd_same, ?_, by decide, hl⟩ (Same.put (s1.trans s2) hp)
    rw [upd_ne npd]
    exact hd

theorem ok__law_pick (M : TX K mg) : FnOk P w K mg base (L2.CX P w) 1 M.f__law_pick M.d__law_pick ["_law_bag_here", "_law_many"] (spPick) := by
  have sc := sc__law_pick
  refine M.F__law_pick.okX sc (fun vs H Q E h => Sp2_len h) (fun cdv A outer s H vs Q E hr h => ?_)
  obtain ⟨x0, x1, rfl, h⟩ := h
  have hu := hu_of hr
  have hu64 := hr.units
  refine ⟨_, (pss_cons (ps_dput hu (pv 0) pe_str (pe_op op_add (pe_dget hu (pv 0) pe_str (fun _ _ => rfl)) pe_int) rfl)
    (pss_cons (ps_if (pt_cmpR op_gt (pe_dget hu (pv 0) pe_str (fun _ _ => rfl)) pe_int (nomark _))
      (pss_cons (ps_set (i := 2) sc.nd rfl (Or.inl rfl) (pe_op op_mod (pe_callTy call_int1 (by rfl) M.n_int (by decide +kernel) (pa_cons (pe_dget hu (pv 0) pe_str (fun _ _ => rfl)) pa_nil)) (pv 1)))
      (pss_cons (ps_dput hu (pv 0) pe_str (pe_op op_fdiv (pe_dget hu (pv 0) pe_str (fun _ _ => rfl)) (pv 1)) rfl)
      (pss_one (ps_ret (pv 2)))))
      pss_nil)
    (pss_cons (ps_if (pt_cmpR op_lt (pe_dget hu (pv 0) pe_str (fun _ _ => rfl)) (pe_callB (call_lenK K) (by rfl) M.n_len PySem.boot_len (pa_cons (pe_dget hu (pv 0) pe_str (fun _ _ => rfl)) pa_nil)) (nomark _))
      (pss_cons (ps_set (i := 3) sc.nd rfl (Or.inl rfl) (pe_ix (ix_listK K) (pe_dget hu (pv 0) pe_str (fun _ _ => rfl)) (pe_dget hu (pv 0) pe_str (fun _ _ => rfl)) (fun _ _ => rfl)))
      (pss_cons (ps_dput hu (pv 0) pe_str (pe_op op_add (pe_dget hu (pv 0) pe_str (fun _ _ => rfl)) pe_int) rfl)
      (pss_cons (ps_if (pt_cmpR op_ge (pv 3) pe_int (nomark _))
        (pss_cons (ps_dput hu (pv 0) pe_str (pe_op op_fdiv (pv 3) (pv 1)) rfl)
        (pss_one (ps_ret (pe_op op_mod (pe_callTy call_int1 (by rfl) M.n_int (by decide +kernel) (pa_cons (pv 3) pa_nil)) (pv 1)))))
        pss_nil)
      (pss_one (ps_dput hu (pv 0) pe_str (pe_op op_mod (pe_callTy call_int1 (by rfl) M.n_int (by decide +kernel) (pa_cons (pe_op op_add (pe_op op_add (pe_dget hu (pv 0) pe_str (fun _ _ => rfl)) (pe_op op_mul (pv 3) pe_int)) pe_int) pa_nil)) pe_int) rfl)))))
      pss_nil)
    (pss_cons (ps_dput hu (pv 0) pe_str (pe_op op_mod (pe_callTy call_int1 (by rfl) M.n_int (by decide +kernel) (pa_cons (pe_op op_add (pe_op op_add (pe_op op_mul (pe_dget hu (pv 0) pe_str (fun _ _ => rfl)) pe_int) (pe_op op_mul (pe_dget hu (pv 0) pe_str (fun _ _ => rfl)) pe_int)) pe_int) pa_nil)) pe_int) rfl)
    (pss_cons (ps_set (i := 4) sc.nd rfl (Or.inl rfl) (pe_op op_mod (pe_callTy call_int1 (by rfl) M.n_int (by decide +kernel) (pa_cons (pe_op op_add (pe_op op_mul (pe_dget hu (pv 0) pe_str (fun _ _ => rfl)) pe_int) (pe_op op_mul (pe_dget hu (pv 0) pe_str (fun _ _ => rfl)) pe_int)) pa_nil)) pe_int))
    (pss_one (ps_ret (pe_op op_mod (pe_callTy call_int1 (by rfl) M.n_int (by decide +kernel) (pa_cons (pe_op op_fdiv (pv 4) pe_int) pa_nil)) (pv 1))))))))), ?_⟩

  obtain ⟨b, m, rfl, rfl, h0, h1, B, k⟩ := h
  obtain ⟨c, ns, a, r, s0, n, hb, hc, ha, hl⟩ := B.ex
  have ncb : c ≠ b := ne_of hc hb (by intro z; cases z)
  have ed : ∀ x : Int, 0 ≤ x % m ∧ x % m < m := fun x => ⟨Int.emod_nonneg _ (by omega), Int.emod_lt_of_pos _ h0⟩
  walk_at "rd"
  refine iteD (fun c1 => ?_) (fun c1 => ?_)
  · walk_at "rd"
    refine k _ _ (ed _).1 (ed _).2 ⟨c, ns, _, _, _, _, upd_same, ?_, ?_, hl⟩ (Kp.refl.upd.upd) <;> first | walk_at "hp" | omega
  · walk_at "rd"
    refine iteD (fun c2 => ?_) (fun c2 => ?_)
    · rw [List.length_map] at c2
      obtain ⟨z, hz⟩ : ∃ z, ns[a.toNat]? = some z := ⟨_, List.getElem?_eq_getElem (by omega)⟩
      walk_at "rd"
      refine ⟨_, _, _, .int z, rfl, rfl, SqL.of (by walk_at "hp"), at_of (j := a.toNat) (by omega) (by rw [List.getElem?_map, hz]; rfl), ?_⟩
      walk_at "rd"
      refine iteD (fun c3 => ?_) (fun c3 => ?_)
      · walk_at "rd"
        refine k _ _ (ed _).1 (ed _).2 ⟨c, ns, _, _, _, _, upd_same, ?_, ?_, hl⟩ (Kp.refl.upd.upd.upd) <;> first | walk_at "hp" | omega
      · walk_at "rd"
        refine k _ _ (ed _).1 (ed _).2 ⟨c, ns, _, _, _, _, upd_same, ?_, ?_, hl⟩ (Kp.refl.upd.upd.upd.upd) <;> first | walk_at "hp" | omega
    · walk_at "rd"
      refine k _ _ (ed _).1 (ed _).2 ⟨c, ns, _, _, _, _, upd_same, ?_, ?_, hl⟩ (Kp.refl.upd.upd) <;> first | walk_at "hp" | omega

theorem ok__law_integer (M : TX K mg) : FnOk P w K mg base (L2.CX P w) 1 M.f__law_integer M.d__law_integer ["_law_thing"] (Sp1 fun x H Q _ => Pl H x ∧ Q (.bl (isI x)) H) := by
  have sc := sc__law_integer
  refine M.F__law_integer.okX sc (fun vs H Q E h => Sp1_len h) (fun cdv A outer s H vs Q E hr h => ?_)
  obtain ⟨x0, rfl, h⟩ := h
  have hu := hu_of hr
  have hu64 := hr.units
  refine ⟨_, (pss_one (ps_ret (pe_and (pe_callB call_isInt (by rfl) M.n_isinstance (by decide +kernel) (pa_cons (pv 0) (pa_cons (pe_bltn (v := .ty "int") (u := .type "int") (by rfl) M.n_int (by decide +kernel) rfl) pa_nil))) (pe_one (pe_not (pe_callB call_isBool (by rfl) M.n_isinstance (by decide +kernel) (pa_cons (pv 0) (pa_cons (pe_bltn (v := .ty "bool") (u := .type "bool") (by rfl) M.n_bool (by decide +kernel) rfl) pa_nil)))))))), ?_⟩

  obtain ⟨hp, q⟩ := h
  walk_at "rd"
  refine iteB (fun c => ?_) (fun c => ?_)
  · walk_at "rd"
    cases x0 <;> first | exact q | cases c
  · cases x0 <;> first | exact q | cases c

theorem ok__law_half (M : TX K mg) : FnOk P w K mg base (L2.CX P w) 1 M.f__law_half M.d__law_half ["_law_width"] (spHalf) := by
  have sc := sc__law_half
  refine M.F__law_half.okX sc (fun vs H Q E h => Sp1_len h) (fun cdv A outer s H vs Q E hr h => ?_)
  obtain ⟨x0, rfl, h⟩ := h
  have hu := hu_of hr
  have hu64 := hr.units
  refine ⟨_, (pss_one (ps_ret (pe_dget hu (pe_disp (pps_cons pe_int pe_int (pps_cons pe_int pe_int (pps_cons pe_int pe_int pps_nil))) (by rfl) (by rfl) (fun z => by cases z) (by decide)) (pv 0) (fun _ _ => rfl)))), ?_⟩

  obtain ⟨w, rfl, hw, k⟩ := h
  intro p hp
  refine ⟨upd_same, [((Sum.inl 16 : Key), V.int 32768), (Sum.inl 24, .int 8388608), (Sum.inl 32, .int 2147483648)], rfl, by decide, _, rfl, ?_⟩
  have s1 : ∀ o o', Same H (upd (upd H p o) p o') := fun o o' => Same.put (Same.put (Same.refl H) hp) hp
  rcases hw with rfl | rfl | rfl
  · exact ⟨_, _, rfl, DGet.k (k := Sum.inl 16) upd_same, k _ (s1 _ _)⟩
  · exact ⟨_, _, rfl, DGet.k (k := Sum.inl 24) upd_same, k _ (s1 _ _)⟩
  · exact ⟨_, _, rfl, DGet.k (k := Sum.inl 32) upd_same, k _ (s1 _ _)⟩

theorem ok__law_choice (M : TX K mg) : FnOk P w K mg base (L2.CX P w) 2 M.f__law_choice M.d__law_choice ["_law_bag_here", "_law_things"] (spChoice K) := by
  have sc := sc__law_choice
  refine M.F__law_choice.okX sc (fun vs H Q E h => Sp2_len h) (fun cdv A outer s H vs Q E hr h => ?_)
  obtain ⟨x0, x1, rfl, h⟩ := h
  have hu := hu_of hr
  have hu64 := hr.units
  refine ⟨_, (pss_one (ps_ret (pe_ix (ix_listK K) (pv 1) (pe_call (ok__law_pick M) (hr.mono (by decide)) rfl M.g__law_pick M.F__law_pick.kp M.b__law_pick .nil (passE rfl rfl rfl rfl) (pa_cons (pv 0) (pa_cons (pe_callB (call_lenK K) (by rfl) M.n_len PySem.boot_len (pa_cons (pv 1) pa_nil)) pa_nil))) (fun _ _ => rfl)))), ?_⟩

  obtain ⟨b, t, xs, rfl, rfl, ht, h0, h1, ntb, B, k⟩ := h
  walk_at "rd"
  intro v H' v0 v1 B' k'
  have hx : xs[v.toNat]? = some xs[v.toNat] := List.getElem?_eq_getElem (by omega)
  refine ⟨_, _, _, _, rfl, rfl, SqL.of (k' _ _ ntb ht), at_of (j := v.toNat) (by omega) hx, ?_⟩
  exact k _ _ _ hx B' k'

theorem ok__law_wrap (M : TX K mg) : FnOk P w K mg base (L2.CX P w) 2 M.f__law_wrap M.d__law_wrap ["_law_width", "_law_number"] (spWrap) := by
  have sc := sc__law_wrap
  refine M.F__law_wrap.okX sc (fun vs H Q E h => Sp2_len h) (fun cdv A outer s H vs Q E hr h => ?_)
  obtain ⟨x0, x1, rfl, h⟩ := h
  have hu := hu_of hr
  have hu64 := hr.units
  refine ⟨_, (pss_cons (ps_set (i := 2) sc.nd rfl (Or.inl rfl) (pe_call (ok__law_half M) (hr.mono (by decide)) rfl M.g__law_half M.F__law_half.kp M.b__law_half .nil (passE rfl rfl rfl rfl) (pa_cons (pv 0) pa_nil)))
    (pss_one (ps_ret (pe_op op_sub (pe_op op_mod (pe_callTy call_int1 (by rfl) M.n_int (by decide +kernel) (pa_cons (pe_op op_add (pv 1) (pv 2)) pa_nil)) (pe_op op_mul pe_int (pv 2))) (pv 2))))), ?_⟩

  obtain ⟨w, n, rfl, rfl, hw, k⟩ := h
  have hq := hf_pos hw
  walk_at "rd"
  intro H' s
  walk_at "rd"
  exact k _ s

theorem ok__law_num (M : TX K mg) : FnOk P w K mg base (L2.CX P w) 3 M.f__law_num M.d__law_num ["_law_bag_here", "_law_width"] (spNum) := by
  have sc := sc__law_num
  refine M.F__law_num.okX sc (fun vs H Q E h => Sp2_len h) (fun cdv A outer s H vs Q E hr h => ?_)
  obtain ⟨x0, x1, rfl, h⟩ := h
  have hu := hu_of hr
  have hu64 := hr.units
  refine ⟨_, (pss_cons (ps_set (i := 2) sc.nd rfl (Or.inl rfl) (pe_call (ok__law_pick M) (hr.mono (by decide)) rfl M.g__law_pick M.F__law_pick.kp M.b__law_pick .nil (passE rfl rfl rfl rfl) (pa_cons (pv 0) (pa_cons pe_int pa_nil))))
    (pss_cons (ps_set (i := 3) sc.nd rfl (Or.inl rfl) (pe_call (ok__law_half M) (hr.mono (by decide)) rfl M.g__law_half M.F__law_half.kp M.b__law_half .nil (passE rfl rfl rfl rfl) (pa_cons (pv 1) pa_nil)))
    (pss_cons (ps_if (pt_cmpR op_lt (pv 2) pe_int (nomark _))
      (pss_one (ps_ret (pe_call (ok__law_pick M) (hr.mono (by decide)) rfl M.g__law_pick M.F__law_pick.kp M.b__law_pick .nil (passE rfl rfl rfl rfl) (pa_cons (pv 0) (pa_cons pe_int pa_nil)))))
      pss_nil)
    (pss_cons (ps_if (pt_cmpR op_lt (pv 2) pe_int (nomark _))
      (pss_cons (ps_set (i := 4) sc.nd rfl (Or.inl rfl) (pe_call (ok__law_pick M) (hr.mono (by decide)) rfl M.g__law_pick M.F__law_pick.kp M.b__law_pick .nil (passE rfl rfl rfl rfl) (pa_cons (pv 0) (pa_cons pe_int pa_nil))))
      (pss_one (ps_ret (pe_ix (ix_listK K) (pe_lst (pa_cons (pe_op op_sub (pe_un un_neg pe_int) (pv 4)) (pa_cons (pe_op op_sub (pe_op op_sub (pv 3) pe_int) (pv 4)) (pa_cons (pe_op op_sub (pv 4) (pv 3)) (pa_cons (pe_op op_add pe_int (pe_op op_mul pe_int (pv 4))) pa_nil))))) (pe_op op_sub (pv 2) pe_int) (fun _ _ => rfl)))))
      pss_nil)
    (pss_one (ps_ret (pe_call (ok__law_wrap M) (hr.mono (by decide)) rfl M.g__law_wrap M.F__law_wrap.kp M.b__law_wrap .nil (passE rfl rfl rfl rfl) (pa_cons (pv 1) (pa_cons (pe_op op_add (pe_op op_mul (pe_call (ok__law_pick M) (hr.mono (by decide)) rfl M.g__law_pick M.F__law_pick.kp M.b__law_pick .nil (passE rfl rfl rfl rfl) (pa_cons (pv 0) (pa_cons pe_int pa_nil))) pe_int) (pe_call (ok__law_pick M) (hr.mono (by decide)) rfl M.g__law_pick M.F__law_pick.kp M.b__law_pick .nil (passE rfl rfl rfl rfl) (pa_cons (pv 0) (pa_cons pe_int pa_nil)))) pa_nil))))))))), ?_⟩

  obtain ⟨b, w, rfl, rfl, hw, B, k⟩ := h
  have hq := hf_pos hw
  have hq2 : 32768 ≤ hf w := by rcases hf_val hw with ⟨_, e⟩ | ⟨_, e⟩ | ⟨_, e⟩ <;> rw [e] <;> decide
  walk_at "rd"
  intro v H1 v0 v1 B1 k1
  walk_at "rd"
  intro H2 s2
  have B2 := B1.same s2
  have k2 := k1.trans (Kp.of s2)
  walk_at "rd"
  refine iteD (fun c1 => ?_) (fun c1 => ?_)
  · walk_at "rd"
    intro u H3 u0 u1 B3 k3
    exact k u H3 (by unfold InR; omega) B3 (k2.trans k3)
  · walk_at "rd"
    refine iteD (fun c2 => ?_) (fun c2 => ?_)
    · walk_at "rd"
      intro u H3 u0 u1 B3 k3
      walk_at "rd"
      intro p hp
      walk_at "rd"
      have fin : ∀ z, InR w z → Q (.int z) (upd H3 p (.lst [V.int (-1 - u), V.int (hf w - 1 - u), V.int (u - hf w), V.int (20 + 31 * u)])) := fun z hz => k z _ hz (B3.put hp) ((k2.trans k3).trans (Kp.put Kp.refl hp))
      have hv : v = 3 ∨ v = 4 ∨ v = 5 ∨ v = 6 := by omega
      rcases hv with rfl | rfl | rfl | rfl
      · exact ⟨_, _, _, _, rfl, rfl, SqL.of upd_same, rfl, fin _ (by unfold InR; omega)⟩
      · exact ⟨_, _, _, _, rfl, rfl, SqL.of upd_same, rfl, fin _ (by unfold InR; omega)⟩
      · exact ⟨_, _, _, _, rfl, rfl, SqL.of upd_same, rfl, fin _ (by unfold InR; omega)⟩
      · exact ⟨_, _, _, _, rfl, rfl, SqL.of upd_same, rfl, fin _ (by unfold InR; omega)⟩
    · walk_at "rd"
      intro u H3 u0 u1 B3 k3
      walk_at "rd"
      intro t H4 t0 t1 B4 k4
      walk_at "rd"
      intro H5 s5
      exact k _ _ (wrap_in hw) (B4.same s5) (((k2.trans k3).trans k4).trans (Kp.of s5))

end
end K03
namespace K03
open PySem PySem.Spec PyProof.Rows L2 My
section
variable {P : Program} {w : World} {K : PySem.W.Frag} {mg : Str → Option Value} {base : Heap}

def ShI (bn r : Nat) (n : Int) (l : Addr) (H0 : Hp) (m : Nat) (σ : L2.St) (H : Hp) : Prop := ∃ i, σ = [some (.int bn), some (.int n), some (.int ((r / bn ^ i : Nat) : Int)), some (.ref l)] ∧ H l = some (.lst ((ones (dgl bn r i)).map V.str)) ∧ Same H0 H ∧
  (∀ j, 1 ≤ j → j < i → bn ^ j ≤ r) ∧ m = r / bn ^ i + (if i = 0 then 1 else 0)
abbrev sp_show (M : TX K mg) : Sp := Sp2 fun x y H Q E => Pl H x ∧ ∃ n, y = .int n ∧ (btw x 2 36 = false → Rz M.c_BadBase "base" x H E) ∧ (∀ bn : Nat, x = .int bn → 2 ≤ bn → bn ≤ 36 → n.natAbs < 2 ^ 200 ∧ ∀ s H', IsSh bn n s → Same H H' → Q (.str s) H')
theorem LSame {H0 H : Hp} {l : Addr} {o : HO} (s : Same H0 H) (hl : H0 l = none) : Same H0 (upd H l o) := fun p u e => by
  rw [upd_ne (ne_of_none e hl)]; exact s p u e
theorem btw_of {x : V} {lo hi : Int} (h : btw x lo hi = true) : ∃ i, x = .int i ∧ lo ≤ i ∧ i ≤ hi := by
  cases x <;> first | (cases h; done) | skip
  rename_i i
  unfold btw at h
  simp only [Bool.and_eq_true, decide_eq_true_eq] at h
  exact ⟨i, rfl, h.1, h.2⟩

theorem ok_show (M : TX K mg) : FnOk P w K mg base (L2.CX P w) 5 M.f_show M.d_show ["base", "number"] (sp_show M) := by
  have sc := sc_show
  refine M.F_show.okX sc (fun vs H Q E h => Sp2_len h) (fun cdv A outer s H vs Q E hr h => ?_)
  obtain ⟨x0, x1, rfl, h⟩ := h
  have hu := hu_of hr
  have hu64 := hr.units
  refine ⟨_, (pss_cons (ps_expr (pe_call (ok_check_base M) (hr.mono (by decide)) rfl M.g_check_base M.F_check_base.kp M.b_check_base .nil (passE rfl rfl rfl rfl) (pa_cons (pv 0) pa_nil)))
    (pss_cons (ps_set (i := 2) sc.nd rfl (Or.inl rfl) (pe_callB call_abs (by rfl) M.n_abs (by decide +kernel) (pa_cons (pv 1) pa_nil)))
    (pss_cons (ps_set (i := 3) sc.nd rfl (Or.inl rfl) (pe_lst pa_nil))
    (pss_cons (ps_while (passes_of rfl) (PW.pt (pw_or (pt_cmpR op_gt (pv 2) pe_int (nomark _)) (pw_or1 (pt_not (pt_truth (pv 3) (fun _ => rfl))))))
      (pss_cons (ps_expr (pe_bmK K (pe_bm PySem.F.plainAttrs_list PySem.F.slot_list_append PySem.F.type_list_append mt_append (pv 3) (pa_cons (pe_ix ix_str (pe_glob (v := .str DG) rfl M.g_DIGITS ⟨_, rfl⟩) (pe_op op_mod (pv 2) (pv 0)) (fun _ _ => rfl)) pa_nil))))
      (pss_one (ps_set (i := 2) sc.nd rfl (Or.inl rfl) (pe_op op_fdiv (pv 2) (pv 0))))))
    (pss_cons (ps_if (pt_cmpR op_lt (pv 1) pe_int (nomark _))
      (pss_one (ps_expr (pe_bmK K (pe_bm PySem.F.plainAttrs_list PySem.F.slot_list_append PySem.F.type_list_append mt_append (pv 3) (pa_cons pe_str pa_nil)))))
      pss_nil)
    (pss_one (ps_ret (pe_join pe_str (pe_revLK K (pv 3)))))))))), ?_⟩

  obtain ⟨hx, n, rfl, kb, kk⟩ := h
  refine ⟨_, rfl, _, rfl, hx, fun c => ?_, fun c => kb c⟩
  obtain ⟨bi, rfl, hb0, hb1⟩ := btw_of c
  obtain ⟨bn, rfl⟩ : ∃ bn : Nat, bi = bn := ⟨bi.toNat, by omega⟩
  obtain ⟨hn, q⟩ := kk bn rfl (by omega) (by omega)
  clear kb kk c
  have hb2 : 2 ≤ bn := by omega
  have hb3 : bn ≤ 36 := by omega
  walk_at "rd"
  have e0 : (if n < 0 then -n else n) = ((n.natAbs / bn ^ 0 : Nat) : Int) := by rw [Nat.pow_zero, Nat.div_one]; split <;> omega
  rw [e0]
  intro l hl
  have h0 : (if (0 : Nat) = 0 then 1 else 0) = 1 := rfl
  refine ⟨ShI bn n.natAbs n l H, ⟨_, 0, rfl, upd_same, Same.put (Same.refl H) hl, fun j h1 h2 => absurd h2 (Nat.not_lt_zero j), rfl⟩, ?_⟩
  rintro m σ H2 ⟨i, rfl, hL, sm, hj, rfl⟩
  have hpos : 0 < bn ^ i := Nat.pow_pos (by omega)
  have em : ((n.natAbs / bn ^ i : Nat) : Int) % (bn : Int) = ((n.natAbs / bn ^ i % bn : Nat) : Int) := (Int.natCast_emod _ _).symm
  have hdv : ((n.natAbs / bn ^ i : Nat) : Int) / (bn : Int) = ((n.natAbs / bn ^ (i + 1) : Nat) : Int) := by
    rw [Nat.pow_succ, ← Nat.div_div_eq_div_mul]
    exact (Int.natCast_ediv _ _).symm
  have hmod : n.natAbs / bn ^ i % bn < 36 := Nat.lt_of_lt_of_le (Nat.mod_lt _ (by omega)) hb3
  have hdg : atI DG.cps.toList (((n.natAbs / bn ^ i : Nat) : Int) % (bn : Int)) = some (dch (n.natAbs / bn ^ i % bn)) := by rw [em]; exact DG_at hmod
  have hi : i < 200 ∨ n.natAbs / bn ^ i = 0 := by
    by_cases c : n.natAbs / bn ^ i = 0
    · exact .inr c
    · refine .inl (pow_le_bound hb2 ?_ hn)
      have := Nat.div_pos_iff.mp (Nat.pos_of_ne_zero c)
      exact this.2
  refine ⟨_, rfl, _, _, rfl, rfl, _, rfl, ?_⟩
  refine iteD (fun c => ?_) (fun c => ?_)
  · have c' : 0 < n.natAbs / bn ^ i := by omega
    have hi2 : i < 200 := by omega
    have hle : bn ^ i ≤ n.natAbs := (Nat.div_pos_iff.mp c').2
    have hlt : n.natAbs / bn ^ (i + 1) + (if i + 1 = 0 then 1 else 0) < n.natAbs / bn ^ i + (if i = 0 then 1 else 0) := by
      rw [if_neg (Nat.succ_ne_zero i), Nat.pow_succ, ← Nat.div_div_eq_div_mul]
      have := Nat.div_lt_self c' hb2
      omega
    have hj' : ∀ j, 1 ≤ j → j < i + 1 → bn ^ j ≤ n.natAbs := fun j h1 h2 => by
      by_cases e : j = i
      · rw [e]; exact hle
      · exact hj j h1 (by omega)
    refine ⟨fun σ' H' => ∃ m', m' < n.natAbs / bn ^ i + (if i = 0 then 1 else 0) ∧ ShI bn n.natAbs n l H m' σ' H', fun _ _ h => h, ?_⟩
    refine ⟨_, rfl, Or.inl ⟨rfl, _, Or.inl (Or.inl hL)⟩, ?_⟩
    refine ⟨_, rfl, _, rfl, _, _, rfl, rfl, by omega, DG, _, dch (n.natAbs / bn ^ i % bn), rfl, rfl, DG_len, hdg, ?_⟩
    refine ⟨l, _, _, rfl, rfl, hL, by rw [List.length_map, ones_len, dgl_len, sizeLine_eq]; omega, ?_⟩
    rw [tx_one, ones_snoc, ← dgl_succ]
    refine ⟨_, rfl, _, rfl, _, _, rfl, rfl, ⟨by omega, by omega⟩, ?_⟩
    exact ⟨_, hlt, i + 1, by rw [← hdv]; rfl, upd_same, LSame sm hl, hj', rfl⟩
  · have c' : n.natAbs / bn ^ i = 0 := Nat.eq_zero_of_not_pos fun z => c (Int.natCast_pos.mpr z)
    by_cases hz : i = 0
    · subst hz
      have hlt : n.natAbs / bn ^ (0 + 1) + (if 0 + 1 = 0 then 1 else 0) < n.natAbs / bn ^ 0 + (if (0 : Nat) = 0 then 1 else 0) := by
        rw [if_neg (Nat.succ_ne_zero 0), h0, Nat.pow_succ, ← Nat.div_div_eq_div_mul, c', Nat.zero_div]
        omega
      have hj' : ∀ j, 1 ≤ j → j < 0 + 1 → bn ^ j ≤ n.natAbs := fun j h1 h2 => by omega
      refine ⟨_, rfl, false, .inl ⟨_, SqL.of hL, rfl⟩, ?_⟩
      refine ⟨fun σ' H' => ∃ m', m' < n.natAbs / bn ^ 0 + (if (0 : Nat) = 0 then 1 else 0) ∧ ShI bn n.natAbs n l H m' σ' H', fun _ _ h => h, ?_⟩
      refine ⟨_, rfl, Or.inl ⟨rfl, _, Or.inl (Or.inl hL)⟩, ?_⟩
      refine ⟨_, rfl, _, rfl, _, _, rfl, rfl, by omega, DG, _, dch (n.natAbs / bn ^ 0 % bn), rfl, rfl, DG_len, hdg, ?_⟩
      refine ⟨l, _, _, rfl, rfl, hL, by rw [List.length_map, ones_len, dgl_len, sizeLine_eq]; omega, ?_⟩
      rw [tx_one, ones_snoc, ← dgl_succ]
      refine ⟨_, rfl, _, rfl, _, _, rfl, rfl, ⟨by omega, by omega⟩, ?_⟩
      exact ⟨_, hlt, 0 + 1, by rw [← hdv]; rfl, upd_same, LSame sm hl, hj', rfl⟩
    · have hne : ((ones (dgl bn n.natAbs i)).map V.str).isEmpty = false := by
        rw [List.isEmpty_eq_false_iff]
        intro z
        have := congrArg List.length z
        rw [List.length_map, ones_len, dgl_len] at this
        exact hz this
      have hlt : n.natAbs < bn ^ i := by
        rcases Nat.lt_or_ge n.natAbs (bn ^ i) with h | h
        · exact h
        · have := Nat.div_pos h hpos
          omega
      have hi2 : i < 202 := by
        have : i - 1 < 200 ∨ i = 1 := by
          by_cases e : i = 1
          · exact .inr e
          · exact .inl (pow_le_bound hb2 (hj (i - 1) (by omega) (by omega)) hn)
        omega
      refine ⟨_, rfl, true, .inl ⟨_, SqL.of hL, by rw [hne]; rfl⟩, ?_⟩
      refine ⟨_, rfl, _, _, rfl, rfl, _, rfl, ?_⟩
      refine iteD (fun c2 => ?_) (fun c2 => ?_)
      · refine ⟨_, rfl, Or.inl ⟨rfl, _, Or.inl (Or.inl hL)⟩, ?_⟩
        refine ⟨l, _, _, rfl, rfl, hL, by rw [List.length_map, ones_len, dgl_len, sizeLine_eq]; omega, ?_⟩
        rw [show (Str.ofString "-") = tx [45] by decide +kernel, ones_snoc]
        refine ⟨⟨_, rfl⟩, _, rfl, l, _, rfl, SqL.of upd_same, fun p hp => ?_⟩
        refine ⟨"", p, ones (dgl bn n.natAbs i ++ [45]).reverse, rfl, rfl, .inl (SqL.of (by rw [← ones_rev]; exact upd_same)), by rw [sum_ones, ones_len, List.length_reverse, show (Str.length "") = 0 by decide +kernel]; rw [List.length_append, dgl_len]; simp only [List.length_cons, List.length_nil]; omega, ?_⟩
        rw [join_onesT]
        refine q _ _ ⟨i, by omega, hlt, hj, ?_⟩ ((LSame sm hl).trans (Same.put (Same.refl _) hp))
        unfold sgn
        rw [if_pos c2, List.reverse_append]
        rfl
      · refine ⟨⟨_, rfl⟩, _, rfl, l, _, rfl, SqL.of hL, fun p hp => ?_⟩
        refine ⟨"", p, ones (dgl bn n.natAbs i).reverse, rfl, rfl, .inl (SqL.of (by rw [← ones_rev]; exact upd_same)), by rw [sum_ones, ones_len, List.length_reverse, show (Str.length "") = 0 by decide +kernel]; rw [dgl_len]; omega, ?_⟩
        rw [join_onesT]
        refine q _ _ ⟨i, by omega, hlt, hj, ?_⟩ (sm.trans (Same.put (Same.refl _) hp))
        unfold sgn
        rw [if_neg c2]
        rfl

end
end K03
namespace K03
open PySem PySem.Spec PyProof.Rows L2 My
section
variable {P : Program} {w : World} {K : PySem.W.Frag} {mg : Str → Option Value} {base : Heap}

abbrev sp_value_of : Sp := Sp2 fun x y H Q E => ∃ (b : Int) (cs : List Nat), x = .int b ∧ 2 ≤ b ∧ b ≤ 36 ∧ y = .str (tx cs) ∧ (∀ c ∈ cs, c < 128) ∧ Q (ov (vOf b cs)) H

theorem ok_value_of (M : TX K mg) : FnOk P w K mg base (L2.CX P w) 1 M.f_value_of M.d_value_of ["base", "digits"] (sp_value_of) := by
  have sc := sc_value_of
  refine M.F_value_of.okX sc (fun vs H Q E h => Sp2_len h) (fun cdv A outer s H vs Q E hr h => ?_)
  obtain ⟨x0, x1, rfl, h⟩ := h
  have hu := hu_of hr
  have hu64 := hr.units
  refine ⟨_, (pss_cons (ps_if (pt_cmpR op_eq (pv 1) pe_str (nomark _))
      (pss_one (ps_ret pe_non))
      pss_nil)
    (pss_cons (ps_set (i := 2) sc.nd rfl (Or.inl rfl) pe_int)
    (pss_cons (ps_for (passes_of rfl) rfl (pi_str (pv 1)) (pg_name (i := 3) sc.nd rfl (Or.inl rfl))
      (pss_cons (ps_set (i := 4) sc.nd rfl (Or.inl rfl) (pe_bmK K (pe_bm PySem.F.plainAttrs_str PySem.F.slot_str_find PySem.F.type_str_find mt_find (pe_glob (v := .str DG) rfl M.g_DIGITS ⟨_, rfl⟩) (pa_cons (pv 3) pa_nil))))
      (pss_cons (ps_if (PW.pt (pw_or (pt_cmpR op_lt (pv 4) pe_int (nomark _)) (pw_or1 (pt_cmpR op_ge (pv 4) (pv 0) (nomark _)))))
        (pss_one (ps_ret pe_non))
        pss_nil)
      (pss_one (ps_set (i := 2) sc.nd rfl (Or.inl rfl) (pe_op op_add (pe_op op_mul (pv 2) (pv 0)) (pv 4)))))))
    (pss_one (ps_ret (pv 2)))))), ?_⟩

  obtain ⟨b, cs, rfl, hb0, hb1, rfl, hc, q⟩ := h
  refine ⟨_, rfl, rfl, _, rfl, ?_⟩
  by_cases e : cs = []
  · subst e
    refine iteDT (congrArg V.str tx_nil) ?_
    exact q
  · refine iteDF (fun z => e (tx_inj ((V.str.inj z).trans tx_nil.symm))) ?_
    have q' : Q (ov (vFold b cs 0)) H := by
      unfold vOf at q
      rw [if_neg e] at q
      exact q
    refine ⟨_, rfl, tx cs, rfl, ?_⟩
    refine for_it walk_str (fun i σ H2 => H2 = H ∧ ∃ v sg dg, σ = [some (.int b), some (.str (tx cs)), some (.int v), sg, dg] ∧ vFold b (cs.drop i) v = vFold b cs 0) ⟨rfl, 0, none, none, rfl, rfl⟩ (fun _ _ _ _ _ => trivial) ?_ ?_
    · rintro i x σ H2 H3 hi ⟨rfl, v, sg, dg, rfl, hv⟩ ⟨rfl, c, hcc, rfl⟩
      have hi' : i < cs.length := by
        have h := hi
        show i < cs.length
        rwa [show (tx cs).cps.size = cs.length from tx_len cs] at h
      have hc2 : cs[i] = c := by
        have h : cs.toArray[i]? = some c := hcc
        rw [List.getElem?_toArray, List.getElem?_eq_getElem hi'] at h
        exact Option.some.inj h
      have hd : cs.drop i = c :: cs.drop (i + 1) := by rw [List.drop_eq_getElem_cons hi', hc2]
      have hlt : c < 128 := hc c (by rw [← hc2]; exact List.getElem_mem hi')
      rw [hd] at hv
      have hv2 : (if fd c < 0 ∨ b ≤ fd c then none else vFold b (cs.drop (i + 1)) (v * b + fd c)) = vFold b cs 0 := hv
      have ef := find_dig hlt
      walk_at "rd"
      rw [ef]
      have none_i : (fd c < 0 ∨ b ≤ fd c) → Q .non H3 := fun z => by
        rw [if_pos z] at hv2
        rw [← hv2] at q'
        exact q'
      refine iteD (fun c1 => none_i (.inl c1)) (fun c1 => ?_)
      refine ⟨_, rfl, _, rfl, _, _, rfl, rfl, _, rfl, ?_⟩
      refine iteD (fun c2 => none_i (.inr c2)) (fun c2 => ?_)
      rw [if_neg (fun z => z.elim c1 c2)] at hv2
      refine ⟨_, rfl, _, rfl, _, _, rfl, rfl, .inr ⟨by omega, by omega⟩, _, rfl, _, _, rfl, rfl, ?_⟩
      exact ⟨rfl, _, _, _, rfl, hv2⟩
    · rintro σ H2 ⟨rfl, v, sg, dg, rfl, hv⟩
      rw [show (tx cs).cps.size = cs.length from tx_len cs, List.drop_length] at hv
      have hv2 : some v = vFold b cs 0 := hv
      rw [← hv2] at q'
      exact ⟨_, rfl, q'⟩

end
end K03
namespace K03
open PySem PySem.Spec PyProof.Rows L2 My
section
variable {P : Program} {w : World} {K : PySem.W.Frag} {mg : Str → Option Value} {base : Heap}

abbrev sp_read (M : TX K mg) : Sp := Sp3 fun x y z H Q E => Pl H x ∧ Pl H y ∧ ∃ cs : List Nat, z = .str (tx cs) ∧ (∀ c ∈ cs, c < 128) ∧ cs.length ≤ 1000 ∧ (isW x = false → Rz M.c_BadWidth "width" x H E) ∧
  ∀ w, x = .int w → Wd w → (btw y 2 36 = false → Rz M.c_BadBase "base" y H E) ∧ ∀ b, y = .int b → 2 ≤ b → b ≤ 36 → ∀ H', Same H H' → Q (ov (rdV w b cs)) H'
theorem btw_ofR {x : V} {lo hi : Int} (h : btw x lo hi = true) : ∃ i, x = .int i ∧ lo ≤ i ∧ i ≤ hi := by
  cases x <;> first | (cases h; done) | skip
  rename_i i
  unfold btw at h
  simp only [Bool.and_eq_true, decide_eq_true_eq] at h
  exact ⟨i, rfl, h.1, h.2⟩

theorem ok_read_number (M : TX K mg) : FnOk P w K mg base (L2.CX P w) 6 M.f_read_number M.d_read_number ["width", "base", "word"] (sp_read M) := by
  have sc := sc_read_number
  refine M.F_read_number.okX sc (fun vs H Q E h => Sp3_len h) (fun cdv A outer s H vs Q E hr h => ?_)
  obtain ⟨x0, x1, x2, rfl, h⟩ := h
  have hu := hu_of hr
  have hu64 := hr.units
  refine ⟨_, (pss_cons (ps_expr (pe_call (ok_check_width M) (hr.mono (by decide)) rfl M.g_check_width M.F_check_width.kp M.b_check_width .nil (passE rfl rfl rfl rfl) (pa_cons (pv 0) pa_nil)))
    (pss_cons (ps_expr (pe_call (ok_check_base M) (hr.mono (by decide)) rfl M.g_check_base M.F_check_base.kp M.b_check_base .nil (passE rfl rfl rfl rfl) (pa_cons (pv 1) pa_nil)))
    (pss_cons (ps_set (i := 3) sc.nd rfl (Or.inl rfl) (pv 2))
    (pss_cons (ps_if (PW.pt (pw_or (pt_val (pe_bmK K (pe_bm PySem.F.plainAttrs_str PySem.F.slot_str_startswith PySem.F.type_str_startswith mt_startswith (pv 3) (pa_cons pe_str pa_nil)))) (pw_or1 (pt_val (pe_bmK K (pe_bm PySem.F.plainAttrs_str PySem.F.slot_str_startswith PySem.F.type_str_startswith mt_startswith (pv 3) (pa_cons pe_str pa_nil)))))))
      (pss_cons (ps_set (i := 1) sc.nd rfl (Or.inl rfl) (pe_ifExp (pt_val (pe_bmK K (pe_bm PySem.F.plainAttrs_str PySem.F.slot_str_startswith PySem.F.type_str_startswith mt_startswith (pv 3) (pa_cons pe_str pa_nil)))) pe_int pe_int))
      (pss_one (ps_set (i := 3) sc.nd rfl (Or.inl rfl) (pe_slice sl_str (pv 3) (po_some pe_int) po_none))))
      pss_nil)
    (pss_cons (ps_set (i := 4) sc.nd rfl (Or.inl rfl) (pe_bmK K (pe_bm PySem.F.plainAttrs_str PySem.F.slot_str_startswith PySem.F.type_str_startswith mt_startswith (pv 3) (pa_cons pe_str pa_nil))))
    (pss_cons (ps_set (i := 5) sc.nd rfl (Or.inl rfl) (pe_call (ok_value_of M) (hr.mono (by decide)) rfl M.g_value_of M.F_value_of.kp M.b_value_of .nil (passE rfl rfl rfl rfl) (pa_cons (pv 1) (pa_cons (pe_ifExp (pt_val (pv 4)) (pe_slice sl_str (pv 3) (po_some pe_int) po_none) (pv 3)) pa_nil))))
    (pss_cons (ps_if (pt_cmpR op_isN (pv 5) pe_non (nomark _))
      (pss_one (ps_ret pe_non))
      pss_nil)
    (pss_cons (ps_set (i := 5) sc.nd rfl (Or.inl rfl) (pe_ifExp (pt_val (pv 4)) (pe_un un_neg (pv 5)) (pv 5)))
    (pss_cons (ps_set (i := 6) sc.nd rfl (Or.inl rfl) (pe_call (ok_half M) (hr.mono (by decide)) rfl M.g_half M.F_half.kp M.b_half .nil (passE rfl rfl rfl rfl) (pa_cons (pv 0) pa_nil)))
    (pss_one (ps_ret (pe_ifExp (pt_chain op_le op_lt (pe_un un_neg (pv 6)) (pv 5) (pe_op op_mul pe_int (pv 6))) (pe_call (ok_wrap M) (hr.mono (by decide)) rfl M.g_wrap M.F_wrap.kp M.b_wrap .nil (passE rfl rfl rfl rfl) (pa_cons (pv 0) (pa_cons (pv 5) pa_nil))) pe_non)))))))))))), ?_⟩

  obtain ⟨hx, hy, cs, rfl, hc, hl, kw, kk⟩ := h
  refine ⟨_, rfl, _, rfl, hx, fun c => ?_, fun c => kw c⟩
  obtain ⟨w, rfl, hw⟩ := isW_of c
  obtain ⟨kb, q⟩ := kk w rfl hw
  clear kk c kw
  refine ⟨_, rfl, _, rfl, hy, fun c => ?_, fun c => kb c⟩
  obtain ⟨b, rfl, hb0, hb1⟩ := btw_ofR c
  have q := q b rfl hb0 hb1
  clear kb c
  have hq := hf_pos hw
  have e36 : Str.ofString "$" = tx [36] := by decide +kernel
  have e35 : Str.ofString "#" = tx [35] := by decide +kernel
  have e45 : Str.ofString "-" = tx [45] := by decide +kernel
  refine ⟨_, rfl, ?_⟩
  refine seq_gen fun R0 hR0 => ?_
  refine hR0 _ _ ?_
  clear hR0 R0
  refine seq_gen fun RR hRR => ?_
  have key : ∀ (b' : Int) (cs' : List Nat), 2 ≤ b' → b' ≤ 36 → (∀ c ∈ cs', c < 128) → cs'.length ≤ 1000 → (∀ H', Same H H' → Q (ov (rdN w b' cs')) H') →
      RR [some (.int w), some (.int b'), some (.str (tx cs)), some (.str (tx cs')), none, none, none] H := by
    intro b' cs' h0 h1 h2 h3 h4
    refine hRR _ _ ?_
    clear hRR q
    walk_at "rd"
    rw [e45, starts_one]
    by_cases hm : cs'.head? = some 45
    · rw [decide_eq_true hm]
      refine ⟨_, rfl, _, rfl, tx cs', rfl, by rw [tx_len, sizeLine_eq]; omega, ?_⟩
      rw [cut_tail]
      refine ⟨_, _, rfl, b', cs'.drop 1, rfl, h0, h1, rfl, fun c hc => h2 c (List.mem_of_mem_drop hc), ?_⟩
      unfold rdN at h4
      rw [if_pos hm, decide_eq_true hm] at h4
      cases e : vOf b' (cs'.drop 1) with
      | none =>
        rw [e] at h4
        refine ⟨_, rfl, rfl, _, rfl, ?_⟩
        refine iteDT rfl ?_
        exact h4 H (Same.refl H)
      | some v =>
        rw [e] at h4
        refine ⟨_, rfl, rfl, _, rfl, ?_⟩
        refine iteDF (fun z => by cases z) ?_
        walk_at "rd"
        refine ⟨fun w' ew hw' => ?_, fun c => by rw [isW_int hw] at c; cases c⟩
        cases ew
        have no : ¬ (-(hf w) ≤ -v ∧ -v < 2 * hf w) → Q .non H := fun z => by
          have h5 : fin w true (some v) = none := if_neg z
          rw [h5] at h4
          exact h4 H (Same.refl H)
        walk_at "rd"
        refine iteD (fun c1 => ?_) (fun c1 => ?_)
        · walk_at "rd"
          refine iteD (fun c2 => ?_) (fun c2 => ?_)
          · have h5 : fin w true (some v) = some (wrapI w (-v)) := if_pos ⟨c1, c2⟩
            rw [h5] at h4
            walk_at "rd"
            exact ⟨fun w' ew hw' => by cases ew; exact h4 H (Same.refl H), fun c => by rw [isW_int hw] at c; cases c⟩
          · exact no fun z => c2 z.2
        · exact ⟨_, rfl, no fun z => c1 z.1⟩
    · rw [decide_eq_false hm]
      refine ⟨_, rfl, ?_⟩
      refine ⟨_, _, rfl, b', cs', rfl, h0, h1, rfl, h2, ?_⟩
      unfold rdN at h4
      rw [if_neg hm, decide_eq_false hm] at h4
      cases e : vOf b' cs' with
      | none =>
        rw [e] at h4
        refine ⟨_, rfl, rfl, _, rfl, ?_⟩
        refine iteDT rfl ?_
        exact h4 H (Same.refl H)
      | some v =>
        rw [e] at h4
        refine ⟨_, rfl, rfl, _, rfl, ?_⟩
        refine iteDF (fun z => by cases z) ?_
        walk_at "rd"
        refine ⟨fun w' ew hw' => ?_, fun c => by rw [isW_int hw] at c; cases c⟩
        cases ew
        have no : ¬ (-(hf w) ≤ v ∧ v < 2 * hf w) → Q .non H := fun z => by
          have h5 : fin w false (some v) = none := if_neg z
          rw [h5] at h4
          exact h4 H (Same.refl H)
        walk_at "rd"
        refine iteD (fun c1 => ?_) (fun c1 => ?_)
        · walk_at "rd"
          refine iteD (fun c2 => ?_) (fun c2 => ?_)
          · have h5 : fin w false (some v) = some (wrapI w (v)) := if_pos ⟨c1, c2⟩
            rw [h5] at h4
            walk_at "rd"
            exact ⟨fun w' ew hw' => by cases ew; exact h4 H (Same.refl H), fun c => by rw [isW_int hw] at c; cases c⟩
          · exact no fun z => c2 z.2
        · exact ⟨_, rfl, no fun z => c1 z.1⟩
  walk_at "rd"
  rw [e36, starts_one]
  have q2 : ∀ H', Same H H' → Q (ov (rdN w (pre b cs).1 (pre b cs).2)) H' := q
  by_cases h1 : cs.head? = some 36
  · have ep : pre b cs = (16, cs.drop 1) := if_pos h1
    rw [ep] at q2
    rw [decide_eq_true h1]
    walk_at "rd"
    rw [starts_one, decide_eq_true h1]
    refine ⟨_, rfl, _, rfl, tx cs, rfl, by rw [tx_len, sizeLine_eq]; omega, ?_⟩
    rw [cut_tail]
    exact key 16 (cs.drop 1) (by decide) (by decide) (fun c h => hc c (List.mem_of_mem_drop h)) (by rw [List.length_drop]; omega) q2
  · rw [decide_eq_false h1]
    walk_at "rd"
    rw [e35, starts_one]
    by_cases h2 : cs.head? = some 35
    · have ep : pre b cs = (10, cs.drop 1) := by unfold pre; rw [if_neg h1, if_pos h2]
      rw [ep] at q2
      rw [decide_eq_true h2]
      walk_at "rd"
      rw [starts_one, decide_eq_false h1]
      refine ⟨_, rfl, _, rfl, tx cs, rfl, by rw [tx_len, sizeLine_eq]; omega, ?_⟩
      rw [cut_tail]
      exact key 10 (cs.drop 1) (by decide) (by decide) (fun c h => hc c (List.mem_of_mem_drop h)) (by rw [List.length_drop]; omega) q2
    · have ep : pre b cs = (b, cs) := by unfold pre; rw [if_neg h1, if_neg h2]
      rw [ep] at q2
      rw [decide_eq_false h2]
      exact key b cs hb0 hb1 hc hl q2

end
end K03
namespace K03
open PySem PySem.Spec PyProof.Rows L2 My
section
variable {P : Program} {w : World} {K : PySem.W.Frag} {mg : Str → Option Value} {base : Heap}

abbrev spShown : Sp := Sp2 fun x y H Q _ => ∃ (bn : Nat) (n : Int), x = .int bn ∧ y = .int n ∧ 2 ≤ bn ∧ bn ≤ 36 ∧ n.natAbs < 2 ^ 140 ∧ ∀ s, IsSh bn n s → Q (.str s) H

theorem ok__law_shown (M : TX K mg) : FnOk P w K mg base (L2.CX P w) 1 M.f__law_shown M.d__law_shown ["_law_base", "_law_number"] (spShown) := by
  have sc := sc__law_shown
  refine M.F__law_shown.okX sc (fun vs H Q E h => Sp2_len h) (fun cdv A outer s H vs Q E hr h => ?_)
  obtain ⟨x0, x1, rfl, h⟩ := h
  have hu := hu_of hr
  have hu64 := hr.units
  refine ⟨_, (pss_cons (ps_set (i := 2) sc.nd rfl (Or.inl rfl) pe_str)
    (pss_cons (ps_set (i := 3) sc.nd rfl (Or.inl rfl) (pe_callB call_abs (by rfl) M.n_abs (by decide +kernel) (pa_cons (pv 1) pa_nil)))
    (pss_cons (ps_set (i := 4) sc.nd rfl (Or.inl rfl) (pe_ix ix_str (pv 2) (pe_op op_mod (pe_callTy call_int1 (by rfl) M.n_int (by decide +kernel) (pa_cons (pv 3) pa_nil)) (pv 0)) (fun _ _ => rfl)))
    (pss_cons (ps_for (passes_of rfl) rfl (pi_range1 rfl M.n_range (pa_cons pe_int pa_nil)) (pg_name (i := 5) sc.nd rfl (Or.inl rfl))
      (pss_cons (ps_set (i := 3) sc.nd rfl (Or.inl rfl) (pe_op op_fdiv (pv 3) (pv 0)))
      (pss_cons (ps_if (pt_cmpR op_eq (pv 3) pe_int (nomark _))
        (pss_one ps_break)
        pss_nil)
      (pss_one (ps_set (i := 4) sc.nd rfl (Or.inl rfl) (pe_op op_add_str (pe_ix ix_str (pv 2) (pe_op op_mod (pe_callTy call_int1 (by rfl) M.n_int (by decide +kernel) (pa_cons (pv 3) pa_nil)) (pv 0)) (fun _ _ => rfl)) (pv 4)))))))
    (pss_one (ps_ret (pe_ifExp (pt_cmpR op_lt (pv 1) pe_int (nomark _)) (pe_op op_add_str pe_str (pv 4)) (pv 4)))))))), ?_⟩

  obtain ⟨bn, n, rfl, rfl, hb2, hb3, hn, q⟩ := h
  have eD : Str.ofString "0123456789abcdefghijklmnopqrstuvwxyz" = DG := rfl
  have hdg : ∀ i, atI DG.cps.toList (((n.natAbs / bn ^ i : Nat) : Int) % (bn : Int)) = some (dch (n.natAbs / bn ^ i % bn)) := fun i => by
    rw [show ((n.natAbs / bn ^ i : Nat) : Int) % (bn : Int) = ((n.natAbs / bn ^ i % bn : Nat) : Int) from (Int.natCast_emod _ _).symm]
    exact DG_at (Nat.lt_of_lt_of_le (Nat.mod_lt _ (by omega)) hb3)
  have hdv : ∀ i, ((n.natAbs / bn ^ i : Nat) : Int) / (bn : Int) = ((n.natAbs / bn ^ (i + 1) : Nat) : Int) := fun i => by
    rw [Nat.pow_succ, ← Nat.div_div_eq_div_mul]
    exact (Int.natCast_ediv _ _).symm
  have e0 : (if n < 0 then -n else n) = ((n.natAbs / bn ^ 0 : Nat) : Int) := by rw [Nat.pow_zero, Nat.div_one]; split <;> omega
  walk_at "rd"
  rw [e0, eD]
  refine ⟨DG, _, dch (n.natAbs / bn ^ 0 % bn), rfl, rfl, DG_len, hdg 0, ?_⟩
  refine ⟨140, rfl, by decide, by decide, ?_⟩
  refine for_range (lo := 0) (n := 140) (fun i σ H2 => H2 = H ∧ ∃ v, σ = [some (.int bn), some (.int n), some (.str DG), some (.int ((n.natAbs / bn ^ i : Nat) : Int)), some (.str (tx (dgl bn n.natAbs (i + 1)).reverse)), v] ∧ ∀ j, 1 ≤ j → j ≤ i → bn ^ j ≤ n.natAbs) ⟨rfl, none, ?_, fun j h1 h2 => by omega⟩ ?_ ?_
  · rfl
  · rintro i σ H2 hi ⟨rfl, v, rfl, hj⟩
    have hpos : 0 < bn ^ (i + 1) := Nat.pow_pos (by omega)
    refine ⟨_, rfl, _, rfl, _, _, rfl, rfl, ⟨by omega, by omega⟩, ?_⟩
    refine ⟨_, rfl, rfl, _, rfl, ?_⟩
    have hj2 : n.natAbs / bn ^ (i + 1) ≠ 0 → bn ^ (i + 1) ≤ n.natAbs := fun z => (Nat.div_pos_iff.mp (Nat.pos_of_ne_zero z)).2
    refine iteD (fun c => ?_) (fun c => ?_)
    · have c' : n.natAbs / bn ^ (i + 1) = 0 := Int.natCast_eq_zero.mp ((hdv i).symm.trans (V.int.inj c))
      have hlt : n.natAbs < bn ^ (i + 1) := by
        rcases Nat.lt_or_ge n.natAbs (bn ^ (i + 1)) with h | h
        · exact h
        · have := Nat.div_pos h hpos
          omega
      have sh : IsSh bn n (tx (sgn n ++ (dgl bn n.natAbs (i + 1)).reverse)) := ⟨i + 1, by omega, hlt, fun j h1 h2 => hj j h1 (by omega), rfl⟩
      have q' := q _ sh
      refine ⟨_, rfl, _, _, rfl, rfl, _, rfl, ?_⟩
      refine iteD (fun c2 => ?_) (fun c2 => ?_)
      · refine ⟨_, rfl, _, _, rfl, rfl, by rw [tx_len, List.length_reverse, dgl_len, show (Str.length (Str.ofString "-")) = 1 by decide +kernel, sizeLine_eq]; omega, ?_⟩
        rw [show Str.ofString "-" = tx [45] by decide +kernel, tx_app]
        unfold sgn at q'
        rw [if_pos c2] at q'
        exact q'
      · unfold sgn at q'
        rw [if_neg c2] at q'
        exact ⟨_, rfl, q'⟩
    · have c' : n.natAbs / bn ^ (i + 1) ≠ 0 := fun z => c (congrArg V.int ((hdv i).trans (by rw [z]; rfl)))
      refine ⟨_, rfl, _, rfl, .inl ⟨_, rfl, ?_⟩⟩
      refine ⟨_, rfl, _, _, rfl, rfl, by omega, DG, _, dch (n.natAbs / bn ^ (i + 1) % bn), rfl, rfl, DG_len, by rw [hdv i]; exact hdg (i + 1), ?_⟩
      refine ⟨_, rfl, _, _, rfl, rfl, by rw [tx_one, tx_len, tx_len, List.length_reverse, dgl_len, List.length_singleton, sizeLine_eq]; omega, ?_⟩
      rw [tx_one, tx_app]
      refine ⟨rfl, some (.int (0 + i)), ?_, fun j h1 h2 => ?_⟩
      · rw [dgl_succ bn n.natAbs (i + 1), List.reverse_append, ← hdv i]
        rfl
      · by_cases e : j = i + 1
        · rw [e]; exact hj2 c'
        · exact hj j h1 (by omega)
  · rintro σ H2 ⟨rfl, v, rfl, hj⟩
    exfalso
    have h1 := hj 140 (by decide) (Nat.le_refl _)
    have h2 : 2 ^ 140 ≤ bn ^ 140 := Nat.pow_le_pow_left hb2 140
    omega

end
end K03
namespace K03
open PySem PySem.Spec PyProof.Rows L2 My
section
variable {P : Program} {w : World} {K : PySem.W.Frag} {mg : Str → Option Value} {base : Heap}

abbrev spLValue : Sp := Sp2 fun x y H Q _ => ∃ (b : Int) (p : Addr) (ns : List Int), x = .int b ∧ 2 ≤ b ∧ b ≤ 36 ∧ y = .ref p ∧ H p = some (.lst (ns.map V.int)) ∧ Q (.int (lval b ns 0)) H

theorem ok__law_value (M : TX K mg) : FnOk P w K mg base (L2.CX P w) 1 M.f__law_value M.d__law_value ["_law_base", "_law_row"] (spLValue) := by
  have sc := sc__law_value
  refine M.F__law_value.okX sc (fun vs H Q E h => Sp2_len h) (fun cdv A outer s H vs Q E hr h => ?_)
  obtain ⟨x0, x1, rfl, h⟩ := h
  have hu := hu_of hr
  have hu64 := hr.units
  refine ⟨_, (pss_cons (ps_set (i := 2) sc.nd rfl (Or.inl rfl) pe_int)
    (pss_cons (ps_for (passes_of rfl) rfl (pi_listK K (pi_list (pv 1))) (pg_name (i := 3) sc.nd rfl (Or.inl rfl))
      (pss_one (ps_set (i := 2) sc.nd rfl (Or.inl rfl) (pe_op op_add (pe_op op_mul (pv 2) (pv 0)) (pv 3)))))
    (pss_one (ps_ret (pv 2))))), ?_⟩

  obtain ⟨b, p, ns, rfl, hb0, hb1, rfl, hp, q⟩ := h
  refine ⟨_, rfl, p, rfl, ⟨_, SqL.of hp⟩, ?_⟩
  refine for_list (K := K) (a := p) (xs := ns.map V.int) (fun i σ H2 => H2 = H ∧ ∃ v sg, σ = [some (.int b), some (.ref p), some (.int v), sg] ∧ lval b (ns.drop i) v = lval b ns 0) ⟨rfl, 0, none, rfl, rfl⟩ (fun i σ H2 _ h => by rw [h.1]; exact SqL.of hp) ?_ ?_
  · rintro i x σ H2 hi ⟨rfl, v, sg, rfl, hv⟩
    obtain ⟨z, hz, rfl⟩ := map_get hi
    obtain ⟨hlt, hg⟩ := List.getElem?_eq_some_iff.mp hz
    refine ⟨_, rfl, _, rfl, _, _, rfl, rfl, .inr ⟨by omega, by omega⟩, _, rfl, _, _, rfl, rfl, ?_⟩
    refine ⟨rfl, _, _, rfl, ?_⟩
    rw [List.drop_eq_getElem_cons hlt, hg] at hv
    exact hv
  · rintro σ H2 ⟨rfl, v, sg, rfl, hv⟩
    rw [List.length_map, List.drop_length] at hv
    have hv2 : v = lval b ns 0 := hv
    rw [← hv2] at q
    exact ⟨_, rfl, q⟩


abbrev spGreat : Sp := Sp1 fun x H Q _ => ∃ (b : Addr), x = .ref b ∧ BagAt H b ∧ ∀ (n : Int) (H' : Hp), n.natAbs < 2 ^ 140 → BagAt H' b → Kp b H H' → Q (.int n) H'

theorem ok__law_great (M : TX K mg) : FnOk P w K mg base (L2.CX P w) 2 M.f__law_great M.d__law_great ["_law_bag_here"] (spGreat) := by
  have sc := sc__law_great
  refine M.F__law_great.okX sc (fun vs H Q E h => Sp1_len h) (fun cdv A outer s H vs Q E hr h => ?_)
  obtain ⟨x0, rfl, h⟩ := h
  have hu := hu_of hr
  have hu64 := hr.units
  refine ⟨_, (pss_cons (ps_set (i := 1) sc.nd rfl (Or.inl rfl) pe_int)
    (pss_cons (ps_for (passes_of rfl) rfl (pi_range1 rfl M.n_range (pa_cons (pe_op op_add pe_int (pe_call (ok__law_pick M) (hr.mono (by decide)) rfl M.g__law_pick M.F__law_pick.kp M.b__law_pick .nil (passE rfl rfl rfl rfl) (pa_cons (pv 0) (pa_cons pe_int pa_nil)))) pa_nil)) (pg_name (i := 2) sc.nd rfl (Or.inl rfl))
      (pss_one (ps_set (i := 1) sc.nd rfl (Or.inl rfl) (pe_op op_add (pe_op op_mul (pv 1) pe_int) (pe_call (ok__law_pick M) (hr.mono (by decide)) rfl M.g__law_pick M.F__law_pick.kp M.b__law_pick .nil (passE rfl rfl rfl rfl) (pa_cons (pv 0) (pa_cons pe_int pa_nil)))))))
    (pss_cons (ps_if (pt_cmpR op_eq (pe_call (ok__law_pick M) (hr.mono (by decide)) rfl M.g__law_pick M.F__law_pick.kp M.b__law_pick .nil (passE rfl rfl rfl rfl) (pa_cons (pv 0) (pa_cons pe_int pa_nil))) pe_int (nomark _))
      (pss_one (ps_ret (pe_un un_neg (pv 1))))
      pss_nil)
    (pss_one (ps_ret (pv 1)))))), ?_⟩

  obtain ⟨b, rfl, B, q⟩ := h
  walk_at "rd"
  intro v2 H2 p2 p2' B2 k2
  walk_at "rd"
  refine for_range (lo := 0) (n := (1 + v2).toNat) (fun i σ H3 => ∃ (v : Option V) (n : Int), σ = [some (.ref b), some (.int n), v] ∧ 0 ≤ n ∧ n.toNat < 1000 ^ i ∧ BagAt H3 b ∧ Kp b H H3) ⟨none, 0, rfl, Int.le_refl 0, by decide, B2, k2⟩ ?_ ?_
  · rintro i σ H3 hi ⟨v, n, rfl, hn0, hn1, B3, k3⟩
    walk_at "rd"
    intro v4 H4 p4 p4' B4 k4
    refine ⟨_, _, rfl, rfl, some (.int (0 + i)), _, rfl, by omega, ?_, B4, k3.trans k4⟩
    rw [Nat.pow_succ]
    omega
  · rintro σ H3 ⟨v, n, rfl, hn0, hn1, B3, k3⟩
    have hb : n.natAbs < 2 ^ 140 := by
      have h1 : 1000 ^ (1 + v2).toNat ≤ 1000 ^ 13 := Nat.pow_le_pow_right (by decide) (by omega)
      have h2 : (1000 : Nat) ^ 13 < 2 ^ 140 := by decide
      omega
    walk_at "rd"
    intro v4 H4 p4 p4' B4 k4
    walk_at "rd"
    refine iteD (fun c2 => ?_) (fun c2 => ?_)
    · walk_at "rd"
      exact q _ H4 (by omega) B4 (k3.trans k4)
    · walk_at "rd"
      exact q _ H4 hb B4 (k3.trans k4)


abbrev spVDue : Sp := Sp2 fun x y H Q _ => ∃ (w v : Int), x = .int w ∧ y = .int v ∧ Wd w ∧ ∀ H', Same H H' → Q (ov (due w v)) H'

theorem ok__law_value_due (M : TX K mg) : FnOk P w K mg base (L2.CX P w) 3 M.f__law_value_due M.d__law_value_due ["_law_width", "_law_value_here"] (spVDue) := by
  have sc := sc__law_value_due
  refine M.F__law_value_due.okX sc (fun vs H Q E h => Sp2_len h) (fun cdv A outer s H vs Q E hr h => ?_)
  obtain ⟨x0, x1, rfl, h⟩ := h
  have hu := hu_of hr
  have hu64 := hr.units
  refine ⟨_, (pss_cons (ps_set (i := 2) sc.nd rfl (Or.inl rfl) (pe_call (ok__law_half M) (hr.mono (by decide)) rfl M.g__law_half M.F__law_half.kp M.b__law_half .nil (passE rfl rfl rfl rfl) (pa_cons (pv 0) pa_nil)))
    (pss_cons (ps_if (PW.pt (pw_or (pt_cmpR op_lt (pv 1) (pe_un un_neg (pv 2)) (nomark _)) (pw_or1 (pt_cmpR op_gt (pv 1) (pe_op op_sub (pe_op op_mul pe_int (pv 2)) pe_int) (nomark _)))))
      (pss_one (ps_ret pe_non))
      pss_nil)
    (pss_one (ps_ret (pe_call (ok__law_wrap M) (hr.mono (by decide)) rfl M.g__law_wrap M.F__law_wrap.kp M.b__law_wrap .nil (passE rfl rfl rfl rfl) (pa_cons (pv 0) (pa_cons (pv 1) pa_nil))))))), ?_⟩

  obtain ⟨w, v, rfl, rfl, hw, q⟩ := h
  have hq := hf_pos hw
  walk_at "rd"
  intro H1 s1
  have no : (v < -(hf w) ∨ 2 * hf w - 1 < v) → Q .non H1 := fun z => by
    have q' := q H1 s1
    unfold due at q'
    rw [if_pos z] at q'
    exact q'
  walk_at "rd"
  refine iteD (fun c => no (.inl c)) (fun c => ?_)
  walk_at "rd"
  refine iteD (fun c2 => no (.inr c2)) (fun c2 => ?_)
  walk_at "rd"
  intro H2 s2
  have q' := q H2 (s1.trans s2)
  unfold due at q'
  rw [if_neg (fun z => z.elim c c2)] at q'
  exact q'


theorem bag_app {H : Hp} {b l : Addr} {ns : List Int} {z : Int} (B : BagAt H b) (h : H l = some (.lst (ns.map V.int))) (nl : l ≠ b) (hn : ns.length < 63) : BagAt (upd H l (.lst ((ns ++ [z]).map V.int))) b := by
  obtain ⟨c, ms, a, r, s, n, h1, h2, h3, h4⟩ := B.ex
  by_cases e : c = l
  · subst e
    exact ⟨⟨c, ns ++ [z], a, r, s, n, by rw [upd_ne nl.symm]; exact h1, upd_same, h3, by rw [List.length_append]; exact hn⟩⟩
  · exact ⟨⟨c, ms, a, r, s, n, by rw [upd_ne nl.symm]; exact h1, by rw [upd_ne e]; exact h2, h3, h4⟩⟩
abbrev spDigits : Sp := Sp3 fun x y z H Q _ => ∃ (b : Addr) (bi m : Int), x = .ref b ∧ y = .int bi ∧ z = .int m ∧ 2 ≤ bi ∧ bi ≤ 36 ∧ 0 ≤ m ∧ m ≤ 40 ∧ BagAt H b ∧ ∀ (l : Addr) (ns : List Int) (H' : Hp), ns.length = m.toNat → (∀ n ∈ ns, 0 ≤ n ∧ n < bi) → H' l = some (.lst (ns.map V.int)) → l ≠ b → H l = none → BagAt H' b → Kp b H H' → Q (.ref l) H'

theorem ok__law_digits (M : TX K mg) : FnOk P w K mg base (L2.CX P w) 3 M.f__law_digits M.d__law_digits ["_law_bag_here", "_law_base", "_law_many"] (spDigits) := by
  have sc := sc__law_digits
  refine M.F__law_digits.okX sc (fun vs H Q E h => Sp3_len h) (fun cdv A outer s H vs Q E hr h => ?_)
  obtain ⟨x0, x1, x2, rfl, h⟩ := h
  have hu := hu_of hr
  have hu64 := hr.units
  refine ⟨_, (pss_cons (ps_set (i := 3) sc.nd rfl (Or.inl rfl) (pe_lst pa_nil))
    (pss_cons (ps_for (passes_of rfl) rfl (pi_range1 rfl M.n_range (pa_cons (pv 2) pa_nil)) (pg_name (i := 4) sc.nd rfl (Or.inl rfl))
      (pss_one (ps_expr (pe_bmK K (pe_bm PySem.F.plainAttrs_list PySem.F.slot_list_append PySem.F.type_list_append mt_append (pv 3) (pa_cons (pe_call (ok__law_choice M) (hr.mono (by decide)) rfl M.g__law_choice M.F__law_choice.kp M.b__law_choice .nil (passE rfl rfl rfl rfl) (pa_cons (pv 0) (pa_cons (pe_lst (pa_cons pe_int (pa_cons pe_int (pa_cons (pe_op op_sub (pv 1) pe_int) (pa_cons (pe_call (ok__law_pick M) (hr.mono (by decide)) rfl M.g__law_pick M.F__law_pick.kp M.b__law_pick .nil (passE rfl rfl rfl rfl) (pa_cons (pv 0) (pa_cons (pv 1) pa_nil))) (pa_cons (pe_call (ok__law_pick M) (hr.mono (by decide)) rfl M.g__law_pick M.F__law_pick.kp M.b__law_pick .nil (passE rfl rfl rfl rfl) (pa_cons (pv 0) (pa_cons (pv 1) pa_nil))) pa_nil)))))) pa_nil))) pa_nil))))))
    (pss_one (ps_ret (pv 3))))), ?_⟩

  obtain ⟨b, bi, m, rfl, rfl, rfl, hb0, hb1, hm0, hm1, B, q⟩ := h
  obtain ⟨ob, hob⟩ := B.some
  walk_at "rd"
  intro l hl
  have nlb : l ≠ b := (ne_of_none hob hl).symm
  walk_at "rd"
  refine for_range (lo := 0) (n := m.toNat) (fun i σ H2 => ∃ (v : Option V) (ns : List Int), σ = [some (.ref b), some (.int bi), some (.int m), some (.ref l), v] ∧ ns.length = i ∧ (∀ n ∈ ns, 0 ≤ n ∧ n < bi) ∧ H2 l = some (.lst (ns.map V.int)) ∧ BagAt H2 b ∧ Kp b H H2) ⟨none, [], rfl, rfl, fun n hn => (by cases hn), upd_same, B.put hl, fun p o _ e => Same.put (Same.refl H) hl p o e⟩ ?_ ?_
  · rintro i σ H2 hi ⟨v, ns, rfl, en, hb, hr2, B2, k2⟩
    refine ⟨_, rfl, Or.inl ⟨rfl, _, Or.inl (Or.inl hr2)⟩, ?_⟩
    walk_at "rd"
    intro v1 H3 p1 p1' B3 k3
    walk_at "rd"
    intro v2 H4 p2 p2' B4 k4
    refine ⟨Nat.le_of_ble_eq_true rfl, fun t ht => ?_⟩
    obtain ⟨ob4, hob4⟩ := B4.some
    have hr4 : H4 l = some (.lst (ns.map V.int)) := k4 _ _ nlb (k3 _ _ nlb hr2)
    have sT : Same H4 (upd H4 t (.lst [V.int 0, V.int 1, V.int (bi - 1), V.int v1, V.int v2])) := Same.put (Same.refl _) ht
    refine ⟨_, _, rfl, b, t, [V.int 0, V.int 1, V.int (bi - 1), V.int v1, V.int v2], rfl, rfl, upd_same, Nat.le_of_ble_eq_true rfl, Nat.le_of_ble_eq_true rfl, (ne_of_none hob4 ht).symm, B4.put ht, fun j v5 H5 hj B5 k5 => ?_⟩
    obtain ⟨z, rfl, hz⟩ : ∃ z : Int, v5 = V.int z ∧ 0 ≤ z ∧ z < bi := by
      have m := List.mem_of_getElem? hj
      simp only [List.mem_cons, List.not_mem_nil, or_false] at m
      rcases m with rfl | rfl | rfl | rfl | rfl
      · exact ⟨_, rfl, by omega⟩
      · exact ⟨_, rfl, by omega⟩
      · exact ⟨_, rfl, by omega⟩
      · exact ⟨_, rfl, p1, p1'⟩
      · exact ⟨_, rfl, p2, p2'⟩
    have hr5 := k5 _ _ nlb (sT _ _ hr4)
    have hsz : (ns.map V.int).length < sizeLine := by rw [List.length_map, sizeLine_eq]; omega
    refine ⟨l, ns.map V.int, .int z, rfl, rfl, hr5, hsz, ?_⟩
    have e1 : ns.map V.int ++ [V.int z] = (ns ++ [z]).map V.int := by rw [List.map_append]; rfl
    rw [e1]
    refine ⟨some (.int (0 + i)), ns ++ [z], rfl, by rw [List.length_append, en]; rfl, fun n hn => ?_, upd_same, bag_app B5 hr5 nlb (by omega), fun p o hp ho => ?_⟩
    · rcases List.mem_append.mp hn with hn | hn
      · exact hb n hn
      · rw [List.mem_singleton.mp hn]
        exact hz
    · rw [upd_ne (ne_of_none ho hl)]
      exact k5 _ _ hp (sT _ _ (k4 _ _ hp (k3 _ _ hp (k2 _ _ hp ho))))
  · rintro σ H2 ⟨v, ns, rfl, en, hb, hr2, B2, k2⟩
    exact ⟨_, rfl, q l ns H2 en hb hr2 nlb hl B2 k2⟩

end
end K03
namespace K03
open PySem PySem.Spec PyProof.Rows L2 My
section
variable {P : Program} {w : World} {K : PySem.W.Frag} {mg : Str → Option Value} {base : Heap}

abbrev spSpelled : Sp := Sp1 fun x H Q _ => ∃ (p : Addr) (ns : List Nat), x = .ref p ∧ H p = some (.lst (ns.map fun n : Nat => V.int n)) ∧ (∀ n ∈ ns, n < 36) ∧ ns.length ≤ 1000 ∧ ∀ H', Same H H' → Q (.str (tx (ns.map dch))) H'

theorem ok__law_spelled (M : TX K mg) : FnOk P w K mg base (L2.CX P w) 1 M.f__law_spelled M.d__law_spelled ["_law_row"] (spSpelled) := by
  have sc := sc__law_spelled
  refine M.F__law_spelled.okX sc (fun vs H Q E h => Sp1_len h) (fun cdv A outer s H vs Q E hr h => ?_)
  obtain ⟨x0, rfl, h⟩ := h
  have hu := hu_of hr
  have hu64 := hr.units
  refine ⟨_, (pss_cons (ps_set (i := 1) sc.nd rfl (Or.inr rfl) pe_str)
    (pss_one (ps_ret (pe_join pe_str (pe_lc (own := [("_law_digit", 2)]) (g := gName 2) (tt := tYes) (by rfl) sc.nd (pi_listK K (pi_list (pv 0))) (blkOk_by (own := [("_law_digit", 2)]) (N := ["_law_row", "_law_digits_here", "_law_digit"]) (sc := defScope s__law_spelled) (by decide +kernel)) (fun _ _ _ _ _ => pg_name (i := 2) sc.nd rfl (Or.inl rfl)) (fun _ _ _ _ _ => pts_nil) (fun _ _ _ _ _ => (pe_ix ix_str (pv 1) (pv 2) (fun _ _ => rfl)))))))), ?_⟩

  obtain ⟨p, ns, rfl, hp, hr, hl, q⟩ := h
  have hlen : ((ones (ns.map dch)).map V.str).length = ns.length := by rw [List.length_map, ones_len, List.length_map]
  refine ⟨⟨_, rfl⟩, _, rfl, p, rfl, ⟨_, SqL.of hp⟩, fun D hD => ?_⟩
  refine lc_list (xs := ns.map fun n : Nat => V.int n) (LBd D ((ones (ns.map dch)).map V.str) H) (LBd_0 hD) (fun i H' _ h => SqL.of (h.2 _ _ hp)) ?_ ?_
  · rintro i x H' hi B
    obtain ⟨n, hn, rfl⟩ : ∃ n, ns[i]? = some n ∧ x = V.int (n : Int) := by
      rw [List.getElem?_map] at hi
      cases e : ns[i]? with
      | none => rw [e] at hi; cases hi
      | some n => rw [e] at hi; exact ⟨n, rfl, (Option.some.inj hi).symm⟩
    have hg : ((ones (ns.map dch)).map V.str)[i]? = some (V.str (tx [dch n])) := by
      unfold ones
      rw [List.getElem?_map, List.getElem?_map, List.getElem?_map, hn]
      rfl
    refine ⟨rfl, tYes_i (iteT ?_)⟩
    refine ⟨_, rfl, _, rfl, DG, _, dch n, rfl, rfl, DG_len, DG_at (hr n (List.mem_of_getElem? hn)), ?_⟩
    exact LBd_s B hD hg (by rw [hlen]; omega)
  · intro H' B
    obtain ⟨hd, s2⟩ := LBd_n B (by rw [hlen, List.length_map])
    refine ⟨"", D, ones (ns.map dch), rfl, rfl, .inl (SqL.of hd), by rw [sum_ones, ones_len, List.length_map, show (Str.length "") = 0 by decide +kernel]; omega, ?_⟩
    rw [join_onesT]
    exact q H' s2

end
end K03
namespace K03
open PySem PySem.Spec PyProof.Rows L2 My
section
variable {P : Program} {w : World} {K : PySem.W.Frag} {mg : Str → Option Value} {base : Heap}

def rdB (x y z : V) (H : Hp) (Q : VK) : Prop := ∃ (cs : List Nat) (R : Str → V → Prop), Pl H x ∧ Pl H y ∧ z = .str (tx cs) ∧ (∀ c ∈ cs, c < 128) ∧ cs.length ≤ 1000 ∧ (∀ name v t H', R name v → H' t = some (.tup [.str name, v]) → Same H H' → Q (.ref t) H') ∧ (isW x = false → R "BadWidth" x) ∧
  ∀ w, x = .int w → Wd w → (btw y 2 36 = false → R "BadBase" y) ∧ ∀ b, y = .int b → 2 ≤ b → b ≤ 36 → R "told" (ov (rdV w b cs))
abbrev spRead : Sp := Sp3 fun x y z H Q _ => rdB x y z H Q

theorem ok__law_read (M : TX K mg) : FnOk P w K mg base (L2.CX P w) 7 M.f__law_read M.d__law_read ["_law_width", "_law_base", "_law_word"] (spRead) := by
  have sc := sc__law_read
  refine M.F__law_read.okX sc (fun vs H Q E h => Sp3_len h) (fun cdv A outer s H vs Q E hr h => ?_)
  obtain ⟨x0, x1, x2, rfl, h⟩ := h
  have hu := hu_of hr
  have hu64 := hr.units
  refine ⟨_, (pss_one (ps_try_as (i := 3) (tb := fun W => (tRet (tTup (tCons (tC (.str "told")) (tCons (tCallS (sp_read M) (WE W) (tCons (tVar 0) (tCons (tVar 1) (tCons (tVar 2) tNil)))) tNil))))) (ts := fun a cls d => (tSeq (tAsg (tLst (tCons (tCB (rIsED K a cls d) (tCons (tVar 3) (tCons (tC (.ref M.c_BadWidth)) tNil))) (tCons (tCB (rIsED K a cls d) (tCons (tVar 3) (tCons (tC (.ref M.c_BadBase)) tNil))) tNil))) (gName 4)) (tSeq (tIfS (tOr (tNot (tB (tCB (rIsED K a cls d) (tCons (tVar 3) (tCons (tC (.ty "ValueError")) tNil))))) (tTest (tOp rNe (tBM K "list" (rCntB K) (tVar 4) (tCons (tC (.bl true)) tNil)) (tC (.int 1))))) (tRet (tTup (tCons (tC (.str "odd")) (tCons (tC .non) tNil)))) tNext) (tSeq (tIfS (tB (tOp (rIxL K) (tVar 4) (tC (.int 0)))) (tRet (tTup (tCons (tC (.str "BadWidth")) (tCons (tXf a cls d M.c_BadWidth "width" (tVar 3)) tNil)))) tNext) (tRet (tTup (tCons (tC (.str "BadBase")) (tCons (tXf a cls d M.c_BadBase "base" (tVar 3)) tNil)))))))) (Wout := fun _ _ _ _ => False) rfl rfl sc.nd rfl rfl ⟨rfl, by decide, Or.inl M.g_MintError⟩ takes0
      (fun W pn xe tk _ => (pss_one (ps_ret (pe_tup (pa_cons pe_str (pa_cons (by exact (pe_callS (ok_read_number M) (hr.mono (by decide)) rfl M.g_read_number M.F_read_number.kp M.b_read_number (fun σ => passAt tk σ) (by exact (pa_cons (pv 0) (pa_cons (pv 1) (pa_cons (pv 2) pa_nil)))))) pa_nil))))))
      (fun a oe cls d pn hz hf => (pss_cons (ps_set (i := 4) sc.nd rfl (Or.inl rfl) (pe_lst (pa_cons (pe_callB (call_isED hz hf) (by rfl) M.n_isinstance (by decide +kernel) (pa_cons (pv 3) (pa_cons (pe_glob (v := .ref M.c_BadWidth) rfl M.g_BadWidth rfl) pa_nil))) (pa_cons (pe_callB (call_isED hz hf) (by rfl) M.n_isinstance (by decide +kernel) (pa_cons (pv 3) (pa_cons (pe_glob (v := .ref M.c_BadBase) rfl M.g_BadBase rfl) pa_nil))) pa_nil))))
      (pss_cons (ps_if (PW.pt (pw_or (pt_not (pt_val (pe_callB (call_isED hz hf) (by rfl) M.n_isinstance (by decide +kernel) (pa_cons (pv 3) (pa_cons (pe_bltn (v := .ty "ValueError") (u := .type "ValueError") (by rfl) M.n_ValueError (by decide +kernel) rfl) pa_nil))))) (pw_or1 (pt_cmpR op_ne (pe_bmK K (pe_bm PySem.F.plainAttrs_list PySem.F.slot_list_count PySem.F.type_list_count (by exact mt_countBK K hu64) (pv 4) (pa_cons pe_bl pa_nil))) pe_int (nomark _)))))
        (pss_one (ps_ret (pe_tup (pa_cons pe_str (pa_cons pe_non pa_nil)))))
        pss_nil)
      (pss_cons (ps_if (pt_val (pe_ix (ix_listK K) (pv 4) pe_int (fun _ _ => rfl)))
        (pss_one (ps_ret (pe_tup (pa_cons pe_str (pa_cons (pe_xf M.x_BadWidth M.F_BadWidth___init__.2.2 hz hf (pv 3)) pa_nil)))))
        pss_nil)
      (pss_one (ps_ret (pe_tup (pa_cons pe_str (pa_cons (pe_xf M.x_BadBase M.F_BadBase___init__.2.2 hz hf (pv 3)) pa_nil))))))))))), ?_⟩

  obtain ⟨cs, R, hx, hy, rfl, hc, hl, k, kw, kk⟩ := h
  walk_at "rd"
  refine ⟨fun c => ?_, fun w e hw => ⟨fun c => ?_, fun b e2 h0 h1 H1 s1 => ?_⟩⟩
  · intro dd hd0
    have S2 := Same.put (o := .xd [("width", x0)]) (Same.refl H) hd0
    have hdd : upd H dd (.xd [("width", x0)]) dd = some (.xd [("width", x0)]) := upd_same
    refine ⟨true, M.m_BadWidth, fun _ ea hea => ?_, fun z => Bool.noConfusion z⟩
    generalize upd H dd (.xd [("width", x0)]) = H2 at *
    refine ⟨_, rfl, M.c_BadWidth, dd, _, _, _, _, rfl, rfl, hdd, M.e_BadWidth, rfl, .own _, M.k_BadWidth_BadWidth, ?_⟩
    refine ⟨_, rfl, M.c_BadWidth, dd, _, _, _, _, rfl, rfl, hdd, M.e_BadWidth, rfl, .own _, M.k_BadWidth_BadBase, ?_⟩
    refine ⟨Nat.le_of_ble_eq_true rfl, fun kp hkp => ?_⟩
    have S3 := Same.put (o := .lst ([true, false].map V.bl)) S2 (S2.free hkp)
    have hdd3 : upd H2 kp (.lst ([true, false].map V.bl)) dd = some (.xd [("width", x0)]) := by rw [upd_ne (ne_of_none hdd hkp)]; exact hdd
    have hk2 : upd H2 kp (.lst ([true, false].map V.bl)) kp = some (.lst ([true, false].map V.bl)) := upd_same
    show tSeq _ _ _ _ (upd H2 kp (.lst ([true, false].map V.bl)))
    generalize upd H2 kp (.lst ([true, false].map V.bl)) = H3 at *
    refine ⟨_, rfl, M.c_BadWidth, dd, _, _, _, _, rfl, rfl, hdd3, M.e_BadWidth, rfl, .ty _, M.v_BadWidth, _, rfl, ?_⟩
    refine iteF ?_
    walk_at "rd"
    refine ⟨kp, [true, false], rfl, rfl, SqL.of hk2, rfl, _, rfl, ?_⟩
    refine iteNS (by rfl) ?_
    refine ⟨_, rfl, _, _, _, .bl true, rfl, rfl, SqL.of hk2, rfl, _, rfl, ?_⟩
    refine iteT ?_
    refine ⟨_, rfl, rfl, rfl, dd, _, x0, rfl, hdd3, by simp [List.lookup], ?_⟩
    exact ⟨Nat.le_of_ble_eq_true rfl, fun t ht => k "BadWidth" x0 t _ (kw c) upd_same (Same.put S3 (S3.free ht))⟩
  · intro dd hd0
    have S2 := Same.put (o := .xd [("base", x1)]) (Same.refl H) hd0
    have hdd : upd H dd (.xd [("base", x1)]) dd = some (.xd [("base", x1)]) := upd_same
    refine ⟨true, M.m_BadBase, fun _ ea hea => ?_, fun z => Bool.noConfusion z⟩
    generalize upd H dd (.xd [("base", x1)]) = H2 at *
    refine ⟨_, rfl, M.c_BadBase, dd, _, _, _, _, rfl, rfl, hdd, M.e_BadBase, rfl, .own _, M.k_BadBase_BadWidth, ?_⟩
    refine ⟨_, rfl, M.c_BadBase, dd, _, _, _, _, rfl, rfl, hdd, M.e_BadBase, rfl, .own _, M.k_BadBase_BadBase, ?_⟩
    refine ⟨Nat.le_of_ble_eq_true rfl, fun kp hkp => ?_⟩
    have S3 := Same.put (o := .lst ([false, true].map V.bl)) S2 (S2.free hkp)
    have hdd3 : upd H2 kp (.lst ([false, true].map V.bl)) dd = some (.xd [("base", x1)]) := by rw [upd_ne (ne_of_none hdd hkp)]; exact hdd
    have hk2 : upd H2 kp (.lst ([false, true].map V.bl)) kp = some (.lst ([false, true].map V.bl)) := upd_same
    show tSeq _ _ _ _ (upd H2 kp (.lst ([false, true].map V.bl)))
    generalize upd H2 kp (.lst ([false, true].map V.bl)) = H3 at *
    refine ⟨_, rfl, M.c_BadBase, dd, _, _, _, _, rfl, rfl, hdd3, M.e_BadBase, rfl, .ty _, M.v_BadBase, _, rfl, ?_⟩
    refine iteF ?_
    walk_at "rd"
    refine ⟨kp, [false, true], rfl, rfl, SqL.of hk2, rfl, _, rfl, ?_⟩
    refine iteNS (by rfl) ?_
    refine ⟨_, rfl, _, _, _, .bl false, rfl, rfl, SqL.of hk2, rfl, _, rfl, ?_⟩
    refine iteF ?_
    refine ⟨_, rfl, rfl, rfl, dd, _, x1, rfl, hdd3, by simp [List.lookup], ?_⟩
    exact ⟨Nat.le_of_ble_eq_true rfl, fun t ht => k "BadBase" x1 t _ ((kk w e hw).1 c) upd_same (Same.put S3 (S3.free ht))⟩
  · exact ⟨Nat.le_of_ble_eq_true rfl, fun t ht => k "told" _ t _ ((kk w e hw).2 b e2 h0 h1) upd_same (Same.put s1 (s1.free ht))⟩

end
end K03
namespace K03
open PySem PySem.Spec PyProof.Rows L2 My
section
variable {P : Program} {w : World} {K : PySem.W.Frag} {mg : Str → Option Value} {base : Heap}

def shB (x y : V) (H : Hp) (Q : VK) : Prop := ∃ (n : Int) (R : Str → V → Prop), Pl H x ∧ y = .int n ∧ (∀ name v t H', R name v → H' t = some (.tup [.str name, v]) → Same H H' → Q (.ref t) H') ∧ (btw x 2 36 = false → R "BadBase" x) ∧
  ∀ bn : Nat, x = .int bn → 2 ≤ bn → bn ≤ 36 → n.natAbs < 2 ^ 200 ∧ ∀ s, IsSh bn n s → R "told" (.str s)
abbrev spShow : Sp := Sp2 fun x y H Q _ => shB x y H Q

theorem ok__law_show (M : TX K mg) : FnOk P w K mg base (L2.CX P w) 6 M.f__law_show M.d__law_show ["_law_base", "_law_number"] (spShow) := by
  have sc := sc__law_show
  refine M.F__law_show.okX sc (fun vs H Q E h => Sp2_len h) (fun cdv A outer s H vs Q E hr h => ?_)
  obtain ⟨x0, x1, rfl, h⟩ := h
  have hu := hu_of hr
  have hu64 := hr.units
  refine ⟨_, (pss_one (ps_try_as (i := 2) (tb := fun W => (tRet (tTup (tCons (tC (.str "told")) (tCons (tCallS (sp_show M) (WE W) (tCons (tVar 0) (tCons (tVar 1) tNil))) tNil))))) (ts := fun a cls d => (tSeq (tIfS (tOr (tNot (tB (tCB (rIsED K a cls d) (tCons (tVar 2) (tCons (tC (.ty "ValueError")) tNil))))) (tOr (tNot (tB (tCB (rIsED K a cls d) (tCons (tVar 2) (tCons (tC (.ref M.c_BadBase)) tNil))))) (tB (tCB (rIsED K a cls d) (tCons (tVar 2) (tCons (tC (.ref M.c_BadWidth)) tNil)))))) (tRet (tTup (tCons (tC (.str "odd")) (tCons (tC .non) tNil)))) tNext) (tRet (tTup (tCons (tC (.str "BadBase")) (tCons (tXf a cls d M.c_BadBase "base" (tVar 2)) tNil)))))) (Wout := fun _ _ _ _ => False) rfl rfl sc.nd rfl rfl ⟨rfl, by decide, Or.inl M.g_MintError⟩ takes0
      (fun W pn xe tk _ => (pss_one (ps_ret (pe_tup (pa_cons pe_str (pa_cons (by exact (pe_callS (ok_show M) (hr.mono (by decide)) rfl M.g_show M.F_show.kp M.b_show (fun σ => passAt tk σ) (by exact (pa_cons (pv 0) (pa_cons (pv 1) pa_nil))))) pa_nil))))))
      (fun a oe cls d pn hz hf => (pss_cons (ps_if (PW.pt (pw_or (pt_not (pt_val (pe_callB (call_isED hz hf) (by rfl) M.n_isinstance (by decide +kernel) (pa_cons (pv 2) (pa_cons (pe_bltn (v := .ty "ValueError") (u := .type "ValueError") (by rfl) M.n_ValueError (by decide +kernel) rfl) pa_nil))))) (pw_or (pt_not (pt_val (pe_callB (call_isED hz hf) (by rfl) M.n_isinstance (by decide +kernel) (pa_cons (pv 2) (pa_cons (pe_glob (v := .ref M.c_BadBase) rfl M.g_BadBase rfl) pa_nil))))) (pw_or1 (pt_val (pe_callB (call_isED hz hf) (by rfl) M.n_isinstance (by decide +kernel) (pa_cons (pv 2) (pa_cons (pe_glob (v := .ref M.c_BadWidth) rfl M.g_BadWidth rfl) pa_nil))))))))
        (pss_one (ps_ret (pe_tup (pa_cons pe_str (pa_cons pe_non pa_nil)))))
        pss_nil)
      (pss_one (ps_ret (pe_tup (pa_cons pe_str (pa_cons (pe_xf M.x_BadBase M.F_BadBase___init__.2.2 hz hf (pv 2)) pa_nil))))))))), ?_⟩

  obtain ⟨n, R, hx, rfl, k, kb, kk⟩ := h
  walk_at "rd"
  refine ⟨fun c => ?_, fun bn e h0 h1 => ⟨(kk bn e h0 h1).1, fun s H1 hs s1 => ?_⟩⟩
  · intro dd hd0
    have S2 := Same.put (o := .xd [("base", x0)]) (Same.refl H) hd0
    have hdd : upd H dd (.xd [("base", x0)]) dd = some (.xd [("base", x0)]) := upd_same
    refine ⟨true, M.m_BadBase, fun _ ea hea => ?_, fun z => Bool.noConfusion z⟩
    generalize upd H dd (.xd [("base", x0)]) = H2 at *
    refine ⟨_, rfl, M.c_BadBase, dd, _, _, _, _, rfl, rfl, hdd, M.e_BadBase, rfl, .ty _, M.v_BadBase, _, rfl, ?_⟩
    refine iteF ?_
    refine ⟨_, rfl, M.c_BadBase, dd, _, _, _, _, rfl, rfl, hdd, M.e_BadBase, rfl, .own _, M.k_BadBase_BadBase, _, rfl, ?_⟩
    refine iteF ?_
    refine ⟨_, rfl, M.c_BadBase, dd, _, _, _, _, rfl, rfl, hdd, M.e_BadBase, rfl, .own _, M.k_BadBase_BadWidth, _, rfl, ?_⟩
    refine iteF ?_
    refine ⟨_, rfl, rfl, rfl, dd, _, x0, rfl, hdd, by simp [List.lookup], ?_⟩
    exact ⟨Nat.le_of_ble_eq_true rfl, fun t ht => k "BadBase" x0 t _ (kb c) upd_same (Same.put S2 (S2.free ht))⟩
  · exact ⟨Nat.le_of_ble_eq_true rfl, fun t ht => k "told" _ t _ ((kk bn e h0 h1).2 s hs) upd_same (Same.put s1 (s1.free ht))⟩

end
end K03
namespace K03
open PySem PySem.Spec PyProof.Rows L2 My
section
variable {P : Program} {w : World} {K : PySem.W.Frag} {mg : Str → Option Value} {base : Heap}
theorem ok__law_same (M : TX K mg) : FnOk P w K mg base (L2.CX P w) 1 M.f__law_same M.d__law_same ["_law_told", "_law_due"] (spSame) := by
  have sc := sc__law_same
  refine M.F__law_same.okX sc (fun vs H Q E h => Sp2_len h) (fun cdv A outer s H vs Q E hr h => ?_)
  obtain ⟨x0, x1, rfl, h⟩ := h
  have hu := hu_of hr
  have hu64 := hr.units
  refine ⟨_, (pss_one (ps_ret (pe_and (pe_cmpR op_eq (pe_ix (ix_tupK K) (pv 0) pe_int (fun _ _ => rfl)) (pe_ix (ix_tupK K) (pv 1) pe_int (fun _ _ => rfl)) (nomark _)) (pe_and (pe_cmpR op_eq (pe_callB call_isBool (by rfl) M.n_isinstance (by decide +kernel) (pa_cons (pe_ix (ix_tupK K) (pv 0) pe_int (fun _ _ => rfl)) (pa_cons (pe_bltn (v := .ty "bool") (u := .type "bool") (by rfl) M.n_bool (by decide +kernel) rfl) pa_nil))) (pe_callB call_isBool (by rfl) M.n_isinstance (by decide +kernel) (pa_cons (pe_ix (ix_tupK K) (pv 1) pe_int (fun _ _ => rfl)) (pa_cons (pe_bltn (v := .ty "bool") (u := .type "bool") (by rfl) M.n_bool (by decide +kernel) rfl) pa_nil))) (nomark _)) (pe_one (pe_cmpR (op_eqDK K hu64) (pe_ix (ix_tupK K) (pv 0) pe_int (fun _ _ => rfl)) (pe_ix (ix_tupK K) (pv 1) pe_int (fun _ _ => rfl)) (nomark _))))))), ?_⟩

  obtain ⟨t, u, k, v, d, rfl, rfl, ht, hu', hd, q⟩ := h
  refine ⟨_, rfl, _, _, _, .str k, rfl, rfl, SqT.of ht, rfl, ?_⟩
  refine ⟨_, rfl, _, _, _, .str k, rfl, rfl, SqT.of hu', rfl, ?_⟩
  refine ⟨rfl, _, rfl, ?_⟩
  rw [decide_eq_true (rfl : V.str k = V.str k)]
  refine iteT ?_
  refine ⟨_, rfl, _, _, _, v, rfl, rfl, SqT.of ht, rfl, v, rfl, hd.pl, ?_⟩
  refine ⟨_, rfl, _, _, _, v, rfl, rfl, SqT.of hu', rfl, v, rfl, hd.pl, ?_⟩
  refine ⟨rfl, _, rfl, ?_⟩
  rw [decide_eq_true (rfl : V.bl (isB v) = V.bl (isB v))]
  refine iteT ?_
  refine ⟨_, rfl, _, _, _, v, rfl, rfl, SqT.of ht, rfl, ?_⟩
  refine ⟨_, rfl, _, _, _, v, rfl, rfl, SqT.of hu', rfl, ?_⟩
  refine ⟨d, d, hd.dp, hd.dp, hd.shp, hd.shp, ?_⟩
  rw [hd.refl]
  exact q


def rsB (x y z u : V) (H : Hp) (Q : VK) : Prop := ∃ (w b : Int) (cs : List Nat), x = .int w ∧ Wd w ∧ y = .int b ∧ 2 ≤ b ∧ b ≤ 36 ∧ z = .str (tx cs) ∧ (∀ c ∈ cs, c < 128) ∧ cs.length ≤ 1000 ∧ u = ov (rdV w b cs) ∧ ∀ H', Same H H' → Q (.bl true) H'
abbrev spReads : Sp := Sp4 fun x y z u H Q _ => rsB x y z u H Q
theorem read_ok {w b : Int} {cs : List Nat} {H : Hp} {Q : VK} (hw : Wd w) (h0 : 2 ≤ b) (h1 : b ≤ 36) (hc : ∀ c ∈ cs, c < 128) (hl : cs.length ≤ 1000) (k : ∀ t H', H' t = some (.tup [.str "told", ov (rdV w b cs)]) → Same H H' → Q (.ref t) H') : rdB (.int w) (.int b) (.str (tx cs)) H Q :=
  ⟨cs, fun name v => name = "told" ∧ v = ov (rdV w b cs), .int _, .int _, rfl, hc, hl, fun name v t H' ⟨e1, e2⟩ h s => k t H' (by rw [h, e1, e2]) s, fun c => (by rw [isW_int hw] at c; cases c), fun w' e hw' => ⟨fun c => (by
    have : btw (.int b) 2 36 = true := by
      show (decide (2 ≤ b) && decide (b ≤ 36)) = true
      rw [decide_eq_true h0, decide_eq_true h1]; rfl
    rw [this] at c; cases c), fun b' e2 _ _ => by cases e; cases e2; exact ⟨rfl, rfl⟩⟩⟩

theorem ok__law_reads (M : TX K mg) : FnOk P w K mg base (L2.CX P w) 8 M.f__law_reads M.d__law_reads ["_law_width", "_law_base", "_law_word", "_law_due"] (spReads) := by
  have sc := sc__law_reads
  refine M.F__law_reads.okX sc (fun vs H Q E h => Sp4_len h) (fun cdv A outer s H vs Q E hr h => ?_)
  obtain ⟨x0, x1, x2, x3, rfl, h⟩ := h
  have hu := hu_of hr
  have hu64 := hr.units
  refine ⟨_, (pss_cons (ps_set (i := 4) sc.nd rfl (Or.inl rfl) (pe_call (ok__law_read M) (hr.mono (by decide)) rfl M.g__law_read M.F__law_read.kp M.b__law_read .nil (passE rfl rfl rfl rfl) (pa_cons (pv 0) (pa_cons (pv 1) (pa_cons (pv 2) pa_nil)))))
    (pss_cons (ps_if (pt_cmpR op_ne (pe_ix (ix_tupK K) (pv 4) pe_int (fun _ _ => rfl)) pe_str (nomark _))
      (pss_one (ps_ret pe_bl))
      pss_nil)
    (pss_cons (ps_if (pt_cmpR op_isN (pv 3) pe_non (nomark _))
      (pss_one (ps_ret (pe_cmpR op_isN (pe_ix (ix_tupK K) (pv 4) pe_int (fun _ _ => rfl)) pe_non (nomark _))))
      pss_nil)
    (pss_one (ps_ret (pe_and (pe_call (ok__law_integer M) (hr.mono (by decide)) rfl M.g__law_integer M.F__law_integer.kp M.b__law_integer .nil (passE rfl rfl rfl rfl) (pa_cons (pe_ix (ix_tupK K) (pv 4) pe_int (fun _ _ => rfl)) pa_nil)) (pe_one (pe_cmpR op_eq (pe_ix (ix_tupK K) (pv 4) pe_int (fun _ _ => rfl)) (pv 3) (nomark _))))))))), ?_⟩

  obtain ⟨w, b, cs, rfl, hw, rfl, h0, h1, rfl, hc, hl, rfl, q⟩ := h
  walk_at "rd"
  refine read_ok hw h0 h1 hc hl fun t H1 ht s1 => ?_
  have q' := q H1 s1
  refine ⟨_, rfl, _, _, _, .str "told", rfl, rfl, SqT.of ht, rfl, rfl, _, rfl, ?_⟩
  rw [decide_eq_true (rfl : V.str "told" = V.str "told")]
  refine iteF ?_
  cases e : rdV w b cs with
  | none =>
    rw [e] at ht
    refine ⟨_, rfl, rfl, _, rfl, ?_⟩
    refine iteDT rfl ?_
    refine ⟨_, rfl, _, _, _, .non, rfl, rfl, SqT.of ht, rfl, ?_⟩
    exact ⟨rfl, q'⟩
  | some v =>
    rw [e] at ht
    refine ⟨_, rfl, rfl, _, rfl, ?_⟩
    refine iteDF (fun z => by cases z) ?_
    refine ⟨_, rfl, _, _, _, .int v, rfl, rfl, SqT.of ht, rfl, ?_⟩
    refine ⟨_, rfl, Pl.int _, true, rfl, ?_⟩
    refine iteT ?_
    refine ⟨_, rfl, _, _, _, .int v, rfl, rfl, SqT.of ht, rfl, ?_⟩
    refine ⟨_, rfl, rfl, ?_⟩
    have e2 : decide (V.int v = ov (some v)) = true := decide_eq_true rfl
    rw [← e2] at q'
    exact q'

end
end K03
namespace K03
open PySem PySem.Spec PyProof.Rows L2 My
section
variable {P : Program} {w : World} {K : PySem.W.Frag} {mg : Str → Option Value} {base : Heap}

def LT : List Nat := [65, 66, 67, 68, 69, 70, 71, 72, 73, 74, 75, 76, 77, 78, 79, 80, 81, 82, 83, 84, 85, 86, 87, 88, 89, 90, 95, 46, 43, 44, 32, 39, 47, 58, 59, 60, 61, 62, 63, 64, 91, 93, 94, 96, 123, 124, 125, 126, 33, 38, 40, 41, 42]
theorem LT_bad : ∀ c ∈ LT, fd c < 0 ∧ c < 128 ∧ c ≠ 45 ∧ c ≠ 36 ∧ c ≠ 35 := by decide +kernel
theorem LT_cps : (Str.ofString "ABCDEFGHIJKLMNOPQRSTUVWXYZ_.+, '/:;<=>?\x40[]^`{|}~!&()*") = tx LT := by decide +kernel
abbrev spStrange : Sp := Sp3 fun x y z H Q _ => ∃ (b : Addr) (real : Int) (first : Bool), x = .ref b ∧ y = .int real ∧ 2 ≤ real ∧ real ≤ 36 ∧ z = .bl first ∧ BagAt H b ∧ ∀ (c : Nat) (H' : Hp), c < 128 → BadD real c → (first = true → c ≠ 36 ∧ c ≠ 35 ∧ c ≠ 45) → BagAt H' b → Kp b H H' → Q (.str (tx [c])) H'

theorem ok__law_strange (M : TX K mg) : FnOk P w K mg base (L2.CX P w) 3 M.f__law_strange M.d__law_strange ["_law_bag_here", "_law_real", "_law_first"] (spStrange) := by
  have sc := sc__law_strange
  refine M.F__law_strange.okX sc (fun vs H Q E h => Sp3_len h) (fun cdv A outer s H vs Q E hr h => ?_)
  obtain ⟨x0, x1, x2, rfl, h⟩ := h
  have hu := hu_of hr
  have hu64 := hr.units
  refine ⟨_, (pss_cons (ps_set (i := 3) sc.nd rfl (Or.inl rfl) pe_str)
    (pss_cons (ps_set (i := 4) sc.nd rfl (Or.inl rfl) (pe_ix ix_str (pv 3) (pe_call (ok__law_pick M) (hr.mono (by decide)) rfl M.g__law_pick M.F__law_pick.kp M.b__law_pick .nil (passE rfl rfl rfl rfl) (pa_cons (pv 0) (pa_cons (pe_callB call_len_str (by rfl) M.n_len PySem.boot_len (pa_cons (pv 3) pa_nil)) pa_nil))) (fun _ _ => rfl)))
    (pss_cons (ps_if (PW.pt (pw_and (pt_not (pt_val (pv 2))) (pw_and1 (pt_cmpR op_eq (pe_call (ok__law_pick M) (hr.mono (by decide)) rfl M.g__law_pick M.F__law_pick.kp M.b__law_pick .nil (passE rfl rfl rfl rfl) (pa_cons (pv 0) (pa_cons pe_int pa_nil))) pe_int (nomark _)))))
      (pss_one (ps_set (i := 4) sc.nd rfl (Or.inl rfl) (pe_call (ok__law_choice M) (hr.mono (by decide)) rfl M.g__law_choice M.F__law_choice.kp M.b__law_choice .nil (passE rfl rfl rfl rfl) (pa_cons (pv 0) (pa_cons (pe_lst (pa_cons pe_str (pa_cons pe_str (pa_cons pe_str pa_nil)))) pa_nil)))))
      pss_nil)
    (pss_cons (ps_if (PW.pt (pw_and (pt_cmpR op_lt (pv 1) pe_int (nomark _)) (pw_and1 (pt_cmpR op_gt (pe_call (ok__law_pick M) (hr.mono (by decide)) rfl M.g__law_pick M.F__law_pick.kp M.b__law_pick .nil (passE rfl rfl rfl rfl) (pa_cons (pv 0) (pa_cons pe_int pa_nil))) pe_int (nomark _)))))
      (pss_one (ps_set (i := 4) sc.nd rfl (Or.inl rfl) (pe_call (ok__law_spelled M) (hr.mono (by decide)) rfl M.g__law_spelled M.F__law_spelled.kp M.b__law_spelled .nil (passE rfl rfl rfl rfl) (pa_cons (pe_lst (pa_cons (pe_op op_add (pv 1) (pe_call (ok__law_pick M) (hr.mono (by decide)) rfl M.g__law_pick M.F__law_pick.kp M.b__law_pick .nil (passE rfl rfl rfl rfl) (pa_cons (pv 0) (pa_cons (pe_op op_sub pe_int (pv 1)) pa_nil)))) pa_nil)) pa_nil))))
      pss_nil)
    (pss_one (ps_ret (pv 4))))))), ?_⟩

  obtain ⟨b, real, first, rfl, rfl, hr0, hr1, rfl, B, q⟩ := h
  have hLl : LT.length = 53 := by decide +kernel
  walk_at "rd"
  intro v H1 p0 p1 B1 k1
  rw [LT_cps] at p1 ⊢
  rw [tx_len] at p1
  have hv : v.toNat < LT.length := by omega
  have hL := LT_bad LT[v.toNat] (List.getElem_mem hv)
  have hat : atI (tx LT).cps.toList v = some LT[v.toNat] := by
    rw [tx_cps]
    unfold atI ixN
    rw [if_pos p0, if_pos (by omega)]
    exact List.getElem?_eq_getElem hv
  refine ⟨tx LT, v, LT[v.toNat], rfl, rfl, by rw [tx_len, hLl, sizeLine_eq]; decide, hat, ?_⟩
  rw [tx_one]
  refine seq_gen fun R0 hR0 => ?_
  refine hR0 _ _ ?_
  clear hR0 R0
  refine seq_gen fun RR hRR => ?_
  generalize LT[v.toNat] = c0 at hL ⊢
  have key : ∀ (c : Nat) (H' : Hp), c < 128 → BadD real c → (first = true → c ≠ 36 ∧ c ≠ 35 ∧ c ≠ 45) → BagAt H' b → Kp b H H' → RR [some (.ref b), some (.int real), some (.bl first), some (.str (tx LT)), some (.str (tx [c]))] H' := by
    intro c H' h1 h2 h3 B' k'
    refine hRR _ _ ?_
    clear hRR B1 k1 hL
    refine ⟨_, rfl, _, _, rfl, rfl, _, rfl, ?_⟩
    refine iteD (fun c1 => ?_) (fun c1 => ?_)
    · walk_at "rd"
      intro v3 H3 p3 p3' B3 k3
      walk_at "rd"
      refine iteD (fun c2 => ?_) (fun c2 => ?_)
      · walk_at "rd"
        intro v4 H4 p4 p4' B4 k4
        walk_at "rd"
        intro l hl
        have e : ((real + v4).toNat : Int) = real + v4 := by omega
        have hd : (real + v4).toNat < 36 := by omega
        have hf := fd_dch hd
        refine ⟨_, rfl, l, [(real + v4).toNat], rfl, ?_, fun n hn => by rw [List.mem_singleton.mp hn]; exact hd, Nat.le_of_ble_eq_true rfl, fun H5 s5 => ?_⟩
        · show upd H4 l (.lst [V.int (real + v4)]) l = some (.lst [V.int ((real + v4).toNat : Int)])
          rw [e]
          exact upd_same
        · have hb := dch_big (real + v4).toNat
          exact ⟨_, rfl, q (dch (real + v4).toNat) H5 hf.2 (.inr (by rw [hf.1]; omega)) (fun _ => ⟨by omega, by omega, by omega⟩) ((B4.put hl).same s5) (k'.trans (k3.trans (k4.trans ((Kp.put Kp.refl hl).trans (Kp.of s5)))))⟩
      · exact ⟨_, rfl, q c H3 h1 h2 h3 B3 (k'.trans k3)⟩
    · exact ⟨_, rfl, q c H' h1 h2 h3 B' k'⟩
  clear hRR q
  cases first with
  | true =>
    walk_at "rd"
    exact key c0 H1 hL.2.1 (.inl hL.1) (fun _ => ⟨hL.2.2.2.1, hL.2.2.2.2, hL.2.2.1⟩) B1 k1
  | false =>
    walk_at "rd"
    intro v3 H3 p3 p3' B3 k3
    walk_at "rd"
    refine iteD (fun c2 => ?_) (fun c2 => ?_)
    · walk_at "rd"
      intro l hl
      obtain ⟨ob, hob⟩ := B3.some
      refine ⟨_, _, rfl, b, l, _, rfl, rfl, upd_same, Nat.le_of_ble_eq_true rfl, Nat.le_of_ble_eq_true rfl, (ne_of_none hob hl).symm, B3.put hl, fun j v5 H5 hj B5 k5 => ?_⟩
      have m := List.mem_of_getElem? hj
      simp only [List.mem_cons, List.not_mem_nil, or_false] at m
      have kk := k1.trans (k3.trans ((Kp.put Kp.refl hl).trans k5))
      rcases m with rfl | rfl | rfl
      · rw [show Str.ofString "-" = tx [45] by decide +kernel]
        exact key 45 H5 (by decide) bad45 (fun z => Bool.noConfusion z) B5 kk
      · rw [show Str.ofString "$" = tx [36] by decide +kernel]
        exact key 36 H5 (by decide) bad36 (fun z => Bool.noConfusion z) B5 kk
      · rw [show Str.ofString "#" = tx [35] by decide +kernel]
        exact key 35 H5 (by decide) bad35 (fun z => Bool.noConfusion z) B5 kk
    · exact key c0 H3 hL.2.1 (.inl hL.1) (fun z => Bool.noConfusion z) B3 (k1.trans k3)


theorem btw_out {n lo hi : Int} (h : n < lo ∨ hi < n) : btw (.int n) lo hi = false := by
  show (decide (lo ≤ n) && decide (n ≤ hi)) = false
  rcases h with h | h
  · rw [decide_eq_false (show ¬ lo ≤ n by omega)]; rfl
  · rw [decide_eq_false (show ¬ n ≤ hi by omega), Bool.and_false]
abbrev spOddBase : Sp := Sp1 fun x H Q _ => ∃ (b : Addr), x = .ref b ∧ BagAt H b ∧ ∀ (v : V) (d : PyData) (H' : Hp), PD H' v d → btw v 2 36 = false → BagAt H' b → Kp b H H' → Q v H'

theorem ok__law_odd_base (M : TX K mg) : FnOk P w K mg base (L2.CX P w) 3 M.f__law_odd_base M.d__law_odd_base ["_law_bag_here"] (spOddBase) := by
  have sc := sc__law_odd_base
  refine M.F__law_odd_base.okX sc (fun vs H Q E h => Sp1_len h) (fun cdv A outer s H vs Q E hr h => ?_)
  obtain ⟨x0, rfl, h⟩ := h
  have hu := hu_of hr
  have hu64 := hr.units
  refine ⟨_, (pss_cons (ps_set (i := 1) sc.nd rfl (Or.inl rfl) (pe_op op_add pe_int (pe_call (ok__law_pick M) (hr.mono (by decide)) rfl M.g__law_pick M.F__law_pick.kp M.b__law_pick .nil (passE rfl rfl rfl rfl) (pa_cons (pv 0) (pa_cons pe_int pa_nil)))))
    (pss_one (ps_ret (pe_call (ok__law_choice M) (hr.mono (by decide)) rfl M.g__law_choice M.F__law_choice.kp M.b__law_choice .nil (passE rfl rfl rfl rfl) (pa_cons (pv 0) (pa_cons (pe_lst (pa_cons pe_int (pa_cons pe_int (pa_cons pe_int (pa_cons (pe_un un_neg pe_int) (pa_cons (pe_un un_neg pe_int) (pa_cons (pe_un un_neg pe_int) (pa_cons (pv 1) (pa_cons (pe_un un_neg (pv 1)) (pa_cons pe_bl (pa_cons pe_bl (pa_cons pe_non (pa_cons pe_str (pa_cons pe_str (pa_cons (pe_tup (pa_cons pe_int pa_nil)) (pa_cons (pe_op op_pow pe_int pe_int) pa_nil)))))))))))))))) pa_nil)))))), ?_⟩

  obtain ⟨b, rfl, B, q⟩ := h
  walk_at "rd"
  intro v3 H3 p3 p3' B3 k3
  walk_at "rd"
  intro t1 ht1
  walk_at "rd"
  intro l hl
  obtain ⟨ob, hob⟩ := B3.some
  have n1 : t1 ≠ b := (ne_of_none hob ht1).symm
  have s1 : Same H3 (upd H3 t1 (.tup [V.int 10])) := Same.put (Same.refl H3) ht1
  have hb2 := s1 _ _ hob
  have B' := (B3.put (o := .tup [V.int 10]) ht1)
  have k' : Kp b H (upd H3 t1 (.tup [V.int 10])) := k3.trans (Kp.of s1)
  have h1 : upd H3 t1 (.tup [V.int 10]) t1 = some (.tup [V.int 10]) := upd_same
  generalize upd H3 t1 (.tup [V.int 10]) = H6 at *
  refine ⟨_, _, rfl, b, l, _, rfl, rfl, upd_same, Nat.le_of_ble_eq_true rfl, Nat.le_of_ble_eq_true rfl, (ne_of_none hb2 hl).symm, B'.put hl, fun j v H5 hj B5 k5 => ?_⟩
  have h1 := k5 _ _ n1 ((Same.put (Same.refl _) hl) _ _ h1)
  have kk := (k'.trans (Kp.of (Same.put (Same.refl _) hl))).trans k5
  have m := List.mem_of_getElem? hj
  clear hj k5 B' k'
  simp only [List.mem_cons, List.not_mem_nil, or_false] at m
  rcases m with rfl | rfl | rfl | rfl | rfl | rfl | rfl | rfl | rfl | rfl | rfl | rfl | rfl | rfl | rfl
  · exact q _ _ H5 (.int _) (btw_out (.inl (by omega))) B5 kk
  · exact q _ _ H5 (.int _) (btw_out (.inl (by omega))) B5 kk
  · exact q _ _ H5 (.int _) (btw_out (.inr (by omega))) B5 kk
  · exact q _ _ H5 (.int _) (btw_out (.inl (by omega))) B5 kk
  · exact q _ _ H5 (.int _) (btw_out (.inl (by omega))) B5 kk
  · exact q _ _ H5 (.int _) (btw_out (.inl (by omega))) B5 kk
  · exact q _ _ H5 (.int _) (btw_out (.inr (by omega))) B5 kk
  · exact q _ _ H5 (.int _) (btw_out (.inl (by omega))) B5 kk
  · exact q _ _ H5 (.bl _) rfl B5 kk
  · exact q _ _ H5 (.bl _) rfl B5 kk
  · exact q _ _ H5 .non rfl B5 kk
  · exact q _ _ H5 (.str _ (by decide +kernel)) rfl B5 kk
  · exact q _ _ H5 (.str _ (by decide +kernel)) rfl B5 kk
  · exact q _ _ H5 (.tupI h1) rfl B5 kk
  · exact q _ _ H5 (.int _) (btw_out (.inr (show (36 : Int) < 1000000000000000000000000000000000000000 by omega))) B5 kk

end
end K03
namespace K03
open PySem PySem.Spec PyProof.Rows L2 My
section
variable {P : Program} {w : World} {K : PySem.W.Frag} {mg : Str → Option Value} {base : Heap}

theorem show_ok {bn : Nat} {n : Int} {H : Hp} {Q : VK} (h0 : 2 ≤ bn) (h1 : bn ≤ 36) (hn : n.natAbs < 2 ^ 200) (k : ∀ s t H', IsSh bn n s → H' t = some (.tup [.str "told", .str s]) → Same H H' → Q (.ref t) H') : shB (.int bn) (.int n) H Q :=
  ⟨n, fun name v => name = "told" ∧ ∃ s, v = .str s ∧ IsSh bn n s, .int _, rfl, fun name v t H' ⟨e1, s, e2, hs⟩ h sm => k s t H' hs (by rw [h, e1, e2]) sm, fun c => (by
    have : btw (.int bn) 2 36 = true := by
      show (decide ((2 : Int) ≤ bn) && decide ((bn : Int) ≤ 36)) = true
      rw [decide_eq_true (show (2 : Int) ≤ bn by omega), decide_eq_true (show (bn : Int) ≤ 36 by omega)]; rfl
    rw [this] at c; cases c), fun b' e _ _ => by cases Int.ofNat.inj (V.int.inj e); exact ⟨hn, fun s hs => ⟨rfl, s, rfl, hs⟩⟩⟩
abbrev spShR : Sp := Sp3 fun x y z H Q _ => ∃ (b : Addr) (w : Int) (bn : Nat), x = .ref b ∧ y = .int w ∧ Wd w ∧ z = .int bn ∧ 2 ≤ bn ∧ bn ≤ 36 ∧ BagAt H b ∧ ∀ H', BagAt H' b → Kp b H H' → Q (.bl true) H'

theorem ok__law_shown_right (M : TX K mg) : FnOk P w K mg base (L2.CX P w) 9 M.f__law_shown_right M.d__law_shown_right ["_law_bag_here", "_law_width", "_law_base"] (spShR) := by
  have sc := sc__law_shown_right
  refine M.F__law_shown_right.okX sc (fun vs H Q E h => Sp3_len h) (fun cdv A outer s H vs Q E hr h => ?_)
  obtain ⟨x0, x1, x2, rfl, h⟩ := h
  have hu := hu_of hr
  have hu64 := hr.units
  refine ⟨_, (pss_cons (ps_set (i := 3) sc.nd rfl (Or.inl rfl) (pe_call (ok__law_half M) (hr.mono (by decide)) rfl M.g__law_half M.F__law_half.kp M.b__law_half .nil (passE rfl rfl rfl rfl) (pa_cons (pv 1) pa_nil)))
    (pss_cons (ps_set (i := 4) sc.nd rfl (Or.inl rfl) (pe_call (ok__law_num M) (hr.mono (by decide)) rfl M.g__law_num M.F__law_num.kp M.b__law_num .nil (passE rfl rfl rfl rfl) (pa_cons (pv 0) (pa_cons (pv 1) pa_nil))))
    (pss_cons (ps_for (passes_of rfl) rfl (pi_listK K (pi_list (pe_lst (pa_cons (pv 4) (pa_cons (pe_call (ok__law_great M) (hr.mono (by decide)) rfl M.g__law_great M.F__law_great.kp M.b__law_great .nil (passE rfl rfl rfl rfl) (pa_cons (pv 0) pa_nil)) (pa_cons pe_int (pa_cons (pv 2) (pa_cons (pe_un un_neg (pv 2)) (pa_cons (pe_op op_sub (pe_op op_mul (pv 2) (pv 2)) pe_int) (pa_cons (pe_op op_sub (pv 3) pe_int) (pa_cons (pe_un un_neg (pv 3)) (pa_cons (pe_op op_sub (pe_op op_mul pe_int (pv 3)) pe_int) (pa_cons (pe_op op_mul pe_int (pv 3)) (pa_cons (pe_op op_sub (pe_un un_neg (pv 3)) pe_int) pa_nil)))))))))))))) (pg_name (i := 5) sc.nd rfl (Or.inl rfl))
      (pss_cons (ps_set (i := 6) sc.nd rfl (Or.inl rfl) (pe_call (ok__law_show M) (hr.mono (by decide)) rfl M.g__law_show M.F__law_show.kp M.b__law_show .nil (passE rfl rfl rfl rfl) (pa_cons (pv 2) (pa_cons (pv 5) pa_nil))))
      (pss_cons (ps_if (PW.pt (pw_or (pt_cmpR op_ne (pe_ix (ix_tupK K) (pv 6) pe_int (fun _ _ => rfl)) pe_str (nomark _)) (pw_or (pt_not (pt_val (pe_callB call_isStr (by rfl) M.n_isinstance (by decide +kernel) (pa_cons (pe_ix (ix_tupK K) (pv 6) pe_int (fun _ _ => rfl)) (pa_cons (pe_bltn (v := .ty "str") (u := .type "str") (by rfl) M.n_str (by decide +kernel) rfl) pa_nil))))) (pw_or1 (pt_cmpR op_ne (pe_ix (ix_tupK K) (pv 6) pe_int (fun _ _ => rfl)) (pe_call (ok__law_shown M) (hr.mono (by decide)) rfl M.g__law_shown M.F__law_shown.kp M.b__law_shown .nil (passE rfl rfl rfl rfl) (pa_cons (pv 2) (pa_cons (pv 5) pa_nil))) (nomark _))))))
        (pss_one (ps_ret pe_bl))
        pss_nil)
      (pss_one (ps_if (pt_not (pt_val (pe_call (ok__law_reads M) (hr.mono (by decide)) rfl M.g__law_reads M.F__law_reads.kp M.b__law_reads .nil (passE rfl rfl rfl rfl) (pa_cons (pv 1) (pa_cons (pv 2) (pa_cons (pe_ix (ix_tupK K) (pv 6) pe_int (fun _ _ => rfl)) (pa_cons (pe_call (ok__law_value_due M) (hr.mono (by decide)) rfl M.g__law_value_due M.F__law_value_due.kp M.b__law_value_due .nil (passE rfl rfl rfl rfl) (pa_cons (pv 1) (pa_cons (pv 5) pa_nil))) pa_nil)))))))
        (pss_one (ps_ret pe_bl))
        pss_nil)))))
    (pss_one (ps_ret pe_bl))))), ?_⟩

  obtain ⟨b, w, bn, rfl, rfl, hw, rfl, h0, h1, B, q⟩ := h
  have hq := hf_pos hw
  have hbb : (bn : Int) * (bn : Int) ≤ 1296 ∧ 4 ≤ (bn : Int) * (bn : Int) := by
    have e1 : bn * bn ≤ 36 * 36 := Nat.mul_le_mul h1 h1
    have e2 : 2 * 2 ≤ bn * bn := Nat.mul_le_mul h0 h0
    have e3 : ((bn * bn : Nat) : Int) = (bn : Int) * (bn : Int) := Int.natCast_mul _ _
    omega
  walk_at "rd"
  intro H0 s0
  have B0 := B.same s0
  walk_at "rd"
  intro n0 H1 hn0 B1 k1
  walk_at "rd"
  intro g H2 hg B2 k2
  walk_at "rd"
  intro l hl
  refine alloc_gen hl fun HA sA hA => ?_
  refine ⟨l, rfl, ⟨_, SqL.of hA⟩, ?_⟩
  have BA := B2.same sA
  have kA := (Kp.of s0).trans (k1.trans (k2.trans (Kp.of sA)))
  unfold InR at hn0
  obtain ⟨xs, eX⟩ : ∃ xs, xs = [V.int n0, V.int g, V.int 0, V.int bn, V.int (-(bn : Int)), V.int ((bn : Int) * (bn : Int) - 1), V.int (hf w - 1), V.int (-(hf w)), V.int (2 * hf w - 1), V.int (2 * hf w), V.int (-(hf w) - 1)] := ⟨_, rfl⟩
  have hA2 : HA l = some (.lst xs) := by rw [eX]; exact hA
  have hall : ∀ x ∈ xs, ∃ n, x = V.int n ∧ n.natAbs < 2 ^ 140 := by
    intro x m
    rw [eX] at m
    simp only [List.mem_cons, List.not_mem_nil, or_false] at m
    rcases m with rfl | rfl | rfl | rfl | rfl | rfl | rfl | rfl | rfl | rfl | rfl
    · exact ⟨_, rfl, by omega⟩
    · exact ⟨_, rfl, hg⟩
    · exact ⟨_, rfl, by omega⟩
    · exact ⟨_, rfl, by omega⟩
    · exact ⟨_, rfl, by omega⟩
    · exact ⟨_, rfl, by omega⟩
    · exact ⟨_, rfl, by omega⟩
    · exact ⟨_, rfl, by omega⟩
    · exact ⟨_, rfl, by omega⟩
    · exact ⟨_, rfl, by omega⟩
    · exact ⟨_, rfl, by omega⟩
  clear eX hA hl B0 B1 B2 k1 k2 s0 B sA hbb hg
  refine for_list (K := K) (a := l) (xs := xs) (fun i σ H4 => Same HA H4 ∧ ∃ v5 v6, σ = [some (.ref b), some (.int w), some (.int bn), some (.int (hf w)), some (.int n0), v5, v6]) ⟨Same.refl HA, none, none, rfl⟩ (fun i σ H4 _ h => SqL.of (h.1 _ _ hA2)) ?_ ?_
  · rintro i x σ H4 hi ⟨s4, v5, v6, rfl⟩
    obtain ⟨n, rfl, hn⟩ := hall x (List.mem_of_getElem? hi)
    have hn2 : n.natAbs < 2 ^ 200 := Nat.lt_trans hn (by decide)
    clear hall hi kA BA hA2 q
    refine ⟨_, rfl, _, rfl, _, _, rfl, show_ok h0 h1 hn2 fun s t H5 hs ht s5 => ?_⟩
    obtain ⟨cs, es, hc, hlc, er⟩ := rd_shown hw h0 h1 hn2 hs
    refine ⟨_, rfl, _, _, _, .str "told", rfl, rfl, SqT.of ht, rfl, rfl, _, rfl, ?_⟩
    rw [decide_eq_true (rfl : V.str "told" = V.str "told")]
    refine iteF ?_
    refine ⟨_, rfl, _, _, _, .str s, rfl, rfl, SqT.of ht, rfl, ?_⟩
    refine ⟨_, rfl, Pl.str _, true, rfl, ?_⟩
    refine iteF ?_
    refine ⟨_, rfl, _, _, _, .str s, rfl, rfl, SqT.of ht, rfl, ?_⟩
    refine ⟨_, rfl, _, rfl, _, _, rfl, bn, n, rfl, rfl, h0, h1, hn, fun s' hs' => ?_⟩
    obtain rfl := hs.uniq hs'
    refine ⟨rfl, _, rfl, ?_⟩
    rw [decide_eq_true (rfl : V.str s = V.str s)]
    refine iteF ?_
    refine ⟨_, rfl, _, rfl, _, rfl, _, _, _, .str s, rfl, rfl, SqT.of ht, rfl, ?_⟩
    refine ⟨_, rfl, _, rfl, _, _, rfl, w, n, rfl, rfl, hw, fun H6 s6 => ?_⟩
    refine ⟨_, _, _, _, rfl, w, bn, cs, rfl, hw, rfl, by omega, by omega, by rw [es], hc, hlc, by rw [er], fun H7 s7 => ?_⟩
    exact ⟨true, rfl, s4.trans (s5.trans (s6.trans s7)), _, _, rfl⟩
  · rintro σ H4 ⟨s4, v5, v6, rfl⟩
    exact q H4 (BA.same s4) (kA.trans (Kp.of s4))

end
end K03
namespace K03
open PySem PySem.Spec PyProof.Rows L2 My
section
variable {P : Program} {w : World} {K : PySem.W.Frag} {mg : Str → Option Value} {base : Heap}

abbrev spBuilt : Sp := Sp3 fun x y z H Q _ => ∃ (b : Addr) (w : Int) (bn : Nat), x = .ref b ∧ y = .int w ∧ Wd w ∧ z = .int bn ∧ 2 ≤ bn ∧ bn ≤ 36 ∧ BagAt H b ∧ ∀ (d : Addr) (pfx mns ts : List Nat) (v real : Int) (H' : Hp), Bt w bn pfx mns ts v real → H' d = some (blO pfx mns ts v real) → d ≠ b → BagAt H' b → Kp b H H' → Q (.ref d) H'

theorem ok__law_built (M : TX K mg) : FnOk P w K mg base (L2.CX P w) 4 M.f__law_built M.d__law_built ["_law_bag_here", "_law_width", "_law_base"] (spBuilt) := by
  have sc := sc__law_built
  refine M.F__law_built.okX sc (fun vs H Q E h => Sp3_len h) (fun cdv A outer s H vs Q E hr h => ?_)
  obtain ⟨x0, x1, x2, rfl, h⟩ := h
  have hu := hu_of hr
  have hu64 := hr.units
  refine ⟨_, (pss_cons (ps_set (i := 3) sc.nd rfl (Or.inl rfl) (pe_call (ok__law_choice M) (hr.mono (by decide)) rfl M.g__law_choice M.F__law_choice.kp M.b__law_choice .nil (passE rfl rfl rfl rfl) (pa_cons (pv 0) (pa_cons (pe_lst (pa_cons pe_str (pa_cons pe_str (pa_cons pe_str (pa_cons pe_str pa_nil))))) pa_nil))))
    (pss_cons (ps_set (i := 4) sc.nd rfl (Or.inl rfl) (pv 2))
    (pss_cons (ps_if (pt_cmpR op_eq (pv 3) pe_str (nomark _))
      (pss_one (ps_set (i := 4) sc.nd rfl (Or.inl rfl) pe_int))
      pss_nil)
    (pss_cons (ps_if (pt_cmpR op_eq (pv 3) pe_str (nomark _))
      (pss_one (ps_set (i := 4) sc.nd rfl (Or.inl rfl) pe_int))
      pss_nil)
    (pss_cons (ps_set (i := 5) sc.nd rfl (Or.inl rfl) (pe_call (ok__law_choice M) (hr.mono (by decide)) rfl M.g__law_choice M.F__law_choice.kp M.b__law_choice .nil (passE rfl rfl rfl rfl) (pa_cons (pv 0) (pa_cons (pe_lst (pa_cons pe_str (pa_cons pe_str pa_nil))) pa_nil))))
    (pss_cons (ps_set (i := 6) sc.nd rfl (Or.inl rfl) (pe_call (ok__law_pick M) (hr.mono (by decide)) rfl M.g__law_pick M.F__law_pick.kp M.b__law_pick .nil (passE rfl rfl rfl rfl) (pa_cons (pv 0) (pa_cons pe_int pa_nil))))
    (pss_cons (ps_set (i := 7) sc.nd rfl (Or.inl rfl) (pe_call (ok__law_digits M) (hr.mono (by decide)) rfl M.g__law_digits M.F__law_digits.kp M.b__law_digits .nil (passE rfl rfl rfl rfl) (pa_cons (pv 0) (pa_cons (pv 4) (pa_cons (pe_op op_add pe_int (pe_call (ok__law_pick M) (hr.mono (by decide)) rfl M.g__law_pick M.F__law_pick.kp M.b__law_pick .nil (passE rfl rfl rfl rfl) (pa_cons (pv 0) (pa_cons pe_int pa_nil)))) pa_nil)))))
    (pss_cons (ps_if (pt_cmpR op_eq (pv 6) pe_int (nomark _))
      (pss_one (ps_set (i := 7) sc.nd rfl (Or.inl rfl) (pe_call (ok__law_digits M) (hr.mono (by decide)) rfl M.g__law_digits M.F__law_digits.kp M.b__law_digits .nil (passE rfl rfl rfl rfl) (pa_cons (pv 0) (pa_cons (pv 4) (pa_cons (pe_op op_add pe_int (pe_call (ok__law_pick M) (hr.mono (by decide)) rfl M.g__law_pick M.F__law_pick.kp M.b__law_pick .nil (passE rfl rfl rfl rfl) (pa_cons (pv 0) (pa_cons pe_int pa_nil)))) pa_nil))))))
      pss_nil)
    (pss_cons (ps_set (i := 8) sc.nd rfl (Or.inl rfl) pe_int)
    (pss_cons (ps_if (pt_cmpR op_eq (pv 6) pe_int (nomark _))
      (pss_one (ps_set (i := 8) sc.nd rfl (Or.inl rfl) (pe_op op_add pe_int (pe_call (ok__law_pick M) (hr.mono (by decide)) rfl M.g__law_pick M.F__law_pick.kp M.b__law_pick .nil (passE rfl rfl rfl rfl) (pa_cons (pv 0) (pa_cons pe_int pa_nil))))))
      pss_nil)
    (pss_cons (ps_set (i := 9) sc.nd rfl (Or.inl rfl) (pe_call (ok__law_spelled M) (hr.mono (by decide)) rfl M.g__law_spelled M.F__law_spelled.kp M.b__law_spelled .nil (passE rfl rfl rfl rfl) (pa_cons (pe_op op_cat (pe_lc (own := [("_law_k", 12)]) (g := gName 12) (tt := tYes) (by rfl) sc.nd (pi_range1 rfl M.n_range (pa_cons (pv 8) pa_nil)) (blkOk_by (own := [("_law_k", 12)]) (N := ["_law_bag_here", "_law_width", "_law_base", "_law_prefix", "_law_real", "_law_minus", "_law_kind", "_law_row", "_law_zeros", "_law_text", "_law_value_here", "_law_low", "_law_k"]) (sc := defScope s__law_built) (by decide +kernel)) (fun _ _ _ _ _ => pg_name (i := 12) sc.nd rfl (Or.inl rfl)) (fun _ _ _ _ _ => pts_nil) (fun _ _ _ _ _ => pe_int)) (pv 7)) pa_nil)))
    (pss_cons (ps_set (i := 10) sc.nd rfl (Or.inl rfl) (pe_call (ok__law_value M) (hr.mono (by decide)) rfl M.g__law_value M.F__law_value.kp M.b__law_value .nil (passE rfl rfl rfl rfl) (pa_cons (pv 4) (pa_cons (pv 7) pa_nil))))
    (pss_cons (ps_if (pt_cmpR op_eq (pv 6) pe_int (nomark _))
      (pss_cons (ps_set (i := 11) sc.nd rfl (Or.inl rfl) (pe_call (ok__law_half M) (hr.mono (by decide)) rfl M.g__law_half M.F__law_half.kp M.b__law_half .nil (passE rfl rfl rfl rfl) (pa_cons (pv 1) pa_nil)))
      (pss_cons (ps_set (i := 10) sc.nd rfl (Or.inl rfl) (pe_call (ok__law_choice M) (hr.mono (by decide)) rfl M.g__law_choice M.F__law_choice.kp M.b__law_choice .nil (passE rfl rfl rfl rfl) (pa_cons (pv 0) (pa_cons (pe_lst (pa_cons (pe_op op_sub (pv 11) pe_int) (pa_cons (pv 11) (pa_cons (pe_op op_add (pv 11) pe_int) (pa_cons (pe_op op_sub (pe_op op_mul pe_int (pv 11)) pe_int) (pa_cons (pe_op op_mul pe_int (pv 11)) (pa_cons (pe_op op_add (pe_op op_mul pe_int (pv 11)) pe_int) pa_nil))))))) pa_nil))))
      (pss_one (ps_set (i := 9) sc.nd rfl (Or.inl rfl) (pe_call (ok__law_shown M) (hr.mono (by decide)) rfl M.g__law_shown M.F__law_shown.kp M.b__law_shown .nil (passE rfl rfl rfl rfl) (pa_cons (pv 4) (pa_cons (pv 10) pa_nil)))))))
      pss_nil)
    (pss_cons (ps_if (pt_cmpR op_eq (pv 5) pe_str (nomark _))
      (pss_one (ps_set (i := 10) sc.nd rfl (Or.inl rfl) (pe_un un_neg (pv 10))))
      pss_nil)
    (pss_one (ps_ret (pe_disp (pps_cons pe_str (pv 3) (pps_cons pe_str (pv 5) (pps_cons pe_str (pv 9) (pps_cons pe_str (pv 10) (pps_cons pe_str (pv 4) pps_nil))))) (by rfl) (by rfl) (fun z => by cases z) (by decide)))))))))))))))))), ?_⟩

  obtain ⟨b, w, bn, rfl, rfl, hw, rfl, h0, h1, B, q⟩ := h
  have hq := hf_pos hw
  have e36 : Str.ofString "$" = tx [36] := by decide +kernel
  have e35 : Str.ofString "#" = tx [35] := by decide +kernel
  have e45 : Str.ofString "-" = tx [45] := by decide +kernel
  refine seq_gen fun R1 r1 => ?_
  have K1 : ∀ (pfx : List Nat) (HH : Hp), (pfx = [] ∨ pfx = [36] ∨ pfx = [35]) → BagAt HH b → Kp b H HH → R1 [some (.ref b), some (.int w), some (.int bn), some (.str (tx pfx)), none, none, none, none, none, none, none, none, none] HH := by
    intro pfx H1 hp B1 k1
    refine r1 _ _ ?_
    clear r1 R1
    refine seq_gen fun R2 r2 => ?_
    refine ⟨_, rfl, ?_⟩
    refine r2 _ _ ?_
    clear r2 R2
    refine seq_gen fun R3 r3 => ?_
    have K3 : ∀ r : Int, (pfx = [36] → r = 16) → (pfx ≠ [36] → r = bn) → R3 [some (.ref b), some (.int w), some (.int bn), some (.str (tx pfx)), some (.int r), none, none, none, none, none, none, none, none] H1 := by
      intro r ha hb
      refine r3 _ _ ?_
      clear r3 R3
      refine seq_gen fun R4 r4 => ?_
      have K4 : ∀ real : Int, Pfx bn pfx real → 2 ≤ real → real ≤ 36 → R4 [some (.ref b), some (.int w), some (.int bn), some (.str (tx pfx)), some (.int real), none, none, none, none, none, none, none, none] H1 := by
        intro real hP hr0 hr1
        refine r4 _ _ ?_
        clear r4 R4 ha hb hp
        refine seq_gen fun R5 r5 => ?_
        have K5 : ∀ (mns : List Nat) (HH : Hp), (mns = [] ∨ mns = [45]) → BagAt HH b → Kp b H HH → R5 [some (.ref b), some (.int w), some (.int bn), some (.str (tx pfx)), some (.int real), some (.str (tx mns)), none, none, none, none, none, none, none] HH := by
          intro mns H2 hm B2 k2
          refine r5 _ _ ?_
          clear r5 R5 k1 B1
          refine seq_gen fun R6 r6 => ?_
          walk_at "rd"
          intro kd H3 kd0 kd1 B3 k3
          refine r6 _ _ ?_
          clear r6 R6 B2
          have k3 := k2.trans k3
          clear k2
          refine seq_gen fun R7 r7 => ?_
          walk_at "rd"
          intro v4 H4 v40 v41 B4 k4
          walk_at "rd"
          intro l0 ns0 H5 hl0 hr0 hd0 nl0 hl0n B5 k5
          refine r7 _ _ ?_
          clear r7 R7
          have k5 := (k3.trans k4).trans k5
          clear k3 k4 B3 B4 hl0n
          refine seq_gen fun R8 r8 => ?_
          have K8 : ∀ (l : Addr) (ns : List Int) (HH : Hp), 1 ≤ ns.length → ns.length ≤ 19 → (∀ n ∈ ns, 0 ≤ n ∧ n < real) → HH l = some (.lst (ns.map V.int)) → l ≠ b → BagAt HH b → Kp b H HH → R8 [some (.ref b), some (.int w), some (.int bn), some (.str (tx pfx)), some (.int real), some (.str (tx mns)), some (.int kd), some (.ref l), none, none, none, none, none] HH := by
            intro l ns H6 hn0 hn1 hnr hl nl B6 k6
            refine r8 _ _ ?_
            clear r8 R8 k5 B5 hd0 hr0 hl0
            refine seq_gen fun R9 r9 => ?_
            refine r9 _ _ ?_
            clear r9 R9
            refine seq_gen fun R10 r10 => ?_
            have K10 : ∀ (z : Int) (HH : Hp), 0 ≤ z → z ≤ 120 → HH l = some (.lst (ns.map V.int)) → BagAt HH b → Kp b H HH → R10 [some (.ref b), some (.int w), some (.int bn), some (.str (tx pfx)), some (.int real), some (.str (tx mns)), some (.int kd), some (.ref l), some (.int z), none, none, none, none] HH := by
              intro z H7 z0 z1 hl7 B7 k7
              refine r10 _ _ ?_
              clear r10 R10 k6 B6 hl
              refine seq_gen fun R11 r11 => ?_
              have hnat : ∃ ms : List Nat, ns = ms.map (fun n : Nat => (n : Int)) := nat_of (fun n hn => (hnr n hn).1)
              obtain ⟨ms, rfl⟩ := hnat
              have hm36 : ∀ n ∈ ms, n < 36 ∧ (n : Int) < real := fun n hn => by
                have := hnr (n : Int) (List.mem_map.mpr ⟨n, hn, rfl⟩)
                exact ⟨by omega, this.2⟩
              rw [List.length_map] at hn0 hn1
              refine ⟨_, rfl, z, rfl, by omega, by omega, fun D hD => ?_⟩
              refine lc_range (lo := 0) (n := z.toNat) (LBd D (List.replicate z.toNat (V.int 0)) H7) (LBd_0 hD) ?_ ?_
              · intro i H' hi B
                refine ⟨rfl, tYes_i (iteT ?_)⟩
                exact LBd_s B hD (by rw [List.getElem?_replicate, if_pos hi]) (by rw [List.length_replicate]; omega)
              intro H8 BL
              obtain ⟨hd, s2⟩ := LBd_n BL (by rw [List.length_replicate])
              have hl8 := s2 _ _ hl7
              have B8 := B7.same s2
              have k8 := k7.trans (Kp.of s2)
              refine ⟨_, rfl, D, l, _, _, rfl, rfl, hd, hl8, by rw [List.length_replicate, List.length_map, List.length_map, sizeLine_eq]; omega, fun qa hqa => ?_⟩
              have eL : List.replicate z.toNat (V.int 0) ++ (ms.map (fun n : Nat => (n : Int))).map V.int = (List.replicate z.toNat 0 ++ ms).map (fun n : Nat => V.int n) := by
                rw [List.map_append, List.map_replicate, List.map_map]
                rfl
              rw [eL]
              have c1 := Same.put (o := .lst ((List.replicate z.toNat 0 ++ ms).map (fun n : Nat => V.int n))) (Same.refl H8) hqa
              refine ⟨_, rfl, qa, List.replicate z.toNat 0 ++ ms, rfl, upd_same, fun n hn => ?_, by rw [List.length_append, List.length_replicate]; omega, fun H9 s9 => ?_⟩
              · rcases List.mem_append.mp hn with hn | hn
                · rw [List.eq_of_mem_replicate hn]; decide
                · exact (hm36 n hn).1
              refine r11 _ _ ?_
              clear r11 R11
              have c2 := c1.trans s9
              have hl9 := c2 _ _ hl8
              have B9 := B8.same c2
              have k9 := k8.trans (Kp.of c2)
              clear c2 c1 s9 hl8 B8 k8 hd s2 BL hD hqa B7 k7 hl7 eL
              refine seq_gen fun R12 r12 => ?_
              refine ⟨_, rfl, _, rfl, _, _, rfl, real, l, ms.map (fun n : Nat => (n : Int)), rfl, hr0, hr1, rfl, hl9, ?_⟩
              refine r12 _ _ ?_
              clear r12 R12
              refine seq_gen fun R13 r13 => ?_
              have K13 : ∀ (ts : List Nat) (v0 : Int) (low : Option V) (HH : Hp), Dg ts → vOf real ts = some v0 → BagAt HH b → Kp b H HH → R13 [some (.ref b), some (.int w), some (.int bn), some (.str (tx pfx)), some (.int real), some (.str (tx mns)), some (.int kd), some (.ref l), some (.int z), some (.str (tx ts)), some (.int v0), low, none] HH := by
                intro ts v0 low H10 hdg hv B10 k10
                refine r13 _ _ ?_
                clear r13 R13 B9 k9 hl9
                refine seq_gen fun R14 r14 => ?_
                have K14 : ∀ v : Int, (v = if mns = [45] then -v0 else v0) → R14 [some (.ref b), some (.int w), some (.int bn), some (.str (tx pfx)), some (.int real), some (.str (tx mns)), some (.int kd), some (.ref l), some (.int z), some (.str (tx ts)), some (.int v), low, none] H10 := by
                  intro v ev
                  refine r14 _ _ ?_
                  intro d hd
                  obtain ⟨ob, hob⟩ := B10.some
                  have ss : ∀ o o', Same H10 (upd (upd H10 d o) d o') := fun o o' => Same.put (Same.put (Same.refl H10) hd) hd
                  refine ⟨_, rfl, _, rfl, _, rfl, _, rfl, _, rfl, upd_same, [((Sum.inr ("prefix" : Str) : Key), V.str (tx pfx)), (Sum.inr ("minus" : Str), .str (tx mns)), (Sum.inr ("text" : Str), .str (tx ts)), (Sum.inr ("value" : Str), .int v), (Sum.inr ("real" : Str), .int real)], rfl, Nat.le_of_ble_eq_true rfl, ?_⟩
                  rw [merge_built]
                  exact q d pfx mns ts v real _ ⟨hP, hm, hdg, hr0, hr1, v0, hv, ev⟩ upd_same (ne_of_none hob hd).symm (B10.same (ss _ _)) (k10.trans (Kp.of (ss _ _)))
                clear r14 q
                refine ⟨_, rfl, rfl, _, rfl, ?_⟩
                refine iteD (fun c => ?_) (fun c => ?_)
                · have c' : mns = [45] := tx_inj ((V.str.inj c).trans e45)
                  exact ⟨_, rfl, _, rfl, K14 _ (by rw [if_pos c'])⟩
                · have c' : mns ≠ [45] := fun z => c (by rw [z, e45])
                  exact K14 v0 (by rw [if_neg c'])
              clear r13 q
              refine ⟨_, rfl, rfl, _, rfl, ?_⟩
              refine iteD (fun c => ?_) (fun c => ?_)
              · walk_at "rd"
                intro H10 s10
                have B10 := B9.same s10
                have k10 := k9.trans (Kp.of s10)
                walk_at "rd"
                intro lc hlc
                obtain ⟨ob, hob⟩ := B10.some
                refine ⟨_, _, rfl, b, lc, _, rfl, rfl, upd_same, Nat.le_of_ble_eq_true rfl, Nat.le_of_ble_eq_true rfl, (ne_of_none hob hlc).symm, B10.put hlc, fun j v5 H11 hj B11 k11 => ?_⟩
                have m := List.mem_of_getElem? hj
                simp only [List.mem_cons, List.not_mem_nil, or_false] at m
                obtain ⟨y, rfl, hy0, hy1⟩ : ∃ y : Int, v5 = V.int y ∧ 0 ≤ y ∧ y < 4294967299 := by
                  rcases m with rfl | rfl | rfl | rfl | rfl | rfl <;> exact ⟨_, rfl, by omega, by omega⟩
                have kk := k10.trans ((Kp.put Kp.refl hlc).trans k11)
                obtain ⟨rn, rfl⟩ : ∃ rn : Nat, real = rn := ⟨real.toNat, by omega⟩
                have hy2 : y.natAbs < 2 ^ 140 := by omega
                refine ⟨_, rfl, _, rfl, _, _, rfl, rn, y, rfl, rfl, by omega, by omega, hy2, fun s hs => ?_⟩
                obtain ⟨ts, rfl, hdg, hv⟩ := shown_dg (by omega) (by omega) hy0 hy2 hs
                exact K13 ts y _ H11 hdg hv B11 kk
              · exact K13 _ _ none H9 (row_dg (fun n hn => (hm36 n hn).1) (by omega) (by omega) (by omega)) (vOf_row hm36 (by omega) (by omega)) B9 k9
            clear r10 q
            refine ⟨_, rfl, rfl, _, rfl, ?_⟩
            refine iteD (fun c => ?_) (fun c => ?_)
            · walk_at "rd"
              intro v5 H7 v50 v51 B7 k7
              walk_at "rd"
              exact K10 _ H7 (by omega) (by omega) (k7 _ _ nl hl) B7 (k6.trans k7)
            · exact K10 0 H6 (by omega) (by omega) hl B6 k6
          clear r8 q
          refine ⟨_, rfl, rfl, _, rfl, ?_⟩
          refine iteD (fun c => ?_) (fun c => ?_)
          · walk_at "rd"
            intro v5 H6 v50 v51 B6 k6
            walk_at "rd"
            intro l1 ns1 H7 hl1 hr2 hd1 nl1 hl1n B7 k7
            exact K8 l1 ns1 H7 (by omega) (by omega) hr2 hd1 nl1 B7 ((k5.trans k6).trans k7)
          · exact K8 l0 ns0 H5 (by omega) (by omega) hr0 hd0 nl0 B5 k5
        clear r5 q
        walk_at "rd"
        intro l hl
        obtain ⟨ob, hob⟩ := B1.some
        refine ⟨_, _, rfl, b, l, _, rfl, rfl, upd_same, Nat.le_of_ble_eq_true rfl, Nat.le_of_ble_eq_true rfl, (ne_of_none hob hl).symm, B1.put hl, fun j v5 H5 hj B5 k5 => ?_⟩
        have m := List.mem_of_getElem? hj
        simp only [List.mem_cons, List.not_mem_nil, or_false] at m
        have kk := k1.trans ((Kp.put Kp.refl hl).trans k5)
        rcases m with rfl | rfl
        · rw [← tx_nil]
          exact K5 [] H5 (.inl rfl) B5 kk
        · rw [e45]
          exact K5 [45] H5 (.inr rfl) B5 kk

      refine ⟨_, rfl, rfl, _, rfl, ?_⟩
      refine iteD (fun c => ?_) (fun c => ?_)
      · have c' : pfx = [35] := tx_inj ((V.str.inj c).trans e35)
        exact K4 10 (.inr (.inr ⟨c', rfl⟩)) (by decide) (by decide)
      · have c' : pfx ≠ [35] := fun z => c (by rw [z, e35])
        by_cases c2 : pfx = [36]
        · exact K4 r (.inr (.inl ⟨c2, ha c2⟩)) (by rw [ha c2]; decide) (by rw [ha c2]; decide)
        · have c3 : pfx = [] := by
            rcases hp with h | h | h
            · exact h
            · exact absurd h c2
            · exact absurd h c'
          exact K4 r (.inl ⟨c3, hb c2⟩) (by rw [hb c2]; omega) (by rw [hb c2]; omega)
    refine ⟨_, rfl, rfl, _, rfl, ?_⟩
    refine iteD (fun c => ?_) (fun c => ?_)
    · exact K3 16 (fun _ => rfl) (fun z => absurd (tx_inj ((V.str.inj c).trans e36)) z)
    · exact K3 bn (fun z => absurd (by rw [z, e36]) c) (fun _ => rfl)
  clear r1 q
  walk_at "rd"
  intro l hl
  obtain ⟨ob, hob⟩ := B.some
  refine ⟨_, _, rfl, b, l, _, rfl, rfl, upd_same, Nat.le_of_ble_eq_true rfl, Nat.le_of_ble_eq_true rfl, (ne_of_none hob hl).symm, B.put hl, fun j v5 H5 hj B5 k5 => ?_⟩
  have m := List.mem_of_getElem? hj
  simp only [List.mem_cons, List.not_mem_nil, or_false] at m
  have kk := (Kp.put (Kp.refl (b := b) (H := H)) hl).trans k5
  rcases m with rfl | rfl | rfl | rfl
  · rw [← tx_nil]
    exact K1 [] H5 (.inl rfl) B5 kk
  · rw [← tx_nil]
    exact K1 [] H5 (.inl rfl) B5 kk
  · rw [e36]
    exact K1 [36] H5 (.inr (.inl rfl)) B5 kk
  · rw [e35]
    exact K1 [35] H5 (.inr (.inr rfl)) B5 kk

end
end K03
namespace K03
open PySem PySem.Spec PyProof.Rows L2 My
section
variable {P : Program} {w : World} {K : PySem.W.Frag} {mg : Str → Option Value} {base : Heap}

theorem cutS_take {ts : List Nat} {p : Int} (h0 : 0 ≤ p) (h1 : p.toNat ≤ ts.length) : cutS (tx ts) none (some p) = tx (ts.take p.toNat) := by
  unfold cutS HT.sIx
  rw [tx_len, tx_cps]
  simp only [if_neg (show ¬ p < 0 by omega), List.drop_zero, Nat.sub_zero]
  rw [Nat.min_eq_left h1]
  rfl
theorem cutS_drop {ts : List Nat} {p : Int} (h0 : 0 ≤ p) (h1 : p.toNat ≤ ts.length) : cutS (tx ts) (some p) none = tx (ts.drop p.toNat) := by
  unfold cutS HT.sIx
  rw [tx_len, tx_cps]
  simp only [if_neg (show ¬ p < 0 by omega)]
  rw [Nat.min_eq_left h1, List.take_of_length_le (by rw [List.length_drop]; exact Nat.le_refl _)]
  rfl
abbrev spSpoilt : Sp := Sp2 fun x y H Q _ => ∃ (b d : Addr) (w : Int) (bn : Nat) (pfx mns ts : List Nat) (v real : Int), x = .ref b ∧ y = .ref d ∧ Wd w ∧ Bt w bn pfx mns ts v real ∧ H d = some (blO pfx mns ts v real) ∧ d ≠ b ∧ BagAt H b ∧
  ∀ (l : Addr) (css : List (List Nat)) (H' : Hp), (∀ cs ∈ css, rdV w bn cs = none ∧ (∀ c ∈ cs, c < 128) ∧ cs.length ≤ 1000) → H' l = some (.lst (css.map fun cs => V.str (tx cs))) → l ≠ b → BagAt H' b → Kp b H H' → Q (.ref l) H'

theorem ok__law_spoilt (M : TX K mg) : FnOk P w K mg base (L2.CX P w) 4 M.f__law_spoilt M.d__law_spoilt ["_law_bag_here", "_law_built_here"] (spSpoilt) := by
  have sc := sc__law_spoilt
  refine M.F__law_spoilt.okX sc (fun vs H Q E h => Sp2_len h) (fun cdv A outer s H vs Q E hr h => ?_)
  obtain ⟨x0, x1, rfl, h⟩ := h
  have hu := hu_of hr
  have hu64 := hr.units
  refine ⟨_, (pss_cons (ps_set (i := 2) sc.nd rfl (Or.inl rfl) (pe_dget hu (pv 1) pe_str (fun _ _ => rfl)))
    (pss_cons (ps_set (i := 3) sc.nd rfl (Or.inl rfl) (pe_call (ok__law_pick M) (hr.mono (by decide)) rfl M.g__law_pick M.F__law_pick.kp M.b__law_pick .nil (passE rfl rfl rfl rfl) (pa_cons (pv 0) (pa_cons (pe_callB call_len_str (by rfl) M.n_len PySem.boot_len (pa_cons (pv 2) pa_nil)) pa_nil))))
    (pss_cons (ps_set (i := 4) sc.nd rfl (Or.inl rfl) (pe_call (ok__law_strange M) (hr.mono (by decide)) rfl M.g__law_strange M.F__law_strange.kp M.b__law_strange .nil (passE rfl rfl rfl rfl) (pa_cons (pv 0) (pa_cons (pe_dget hu (pv 1) pe_str (fun _ _ => rfl)) (pa_cons (pe_cmpR op_eq (pv 3) pe_int (nomark _)) pa_nil)))))
    (pss_cons (ps_set (i := 5) sc.nd rfl (Or.inl rfl) (pe_op op_add_str (pe_dget hu (pv 1) pe_str (fun _ _ => rfl)) (pe_dget hu (pv 1) pe_str (fun _ _ => rfl))))
    (pss_one (ps_ret (pe_lst (pa_cons (pe_op op_add_str (pe_op op_add_str (pe_op op_add_str (pv 5) (pe_slice sl_str (pv 2) po_none (po_some (pv 3)))) (pv 4)) (pe_slice sl_str (pv 2) (po_some (pe_op op_add (pv 3) pe_int)) po_none)) (pa_cons (pe_op op_add_str (pe_op op_add_str (pe_op op_add_str (pv 5) (pe_slice sl_str (pv 2) po_none (po_some (pv 3)))) (pv 4)) (pe_slice sl_str (pv 2) (po_some (pv 3)) po_none)) (pa_cons (pe_op op_add_str (pe_op op_add_str (pv 5) (pv 2)) (pe_call (ok__law_strange M) (hr.mono (by decide)) rfl M.g__law_strange M.F__law_strange.kp M.b__law_strange .nil (passE rfl rfl rfl rfl) (pa_cons (pv 0) (pa_cons (pe_dget hu (pv 1) pe_str (fun _ _ => rfl)) (pa_cons pe_bl pa_nil))))) (pa_cons (pv 5) (pa_cons (pe_op op_add_str (pe_op op_add_str (pe_dget hu (pv 1) pe_str (fun _ _ => rfl)) pe_str) (pe_dget hu (pv 1) pe_str (fun _ _ => rfl))) (pa_cons (pe_op op_add_str (pe_op op_add_str (pe_op op_add_str pe_str (pe_dget hu (pv 1) pe_str (fun _ _ => rfl))) pe_str) (pv 2)) (pa_cons (pe_op op_add_str (pe_op op_add_str pe_str (pe_call (ok__law_choice M) (hr.mono (by decide)) rfl M.g__law_choice M.F__law_choice.kp M.b__law_choice .nil (passE rfl rfl rfl rfl) (pa_cons (pv 0) (pa_cons (pe_lst (pa_cons pe_str (pa_cons pe_str (pa_cons pe_str (pa_cons pe_str pa_nil))))) pa_nil)))) (pv 2)) (pa_cons (pe_op op_add_str (pe_op op_add_str pe_str (pe_call (ok__law_choice M) (hr.mono (by decide)) rfl M.g__law_choice M.F__law_choice.kp M.b__law_choice .nil (passE rfl rfl rfl rfl) (pa_cons (pv 0) (pa_cons (pe_lst (pa_cons pe_str (pa_cons pe_str (pa_cons pe_str (pa_cons pe_str pa_nil))))) pa_nil)))) (pv 2)) (pa_cons (pe_op op_add_str (pe_op op_add_str pe_str (pe_call (ok__law_choice M) (hr.mono (by decide)) rfl M.g__law_choice M.F__law_choice.kp M.b__law_choice .nil (passE rfl rfl rfl rfl) (pa_cons (pv 0) (pa_cons (pe_lst (pa_cons pe_str (pa_cons pe_str pa_nil))) pa_nil)))) (pv 2)) (pa_cons (pe_op op_add_str pe_str (pv 2)) pa_nil))))))))))))))))), ?_⟩

  obtain ⟨b, d, w, bn, pfx, mns, ts, v, real, rfl, rfl, hw, hB, hd, nd, B, q⟩ := h
  have e36 : Str.ofString "$" = tx [36] := by decide +kernel
  have e35 : Str.ofString "#" = tx [35] := by decide +kernel
  have e45 : Str.ofString "-" = tx [45] := by decide +kernel
  have e4536 : Str.ofString "-$" = tx [45, 36] := by decide +kernel
  have e4535 : Str.ofString "-#" = tx [45, 35] := by decide +kernel
  have e4545 : Str.ofString "--" = tx [45, 45] := by decide +kernel
  obtain ⟨hlp, hlm, hlt⟩ := hB.len
  have hr0 := hB.r0
  have hr1 := hB.r1
  have htn : 0 < ts.length := by
    obtain ⟨a, r, e, _⟩ := hB.d.head
    rw [e, List.length_cons]; omega
  rw [e36, e35, e45, e4536, e4535, e4545]
  refine ⟨_, rfl, _, _, rfl, bl_text hd, ?_⟩
  walk_at "rd"
  refine ⟨by rw [tx_len, sizeLine_eq]; omega, ?_⟩
  rw [tx_len]
  refine ⟨_, _, rfl, b, _, rfl, rfl, by omega, by omega, B, fun p H1 p0 p1 B1 k1 => ?_⟩
  have hd1 := k1 _ _ nd hd
  have hp : p.toNat ≤ ts.length := by omega
  refine ⟨_, rfl, _, rfl, _, _, rfl, bl_real hd1, _, rfl, rfl, ?_⟩
  refine ⟨_, _, _, rfl, b, real, _, rfl, rfl, hr0, hr1, rfl, B1, fun c H2 hc hbad hfirst B2 kk2 => ?_⟩
  have hd2 := kk2 _ _ nd hd1
  have k2 := k1.trans kk2
  clear hd1 B1 k1 kk2 hd B
  have hf : p.toNat = 0 → c ≠ 36 ∧ c ≠ 35 ∧ c ≠ 45 := fun z => hfirst (decide_eq_true (congrArg V.int (by omega)))
  refine ⟨_, rfl, _, _, rfl, bl_prefix hd2, _, rfl, _, _, rfl, bl_minus hd2, _, _, rfl, rfl, by simp only [tx_len, sizeLine_eq, List.length_append, List.length_take, List.length_drop, List.length_cons, List.length_nil]; omega, ?_⟩
  rw [tx_app]

  refine ⟨_, rfl, _, rfl, _, rfl, _, rfl, tx ts, rfl, by rw [tx_len, sizeLine_eq]; omega, ?_⟩
  rw [cutS_take p0 hp]
  refine ⟨_, _, rfl, rfl, by simp only [tx_len, sizeLine_eq, List.length_append, List.length_take, List.length_drop, List.length_cons, List.length_nil]; omega, ?_⟩
  rw [tx_app]

  refine ⟨_, rfl, _, _, rfl, rfl, by simp only [tx_len, sizeLine_eq, List.length_append, List.length_take, List.length_drop, List.length_cons, List.length_nil]; omega, ?_⟩
  rw [tx_app]

  refine ⟨_, rfl, _, rfl, _, _, rfl, rfl, _, rfl, tx ts, rfl, by rw [tx_len, sizeLine_eq]; omega, ?_⟩
  rw [cutS_drop (show 0 ≤ p + 1 by omega) (by omega)]
  refine ⟨_, _, rfl, rfl, by simp only [tx_len, sizeLine_eq, List.length_append, List.length_take, List.length_drop, List.length_cons, List.length_nil]; omega, ?_⟩
  rw [tx_app]

  refine ⟨_, rfl, _, rfl, _, rfl, _, rfl, tx ts, rfl, by rw [tx_len, sizeLine_eq]; omega, ?_⟩
  rw [cutS_take p0 hp]
  refine ⟨_, _, rfl, rfl, by simp only [tx_len, sizeLine_eq, List.length_append, List.length_take, List.length_drop, List.length_cons, List.length_nil]; omega, ?_⟩
  rw [tx_app]

  refine ⟨_, rfl, _, _, rfl, rfl, by simp only [tx_len, sizeLine_eq, List.length_append, List.length_take, List.length_drop, List.length_cons, List.length_nil]; omega, ?_⟩
  rw [tx_app]

  refine ⟨_, rfl, _, rfl, _, rfl, tx ts, rfl, by rw [tx_len, sizeLine_eq]; omega, ?_⟩
  rw [cutS_drop p0 hp]
  refine ⟨_, _, rfl, rfl, by simp only [tx_len, sizeLine_eq, List.length_append, List.length_take, List.length_drop, List.length_cons, List.length_nil]; omega, ?_⟩
  rw [tx_app]

  refine ⟨_, rfl, _, rfl, _, _, rfl, rfl, by simp only [tx_len, sizeLine_eq, List.length_append, List.length_take, List.length_drop, List.length_cons, List.length_nil]; omega, ?_⟩
  rw [tx_app]

  refine ⟨_, rfl, _, rfl, _, _, rfl, bl_real hd2, ?_⟩
  refine ⟨_, _, _, rfl, b, real, false, rfl, rfl, hr0, hr1, rfl, B2, fun c2 H3 hc2 hbad2 _ B3 kk3 => ?_⟩
  have hd3 := kk3 _ _ nd hd2
  have k3 := k2.trans kk3
  clear hd2 B2 k2 kk3
  refine ⟨_, _, rfl, rfl, by simp only [tx_len, sizeLine_eq, List.length_append, List.length_take, List.length_drop, List.length_cons, List.length_nil]; omega, ?_⟩
  rw [tx_app]

  refine ⟨_, rfl, ?_⟩
  refine ⟨_, rfl, _, _, rfl, bl_prefix hd3, _, _, rfl, rfl, by simp only [tx_len, sizeLine_eq, List.length_append, List.length_take, List.length_drop, List.length_cons, List.length_nil]; omega, ?_⟩
  rw [tx_app]

  refine ⟨_, rfl, _, _, rfl, bl_minus hd3, _, _, rfl, rfl, by simp only [tx_len, sizeLine_eq, List.length_append, List.length_take, List.length_drop, List.length_cons, List.length_nil]; omega, ?_⟩
  rw [tx_app]

  refine ⟨_, rfl, _, _, rfl, bl_prefix hd3, _, _, rfl, rfl, by simp only [tx_len, sizeLine_eq, List.length_append, List.length_take, List.length_drop, List.length_cons, List.length_nil]; omega, ?_⟩
  rw [tx_app]

  refine ⟨_, _, rfl, rfl, by simp only [tx_len, sizeLine_eq, List.length_append, List.length_take, List.length_drop, List.length_cons, List.length_nil]; omega, ?_⟩
  rw [tx_app]

  refine ⟨_, rfl, _, _, rfl, rfl, by simp only [tx_len, sizeLine_eq, List.length_append, List.length_take, List.length_drop, List.length_cons, List.length_nil]; omega, ?_⟩
  rw [tx_app]

  refine ⟨_, rfl, Nat.le_of_ble_eq_true rfl, fun l7 hl7 => ?_⟩
  obtain ⟨ob7, hob7⟩ := B3.some
  refine ⟨_, _, rfl, b, l7, [V.str (tx [36]), V.str (tx [35]), V.str (tx [45, 36]), V.str (tx [45, 35])], rfl, rfl, upd_same, Nat.le_of_ble_eq_true rfl, Nat.le_of_ble_eq_true rfl, (ne_of_none hob7 hl7).symm, B3.put hl7, fun j7 v7 H4 hj7 B4 kk7 => ?_⟩
  have k4 := k3.trans ((Kp.put Kp.refl hl7).trans kk7)
  have hd4 := kk7 _ _ nd ((Same.put (Same.refl _) hl7) _ _ hd3)
  obtain ⟨x7, rfl, hx7⟩ : ∃ x : List Nat, v7 = V.str (tx x) ∧ (x = [36] ∨ x = [35] ∨ x = [45, 36] ∨ x = [45, 35]) := by
    have m := List.mem_of_getElem? hj7
    simp only [List.mem_cons, List.not_mem_nil, or_false] at m
    rcases m with rfl | rfl | rfl | rfl
    · exact ⟨_, rfl, .inl rfl⟩
    · exact ⟨_, rfl, .inr (.inl rfl)⟩
    · exact ⟨_, rfl, .inr (.inr (.inl rfl))⟩
    · exact ⟨_, rfl, .inr (.inr (.inr (rfl)))⟩
  have lx7 : x7.length ≤ 2 := by rcases hx7 with rfl | rfl | rfl | rfl <;> decide
  have cx7 : ∀ c ∈ x7, c < 128 := by rcases hx7 with rfl | rfl | rfl | rfl <;> decide
  clear hj7 kk7 hl7 hob7
  refine ⟨_, _, rfl, rfl, by simp only [tx_len, sizeLine_eq, List.length_append, List.length_take, List.length_drop, List.length_cons, List.length_nil]; omega, ?_⟩
  rw [tx_app]

  refine ⟨_, rfl, _, _, rfl, rfl, by simp only [tx_len, sizeLine_eq, List.length_append, List.length_take, List.length_drop, List.length_cons, List.length_nil]; omega, ?_⟩
  rw [tx_app]

  refine ⟨_, rfl, Nat.le_of_ble_eq_true rfl, fun l8 hl8 => ?_⟩
  obtain ⟨ob8, hob8⟩ := B4.some
  refine ⟨_, _, rfl, b, l8, [V.str (tx [36]), V.str (tx [35]), V.str (tx [45, 36]), V.str (tx [45, 45])], rfl, rfl, upd_same, Nat.le_of_ble_eq_true rfl, Nat.le_of_ble_eq_true rfl, (ne_of_none hob8 hl8).symm, B4.put hl8, fun j8 v8 H5 hj8 B5 kk8 => ?_⟩
  have k5 := k4.trans ((Kp.put Kp.refl hl8).trans kk8)
  have hd5 := kk8 _ _ nd ((Same.put (Same.refl _) hl8) _ _ hd4)
  obtain ⟨x8, rfl, hx8⟩ : ∃ x : List Nat, v8 = V.str (tx x) ∧ (x = [36] ∨ x = [35] ∨ x = [45, 36] ∨ x = [45, 45]) := by
    have m := List.mem_of_getElem? hj8
    simp only [List.mem_cons, List.not_mem_nil, or_false] at m
    rcases m with rfl | rfl | rfl | rfl
    · exact ⟨_, rfl, .inl rfl⟩
    · exact ⟨_, rfl, .inr (.inl rfl)⟩
    · exact ⟨_, rfl, .inr (.inr (.inl rfl))⟩
    · exact ⟨_, rfl, .inr (.inr (.inr (rfl)))⟩
  have lx8 : x8.length ≤ 2 := by rcases hx8 with rfl | rfl | rfl | rfl <;> decide
  have cx8 : ∀ c ∈ x8, c < 128 := by rcases hx8 with rfl | rfl | rfl | rfl <;> decide
  clear hj8 kk8 hl8 hob8
  refine ⟨_, _, rfl, rfl, by simp only [tx_len, sizeLine_eq, List.length_append, List.length_take, List.length_drop, List.length_cons, List.length_nil]; omega, ?_⟩
  rw [tx_app]

  refine ⟨_, rfl, _, _, rfl, rfl, by simp only [tx_len, sizeLine_eq, List.length_append, List.length_take, List.length_drop, List.length_cons, List.length_nil]; omega, ?_⟩
  rw [tx_app]

  refine ⟨_, rfl, Nat.le_of_ble_eq_true rfl, fun l9 hl9 => ?_⟩
  obtain ⟨ob9, hob9⟩ := B5.some
  refine ⟨_, _, rfl, b, l9, [V.str (tx [36]), V.str (tx [35])], rfl, rfl, upd_same, Nat.le_of_ble_eq_true rfl, Nat.le_of_ble_eq_true rfl, (ne_of_none hob9 hl9).symm, B5.put hl9, fun j9 v9 H6 hj9 B6 kk9 => ?_⟩
  have k6 := k5.trans ((Kp.put Kp.refl hl9).trans kk9)
  have hd6 := kk9 _ _ nd ((Same.put (Same.refl _) hl9) _ _ hd5)
  obtain ⟨x9, rfl, hx9⟩ : ∃ x : List Nat, v9 = V.str (tx x) ∧ (x = [36] ∨ x = [35]) := by
    have m := List.mem_of_getElem? hj9
    simp only [List.mem_cons, List.not_mem_nil, or_false] at m
    rcases m with rfl | rfl
    · exact ⟨_, rfl, .inl rfl⟩
    · exact ⟨_, rfl, .inr (rfl)⟩
  have lx9 : x9.length ≤ 2 := by rcases hx9 with rfl | rfl <;> decide
  have cx9 : ∀ c ∈ x9, c < 128 := by rcases hx9 with rfl | rfl <;> decide
  clear hj9 kk9 hl9 hob9
  refine ⟨_, _, rfl, rfl, by simp only [tx_len, sizeLine_eq, List.length_append, List.length_take, List.length_drop, List.length_cons, List.length_nil]; omega, ?_⟩
  rw [tx_app]

  refine ⟨_, rfl, _, _, rfl, rfl, by simp only [tx_len, sizeLine_eq, List.length_append, List.length_take, List.length_drop, List.length_cons, List.length_nil]; omega, ?_⟩
  rw [tx_app]

  refine ⟨_, rfl, _, _, rfl, rfl, by simp only [tx_len, sizeLine_eq, List.length_append, List.length_take, List.length_drop, List.length_cons, List.length_nil]; omega, ?_⟩
  rw [tx_app]

  refine ⟨Nat.le_of_ble_eq_true rfl, fun l hl => ?_⟩
  obtain ⟨ob, hob⟩ := B6.some
  obtain ⟨lp, lm, lt⟩ := hB.lt
  have lT : ∀ c ∈ ts.take p.toNat, c < 128 := fun c hc => lt c (List.mem_of_mem_take hc)
  have lD : ∀ (k : Nat), ∀ c ∈ ts.drop k, c < 128 := fun k c hc => lt c (List.mem_of_mem_drop hc)
  have l1 : ∀ (a : Nat), a < 128 → ∀ c ∈ [a], c < 128 := fun a ha c hc => by rw [List.mem_singleton.mp hc]; exact ha
  have l45 := l1 45 (by decide)
  refine q l [pfx ++ mns ++ ts.take p.toNat ++ [c] ++ ts.drop (p + 1).toNat, pfx ++ mns ++ ts.take p.toNat ++ [c] ++ ts.drop p.toNat, pfx ++ mns ++ ts ++ [c2], pfx ++ mns, pfx ++ [45] ++ mns, [45] ++ pfx ++ [45] ++ ts, [36] ++ x7 ++ ts, [35] ++ x8 ++ ts, [45] ++ x9 ++ ts, [45, 45] ++ ts] _ ?_ upd_same (ne_of_none hob hl).symm (B6.put hl) (k6.trans (Kp.put Kp.refl hl))
  intro cs m
  simp only [List.mem_cons, List.not_mem_nil, or_false] at m
  have len : ∀ {a b : List Nat}, a.length ≤ 500 → b.length ≤ 300 → (a ++ b).length ≤ 1000 := fun h1 h2 => by rw [List.length_append]; omega
  rcases m with rfl | rfl | rfl | rfl | rfl | rfl | rfl | rfl | rfl | rfl
  · exact ⟨hB.n1 hbad hf, la (la (la (la lp lm) lT) (l1 c hc)) (lD _), by simp only [List.length_append, List.length_take, List.length_drop, List.length_cons, List.length_nil]; omega⟩
  · exact ⟨hB.n1 hbad hf, la (la (la (la lp lm) lT) (l1 c hc)) (lD _), by simp only [List.length_append, List.length_take, List.length_drop, List.length_cons, List.length_nil]; omega⟩
  · exact ⟨hB.n3 hbad2, la (la (la lp lm) lt) (l1 c2 hc2), by simp only [List.length_append, List.length_cons, List.length_nil]; omega⟩
  · exact ⟨hB.n4, la lp lm, by simp only [List.length_append]; omega⟩
  · exact ⟨hB.n5, la (la lp l45) lm, by simp only [List.length_append, List.length_cons, List.length_nil]; omega⟩
  · refine ⟨?_, la (la (la l45 lp) l45) lt, by simp only [List.length_append, List.length_cons, List.length_nil]; omega⟩
    rw [List.append_assoc, List.append_assoc]
    exact rd45 (List.mem_append_right _ (List.mem_append_left _ (List.mem_singleton.mpr rfl))) bad45
  · refine ⟨?_, la (la (l1 36 (by decide)) cx7) lt, by simp only [List.length_append, List.length_cons, List.length_nil]; omega⟩
    rw [List.append_assoc]
    rcases hx7 with rfl | rfl | rfl | rfl
    · exact rd36 (c := 36) (.inr ⟨by simp, by decide⟩) bad36
    · exact rd36 (c := 35) (.inr ⟨by simp, by decide⟩) bad35
    · exact rd36 (c := 36) (.inr ⟨by simp, by decide⟩) bad36
    · exact rd36 (c := 35) (.inr ⟨by simp, by decide⟩) bad35
  · refine ⟨?_, la (la (l1 35 (by decide)) cx8) lt, by simp only [List.length_append, List.length_cons, List.length_nil]; omega⟩
    rw [List.append_assoc]
    rcases hx8 with rfl | rfl | rfl | rfl
    · exact rd35 (c := 36) (.inr ⟨by simp, by decide⟩) bad36
    · exact rd35 (c := 35) (.inr ⟨by simp, by decide⟩) bad35
    · exact rd35 (c := 36) (.inr ⟨by simp, by decide⟩) bad36
    · exact rd35 (c := 45) (.inl (by simp)) bad45
  · refine ⟨?_, la (la l45 cx9) lt, by simp only [List.length_append, List.length_cons, List.length_nil]; omega⟩
    rw [List.append_assoc]
    rcases hx9 with rfl | rfl
    · exact rd45 (c := 36) (by simp) bad36
    · exact rd45 (c := 35) (by simp) bad35
  · refine ⟨?_, la (la l45 l45) lt, by simp only [List.length_append, List.length_cons, List.length_nil]; omega⟩
    rw [show [45, 45] ++ ts = [45] ++ ([45] ++ ts) from rfl]
    exact rd45 (c := 45) (by simp) bad45

end
end K03
namespace K03
open PySem PySem.Spec PyProof.Rows L2 My
section
variable {P : Program} {w : World} {K : PySem.W.Frag} {mg : Str → Option Value} {base : Heap}

theorem isW_out {n : Int} (h : n ≠ 16 ∧ n ≠ 24 ∧ n ≠ 32) : isW (.int n) = false := decide_eq_false (by omega)
theorem read_wide {x y : V} {cs : List Nat} {H : Hp} {Q : VK} (hx : Pl H x) (hy : Pl H y) (hw : isW x = false) (hc : ∀ c ∈ cs, c < 128) (hl : cs.length ≤ 1000) (k : ∀ t H', H' t = some (.tup [.str "BadWidth", x]) → Same H H' → Q (.ref t) H') : rdB x y (.str (tx cs)) H Q :=
  ⟨cs, fun name v => name = "BadWidth" ∧ v = x, hx, hy, rfl, hc, hl, fun name v t H' ⟨e1, e2⟩ h s => k t H' (by rw [h, e1, e2]) s, fun _ => ⟨rfl, rfl⟩, fun w e hW => (by rw [e, isW_int hW] at hw; cases hw)⟩
theorem read_base {w : Int} {y : V} {cs : List Nat} {H : Hp} {Q : VK} (hW : Wd w) (hy : Pl H y) (hb : btw y 2 36 = false) (hc : ∀ c ∈ cs, c < 128) (hl : cs.length ≤ 1000) (k : ∀ t H', H' t = some (.tup [.str "BadBase", y]) → Same H H' → Q (.ref t) H') : rdB (.int w) y (.str (tx cs)) H Q :=
  ⟨cs, fun name v => name = "BadBase" ∧ v = y, .int _, hy, rfl, hc, hl, fun name v t H' ⟨e1, e2⟩ h s => k t H' (by rw [h, e1, e2]) s, fun c => (by rw [isW_int hW] at c; cases c), fun w' e _ => ⟨fun _ => ⟨rfl, rfl⟩, fun b e2 h0 h1 => (by
    have : btw y 2 36 = true := by
      rw [e2]
      show (decide (2 ≤ b) && decide (b ≤ 36)) = true
      rw [decide_eq_true h0, decide_eq_true h1]; rfl
    rw [this] at hb; cases hb)⟩⟩
theorem show_base {y : V} {n : Int} {H : Hp} {Q : VK} (hy : Pl H y) (hb : btw y 2 36 = false) (k : ∀ t H', H' t = some (.tup [.str "BadBase", y]) → Same H H' → Q (.ref t) H') : shB y (.int n) H Q :=
  ⟨n, fun name v => name = "BadBase" ∧ v = y, hy, rfl, fun name v t H' ⟨e1, e2⟩ h s => k t H' (by rw [h, e1, e2]) s, fun _ => ⟨rfl, rfl⟩, fun bn e h0 h1 => (by
    have : btw y 2 36 = true := by
      rw [e]
      show (decide ((2 : Int) ≤ bn) && decide ((bn : Int) ≤ 36)) = true
      rw [decide_eq_true (show (2 : Int) ≤ bn by omega), decide_eq_true (show (bn : Int) ≤ 36 by omega)]; rfl
    rw [this] at hb; cases hb)⟩
abbrev spRefused : Sp := Sp1 fun x H Q _ => ∃ (b : Addr), x = .ref b ∧ BagAt H b ∧ ∀ H', BagAt H' b → Kp b H H' → Q (.bl true) H'

theorem ok__law_refused (M : TX K mg) : FnOk P w K mg base (L2.CX P w) 8 M.f__law_refused M.d__law_refused ["_law_bag_here"] (spRefused) := by
  have sc := sc__law_refused
  refine M.F__law_refused.okX sc (fun vs H Q E h => Sp1_len h) (fun cdv A outer s H vs Q E hr h => ?_)
  obtain ⟨x0, rfl, h⟩ := h
  have hu := hu_of hr
  have hu64 := hr.units
  refine ⟨_, (pss_cons (ps_set (i := 1) sc.nd rfl (Or.inl rfl) (pe_call (ok__law_choice M) (hr.mono (by decide)) rfl M.g__law_choice M.F__law_choice.kp M.b__law_choice .nil (passE rfl rfl rfl rfl) (pa_cons (pv 0) (pa_cons (pe_lst (pa_cons pe_int (pa_cons pe_int (pa_cons pe_int pa_nil)))) pa_nil))))
    (pss_cons (ps_set (i := 2) sc.nd rfl (Or.inl rfl) (pe_op op_add pe_int (pe_call (ok__law_pick M) (hr.mono (by decide)) rfl M.g__law_pick M.F__law_pick.kp M.b__law_pick .nil (passE rfl rfl rfl rfl) (pa_cons (pv 0) (pa_cons pe_int pa_nil)))))
    (pss_cons (ps_set (i := 3) sc.nd rfl (Or.inl rfl) (pe_call (ok__law_choice M) (hr.mono (by decide)) rfl M.g__law_choice M.F__law_choice.kp M.b__law_choice .nil (passE rfl rfl rfl rfl) (pa_cons (pv 0) (pa_cons (pe_lst (pa_cons pe_int (pa_cons pe_int (pa_cons pe_int (pa_cons pe_int (pa_cons pe_int (pa_cons (pe_un un_neg pe_int) (pa_cons pe_bl (pa_cons pe_non (pa_cons pe_str (pa_cons (pe_op op_add pe_int (pe_call (ok__law_pick M) (hr.mono (by decide)) rfl M.g__law_pick M.F__law_pick.kp M.b__law_pick .nil (passE rfl rfl rfl rfl) (pa_cons (pv 0) (pa_cons pe_int pa_nil)))) pa_nil))))))))))) pa_nil))))
    (pss_cons (ps_set (i := 4) sc.nd rfl (Or.inl rfl) (pe_call (ok__law_odd_base M) (hr.mono (by decide)) rfl M.g__law_odd_base M.F__law_odd_base.kp M.b__law_odd_base .nil (passE rfl rfl rfl rfl) (pa_cons (pv 0) pa_nil)))
    (pss_cons (ps_set (i := 5) sc.nd rfl (Or.inl rfl) (pe_call (ok__law_pick M) (hr.mono (by decide)) rfl M.g__law_pick M.F__law_pick.kp M.b__law_pick .nil (passE rfl rfl rfl rfl) (pa_cons (pv 0) (pa_cons pe_int pa_nil))))
    (pss_cons (ps_set (i := 6) sc.nd rfl (Or.inl rfl) (pe_call (ok__law_choice M) (hr.mono (by decide)) rfl M.g__law_choice M.F__law_choice.kp M.b__law_choice .nil (passE rfl rfl rfl rfl) (pa_cons (pv 0) (pa_cons (pe_lst (pa_cons pe_str (pa_cons pe_str (pa_cons pe_str (pa_cons pe_str (pa_cons pe_str (pa_cons pe_str (pa_cons (pe_call (ok__law_shown M) (hr.mono (by decide)) rfl M.g__law_shown M.F__law_shown.kp M.b__law_shown .nil (passE rfl rfl rfl rfl) (pa_cons (pv 2) (pa_cons (pv 5) pa_nil))) pa_nil)))))))) pa_nil))))
    (pss_cons (ps_if (pt_not (pt_val (pe_call (ok__law_same M) (hr.mono (by decide)) rfl M.g__law_same M.F__law_same.kp M.b__law_same .nil (passE rfl rfl rfl rfl) (pa_cons (pe_call (ok__law_read M) (hr.mono (by decide)) rfl M.g__law_read M.F__law_read.kp M.b__law_read .nil (passE rfl rfl rfl rfl) (pa_cons (pv 3) (pa_cons (pv 2) (pa_cons (pv 6) pa_nil)))) (pa_cons (pe_tup (pa_cons pe_str (pa_cons (pv 3) pa_nil))) pa_nil)))))
      (pss_one (ps_ret pe_bl))
      pss_nil)
    (pss_cons (ps_if (pt_not (pt_val (pe_call (ok__law_same M) (hr.mono (by decide)) rfl M.g__law_same M.F__law_same.kp M.b__law_same .nil (passE rfl rfl rfl rfl) (pa_cons (pe_call (ok__law_read M) (hr.mono (by decide)) rfl M.g__law_read M.F__law_read.kp M.b__law_read .nil (passE rfl rfl rfl rfl) (pa_cons (pv 3) (pa_cons (pv 4) (pa_cons (pv 6) pa_nil)))) (pa_cons (pe_tup (pa_cons pe_str (pa_cons (pv 3) pa_nil))) pa_nil)))))
      (pss_one (ps_ret pe_bl))
      pss_nil)
    (pss_cons (ps_if (pt_not (pt_val (pe_call (ok__law_same M) (hr.mono (by decide)) rfl M.g__law_same M.F__law_same.kp M.b__law_same .nil (passE rfl rfl rfl rfl) (pa_cons (pe_call (ok__law_read M) (hr.mono (by decide)) rfl M.g__law_read M.F__law_read.kp M.b__law_read .nil (passE rfl rfl rfl rfl) (pa_cons (pv 1) (pa_cons (pv 4) (pa_cons (pv 6) pa_nil)))) (pa_cons (pe_tup (pa_cons pe_str (pa_cons (pv 4) pa_nil))) pa_nil)))))
      (pss_one (ps_ret pe_bl))
      pss_nil)
    (pss_one (ps_ret (pe_call (ok__law_same M) (hr.mono (by decide)) rfl M.g__law_same M.F__law_same.kp M.b__law_same .nil (passE rfl rfl rfl rfl) (pa_cons (pe_call (ok__law_show M) (hr.mono (by decide)) rfl M.g__law_show M.F__law_show.kp M.b__law_show .nil (passE rfl rfl rfl rfl) (pa_cons (pv 4) (pa_cons (pv 5) pa_nil))) (pa_cons (pe_tup (pa_cons pe_str (pa_cons (pv 4) pa_nil))) pa_nil)))))))))))))), ?_⟩

  obtain ⟨b, rfl, B, q⟩ := h
  walk_at "rd"
  intro l1 hl1
  obtain ⟨ob, hob⟩ := B.some
  refine ⟨_, _, rfl, b, l1, _, rfl, rfl, upd_same, Nat.le_of_ble_eq_true rfl, Nat.le_of_ble_eq_true rfl, (ne_of_none hob hl1).symm, B.put hl1, fun j v H1 hj B1 k1 => ?_⟩
  obtain ⟨w, rfl, hw⟩ : ∃ w : Int, v = V.int w ∧ Wd w := by
    have m := List.mem_of_getElem? hj
    simp only [List.mem_cons, List.not_mem_nil, or_false] at m
    rcases m with rfl | rfl | rfl
    · exact ⟨_, rfl, .inl rfl⟩
    · exact ⟨_, rfl, .inr (.inl rfl)⟩
    · exact ⟨_, rfl, .inr (.inr rfl)⟩
  have k1 := (Kp.put (Kp.refl (b := b) (H := H)) hl1).trans k1
  clear hj hl1 hob B
  walk_at "rd"
  intro pb H2 pb0 pb1 B2 k2
  have k2 := k1.trans k2
  walk_at "rd"
  intro pw H3 pw0 pw1 B3 k3
  have k3 := k2.trans k3
  walk_at "rd"
  intro l2 hl2
  obtain ⟨ob3, hob3⟩ := B3.some
  refine ⟨_, _, rfl, b, l2, _, rfl, rfl, upd_same, Nat.le_of_ble_eq_true rfl, Nat.le_of_ble_eq_true rfl, (ne_of_none hob3 hl2).symm, B3.put hl2, fun j2 wide H4 hj2 B4 k4 => ?_⟩
  obtain ⟨dw, hdw, hwide⟩ : ∃ d, (∀ H, PD H wide d) ∧ isW wide = false := by
    have m := List.mem_of_getElem? hj2
    simp only [List.mem_cons, List.not_mem_nil, or_false] at m
    rcases m with rfl | rfl | rfl | rfl | rfl | rfl | rfl | rfl | rfl | rfl
    · exact ⟨_, fun _ => .int _, isW_out (by omega)⟩
    · exact ⟨_, fun _ => .int _, isW_out (by omega)⟩
    · exact ⟨_, fun _ => .int _, isW_out (by omega)⟩
    · exact ⟨_, fun _ => .int _, isW_out (by omega)⟩
    · exact ⟨_, fun _ => .int _, isW_out (by omega)⟩
    · exact ⟨_, fun _ => .int _, isW_out (by omega)⟩
    · exact ⟨_, fun _ => .bl _, rfl⟩
    · exact ⟨_, fun _ => .non, rfl⟩
    · exact ⟨_, fun _ => .str _ (by decide +kernel), rfl⟩
    · exact ⟨_, fun _ => .int _, isW_out (by omega)⟩
  have k4 := k3.trans ((Kp.put Kp.refl hl2).trans k4)
  clear hj2 hl2 hob3 B3 k3 k2 k1 B2 B1
  walk_at "rd"
  intro odd d H5 pd hodd B5 k5
  have k5 := k4.trans k5
  walk_at "rd"
  intro n H6 n0 n1 B6 k6
  have pd6 := pd.kp B5 k6
  have k6 := k5.trans k6
  clear pd B5 k5 B4 k4
  walk_at "rd"
  have e2 : ((2 + pb).toNat : Int) = 2 + pb := by omega
  refine ⟨(2 + pb).toNat, n, congrArg V.int e2.symm, rfl, by omega, by omega, by omega, fun s hs => ?_⟩
  obtain ⟨cs0, rfl, hc0, hl0, _⟩ := rd_shown (w := w) hw (by omega) (by omega) (by omega) hs
  walk_at "rd"
  intro l3 hl3
  obtain ⟨ob, hob⟩ := B6.some
  refine ⟨_, _, rfl, b, l3, _, rfl, rfl, upd_same, Nat.le_of_ble_eq_true rfl, Nat.le_of_ble_eq_true rfl, (ne_of_none hob hl3).symm, B6.put hl3, fun j3 word H7 hj3 B7 k7 => ?_⟩
  have e30 : Str.ofString "0" = tx [48] := by decide +kernel
  have e31 : Str.ofString "$1" = tx [36, 49] := by decide +kernel
  have e32 : Str.ofString "#1" = tx [35, 49] := by decide +kernel
  have e33 : Str.ofString "-1" = tx [45, 49] := by decide +kernel
  have e34 : Str.ofString "x y" = tx [120, 32, 121] := by decide +kernel
  obtain ⟨cs, rfl, hc, hl⟩ : ∃ cs, word = V.str (tx cs) ∧ (∀ c ∈ cs, c < 128) ∧ cs.length ≤ 1000 := by
    have m := List.mem_of_getElem? hj3
    simp only [List.mem_cons, List.not_mem_nil, or_false] at m
    rcases m with rfl | rfl | rfl | rfl | rfl | rfl | rfl
    · exact ⟨_, congrArg V.str e30, by decide, by decide⟩
    · exact ⟨_, congrArg V.str e31, by decide, by decide⟩
    · exact ⟨_, congrArg V.str e32, by decide, by decide⟩
    · exact ⟨_, congrArg V.str e33, by decide, by decide⟩
    · exact ⟨[], congrArg V.str tx_nil.symm, by decide, by decide⟩
    · exact ⟨_, congrArg V.str e34, by decide, by decide⟩
    · exact ⟨_, rfl, hc0, hl0⟩
  have pd7 := (pd6.same (Same.put (Same.refl H6) hl3)).kp (B6.put hl3) k7
  have k7 := k6.trans ((Kp.put Kp.refl hl3).trans k7)
  clear hj3 hl3 hob B6 k6 pd6 hs hc0 hl0 e30 e31 e32 e33 e34
  refine ⟨_, rfl, _, rfl, _, rfl, _, _, _, rfl, read_wide (hdw _).pl (.int _) hwide hc hl fun t1 H8 ht1 s8 => ?_⟩
  refine ⟨_, rfl, Nat.le_of_ble_eq_true rfl, fun u1 hu1 => ?_⟩
  have z1 := Same.put (o := .tup [V.str "BadWidth", wide]) (Same.refl _) hu1
  refine ⟨_, _, rfl, t1, u1, "BadWidth", wide, dw, rfl, rfl, z1 _ _ ht1, upd_same, hdw _, true, rfl, ?_⟩
  have s81 := s8.trans z1
  refine ⟨_, rfl, _, rfl, _, rfl, _, _, _, rfl, read_wide (hdw _).pl (pd7.same s81).pl hwide hc hl fun t2 H9 ht2 s9 => ?_⟩
  refine ⟨_, rfl, Nat.le_of_ble_eq_true rfl, fun u2 hu2 => ?_⟩
  have z2 := Same.put (o := .tup [V.str "BadWidth", wide]) (Same.refl _) hu2
  refine ⟨_, _, rfl, t2, u2, "BadWidth", wide, dw, rfl, rfl, z2 _ _ ht2, upd_same, hdw _, true, rfl, ?_⟩
  have s92 := s81.trans (s9.trans z2)
  refine ⟨_, rfl, _, rfl, _, rfl, _, _, _, rfl, read_base hw (pd7.same s92).pl hodd hc hl fun t3 H10 ht3 s10 => ?_⟩
  refine ⟨_, rfl, Nat.le_of_ble_eq_true rfl, fun u3 hu3 => ?_⟩
  have z3 := Same.put (o := .tup [V.str "BadBase", odd]) (Same.refl _) hu3
  refine ⟨_, _, rfl, t3, u3, "BadBase", odd, d, rfl, rfl, z3 _ _ ht3, upd_same, pd7.same (s92.trans (s10.trans z3)), true, rfl, ?_⟩
  have s103 := s92.trans (s10.trans z3)
  refine ⟨_, rfl, _, rfl, _, _, rfl, show_base (pd7.same s103).pl hodd fun t4 H11 ht4 s11 => ?_⟩
  refine ⟨_, rfl, Nat.le_of_ble_eq_true rfl, fun u4 hu4 => ?_⟩
  have z4 := Same.put (o := .tup [V.str "BadBase", odd]) (Same.refl _) hu4
  refine ⟨_, _, rfl, t4, u4, "BadBase", odd, d, rfl, rfl, z4 _ _ ht4, upd_same, pd7.same (s103.trans (s11.trans z4)), ?_⟩
  have s114 := s103.trans (s11.trans z4)
  exact q _ (B7.same s114) (k7.trans (Kp.of s114))

end
end K03
namespace K03
open PySem PySem.Spec PyProof.Rows L2 My
section
variable {P : Program} {w : World} {K : PySem.W.Frag} {mg : Str → Option Value} {base : Heap}

abbrev spLaw (K : PySem.W.Frag) : Sp := Sp1 fun x H Q _ => ∃ (a : Addr) (ns : List Int), x = .ref a ∧ SqL K H a (ns.map V.int) ∧ ns.length ≤ 63 ∧ ∀ H', Q (.bl true) H'

theorem ok_law (M : TX K mg) : FnOk P w K mg base (L2.CX P w) 10 M.f_law M.d_law ["_law_script"] (spLaw K) := by
  have sc := sc_law
  refine M.F_law.okX sc (fun vs H Q E h => Sp1_len h) (fun cdv A outer s H vs Q E hr h => ?_)
  obtain ⟨x0, rfl, h⟩ := h
  have hu := hu_of hr
  have hu64 := hr.units
  refine ⟨_, (pss_cons (ps_set (i := 1) sc.nd rfl (Or.inl rfl) (pe_call (ok__law_bag M) (hr.mono (by decide)) rfl M.g__law_bag M.F__law_bag.kp M.b__law_bag .nil (passE rfl rfl rfl rfl) (pa_cons (pv 0) pa_nil)))
    (pss_cons (ps_for (passes_of rfl) rfl (pi_tupK K (pi_tup (pe_tup (pa_cons pe_int (pa_cons pe_int (pa_cons pe_int pa_nil)))))) (pg_name (i := 2) sc.nd rfl (Or.inl rfl))
      (pss_cons (ps_set (i := 3) sc.nd rfl (Or.inl rfl) (pe_call (ok__law_choice M) (hr.mono (by decide)) rfl M.g__law_choice M.F__law_choice.kp M.b__law_choice .nil (passE rfl rfl rfl rfl) (pa_cons (pv 1) (pa_cons (pe_lst (pa_cons pe_int (pa_cons pe_int (pa_cons pe_int (pa_cons pe_int (pa_cons pe_int (pa_cons pe_int (pa_cons pe_int (pa_cons (pe_op op_add pe_int (pe_call (ok__law_pick M) (hr.mono (by decide)) rfl M.g__law_pick M.F__law_pick.kp M.b__law_pick .nil (passE rfl rfl rfl rfl) (pa_cons (pv 1) (pa_cons pe_int pa_nil)))) pa_nil))))))))) pa_nil))))
      (pss_cons (ps_if (pt_not (pt_val (pe_call (ok__law_shown_right M) (hr.mono (by decide)) rfl M.g__law_shown_right M.F__law_shown_right.kp M.b__law_shown_right .nil (passE rfl rfl rfl rfl) (pa_cons (pv 1) (pa_cons (pv 2) (pa_cons (pv 3) pa_nil))))))
        (pss_one (ps_ret pe_bl))
        pss_nil)
      (pss_one (ps_for (passes_of rfl) rfl (pi_range1 rfl M.n_range (pa_cons pe_int pa_nil)) (pg_name (i := 4) sc.nd rfl (Or.inl rfl))
        (pss_cons (ps_set (i := 5) sc.nd rfl (Or.inl rfl) (pe_call (ok__law_built M) (hr.mono (by decide)) rfl M.g__law_built M.F__law_built.kp M.b__law_built .nil (passE rfl rfl rfl rfl) (pa_cons (pv 1) (pa_cons (pv 2) (pa_cons (pv 3) pa_nil)))))
        (pss_cons (ps_set (i := 6) sc.nd rfl (Or.inl rfl) (pe_op op_add_str (pe_op op_add_str (pe_dget hu (pv 5) pe_str (fun _ _ => rfl)) (pe_dget hu (pv 5) pe_str (fun _ _ => rfl))) (pe_dget hu (pv 5) pe_str (fun _ _ => rfl))))
        (pss_cons (ps_if (pt_not (pt_val (pe_call (ok__law_reads M) (hr.mono (by decide)) rfl M.g__law_reads M.F__law_reads.kp M.b__law_reads .nil (passE rfl rfl rfl rfl) (pa_cons (pv 2) (pa_cons (pv 3) (pa_cons (pv 6) (pa_cons (pe_call (ok__law_value_due M) (hr.mono (by decide)) rfl M.g__law_value_due M.F__law_value_due.kp M.b__law_value_due .nil (passE rfl rfl rfl rfl) (pa_cons (pv 2) (pa_cons (pe_dget hu (pv 5) pe_str (fun _ _ => rfl)) pa_nil))) pa_nil)))))))
          (pss_one (ps_ret pe_bl))
          pss_nil)
        (pss_one (ps_for (passes_of rfl) rfl (pi_listK K (pi_list (pe_call (ok__law_spoilt M) (hr.mono (by decide)) rfl M.g__law_spoilt M.F__law_spoilt.kp M.b__law_spoilt .nil (passE rfl rfl rfl rfl) (pa_cons (pv 1) (pa_cons (pv 5) pa_nil))))) (pg_name (i := 7) sc.nd rfl (Or.inl rfl))
          (pss_one (ps_if (pt_not (pt_val (pe_call (ok__law_reads M) (hr.mono (by decide)) rfl M.g__law_reads M.F__law_reads.kp M.b__law_reads .nil (passE rfl rfl rfl rfl) (pa_cons (pv 2) (pa_cons (pv 3) (pa_cons (pv 7) (pa_cons pe_non pa_nil)))))))
            (pss_one (ps_ret pe_bl))
            pss_nil))))))))))))
    (pss_one (ps_ret (pe_call (ok__law_refused M) (hr.mono (by decide)) rfl M.g__law_refused M.F__law_refused.kp M.b__law_refused .nil (passE rfl rfl rfl rfl) (pa_cons (pv 1) pa_nil)))))), ?_⟩

  obtain ⟨a, ns, rfl, hS, hl, k⟩ := h
  refine ⟨_, rfl, _, rfl, a, ns, rfl, hS, hl, fun b H1 hb B s1 => ?_⟩
  refine ⟨Nat.le_of_ble_eq_true rfl, fun wp hwp => ?_⟩
  have hw5 : upd H1 wp (.tup [V.int 16, V.int 24, V.int 32]) wp = some (.tup [V.int 16, V.int 24, V.int 32]) := upd_same
  have B5 := B.put (o := .tup [V.int 16, V.int 24, V.int 32]) hwp
  have nw := B5.ne_tup hw5
  refine ⟨wp, rfl, ⟨_, SqT.of hw5⟩, ?_⟩
  refine for_tup (K := K) (a := wp) (xs := [V.int 16, V.int 24, V.int 32]) (fun i σ H' => ∃ v2 v3 v4 v5 v6 v7, σ = [some (.ref a), some (.ref b), v2, v3, v4, v5, v6, v7] ∧ BagAt H' b ∧ H' wp = some (.tup [V.int 16, V.int 24, V.int 32])) ⟨none, none, none, none, none, none, rfl, B5, hw5⟩ (fun i σ H' _ ⟨_, _, _, _, _, _, _, _, h⟩ => SqT.of h) ?_ ?_
  · rintro i x σ H6 hi ⟨v2, v3, v4, v5, v6, v7, rfl, B6, hw6⟩
    obtain ⟨wd, rfl, hwd⟩ : ∃ w, x = V.int w ∧ Wd w := by
      have m := List.mem_of_getElem? hi
      simp only [List.mem_cons, List.not_mem_nil, or_false] at m
      rcases m with rfl | rfl | rfl
      · exact ⟨_, rfl, .inl rfl⟩
      · exact ⟨_, rfl, .inr (.inl rfl)⟩
      · exact ⟨_, rfl, .inr (.inr rfl)⟩
    clear hi B5 hw5 B s1
    walk_at "rd"
    intro pb H7 pb0 pb1 B7 k7
    walk_at "rd"
    intro lb hlb
    obtain ⟨ob, hob⟩ := B7.some
    refine ⟨_, _, rfl, b, lb, _, rfl, rfl, upd_same, Nat.le_of_ble_eq_true rfl, Nat.le_of_ble_eq_true rfl, (ne_of_none hob hlb).symm, B7.put hlb, fun j vb H8 hj B8 k8 => ?_⟩
    obtain ⟨bn, rfl, h2, h3⟩ : ∃ bn : Nat, vb = V.int bn ∧ 2 ≤ bn ∧ bn ≤ 36 := by
      have m := List.mem_of_getElem? hj
      simp only [List.mem_cons, List.not_mem_nil, or_false] at m
      rcases m with rfl | rfl | rfl | rfl | rfl | rfl | rfl | rfl
      · exact ⟨2, rfl, by decide, by decide⟩
      · exact ⟨3, rfl, by decide, by decide⟩
      · exact ⟨8, rfl, by decide, by decide⟩
      · exact ⟨10, rfl, by decide, by decide⟩
      · exact ⟨16, rfl, by decide, by decide⟩
      · exact ⟨35, rfl, by decide, by decide⟩
      · exact ⟨36, rfl, by decide, by decide⟩
      · exact ⟨(2 + pb).toNat, congrArg V.int (show 2 + pb = (((2 + pb).toNat : Nat) : Int) by omega), by omega, by omega⟩
    have hw8 := ((k7.trans (Kp.put Kp.refl hlb)).trans k8) _ _ nw hw6
    clear hj hlb hob B7 k7 k8 B6 hw6
    refine ⟨_, rfl, _, rfl, _, rfl, _, _, _, rfl, b, wd, bn, rfl, rfl, hwd, rfl, h2, h3, B8, fun H9 B9 k9 => ?_⟩
    refine ⟨true, rfl, ?_⟩
    have hw9 := k9 _ _ nw hw8
    refine ⟨3, rfl, by decide, by decide, ?_⟩
    refine for_range (lo := 0) (n := 3) (fun i σ H' => ∃ v4 v5 v6 v7, σ = [some (.ref a), some (.ref b), some (.int wd), some (.int bn), v4, v5, v6, v7] ∧ BagAt H' b ∧ H' wp = some (.tup [V.int 16, V.int 24, V.int 32])) ⟨v4, v5, v6, v7, rfl, B9, hw9⟩ ?_ ?_
    · rintro i2 σ H10 hi2 ⟨v4, v5, v6, v7, rfl, B10, hw10⟩
      clear hw8 B8 k9 hw9 B9
      refine ⟨_, rfl, _, rfl, _, rfl, _, _, _, rfl, b, wd, bn, rfl, rfl, hwd, rfl, h2, h3, B10, fun d pfx mns ts v real H11 hBt hd nd B11 k11 => ?_⟩
      have hw11 := k11 _ _ nw hw10
      obtain ⟨q1, q2, q3⟩ := hBt.len
      obtain ⟨p1, p2, p3⟩ := hBt.lt
      refine ⟨_, rfl, _, _, rfl, bl_prefix hd, _, rfl, _, _, rfl, bl_minus hd, _, _, rfl, rfl, by simp only [tx_len, sizeLine_eq, List.length_append]; omega, ?_⟩
      rw [tx_app]
      refine ⟨_, rfl, _, _, rfl, bl_text hd, _, _, rfl, rfl, by simp only [tx_len, sizeLine_eq, List.length_append]; omega, ?_⟩
      rw [tx_app]
      refine ⟨_, rfl, _, rfl, _, rfl, _, rfl, _, rfl, _, _, rfl, bl_value hd, ?_⟩
      refine ⟨_, _, rfl, wd, v, rfl, rfl, hwd, fun H12 s12 => ?_⟩
      refine ⟨_, _, _, _, rfl, wd, bn, pfx ++ mns ++ ts, rfl, hwd, rfl, by omega, by omega, rfl, la (la p1 p2) p3, by simp only [List.length_append]; omega, by rw [hBt.reads hwd], fun H13 s13 => ?_⟩
      refine ⟨true, rfl, ?_⟩
      have s1213 := s12.trans s13
      refine ⟨_, rfl, _, rfl, _, _, rfl, b, d, wd, bn, pfx, mns, ts, v, real, rfl, rfl, hwd, hBt, s1213 _ _ hd, nd, B11.same s1213, fun ls css H14 hcs hls nls B14 k14 => ?_⟩
      have hw14 := k14 _ _ nw (s1213 _ _ hw11)
      refine ⟨ls, rfl, ⟨_, SqL.of hls⟩, ?_⟩
      clear hd B11 k11 s12 s13 s1213 hBt k14 B10 hw10 hw11
      refine for_list (K := K) (a := ls) (xs := css.map fun cs => V.str (tx cs)) (fun i σ H' => Same H14 H' ∧ ∃ v6 v7, σ = [some (.ref a), some (.ref b), some (.int wd), some (.int bn), some (.int (0 + i2)), some (.ref d), v6, v7]) ⟨Same.refl H14, _, v7, rfl⟩ (fun i σ H' _ h => SqL.of (h.1 _ _ hls)) ?_ ?_
      · rintro i3 x σ H15 hi3 ⟨sA, v6, v7, rfl⟩
        obtain ⟨cs, hm, rfl⟩ := List.mem_map.mp (List.mem_of_getElem? hi3)
        obtain ⟨c1, c2, c3⟩ := hcs cs hm
        refine ⟨_, rfl, _, rfl, _, rfl, ?_⟩
        refine ⟨_, _, _, _, rfl, wd, bn, cs, rfl, hwd, rfl, by omega, by omega, rfl, c2, c3, by rw [c1]; rfl, fun H16 s16 => ?_⟩
        exact ⟨true, rfl, sA.trans s16, _, _, rfl⟩
      · rintro σ H15 ⟨sA, v6, v7, rfl⟩
        exact ⟨_, _, _, _, rfl, B14.same sA, sA _ _ hw14⟩
    · rintro σ H10 ⟨v4, v5, v6, v7, rfl, B10, hw10⟩
      exact ⟨_, _, _, _, _, _, rfl, B10, hw10⟩
  · rintro σ H9 ⟨v2, v3, v4, v5, v6, v7, rfl, B9, hw9⟩
    exact ⟨_, rfl, _, rfl, b, rfl, B9, fun H' _ _ => k H'⟩

end
end K03
namespace K03
open PySem PySem.Spec PyProof.Rows L2 My
theorem all_mk {K : PySem.W.Frag} {h : Heap} {mg : Str → Option Value} {fa : Addr} (X : K.In h) (G : h.Ns mainGlobals mg) (hfa : mg "law" = some (.ref fa))
    {f_BadWidth___init__ : Addr}
    {oc_BadWidth___init__ kV_BadWidth___init__ dc_BadWidth___init__ pm_BadWidth___init__ cd_BadWidth___init__ ct_BadWidth___init__ : Value} {od_BadWidth___init__ an_BadWidth___init__ : Option Addr} {sl_BadWidth___init__ : Array (Option Value)}
    {f_BadBase___init__ : Addr}
    {oc_BadBase___init__ kV_BadBase___init__ dc_BadBase___init__ pm_BadBase___init__ cd_BadBase___init__ ct_BadBase___init__ : Value} {od_BadBase___init__ an_BadBase___init__ : Option Addr} {sl_BadBase___init__ : Array (Option Value)}
    {f_is_integer : Addr}
    {oc_is_integer kV_is_integer dc_is_integer pm_is_integer cd_is_integer ct_is_integer : Value} {od_is_integer an_is_integer : Option Addr} {sl_is_integer : Array (Option Value)}
    {f_is_between : Addr}
    {oc_is_between kV_is_between dc_is_between pm_is_between cd_is_between ct_is_between : Value} {od_is_between an_is_between : Option Addr} {sl_is_between : Array (Option Value)}
    {f_is_base : Addr}
    {oc_is_base kV_is_base dc_is_base pm_is_base cd_is_base ct_is_base : Value} {od_is_base an_is_base : Option Addr} {sl_is_base : Array (Option Value)}
    {f_check_width : Addr}
    {oc_check_width kV_check_width dc_check_width pm_check_width cd_check_width ct_check_width : Value} {od_check_width an_check_width : Option Addr} {sl_check_width : Array (Option Value)}
    {f_check_base : Addr}
    {oc_check_base kV_check_base dc_check_base pm_check_base cd_check_base ct_check_base : Value} {od_check_base an_check_base : Option Addr} {sl_check_base : Array (Option Value)}
    {f_half : Addr}
    {oc_half kV_half dc_half pm_half cd_half ct_half : Value} {od_half an_half : Option Addr} {sl_half : Array (Option Value)}
    {f_wrap : Addr}
    {oc_wrap kV_wrap dc_wrap pm_wrap cd_wrap ct_wrap : Value} {od_wrap an_wrap : Option Addr} {sl_wrap : Array (Option Value)}
    {f_show : Addr}
    {oc_show kV_show dc_show pm_show cd_show ct_show : Value} {od_show an_show : Option Addr} {sl_show : Array (Option Value)}
    {f_value_of : Addr}
    {oc_value_of kV_value_of dc_value_of pm_value_of cd_value_of ct_value_of : Value} {od_value_of an_value_of : Option Addr} {sl_value_of : Array (Option Value)}
    {f_read_number : Addr}
    {oc_read_number kV_read_number dc_read_number pm_read_number cd_read_number ct_read_number : Value} {od_read_number an_read_number : Option Addr} {sl_read_number : Array (Option Value)}
    {f__law_bag : Addr}
    {oc__law_bag kV__law_bag dc__law_bag pm__law_bag cd__law_bag ct__law_bag : Value} {od__law_bag an__law_bag : Option Addr} {sl__law_bag : Array (Option Value)}
    {f__law_pick : Addr}
    {oc__law_pick kV__law_pick dc__law_pick pm__law_pick cd__law_pick ct__law_pick : Value} {od__law_pick an__law_pick : Option Addr} {sl__law_pick : Array (Option Value)}
    {f__law_choice : Addr}
    {oc__law_choice kV__law_choice dc__law_choice pm__law_choice cd__law_choice ct__law_choice : Value} {od__law_choice an__law_choice : Option Addr} {sl__law_choice : Array (Option Value)}
    {f__law_integer : Addr}
    {oc__law_integer kV__law_integer dc__law_integer pm__law_integer cd__law_integer ct__law_integer : Value} {od__law_integer an__law_integer : Option Addr} {sl__law_integer : Array (Option Value)}
    {f__law_half : Addr}
    {oc__law_half kV__law_half dc__law_half pm__law_half cd__law_half ct__law_half : Value} {od__law_half an__law_half : Option Addr} {sl__law_half : Array (Option Value)}
    {f__law_wrap : Addr}
    {oc__law_wrap kV__law_wrap dc__law_wrap pm__law_wrap cd__law_wrap ct__law_wrap : Value} {od__law_wrap an__law_wrap : Option Addr} {sl__law_wrap : Array (Option Value)}
    {f__law_num : Addr}
    {oc__law_num kV__law_num dc__law_num pm__law_num cd__law_num ct__law_num : Value} {od__law_num an__law_num : Option Addr} {sl__law_num : Array (Option Value)}
    {f__law_shown : Addr}
    {oc__law_shown kV__law_shown dc__law_shown pm__law_shown cd__law_shown ct__law_shown : Value} {od__law_shown an__law_shown : Option Addr} {sl__law_shown : Array (Option Value)}
    {f__law_read : Addr}
    {oc__law_read kV__law_read dc__law_read pm__law_read cd__law_read ct__law_read : Value} {od__law_read an__law_read : Option Addr} {sl__law_read : Array (Option Value)}
    {f__law_show : Addr}
    {oc__law_show kV__law_show dc__law_show pm__law_show cd__law_show ct__law_show : Value} {od__law_show an__law_show : Option Addr} {sl__law_show : Array (Option Value)}
    {f__law_same : Addr}
    {oc__law_same kV__law_same dc__law_same pm__law_same cd__law_same ct__law_same : Value} {od__law_same an__law_same : Option Addr} {sl__law_same : Array (Option Value)}
    {f__law_value_due : Addr}
    {oc__law_value_due kV__law_value_due dc__law_value_due pm__law_value_due cd__law_value_due ct__law_value_due : Value} {od__law_value_due an__law_value_due : Option Addr} {sl__law_value_due : Array (Option Value)}
    {f__law_reads : Addr}
    {oc__law_reads kV__law_reads dc__law_reads pm__law_reads cd__law_reads ct__law_reads : Value} {od__law_reads an__law_reads : Option Addr} {sl__law_reads : Array (Option Value)}
    {f__law_great : Addr}
    {oc__law_great kV__law_great dc__law_great pm__law_great cd__law_great ct__law_great : Value} {od__law_great an__law_great : Option Addr} {sl__law_great : Array (Option Value)}
    {f__law_shown_right : Addr}
    {oc__law_shown_right kV__law_shown_right dc__law_shown_right pm__law_shown_right cd__law_shown_right ct__law_shown_right : Value} {od__law_shown_right an__law_shown_right : Option Addr} {sl__law_shown_right : Array (Option Value)}
    {f__law_digits : Addr}
    {oc__law_digits kV__law_digits dc__law_digits pm__law_digits cd__law_digits ct__law_digits : Value} {od__law_digits an__law_digits : Option Addr} {sl__law_digits : Array (Option Value)}
    {f__law_spelled : Addr}
    {oc__law_spelled kV__law_spelled dc__law_spelled pm__law_spelled cd__law_spelled ct__law_spelled : Value} {od__law_spelled an__law_spelled : Option Addr} {sl__law_spelled : Array (Option Value)}
    {f__law_value : Addr}
    {oc__law_value kV__law_value dc__law_value pm__law_value cd__law_value ct__law_value : Value} {od__law_value an__law_value : Option Addr} {sl__law_value : Array (Option Value)}
    {f__law_built : Addr}
    {oc__law_built kV__law_built dc__law_built pm__law_built cd__law_built ct__law_built : Value} {od__law_built an__law_built : Option Addr} {sl__law_built : Array (Option Value)}
    {f__law_strange : Addr}
    {oc__law_strange kV__law_strange dc__law_strange pm__law_strange cd__law_strange ct__law_strange : Value} {od__law_strange an__law_strange : Option Addr} {sl__law_strange : Array (Option Value)}
    {f__law_spoilt : Addr}
    {oc__law_spoilt kV__law_spoilt dc__law_spoilt pm__law_spoilt cd__law_spoilt ct__law_spoilt : Value} {od__law_spoilt an__law_spoilt : Option Addr} {sl__law_spoilt : Array (Option Value)}
    {f__law_odd_base : Addr}
    {oc__law_odd_base kV__law_odd_base dc__law_odd_base pm__law_odd_base cd__law_odd_base ct__law_odd_base : Value} {od__law_odd_base an__law_odd_base : Option Addr} {sl__law_odd_base : Array (Option Value)}
    {f__law_refused : Addr}
    {oc__law_refused kV__law_refused dc__law_refused pm__law_refused cd__law_refused ct__law_refused : Value} {od__law_refused an__law_refused : Option Addr} {sl__law_refused : Array (Option Value)}
    {f_law : Addr}
    {oc_law kV_law dc_law pm_law cd_law ct_law : Value} {od_law an_law : Option Addr} {sl_law : Array (Option Value)}
    {c_MintError : Addr}
    {c_BadWidth : Addr}
    {c_BadBase : Addr}
    {nm_BadWidth q_BadWidth : Str} {N_BadWidth : Addr} {bs_BadWidth bm_BadWidth sub_BadWidth : List Value} {sn_BadWidth : List Str} {ab_BadWidth : Bool} {col_BadWidth : Option Bool} {dd_BadWidth : Option Addr} {m0_BadWidth m1_BadWidth m2_BadWidth m3_BadWidth m5_BadWidth : Option Value}
    {nm_BadBase q_BadBase : Str} {N_BadBase : Addr} {bs_BadBase bm_BadBase sub_BadBase : List Value} {sn_BadBase : List Str} {ab_BadBase : Bool} {col_BadBase : Option Bool} {dd_BadBase : Option Addr} {m0_BadBase m1_BadBase m2_BadBase m3_BadBase m5_BadBase : Option Value}
    {a_WIDTHS : Addr}
    {oda_WIDTHS : Option Addr} {itsa_WIDTHS : Array Value} {na_WIDTHS : Nat} {sla_WIDTHS : Array (Option Value)}
    {t_DIGITS : Tok}
    (l_BadWidth___init__ : K.lookup f_BadWidth___init__ = some ⟨oc_BadWidth___init__, od_BadWidth___init__, .func (PySem.W.fnOf "__init__" "BadWidth.__init__" (defArgs s_BadWidth___init__) (defBody s_BadWidth___init__) (defScope s_BadWidth___init__) .none kV_BadWidth___init__ dc_BadWidth___init__ pm_BadWidth___init__ an_BadWidth___init__ cd_BadWidth___init__ ct_BadWidth___init__), sl_BadWidth___init__⟩)
    (z_BadWidth___init__ : PySem.W.codeIn K cd_BadWidth___init__ "BadWidth.__init__" = true)
    (kk_BadWidth___init__ : PySem.W.keepIn K (.ref f_BadWidth___init__) = true)
    (l_BadBase___init__ : K.lookup f_BadBase___init__ = some ⟨oc_BadBase___init__, od_BadBase___init__, .func (PySem.W.fnOf "__init__" "BadBase.__init__" (defArgs s_BadBase___init__) (defBody s_BadBase___init__) (defScope s_BadBase___init__) .none kV_BadBase___init__ dc_BadBase___init__ pm_BadBase___init__ an_BadBase___init__ cd_BadBase___init__ ct_BadBase___init__), sl_BadBase___init__⟩)
    (z_BadBase___init__ : PySem.W.codeIn K cd_BadBase___init__ "BadBase.__init__" = true)
    (kk_BadBase___init__ : PySem.W.keepIn K (.ref f_BadBase___init__) = true)
    (l_is_integer : K.lookup f_is_integer = some ⟨oc_is_integer, od_is_integer, .func (PySem.W.fnOf "is_integer" "is_integer" (defArgs s_is_integer) (defBody s_is_integer) (defScope s_is_integer) .none kV_is_integer dc_is_integer pm_is_integer an_is_integer cd_is_integer ct_is_integer), sl_is_integer⟩)
    (z_is_integer : PySem.W.codeIn K cd_is_integer "is_integer" = true)
    (kk_is_integer : PySem.W.keepIn K (.ref f_is_integer) = true)
    (ag_is_integer : PySem.W.nsIn K mainGlobals "is_integer" = some (some (.ref f_is_integer)))
    (l_is_between : K.lookup f_is_between = some ⟨oc_is_between, od_is_between, .func (PySem.W.fnOf "is_between" "is_between" (defArgs s_is_between) (defBody s_is_between) (defScope s_is_between) .none kV_is_between dc_is_between pm_is_between an_is_between cd_is_between ct_is_between), sl_is_between⟩)
    (z_is_between : PySem.W.codeIn K cd_is_between "is_between" = true)
    (kk_is_between : PySem.W.keepIn K (.ref f_is_between) = true)
    (ag_is_between : PySem.W.nsIn K mainGlobals "is_between" = some (some (.ref f_is_between)))
    (l_is_base : K.lookup f_is_base = some ⟨oc_is_base, od_is_base, .func (PySem.W.fnOf "is_base" "is_base" (defArgs s_is_base) (defBody s_is_base) (defScope s_is_base) .none kV_is_base dc_is_base pm_is_base an_is_base cd_is_base ct_is_base), sl_is_base⟩)
    (z_is_base : PySem.W.codeIn K cd_is_base "is_base" = true)
    (kk_is_base : PySem.W.keepIn K (.ref f_is_base) = true)
    (ag_is_base : PySem.W.nsIn K mainGlobals "is_base" = some (some (.ref f_is_base)))
    (l_check_width : K.lookup f_check_width = some ⟨oc_check_width, od_check_width, .func (PySem.W.fnOf "check_width" "check_width" (defArgs s_check_width) (defBody s_check_width) (defScope s_check_width) .none kV_check_width dc_check_width pm_check_width an_check_width cd_check_width ct_check_width), sl_check_width⟩)
    (z_check_width : PySem.W.codeIn K cd_check_width "check_width" = true)
    (kk_check_width : PySem.W.keepIn K (.ref f_check_width) = true)
    (ag_check_width : PySem.W.nsIn K mainGlobals "check_width" = some (some (.ref f_check_width)))
    (l_check_base : K.lookup f_check_base = some ⟨oc_check_base, od_check_base, .func (PySem.W.fnOf "check_base" "check_base" (defArgs s_check_base) (defBody s_check_base) (defScope s_check_base) .none kV_check_base dc_check_base pm_check_base an_check_base cd_check_base ct_check_base), sl_check_base⟩)
    (z_check_base : PySem.W.codeIn K cd_check_base "check_base" = true)
    (kk_check_base : PySem.W.keepIn K (.ref f_check_base) = true)
    (ag_check_base : PySem.W.nsIn K mainGlobals "check_base" = some (some (.ref f_check_base)))
    (l_half : K.lookup f_half = some ⟨oc_half, od_half, .func (PySem.W.fnOf "half" "half" (defArgs s_half) (defBody s_half) (defScope s_half) .none kV_half dc_half pm_half an_half cd_half ct_half), sl_half⟩)
    (z_half : PySem.W.codeIn K cd_half "half" = true)
    (kk_half : PySem.W.keepIn K (.ref f_half) = true)
    (ag_half : PySem.W.nsIn K mainGlobals "half" = some (some (.ref f_half)))
    (l_wrap : K.lookup f_wrap = some ⟨oc_wrap, od_wrap, .func (PySem.W.fnOf "wrap" "wrap" (defArgs s_wrap) (defBody s_wrap) (defScope s_wrap) .none kV_wrap dc_wrap pm_wrap an_wrap cd_wrap ct_wrap), sl_wrap⟩)
    (z_wrap : PySem.W.codeIn K cd_wrap "wrap" = true)
    (kk_wrap : PySem.W.keepIn K (.ref f_wrap) = true)
    (ag_wrap : PySem.W.nsIn K mainGlobals "wrap" = some (some (.ref f_wrap)))
    (l_show : K.lookup f_show = some ⟨oc_show, od_show, .func (PySem.W.fnOf "show" "show" (defArgs s_show) (defBody s_show) (defScope s_show) .none kV_show dc_show pm_show an_show cd_show ct_show), sl_show⟩)
    (z_show : PySem.W.codeIn K cd_show "show" = true)
    (kk_show : PySem.W.keepIn K (.ref f_show) = true)
    (ag_show : PySem.W.nsIn K mainGlobals "show" = some (some (.ref f_show)))
    (l_value_of : K.lookup f_value_of = some ⟨oc_value_of, od_value_of, .func (PySem.W.fnOf "value_of" "value_of" (defArgs s_value_of) (defBody s_value_of) (defScope s_value_of) .none kV_value_of dc_value_of pm_value_of an_value_of cd_value_of ct_value_of), sl_value_of⟩)
    (z_value_of : PySem.W.codeIn K cd_value_of "value_of" = true)
    (kk_value_of : PySem.W.keepIn K (.ref f_value_of) = true)
    (ag_value_of : PySem.W.nsIn K mainGlobals "value_of" = some (some (.ref f_value_of)))
    (l_read_number : K.lookup f_read_number = some ⟨oc_read_number, od_read_number, .func (PySem.W.fnOf "read_number" "read_number" (defArgs s_read_number) (defBody s_read_number) (defScope s_read_number) .none kV_read_number dc_read_number pm_read_number an_read_number cd_read_number ct_read_number), sl_read_number⟩)
    (z_read_number : PySem.W.codeIn K cd_read_number "read_number" = true)
    (kk_read_number : PySem.W.keepIn K (.ref f_read_number) = true)
    (ag_read_number : PySem.W.nsIn K mainGlobals "read_number" = some (some (.ref f_read_number)))
    (l__law_bag : K.lookup f__law_bag = some ⟨oc__law_bag, od__law_bag, .func (PySem.W.fnOf "_law_bag" "_law_bag" (defArgs s__law_bag) (defBody s__law_bag) (defScope s__law_bag) .none kV__law_bag dc__law_bag pm__law_bag an__law_bag cd__law_bag ct__law_bag), sl__law_bag⟩)
    (z__law_bag : PySem.W.codeIn K cd__law_bag "_law_bag" = true)
    (kk__law_bag : PySem.W.keepIn K (.ref f__law_bag) = true)
    (ag__law_bag : PySem.W.nsIn K mainGlobals "_law_bag" = some (some (.ref f__law_bag)))
    (l__law_pick : K.lookup f__law_pick = some ⟨oc__law_pick, od__law_pick, .func (PySem.W.fnOf "_law_pick" "_law_pick" (defArgs s__law_pick) (defBody s__law_pick) (defScope s__law_pick) .none kV__law_pick dc__law_pick pm__law_pick an__law_pick cd__law_pick ct__law_pick), sl__law_pick⟩)
    (z__law_pick : PySem.W.codeIn K cd__law_pick "_law_pick" = true)
    (kk__law_pick : PySem.W.keepIn K (.ref f__law_pick) = true)
    (ag__law_pick : PySem.W.nsIn K mainGlobals "_law_pick" = some (some (.ref f__law_pick)))
    (l__law_choice : K.lookup f__law_choice = some ⟨oc__law_choice, od__law_choice, .func (PySem.W.fnOf "_law_choice" "_law_choice" (defArgs s__law_choice) (defBody s__law_choice) (defScope s__law_choice) .none kV__law_choice dc__law_choice pm__law_choice an__law_choice cd__law_choice ct__law_choice), sl__law_choice⟩)
    (z__law_choice : PySem.W.codeIn K cd__law_choice "_law_choice" = true)
    (kk__law_choice : PySem.W.keepIn K (.ref f__law_choice) = true)
    (ag__law_choice : PySem.W.nsIn K mainGlobals "_law_choice" = some (some (.ref f__law_choice)))
    (l__law_integer : K.lookup f__law_integer = some ⟨oc__law_integer, od__law_integer, .func (PySem.W.fnOf "_law_integer" "_law_integer" (defArgs s__law_integer) (defBody s__law_integer) (defScope s__law_integer) .none kV__law_integer dc__law_integer pm__law_integer an__law_integer cd__law_integer ct__law_integer), sl__law_integer⟩)
    (z__law_integer : PySem.W.codeIn K cd__law_integer "_law_integer" = true)
    (kk__law_integer : PySem.W.keepIn K (.ref f__law_integer) = true)
    (ag__law_integer : PySem.W.nsIn K mainGlobals "_law_integer" = some (some (.ref f__law_integer)))
    (l__law_half : K.lookup f__law_half = some ⟨oc__law_half, od__law_half, .func (PySem.W.fnOf "_law_half" "_law_half" (defArgs s__law_half) (defBody s__law_half) (defScope s__law_half) .none kV__law_half dc__law_half pm__law_half an__law_half cd__law_half ct__law_half), sl__law_half⟩)
    (z__law_half : PySem.W.codeIn K cd__law_half "_law_half" = true)
    (kk__law_half : PySem.W.keepIn K (.ref f__law_half) = true)
    (ag__law_half : PySem.W.nsIn K mainGlobals "_law_half" = some (some (.ref f__law_half)))
    (l__law_wrap : K.lookup f__law_wrap = some ⟨oc__law_wrap, od__law_wrap, .func (PySem.W.fnOf "_law_wrap" "_law_wrap" (defArgs s__law_wrap) (defBody s__law_wrap) (defScope s__law_wrap) .none kV__law_wrap dc__law_wrap pm__law_wrap an__law_wrap cd__law_wrap ct__law_wrap), sl__law_wrap⟩)
    (z__law_wrap : PySem.W.codeIn K cd__law_wrap "_law_wrap" = true)
    (kk__law_wrap : PySem.W.keepIn K (.ref f__law_wrap) = true)
    (ag__law_wrap : PySem.W.nsIn K mainGlobals "_law_wrap" = some (some (.ref f__law_wrap)))
    (l__law_num : K.lookup f__law_num = some ⟨oc__law_num, od__law_num, .func (PySem.W.fnOf "_law_num" "_law_num" (defArgs s__law_num) (defBody s__law_num) (defScope s__law_num) .none kV__law_num dc__law_num pm__law_num an__law_num cd__law_num ct__law_num), sl__law_num⟩)
    (z__law_num : PySem.W.codeIn K cd__law_num "_law_num" = true)
    (kk__law_num : PySem.W.keepIn K (.ref f__law_num) = true)
    (ag__law_num : PySem.W.nsIn K mainGlobals "_law_num" = some (some (.ref f__law_num)))
    (l__law_shown : K.lookup f__law_shown = some ⟨oc__law_shown, od__law_shown, .func (PySem.W.fnOf "_law_shown" "_law_shown" (defArgs s__law_shown) (defBody s__law_shown) (defScope s__law_shown) .none kV__law_shown dc__law_shown pm__law_shown an__law_shown cd__law_shown ct__law_shown), sl__law_shown⟩)
    (z__law_shown : PySem.W.codeIn K cd__law_shown "_law_shown" = true)
    (kk__law_shown : PySem.W.keepIn K (.ref f__law_shown) = true)
    (ag__law_shown : PySem.W.nsIn K mainGlobals "_law_shown" = some (some (.ref f__law_shown)))
    (l__law_read : K.lookup f__law_read = some ⟨oc__law_read, od__law_read, .func (PySem.W.fnOf "_law_read" "_law_read" (defArgs s__law_read) (defBody s__law_read) (defScope s__law_read) .none kV__law_read dc__law_read pm__law_read an__law_read cd__law_read ct__law_read), sl__law_read⟩)
    (z__law_read : PySem.W.codeIn K cd__law_read "_law_read" = true)
    (kk__law_read : PySem.W.keepIn K (.ref f__law_read) = true)
    (ag__law_read : PySem.W.nsIn K mainGlobals "_law_read" = some (some (.ref f__law_read)))
    (l__law_show : K.lookup f__law_show = some ⟨oc__law_show, od__law_show, .func (PySem.W.fnOf "_law_show" "_law_show" (defArgs s__law_show) (defBody s__law_show) (defScope s__law_show) .none kV__law_show dc__law_show pm__law_show an__law_show cd__law_show ct__law_show), sl__law_show⟩)
    (z__law_show : PySem.W.codeIn K cd__law_show "_law_show" = true)
    (kk__law_show : PySem.W.keepIn K (.ref f__law_show) = true)
    (ag__law_show : PySem.W.nsIn K mainGlobals "_law_show" = some (some (.ref f__law_show)))
    (l__law_same : K.lookup f__law_same = some ⟨oc__law_same, od__law_same, .func (PySem.W.fnOf "_law_same" "_law_same" (defArgs s__law_same) (defBody s__law_same) (defScope s__law_same) .none kV__law_same dc__law_same pm__law_same an__law_same cd__law_same ct__law_same), sl__law_same⟩)
    (z__law_same : PySem.W.codeIn K cd__law_same "_law_same" = true)
    (kk__law_same : PySem.W.keepIn K (.ref f__law_same) = true)
    (ag__law_same : PySem.W.nsIn K mainGlobals "_law_same" = some (some (.ref f__law_same)))
    (l__law_value_due : K.lookup f__law_value_due = some ⟨oc__law_value_due, od__law_value_due, .func (PySem.W.fnOf "_law_value_due" "_law_value_due" (defArgs s__law_value_due) (defBody s__law_value_due) (defScope s__law_value_due) .none kV__law_value_due dc__law_value_due pm__law_value_due an__law_value_due cd__law_value_due ct__law_value_due), sl__law_value_due⟩)
    (z__law_value_due : PySem.W.codeIn K cd__law_value_due "_law_value_due" = true)
    (kk__law_value_due : PySem.W.keepIn K (.ref f__law_value_due) = true)
    (ag__law_value_due : PySem.W.nsIn K mainGlobals "_law_value_due" = some (some (.ref f__law_value_due)))
    (l__law_reads : K.lookup f__law_reads = some ⟨oc__law_reads, od__law_reads, .func (PySem.W.fnOf "_law_reads" "_law_reads" (defArgs s__law_reads) (defBody s__law_reads) (defScope s__law_reads) .none kV__law_reads dc__law_reads pm__law_reads an__law_reads cd__law_reads ct__law_reads), sl__law_reads⟩)
    (z__law_reads : PySem.W.codeIn K cd__law_reads "_law_reads" = true)
    (kk__law_reads : PySem.W.keepIn K (.ref f__law_reads) = true)
    (ag__law_reads : PySem.W.nsIn K mainGlobals "_law_reads" = some (some (.ref f__law_reads)))
    (l__law_great : K.lookup f__law_great = some ⟨oc__law_great, od__law_great, .func (PySem.W.fnOf "_law_great" "_law_great" (defArgs s__law_great) (defBody s__law_great) (defScope s__law_great) .none kV__law_great dc__law_great pm__law_great an__law_great cd__law_great ct__law_great), sl__law_great⟩)
    (z__law_great : PySem.W.codeIn K cd__law_great "_law_great" = true)
    (kk__law_great : PySem.W.keepIn K (.ref f__law_great) = true)
    (ag__law_great : PySem.W.nsIn K mainGlobals "_law_great" = some (some (.ref f__law_great)))
    (l__law_shown_right : K.lookup f__law_shown_right = some ⟨oc__law_shown_right, od__law_shown_right, .func (PySem.W.fnOf "_law_shown_right" "_law_shown_right" (defArgs s__law_shown_right) (defBody s__law_shown_right) (defScope s__law_shown_right) .none kV__law_shown_right dc__law_shown_right pm__law_shown_right an__law_shown_right cd__law_shown_right ct__law_shown_right), sl__law_shown_right⟩)
    (z__law_shown_right : PySem.W.codeIn K cd__law_shown_right "_law_shown_right" = true)
    (kk__law_shown_right : PySem.W.keepIn K (.ref f__law_shown_right) = true)
    (ag__law_shown_right : PySem.W.nsIn K mainGlobals "_law_shown_right" = some (some (.ref f__law_shown_right)))
    (l__law_digits : K.lookup f__law_digits = some ⟨oc__law_digits, od__law_digits, .func (PySem.W.fnOf "_law_digits" "_law_digits" (defArgs s__law_digits) (defBody s__law_digits) (defScope s__law_digits) .none kV__law_digits dc__law_digits pm__law_digits an__law_digits cd__law_digits ct__law_digits), sl__law_digits⟩)
    (z__law_digits : PySem.W.codeIn K cd__law_digits "_law_digits" = true)
    (kk__law_digits : PySem.W.keepIn K (.ref f__law_digits) = true)
    (ag__law_digits : PySem.W.nsIn K mainGlobals "_law_digits" = some (some (.ref f__law_digits)))
    (l__law_spelled : K.lookup f__law_spelled = some ⟨oc__law_spelled, od__law_spelled, .func (PySem.W.fnOf "_law_spelled" "_law_spelled" (defArgs s__law_spelled) (defBody s__law_spelled) (defScope s__law_spelled) .none kV__law_spelled dc__law_spelled pm__law_spelled an__law_spelled cd__law_spelled ct__law_spelled), sl__law_spelled⟩)
    (z__law_spelled : PySem.W.codeIn K cd__law_spelled "_law_spelled" = true)
    (kk__law_spelled : PySem.W.keepIn K (.ref f__law_spelled) = true)
    (ag__law_spelled : PySem.W.nsIn K mainGlobals "_law_spelled" = some (some (.ref f__law_spelled)))
    (l__law_value : K.lookup f__law_value = some ⟨oc__law_value, od__law_value, .func (PySem.W.fnOf "_law_value" "_law_value" (defArgs s__law_value) (defBody s__law_value) (defScope s__law_value) .none kV__law_value dc__law_value pm__law_value an__law_value cd__law_value ct__law_value), sl__law_value⟩)
    (z__law_value : PySem.W.codeIn K cd__law_value "_law_value" = true)
    (kk__law_value : PySem.W.keepIn K (.ref f__law_value) = true)
    (ag__law_value : PySem.W.nsIn K mainGlobals "_law_value" = some (some (.ref f__law_value)))
    (l__law_built : K.lookup f__law_built = some ⟨oc__law_built, od__law_built, .func (PySem.W.fnOf "_law_built" "_law_built" (defArgs s__law_built) (defBody s__law_built) (defScope s__law_built) .none kV__law_built dc__law_built pm__law_built an__law_built cd__law_built ct__law_built), sl__law_built⟩)
    (z__law_built : PySem.W.codeIn K cd__law_built "_law_built" = true)
    (kk__law_built : PySem.W.keepIn K (.ref f__law_built) = true)
    (ag__law_built : PySem.W.nsIn K mainGlobals "_law_built" = some (some (.ref f__law_built)))
    (l__law_strange : K.lookup f__law_strange = some ⟨oc__law_strange, od__law_strange, .func (PySem.W.fnOf "_law_strange" "_law_strange" (defArgs s__law_strange) (defBody s__law_strange) (defScope s__law_strange) .none kV__law_strange dc__law_strange pm__law_strange an__law_strange cd__law_strange ct__law_strange), sl__law_strange⟩)
    (z__law_strange : PySem.W.codeIn K cd__law_strange "_law_strange" = true)
    (kk__law_strange : PySem.W.keepIn K (.ref f__law_strange) = true)
    (ag__law_strange : PySem.W.nsIn K mainGlobals "_law_strange" = some (some (.ref f__law_strange)))
    (l__law_spoilt : K.lookup f__law_spoilt = some ⟨oc__law_spoilt, od__law_spoilt, .func (PySem.W.fnOf "_law_spoilt" "_law_spoilt" (defArgs s__law_spoilt) (defBody s__law_spoilt) (defScope s__law_spoilt) .none kV__law_spoilt dc__law_spoilt pm__law_spoilt an__law_spoilt cd__law_spoilt ct__law_spoilt), sl__law_spoilt⟩)
    (z__law_spoilt : PySem.W.codeIn K cd__law_spoilt "_law_spoilt" = true)
    (kk__law_spoilt : PySem.W.keepIn K (.ref f__law_spoilt) = true)
    (ag__law_spoilt : PySem.W.nsIn K mainGlobals "_law_spoilt" = some (some (.ref f__law_spoilt)))
    (l__law_odd_base : K.lookup f__law_odd_base = some ⟨oc__law_odd_base, od__law_odd_base, .func (PySem.W.fnOf "_law_odd_base" "_law_odd_base" (defArgs s__law_odd_base) (defBody s__law_odd_base) (defScope s__law_odd_base) .none kV__law_odd_base dc__law_odd_base pm__law_odd_base an__law_odd_base cd__law_odd_base ct__law_odd_base), sl__law_odd_base⟩)
    (z__law_odd_base : PySem.W.codeIn K cd__law_odd_base "_law_odd_base" = true)
    (kk__law_odd_base : PySem.W.keepIn K (.ref f__law_odd_base) = true)
    (ag__law_odd_base : PySem.W.nsIn K mainGlobals "_law_odd_base" = some (some (.ref f__law_odd_base)))
    (l__law_refused : K.lookup f__law_refused = some ⟨oc__law_refused, od__law_refused, .func (PySem.W.fnOf "_law_refused" "_law_refused" (defArgs s__law_refused) (defBody s__law_refused) (defScope s__law_refused) .none kV__law_refused dc__law_refused pm__law_refused an__law_refused cd__law_refused ct__law_refused), sl__law_refused⟩)
    (z__law_refused : PySem.W.codeIn K cd__law_refused "_law_refused" = true)
    (kk__law_refused : PySem.W.keepIn K (.ref f__law_refused) = true)
    (ag__law_refused : PySem.W.nsIn K mainGlobals "_law_refused" = some (some (.ref f__law_refused)))
    (l_law : K.lookup f_law = some ⟨oc_law, od_law, .func (PySem.W.fnOf "law" "law" (defArgs s_law) (defBody s_law) (defScope s_law) .none kV_law dc_law pm_law an_law cd_law ct_law), sl_law⟩)
    (z_law : PySem.W.codeIn K cd_law "law" = true)
    (kk_law : PySem.W.keepIn K (.ref f_law) = true)
    (ag_law : PySem.W.nsIn K mainGlobals "law" = some (some (.ref f_law)))
    (ag_MintError : PySem.W.nsIn K mainGlobals "MintError" = some (some (.ref c_MintError)))
    (ag_BadWidth : PySem.W.nsIn K mainGlobals "BadWidth" = some (some (.ref c_BadWidth)))
    (xl_BadWidth : K.lookup c_BadWidth = some (excClassObj nm_BadWidth q_BadWidth c_BadWidth N_BadWidth bs_BadWidth bm_BadWidth true sn_BadWidth sub_BadWidth ab_BadWidth col_BadWidth dd_BadWidth m0_BadWidth m1_BadWidth m2_BadWidth m3_BadWidth m5_BadWidth "ValueError.__new__"))
    (rv_BadWidth : HandSPX.refsVE bm_BadWidth = true)
    (sa_BadWidth : PySem.W.findIn K (.ref c_BadWidth) "__setattr__" = some (some (.builtin "object.__setattr__")))
    (ex_BadWidth : PySem.W.subIn K (.ref c_BadWidth) (.type "BaseException") = some true)
    (ty_BadWidth : PySem.W.typeIn K (.ref c_BadWidth) = some (.type "type"))
    (kC_BadWidth : PySem.W.keepIn K (.ref c_BadWidth) = true)
    (ga_BadWidth : PySem.W.findIn K (.ref c_BadWidth) "__getattribute__" = some (some (.builtin "BaseException.__getattribute__")))
    (gg_BadWidth : PySem.W.findIn K (.ref c_BadWidth) "__getattr__" = some none)
    (hd_BadWidth : PySem.W.hasDictIn K c_BadWidth = true)
    (sn_get : PySem.W.specialIn K (.builtin "object.__class__") "__get__" = some (some (.builtin "getset_descriptor.__get__")))
    (st_get : PySem.W.takesIn K (.builtin "object.__class__") = some true)
    (hc_BadWidth : PySem.W.findIn K (.ref c_BadWidth) "__class__" = some (some (.builtin "object.__class__")))
    (mr_BadWidth : PySem.W.mroIn K c_BadWidth (.type "object") = some true)
    (F_BadWidth___init___0 : PySem.W.findIn K (.ref c_BadWidth) "__init__" = some (some (.ref f_BadWidth___init__)))
    (F_BadWidth___init___1 : PySem.W.typeIn K (.ref f_BadWidth___init__) = some (.type "function"))
    (F_BadWidth___init___2 : PySem.W.findIn K (.ref c_BadWidth) "width" = some none)
    (hm_BadWidth : PySem.W.exmOne K (.ref c_BadWidth) (.ref c_MintError) = some true)
    (hv_BadWidth : PySem.W.kitOne K (.ref c_BadWidth) (.type "ValueError") = some true)
    (hk_BadWidth_BadWidth : PySem.W.kitOne K (.ref c_BadWidth) (.ref c_BadWidth) = some true)
    (hk_BadWidth_BadBase : PySem.W.kitOne K (.ref c_BadWidth) (.ref c_BadBase) = some false)
    (ag_BadBase : PySem.W.nsIn K mainGlobals "BadBase" = some (some (.ref c_BadBase)))
    (xl_BadBase : K.lookup c_BadBase = some (excClassObj nm_BadBase q_BadBase c_BadBase N_BadBase bs_BadBase bm_BadBase true sn_BadBase sub_BadBase ab_BadBase col_BadBase dd_BadBase m0_BadBase m1_BadBase m2_BadBase m3_BadBase m5_BadBase "ValueError.__new__"))
    (rv_BadBase : HandSPX.refsVE bm_BadBase = true)
    (sa_BadBase : PySem.W.findIn K (.ref c_BadBase) "__setattr__" = some (some (.builtin "object.__setattr__")))
    (ex_BadBase : PySem.W.subIn K (.ref c_BadBase) (.type "BaseException") = some true)
    (ty_BadBase : PySem.W.typeIn K (.ref c_BadBase) = some (.type "type"))
    (kC_BadBase : PySem.W.keepIn K (.ref c_BadBase) = true)
    (ga_BadBase : PySem.W.findIn K (.ref c_BadBase) "__getattribute__" = some (some (.builtin "BaseException.__getattribute__")))
    (gg_BadBase : PySem.W.findIn K (.ref c_BadBase) "__getattr__" = some none)
    (hd_BadBase : PySem.W.hasDictIn K c_BadBase = true)
    (hc_BadBase : PySem.W.findIn K (.ref c_BadBase) "__class__" = some (some (.builtin "object.__class__")))
    (mr_BadBase : PySem.W.mroIn K c_BadBase (.type "object") = some true)
    (F_BadBase___init___0 : PySem.W.findIn K (.ref c_BadBase) "__init__" = some (some (.ref f_BadBase___init__)))
    (F_BadBase___init___1 : PySem.W.typeIn K (.ref f_BadBase___init__) = some (.type "function"))
    (F_BadBase___init___2 : PySem.W.findIn K (.ref c_BadBase) "base" = some none)
    (hm_BadBase : PySem.W.exmOne K (.ref c_BadBase) (.ref c_MintError) = some true)
    (hv_BadBase : PySem.W.kitOne K (.ref c_BadBase) (.type "ValueError") = some true)
    (hk_BadBase_BadWidth : PySem.W.kitOne K (.ref c_BadBase) (.ref c_BadWidth) = some false)
    (hk_BadBase_BadBase : PySem.W.kitOne K (.ref c_BadBase) (.ref c_BadBase) = some true)
    (ag_WIDTHS : PySem.W.nsIn K mainGlobals "WIDTHS" = some (some (.ref a_WIDTHS)))
    (lq_WIDTHS : K.lookup a_WIDTHS = some ⟨.type "tuple", oda_WIDTHS, .seq itsa_WIDTHS na_WIDTHS, sla_WIDTHS⟩)
    (sq_WIDTHS : itsa_WIDTHS.size ≤ sizeLine)
    (vq_WIDTHS : Vals [V.int 16, V.int 24, V.int 32] itsa_WIDTHS.toList)
    (ag_DIGITS : PySem.W.nsIn K mainGlobals "DIGITS" = some (some (.str "0123456789abcdefghijklmnopqrstuvwxyz" t_DIGITS)))
    (an_ValueError : PySem.W.nsIn K mainGlobals "ValueError" = some none)
    (an_abs : PySem.W.nsIn K mainGlobals "abs" = some none)
    (an_bool : PySem.W.nsIn K mainGlobals "bool" = some none)
    (an_int : PySem.W.nsIn K mainGlobals "int" = some none)
    (an_isinstance : PySem.W.nsIn K mainGlobals "isinstance" = some none)
    (an_len : PySem.W.nsIn K mainGlobals "len" = some none)
    (an_range : PySem.W.nsIn K mainGlobals "range" = some none)
    (an_str : PySem.W.nsIn K mainGlobals "str" = some none) : ∃ M : TX K mg, M.f_law = fa ∧ ∀ (s : Shared) (v : Value), BindsTo s M.d_law ⟨[v], []⟩ [("_law_script", v)] := by
  have e := hfa.symm.trans (PySem.W.mg_of X G ag_law)
  obtain rfl : f_law = fa := by
    injection e with e
    injection e with e
    exact e.symm
  have E_BadWidth___init__ := fun_mk (st := s_BadWidth___init__) l_BadWidth___init__ z_BadWidth___init__ kk_BadWidth___init__
  have E_BadBase___init__ := fun_mk (st := s_BadBase___init__) l_BadBase___init__ z_BadBase___init__ kk_BadBase___init__
  have F_is_integer := fun_mk (st := s_is_integer) l_is_integer z_is_integer kk_is_integer
  have F_is_between := fun_mk (st := s_is_between) l_is_between z_is_between kk_is_between
  have F_is_base := fun_mk (st := s_is_base) l_is_base z_is_base kk_is_base
  have F_check_width := fun_mk (st := s_check_width) l_check_width z_check_width kk_check_width
  have F_check_base := fun_mk (st := s_check_base) l_check_base z_check_base kk_check_base
  have F_half := fun_mk (st := s_half) l_half z_half kk_half
  have F_wrap := fun_mk (st := s_wrap) l_wrap z_wrap kk_wrap
  have F_show := fun_mk (st := s_show) l_show z_show kk_show
  have F_value_of := fun_mk (st := s_value_of) l_value_of z_value_of kk_value_of
  have F_read_number := fun_mk (st := s_read_number) l_read_number z_read_number kk_read_number
  have F__law_bag := fun_mk (st := s__law_bag) l__law_bag z__law_bag kk__law_bag
  have F__law_pick := fun_mk (st := s__law_pick) l__law_pick z__law_pick kk__law_pick
  have F__law_choice := fun_mk (st := s__law_choice) l__law_choice z__law_choice kk__law_choice
  have F__law_integer := fun_mk (st := s__law_integer) l__law_integer z__law_integer kk__law_integer
  have F__law_half := fun_mk (st := s__law_half) l__law_half z__law_half kk__law_half
  have F__law_wrap := fun_mk (st := s__law_wrap) l__law_wrap z__law_wrap kk__law_wrap
  have F__law_num := fun_mk (st := s__law_num) l__law_num z__law_num kk__law_num
  have F__law_shown := fun_mk (st := s__law_shown) l__law_shown z__law_shown kk__law_shown
  have F__law_read := fun_mk (st := s__law_read) l__law_read z__law_read kk__law_read
  have F__law_show := fun_mk (st := s__law_show) l__law_show z__law_show kk__law_show
  have F__law_same := fun_mk (st := s__law_same) l__law_same z__law_same kk__law_same
  have F__law_value_due := fun_mk (st := s__law_value_due) l__law_value_due z__law_value_due kk__law_value_due
  have F__law_reads := fun_mk (st := s__law_reads) l__law_reads z__law_reads kk__law_reads
  have F__law_great := fun_mk (st := s__law_great) l__law_great z__law_great kk__law_great
  have F__law_shown_right := fun_mk (st := s__law_shown_right) l__law_shown_right z__law_shown_right kk__law_shown_right
  have F__law_digits := fun_mk (st := s__law_digits) l__law_digits z__law_digits kk__law_digits
  have F__law_spelled := fun_mk (st := s__law_spelled) l__law_spelled z__law_spelled kk__law_spelled
  have F__law_value := fun_mk (st := s__law_value) l__law_value z__law_value kk__law_value
  have F__law_built := fun_mk (st := s__law_built) l__law_built z__law_built kk__law_built
  have F__law_strange := fun_mk (st := s__law_strange) l__law_strange z__law_strange kk__law_strange
  have F__law_spoilt := fun_mk (st := s__law_spoilt) l__law_spoilt z__law_spoilt kk__law_spoilt
  have F__law_odd_base := fun_mk (st := s__law_odd_base) l__law_odd_base z__law_odd_base kk__law_odd_base
  have F__law_refused := fun_mk (st := s__law_refused) l__law_refused z__law_refused kk__law_refused
  have F_law := fun_mk (st := s_law) l_law z_law kk_law
  exact ⟨{
    f_BadWidth___init__ := f_BadWidth___init__,
    d_BadWidth___init__ := _,
    E_BadWidth___init__ := E_BadWidth___init__,
    b_BadWidth___init__ := E_BadWidth___init__.binds (ps := ["self", "width"]) fun _ _ _ _ _ _ us hl => match us, hl with | [_, _], _ => rfl,
    f_BadBase___init__ := f_BadBase___init__,
    d_BadBase___init__ := _,
    E_BadBase___init__ := E_BadBase___init__,
    b_BadBase___init__ := E_BadBase___init__.binds (ps := ["self", "base"]) fun _ _ _ _ _ _ us hl => match us, hl with | [_, _], _ => rfl,
    f_is_integer := f_is_integer,
    d_is_integer := _,
    F_is_integer := F_is_integer,
    g_is_integer := PySem.W.mg_of X G ag_is_integer,
    k_is_integer := kk_is_integer,
    b_is_integer := F_is_integer.binds (ps := ["thing"]) fun _ _ _ _ _ _ us hl => match us, hl with | [_], _ => rfl,
    f_is_between := f_is_between,
    d_is_between := _,
    F_is_between := F_is_between,
    g_is_between := PySem.W.mg_of X G ag_is_between,
    k_is_between := kk_is_between,
    b_is_between := F_is_between.binds (ps := ["thing", "low", "high"]) fun _ _ _ _ _ _ us hl => match us, hl with | [_, _, _], _ => rfl,
    f_is_base := f_is_base,
    d_is_base := _,
    F_is_base := F_is_base,
    g_is_base := PySem.W.mg_of X G ag_is_base,
    k_is_base := kk_is_base,
    b_is_base := F_is_base.binds (ps := ["thing"]) fun _ _ _ _ _ _ us hl => match us, hl with | [_], _ => rfl,
    f_check_width := f_check_width,
    d_check_width := _,
    F_check_width := F_check_width,
    g_check_width := PySem.W.mg_of X G ag_check_width,
    k_check_width := kk_check_width,
    b_check_width := F_check_width.binds (ps := ["width"]) fun _ _ _ _ _ _ us hl => match us, hl with | [_], _ => rfl,
    f_check_base := f_check_base,
    d_check_base := _,
    F_check_base := F_check_base,
    g_check_base := PySem.W.mg_of X G ag_check_base,
    k_check_base := kk_check_base,
    b_check_base := F_check_base.binds (ps := ["base"]) fun _ _ _ _ _ _ us hl => match us, hl with | [_], _ => rfl,
    f_half := f_half,
    d_half := _,
    F_half := F_half,
    g_half := PySem.W.mg_of X G ag_half,
    k_half := kk_half,
    b_half := F_half.binds (ps := ["width"]) fun _ _ _ _ _ _ us hl => match us, hl with | [_], _ => rfl,
    f_wrap := f_wrap,
    d_wrap := _,
    F_wrap := F_wrap,
    g_wrap := PySem.W.mg_of X G ag_wrap,
    k_wrap := kk_wrap,
    b_wrap := F_wrap.binds (ps := ["width", "number"]) fun _ _ _ _ _ _ us hl => match us, hl with | [_, _], _ => rfl,
    f_show := f_show,
    d_show := _,
    F_show := F_show,
    g_show := PySem.W.mg_of X G ag_show,
    k_show := kk_show,
    b_show := F_show.binds (ps := ["base", "number"]) fun _ _ _ _ _ _ us hl => match us, hl with | [_, _], _ => rfl,
    f_value_of := f_value_of,
    d_value_of := _,
    F_value_of := F_value_of,
    g_value_of := PySem.W.mg_of X G ag_value_of,
    k_value_of := kk_value_of,
    b_value_of := F_value_of.binds (ps := ["base", "digits"]) fun _ _ _ _ _ _ us hl => match us, hl with | [_, _], _ => rfl,
    f_read_number := f_read_number,
    d_read_number := _,
    F_read_number := F_read_number,
    g_read_number := PySem.W.mg_of X G ag_read_number,
    k_read_number := kk_read_number,
    b_read_number := F_read_number.binds (ps := ["width", "base", "word"]) fun _ _ _ _ _ _ us hl => match us, hl with | [_, _, _], _ => rfl,
    f__law_bag := f__law_bag,
    d__law_bag := _,
    F__law_bag := F__law_bag,
    g__law_bag := PySem.W.mg_of X G ag__law_bag,
    k__law_bag := kk__law_bag,
    b__law_bag := F__law_bag.binds (ps := ["_law_script"]) fun _ _ _ _ _ _ us hl => match us, hl with | [_], _ => rfl,
    f__law_pick := f__law_pick,
    d__law_pick := _,
    F__law_pick := F__law_pick,
    g__law_pick := PySem.W.mg_of X G ag__law_pick,
    k__law_pick := kk__law_pick,
    b__law_pick := F__law_pick.binds (ps := ["_law_bag_here", "_law_many"]) fun _ _ _ _ _ _ us hl => match us, hl with | [_, _], _ => rfl,
    f__law_choice := f__law_choice,
    d__law_choice := _,
    F__law_choice := F__law_choice,
    g__law_choice := PySem.W.mg_of X G ag__law_choice,
    k__law_choice := kk__law_choice,
    b__law_choice := F__law_choice.binds (ps := ["_law_bag_here", "_law_things"]) fun _ _ _ _ _ _ us hl => match us, hl with | [_, _], _ => rfl,
    f__law_integer := f__law_integer,
    d__law_integer := _,
    F__law_integer := F__law_integer,
    g__law_integer := PySem.W.mg_of X G ag__law_integer,
    k__law_integer := kk__law_integer,
    b__law_integer := F__law_integer.binds (ps := ["_law_thing"]) fun _ _ _ _ _ _ us hl => match us, hl with | [_], _ => rfl,
    f__law_half := f__law_half,
    d__law_half := _,
    F__law_half := F__law_half,
    g__law_half := PySem.W.mg_of X G ag__law_half,
    k__law_half := kk__law_half,
    b__law_half := F__law_half.binds (ps := ["_law_width"]) fun _ _ _ _ _ _ us hl => match us, hl with | [_], _ => rfl,
    f__law_wrap := f__law_wrap,
    d__law_wrap := _,
    F__law_wrap := F__law_wrap,
    g__law_wrap := PySem.W.mg_of X G ag__law_wrap,
    k__law_wrap := kk__law_wrap,
    b__law_wrap := F__law_wrap.binds (ps := ["_law_width", "_law_number"]) fun _ _ _ _ _ _ us hl => match us, hl with | [_, _], _ => rfl,
    f__law_num := f__law_num,
    d__law_num := _,
    F__law_num := F__law_num,
    g__law_num := PySem.W.mg_of X G ag__law_num,
    k__law_num := kk__law_num,
    b__law_num := F__law_num.binds (ps := ["_law_bag_here", "_law_width"]) fun _ _ _ _ _ _ us hl => match us, hl with | [_, _], _ => rfl,
    f__law_shown := f__law_shown,
    d__law_shown := _,
    F__law_shown := F__law_shown,
    g__law_shown := PySem.W.mg_of X G ag__law_shown,
    k__law_shown := kk__law_shown,
    b__law_shown := F__law_shown.binds (ps := ["_law_base", "_law_number"]) fun _ _ _ _ _ _ us hl => match us, hl with | [_, _], _ => rfl,
    f__law_read := f__law_read,
    d__law_read := _,
    F__law_read := F__law_read,
    g__law_read := PySem.W.mg_of X G ag__law_read,
    k__law_read := kk__law_read,
    b__law_read := F__law_read.binds (ps := ["_law_width", "_law_base", "_law_word"]) fun _ _ _ _ _ _ us hl => match us, hl with | [_, _, _], _ => rfl,
    f__law_show := f__law_show,
    d__law_show := _,
    F__law_show := F__law_show,
    g__law_show := PySem.W.mg_of X G ag__law_show,
    k__law_show := kk__law_show,
    b__law_show := F__law_show.binds (ps := ["_law_base", "_law_number"]) fun _ _ _ _ _ _ us hl => match us, hl with | [_, _], _ => rfl,
    f__law_same := f__law_same,
    d__law_same := _,
    F__law_same := F__law_same,
    g__law_same := PySem.W.mg_of X G ag__law_same,
    k__law_same := kk__law_same,
    b__law_same := F__law_same.binds (ps := ["_law_told", "_law_due"]) fun _ _ _ _ _ _ us hl => match us, hl with | [_, _], _ => rfl,
    f__law_value_due := f__law_value_due,
    d__law_value_due := _,
    F__law_value_due := F__law_value_due,
    g__law_value_due := PySem.W.mg_of X G ag__law_value_due,
    k__law_value_due := kk__law_value_due,
    b__law_value_due := F__law_value_due.binds (ps := ["_law_width", "_law_value_here"]) fun _ _ _ _ _ _ us hl => match us, hl with | [_, _], _ => rfl,
    f__law_reads := f__law_reads,
    d__law_reads := _,
    F__law_reads := F__law_reads,
    g__law_reads := PySem.W.mg_of X G ag__law_reads,
    k__law_reads := kk__law_reads,
    b__law_reads := F__law_reads.binds (ps := ["_law_width", "_law_base", "_law_word", "_law_due"]) fun _ _ _ _ _ _ us hl => match us, hl with | [_, _, _, _], _ => rfl,
    f__law_great := f__law_great,
    d__law_great := _,
    F__law_great := F__law_great,
    g__law_great := PySem.W.mg_of X G ag__law_great,
    k__law_great := kk__law_great,
    b__law_great := F__law_great.binds (ps := ["_law_bag_here"]) fun _ _ _ _ _ _ us hl => match us, hl with | [_], _ => rfl,
    f__law_shown_right := f__law_shown_right,
    d__law_shown_right := _,
    F__law_shown_right := F__law_shown_right,
    g__law_shown_right := PySem.W.mg_of X G ag__law_shown_right,
    k__law_shown_right := kk__law_shown_right,
    b__law_shown_right := F__law_shown_right.binds (ps := ["_law_bag_here", "_law_width", "_law_base"]) fun _ _ _ _ _ _ us hl => match us, hl with | [_, _, _], _ => rfl,
    f__law_digits := f__law_digits,
    d__law_digits := _,
    F__law_digits := F__law_digits,
    g__law_digits := PySem.W.mg_of X G ag__law_digits,
    k__law_digits := kk__law_digits,
    b__law_digits := F__law_digits.binds (ps := ["_law_bag_here", "_law_base", "_law_many"]) fun _ _ _ _ _ _ us hl => match us, hl with | [_, _, _], _ => rfl,
    f__law_spelled := f__law_spelled,
    d__law_spelled := _,
    F__law_spelled := F__law_spelled,
    g__law_spelled := PySem.W.mg_of X G ag__law_spelled,
    k__law_spelled := kk__law_spelled,
    b__law_spelled := F__law_spelled.binds (ps := ["_law_row"]) fun _ _ _ _ _ _ us hl => match us, hl with | [_], _ => rfl,
    f__law_value := f__law_value,
    d__law_value := _,
    F__law_value := F__law_value,
    g__law_value := PySem.W.mg_of X G ag__law_value,
    k__law_value := kk__law_value,
    b__law_value := F__law_value.binds (ps := ["_law_base", "_law_row"]) fun _ _ _ _ _ _ us hl => match us, hl with | [_, _], _ => rfl,
    f__law_built := f__law_built,
    d__law_built := _,
    F__law_built := F__law_built,
    g__law_built := PySem.W.mg_of X G ag__law_built,
    k__law_built := kk__law_built,
    b__law_built := F__law_built.binds (ps := ["_law_bag_here", "_law_width", "_law_base"]) fun _ _ _ _ _ _ us hl => match us, hl with | [_, _, _], _ => rfl,
    f__law_strange := f__law_strange,
    d__law_strange := _,
    F__law_strange := F__law_strange,
    g__law_strange := PySem.W.mg_of X G ag__law_strange,
    k__law_strange := kk__law_strange,
    b__law_strange := F__law_strange.binds (ps := ["_law_bag_here", "_law_real", "_law_first"]) fun _ _ _ _ _ _ us hl => match us, hl with | [_, _, _], _ => rfl,
    f__law_spoilt := f__law_spoilt,
    d__law_spoilt := _,
    F__law_spoilt := F__law_spoilt,
    g__law_spoilt := PySem.W.mg_of X G ag__law_spoilt,
    k__law_spoilt := kk__law_spoilt,
    b__law_spoilt := F__law_spoilt.binds (ps := ["_law_bag_here", "_law_built_here"]) fun _ _ _ _ _ _ us hl => match us, hl with | [_, _], _ => rfl,
    f__law_odd_base := f__law_odd_base,
    d__law_odd_base := _,
    F__law_odd_base := F__law_odd_base,
    g__law_odd_base := PySem.W.mg_of X G ag__law_odd_base,
    k__law_odd_base := kk__law_odd_base,
    b__law_odd_base := F__law_odd_base.binds (ps := ["_law_bag_here"]) fun _ _ _ _ _ _ us hl => match us, hl with | [_], _ => rfl,
    f__law_refused := f__law_refused,
    d__law_refused := _,
    F__law_refused := F__law_refused,
    g__law_refused := PySem.W.mg_of X G ag__law_refused,
    k__law_refused := kk__law_refused,
    b__law_refused := F__law_refused.binds (ps := ["_law_bag_here"]) fun _ _ _ _ _ _ us hl => match us, hl with | [_], _ => rfl,
    f_law := f_law,
    d_law := _,
    F_law := F_law,
    g_law := PySem.W.mg_of X G ag_law,
    k_law := kk_law,
    b_law := F_law.binds (ps := ["_law_script"]) fun _ _ _ _ _ _ us hl => match us, hl with | [_], _ => rfl,
    c_MintError := c_MintError,
    c_BadWidth := c_BadWidth,
    c_BadBase := c_BadBase,
    g_MintError := PySem.W.mg_of X G ag_MintError,
    g_BadWidth := PySem.W.mg_of X G ag_BadWidth,
    o_BadWidth := ⟨⟨nm_BadWidth, q_BadWidth, N_BadWidth, bs_BadWidth, bm_BadWidth, sn_BadWidth, sub_BadWidth, ab_BadWidth, col_BadWidth, dd_BadWidth, m0_BadWidth, m1_BadWidth, m2_BadWidth, m3_BadWidth, m5_BadWidth, xl_BadWidth, rv_BadWidth⟩, sa_BadWidth, ex_BadWidth, ty_BadWidth, kC_BadWidth⟩,
    x_BadWidth := ⟨ga_BadWidth, gg_BadWidth, ex_BadWidth, hd_BadWidth⟩,
    e_BadWidth := ⟨ga_BadWidth, gg_BadWidth, ex_BadWidth, hd_BadWidth, hc_BadWidth, sn_get, st_get, mr_BadWidth⟩,
    F_BadWidth___init__ := ⟨F_BadWidth___init___0, F_BadWidth___init___1, F_BadWidth___init___2⟩,
    m_BadWidth := hm_BadWidth,
    v_BadWidth := hv_BadWidth,
    k_BadWidth_BadWidth := hk_BadWidth_BadWidth,
    k_BadWidth_BadBase := hk_BadWidth_BadBase,
    g_BadBase := PySem.W.mg_of X G ag_BadBase,
    o_BadBase := ⟨⟨nm_BadBase, q_BadBase, N_BadBase, bs_BadBase, bm_BadBase, sn_BadBase, sub_BadBase, ab_BadBase, col_BadBase, dd_BadBase, m0_BadBase, m1_BadBase, m2_BadBase, m3_BadBase, m5_BadBase, xl_BadBase, rv_BadBase⟩, sa_BadBase, ex_BadBase, ty_BadBase, kC_BadBase⟩,
    x_BadBase := ⟨ga_BadBase, gg_BadBase, ex_BadBase, hd_BadBase⟩,
    e_BadBase := ⟨ga_BadBase, gg_BadBase, ex_BadBase, hd_BadBase, hc_BadBase, sn_get, st_get, mr_BadBase⟩,
    F_BadBase___init__ := ⟨F_BadBase___init___0, F_BadBase___init___1, F_BadBase___init___2⟩,
    m_BadBase := hm_BadBase,
    v_BadBase := hv_BadBase,
    k_BadBase_BadWidth := hk_BadBase_BadWidth,
    k_BadBase_BadBase := hk_BadBase_BadBase,
    a_WIDTHS := a_WIDTHS,
    g_WIDTHS := PySem.W.mg_of X G ag_WIDTHS,
    q_WIDTHS := fun H => Or.inr ⟨_, _, _, lq_WIDTHS, rfl, rfl, sq_WIDTHS, vq_WIDTHS⟩,
    t_DIGITS := t_DIGITS,
    g_DIGITS := PySem.W.mg_of X G ag_DIGITS,
    n_ValueError := PySem.W.mg_none_of X G an_ValueError,
    n_abs := PySem.W.mg_none_of X G an_abs,
    n_bool := PySem.W.mg_none_of X G an_bool,
    n_int := PySem.W.mg_none_of X G an_int,
    n_isinstance := PySem.W.mg_none_of X G an_isinstance,
    n_len := PySem.W.mg_none_of X G an_len,
    n_range := PySem.W.mg_none_of X G an_range,
    n_str := PySem.W.mg_none_of X G an_str }, rfl, fun s v => .of_eq rfl⟩
theorem last_walk {l : PySem.W.OpenLaw} {K : Params → PySem.W.Frag}
    {q : Program} {d : DefRec} {XP : (Str → Option Value) → Heap → Prop}
    {loose : List Str} {YP : World → Heap → Prop}
    (hn : l.most = some 63) (hdf : d.params.defaults = []) (hnm : d.name = "law")
    (hY : ∀ (w : World) (h : Heap), YP w h →
      (K w.params).In h)
    (F : ∀ (w : World) (mg : Str → Option Value) (fa : Addr) (h : Heap),
      (K w.params).In h → h.Ns mainGlobals mg → mg "law" = some (.ref fa) →
      ∃ M : TX (K w.params) mg, M.f_law = fa ∧
        ∀ (s : Shared) (v : Value), BindsTo s M.d_law ⟨[v], []⟩ [("_law_script", v)]) :
    PySem.W.WalkO q loose XP YP
      l.row.toRowW d [] fun f vs =>
        PySem.call f vs :=
  L2.walk_of (n := 63) (k := 10) (x := "_law_script")
    (CX := fun w => L2.CX l.prog w) (sp := fun w => spLaw (K w.params))
    hn (by decide) hdf ⟨rfl, by decide, by decide⟩ hY
    (fun w mg fa h KX G hmg => by
      obtain ⟨M, rfl, bd⟩ := F w mg fa h KX G (hnm ▸ hmg)
      exact ⟨M.d_law, bd, fun base _ _ => ok_law M⟩)
    (fun _ _ a ns hl _ hS => ⟨_, rfl, a, ns, rfl, hS, hl, fun _ => rfl⟩)
    fun _ _ _ _ _ ⟨_, _, _, _, _, _, _, _, _, _, _, _, z⟩ => z
end K03
end
open PySem PySem.W PyProof.Rows
set_option maxRecDepth 100000 in
set_option maxHeartbeats 0 in
theorem PySem.Challenge.cw_wordmint_k03_numbers_shown_holds : PySem.Challenge.rw_wordmint_k03_numbers_shown.Holds := by
  w_on
  o_law
  k_head
  (case hw => w_witness2)
  k_fill
  refine K03.last_walk (l := PySem.Challenge.rw_wordmint_k03_numbers_shown) rfl rfl rfl
    (fun w h Y => PySem.W.kIn_of Y) ?F
  case F =>
    intro w mg fa h KX G hmg
    refine' K03.all_mk KX G hmg ?l_BadWidth___init__ ?z_BadWidth___init__ ?kk_BadWidth___init__ ?l_BadBase___init__ ?z_BadBase___init__ ?kk_BadBase___init__ ?l_is_integer ?z_is_integer ?kk_is_integer ?ag_is_integer ?l_is_between ?z_is_between ?kk_is_between ?ag_is_between ?l_is_base ?z_is_base ?kk_is_base ?ag_is_base ?l_check_width ?z_check_width ?kk_check_width ?ag_check_width ?l_check_base ?z_check_base ?kk_check_base ?ag_check_base ?l_half ?z_half ?kk_half ?ag_half ?l_wrap ?z_wrap ?kk_wrap ?ag_wrap ?l_show ?z_show ?kk_show ?ag_show ?l_value_of ?z_value_of ?kk_value_of ?ag_value_of ?l_read_number ?z_read_number ?kk_read_number ?ag_read_number ?l__law_bag ?z__law_bag ?kk__law_bag ?ag__law_bag ?l__law_pick ?z__law_pick ?kk__law_pick ?ag__law_pick ?l__law_choice ?z__law_choice ?kk__law_choice ?ag__law_choice ?l__law_integer ?z__law_integer ?kk__law_integer ?ag__law_integer ?l__law_half ?z__law_half ?kk__law_half ?ag__law_half ?l__law_wrap ?z__law_wrap ?kk__law_wrap ?ag__law_wrap ?l__law_num ?z__law_num ?kk__law_num ?ag__law_num ?l__law_shown ?z__law_shown ?kk__law_shown ?ag__law_shown ?l__law_read ?z__law_read ?kk__law_read ?ag__law_read ?l__law_show ?z__law_show ?kk__law_show ?ag__law_show ?l__law_same ?z__law_same ?kk__law_same ?ag__law_same ?l__law_value_due ?z__law_value_due ?kk__law_value_due ?ag__law_value_due ?l__law_reads ?z__law_reads ?kk__law_reads ?ag__law_reads ?l__law_great ?z__law_great ?kk__law_great ?ag__law_great ?l__law_shown_right ?z__law_shown_right ?kk__law_shown_right ?ag__law_shown_right ?l__law_digits ?z__law_digits ?kk__law_digits ?ag__law_digits ?l__law_spelled ?z__law_spelled ?kk__law_spelled ?ag__law_spelled ?l__law_value ?z__law_value ?kk__law_value ?ag__law_value ?l__law_built ?z__law_built ?kk__law_built ?ag__law_built ?l__law_strange ?z__law_strange ?kk__law_strange ?ag__law_strange ?l__law_spoilt ?z__law_spoilt ?kk__law_spoilt ?ag__law_spoilt ?l__law_odd_base ?z__law_odd_base ?kk__law_odd_base ?ag__law_odd_base ?l__law_refused ?z__law_refused ?kk__law_refused ?ag__law_refused ?l_law ?z_law ?kk_law ?ag_law ?ag_MintError ?ag_BadWidth ?xl_BadWidth ?rv_BadWidth ?sa_BadWidth ?ex_BadWidth ?ty_BadWidth ?kC_BadWidth ?ga_BadWidth ?gg_BadWidth ?hd_BadWidth ?sn_get ?st_get ?hc_BadWidth ?mr_BadWidth ?F_BadWidth___init___0 ?F_BadWidth___init___1 ?F_BadWidth___init___2 ?hm_BadWidth ?hv_BadWidth ?hk_BadWidth_BadWidth ?hk_BadWidth_BadBase ?ag_BadBase ?xl_BadBase ?rv_BadBase ?sa_BadBase ?ex_BadBase ?ty_BadBase ?kC_BadBase ?ga_BadBase ?gg_BadBase ?hd_BadBase ?hc_BadBase ?mr_BadBase ?F_BadBase___init___0 ?F_BadBase___init___1 ?F_BadBase___init___2 ?hm_BadBase ?hv_BadBase ?hk_BadBase_BadWidth ?hk_BadBase_BadBase ?ag_WIDTHS ?lq_WIDTHS ?sq_WIDTHS ?vq_WIDTHS ?ag_DIGITS ?an_ValueError ?an_abs ?an_bool ?an_int ?an_isinstance ?an_len ?an_range ?an_str
    (case ag_is_integer => k_is)
    (case ag_is_between => k_is)
    (case ag_is_base => k_is)
    (case ag_check_width => k_is)
    (case ag_check_base => k_is)
    (case ag_half => k_is)
    (case ag_wrap => k_is)
    (case ag_show => k_is)
    (case ag_value_of => k_is)
    (case ag_read_number => k_is)
    (case ag__law_bag => k_is)
    (case ag__law_pick => k_is)
    (case ag__law_choice => k_is)
    (case ag__law_integer => k_is)
    (case ag__law_half => k_is)
    (case ag__law_wrap => k_is)
    (case ag__law_num => k_is)
    (case ag__law_shown => k_is)
    (case ag__law_read => k_is)
    (case ag__law_show => k_is)
    (case ag__law_same => k_is)
    (case ag__law_value_due => k_is)
    (case ag__law_reads => k_is)
    (case ag__law_great => k_is)
    (case ag__law_shown_right => k_is)
    (case ag__law_digits => k_is)
    (case ag__law_spelled => k_is)
    (case ag__law_value => k_is)
    (case ag__law_built => k_is)
    (case ag__law_strange => k_is)
    (case ag__law_spoilt => k_is)
    (case ag__law_odd_base => k_is)
    (case ag__law_refused => k_is)
    (case ag_law => k_is)
    (case ag_MintError => k_is)
    (case ag_BadWidth => k_is)
    (case ag_BadBase => k_is)
    (case ag_WIDTHS => k_is)
    (case ag_DIGITS => k_is)
    (case F_BadWidth___init___0 => k_is)
    (case F_BadBase___init___0 => k_is)
    (case l_BadWidth___init__ => k_is)
    (case z_BadWidth___init__ => k_is)
    (case kk_BadWidth___init__ => k_is)
    (case l_BadBase___init__ => k_is)
    (case z_BadBase___init__ => k_is)
    (case kk_BadBase___init__ => k_is)
    (case l_is_integer => k_is)
    (case z_is_integer => k_is)
    (case kk_is_integer => k_is)
    (case l_is_between => k_is)
    (case z_is_between => k_is)
    (case kk_is_between => k_is)
    (case l_is_base => k_is)
    (case z_is_base => k_is)
    (case kk_is_base => k_is)
    (case l_check_width => k_is)
    (case z_check_width => k_is)
    (case kk_check_width => k_is)
    (case l_check_base => k_is)
    (case z_check_base => k_is)
    (case kk_check_base => k_is)
    (case l_half => k_is)
    (case z_half => k_is)
    (case kk_half => k_is)
    (case l_wrap => k_is)
    (case z_wrap => k_is)
    (case kk_wrap => k_is)
    (case l_show => k_is)
    (case z_show => k_is)
    (case kk_show => k_is)
    (case l_value_of => k_is)
    (case z_value_of => k_is)
    (case kk_value_of => k_is)
    (case l_read_number => k_is)
    (case z_read_number => k_is)
    (case kk_read_number => k_is)
    (case l__law_bag => k_is)
    (case z__law_bag => k_is)
    (case kk__law_bag => k_is)
    (case l__law_pick => k_is)
    (case z__law_pick => k_is)
    (case kk__law_pick => k_is)
    (case l__law_choice => k_is)
    (case z__law_choice => k_is)
    (case kk__law_choice => k_is)
    (case l__law_integer => k_is)
    (case z__law_integer => k_is)
    (case kk__law_integer => k_is)
    (case l__law_half => k_is)
    (case z__law_half => k_is)
    (case kk__law_half => k_is)
    (case l__law_wrap => k_is)
    (case z__law_wrap => k_is)
    (case kk__law_wrap => k_is)
    (case l__law_num => k_is)
    (case z__law_num => k_is)
    (case kk__law_num => k_is)
    (case l__law_shown => k_is)
    (case z__law_shown => k_is)
    (case kk__law_shown => k_is)
    (case l__law_read => k_is)
    (case z__law_read => k_is)
    (case kk__law_read => k_is)
    (case l__law_show => k_is)
    (case z__law_show => k_is)
    (case kk__law_show => k_is)
    (case l__law_same => k_is)
    (case z__law_same => k_is)
    (case kk__law_same => k_is)
    (case l__law_value_due => k_is)
    (case z__law_value_due => k_is)
    (case kk__law_value_due => k_is)
    (case l__law_reads => k_is)
    (case z__law_reads => k_is)
    (case kk__law_reads => k_is)
    (case l__law_great => k_is)
    (case z__law_great => k_is)
    (case kk__law_great => k_is)
    (case l__law_shown_right => k_is)
    (case z__law_shown_right => k_is)
    (case kk__law_shown_right => k_is)
    (case l__law_digits => k_is)
    (case z__law_digits => k_is)
    (case kk__law_digits => k_is)
    (case l__law_spelled => k_is)
    (case z__law_spelled => k_is)
    (case kk__law_spelled => k_is)
    (case l__law_value => k_is)
    (case z__law_value => k_is)
    (case kk__law_value => k_is)
    (case l__law_built => k_is)
    (case z__law_built => k_is)
    (case kk__law_built => k_is)
    (case l__law_strange => k_is)
    (case z__law_strange => k_is)
    (case kk__law_strange => k_is)
    (case l__law_spoilt => k_is)
    (case z__law_spoilt => k_is)
    (case kk__law_spoilt => k_is)
    (case l__law_odd_base => k_is)
    (case z__law_odd_base => k_is)
    (case kk__law_odd_base => k_is)
    (case l__law_refused => k_is)
    (case z__law_refused => k_is)
    (case kk__law_refused => k_is)
    (case l_law => k_is)
    (case z_law => k_is)
    (case kk_law => k_is)
    (case xl_BadWidth => k_is)
    (case rv_BadWidth => decide +kernel)
    (case sa_BadWidth => k_is)
    (case ex_BadWidth => k_is)
    (case ty_BadWidth => k_is)
    (case kC_BadWidth => k_is)
    (case ga_BadWidth => k_is)
    (case gg_BadWidth => k_is)
    (case hd_BadWidth => k_is)
    (case sn_get => k_is)
    (case st_get => k_is)
    (case hc_BadWidth => k_is)
    (case mr_BadWidth => k_is)
    (case F_BadWidth___init___1 => k_is)
    (case F_BadWidth___init___2 => k_is)
    (case hm_BadWidth => first | rfl | k_is)
    (case hv_BadWidth => first | rfl | k_is)
    (case hk_BadWidth_BadWidth => first | rfl | k_is)
    (case hk_BadWidth_BadBase => first | rfl | k_is)
    (case xl_BadBase => k_is)
    (case rv_BadBase => decide +kernel)
    (case sa_BadBase => k_is)
    (case ex_BadBase => k_is)
    (case ty_BadBase => k_is)
    (case kC_BadBase => k_is)
    (case ga_BadBase => k_is)
    (case gg_BadBase => k_is)
    (case hd_BadBase => k_is)
    (case hc_BadBase => k_is)
    (case mr_BadBase => k_is)
    (case F_BadBase___init___1 => k_is)
    (case F_BadBase___init___2 => k_is)
    (case hm_BadBase => first | rfl | k_is)
    (case hv_BadBase => first | rfl | k_is)
    (case hk_BadBase_BadWidth => first | rfl | k_is)
    (case hk_BadBase_BadBase => first | rfl | k_is)
    (case lq_WIDTHS => k_is)
    (case sq_WIDTHS => exact Nat.le_of_ble_eq_true rfl)
    (case vq_WIDTHS => exact (.cons ⟨_, rfl⟩ (.cons ⟨_, rfl⟩ (.cons ⟨_, rfl⟩ .nil))))
    (case an_ValueError => k_is)
    (case an_abs => k_is)
    (case an_bool => k_is)
    (case an_int => k_is)
    (case an_isinstance => k_is)
    (case an_len => k_is)
    (case an_range => k_is)
    (case an_str => k_is)
#print axioms PySem.Challenge.cw_wordmint_k03_numbers_shown_holds
