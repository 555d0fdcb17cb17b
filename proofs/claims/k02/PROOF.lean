import PyProof.Rows.All
import Wide.All
import OpenK.AllK
import Wide.FinOn
import HandS.ForMost
import HandS.ForExc
import HandS.ExcInit
import HandS.ExcField
import HandS.ExcIs
import HandS.IsInst
import HandS.Star
import HandS.Deep
import HandS.Style
import HandS.Wide
import KE.KExcIs
import KE.DataFind
import KE.BitLaws
import KE.KEqDeep
import PySem.Challenge.RW_wordmint_k02_numbers_and_bytes
set_option Elab.async false
set_option linter.all false
set_option maxRecDepth 100000
set_option maxHeartbeats 4000000
namespace My
open PySem PySem.Spec PyProof.Rows L2

/-! ### exceptions of the program: C(v) keeps v under one name -/
def spExc (C : Addr) (f : Str) : Sp := fun vs H Q _ => ∃ (a : Addr) (v : V), vs = [.ref a, v] ∧ H a = some (exo a C none) ∧
  ∀ dx, H dx = none → dx ≠ a → Q .non (upd (upd H dx (exd dx [(f, v)])) a (exo a C (some dx)))
/-- the error of C with v under f leaves -/
def Rz (C : Addr) (f : Str) (v : V) (H : Hp) (E : XK) : Prop := ∀ d, H d = none → E (.ref C) (some d) (upd H d (.xd [(f, v)]))
def tRz (C : Addr) (f : Str) (W : WX) (ta : TA) : TS := fun _ σ H => ta σ H fun vs H1 => ∃ v, vs = [v] ∧ ∀ d, H1 d = none → W (.ref C) (some d) σ (upd H1 d (.xd [(f, v)]))
theorem rz_heap {H : Hp} {a d C : Addr} {u : HO} {f : Str} {v : V} (ha : H a = none) (hd : d ≠ a) :
    upd (del (upd (upd (upd H a (exo a C none)) d u) a (exo a C (some d))) a) d (.xd [(f, v)]) = upd H d (.xd [(f, v)]) := by
  funext b
  by_cases h1 : b = d
  · rw [h1, upd_same, upd_same]
  · rw [upd_ne h1, upd_ne h1]
    by_cases h2 : b = a
    · rw [h2, del_same, ha]
    · rw [del_ne h2, upd_ne h2, upd_ne h1, upd_ne h2]
/-- a reading that may be weakened -/
def tW (ta : TA) : TA := fun σ H Q => ∃ Q0 : List V → Hp → Prop, ta σ H Q0 ∧ ∀ vs H1, Q0 vs H1 → Q vs H1
theorem pa_weak {X : Cx} {es : List Expr} {ta : TA} (h : PA X es ta) : PA X es (tW ta) := ⟨fun pos pins s σ H Q I ⟨Q0, q, w⟩ => thn (h.run pos pins s σ H Q0 I q) fun us s' ⟨vs, H1, I1, r, z⟩ => ⟨vs, H1, I1, r, w vs H1 z⟩⟩
theorem ps_rz {X : Cx} {W : WX} {x f : Str} {e : Expr} {ta : TA} {C fI : Addr} {k : Nat} {fd : FuncData} {ps : List Str} {p pos pos2 : Pos} (hc : X.calm = true) (tk : Takes X W) (T : OexC X.K C) (iC : PySem.W.findIn X.K (.ref C) "__init__" = some (some (.ref fI)))
    (tI : PySem.W.typeIn X.K (.ref fI) = some (.type "function")) (F1 : FnOk X.prog X.w X.K X.mg X.base (L2.CX X.prog X.w) k fI fd ps (spExc C f)) (hr : Room (k + 1) X.A) (hb : Binds X.K fd ps []) (hg : Gl X x) (hm : X.mg x = some (.ref C)) (ha : PA X [e] ta)
    (hdb : (x == ("__debug__" : Str)) = false := by decide) (he : starEach [e] X.env = (false, eval e X.env) :: starEach [] X.env := by rfl) (hpl : (backTo pos (starEach [] X.env)).any (·.1) = false := by rfl) :
    PS X (.Raise (some (.Call (.Name x p) [e] [] pos)) none pos2) (tRz C f W ta) := by
  have z := ps_raise (pos := pos2) hc tk (pmk_oex (p := p) (pos := pos) (dvs := []) (ds := []) T iC tI F1 hr hb .nil passL hg hm (pa_weak ha) hdb he hpl)
  refine ⟨fun pins s σ H D I h => z.run pins s σ H D I ?_⟩
  refine ⟨_, h, ?_⟩
  rintro vs H1 ⟨v, rfl, q⟩
  refine ⟨by show 1 ≤ 1000; decide, fun a ha => ⟨a, v, rfl, upd_same, fun dx hdx hne => ⟨rfl, dx, [(f, v)], upd_same, ?_, ?_, ?_⟩⟩⟩
  · rw [upd_ne hne, upd_same]
  · rw [upd_ne hne] at hdx
    exact hdx
  · rw [upd_ne hne] at hdx
    rw [rz_heap ha hne]
    exact q dx hdx
/-! ### isinstance of a caught error that keeps something -/
def rIsED (K : PySem.W.Frag) (a : Addr) (cls : Value) (d : Option Addr) : List V → Hp → VK → Prop := fun xs H Q => ∃ (D dd : Addr) (fs : List (Str × V)) (c : V) (cv : Value) (b : Bool), cls = .ref D ∧ d = some dd ∧ H dd = some (.xd fs) ∧ ExcC K D ∧ xs = [.ref a, c] ∧ ClsV c cv ∧
  PySem.W.kitOne K (.ref D) cv = some b ∧ Q (.bl b) H
theorem call_isED {X : Cx} {a : Addr} {cls : Value} {d : Option Addr} {oe : Obj} {pn : List (Addr × Obj)} (hz : Zc cls d oe) (hf : ∃ vs, oe.data = .fields vs) : CallR (X.suite a ((a, oe) :: pn)) (.builtin "isinstance") (rIsED X.K a cls d) := by
  intro pins s σ H xs us Q I r h
  obtain ⟨D, dd, fs, c, cv, b, ec, ed, hx, C, ex, hcv, e, q⟩ := h
  subst ec ed ex
  obtain ⟨u1, u2, rfl, r1, r2⟩ := vals2 r
  cases (show u1 = Value.ref a from r1)
  have e2 := hcv.eq r2
  subst e2
  obtain ⟨hget, _⟩ := I.pin (a, oe) (List.mem_append.mpr (.inl List.mem_cons_self))
  obtain ⟨vs, hv⟩ := hf
  obtain ⟨mA, hns, _⟩ := (show ObjOk X.prog X.w H s.heap dd (.xd fs) from I.hok dd _ hx)
  obtain ⟨od, ho, _⟩ := lookIn_ns hns
  have J : PySem.W.InstAt s.heap a oe D (some od) := ⟨hget, hz.1, by unfold PySem.W.notCls; rw [hv] <;> rfl, by rw [hz.2]; exact ho⟩
  have hcl : (PySem.W.clsIn X.K D).isSome = true := by
    obtain ⟨cd, hc, _⟩ := PySem.W.any_some C.hd
    rw [hc]; rfl
  exact PySem.W.kia_one (PySem.W.kitx_exc hcl C.hg C.hk C.hs C.ha C.hn C.ht C.hm) I.kIn J e (fun z => nomatch z) fun tk => ⟨.bl b, H, I.kept (t' := tk) fun _ _ z => z, rfl, q⟩
end My
namespace My
open PySem PySem.Spec PyProof.Rows L2
def rCntB (K : PySem.W.Frag) : V → List V → Hp → VK → Prop := fun x xs H Q => ∃ (p : Addr) (bs : List Bool), x = .ref p ∧ xs = [.bl true] ∧ SqL K H p (bs.map V.bl) ∧ Q (.int (bs.count true : Nat)) H
theorem cnt_bools : ∀ bs : List Bool, (bs.map PyData.bool).countP (fun y => PyData.eqv y (.bool true)) = bs.count true
  | [] => rfl
  | b :: r => by
    have ih := cnt_bools r
    cases b
    · show (List.map PyData.bool r).countP _ = List.count true (false :: r)
      rw [ih]; simp
    · show List.countP _ (PyData.bool true :: List.map PyData.bool r) = List.count true (true :: r)
      rw [List.countP_cons, ih]; simp [PyData.eqv]
theorem plain_bools : ∀ bs : List Bool, PyData.plainAll (bs.map PyData.bool) = true
  | [] => rfl
  | b :: r => by
    have ih := plain_bools r
    simp only [List.map_cons, PyData.plainAll, ih]; rfl
theorem dp_bools {K : PySem.W.Frag} {H : Hp} : ∀ bs : List Bool, DpAll K H (bs.map V.bl) (bs.map PyData.bool)
  | [] => .nil
  | b :: r => .cons (.bl b) (dp_bools r)
theorem mt_countB {X : Cx} (hu : X.A.units + 64 < cLine) : MtR X "list.count" (rCntB X.K) := by
  intro pins s σ H x xs v us Q I rx rxs h
  obtain ⟨p, bs, rfl, rfl, hs, q⟩ := h
  cases rx
  obtain ⟨u, rfl, ru⟩ := rxs.one
  cases ru
  obtain ⟨as, r1⟩ := Dp.reads I (.list (bs.map PyData.bool)) (.ref p) (.ref p) (.lst hs (dp_bools bs)) rfl
  obtain ⟨its, rv, hl, hlen⟩ := I.list hs
  obtain ⟨as2, r2⟩ := Dp.readsAll I (bs.map PyData.bool) _ its (dp_bools bs) rv
  refine PySem.SeqAt.count_list_data (xs := bs.map PyData.bool) (d := .bool true) (vs := its.toArray) ?_ (by simpa using r2) (Reads.bool true) (plain_bools bs) rfl ?_ ?_
  · obtain ⟨o, n, ho, hc, _, hd⟩ := hl
    exact ⟨o, ho, hc, n, hd⟩
  · have h1 : min (PyData.depthAll (bs.map PyData.bool)) (PyData.bool true).depth ≤ (PyData.bool true).depth := Nat.min_le_right _ _
    have h2 : (PyData.bool true).depth ≤ 1 := by decide
    omega
  · rw [cnt_bools]
    exact ⟨.int (bs.count true : Nat), H, I.tok _, ⟨_, rfl⟩, q⟩
end My
namespace My
open PySem PySem.Spec PyProof.Rows L2
/-! ### promises by the number of arguments -/
def Sp0 (f : Hp → VK → XK → Prop) : Sp := fun vs H Q E => vs = [] ∧ f H Q E
def Sp1 (f : V → Hp → VK → XK → Prop) : Sp := fun vs H Q E => ∃ a, vs = [a] ∧ f a H Q E
def Sp2 (f : V → V → Hp → VK → XK → Prop) : Sp := fun vs H Q E => ∃ a b, vs = [a, b] ∧ f a b H Q E
def Sp3 (f : V → V → V → Hp → VK → XK → Prop) : Sp := fun vs H Q E => ∃ a b c, vs = [a, b, c] ∧ f a b c H Q E
def Sp4 (f : V → V → V → V → Hp → VK → XK → Prop) : Sp := fun vs H Q E => ∃ a b c d, vs = [a, b, c, d] ∧ f a b c d H Q E
def Sp5 (f : V → V → V → V → V → Hp → VK → XK → Prop) : Sp := fun vs H Q E => ∃ a b c d e, vs = [a, b, c, d, e] ∧ f a b c d e H Q E
section
variable {vs : List V} {H : Hp} {Q : VK} {E : XK}
theorem Sp0_len {f} (h : Sp0 f vs H Q E) : vs.length = 0 := by obtain ⟨rfl, _⟩ := h; rfl
theorem Sp1_len {f} (h : Sp1 f vs H Q E) : vs.length = 1 := by obtain ⟨_, rfl, _⟩ := h; rfl
theorem Sp2_len {f} (h : Sp2 f vs H Q E) : vs.length = 2 := by obtain ⟨_, _, rfl, _⟩ := h; rfl
theorem Sp3_len {f} (h : Sp3 f vs H Q E) : vs.length = 3 := by obtain ⟨_, _, _, rfl, _⟩ := h; rfl
theorem Sp4_len {f} (h : Sp4 f vs H Q E) : vs.length = 4 := by obtain ⟨_, _, _, _, rfl, _⟩ := h; rfl
theorem Sp5_len {f} (h : Sp5 f vs H Q E) : vs.length = 5 := by obtain ⟨_, _, _, _, _, rfl, _⟩ := h; rfl
end
/-- in a def's body: what a call lets out is the def's own affair -/
theorem passE {X : Cx} {E : XK} {E₁ : Value → Shared → Prop} (hs : X.stack = X.env :: X.outer) (hf : X.env.frame = some X.env.locals) (hex : X.ex = [])
    (hx : X.xe = fun e s' => wpAny (model X.prog X.w) X.A (leaving X.env e) (fun _ s'' => L2.CX X.prog X.w X.outer X.H_0 X.s_0 E e s'') E₁ s') : Passes (L2.CX X.prog X.w) X E :=
  passes_call (takes_of hs hf hex hx) (fun _ _ _ _ h => h)
/-- all but b stand as they were -/
def Kp (b : Addr) (H H' : Hp) : Prop := ∀ p o, p ≠ b → H p = some o → H' p = some o
theorem Kp.refl {b : Addr} {H : Hp} : Kp b H H := fun _ _ _ h => h
theorem Kp.trans {b : Addr} {H H1 H2 : Hp} (h : Kp b H H1) (k : Kp b H1 H2) : Kp b H H2 := fun p o n e => k p o n (h p o n e)
theorem Kp.upd {b : Addr} {H H1 : Hp} {o : HO} (h : Kp b H H1) : Kp b H (upd H1 b o) := fun p u n e => by rw [upd_ne n]; exact h p u n e
theorem Kp.new {b l : Addr} {H H1 : Hp} {o : HO} (h : Kp b H H1) (hl : H1 l = none) : Kp b H (L2.upd H1 l o) := fun p u n e => by
  rw [upd_ne (ne_of_none (h p u n e) hl)]; exact h p u n e
theorem Kp.of {b : Addr} {H H' : Hp} (h : Same H H') : Kp b H H' := fun p o _ e => h p o e
theorem Same.new {H H1 : Hp} {l : Addr} {o : HO} (h : Same H H1) (hl : H1 l = none) : Same H (L2.upd H1 l o) := fun p u e => by
  rw [upd_ne (ne_of_none (h p u e) hl)]; exact h p u e
/-! ### the law's bag of numbers -/
def bagO (c : Addr) (a r s n : Int) : HO := .dK [(.inr ("cells" : Str), .ref c), (.inr ("at" : Str), .int a), (.inr ("rest" : Str), .int r), (.inr ("seed" : Str), .int s), (.inr ("count" : Str), .int n)]
structure BagAt (H : Hp) (b : Addr) : Prop where
  ex : ∃ (c : Addr) (ns : List Int) (a r s n : Int), H b = some (bagO c a r s n) ∧ H c = some (.lst (ns.map V.int)) ∧ 0 ≤ a ∧ ns.length ≤ 63
section
variable {H : Hp} {b c : Addr} {a r s n : Int}
theorem bg_cells (h : H b = some (bagO c a r s n)) : DGet H b (.str "cells") (some (.ref c)) := DGet.k (k := Sum.inr ("cells" : Str)) h
theorem kne1 : ¬ ((Sum.inr ("cells" : Str) : Key) = Sum.inr ("at" : Str)) := by decide +kernel
theorem kne2 : ¬ ((Sum.inr ("cells" : Str) : Key) = Sum.inr ("rest" : Str)) := by decide +kernel
theorem kne3 : ¬ ((Sum.inr ("cells" : Str) : Key) = Sum.inr ("seed" : Str)) := by decide +kernel
theorem kne4 : ¬ ((Sum.inr ("cells" : Str) : Key) = Sum.inr ("count" : Str)) := by decide +kernel
theorem kne5 : ¬ ((Sum.inr ("at" : Str) : Key) = Sum.inr ("rest" : Str)) := by decide +kernel
theorem kne6 : ¬ ((Sum.inr ("at" : Str) : Key) = Sum.inr ("seed" : Str)) := by decide +kernel
theorem kne7 : ¬ ((Sum.inr ("at" : Str) : Key) = Sum.inr ("count" : Str)) := by decide +kernel
theorem kne8 : ¬ ((Sum.inr ("rest" : Str) : Key) = Sum.inr ("seed" : Str)) := by decide +kernel
theorem kne9 : ¬ ((Sum.inr ("rest" : Str) : Key) = Sum.inr ("count" : Str)) := by decide +kernel
theorem kne10 : ¬ ((Sum.inr ("seed" : Str) : Key) = Sum.inr ("count" : Str)) := by decide +kernel
theorem dget_of {H : Hp} {b : Addr} {kvs : List (Key × V)} {k : Str} {v : V} (h : H b = some (.dK kvs)) (e : valV kvs (Sum.inr k : Key) = some v) : DGet H b (.str k) (some v) := by
  rw [← e]; exact DGet.k (k := Sum.inr k) h
theorem bg_at (h : H b = some (bagO c a r s n)) : DGet H b (.str "at") (some (.int a)) := dget_of h (by rw [valV_neg kne1, valV_pos rfl])
theorem bg_rest (h : H b = some (bagO c a r s n)) : DGet H b (.str "rest") (some (.int r)) := dget_of h (by rw [valV_neg kne2, valV_neg kne5, valV_pos rfl])
theorem bg_seed (h : H b = some (bagO c a r s n)) : DGet H b (.str "seed") (some (.int s)) := dget_of h (by rw [valV_neg kne3, valV_neg kne6, valV_neg kne8, valV_pos rfl])
theorem bg_count (h : H b = some (bagO c a r s n)) : DGet H b (.str "count") (some (.int n)) := dget_of h (by rw [valV_neg kne4, valV_neg kne7, valV_neg kne9, valV_neg kne10, valV_pos rfl])
theorem dput_of {H : Hp} {b : Addr} {kvs kvs' : List (Key × V)} {k : Str} {v : V} (h : H b = some (.dK kvs)) (e : putK kvs (Sum.inr k : Key) v = kvs') (hl : kvs.length < sizeLine) : DPut H b (.str k) v (upd H b (.dK kvs')) := by
  rw [← e]; exact DPut.k (k := Sum.inr k) h hl
theorem kns : ∀ {x y : Str}, ¬ ((Sum.inr x : Key) = Sum.inr y) → ¬ x = y := fun h e => h (by rw [e])
theorem bp_at {x : Int} (h : H b = some (bagO c a r s n)) : DPut H b (.str "at") (.int x) (upd H b (bagO c x r s n)) := dput_of h (by unfold putK; simp [kns kne1, kns kne5, kns kne6, kns kne7, Ne.symm (kns kne1), Ne.symm (kns kne5), Ne.symm (kns kne6), Ne.symm (kns kne7)]) (by show 5 < sizeLine; decide)
theorem bp_rest {x : Int} (h : H b = some (bagO c a r s n)) : DPut H b (.str "rest") (.int x) (upd H b (bagO c a x s n)) := dput_of h (by unfold putK; simp [kns kne2, kns kne5, kns kne8, kns kne9, Ne.symm (kns kne2), Ne.symm (kns kne5), Ne.symm (kns kne8), Ne.symm (kns kne9)]) (by show 5 < sizeLine; decide)
theorem bp_seed {x : Int} (h : H b = some (bagO c a r s n)) : DPut H b (.str "seed") (.int x) (upd H b (bagO c a r x n)) := dput_of h (by unfold putK; simp [kns kne3, kns kne6, kns kne8, kns kne10, Ne.symm (kns kne3), Ne.symm (kns kne6), Ne.symm (kns kne8), Ne.symm (kns kne10)]) (by show 5 < sizeLine; decide)
theorem bp_count {x : Int} (h : H b = some (bagO c a r s n)) : DPut H b (.str "count") (.int x) (upd H b (bagO c a r s x)) := dput_of h (by unfold putK; simp [kns kne4, kns kne7, kns kne9, kns kne10, Ne.symm (kns kne4), Ne.symm (kns kne7), Ne.symm (kns kne9), Ne.symm (kns kne10)]) (by show 5 < sizeLine; decide)
end
abbrev spPick : Sp := Sp2 fun x y H Q _ => ∃ (b : Addr) (m : Int), x = .ref b ∧ y = .int m ∧ 0 < m ∧ m < 1073741824 ∧ BagAt H b ∧ ∀ (v : Int) (H' : Hp), 0 ≤ v → v < m → BagAt H' b → Kp b H H' → Q (.int v) H'
abbrev spChoice (K : PySem.W.Frag) : Sp := Sp2 fun x y H Q _ => ∃ (b t : Addr) (xs : List V), x = .ref b ∧ y = .ref t ∧ H t = some (.lst xs) ∧ 0 < xs.length ∧ xs.length < 1073741824 ∧ t ≠ b ∧ BagAt H b ∧ ∀ (i : Nat) (v : V) (H' : Hp), xs[i]? = some v → BagAt H' b → Kp b H H' → Q v H'
end My
namespace My
open PySem PySem.Spec PyProof.Rows L2
/-! ### plain things: what a law hands about -/
inductive Pl (H : Hp) : V → Prop where
  | int (i : Int) : Pl H (.int i)
  | bl (b : Bool) : Pl H (.bl b)
  | non : Pl H .non
  | str (s : Str) : Pl H (.str s)
  | tup {a : Addr} {xs : List V} (h : H a = some (.tup xs)) : Pl H (.ref a)
  | lst {a : Addr} {xs : List V} (h : H a = some (.lst xs)) : Pl H (.ref a)
  | dK {a : Addr} {kvs : List (Key × V)} (h : H a = some (.dK kvs)) : Pl H (.ref a)
theorem Pl.kp {H H' : Hp} {x : V} {b : Addr} (h : Pl H x) (k : Kp b H H') (n : x ≠ .ref b) : Pl H' x := by
  cases h with
  | int i => exact .int i
  | bl b => exact .bl b
  | non => exact .non
  | str s => exact .str s
  | @tup a xs e => exact .tup (k a _ (fun z => n (by rw [z])) e)
  | @lst a xs e => exact .lst (k a _ (fun z => n (by rw [z])) e)
  | @dK a xs e => exact .dK (k a _ (fun z => n (by rw [z])) e)
theorem Pl.same {H H' : Hp} {x : V} (h : Pl H x) (k : Same H H') : Pl H' x := by
  cases h with
  | int i => exact .int i
  | bl b => exact .bl b
  | non => exact .non
  | str s => exact .str s
  | tup e => exact .tup (k _ _ e)
  | lst e => exact .lst (k _ _ e)
  | dK e => exact .dK (k _ _ e)
def isI : V → Bool
  | .int _ => true
  | _ => false
def isB : V → Bool
  | .bl _ => true
  | _ => false
def isS : V → Bool
  | .str _ => true
  | _ => false
section
variable {K : PySem.W.Frag} {H : Hp} {x : V} {Q : VK}
theorem isi_ty {n m : String} {b : Bool} (h : TyX K H x (.type n)) (hb : kitB n m = some b) (q : Q (.bl b) H) : rIsi K [x, .ty m] H Q := ⟨x, .ty m, .type n, .type m, b, rfl, .ty m, h, kit_ty hb, q⟩
theorem isi_int (h : Pl H x) (q : Q (.bl (isI x || isB x)) H) : rIsi K [x, .ty "int"] H Q := by
  cases h with
  | int i => exact isi_ty (b := true) (.base (.int i)) (by decide +kernel) q
  | bl b => exact isi_ty (b := true) (.base (.bl b)) (by decide +kernel) q
  | non => exact isi_ty (b := false) (.base .non) (by decide +kernel) q
  | str s => exact isi_ty (b := false) (.base (.str s)) (by decide +kernel) q
  | tup e => exact isi_ty (b := false) (.base (.tup e)) (by decide +kernel) q
  | lst e => exact isi_ty (b := false) (.base (.lst e)) (by decide +kernel) q
  | dK e => exact isi_ty (b := false) (.base (.dK e)) (by decide +kernel) q
theorem isi_bool (h : Pl H x) (q : Q (.bl (isB x)) H) : rIsi K [x, .ty "bool"] H Q := by
  cases h with
  | int i => exact isi_ty (b := false) (.base (.int i)) (by decide +kernel) q
  | bl b => exact isi_ty (b := true) (.base (.bl b)) (by decide +kernel) q
  | non => exact isi_ty (b := false) (.base .non) (by decide +kernel) q
  | str s => exact isi_ty (b := false) (.base (.str s)) (by decide +kernel) q
  | tup e => exact isi_ty (b := false) (.base (.tup e)) (by decide +kernel) q
  | lst e => exact isi_ty (b := false) (.base (.lst e)) (by decide +kernel) q
  | dK e => exact isi_ty (b := false) (.base (.dK e)) (by decide +kernel) q
theorem isi_str (h : Pl H x) (q : Q (.bl (isS x)) H) : rIsi K [x, .ty "str"] H Q := by
  cases h with
  | int i => exact isi_ty (b := false) (.base (.int i)) (by decide +kernel) q
  | bl b => exact isi_ty (b := false) (.base (.bl b)) (by decide +kernel) q
  | non => exact isi_ty (b := false) (.base .non) (by decide +kernel) q
  | str s => exact isi_ty (b := true) (.base (.str s)) (by decide +kernel) q
  | tup e => exact isi_ty (b := false) (.base (.tup e)) (by decide +kernel) q
  | lst e => exact isi_ty (b := false) (.base (.lst e)) (by decide +kernel) q
  | dK e => exact isi_ty (b := false) (.base (.dK e)) (by decide +kernel) q
end
def btw : V → Int → Int → Bool
  | .int i, lo, hi => decide (lo ≤ i) && decide (i ≤ hi)
  | _, _, _ => false
/-! ### widths -/
def hf (w : Int) : Int := 2 ^ (w - 1).toNat
def isW : V → Bool
  | .int i => decide (i = 16 ∨ i = 24 ∨ i = 32)
  | _ => false
def Wd (w : Int) : Prop := w = 16 ∨ w = 24 ∨ w = 32
theorem isW_int {w : Int} (h : Wd w) : isW (.int w) = true := decide_eq_true h
theorem isW_of {x : V} (h : isW x = true) : ∃ w, x = .int w ∧ Wd w := by
  cases x with
  | int i => exact ⟨i, rfl, (of_decide_eq_true h : i = 16 ∨ i = 24 ∨ i = 32)⟩
  | _ => cases h
def isN (w : Int) (x : V) : Bool := btw x (-(hf w)) (hf w - 1)
def wrapI (w n : Int) : Int := (n + hf w) % (2 * hf w) - hf w
theorem hf_val {w : Int} (h : Wd w) : (w = 16 ∧ hf w = 32768) ∨ (w = 24 ∧ hf w = 8388608) ∨ (w = 32 ∧ hf w = 2147483648) := by
  rcases h with rfl | rfl | rfl
  · exact .inl ⟨rfl, rfl⟩
  · exact .inr (.inl ⟨rfl, rfl⟩)
  · exact .inr (.inr ⟨rfl, rfl⟩)
theorem hf_pos {w : Int} (h : Wd w) : 0 < hf w ∧ hf w ≤ 2147483648 := by
  rcases hf_val h with ⟨_, e⟩ | ⟨_, e⟩ | ⟨_, e⟩ <;> rw [e] <;> decide
theorem op_fdivL {X : Cx} : OpR X (binaryOp .FloorDiv) (rI (fun _ j => j ≠ 0 ∧ j.natAbs.log2 < 9000) fun i j => .int (i.fdiv j)) := opI fun _ _ _ _ _ _ _ hc q => floordiv_int hc.1 q (.inl (PyProof.noPylong_of_log2 hc.2))
end My
namespace My
open PySem PySem.Spec PyProof.Rows L2
section
variable {X : Cx}
theorem CallR_imp {f : Value} {r r' : List V → Hp → VK → Prop} (h : CallR X f r) (i : ∀ xs H Q, r' xs H Q → r xs H Q) : CallR X f r' := fun pins s σ H xs us Q I rv q => h pins s σ H xs us Q I rv (i xs H Q q)
theorem call_isInt : CallR X (.builtin "isinstance") (fun xs H Q => ∃ x, xs = [x, .ty "int"] ∧ Pl H x ∧ Q (.bl (isI x || isB x)) H) := CallR_imp call_isi fun xs H Q ⟨x, e, p, q⟩ => by rw [e]; exact isi_int p q
theorem call_isBool : CallR X (.builtin "isinstance") (fun xs H Q => ∃ x, xs = [x, .ty "bool"] ∧ Pl H x ∧ Q (.bl (isB x)) H) := CallR_imp call_isi fun xs H Q ⟨x, e, p, q⟩ => by rw [e]; exact isi_bool p q
theorem call_isStr : CallR X (.builtin "isinstance") (fun xs H Q => ∃ x, xs = [x, .ty "str"] ∧ Pl H x ∧ Q (.bl (isS x)) H) := CallR_imp call_isi fun xs H Q ⟨x, e, p, q⟩ => by rw [e]; exact isi_str p q
/-- isinstance(x, tuple) of what is a tuple -/
theorem call_isTup : CallR X (.builtin "isinstance") (fun xs H Q => ∃ a ys, xs = [.ref a, .ty "tuple"] ∧ H a = some (.tup ys) ∧ Q (.bl true) H) := CallR_imp call_isi fun xs H Q ⟨a, ys, e, h, q⟩ => by
  rw [e]; exact isi_ty (.base (.tup h)) (by decide +kernel) q
theorem call_isTupK : CallR X (.builtin "isinstance") (fun xs H Q => ∃ a o, xs = [.ref a, .ty "tuple"] ∧ X.K.lookup a = some o ∧ o.cls = .type "tuple" ∧ Q (.bl true) H) := CallR_imp call_isi fun xs H Q ⟨a, o, e, h, hc, q⟩ => by
  rw [e]; exact isi_ty (.kTuple h hc) (by decide +kernel) q
end
theorem iteD {p : Prop} [Decidable p] {A B : Prop} (h1 : p → A) (h2 : ¬ p → B) : if decide p = true then A else B := by
  by_cases h : p
  · rw [if_pos (decide_eq_true h)]; exact h1 h
  · rw [if_neg (fun e => h (of_decide_eq_true e))]; exact h2 h
theorem iteND {p : Prop} [Decidable p] {A B : Prop} (h1 : ¬ p → A) (h2 : p → B) : if (!decide p) = true then A else B := by
  by_cases h : p
  · rw [decide_eq_true h]; exact iteF (h2 h)
  · rw [decide_eq_false h]; exact iteT (h1 h)
theorem iteDT {p : Prop} [Decidable p] {A B : Prop} (hp : p) (h : A) : if decide p = true then A else B := by rw [if_pos (decide_eq_true hp)]; exact h
theorem iteDF {p : Prop} [Decidable p] {A B : Prop} (hp : ¬ p) (h : B) : if decide p = true then A else B := by rw [if_neg (fun e => hp (of_decide_eq_true e))]; exact h
theorem iteB {c : Bool} {A B : Prop} (h1 : c = true → A) (h2 : c = false → B) : if c = true then A else B := by
  cases c
  · exact iteF (h2 rfl)
  · exact iteT (h1 rfl)
theorem Pl.new {H : Hp} {x : V} {l : Addr} {o : HO} (h : Pl H x) (hl : H l = none) : Pl (upd H l o) x := h.same (Same.new (Same.refl H) hl)
end My
namespace My
open PySem PySem.Spec PyProof.Rows L2
def bit (n : Int) (k : Nat) : Int := n / 2 ^ k % 2
def bts (w : Nat) (n : Int) : List Int := (List.range w).map (bit n)
theorem bit_01 (n : Int) (k : Nat) : bit n k = 0 ∨ bit n k = 1 := by unfold bit; omega
theorem bts_len (w : Nat) (n : Int) : (bts w n).length = w := by simp [bts]
theorem bts_get {w k : Nat} (n : Int) (h : k < w) : (bts w n)[k]? = some (bit n k) := by simp [bts, h]
theorem bts_succ (k : Nat) (n : Int) : bts (k + 1) n = bts k n ++ [bit n k] := by simp [bts, List.range_succ]
theorem bts_zero (n : Int) : bts 0 n = [] := rfl
theorem pow2_pos (k : Nat) : (0 : Int) < 2 ^ k := Int.pow_pos (by decide)
/-- q * P + r, in the range: quotient and rest -/
theorem dm {P q r x : Int} (hx : x = P * q + r) (h0 : 0 ≤ r) (h1 : r < P) : x / P = q ∧ x % P = r :=
  (Int.ediv_emod_unique (by omega)).mpr ⟨by rw [hx]; omega, h0, h1⟩
theorem bit_of {P n A r : Int} {k : Nat} (e : (2 : Int) ^ k = P) (hn : n = P * A + r) (h0 : 0 ≤ r) (h1 : r < P) : bit n k = A % 2 := by
  unfold bit; rw [e, (dm hn h0 h1).1]
/-- the carry into place k -/
def car (a b c : Int) (k : Nat) : Int := (a % 2 ^ k + b % 2 ^ k + c) / 2 ^ k
theorem car_01 {a b c : Int} (hc : c = 0 ∨ c = 1) (k : Nat) : car a b c k = 0 ∨ car a b c k = 1 := by
  have hP := pow2_pos k
  have h1 := Int.emod_nonneg a (Int.ne_of_gt hP)
  have h2 := Int.emod_lt_of_pos a hP
  have h3 := Int.emod_nonneg b (Int.ne_of_gt hP)
  have h4 := Int.emod_lt_of_pos b hP
  unfold car
  generalize (2 : Int) ^ k = P at *
  generalize a % P = x at *
  generalize b % P = y at *
  by_cases h : x + y + c < P
  · exact .inl (Int.ediv_eq_zero_of_lt (by omega) h)
  · refine .inr (dm (q := 1) (r := x + y + c - P) (by omega) (by omega) (by omega)).1
theorem split2 (A : Int) : ∃ q t, A = 2 * q + t ∧ (t = 0 ∨ t = 1) ∧ A % 2 = t := ⟨A / 2, A % 2, by omega, by omega, rfl⟩
theorem mod_next (a : Int) (k : Nat) : a % 2 ^ (k + 1) = 2 ^ k * bit a k + a % 2 ^ k := by
  have hP := pow2_pos k
  unfold bit
  rw [Int.pow_succ]
  have h1 := Int.emod_nonneg a (Int.ne_of_gt hP)
  have h2 := Int.emod_lt_of_pos a hP
  have h3 := Int.mul_ediv_add_emod a (2 ^ k)
  generalize (2 : Int) ^ k = P at *
  obtain ⟨q, t, e, ht, et⟩ := split2 (a / P)
  rw [et]
  have e2 : a = (P * 2) * q + (P * t + a % P) := by
    rw [e] at h3
    rw [Int.mul_add, ← Int.mul_assoc] at h3
    omega
  rcases ht with rfl | rfl
  · exact (dm e2 (by omega) (by omega)).2
  · exact (dm e2 (by omega) (by omega)).2
theorem add_bit {a b c : Int} (k : Nat) : bit a k + bit b k + car a b c k = bit (a + b + c) k + 2 * car a b c (k + 1) := by
  have hP := pow2_pos k
  have h1 := Int.mul_ediv_add_emod a (2 ^ k)
  have h2 := Int.mul_ediv_add_emod b (2 ^ k)
  have na := mod_next a k
  have nb := mod_next b k
  have e1 : (a + b + c) / 2 ^ k = a / 2 ^ k + b / 2 ^ k + car a b c k := by
    unfold car
    have e : a + b + c = (a % 2 ^ k + b % 2 ^ k + c) + 2 ^ k * (a / 2 ^ k + b / 2 ^ k) := by rw [Int.mul_add]; omega
    conv => lhs; rw [e]
    rw [Int.add_mul_ediv_left _ _ (Int.ne_of_gt hP)]
    omega
  have e2 : car a b c (k + 1) = (bit a k + bit b k + car a b c k) / 2 := by
    unfold car
    rw [na, nb, Int.pow_succ, ← Int.ediv_ediv_of_nonneg (Int.le_of_lt hP)]
    have e : 2 ^ k * bit a k + a % 2 ^ k + (2 ^ k * bit b k + b % 2 ^ k) + c = (a % 2 ^ k + b % 2 ^ k + c) + 2 ^ k * (bit a k + bit b k) := by rw [Int.mul_add]; omega
    rw [e, Int.add_mul_ediv_left _ _ (Int.ne_of_gt hP)]
    congr 1; omega
  rw [e2]
  have e3 : bit (a + b + c) k = (a / 2 ^ k + b / 2 ^ k + car a b c k) % 2 := by
    show (a + b + c) / 2 ^ k % 2 = _
    rw [e1]
  rw [e3]
  show a / 2 ^ k % 2 + b / 2 ^ k % 2 + car a b c k = (a / 2 ^ k + b / 2 ^ k + car a b c k) % 2 + 2 * ((a / 2 ^ k % 2 + b / 2 ^ k % 2 + car a b c k) / 2)
  generalize a / 2 ^ k = A
  generalize b / 2 ^ k = B
  generalize car a b c k = C
  omega
theorem bit_next (n : Int) (k : Nat) : bit n (k + 1) = bit (n / 2) k := by
  unfold bit
  rw [Int.pow_succ, Int.mul_comm, ← Int.ediv_ediv_of_nonneg (by decide)]
theorem bit_zero (n : Int) : bit n 0 = n % 2 := by unfold bit; simp
theorem bit_not (n : Int) (k : Nat) : bit (-1 - n) k = 1 - bit n k := by
  induction k generalizing n with
  | zero => rw [bit_zero, bit_zero]; omega
  | succ k ih =>
    rw [bit_next, bit_next]
    have e : (-1 - n) / 2 = -1 - n / 2 := by omega
    rw [e, ih]
theorem bits_not (w : Nat) (n : Int) : (bts w n).map (fun b => 1 - b) = bts w (-1 - n) := by
  unfold bts
  rw [List.map_map]
  exact List.map_congr_left fun k _ => (bit_not n k).symm
/-- a row of bits, the first i of them -/
def val (n : Int) : Nat → Int
  | 0 => 0
  | i + 1 => val n i + bit n i * 2 ^ i
theorem val_mod (n : Int) : ∀ i, val n i = n % 2 ^ i
  | 0 => by show 0 = n % 1; omega
  | i + 1 => by
    show val n i + bit n i * 2 ^ i = n % 2 ^ (i + 1)
    rw [val_mod n i, mod_next, Int.mul_comm]; omega
theorem val_wrap {w : Int} (hw : Wd w) (n : Int) : val n (w - 1).toNat - bit n (w - 1).toNat * 2 ^ (w - 1).toNat = wrapI w n := by
  rw [val_mod]
  unfold wrapI
  show n % 2 ^ (w - 1).toNat - n / 2 ^ (w - 1).toNat % 2 * 2 ^ (w - 1).toNat = _
  have e : (2 : Int) ^ (w - 1).toNat = hf w := rfl
  rw [e]
  obtain ⟨h0, _⟩ := hf_pos hw
  have h3 := Int.mul_ediv_add_emod n (hf w)
  have h1 := Int.emod_nonneg n (Int.ne_of_gt h0)
  have h2 := Int.emod_lt_of_pos n h0
  generalize hf w = P at *
  obtain ⟨q, t, e, ht, et⟩ := split2 (n / P)
  rw [et]
  rw [e] at h3
  have h4 : P * (2 * q + t) = 2 * P * q + P * t := by rw [Int.mul_add, ← Int.mul_assoc, Int.mul_comm P 2]
  rw [h4] at h3
  rcases ht with rfl | rfl
  · rw [(dm (P := 2 * P) (q := q) (r := n % P + P) (x := n + P) (by omega) (by omega) (by omega)).2]; omega
  · rw [(dm (P := 2 * P) (q := q + 1) (r := n % P) (x := n + P) (by rw [Int.mul_add]; omega) (by omega) (by omega)).2]; omega
/-! ### and, or, xor -/
theorem and_nat (a b : Nat) : ((a &&& b : Nat) : Int) = 2 * ((a / 2 &&& b / 2 : Nat) : Int) + ((a : Int) % 2) * ((b : Int) % 2) := by
  have h1 : (a &&& b) / 2 = a / 2 &&& b / 2 := Nat.and_div_two
  have h2 : (a &&& b) % 2 = (a % 2) * (b % 2) := by
    have h := Nat.and_mod_two_pow (a := a) (b := b) (n := 1)
    rw [Nat.pow_one] at h
    rw [h]
    rcases Nat.mod_two_eq_zero_or_one a with h | h <;> rcases Nat.mod_two_eq_zero_or_one b with h' | h' <;> rw [h, h'] <;> rfl
  have h3 : (a &&& b) = 2 * ((a &&& b) / 2) + (a &&& b) % 2 := by omega
  rw [h1, h2] at h3
  have h4 : ((a &&& b : Nat) : Int) = ((2 * (a / 2 &&& b / 2) + a % 2 * (b % 2) : Nat) : Int) := by rw [← h3]
  rw [h4]
  push_cast
  rfl
theorem or_nat (a b : Nat) : ((a ||| b : Nat) : Int) = 2 * ((a / 2 ||| b / 2 : Nat) : Int) + ((a : Int) % 2 + (b : Int) % 2 - ((a : Int) % 2) * ((b : Int) % 2)) := by
  have h1 : (a ||| b) / 2 = a / 2 ||| b / 2 := Nat.or_div_two
  have h2 : ((a ||| b) % 2 : Nat) = (a % 2) + (b % 2) - (a % 2) * (b % 2) := by
    have h := Nat.or_mod_two_pow (a := a) (b := b) (n := 1)
    rw [Nat.pow_one] at h
    rw [h]
    rcases Nat.mod_two_eq_zero_or_one a with h | h <;> rcases Nat.mod_two_eq_zero_or_one b with h' | h' <;> rw [h, h'] <;> rfl
  have h3 : (a ||| b) = 2 * ((a ||| b) / 2) + (a ||| b) % 2 := by omega
  rw [h1, h2] at h3
  have h4 : ((a ||| b : Nat) : Int) = ((2 * (a / 2 ||| b / 2) + (a % 2 + b % 2 - a % 2 * (b % 2)) : Nat) : Int) := by rw [← h3]
  rw [h4]
  have ha : (a % 2 : Nat) = 0 ∨ (a % 2 : Nat) = 1 := by omega
  have hb : (b % 2 : Nat) = 0 ∨ (b % 2 : Nat) = 1 := by omega
  have ea : (a : Int) % 2 = ((a % 2 : Nat) : Int) := by push_cast; rfl
  have eb : (b : Int) % 2 = ((b % 2 : Nat) : Int) := by push_cast; rfl
  rw [ea, eb]
  rcases ha with ha | ha <;> rcases hb with hb | hb <;> rw [ha, hb] <;> push_cast <;> omega
theorem not_half (y : Int) : (Builtin.bitNot y) / 2 = Builtin.bitNot (y / 2) := by unfold Builtin.bitNot; omega
theorem mul01 {a b : Int} (ha : a = 0 ∨ a = 1) (hb : b = 0 ∨ b = 1) : a * b = 0 ∨ a * b = 1 := by rcases ha with rfl | rfl <;> rcases hb with rfl | rfl <;> decide
theorem and_rec (x y : Int) : Builtin.bitAnd x y = 2 * Builtin.bitAnd (x / 2) (y / 2) + (x % 2) * (y % 2) := by
  by_cases hx : 0 ≤ x <;> by_cases hy : 0 ≤ y
  · have h1 : 0 ≤ x / 2 := by omega
    have h2 : 0 ≤ y / 2 := by omega
    have n := and_nat x.toNat y.toNat
    unfold Builtin.bitAnd
    simp only [decide_eq_true hx, decide_eq_true hy, decide_eq_true h1, decide_eq_true h2]
    rw [n]
    have e1 : ((x.toNat : Nat) : Int) = x := Int.toNat_of_nonneg hx
    have e2 : ((y.toNat : Nat) : Int) = y := Int.toNat_of_nonneg hy
    have e3 : x.toNat / 2 = (x / 2).toNat := by omega
    have e4 : y.toNat / 2 = (y / 2).toNat := by omega
    rw [e1, e2, e3, e4]
  · have h1 : 0 ≤ x / 2 := by omega
    have h2 : ¬ 0 ≤ y / 2 := by omega
    have n := and_nat x.toNat (Builtin.bitNot y).toNat
    unfold Builtin.bitAnd
    simp only [decide_eq_true hx, decide_eq_false hy, decide_eq_true h1, decide_eq_false h2]
    rw [n]
    have hn : 0 ≤ Builtin.bitNot y := by unfold Builtin.bitNot; omega
    have e1 : ((x.toNat : Nat) : Int) = x := Int.toNat_of_nonneg hx
    have e2 : (((Builtin.bitNot y).toNat : Nat) : Int) = Builtin.bitNot y := Int.toNat_of_nonneg hn
    have e3 : x.toNat / 2 = (x / 2).toNat := by omega
    have e4 : (Builtin.bitNot y).toNat / 2 = (Builtin.bitNot (y / 2)).toNat := by rw [← not_half]; omega
    rw [e1, e2, e3, e4]
    have hb : Builtin.bitNot y % 2 = 1 - y % 2 := by unfold Builtin.bitNot; omega
    rw [hb]
    rcases (show x % 2 = 0 ∨ x % 2 = 1 by omega) with h | h <;> rcases (show y % 2 = 0 ∨ y % 2 = 1 by omega) with h' | h' <;> rw [h, h'] <;> omega
  · have h1 : ¬ 0 ≤ x / 2 := by omega
    have h2 : 0 ≤ y / 2 := by omega
    have n := and_nat y.toNat (Builtin.bitNot x).toNat
    unfold Builtin.bitAnd
    simp only [decide_eq_false hx, decide_eq_true hy, decide_eq_false h1, decide_eq_true h2]
    rw [n]
    have hn : 0 ≤ Builtin.bitNot x := by unfold Builtin.bitNot; omega
    have e1 : ((y.toNat : Nat) : Int) = y := Int.toNat_of_nonneg hy
    have e2 : (((Builtin.bitNot x).toNat : Nat) : Int) = Builtin.bitNot x := Int.toNat_of_nonneg hn
    have e3 : y.toNat / 2 = (y / 2).toNat := by omega
    have e4 : (Builtin.bitNot x).toNat / 2 = (Builtin.bitNot (x / 2)).toNat := by rw [← not_half]; omega
    rw [e1, e2, e3, e4]
    have hb : Builtin.bitNot x % 2 = 1 - x % 2 := by unfold Builtin.bitNot; omega
    rw [hb]
    rcases (show x % 2 = 0 ∨ x % 2 = 1 by omega) with h | h <;> rcases (show y % 2 = 0 ∨ y % 2 = 1 by omega) with h' | h' <;> rw [h, h'] <;> omega
  · have h1 : ¬ 0 ≤ x / 2 := by omega
    have h2 : ¬ 0 ≤ y / 2 := by omega
    have n := or_nat (Builtin.bitNot x).toNat (Builtin.bitNot y).toNat
    unfold Builtin.bitAnd
    simp only [decide_eq_false hx, decide_eq_false hy, decide_eq_false h1, decide_eq_false h2]
    rw [n]
    have hm : 0 ≤ Builtin.bitNot x := by unfold Builtin.bitNot; omega
    have hn : 0 ≤ Builtin.bitNot y := by unfold Builtin.bitNot; omega
    have e1 : (((Builtin.bitNot x).toNat : Nat) : Int) = Builtin.bitNot x := Int.toNat_of_nonneg hm
    have e2 : (((Builtin.bitNot y).toNat : Nat) : Int) = Builtin.bitNot y := Int.toNat_of_nonneg hn
    have e3 : (Builtin.bitNot x).toNat / 2 = (Builtin.bitNot (x / 2)).toNat := by rw [← not_half]; omega
    have e4 : (Builtin.bitNot y).toNat / 2 = (Builtin.bitNot (y / 2)).toNat := by rw [← not_half]; omega
    rw [e1, e2, e3, e4]
    have ha : Builtin.bitNot x % 2 = 1 - x % 2 := by unfold Builtin.bitNot; omega
    have hb : Builtin.bitNot y % 2 = 1 - y % 2 := by unfold Builtin.bitNot; omega
    rw [ha, hb]
    generalize ((Builtin.bitNot (x / 2)).toNat ||| (Builtin.bitNot (y / 2)).toNat : Nat) = O
    show -(2 * (O : Int) + (1 - x % 2 + (1 - y % 2) - (1 - x % 2) * (1 - y % 2))) - 1 = 2 * (-(O : Int) - 1) + x % 2 * (y % 2)
    rcases (show x % 2 = 0 ∨ x % 2 = 1 by omega) with h | h <;> rcases (show y % 2 = 0 ∨ y % 2 = 1 by omega) with h' | h' <;> rw [h, h'] <;> omega
theorem m2 (x : Int) : x % 2 = 0 ∨ x % 2 = 1 := by omega
theorem and_half (x y : Int) : Builtin.bitAnd x y % 2 = (x % 2) * (y % 2) ∧ Builtin.bitAnd x y / 2 = Builtin.bitAnd (x / 2) (y / 2) := by
  have h := and_rec x y
  have m := mul01 (m2 x) (m2 y)
  generalize x % 2 * (y % 2) = p at *
  omega
theorem bit_and (x y : Int) (k : Nat) : bit (Builtin.bitAnd x y) k = bit x k * bit y k := by
  induction k generalizing x y with
  | zero => rw [bit_zero, bit_zero, bit_zero]; exact (and_half x y).1
  | succ k ih => rw [bit_next, bit_next, bit_next, (and_half x y).2, ih]
theorem bit_or (x y : Int) (k : Nat) : bit (Builtin.bitOr x y) k = bit x k + bit y k - bit x k * bit y k := by
  induction k generalizing x y with
  | zero =>
    rw [bit_zero, bit_zero, bit_zero, bitOr_and]
    have h := and_rec x y
    have m := mul01 (m2 x) (m2 y)
    rcases m2 x with hx | hx <;> rcases m2 y with hy | hy <;> rw [hx, hy] at h ⊢ <;> omega
  | succ k ih =>
    rw [bit_next, bit_next, bit_next, ← ih, bitOr_and, bitOr_and]
    have h := and_rec x y
    congr 1
    rcases m2 x with hx | hx <;> rcases m2 y with hy | hy <;> rw [hx, hy] at h <;> omega
theorem bit_xor (x y : Int) (k : Nat) : bit (Builtin.bitXor x y) k = (bit x k + bit y k) % 2 := by
  induction k generalizing x y with
  | zero =>
    rw [bit_zero, bit_zero, bit_zero, bitXor_and]
    have h := and_rec x y
    rcases m2 x with hx | hx <;> rcases m2 y with hy | hy <;> rw [hx, hy] at h ⊢ <;> omega
  | succ k ih =>
    rw [bit_next, bit_next, bit_next, ← ih, bitXor_and, bitXor_and]
    have h := and_rec x y
    congr 1
    rcases m2 x with hx | hx <;> rcases m2 y with hy | hy <;> rw [hx, hy] at h <;> omega
end My
namespace My
open PySem PySem.Spec PyProof.Rows L2
theorem Same.put {H1 H : Hp} {D : Addr} {o : HO} (h : Same H1 H) (hD : H1 D = none) : Same H1 (upd H D o) := fun p u e => by
  rw [upd_ne (ne_of_none e hD)]; exact h p u e
theorem Kp.put {b : Addr} {H1 H : Hp} {D : Addr} {o : HO} (h : Kp b H1 H) (hD : H1 D = none) : Kp b H1 (L2.upd H D o) := fun p u n e => by
  rw [upd_ne (ne_of_none e hD)]; exact h p u n e
theorem BagAt.put {H : Hp} {b D : Addr} {o : HO} (B : BagAt H b) (hD : H D = none) : BagAt (upd H D o) b := by
  obtain ⟨c, ns, a, r, s, n, hb, hc, ha, hl⟩ := B.ex
  exact ⟨c, ns, a, r, s, n, by rw [upd_ne (ne_of_none hb hD)]; exact hb, by rw [upd_ne (ne_of_none hc hD)]; exact hc, ha, hl⟩
theorem BagAt.same {H H' : Hp} {b : Addr} (B : BagAt H b) (h : Same H H') : BagAt H' b := by
  obtain ⟨c, ns, a, r, s, n, hb, hc, ha, hl⟩ := B.ex
  exact ⟨c, ns, a, r, s, n, h _ _ hb, h _ _ hc, ha, hl⟩
theorem BagAt.some {H : Hp} {b : Addr} (B : BagAt H b) : ∃ o, H b = some o := by
  obtain ⟨c, ns, a, r, s, n, hb, _⟩ := B.ex
  exact ⟨_, hb⟩
/-- a new list at D that grows to ys, all that was tracked ahead of it as it was -/
structure LBd (D : Addr) (ys : List V) (H1 : Hp) (i : Nat) (H : Hp) : Prop where
  hd : H D = some (.lst (ys.take i))
  sm : Same H1 H
theorem LBd_0 {D : Addr} {ys : List V} {H1 : Hp} (hD : H1 D = none) : LBd D ys H1 0 (upd H1 D (.lst [])) := ⟨upd_same, Same.put (Same.refl H1) hD⟩
theorem take_snoc {α : Type} {ys : List α} {i : Nat} {y : α} (hy : ys[i]? = some y) : ys.take (i + 1) = ys.take i ++ [y] := by rw [List.take_add_one, hy]; rfl
theorem LBd_s {D : Addr} {ys : List V} {H1 H : Hp} {i : Nat} {y : V} (h : LBd D ys H1 i H) (hD : H1 D = none) (hy : ys[i]? = some y) (hl : ys.length ≤ 1000000) :
    ∃ acc, H D = some (.lst acc) ∧ acc.length < sizeLine ∧ LBd D ys H1 (i + 1) (upd H D (.lst (acc ++ [y]))) :=
  ⟨_, h.1, by rw [List.length_take, sizeLine_eq]; omega, by rw [← take_snoc hy]; exact upd_same, Same.put h.2 hD⟩
theorem LBd_n {D : Addr} {ys : List V} {H1 H : Hp} {n : Nat} (h : LBd D ys H1 n H) (e : ys.length = n) : H D = some (.lst ys) ∧ Same H1 H := ⟨by rw [← List.take_length (l := ys), e]; exact h.1, h.2⟩
theorem map_get {ns : List Int} {i : Nat} {y : V} (h : (ns.map V.int)[i]? = some y) : ∃ z, ns[i]? = some z ∧ y = .int z := by
  rw [List.getElem?_map] at h
  cases e : ns[i]? with
  | none => rw [e] at h; cases h
  | some z => rw [e] at h; exact ⟨z, rfl, (Option.some.inj h).symm⟩
theorem map_put {ns : List Int} {i : Nat} {z : Int} (h : ns[i]? = some z) : (ns.map V.int)[i]? = some (.int z) := by rw [List.getElem?_map, h]; rfl
theorem merge_bag {c : Addr} : HO.dK (mergeK [] [((Sum.inr ("cells" : Str) : Key), V.ref c), (Sum.inr ("at" : Str), .int 0), (Sum.inr ("rest" : Str), .int 0), (Sum.inr ("seed" : Str), .int 20011), (Sum.inr ("count" : Str), .int 0)]) = bagO c 0 0 20011 0 := by
  unfold mergeK putK bagO
  simp [kns kne1, kns kne2, kns kne3, kns kne4, kns kne5, kns kne6, kns kne7, kns kne8, kns kne9, kns kne10]
abbrev spBag (K : PySem.W.Frag) : Sp := Sp1 fun x H Q _ => ∃ (a : Addr) (ns : List Int), x = .ref a ∧ SqL K H a (ns.map V.int) ∧ ns.length ≤ 63 ∧ ∀ b H', H b = none → BagAt H' b → Same H H' → Q (.ref b) H'
abbrev spHalf : Sp := Sp1 fun x H Q _ => ∃ w, x = .int w ∧ Wd w ∧ ∀ H', Same H H' → Q (.int (hf w)) H'
abbrev spWrap : Sp := Sp2 fun x y H Q _ => ∃ w n, x = .int w ∧ y = .int n ∧ Wd w ∧ ∀ H', Same H H' → Q (.int (wrapI w n)) H'
def InR (w v : Int) : Prop := -(hf w) ≤ v ∧ v < hf w
abbrev spNum : Sp := Sp2 fun x y H Q _ => ∃ (b : Addr) (w : Int), x = .ref b ∧ y = .int w ∧ Wd w ∧ BagAt H b ∧ ∀ v H', InR w v → BagAt H' b → Kp b H H' → Q (.int v) H'
theorem wrap_in {w n : Int} (h : Wd w) : InR w (wrapI w n) := by
  obtain ⟨h0, _⟩ := hf_pos h
  unfold InR wrapI
  have h1 := Int.emod_nonneg (n + hf w) (show 2 * hf w ≠ 0 by omega)
  have h2 := Int.emod_lt_of_pos (n + hf w) (show 0 < 2 * hf w by omega)
  omega
end My
namespace My
open PySem PySem.Spec PyProof.Rows L2
theorem tYes_i {σ : L2.St} {H : Hp} {Q : Bool → Hp → Prop} (h : Q true H) : tYes σ H Q := h
end My
namespace My
open PySem PySem.Spec PyProof.Rows L2
theorem pw {w : Int} (h : Wd w) : 2 * hf w = 2 ^ w.toNat := by rcases h with rfl | rfl | rfl <;> rfl
theorem pw1 {w : Int} (h : Wd w) : hf w = 2 ^ (w - 1).toNat := rfl
theorem wnat {w : Int} (h : Wd w) : 0 < w.toNat ∧ w.toNat ≤ 32 ∧ (w.toNat : Int) = w ∧ (w - 1).toNat + 1 = w.toNat := by rcases h with rfl | rfl | rfl <;> decide
/-- the rest behind i halvings -/
def rst (w n : Int) (i : Nat) : Int := n % (2 * hf w) / 2 ^ i
theorem rst_0 {w n : Int} : rst w n 0 = n % (2 * hf w) := by unfold rst; simp
theorem rst_s {w n : Int} (i : Nat) : rst w n i / 2 = rst w n (i + 1) := by
  unfold rst
  rw [Int.pow_succ, Int.ediv_ediv_of_nonneg (Int.le_of_lt (pow2_pos i))]
theorem rst_bit {w n : Int} (h : Wd w) {i : Nat} (hi : i < w.toNat) : rst w n i % 2 = bit n i := by
  unfold rst bit
  rw [pw h]
  have hP := pow2_pos i
  have e : (2 : Int) ^ w.toNat = 2 ^ i * 2 * 2 ^ (w.toNat - i - 1) := by
    rw [← Int.pow_succ, ← Int.pow_add]
    congr 1; omega
  have h3 := Int.mul_ediv_add_emod n (2 ^ w.toNat)
  have h4 : n = n % 2 ^ w.toNat + 2 ^ i * (2 * (2 ^ (w.toNat - i - 1) * (n / 2 ^ w.toNat))) := by
    conv => lhs; rw [← h3]
    rw [show (2 : Int) ^ w.toNat * (n / 2 ^ w.toNat) = 2 ^ i * (2 * (2 ^ (w.toNat - i - 1) * (n / 2 ^ w.toNat))) by
      conv => lhs; arg 1; rw [e]
      simp only [Int.mul_assoc]]
    omega
  conv => rhs; rw [h4]
  rw [Int.add_mul_ediv_left _ _ (Int.ne_of_gt hP)]
  omega
theorem bts_zeros (w : Nat) : bts w 0 = List.replicate w 0 := by
  refine List.ext_getElem (by simp [bts]) fun i h1 h2 => ?_
  simp [bts, bit]
theorem bts_shift {w : Nat} (h : 0 < w) (m : Int) : (0 : Int) :: (bts w m).dropLast = bts w (2 * m) := by
  obtain ⟨v, rfl⟩ : ∃ v, w = v + 1 := ⟨w - 1, by omega⟩
  rw [bts_succ, List.dropLast_concat]
  unfold bts
  rw [List.range_succ_eq_map, List.map_cons, List.map_map]
  congr 1
  · unfold bit; simp
  · refine List.map_congr_left fun k _ => ?_
    show bit m k = bit (2 * m) (k + 1)
    rw [bit_next]
    congr 1; omega
abbrev spBits : Sp := Sp2 fun x y H Q _ => ∃ w n, x = .int w ∧ y = .int n ∧ Wd w ∧ ∀ l H', H l = none → H' l = some (.lst ((bts w.toNat n).map V.int)) → Same H H' → Q (.ref l) H'
abbrev spOfBits (K : PySem.W.Frag) : Sp := Sp1 fun x H Q _ => ∃ (p : Addr) (w n : Int), x = .ref p ∧ H p = some (.lst ((bts w.toNat n).map V.int)) ∧ Wd w ∧ Q (.int (wrapI w n)) H
abbrev spSum (K : PySem.W.Frag) : Sp := Sp3 fun x y z H Q _ => ∃ (p q : Addr) (c : Int) (w : Nat) (a b : Int), x = .ref p ∧ y = .ref q ∧ z = .int c ∧ H p = some (.lst ((bts w a).map V.int)) ∧ H q = some (.lst ((bts w b).map V.int)) ∧ (c = 0 ∨ c = 1) ∧ w ≤ 64 ∧
  ∀ l H', H l = none → H' l = some (.lst ((bts w (a + b + c)).map V.int)) → Same H H' → Q (.ref l) H'
end My
namespace My
open PySem PySem.Spec PyProof.Rows L2
theorem LBd_p {D : Addr} {ys : List V} {H1 H : Hp} {i : Nat} {y : V} (h : LBd D ys H1 i H) (hD : H1 D = none) (hy : ys[i]? = some y) : LBd D ys H1 (i + 1) (upd H D (.lst (ys.take i ++ [y]))) :=
  ⟨by rw [← take_snoc hy]; exact upd_same, Same.put h.2 hD⟩
theorem cut_init (xs : List V) : cutV xs none (some (-1)) = xs.dropLast := by
  unfold cutV
  rw [HT.sIx_none]
  show (xs.drop 0).take (HT.sIx xs.length xs.length (some (-1)) - 0) = _
  have e : HT.sIx xs.length xs.length (some (-1)) = xs.length - 1 := by
    unfold HT.sIx
    simp only
    rw [if_pos (show (-1 : Int) < 0 by decide)]; omega
  rw [e, List.drop_zero, Nat.sub_zero, List.dropLast_eq_take]
end My
namespace My
open PySem PySem.Spec PyProof.Rows L2
abbrev spProd (K : PySem.W.Frag) : Sp := Sp2 fun x y H Q _ => ∃ (p q : Addr) (w : Nat) (a b : Int), x = .ref p ∧ y = .ref q ∧ H p = some (.lst ((bts w a).map V.int)) ∧ H q = some (.lst ((bts w b).map V.int)) ∧ w ≤ 64 ∧ 0 < w ∧
  ∀ l H', H l = none → H' l = some (.lst ((bts w (a * b)).map V.int)) → Same H H' → Q (.ref l) H'
end My

namespace My
open PySem PySem.Spec PyProof.Rows L2
theorem bit_add {w i : Nat} (h : i < w) (x y : Int) : bit (x + 2 ^ w * y) i = bit x i := by
  unfold bit
  have hP := pow2_pos i
  have e : (2 : Int) ^ w = 2 ^ i * (2 * 2 ^ (w - i - 1)) := by
    rw [← Int.mul_assoc, ← Int.pow_succ, ← Int.pow_add]
    congr 1; omega
  rw [e, Int.mul_assoc, Int.add_mul_ediv_left _ _ (Int.ne_of_gt hP), Int.mul_assoc]
  omega
theorem bts_mod (w : Nat) (x y : Int) (h : ∃ z, y = x + 2 ^ w * z) : bts w x = bts w y := by
  obtain ⟨z, rfl⟩ := h
  unfold bts
  exact List.map_congr_left fun k hk => (bit_add (List.mem_range.mp hk) x z).symm
end My
namespace My
open PySem PySem.Spec PyProof.Rows L2
theorem dp_ints {K : PySem.W.Frag} {H : Hp} : ∀ ns : List Int, DpAll K H (ns.map V.int) (ns.map PyData.int)
  | [] => .nil
  | n :: r => .cons (.int n) (dp_ints r)
theorem lay_ints : ∀ ns : List Int, PyData.canLayAll0 (ns.map PyData.int) = true
  | [] => rfl
  | n :: r => by
    have ih := lay_ints r
    simp only [List.map_cons, PyData.canLayAll0, ih]; rfl
theorem deep_ints : ∀ ns : List Int, PyData.depthAll (ns.map PyData.int) ≤ 1
  | [] => by simp [PyData.depthAll]
  | n :: r => by
    have ih := deep_ints r
    simp only [List.map_cons, PyData.depthAll, PyData.depth]; omega
theorem shaped_ints (ns : List Int) : SeqAt.shaped (.list (ns.map PyData.int)) = true := by
  unfold SeqAt.shaped
  have h1 : PyData.canLay0 (.list (ns.map PyData.int)) = true := by simp only [PyData.canLay0]; exact lay_ints ns
  have h2 := deep_ints ns
  have h3 : (PyData.list (ns.map PyData.int)).depth ≤ 64 := by simp only [PyData.depth]; omega
  rw [h1, decide_eq_true h3]; rfl
/-- == of two lists of ints -/
def rEqInts (K : PySem.W.Frag) (neg : Bool) : R2 := fun x y H Q => ∃ (p q : Addr) (xs ys : List Int), x = .ref p ∧ y = .ref q ∧ SqL K H p (xs.map V.int) ∧ SqL K H q (ys.map V.int) ∧ Q (.bl (if neg = true then !decide (xs = ys) else decide (xs = ys))) H
theorem eqv_ints (ns ms : List Int) : PyData.eqv (.list (ns.map PyData.int)) (.list (ms.map PyData.int)) = decide (ns = ms) := by
  rw [← PySem.W.ked_eqvAll]; simp only [PyData.eqv]
theorem op_eqInts {X : Cx} (hu : X.A.units + 64 < cLine) : OpR X (compareOp .Eq) (rEqInts X.K false) := by
  intro pins s σ H x y v u Q I rx ry h
  obtain ⟨p, q, xs, ys, rfl, rfl, hp, hq, k⟩ := h
  refine op_eqD hu pins s σ H _ _ v u Q I rx ry ⟨_, _, .lst hp (dp_ints xs), .lst hq (dp_ints ys), shaped_ints xs, shaped_ints ys, ?_⟩
  rw [eqv_ints]; exact k
theorem op_neInts {X : Cx} (hu : X.A.units + 64 < cLine) : OpR X (compareOp .NotEq) (rEqInts X.K true) := by
  intro pins s σ H x y v u Q I rx ry h
  obtain ⟨p, q, xs, ys, rfl, rfl, hp, hq, k⟩ := h
  refine op_neD hu pins s σ H _ _ v u Q I rx ry ⟨_, _, .lst hp (dp_ints xs), .lst hq (dp_ints ys), shaped_ints xs, shaped_ints ys, ?_⟩
  rw [eqv_ints]; exact k
end My
namespace My
open PySem PySem.Spec PyProof.Rows L2
/-- behind a new object the heap is a heap of its own -/
@[elab_as_elim] theorem alloc_gen {H : Hp} {p : Addr} {o : HO} {G : Hp → Prop} (hp : H p = none) (h : ∀ H1, Same H H1 → H1 p = some o → G H1) : G (upd H p o) :=
  h _ (Same.put (Same.refl H) hp) upd_same
/-- within a try: what a call lets out, whatever the slots are -/
theorem passT {X : Cx} {W : WX} (tk : Takes X W) : Passes (L2.CX X.prog X.w) X (fun cls d H => ∀ σ : L2.St, σ.length = X.N.length → W cls d σ H) :=
  fun _ σ _ _ e s' I c => tk e s' (XE.of_call I (fun _ _ _ h => h σ I.len) c)
theorem BagAt.ne_tup {H : Hp} {b p : Addr} {xs : List V} (B : BagAt H b) (h : H p = Option.some (HO.tup xs)) : p ≠ b := by
  obtain ⟨c, ns, a, r, s, n, hb, _⟩ := B.ex
  exact ne_of h hb (by intro z; cases z)
theorem BagAt.ne_lst {H : Hp} {b p : Addr} {xs : List V} (B : BagAt H b) (h : H p = Option.some (HO.lst xs)) : p ≠ b := by
  obtain ⟨c, ns, a, r, s, n, hb, _⟩ := B.ex
  exact ne_of h hb (by intro z; cases z)
theorem log2_of {n : Nat} (h : n < 2 ^ 9000) : n.log2 < 9000 := by
  by_cases e : n = 0
  · subst e; decide
  · exact (Nat.log2_lt e).mpr h
theorem log2_small {r : Int} (h : r.natAbs ≤ 4294967296) : r.natAbs.log2 < 9000 := by
  by_cases e : r.natAbs = 0
  · rw [e]; decide
  · have h1 : r.natAbs.log2 < 64 := (Nat.log2_lt e).mpr (by omega)
    omega
theorem InR.log2 {w r : Int} (hw : Wd w) (h : InR w r) : r.natAbs.log2 < 9000 := by
  have hq := hf_pos hw
  unfold InR at h
  exact log2_small (by omega)
end My
namespace My
open PySem PySem.Spec PyProof.Rows L2
def rNotInDT (K : PySem.W.Frag) : R2 := fun x y H Q => ∃ (d : PyData) (ds : List PyData), Dp K H x d ∧ Dp K H y (.tuple ds) ∧ SeqAt.shaped d = true ∧ SeqAt.shaped (.tuple ds) = true ∧ Q (.bl (!ds.any fun z => PyData.eqv z d)) H
theorem op_notInDT {X : Cx} (hu : X.A.units + 65 < cLine) : OpR X (compareOp .NotIn) (rNotInDT X.K) := by
  intro pins s σ H x y v u Q I rx ry h
  obtain ⟨d, ds, hd, he, sd, se, q⟩ := h
  obtain ⟨as, r1⟩ := Dp.reads I d x v hd rx
  obtain ⟨bs, r2⟩ := Dp.reads I (.tuple ds) y u he ry
  exact SeqAt.notIn_tuple_reads r2 r1 (SeqAt.canLay_of_shaped se) (SeqAt.canLay_of_shaped sd) (room_in_shaped sd hu) ⟨.bl _, H, I, rfl, q⟩
end My
namespace My
open PySem PySem.Spec PyProof.Rows L2
/-! ### plain things as data -/
inductive PD (H : Hp) : V → PyData → Prop where
  | int (i : Int) : PD H (.int i) (.int i)
  | bl (b : Bool) : PD H (.bl b) (.bool b)
  | non : PD H .non .none
  | str (s : Str) (h : PyData.strOk s = true) : PD H (.str s) (.str s)
  | tupI {a : Addr} {i : Int} (h : H a = some (.tup [.int i])) : PD H (.ref a) (.tuple [.int i])
  | tupS {a : Addr} {s : Str} (h : H a = some (.tup [.str s])) (hs : PyData.strOk s = true) : PD H (.ref a) (.tuple [.str s])
theorem PD.pl {H : Hp} {v : V} {d : PyData} (h : PD H v d) : Pl H v := by
  cases h with
  | int i => exact .int i
  | bl b => exact .bl b
  | non => exact .non
  | str s _ => exact .str s
  | tupI h => exact .tup h
  | tupS h _ => exact .tup h
theorem PD.same {H H' : Hp} {v : V} {d : PyData} (h : PD H v d) (k : Same H H') : PD H' v d := by
  cases h with
  | int i => exact .int i
  | bl b => exact .bl b
  | non => exact .non
  | str s h => exact .str s h
  | tupI h => exact .tupI (k _ _ h)
  | tupS h hs => exact .tupS (k _ _ h) hs
theorem PD.kp {H H' : Hp} {v : V} {d : PyData} {b : Addr} (h : PD H v d) (B : BagAt H b) (k : Kp b H H') : PD H' v d := by
  cases h with
  | int i => exact .int i
  | bl b => exact .bl b
  | non => exact .non
  | str s h => exact .str s h
  | tupI h => exact .tupI (k _ _ (B.ne_tup h) h)
  | tupS h hs => exact .tupS (k _ _ (B.ne_tup h) h) hs
theorem PD.dp {K : PySem.W.Frag} {H : Hp} {v : V} {d : PyData} (h : PD H v d) : Dp K H v d := by
  cases h with
  | int i => exact .int i
  | bl b => exact .bl b
  | non => exact .non
  | str s _ => exact .str s
  | tupI h => exact .tup (SqT.of h) (.cons (.int _) .nil)
  | tupS h _ => exact .tup (SqT.of h) (.cons (.str _) .nil)
theorem PD.lay {H : Hp} {v : V} {d : PyData} (h : PD H v d) : d.canLay0 = true := by
  cases h with
  | int i => simp [PyData.canLay0]
  | bl b => simp [PyData.canLay0]
  | non => simp [PyData.canLay0]
  | str s h => simpa [PyData.canLay0] using h
  | tupI h => simp [PyData.canLay0, PyData.canLayAll0]
  | tupS h hs => simpa [PyData.canLay0, PyData.canLayAll0] using hs
theorem PD.shp {H : Hp} {v : V} {d : PyData} (h : PD H v d) : SeqAt.shaped d = true := by
  have h1 := h.lay
  unfold SeqAt.shaped
  rw [h1, Bool.true_and]
  cases h <;> simp [PyData.depth, PyData.depthAll]
theorem PD.refl {H : Hp} {v : V} {d : PyData} (h : PD H v d) : PyData.eqv d d = true := SeqAt.eqv_refl d h.lay
/-- a pair: a word and a thing -/
abbrev spSame : Sp := Sp2 fun x y H Q _ => ∃ (t u : Addr) (k : Str) (v : V) (d : PyData), x = .ref t ∧ y = .ref u ∧ H t = some (.tup [.str k, v]) ∧ H u = some (.tup [.str k, v]) ∧ PD H v d ∧ Q (.bl true) H
theorem find_first {α : Type} {p : α → Bool} : ∀ {l : List α} {i : Nat} {y : α}, (∀ j x, j < i → l[j]? = some x → p x = false) → l[i]? = some y → p y = true → l.find? p = some y
  | [], i, y, _, h, _ => by simp at h
  | a :: r, 0, y, _, h, hp => by
    have e : a = y := Option.some.inj h
    subst e
    rw [List.find?_cons, hp]
  | a :: r, i + 1, y, hn, h, hp => by
    have ha : p a = false := hn 0 a (Nat.succ_pos i) rfl
    rw [List.find?_cons, ha]
    exact find_first (l := r) (i := i) (fun j x hj hx => hn (j + 1) x (Nat.succ_lt_succ hj) hx) h hp
theorem find_none {α : Type} {p : α → Bool} {l : List α} (h : ∀ (j : Nat) (x : α), l[j]? = some x → p x = false) : l.find? p = none := by
  refine List.find?_eq_none.mpr fun x hx => ?_
  obtain ⟨j, hj⟩ := List.mem_iff_getElem?.mp hx
  rw [h j x hj]; decide
end My
namespace My
open PySem PySem.Spec PyProof.Rows L2
/-- f(a, ..), f a def with *rest -/
theorem pe_callR {X : Cx} {CX : CXT} {k : Nat} {f : Addr} {sp : Sp} {E : XK} {x : Str} {e : Expr} {es : List Expr} {t : TA} {p pos : Pos} (F : FnR X.prog X.w X.K X.mg X.base CX k f sp) (room : Room k X.A) (kept : PySem.W.keepIn X.K (.ref f) = true) (hg : Gl X x)
    (hm : X.mg x = some (.ref f)) (hx : Passes CX X E) (ha : PA X (e :: es) t) (hd : (x == ("__debug__" : Str)) = false := by decide) (he : starEach (e :: es) X.env = (false, eval e X.env) :: starEach es X.env := by rfl)
    (hpl : (backTo pos (starEach es X.env)).any (·.1) = false := by rfl) : PE X (.Call (.Name x p) (e :: es) [] pos) (fun σ H Q => t σ H fun vs H1 => sp vs H1 Q E) := ⟨fun pins s σ H Q I h =>
  wpAny_Call_Name_kw (ld_glob I hg hm (PySem.W.callWith_K (h₀ := X.base) I.ok.mod.kin kept (thn (ha.run pos pins s σ H _ I h) fun us s1 ⟨vs, H1, I1, r, q⟩ => ⟨I1.kIn, wpAny_call (run_fnR F room hx I1 r q)⟩) he hpl) hd)⟩
end My
namespace My
open PySem PySem.Spec PyProof.Rows L2
def tLenK (K : PySem.W.Frag) (t : TA) : TE := tCB (fun xs H Q => ∃ p ys, xs = [.ref p] ∧ (SqL K H p ys ∨ SqT K H p ys) ∧ Q (.int ys.length) H) t
def ET (W : WX) (n : Nat) : XK := fun cls d H => ∀ σ : L2.St, σ.length = n → W cls d σ H
def tCallR (sp : Sp) (E : XK) (t : TA) : TE := fun σ H Q => t σ H fun vs H1 => sp vs H1 Q E
end My
namespace My
open PySem PySem.Spec PyProof.Rows L2
/-! ### the rules with the written part by its letter -/
section
variable {X : Cx}
theorem ix_listK (K : PySem.W.Frag) (h : X.K = K := by rfl) : IxR X (rIxL K) := by subst h; exact ix_list
theorem ix_tupK (K : PySem.W.Frag) (h : X.K = K := by rfl) : IxR X (rIxT K) := by subst h; exact ix_tup
def rLen (K : PySem.W.Frag) : List V → Hp → VK → Prop := fun xs H Q => ∃ p ys, xs = [.ref p] ∧ (SqL K H p ys ∨ SqT K H p ys) ∧ Q (.int ys.length) H
theorem call_lenK (K : PySem.W.Frag) (h : X.K = K := by rfl) : CallR X (.builtin "len") (rLen K) := by subst h; exact call_len_seq
def rListOf (K : PySem.W.Frag) : List V → Hp → VK → Prop := fun xs H Q => ∃ p ys, xs = [.ref p] ∧ (SqL K H p ys ∨ SqT K H p ys) ∧ ∀ l, H l = none → Q (.ref l) (upd H l (.lst ys))
theorem call_listK (K : PySem.W.Frag) (h : X.K = K := by rfl) : CallR X (.type "list") (rListOf K) := by subst h; exact call_list_of
theorem sl_listK (K : PySem.W.Frag) (h : X.K = K := by rfl) : SlR X (rSlL K) := by subst h; exact sl_list
theorem op_inK (K : PySem.W.Frag) (h : X.K = K := by rfl) : OpR X (compareOp .In) (rIn K false) := by subst h; exact op_in_seq
theorem op_notInK (K : PySem.W.Frag) (h : X.K = K := by rfl) : OpR X (compareOp .NotIn) (rIn K true) := by subst h; exact op_notIn_seq
theorem op_eqDK (K : PySem.W.Frag) (hu : X.A.units + 64 < cLine) (h : X.K = K := by rfl) : OpR X (compareOp .Eq) (rEqD K) := by subst h; exact op_eqD hu
theorem op_neDK (K : PySem.W.Frag) (hu : X.A.units + 64 < cLine) (h : X.K = K := by rfl) : OpR X (compareOp .NotEq) (rNeD K) := by subst h; exact op_neD hu
theorem op_notInDTK (K : PySem.W.Frag) (hu : X.A.units + 65 < cLine) (h : X.K = K := by rfl) : OpR X (compareOp .NotIn) (rNotInDT K) := by subst h; exact op_notInDT hu
theorem op_eqIntsK (K : PySem.W.Frag) (hu : X.A.units + 64 < cLine) (h : X.K = K := by rfl) : OpR X (compareOp .Eq) (rEqInts K false) := by subst h; exact op_eqInts hu
theorem op_neIntsK (K : PySem.W.Frag) (hu : X.A.units + 64 < cLine) (h : X.K = K := by rfl) : OpR X (compareOp .NotEq) (rEqInts K true) := by subst h; exact op_neInts hu
theorem mt_countBK (K : PySem.W.Frag) (hu : X.A.units + 64 < cLine) (h : X.K = K := by rfl) : MtR X "list.count" (rCntB K) := by subst h; exact mt_countB hu
theorem pi_listK {tg l : Expr} {tl : TE} (K : PySem.W.Frag) (hl : PI X tg l (iList X.K tl)) (h : X.K = K := by rfl) : PI X tg l (iList K tl) := by subst h; exact hl
theorem pi_tupK {tg l : Expr} {tl : TE} (K : PySem.W.Frag) (hl : PI X tg l (iTup X.K tl)) (h : X.K = K := by rfl) : PI X tg l (iTup K tl) := by subst h; exact hl
theorem pe_bmK {e : Expr} {T : String} {r : V → List V → Hp → VK → Prop} {to : TE} {t : TA} (K : PySem.W.Frag) (hb : PE X e (tBM X.K T r to t)) (h : X.K = K := by rfl) : PE X e (tBM K T r to t) := by subst h; exact hb
def rIsTupK (K : PySem.W.Frag) : List V → Hp → VK → Prop := fun xs H Q => ∃ a o, xs = [.ref a, .ty "tuple"] ∧ K.lookup a = some o ∧ o.cls = .type "tuple" ∧ Q (.bl true) H
theorem call_isTupKK (K : PySem.W.Frag) (h : X.K = K := by rfl) : CallR X (.builtin "isinstance") (rIsTupK K) := by subst h; exact call_isTupK
end
/-! ### what is behind is put by -/
theorem seq_gen {t u : TS} {D : Ends} {σ : L2.St} {H : Hp} (h : ∀ R : L2.St → Hp → Prop, (∀ σ' H', u D σ' H' → R σ' H') → t { nx := R, rt := D.rt, bk := D.bk, ct := D.ct } σ H) : tSeq t u D σ H := h (u D) (fun _ _ q => q)
theorem cons_gen {te : TE} {ta : TA} {σ : L2.St} {H : Hp} {Q : List V → Hp → Prop} (h : ∀ R : VK, (∀ x H1, (ta σ H1 fun xs H2 => Q (x :: xs) H2) → R x H1) → te σ H R) : tCons te ta σ H Q := h _ (fun _ _ q => q)
end My
namespace My
open PySem PySem.Spec PyProof.Rows L2
/-! ### two readings of one expression: the promise chooses which one -/
def tEi (t u : TE) : TE := fun σ H Q => t σ H Q ∨ u σ H Q
def iEi (t u : TI) : TI := fun σ H R => t σ H R ∨ u σ H R
theorem pe_ei {X : Cx} {e : Expr} {t u : TE} (h : PE X e t) (h2 : PE X e u) : PE X e (tEi t u) :=
  ⟨fun pins s σ H Q i z => z.elim (h.run pins s σ H Q i) (h2.run pins s σ H Q i)⟩
theorem pi_ei {X : Cx} {tg e : Expr} {t u : TI} (h : PI X tg e t) (h2 : PI X tg e u) : PI X tg e (iEi t u) :=
  ⟨fun pins s σ H R i z => z.elim (h.run pins s σ H R i) (h2.run pins s σ H R i)⟩
end My
namespace My
open PySem PySem.Spec PyProof.Rows L2
/-! ### t[::-1] of a tuple -/
theorem sliceApplied_rev {prog : Program} {w : World} {A : Around} {E : Value → Shared → Prop} {s : Shared} {sl : Addr} {n : Nat} {k : Tok} {Q : Int × Int × Nat → Shared → Prop}
    (hs : s.heap.IsSliceOf sl .none .none (.int (-1) k)) (h : Q ((n : Int) - 1, -1, n) s) : wpAny (model prog w) A (Builtin.Slice.sliceApplied (.ref sl) (pure (n : Int))) Q E s := by
  obtain ⟨os, hos, hcs, hds⟩ := hs
  unfold Builtin.Slice.sliceApplied Builtin.Slice.sliceFields
  refine wpAny_bind (wpAny_bind (wpAny_field hos hds rfl (wpAny_bind (wpAny_field hos hds rfl (wpAny_bind (wpAny_field hos hds rfl (wpAny_pure ?_)))))))
  refine wpAny_bind (HT.slicePart_ (IsPart.int (-1) k) ?_)
  show wpAny _ _ (if ((-1 : Int) == 0) = true then _ else _) _ _ _
  rw [if_neg (by decide)]
  refine wpAny_bind (slicePart_none (wpAny_bind (slicePart_none (wpAny_bind (wpAny_pure ?_)))))
  refine wpAny_pure ?_
  have e : Builtin.Slice.slicePlaces ((n : Int) - 1) (-1) (-1) = n := by
    unfold Builtin.Slice.slicePlaces
    rw [if_neg (by decide)]
    by_cases c : (n : Int) - 1 > -1
    · rw [if_pos c, show (- -1 : Int) = 1 by decide, Int.ediv_one]; omega
    · rw [if_neg c]; omega
  show Q ((n : Int) - 1, -1, Builtin.Slice.slicePlaces ((n : Int) - 1) (-1) (-1)) s
  rw [e]
  exact h
theorem fm_congr {α β : Type} {f g : α → Option β} : ∀ {l : List α}, (∀ x ∈ l, f x = g x) → l.filterMap f = l.filterMap g
  | [], _ => rfl
  | a :: r, h => by
    rw [List.filterMap_cons, List.filterMap_cons, h a List.mem_cons_self, fm_congr (l := r) fun x hx => h x (List.mem_cons_of_mem _ hx)]
theorem pick_rev (xs : Array Value) : (List.filterMap (fun (m : Nat) => xs[((xs.size : Int) - 1 + (m : Int) * -1).toNat]?) (List.range xs.size)).toArray = xs.toList.reverse.toArray := by
  congr 1
  have h1 : (List.range xs.size).filterMap (fun (m : Nat) => xs[((xs.size : Int) - 1 + (m : Int) * -1).toNat]?) = (List.range xs.size).filterMap (fun m => xs.toList.reverse[m]?) := by
    refine fm_congr fun m hm => ?_
    have hm := List.mem_range.mp hm
    rw [List.getElem?_reverse (by rw [Array.length_toList]; exact hm), Array.length_toList, Array.getElem?_toList]
    congr 1
    omega
  rw [h1]
  generalize hl : xs.toList.reverse = l
  have hn : xs.size = l.length := by rw [← hl, List.length_reverse, Array.length_toList]
  rw [hn]
  clear h1 hl hn
  refine List.ext_getElem? fun i => ?_
  have h2 : (List.range l.length).filterMap (fun m => l[m]?) = l := by
    induction l with
    | nil => rfl
    | cons a r ih =>
      rw [List.length_cons, List.range_succ_eq_map, List.filterMap_cons]
      show (a :: (List.map Nat.succ (List.range r.length)).filterMap fun m => (a :: r)[m]?) = a :: r
      rw [List.filterMap_map]
      congr 1
  rw [h2]
theorem getItem_tuple_rev {prog : Program} {w : World} {A : Around} {E : Value → Shared → Prop} {s : Shared} {t sl : Addr} {k : Tok} {items : Array Value} {Q : Value → Shared → Prop} (ht : IsTup s.heap t items)
    (hs : s.heap.IsSliceOf sl .none .none (.int (-1) k))
    (h : Q (.ref s.heap.objs.size) { heap := s.heap.push { cls := .type "tuple", data := .seq items.toList.reverse.toArray }, gens := s.gens, drawn := s.drawn, toks := s.toks, os := s.os })
    (hz : items.size ≤ sizeLine) : wpAny (model prog w) A (getItem (.ref t) (.ref sl)) Q E s := by
  have hs' := hs
  obtain ⟨os, hos, hcs, hds⟩ := hs
  have hTs : s.TypeIs (.ref sl) "slice" := ⟨os, hos, hcs⟩
  refine wpAny_holding (wpAny_bind (wpAny_sequenceKey ht.typeIs (by decide) (wpAny_bind (wpAny_callSpecial?_slot ht.typeIs slot_tuple_getitem (wpAny_call_entry slot_tuple_getitem ht.typeIs entry_tuple_getitem ?_ (args_tuple_getitem _ _))))))
  show wpAny _ _ (do
      let xs ← Builtin.Tuple.tupleItemsOf (.ref t)
      _) _ _ _
  refine wpAny_bind (tupleItemsOf_ ht (wpAny_bind (wpAny_typeOf hTs ?_)))
  rw [if_pos (by decide)]
  refine wpAny_bind (sliceApplied_rev hs' ?_)
  simp only
  rw [if_neg (by
    intro q
    rw [Bool.and_eq_true, Bool.and_eq_true] at q
    exact absurd q.1.2 (by decide))]
  rw [pick_rev]
  refine wpAny_bind (wpAny_newObj_type (wpAny_pure ⟨_, rfl, wpAny_pure h⟩) ?_)
  show items.toList.reverse.toArray.size ≤ sizeLine
  simpa using hz
def tRevT (K : PySem.W.Frag) (te : TE) : TE := fun σ H Q => te σ H fun x H1 => ∃ a xs, x = .ref a ∧ SqT K H1 a xs ∧ ∀ p, H1 p = none → Q (.ref p) (upd H1 p (.tup xs.reverse))
theorem pe_revT {X : Cx} {e : Expr} {te : TE} {k : Nat} {p1 p2 p3 pos : Pos} (he : PE X e te) :
    PE X (.Subscript e (.Slice none none (some (.UnaryOp .USub (.Constant (.int 1) k p1) p2)) p3) pos) (tRevT X.K te) := ⟨fun pins s σ H Q I h => by
  refine Subscript_ (thn (he.run pins s σ H _ I h) ?_)
  rintro v s1 ⟨x, H1, I1, r1, a, xs, rfl, hx, q⟩
  cases r1
  have hst := po_some (X := X) (pe_un un_neg (pe_int (X := X) (i := 1) (j := k) (pos := p1)) (pos := p2))
  refine wpAny_Slice (thn (po_none.run pins s1 σ H1 (fun o H2 => o = none ∧ H2 = H1) I1 ⟨rfl, rfl⟩) ?_)
  rintro vl s2 ⟨l, H2, I2, pl, rfl, rfl⟩
  refine thn (po_none.run pins s2 σ H2 (fun o H3 => o = none ∧ H3 = H2) I2 ⟨rfl, rfl⟩) ?_
  rintro vu s3 ⟨u, H3, I3, pu, rfl, rfl⟩
  refine thn (hst.run pins s3 σ H3 (fun o H4 => o = some (-1) ∧ H4 = H3) I3 ⟨_, rfl, _, rfl, rfl, rfl⟩) ?_
  rintro vs s4 ⟨o, H4, I4, ps, rfl, rfl⟩
  cases pl
  cases pu
  obtain ⟨tk, rfl⟩ : ∃ tk, vs = Value.int (-1) tk := by cases ps; exact ⟨_, rfl⟩
  have I5 := I4.kept (h' := s4.heap.push { cls := .type "slice", data := .fields #[.none, .none, .int (-1) tk] }) (t' := s4.toks) fun b ob q => Heap.get?_push_of_some _ q
  obtain ⟨its, r, ht, hz⟩ := I5.tuple hx
  have hlen : its.toArray.size = xs.length := by rw [List.size_toArray]; exact r.length.symm
  refine tail_any ht.typeIs slot_tuple_getitem.lookup (getItem_tuple_rev ht ⟨_, Heap.get?_push_size _ rfl, rfl, rfl⟩ ?_ (by rw [hlen]; exact hz)) rfl
  refine ⟨.ref _, upd _ _ (.tup xs.reverse), I5.laid (fun b ob q => Heap.get?_push_of_some _ q) (Nat.le_refl _) ⟨by rw [List.length_reverse]; exact hz, its.reverse, r.reverse, ?_⟩, rfl, q _ (HOk.fresh I5.hok (Nat.le_refl _))⟩
  exact IsTup.new _ _⟩
end My
namespace My
open PySem PySem.Spec PyProof.Rows L2
theorem pe_revLK {X : Cx} {e : Expr} {te : TE} {k : Nat} {p1 p2 p3 pos : Pos} (K : PySem.W.Frag) (he : PE X e te) (h : X.K = K := by rfl) :
    PE X (.Subscript e (.Slice none none (some (.UnaryOp .USub (.Constant (.int 1) k p1) p2)) p3) pos) (tRevL K te) := by subst h; exact pe_revL he
theorem pe_revTK {X : Cx} {e : Expr} {te : TE} {k : Nat} {p1 p2 p3 pos : Pos} (K : PySem.W.Frag) (he : PE X e te) (h : X.K = K := by rfl) :
    PE X (.Subscript e (.Slice none none (some (.UnaryOp .USub (.Constant (.int 1) k p1) p2)) p3) pos) (tRevT K te) := by subst h; exact pe_revT he
end My
namespace My
open PySem PySem.Spec PyProof.Rows L2
def rTupOf (K : PySem.W.Frag) : List V → Hp → VK → Prop := fun xs H Q => ∃ p ys, xs = [.ref p] ∧ ((SqL K H p ys ∧ ∀ l, H l = none → Q (.ref l) (upd H l (.tup ys))) ∨ (SqT K H p ys ∧ Q (.ref p) H))
theorem call_tupleK {X : Cx} (K : PySem.W.Frag) (h : X.K = K := by rfl) : CallR X (.type "tuple") (rTupOf K) := by subst h; exact call_tuple_of
theorem op_catTK {X : Cx} (K : PySem.W.Frag) (h : X.K = K := by rfl) : OpR X (binaryOp .Add) (rCatT K) := by subst h; exact op_catT
end My
section
open PySem PySem.Spec PyProof.Rows L2 My
local macro_rules | `(tactic| walk_at "ne") => `(tactic| first | assumption | exact Ne.symm (by assumption) | exact ne_of_none (by assumption) (by assumption) | exact Ne.symm (ne_of_none (by assumption) (by assumption)) | exact ne_of (by assumption) (by assumption) (by intro z; cases z))
local macro_rules | `(tactic| walk_at "hp") => `(tactic| first | assumption | exact upd_same | (refine Eq.trans (upd_ne (by walk_at "ne")) ?_; walk_at "hp"))
local macro_rules | `(tactic| walk_at "side") => `(tactic| first | rfl | omega | decide | assumption | exact Pl.int _ | exact Pl.bl _ | exact Pl.str _ | exact Pl.non | exact Nat.le_of_ble_eq_true rfl | exact ⟨by omega, by omega⟩ | exact Or.inl ⟨rfl, _, Or.inl (Or.inl (by walk_at "hp"))⟩ | exact Or.inr (by decide) | exact Or.inl (by decide) | exact Or.inl ⟨by omega, by omega⟩ | exact Or.inr ⟨by omega, by omega⟩)
local macro_rules | `(tactic| walk_at "bag") => `(tactic| first | exact bg_at (by walk_at "hp") | exact bg_rest (by walk_at "hp") | exact bg_seed (by walk_at "hp") | exact bg_count (by walk_at "hp") | exact bg_cells (by walk_at "hp") | exact bp_at (by walk_at "hp") | exact bp_rest (by walk_at "hp") | exact bp_seed (by walk_at "hp") | exact bp_count (by walk_at "hp"))
local macro_rules | `(tactic| walk_at "rd1") => `(tactic| (
  fail_if_success (intro _)
  first
  | refine ⟨_, rfl, ?_⟩
  | refine ⟨_, _, rfl, rfl, ?_⟩
  | refine ⟨_, _, _, rfl, rfl, rfl, ?_⟩
  | refine ⟨_, _, rfl, ?_⟩
  | refine ⟨_, _, _, rfl, ?_⟩
  | refine ⟨_, _, _, _, rfl, ?_⟩
  | refine ⟨_, _, rfl, (by walk_at "bag"), ?_⟩
  | refine Or.inl ⟨_, rfl, ?_⟩
  | refine Or.inr ⟨_, rfl, ?_⟩
  | refine ⟨_, _, rfl, Or.inl (SqL.of (by walk_at "hp")), ?_⟩
  | refine ⟨_, _, rfl, Or.inr (SqT.of (by walk_at "hp")), ?_⟩
  | refine ⟨_, _, _, rfl, rfl, (by walk_at "hp"), ?_⟩
  | refine And.intro (by walk_at "side") ?_))
local macro_rules | `(tactic| walk_at "rd") => `(tactic| repeat walk_at "rd1")
namespace K02
open PySem PySem.Spec PyProof.Rows L2 My

def top (i : Nat) : Stmt := PySem.Challenge.pw_wordmint_k02_numbers_and_bytes.main.body.getD i (.Pass ⟨0, 0, 0, 0⟩)
abbrev s_BadWidth___init__ : Stmt := inClass (top 2) 0
theorem sc_BadWidth___init__ : FnScope ["self", "width"] ["self", "width"] (defScope s_BadWidth___init__) := ⟨rfl, rfl, rfl, by decide +kernel, rfl, by decide +kernel, by decide +kernel⟩
abbrev s_BadNumber___init__ : Stmt := inClass (top 3) 0
theorem sc_BadNumber___init__ : FnScope ["self", "number"] ["self", "number"] (defScope s_BadNumber___init__) := ⟨rfl, rfl, rfl, by decide +kernel, rfl, by decide +kernel, by decide +kernel⟩
abbrev s_BadByte___init__ : Stmt := inClass (top 4) 0
theorem sc_BadByte___init__ : FnScope ["self", "byte"] ["self", "byte"] (defScope s_BadByte___init__) := ⟨rfl, rfl, rfl, by decide +kernel, rfl, by decide +kernel, by decide +kernel⟩
abbrev s_is_integer : Stmt := top 7
theorem sc_is_integer : FnScope ["thing"] ["thing"] (defScope s_is_integer) := ⟨rfl, rfl, rfl, by decide +kernel, rfl, by decide +kernel, by decide +kernel⟩
abbrev s_is_between : Stmt := top 8
theorem sc_is_between : FnScope ["thing", "low", "high"] ["thing", "low", "high"] (defScope s_is_between) := ⟨rfl, rfl, rfl, by decide +kernel, rfl, by decide +kernel, by decide +kernel⟩
abbrev s_is_byte : Stmt := top 9
theorem sc_is_byte : FnScope ["thing"] ["thing"] (defScope s_is_byte) := ⟨rfl, rfl, rfl, by decide +kernel, rfl, by decide +kernel, by decide +kernel⟩
abbrev s_check_width : Stmt := top 10
theorem sc_check_width : FnScope ["width"] ["width"] (defScope s_check_width) := ⟨rfl, rfl, rfl, by decide +kernel, rfl, by decide +kernel, by decide +kernel⟩
abbrev s_check_number : Stmt := top 11
theorem sc_check_number : FnScope ["width", "thing"] ["width", "thing"] (defScope s_check_number) := ⟨rfl, rfl, rfl, by decide +kernel, rfl, by decide +kernel, by decide +kernel⟩
abbrev s_half : Stmt := top 12
theorem sc_half : FnScope ["width"] ["width"] (defScope s_half) := ⟨rfl, rfl, rfl, by decide +kernel, rfl, by decide +kernel, by decide +kernel⟩
abbrev s_wrap : Stmt := top 13
theorem sc_wrap : FnScope ["width", "number", "bound"] ["width", "number"] (defScope s_wrap) := ⟨rfl, rfl, rfl, by decide +kernel, rfl, by decide +kernel, by decide +kernel⟩
abbrev s_is_number : Stmt := top 14
theorem sc_is_number : FnScope ["width", "thing", "bound"] ["width", "thing"] (defScope s_is_number) := ⟨rfl, rfl, rfl, by decide +kernel, rfl, by decide +kernel, by decide +kernel⟩
abbrev s_bytes_of : Stmt := top 15
theorem sc_bytes_of : FnScope ["width", "number", "rest", "row", "_"] ["width", "number"] (defScope s_bytes_of) := ⟨rfl, rfl, rfl, by decide +kernel, rfl, by decide +kernel, by decide +kernel⟩
abbrev s_number_of : Stmt := top 16
theorem sc_number_of : FnScope ["width", "row", "byte", "value"] ["width", "row"] (defScope s_number_of) := ⟨rfl, rfl, rfl, by decide +kernel, rfl, by decide +kernel, by decide +kernel⟩
abbrev s__law_bag : Stmt := top 18
theorem sc__law_bag : FnScope ["_law_script", "_law_cell_here"] ["_law_script"] (defScope s__law_bag) := ⟨rfl, rfl, rfl, by decide +kernel, rfl, by decide +kernel, by decide +kernel⟩
abbrev s__law_pick : Stmt := top 19
theorem sc__law_pick : FnScope ["_law_bag_here", "_law_many", "_law_digit", "_law_cell_here", "_law_mixed"] ["_law_bag_here", "_law_many"] (defScope s__law_pick) := ⟨rfl, rfl, rfl, by decide +kernel, rfl, by decide +kernel, by decide +kernel⟩
abbrev s__law_choice : Stmt := top 20
theorem sc__law_choice : FnScope ["_law_bag_here", "_law_things"] ["_law_bag_here", "_law_things"] (defScope s__law_choice) := ⟨rfl, rfl, rfl, by decide +kernel, rfl, by decide +kernel, by decide +kernel⟩
abbrev s__law_integer : Stmt := top 21
theorem sc__law_integer : FnScope ["_law_thing"] ["_law_thing"] (defScope s__law_integer) := ⟨rfl, rfl, rfl, by decide +kernel, rfl, by decide +kernel, by decide +kernel⟩
abbrev s__law_half : Stmt := top 22
theorem sc__law_half : FnScope ["_law_width"] ["_law_width"] (defScope s__law_half) := ⟨rfl, rfl, rfl, by decide +kernel, rfl, by decide +kernel, by decide +kernel⟩
abbrev s__law_wrap : Stmt := top 23
theorem sc__law_wrap : FnScope ["_law_width", "_law_number", "_law_low"] ["_law_width", "_law_number"] (defScope s__law_wrap) := ⟨rfl, rfl, rfl, by decide +kernel, rfl, by decide +kernel, by decide +kernel⟩
abbrev s__law_num : Stmt := top 24
theorem sc__law_num : FnScope ["_law_bag_here", "_law_width", "_law_kind", "_law_low", "_law_near"] ["_law_bag_here", "_law_width"] (defScope s__law_num) := ⟨rfl, rfl, rfl, by decide +kernel, rfl, by decide +kernel, by decide +kernel⟩
abbrev s__law_bytes : Stmt := top 25
theorem sc__law_bytes : FnScope ["_law_width", "_law_number", "_law_rest", "_law_row", "_law_k"] ["_law_width", "_law_number"] (defScope s__law_bytes) := ⟨rfl, rfl, rfl, by decide +kernel, rfl, by decide +kernel, by decide +kernel⟩
abbrev s__law_cell : Stmt := top 26
theorem sc__law_cell : FnScope ["_law_width", "_law_row", "_law_value", "_law_k"] ["_law_width", "_law_row"] (defScope s__law_cell) := ⟨rfl, rfl, rfl, by decide +kernel, rfl, by decide +kernel, by decide +kernel⟩
abbrev s__law_asked : Stmt := top 27
theorem sc__law_asked : FnScope ["_law_word", "_law_width", "_law_thing", "e", "_law_kinds"] ["_law_word", "_law_width", "_law_thing"] (defScope s__law_asked) := ⟨rfl, rfl, rfl, by decide +kernel, rfl, by decide +kernel, by decide +kernel⟩
abbrev s__law_same : Stmt := top 28
theorem sc__law_same : FnScope ["_law_told", "_law_due"] ["_law_told", "_law_due"] (defScope s__law_same) := ⟨rfl, rfl, rfl, by decide +kernel, rfl, by decide +kernel, by decide +kernel⟩
abbrev s__law_is_told : Stmt := top 29
theorem sc__law_is_told : FnScope ["_law_told", "_law_due"] ["_law_told", "_law_due"] (defScope s__law_is_told) := ⟨rfl, rfl, rfl, by decide +kernel, rfl, by decide +kernel, by decide +kernel⟩
abbrev s__law_is_row : Stmt := top 30
theorem sc__law_is_row : FnScope ["_law_told", "_law_due", "_law_k"] ["_law_told", "_law_due"] (defScope s__law_is_row) := ⟨rfl, rfl, rfl, by decide +kernel, rfl, by decide +kernel, by decide +kernel⟩
abbrev s__law_doubled : Stmt := top 31
theorem sc__law_doubled : FnScope ["_law_times", "_law_value", "_law_k"] ["_law_times"] (defScope s__law_doubled) := ⟨rfl, rfl, rfl, by decide +kernel, rfl, by decide +kernel, by decide +kernel⟩
abbrev s__law_great : Stmt := top 32
theorem sc__law_great : FnScope ["_law_bag_here", "_law_width", "_law_number", "_law_k"] ["_law_bag_here", "_law_width"] (defScope s__law_great) := ⟨rfl, rfl, rfl, by decide +kernel, rfl, by decide +kernel, by decide +kernel⟩
abbrev s__law_odd_number : Stmt := top 33
theorem sc__law_odd_number : FnScope ["_law_bag_here", "_law_width", "_law_low", "_law_things"] ["_law_bag_here", "_law_width"] (defScope s__law_odd_number) := ⟨rfl, rfl, rfl, by decide +kernel, rfl, by decide +kernel, by decide +kernel⟩
abbrev s__law_odd_byte : Stmt := top 34
theorem sc__law_odd_byte : FnScope ["_law_bag_here", "_law_number"] ["_law_bag_here"] (defScope s__law_odd_byte) := ⟨rfl, rfl, rfl, by decide +kernel, rfl, by decide +kernel, by decide +kernel⟩
abbrev s__law_odd_width : Stmt := top 35
theorem sc__law_odd_width : FnScope ["_law_bag_here", "_law_number"] ["_law_bag_here"] (defScope s__law_odd_width) := ⟨rfl, rfl, rfl, by decide +kernel, rfl, by decide +kernel, by decide +kernel⟩
abbrev s__law_wrapped_right : Stmt := top 36
theorem sc__law_wrapped_right : FnScope ["_law_width", "_law_number", "_law_told", "_law_low"] ["_law_width", "_law_number"] (defScope s__law_wrapped_right) := ⟨rfl, rfl, rfl, by decide +kernel, rfl, by decide +kernel, by decide +kernel⟩
abbrev s__law_numbers_right : Stmt := top 37
theorem sc__law_numbers_right : FnScope ["_law_bag_here", "_law_width", "_law_low", "_law_number", "_law_thing", "_law_row", "_law_odd"] ["_law_bag_here", "_law_width"] (defScope s__law_numbers_right) := ⟨rfl, rfl, rfl, by decide +kernel, rfl, by decide +kernel, by decide +kernel⟩
abbrev s__law_drawn_row : Stmt := top 38
theorem sc__law_drawn_row : FnScope ["_law_bag_here", "_law_width", "_law_row", "_law_k"] ["_law_bag_here", "_law_width"] (defScope s__law_drawn_row) := ⟨rfl, rfl, rfl, by decide +kernel, rfl, by decide +kernel, by decide +kernel⟩
abbrev s__law_rows_right : Stmt := top 39
theorem sc__law_rows_right : FnScope ["_law_bag_here", "_law_width", "_law_row", "_law_number", "_law_passed", "_law_bad", "_law_place", "_law_spoilt", "_law_worse", "_law_last", "_law_short", "_law_longer", "_law_thing"] ["_law_bag_here", "_law_width"] (defScope s__law_rows_right) := ⟨rfl, rfl, rfl, by decide +kernel, rfl, by decide +kernel, by decide +kernel⟩
abbrev s__law_widths_right : Stmt := top 40
theorem sc__law_widths_right : FnScope ["_law_bag_here", "_law_wide", "_law_cases", "_law_case"] ["_law_bag_here"] (defScope s__law_widths_right) := ⟨rfl, rfl, rfl, by decide +kernel, rfl, by decide +kernel, by decide +kernel⟩
abbrev s_law : Stmt := top 41
theorem sc_law : FnScope ["_law_script", "_law_bag_here", "_law_width"] ["_law_script"] (defScope s_law) := ⟨rfl, rfl, rfl, by decide +kernel, rfl, by decide +kernel, by decide +kernel⟩
/-- what the top has written -/
structure TX (K : PySem.W.Frag) (mg : Str → Option Value) where
  f_BadWidth___init__ : Addr
  d_BadWidth___init__ : FuncData
  E_BadWidth___init__ : Fun K "__init__" "BadWidth.__init__" s_BadWidth___init__ f_BadWidth___init__ d_BadWidth___init__
  b_BadWidth___init__ : Binds K d_BadWidth___init__ ["self", "width"] []
  f_BadNumber___init__ : Addr
  d_BadNumber___init__ : FuncData
  E_BadNumber___init__ : Fun K "__init__" "BadNumber.__init__" s_BadNumber___init__ f_BadNumber___init__ d_BadNumber___init__
  b_BadNumber___init__ : Binds K d_BadNumber___init__ ["self", "number"] []
  f_BadByte___init__ : Addr
  d_BadByte___init__ : FuncData
  E_BadByte___init__ : Fun K "__init__" "BadByte.__init__" s_BadByte___init__ f_BadByte___init__ d_BadByte___init__
  b_BadByte___init__ : Binds K d_BadByte___init__ ["self", "byte"] []
  f_is_integer : Addr
  d_is_integer : FuncData
  F_is_integer : Fun K "is_integer" "is_integer" s_is_integer f_is_integer d_is_integer
  g_is_integer : mg "is_integer" = some (.ref f_is_integer)
  k_is_integer : PySem.W.keepIn K (.ref f_is_integer) = true
  b_is_integer : Binds K d_is_integer ["thing"] []
  f_is_between : Addr
  d_is_between : FuncData
  F_is_between : Fun K "is_between" "is_between" s_is_between f_is_between d_is_between
  g_is_between : mg "is_between" = some (.ref f_is_between)
  k_is_between : PySem.W.keepIn K (.ref f_is_between) = true
  b_is_between : Binds K d_is_between ["thing", "low", "high"] []
  f_is_byte : Addr
  d_is_byte : FuncData
  F_is_byte : Fun K "is_byte" "is_byte" s_is_byte f_is_byte d_is_byte
  g_is_byte : mg "is_byte" = some (.ref f_is_byte)
  k_is_byte : PySem.W.keepIn K (.ref f_is_byte) = true
  b_is_byte : Binds K d_is_byte ["thing"] []
  f_check_width : Addr
  d_check_width : FuncData
  F_check_width : Fun K "check_width" "check_width" s_check_width f_check_width d_check_width
  g_check_width : mg "check_width" = some (.ref f_check_width)
  k_check_width : PySem.W.keepIn K (.ref f_check_width) = true
  b_check_width : Binds K d_check_width ["width"] []
  f_check_number : Addr
  d_check_number : FuncData
  F_check_number : Fun K "check_number" "check_number" s_check_number f_check_number d_check_number
  g_check_number : mg "check_number" = some (.ref f_check_number)
  k_check_number : PySem.W.keepIn K (.ref f_check_number) = true
  b_check_number : Binds K d_check_number ["width", "thing"] []
  f_half : Addr
  d_half : FuncData
  F_half : Fun K "half" "half" s_half f_half d_half
  g_half : mg "half" = some (.ref f_half)
  k_half : PySem.W.keepIn K (.ref f_half) = true
  b_half : Binds K d_half ["width"] []
  f_wrap : Addr
  d_wrap : FuncData
  F_wrap : Fun K "wrap" "wrap" s_wrap f_wrap d_wrap
  g_wrap : mg "wrap" = some (.ref f_wrap)
  k_wrap : PySem.W.keepIn K (.ref f_wrap) = true
  b_wrap : Binds K d_wrap ["width", "number"] []
  f_is_number : Addr
  d_is_number : FuncData
  F_is_number : Fun K "is_number" "is_number" s_is_number f_is_number d_is_number
  g_is_number : mg "is_number" = some (.ref f_is_number)
  k_is_number : PySem.W.keepIn K (.ref f_is_number) = true
  b_is_number : Binds K d_is_number ["width", "thing"] []
  f_bytes_of : Addr
  d_bytes_of : FuncData
  F_bytes_of : Fun K "bytes_of" "bytes_of" s_bytes_of f_bytes_of d_bytes_of
  g_bytes_of : mg "bytes_of" = some (.ref f_bytes_of)
  k_bytes_of : PySem.W.keepIn K (.ref f_bytes_of) = true
  b_bytes_of : Binds K d_bytes_of ["width", "number"] []
  f_number_of : Addr
  d_number_of : FuncData
  F_number_of : Fun K "number_of" "number_of" s_number_of f_number_of d_number_of
  g_number_of : mg "number_of" = some (.ref f_number_of)
  k_number_of : PySem.W.keepIn K (.ref f_number_of) = true
  b_number_of : Binds K d_number_of ["width", "row"] []
  f__law_bag : Addr
  d__law_bag : FuncData
  F__law_bag : Fun K "_law_bag" "_law_bag" s__law_bag f__law_bag d__law_bag
  g__law_bag : mg "_law_bag" = some (.ref f__law_bag)
  k__law_bag : PySem.W.keepIn K (.ref f__law_bag) = true
  b__law_bag : Binds K d__law_bag ["_law_script"] []
  f__law_pick : Addr
  d__law_pick : FuncData
  F__law_pick : Fun K "_law_pick" "_law_pick" s__law_pick f__law_pick d__law_pick
  g__law_pick : mg "_law_pick" = some (.ref f__law_pick)
  k__law_pick : PySem.W.keepIn K (.ref f__law_pick) = true
  b__law_pick : Binds K d__law_pick ["_law_bag_here", "_law_many"] []
  f__law_choice : Addr
  d__law_choice : FuncData
  F__law_choice : Fun K "_law_choice" "_law_choice" s__law_choice f__law_choice d__law_choice
  g__law_choice : mg "_law_choice" = some (.ref f__law_choice)
  k__law_choice : PySem.W.keepIn K (.ref f__law_choice) = true
  b__law_choice : Binds K d__law_choice ["_law_bag_here", "_law_things"] []
  f__law_integer : Addr
  d__law_integer : FuncData
  F__law_integer : Fun K "_law_integer" "_law_integer" s__law_integer f__law_integer d__law_integer
  g__law_integer : mg "_law_integer" = some (.ref f__law_integer)
  k__law_integer : PySem.W.keepIn K (.ref f__law_integer) = true
  b__law_integer : Binds K d__law_integer ["_law_thing"] []
  f__law_half : Addr
  d__law_half : FuncData
  F__law_half : Fun K "_law_half" "_law_half" s__law_half f__law_half d__law_half
  g__law_half : mg "_law_half" = some (.ref f__law_half)
  k__law_half : PySem.W.keepIn K (.ref f__law_half) = true
  b__law_half : Binds K d__law_half ["_law_width"] []
  f__law_wrap : Addr
  d__law_wrap : FuncData
  F__law_wrap : Fun K "_law_wrap" "_law_wrap" s__law_wrap f__law_wrap d__law_wrap
  g__law_wrap : mg "_law_wrap" = some (.ref f__law_wrap)
  k__law_wrap : PySem.W.keepIn K (.ref f__law_wrap) = true
  b__law_wrap : Binds K d__law_wrap ["_law_width", "_law_number"] []
  f__law_num : Addr
  d__law_num : FuncData
  F__law_num : Fun K "_law_num" "_law_num" s__law_num f__law_num d__law_num
  g__law_num : mg "_law_num" = some (.ref f__law_num)
  k__law_num : PySem.W.keepIn K (.ref f__law_num) = true
  b__law_num : Binds K d__law_num ["_law_bag_here", "_law_width"] []
  f__law_bytes : Addr
  d__law_bytes : FuncData
  F__law_bytes : Fun K "_law_bytes" "_law_bytes" s__law_bytes f__law_bytes d__law_bytes
  g__law_bytes : mg "_law_bytes" = some (.ref f__law_bytes)
  k__law_bytes : PySem.W.keepIn K (.ref f__law_bytes) = true
  b__law_bytes : Binds K d__law_bytes ["_law_width", "_law_number"] []
  f__law_cell : Addr
  d__law_cell : FuncData
  F__law_cell : Fun K "_law_cell" "_law_cell" s__law_cell f__law_cell d__law_cell
  g__law_cell : mg "_law_cell" = some (.ref f__law_cell)
  k__law_cell : PySem.W.keepIn K (.ref f__law_cell) = true
  b__law_cell : Binds K d__law_cell ["_law_width", "_law_row"] []
  f__law_asked : Addr
  d__law_asked : FuncData
  F__law_asked : Fun K "_law_asked" "_law_asked" s__law_asked f__law_asked d__law_asked
  g__law_asked : mg "_law_asked" = some (.ref f__law_asked)
  k__law_asked : PySem.W.keepIn K (.ref f__law_asked) = true
  b__law_asked : Binds K d__law_asked ["_law_word", "_law_width", "_law_thing"] []
  f__law_same : Addr
  d__law_same : FuncData
  F__law_same : Fun K "_law_same" "_law_same" s__law_same f__law_same d__law_same
  g__law_same : mg "_law_same" = some (.ref f__law_same)
  k__law_same : PySem.W.keepIn K (.ref f__law_same) = true
  b__law_same : Binds K d__law_same ["_law_told", "_law_due"] []
  f__law_is_told : Addr
  d__law_is_told : FuncData
  F__law_is_told : Fun K "_law_is_told" "_law_is_told" s__law_is_told f__law_is_told d__law_is_told
  g__law_is_told : mg "_law_is_told" = some (.ref f__law_is_told)
  k__law_is_told : PySem.W.keepIn K (.ref f__law_is_told) = true
  b__law_is_told : Binds K d__law_is_told ["_law_told", "_law_due"] []
  f__law_is_row : Addr
  d__law_is_row : FuncData
  F__law_is_row : Fun K "_law_is_row" "_law_is_row" s__law_is_row f__law_is_row d__law_is_row
  g__law_is_row : mg "_law_is_row" = some (.ref f__law_is_row)
  k__law_is_row : PySem.W.keepIn K (.ref f__law_is_row) = true
  b__law_is_row : Binds K d__law_is_row ["_law_told", "_law_due"] []
  f__law_doubled : Addr
  d__law_doubled : FuncData
  F__law_doubled : Fun K "_law_doubled" "_law_doubled" s__law_doubled f__law_doubled d__law_doubled
  g__law_doubled : mg "_law_doubled" = some (.ref f__law_doubled)
  k__law_doubled : PySem.W.keepIn K (.ref f__law_doubled) = true
  b__law_doubled : Binds K d__law_doubled ["_law_times"] []
  f__law_great : Addr
  d__law_great : FuncData
  F__law_great : Fun K "_law_great" "_law_great" s__law_great f__law_great d__law_great
  g__law_great : mg "_law_great" = some (.ref f__law_great)
  k__law_great : PySem.W.keepIn K (.ref f__law_great) = true
  b__law_great : Binds K d__law_great ["_law_bag_here", "_law_width"] []
  f__law_odd_number : Addr
  d__law_odd_number : FuncData
  F__law_odd_number : Fun K "_law_odd_number" "_law_odd_number" s__law_odd_number f__law_odd_number d__law_odd_number
  g__law_odd_number : mg "_law_odd_number" = some (.ref f__law_odd_number)
  k__law_odd_number : PySem.W.keepIn K (.ref f__law_odd_number) = true
  b__law_odd_number : Binds K d__law_odd_number ["_law_bag_here", "_law_width"] []
  f__law_odd_byte : Addr
  d__law_odd_byte : FuncData
  F__law_odd_byte : Fun K "_law_odd_byte" "_law_odd_byte" s__law_odd_byte f__law_odd_byte d__law_odd_byte
  g__law_odd_byte : mg "_law_odd_byte" = some (.ref f__law_odd_byte)
  k__law_odd_byte : PySem.W.keepIn K (.ref f__law_odd_byte) = true
  b__law_odd_byte : Binds K d__law_odd_byte ["_law_bag_here"] []
  f__law_odd_width : Addr
  d__law_odd_width : FuncData
  F__law_odd_width : Fun K "_law_odd_width" "_law_odd_width" s__law_odd_width f__law_odd_width d__law_odd_width
  g__law_odd_width : mg "_law_odd_width" = some (.ref f__law_odd_width)
  k__law_odd_width : PySem.W.keepIn K (.ref f__law_odd_width) = true
  b__law_odd_width : Binds K d__law_odd_width ["_law_bag_here"] []
  f__law_wrapped_right : Addr
  d__law_wrapped_right : FuncData
  F__law_wrapped_right : Fun K "_law_wrapped_right" "_law_wrapped_right" s__law_wrapped_right f__law_wrapped_right d__law_wrapped_right
  g__law_wrapped_right : mg "_law_wrapped_right" = some (.ref f__law_wrapped_right)
  k__law_wrapped_right : PySem.W.keepIn K (.ref f__law_wrapped_right) = true
  b__law_wrapped_right : Binds K d__law_wrapped_right ["_law_width", "_law_number"] []
  f__law_numbers_right : Addr
  d__law_numbers_right : FuncData
  F__law_numbers_right : Fun K "_law_numbers_right" "_law_numbers_right" s__law_numbers_right f__law_numbers_right d__law_numbers_right
  g__law_numbers_right : mg "_law_numbers_right" = some (.ref f__law_numbers_right)
  k__law_numbers_right : PySem.W.keepIn K (.ref f__law_numbers_right) = true
  b__law_numbers_right : Binds K d__law_numbers_right ["_law_bag_here", "_law_width"] []
  f__law_drawn_row : Addr
  d__law_drawn_row : FuncData
  F__law_drawn_row : Fun K "_law_drawn_row" "_law_drawn_row" s__law_drawn_row f__law_drawn_row d__law_drawn_row
  g__law_drawn_row : mg "_law_drawn_row" = some (.ref f__law_drawn_row)
  k__law_drawn_row : PySem.W.keepIn K (.ref f__law_drawn_row) = true
  b__law_drawn_row : Binds K d__law_drawn_row ["_law_bag_here", "_law_width"] []
  f__law_rows_right : Addr
  d__law_rows_right : FuncData
  F__law_rows_right : Fun K "_law_rows_right" "_law_rows_right" s__law_rows_right f__law_rows_right d__law_rows_right
  g__law_rows_right : mg "_law_rows_right" = some (.ref f__law_rows_right)
  k__law_rows_right : PySem.W.keepIn K (.ref f__law_rows_right) = true
  b__law_rows_right : Binds K d__law_rows_right ["_law_bag_here", "_law_width"] []
  f__law_widths_right : Addr
  d__law_widths_right : FuncData
  F__law_widths_right : Fun K "_law_widths_right" "_law_widths_right" s__law_widths_right f__law_widths_right d__law_widths_right
  g__law_widths_right : mg "_law_widths_right" = some (.ref f__law_widths_right)
  k__law_widths_right : PySem.W.keepIn K (.ref f__law_widths_right) = true
  b__law_widths_right : Binds K d__law_widths_right ["_law_bag_here"] []
  f_law : Addr
  d_law : FuncData
  F_law : Fun K "law" "law" s_law f_law d_law
  g_law : mg "law" = some (.ref f_law)
  k_law : PySem.W.keepIn K (.ref f_law) = true
  b_law : Binds K d_law ["_law_script"] []
  c_MintError : Addr
  c_BadWidth : Addr
  c_BadNumber : Addr
  c_BadByte : Addr
  g_MintError : mg "MintError" = some (.ref c_MintError)
  g_BadWidth : mg "BadWidth" = some (.ref c_BadWidth)
  o_BadWidth : OexC K c_BadWidth
  x_BadWidth : XfC K c_BadWidth
  e_BadWidth : ExcC K c_BadWidth
  F_BadWidth___init__ : PySem.W.findIn K (.ref c_BadWidth) "__init__" = some (some (.ref f_BadWidth___init__)) ∧ PySem.W.typeIn K (.ref f_BadWidth___init__) = some (.type "function") ∧ PySem.W.findIn K (.ref c_BadWidth) "width" = some none
  m_BadWidth : PySem.W.exmOne K (.ref c_BadWidth) (.ref c_MintError) = some true
  v_BadWidth : PySem.W.kitOne K (.ref c_BadWidth) (.type "ValueError") = some true
  k_BadWidth_BadWidth : PySem.W.kitOne K (.ref c_BadWidth) (.ref c_BadWidth) = some true
  k_BadWidth_BadNumber : PySem.W.kitOne K (.ref c_BadWidth) (.ref c_BadNumber) = some false
  k_BadWidth_BadByte : PySem.W.kitOne K (.ref c_BadWidth) (.ref c_BadByte) = some false
  g_BadNumber : mg "BadNumber" = some (.ref c_BadNumber)
  o_BadNumber : OexC K c_BadNumber
  x_BadNumber : XfC K c_BadNumber
  e_BadNumber : ExcC K c_BadNumber
  F_BadNumber___init__ : PySem.W.findIn K (.ref c_BadNumber) "__init__" = some (some (.ref f_BadNumber___init__)) ∧ PySem.W.typeIn K (.ref f_BadNumber___init__) = some (.type "function") ∧ PySem.W.findIn K (.ref c_BadNumber) "number" = some none
  m_BadNumber : PySem.W.exmOne K (.ref c_BadNumber) (.ref c_MintError) = some true
  v_BadNumber : PySem.W.kitOne K (.ref c_BadNumber) (.type "ValueError") = some true
  k_BadNumber_BadWidth : PySem.W.kitOne K (.ref c_BadNumber) (.ref c_BadWidth) = some false
  k_BadNumber_BadNumber : PySem.W.kitOne K (.ref c_BadNumber) (.ref c_BadNumber) = some true
  k_BadNumber_BadByte : PySem.W.kitOne K (.ref c_BadNumber) (.ref c_BadByte) = some false
  g_BadByte : mg "BadByte" = some (.ref c_BadByte)
  o_BadByte : OexC K c_BadByte
  x_BadByte : XfC K c_BadByte
  e_BadByte : ExcC K c_BadByte
  F_BadByte___init__ : PySem.W.findIn K (.ref c_BadByte) "__init__" = some (some (.ref f_BadByte___init__)) ∧ PySem.W.typeIn K (.ref f_BadByte___init__) = some (.type "function") ∧ PySem.W.findIn K (.ref c_BadByte) "byte" = some none
  m_BadByte : PySem.W.exmOne K (.ref c_BadByte) (.ref c_MintError) = some true
  v_BadByte : PySem.W.kitOne K (.ref c_BadByte) (.type "ValueError") = some true
  k_BadByte_BadWidth : PySem.W.kitOne K (.ref c_BadByte) (.ref c_BadWidth) = some false
  k_BadByte_BadNumber : PySem.W.kitOne K (.ref c_BadByte) (.ref c_BadNumber) = some false
  k_BadByte_BadByte : PySem.W.kitOne K (.ref c_BadByte) (.ref c_BadByte) = some true
  a_WIDTHS : Addr
  g_WIDTHS : mg "WIDTHS" = some (.ref a_WIDTHS)
  q_WIDTHS : ∀ H, SqT K H a_WIDTHS [V.int 16, V.int 24, V.int 32]
  n_ValueError : mg "ValueError" = none
  n_bool : mg "bool" = none
  n_int : mg "int" = none
  n_isinstance : mg "isinstance" = none
  n_len : mg "len" = none
  n_list : mg "list" = none
  n_range : mg "range" = none
  n_tuple : mg "tuple" = none

section
variable {P : Program} {w : World} {K : PySem.W.Frag} {mg : Str → Option Value} {base : Heap}

abbrev sp_check_width (M : TX K mg) : Sp := Sp1 fun x H Q E => Pl H x ∧ (isW x = true → Q .non H) ∧ (isW x = false → Rz M.c_BadWidth "width" x H E)
abbrev sp_check_number (M : TX K mg) : Sp := Sp2 fun x y H Q E => ∃ w, x = .int w ∧ Wd w ∧ Pl H y ∧ (isN w y = true → Q .non H) ∧ (isN w y = false → Rz M.c_BadNumber "number" y H E)
abbrev sp_half (M : TX K mg) : Sp := Sp1 fun x H Q E => Pl H x ∧ (∀ w, x = .int w → Wd w → Q (.int (hf w)) H) ∧ (isW x = false → Rz M.c_BadWidth "width" x H E)
abbrev sp_wrap (M : TX K mg) : Sp := Sp2 fun x y H Q E => ∃ n, y = .int n ∧ Pl H x ∧ (∀ w, x = .int w → Wd w → Q (.int (wrapI w n)) H) ∧ (isW x = false → Rz M.c_BadWidth "width" x H E)
abbrev sp_is_number (M : TX K mg) : Sp := Sp2 fun x y H Q E => Pl H y ∧ Pl H x ∧ (∀ w, x = .int w → Wd w → Q (.bl (isN w y)) H) ∧ (isW x = false → Rz M.c_BadWidth "width" x H E)

end
end K02
namespace K02
open PySem PySem.Spec PyProof.Rows L2 My
section
variable {P : Program} {w : World} {K : PySem.W.Frag} {mg : Str → Option Value} {base : Heap}
theorem ok_BadWidth___init__ (M : TX K mg) : FnOk P w K mg base (L2.CX P w) 1 M.f_BadWidth___init__ M.d_BadWidth___init__ ["self", "width"] (spExc M.c_BadWidth "width") := by
  have sc := sc_BadWidth___init__
  refine M.E_BadWidth___init__.okX sc (fun vs H Q E h => ?_) (fun cdv A outer s H vs Q E hr h => ?_)
  · obtain ⟨a, v, rfl, _⟩ := h
    rfl
  · obtain ⟨a, v, rfl, ha, k⟩ := h
    refine ⟨_, pss_one (ps_ost (pv 0) (pv 1)), ?_⟩
    exact ⟨_, rfl, _, rfl, a, M.c_BadWidth, rfl, M.o_BadWidth, M.F_BadWidth___init__.2.2, .inl ⟨ha, k⟩⟩

theorem ok_BadNumber___init__ (M : TX K mg) : FnOk P w K mg base (L2.CX P w) 1 M.f_BadNumber___init__ M.d_BadNumber___init__ ["self", "number"] (spExc M.c_BadNumber "number") := by
  have sc := sc_BadNumber___init__
  refine M.E_BadNumber___init__.okX sc (fun vs H Q E h => ?_) (fun cdv A outer s H vs Q E hr h => ?_)
  · obtain ⟨a, v, rfl, _⟩ := h
    rfl
  · obtain ⟨a, v, rfl, ha, k⟩ := h
    refine ⟨_, pss_one (ps_ost (pv 0) (pv 1)), ?_⟩
    exact ⟨_, rfl, _, rfl, a, M.c_BadNumber, rfl, M.o_BadNumber, M.F_BadNumber___init__.2.2, .inl ⟨ha, k⟩⟩

theorem ok_BadByte___init__ (M : TX K mg) : FnOk P w K mg base (L2.CX P w) 1 M.f_BadByte___init__ M.d_BadByte___init__ ["self", "byte"] (spExc M.c_BadByte "byte") := by
  have sc := sc_BadByte___init__
  refine M.E_BadByte___init__.okX sc (fun vs H Q E h => ?_) (fun cdv A outer s H vs Q E hr h => ?_)
  · obtain ⟨a, v, rfl, _⟩ := h
    rfl
  · obtain ⟨a, v, rfl, ha, k⟩ := h
    refine ⟨_, pss_one (ps_ost (pv 0) (pv 1)), ?_⟩
    exact ⟨_, rfl, _, rfl, a, M.c_BadByte, rfl, M.o_BadByte, M.F_BadByte___init__.2.2, .inl ⟨ha, k⟩⟩

theorem ok_is_integer (M : TX K mg) : FnOk P w K mg base (L2.CX P w) 1 M.f_is_integer M.d_is_integer ["thing"] (Sp1 fun x H Q _ => Pl H x ∧ Q (.bl (isI x)) H) := by
  have sc := sc_is_integer
  refine M.F_is_integer.okX sc (fun vs H Q E h => Sp1_len h) (fun cdv A outer s H vs Q E hr h => ?_)
  obtain ⟨x0, rfl, h⟩ := h
  have hu := hu_of hr
  have hu64 := hr.units
  refine ⟨_, (pss_one (ps_ret (pe_and (pe_callB call_isInt (by rfl) M.n_isinstance (by decide +kernel) (pa_cons (pv 0) (pa_cons (pe_bltn (v := .ty "int") (u := .type "int") (by rfl) M.n_int (by decide +kernel) rfl) pa_nil))) (pe_one (pe_not (pe_callB call_isBool (by rfl) M.n_isinstance (by decide +kernel) (pa_cons (pv 0) (pa_cons (pe_bltn (v := .ty "bool") (u := .type "bool") (by rfl) M.n_bool (by decide +kernel) rfl) pa_nil)))))))), ?_⟩

  obtain ⟨hp, q⟩ := h
  walk_at "rd"
  refine iteB (fun c => ?_) (fun c => ?_)
  · walk_at "rd"
    cases x0 <;> first | exact q | cases c
  · cases x0 <;> first | exact q | cases c

theorem ok_is_between (M : TX K mg) : FnOk P w K mg base (L2.CX P w) 2 M.f_is_between M.d_is_between ["thing", "low", "high"] (Sp3 fun x y z H Q _ => ∃ lo hi, y = .int lo ∧ z = .int hi ∧ Pl H x ∧ Q (.bl (btw x lo hi)) H) := by
  have sc := sc_is_between
  refine M.F_is_between.okX sc (fun vs H Q E h => Sp3_len h) (fun cdv A outer s H vs Q E hr h => ?_)
  obtain ⟨x0, x1, x2, rfl, h⟩ := h
  have hu := hu_of hr
  have hu64 := hr.units
  refine ⟨_, (pss_one (ps_ret (pe_and (pe_call (ok_is_integer M) (hr.mono (by decide)) rfl M.g_is_integer M.F_is_integer.kp M.b_is_integer .nil (passE rfl rfl rfl rfl) (pa_cons (pv 0) pa_nil)) (pe_one (pe_chain op_le op_le (pv 1) (pv 0) (pv 2)))))), ?_⟩

  obtain ⟨lo, hi, rfl, rfl, hp, q⟩ := h
  walk_at "rd"
  refine iteB (fun c => ?_) (fun c => ?_)
  · cases x0 <;> try (cases c)
    rename_i i
    walk_at "rd"
    refine iteB (fun c1 => ?_) (fun c1 => ?_)
    · walk_at "rd"
      have e : btw (.int i) lo hi = decide (i ≤ hi) := by
        show (decide (lo ≤ i) && decide (i ≤ hi)) = decide (i ≤ hi)
        rw [c1]; rfl
      rw [e] at q; exact q
    · have e : btw (.int i) lo hi = false := by
        show (decide (lo ≤ i) && decide (i ≤ hi)) = false
        rw [c1]; rfl
      rw [e] at q; exact q
  · cases x0 <;> first | exact q | cases c

theorem ok_is_byte (M : TX K mg) : FnOk P w K mg base (L2.CX P w) 3 M.f_is_byte M.d_is_byte ["thing"] (Sp1 fun x H Q _ => Pl H x ∧ Q (.bl (btw x 0 255)) H) := by
  have sc := sc_is_byte
  refine M.F_is_byte.okX sc (fun vs H Q E h => Sp1_len h) (fun cdv A outer s H vs Q E hr h => ?_)
  obtain ⟨x0, rfl, h⟩ := h
  have hu := hu_of hr
  have hu64 := hr.units
  refine ⟨_, (pss_one (ps_ret (pe_call (ok_is_between M) (hr.mono (by decide)) rfl M.g_is_between M.F_is_between.kp M.b_is_between .nil (passE rfl rfl rfl rfl) (pa_cons (pv 0) (pa_cons pe_int (pa_cons pe_int pa_nil)))))), ?_⟩

  obtain ⟨hp, q⟩ := h
  walk_at "rd"
  exact q

theorem ok_check_width (M : TX K mg) : FnOk P w K mg base (L2.CX P w) 3 M.f_check_width M.d_check_width ["width"] (sp_check_width M) := by
  have sc := sc_check_width
  refine M.F_check_width.okX sc (fun vs H Q E h => Sp1_len h) (fun cdv A outer s H vs Q E hr h => ?_)
  obtain ⟨x0, rfl, h⟩ := h
  have hu := hu_of hr
  have hu64 := hr.units
  refine ⟨_, (pss_one (ps_if (PW.pt (pw_or (pt_not (pt_val (pe_call (ok_is_integer M) (hr.mono (by decide)) rfl M.g_is_integer M.F_is_integer.kp M.b_is_integer .nil (passE rfl rfl rfl rfl) (pa_cons (pv 0) pa_nil)))) (pw_or1 (pt_cmpR (op_notInK K) (pv 0) (pe_glob (v := .ref M.a_WIDTHS) rfl M.g_WIDTHS rfl) (by rfl)))))
      (pss_one (ps_rz rfl (takes_of rfl rfl rfl rfl) M.o_BadWidth M.F_BadWidth___init__.1 M.F_BadWidth___init__.2.1 (ok_BadWidth___init__ M) (hr.mono (by decide)) M.b_BadWidth___init__ rfl M.g_BadWidth (pa_cons (pv 0) pa_nil)))
      pss_nil)), ?_⟩

  obtain ⟨hp, k1, k2⟩ := h
  walk_at "rd"
  cases x0
  case int i =>
    refine iteF ?_
    refine ⟨_, rfl, _, _, rfl, .inr (M.q_WIDTHS _), rfl, rfl, _, rfl, ?_⟩
    have e : inV (.int i) [V.int 16, V.int 24, V.int 32] = isW (.int i) := by
      by_cases h1 : i = 16
      · subst h1; rfl
      · by_cases h2 : i = 24
        · subst h2; rfl
        · by_cases h3 : i = 32
          · subst h3; rfl
          · simp [inV, eqV, isW, h1, h2, h3, Ne.symm h1, Ne.symm h2, Ne.symm h3]
    show if (!inV (.int i) [V.int 16, V.int 24, V.int 32]) = true then _ else _
    rw [e]
    cases c : isW (.int i)
    · refine iteT ?_
      walk_at "rd"
      exact k2 c
    · exact iteF (k1 c)
  all_goals
    refine iteT (iteT ?_)
    walk_at "rd"
    exact k2 rfl

theorem ok_half (M : TX K mg) : FnOk P w K mg base (L2.CX P w) 4 M.f_half M.d_half ["width"] (sp_half M) := by
  have sc := sc_half
  refine M.F_half.okX sc (fun vs H Q E h => Sp1_len h) (fun cdv A outer s H vs Q E hr h => ?_)
  obtain ⟨x0, rfl, h⟩ := h
  have hu := hu_of hr
  have hu64 := hr.units
  refine ⟨_, (pss_cons (ps_expr (pe_call (ok_check_width M) (hr.mono (by decide)) rfl M.g_check_width M.F_check_width.kp M.b_check_width .nil (passE rfl rfl rfl rfl) (pa_cons (pv 0) pa_nil)))
    (pss_one (ps_ret (pe_op op_shl pe_int (pe_op op_sub (pv 0) pe_int))))), ?_⟩

  obtain ⟨hp, k1, k2⟩ := h
  refine ⟨_, rfl, _, rfl, hp, fun c => ?_, fun c => k2 c⟩
  obtain ⟨w, rfl, hw⟩ := isW_of c
  walk_at "rd"
  refine ⟨⟨by rcases hw with rfl | rfl | rfl <;> decide, by rcases hw with rfl | rfl | rfl <;> decide, by decide⟩, ?_⟩
  have q := k1 w rfl hw
  show Q (.int (1 * 2 ^ (w - 1).toNat)) H
  rw [Int.one_mul]
  exact q

theorem ok_wrap (M : TX K mg) : FnOk P w K mg base (L2.CX P w) 5 M.f_wrap M.d_wrap ["width", "number"] (sp_wrap M) := by
  have sc := sc_wrap
  refine M.F_wrap.okX sc (fun vs H Q E h => Sp2_len h) (fun cdv A outer s H vs Q E hr h => ?_)
  obtain ⟨x0, x1, rfl, h⟩ := h
  have hu := hu_of hr
  have hu64 := hr.units
  refine ⟨_, (pss_cons (ps_set (i := 2) sc.nd rfl (Or.inl rfl) (pe_call (ok_half M) (hr.mono (by decide)) rfl M.g_half M.F_half.kp M.b_half .nil (passE rfl rfl rfl rfl) (pa_cons (pv 0) pa_nil)))
    (pss_one (ps_ret (pe_op op_sub (pe_op op_mod (pe_op op_add (pv 1) (pv 2)) (pe_op op_mul pe_int (pv 2))) (pv 2))))), ?_⟩

  obtain ⟨n, rfl, hp, k1, k2⟩ := h
  refine ⟨_, rfl, _, rfl, hp, fun w e hw => ?_, fun c => k2 c⟩
  subst e
  have hq := hf_pos hw
  walk_at "rd"
  exact k1 w rfl hw

theorem ok_is_number (M : TX K mg) : FnOk P w K mg base (L2.CX P w) 5 M.f_is_number M.d_is_number ["width", "thing"] (sp_is_number M) := by
  have sc := sc_is_number
  refine M.F_is_number.okX sc (fun vs H Q E h => Sp2_len h) (fun cdv A outer s H vs Q E hr h => ?_)
  obtain ⟨x0, x1, rfl, h⟩ := h
  have hu := hu_of hr
  have hu64 := hr.units
  refine ⟨_, (pss_cons (ps_set (i := 2) sc.nd rfl (Or.inl rfl) (pe_call (ok_half M) (hr.mono (by decide)) rfl M.g_half M.F_half.kp M.b_half .nil (passE rfl rfl rfl rfl) (pa_cons (pv 0) pa_nil)))
    (pss_one (ps_ret (pe_call (ok_is_between M) (hr.mono (by decide)) rfl M.g_is_between M.F_is_between.kp M.b_is_between .nil (passE rfl rfl rfl rfl) (pa_cons (pv 1) (pa_cons (pe_un un_neg (pv 2)) (pa_cons (pe_op op_sub (pv 2) pe_int) pa_nil))))))), ?_⟩

  obtain ⟨hy, hp, k1, k2⟩ := h
  refine ⟨_, rfl, _, rfl, hp, fun w e hw => ?_, fun c => k2 c⟩
  subst e
  walk_at "rd"
  exact k1 w rfl hw

theorem ok_check_number (M : TX K mg) : FnOk P w K mg base (L2.CX P w) 6 M.f_check_number M.d_check_number ["width", "thing"] (sp_check_number M) := by
  have sc := sc_check_number
  refine M.F_check_number.okX sc (fun vs H Q E h => Sp2_len h) (fun cdv A outer s H vs Q E hr h => ?_)
  obtain ⟨x0, x1, rfl, h⟩ := h
  have hu := hu_of hr
  have hu64 := hr.units
  refine ⟨_, (pss_one (ps_if (pt_not (pt_val (pe_call (ok_is_number M) (hr.mono (by decide)) rfl M.g_is_number M.F_is_number.kp M.b_is_number .nil (passE rfl rfl rfl rfl) (pa_cons (pv 0) (pa_cons (pv 1) pa_nil)))))
      (pss_one (ps_rz rfl (takes_of rfl rfl rfl rfl) M.o_BadNumber M.F_BadNumber___init__.1 M.F_BadNumber___init__.2.1 (ok_BadNumber___init__ M) (hr.mono (by decide)) M.b_BadNumber___init__ rfl M.g_BadNumber (pa_cons (pv 1) pa_nil)))
      pss_nil)), ?_⟩

  obtain ⟨w, rfl, hw, hy, k1, k2⟩ := h
  refine ⟨_, rfl, _, rfl, _, _, rfl, hy, .int w, fun w' e hw' => ?_, fun c => by rw [isW_int hw] at c; cases c⟩
  cases e
  walk_at "rd"
  cases c : isN w x1
  · refine iteT ?_
    walk_at "rd"
    exact k2 c
  · exact iteF (k1 c)

end
end K02
namespace K02
open PySem PySem.Spec PyProof.Rows L2 My
section
variable {P : Program} {w : World} {K : PySem.W.Frag} {mg : Str → Option Value} {base : Heap}
theorem ok__law_bag (M : TX K mg) : FnOk P w K mg base (L2.CX P w) 1 M.f__law_bag M.d__law_bag ["_law_script"] (spBag K) := by
  have sc := sc__law_bag
  refine M.F__law_bag.okX sc (fun vs H Q E h => Sp1_len h) (fun cdv A outer s H vs Q E hr h => ?_)
  obtain ⟨x0, rfl, h⟩ := h
  have hu := hu_of hr
  have hu64 := hr.units
  refine ⟨_, (pss_one (ps_ret (pe_disp (pps_cons pe_str (pe_lc (own := [("_law_cell_here", 1)]) (g := gName 1) (tt := tYes) (by rfl) sc.nd (pi_listK K (pi_list (pv 0))) (blkOk_by (own := [("_law_cell_here", 1)]) (N := ["_law_script", "_law_cell_here"]) (sc := defScope s__law_bag) (by decide +kernel)) (fun _ _ _ _ _ => pg_name (i := 1) sc.nd rfl (Or.inl rfl)) (fun _ _ _ _ _ => pts_nil) (fun _ _ _ _ _ => (pe_callTy call_int1 (by rfl) M.n_int (by decide +kernel) (pa_cons (pv 1) pa_nil)))) (pps_cons pe_str pe_int (pps_cons pe_str pe_int (pps_cons pe_str pe_int (pps_cons pe_str pe_int pps_nil))))) (by rfl) (by rfl) (fun z => by cases z) (by decide)))), ?_⟩

  obtain ⟨a, ns, rfl, hS, hl, k⟩ := h
  intro p hp
  have s1 : Same H (upd H p (.dK [])) := Same.put (Same.refl H) hp
  refine ⟨_, rfl, a, rfl, ⟨_, s1.seq hS⟩, fun D hD => ?_⟩
  refine lc_list (xs := ns.map V.int) (LBd D (ns.map V.int) (upd H p (.dK []))) (LBd_0 hD) (fun i H' _ h => h.2.seq (s1.seq hS)) ?_ ?_
  · rintro i x H' hi B
    obtain ⟨z, hz, rfl⟩ := map_get hi
    refine ⟨rfl, tYes_i (iteT ?_)⟩
    walk_at "rd"
    exact LBd_s B hD hi (by rw [List.length_map]; omega)
  · intro H' B
    obtain ⟨hd, s2⟩ := LBd_n B rfl
    refine ⟨s2 _ _ upd_same, [((Sum.inr ("cells" : Str) : Key), V.ref D), (Sum.inr ("at" : Str), .int 0), (Sum.inr ("rest" : Str), .int 0), (Sum.inr ("seed" : Str), .int 20011), (Sum.inr ("count" : Str), .int 0)], rfl, Nat.le_of_ble_eq_true rfl, ?_⟩
    rw [merge_bag]
    have npd : D ≠ p := by
      intro e
      rw [e, upd_same] at hD
      cases hD
    refine k p _ hp ⟨D, ns, 0, 0, 20011, 0, upd_same, ?_, by decide, hl⟩ (Same.put (s1.trans s2) hp)
    rw [upd_ne npd]
    exact hd

theorem ok__law_pick (M : TX K mg) : FnOk P w K mg base (L2.CX P w) 1 M.f__law_pick M.d__law_pick ["_law_bag_here", "_law_many"] (spPick) := by
  have sc := sc__law_pick
  refine M.F__law_pick.okX sc (fun vs H Q E h => Sp2_len h) (fun cdv A outer s H vs Q E hr h => ?_)
  obtain ⟨x0, x1, rfl, h⟩ := h
  have hu := hu_of hr
  have hu64 := hr.units
  refine ⟨_, (pss_cons (ps_dput hu (pv 0) pe_str (pe_op op_add (pe_dget hu (pv 0) pe_str (fun _ _ => rfl)) pe_int) rfl)
    (pss_cons (ps_if (pt_cmpR op_gt (pe_dget hu (pv 0) pe_str (fun _ _ => rfl)) pe_int (nomark _))
      (pss_cons (ps_set (i := 2) sc.nd rfl (Or.inl rfl) (pe_op op_mod (pe_callTy call_int1 (by rfl) M.n_int (by decide +kernel) (pa_cons (pe_dget hu (pv 0) pe_str (fun _ _ => rfl)) pa_nil)) (pv 1)))
      (pss_cons (ps_dput hu (pv 0) pe_str (pe_op op_fdiv (pe_dget hu (pv 0) pe_str (fun _ _ => rfl)) (pv 1)) rfl)
      (pss_one (ps_ret (pv 2)))))
      pss_nil)
    (pss_cons (ps_if (pt_cmpR op_lt (pe_dget hu (pv 0) pe_str (fun _ _ => rfl)) (pe_callB (call_lenK K) (by rfl) M.n_len PySem.boot_len (pa_cons (pe_dget hu (pv 0) pe_str (fun _ _ => rfl)) pa_nil)) (nomark _))
      (pss_cons (ps_set (i := 3) sc.nd rfl (Or.inl rfl) (pe_ix (ix_listK K) (pe_dget hu (pv 0) pe_str (fun _ _ => rfl)) (pe_dget hu (pv 0) pe_str (fun _ _ => rfl)) (fun _ _ => rfl)))
      (pss_cons (ps_dput hu (pv 0) pe_str (pe_op op_add (pe_dget hu (pv 0) pe_str (fun _ _ => rfl)) pe_int) rfl)
      (pss_cons (ps_if (pt_cmpR op_ge (pv 3) pe_int (nomark _))
        (pss_cons (ps_dput hu (pv 0) pe_str (pe_op op_fdiv (pv 3) (pv 1)) rfl)
        (pss_one (ps_ret (pe_op op_mod (pe_callTy call_int1 (by rfl) M.n_int (by decide +kernel) (pa_cons (pv 3) pa_nil)) (pv 1)))))
        pss_nil)
      (pss_one (ps_dput hu (pv 0) pe_str (pe_op op_mod (pe_callTy call_int1 (by rfl) M.n_int (by decide +kernel) (pa_cons (pe_op op_add (pe_op op_add (pe_dget hu (pv 0) pe_str (fun _ _ => rfl)) (pe_op op_mul (pv 3) pe_int)) pe_int) pa_nil)) pe_int) rfl)))))
      pss_nil)
    (pss_cons (ps_dput hu (pv 0) pe_str (pe_op op_mod (pe_callTy call_int1 (by rfl) M.n_int (by decide +kernel) (pa_cons (pe_op op_add (pe_op op_add (pe_op op_mul (pe_dget hu (pv 0) pe_str (fun _ _ => rfl)) pe_int) (pe_op op_mul (pe_dget hu (pv 0) pe_str (fun _ _ => rfl)) pe_int)) pe_int) pa_nil)) pe_int) rfl)
    (pss_cons (ps_set (i := 4) sc.nd rfl (Or.inl rfl) (pe_op op_mod (pe_callTy call_int1 (by rfl) M.n_int (by decide +kernel) (pa_cons (pe_op op_add (pe_op op_mul (pe_dget hu (pv 0) pe_str (fun _ _ => rfl)) pe_int) (pe_op op_mul (pe_dget hu (pv 0) pe_str (fun _ _ => rfl)) pe_int)) pa_nil)) pe_int))
    (pss_one (ps_ret (pe_op op_mod (pe_callTy call_int1 (by rfl) M.n_int (by decide +kernel) (pa_cons (pe_op op_fdiv (pv 4) pe_int) pa_nil)) (pv 1))))))))), ?_⟩

  obtain ⟨b, m, rfl, rfl, h0, h1, B, k⟩ := h
  obtain ⟨c, ns, a, r, s0, n, hb, hc, ha, hl⟩ := B.ex
  have ncb : c ≠ b := ne_of hc hb (by intro z; cases z)
  have ed : ∀ x : Int, 0 ≤ x % m ∧ x % m < m := fun x => ⟨Int.emod_nonneg _ (by omega), Int.emod_lt_of_pos _ h0⟩
  walk_at "rd"
  refine iteD (fun c1 => ?_) (fun c1 => ?_)
  · walk_at "rd"
    refine k _ _ (ed _).1 (ed _).2 ⟨c, ns, _, _, _, _, upd_same, ?_, ?_, hl⟩ (Kp.refl.upd.upd) <;> first | walk_at "hp" | omega
  · walk_at "rd"
    refine iteD (fun c2 => ?_) (fun c2 => ?_)
    · rw [List.length_map] at c2
      obtain ⟨z, hz⟩ : ∃ z, ns[a.toNat]? = some z := ⟨_, List.getElem?_eq_getElem (by omega)⟩
      walk_at "rd"
      refine ⟨_, _, _, .int z, rfl, rfl, SqL.of (by walk_at "hp"), at_of (j := a.toNat) (by omega) (by rw [List.getElem?_map, hz]; rfl), ?_⟩
      walk_at "rd"
      refine iteD (fun c3 => ?_) (fun c3 => ?_)
      · walk_at "rd"
        refine k _ _ (ed _).1 (ed _).2 ⟨c, ns, _, _, _, _, upd_same, ?_, ?_, hl⟩ (Kp.refl.upd.upd.upd) <;> first | walk_at "hp" | omega
      · walk_at "rd"
        refine k _ _ (ed _).1 (ed _).2 ⟨c, ns, _, _, _, _, upd_same, ?_, ?_, hl⟩ (Kp.refl.upd.upd.upd.upd) <;> first | walk_at "hp" | omega
    · walk_at "rd"
      refine k _ _ (ed _).1 (ed _).2 ⟨c, ns, _, _, _, _, upd_same, ?_, ?_, hl⟩ (Kp.refl.upd.upd) <;> first | walk_at "hp" | omega

theorem ok__law_integer (M : TX K mg) : FnOk P w K mg base (L2.CX P w) 1 M.f__law_integer M.d__law_integer ["_law_thing"] (Sp1 fun x H Q _ => Pl H x ∧ Q (.bl (isI x)) H) := by
  have sc := sc__law_integer
  refine M.F__law_integer.okX sc (fun vs H Q E h => Sp1_len h) (fun cdv A outer s H vs Q E hr h => ?_)
  obtain ⟨x0, rfl, h⟩ := h
  have hu := hu_of hr
  have hu64 := hr.units
  refine ⟨_, (pss_one (ps_ret (pe_and (pe_callB call_isInt (by rfl) M.n_isinstance (by decide +kernel) (pa_cons (pv 0) (pa_cons (pe_bltn (v := .ty "int") (u := .type "int") (by rfl) M.n_int (by decide +kernel) rfl) pa_nil))) (pe_one (pe_not (pe_callB call_isBool (by rfl) M.n_isinstance (by decide +kernel) (pa_cons (pv 0) (pa_cons (pe_bltn (v := .ty "bool") (u := .type "bool") (by rfl) M.n_bool (by decide +kernel) rfl) pa_nil)))))))), ?_⟩

  obtain ⟨hp, q⟩ := h
  walk_at "rd"
  refine iteB (fun c => ?_) (fun c => ?_)
  · walk_at "rd"
    cases x0 <;> first | exact q | cases c
  · cases x0 <;> first | exact q | cases c

theorem ok__law_half (M : TX K mg) : FnOk P w K mg base (L2.CX P w) 1 M.f__law_half M.d__law_half ["_law_width"] (spHalf) := by
  have sc := sc__law_half
  refine M.F__law_half.okX sc (fun vs H Q E h => Sp1_len h) (fun cdv A outer s H vs Q E hr h => ?_)
  obtain ⟨x0, rfl, h⟩ := h
  have hu := hu_of hr
  have hu64 := hr.units
  refine ⟨_, (pss_one (ps_ret (pe_dget hu (pe_disp (pps_cons pe_int pe_int (pps_cons pe_int pe_int (pps_cons pe_int pe_int pps_nil))) (by rfl) (by rfl) (fun z => by cases z) (by decide)) (pv 0) (fun _ _ => rfl)))), ?_⟩

  obtain ⟨w, rfl, hw, k⟩ := h
  intro p hp
  refine ⟨upd_same, [((Sum.inl 16 : Key), V.int 32768), (Sum.inl 24, .int 8388608), (Sum.inl 32, .int 2147483648)], rfl, by decide, _, rfl, ?_⟩
  have s1 : ∀ o o', Same H (upd (upd H p o) p o') := fun o o' => Same.put (Same.put (Same.refl H) hp) hp
  rcases hw with rfl | rfl | rfl
  · exact ⟨_, _, rfl, DGet.k (k := Sum.inl 16) upd_same, k _ (s1 _ _)⟩
  · exact ⟨_, _, rfl, DGet.k (k := Sum.inl 24) upd_same, k _ (s1 _ _)⟩
  · exact ⟨_, _, rfl, DGet.k (k := Sum.inl 32) upd_same, k _ (s1 _ _)⟩

theorem ok__law_choice (M : TX K mg) : FnOk P w K mg base (L2.CX P w) 2 M.f__law_choice M.d__law_choice ["_law_bag_here", "_law_things"] (spChoice K) := by
  have sc := sc__law_choice
  refine M.F__law_choice.okX sc (fun vs H Q E h => Sp2_len h) (fun cdv A outer s H vs Q E hr h => ?_)
  obtain ⟨x0, x1, rfl, h⟩ := h
  have hu := hu_of hr
  have hu64 := hr.units
  refine ⟨_, (pss_one (ps_ret (pe_ix (ix_listK K) (pv 1) (pe_call (ok__law_pick M) (hr.mono (by decide)) rfl M.g__law_pick M.F__law_pick.kp M.b__law_pick .nil (passE rfl rfl rfl rfl) (pa_cons (pv 0) (pa_cons (pe_callB (call_lenK K) (by rfl) M.n_len PySem.boot_len (pa_cons (pv 1) pa_nil)) pa_nil))) (fun _ _ => rfl)))), ?_⟩

  obtain ⟨b, t, xs, rfl, rfl, ht, h0, h1, ntb, B, k⟩ := h
  walk_at "rd"
  intro v H' v0 v1 B' k'
  have hx : xs[v.toNat]? = some xs[v.toNat] := List.getElem?_eq_getElem (by omega)
  refine ⟨_, _, _, _, rfl, rfl, SqL.of (k' _ _ ntb ht), at_of (j := v.toNat) (by omega) hx, ?_⟩
  exact k _ _ _ hx B' k'

theorem ok__law_wrap (M : TX K mg) : FnOk P w K mg base (L2.CX P w) 2 M.f__law_wrap M.d__law_wrap ["_law_width", "_law_number"] (spWrap) := by
  have sc := sc__law_wrap
  refine M.F__law_wrap.okX sc (fun vs H Q E h => Sp2_len h) (fun cdv A outer s H vs Q E hr h => ?_)
  obtain ⟨x0, x1, rfl, h⟩ := h
  have hu := hu_of hr
  have hu64 := hr.units
  refine ⟨_, (pss_cons (ps_set (i := 2) sc.nd rfl (Or.inl rfl) (pe_call (ok__law_half M) (hr.mono (by decide)) rfl M.g__law_half M.F__law_half.kp M.b__law_half .nil (passE rfl rfl rfl rfl) (pa_cons (pv 0) pa_nil)))
    (pss_one (ps_ret (pe_op op_sub (pe_op op_mod (pe_callTy call_int1 (by rfl) M.n_int (by decide +kernel) (pa_cons (pe_op op_add (pv 1) (pv 2)) pa_nil)) (pe_op op_mul pe_int (pv 2))) (pv 2))))), ?_⟩

  obtain ⟨w, n, rfl, rfl, hw, k⟩ := h
  have hq := hf_pos hw
  walk_at "rd"
  intro H' s
  walk_at "rd"
  exact k _ s

theorem ok__law_num (M : TX K mg) : FnOk P w K mg base (L2.CX P w) 3 M.f__law_num M.d__law_num ["_law_bag_here", "_law_width"] (spNum) := by
  have sc := sc__law_num
  refine M.F__law_num.okX sc (fun vs H Q E h => Sp2_len h) (fun cdv A outer s H vs Q E hr h => ?_)
  obtain ⟨x0, x1, rfl, h⟩ := h
  have hu := hu_of hr
  have hu64 := hr.units
  refine ⟨_, (pss_cons (ps_set (i := 2) sc.nd rfl (Or.inl rfl) (pe_call (ok__law_pick M) (hr.mono (by decide)) rfl M.g__law_pick M.F__law_pick.kp M.b__law_pick .nil (passE rfl rfl rfl rfl) (pa_cons (pv 0) (pa_cons pe_int pa_nil))))
    (pss_cons (ps_set (i := 3) sc.nd rfl (Or.inl rfl) (pe_call (ok__law_half M) (hr.mono (by decide)) rfl M.g__law_half M.F__law_half.kp M.b__law_half .nil (passE rfl rfl rfl rfl) (pa_cons (pv 1) pa_nil)))
    (pss_cons (ps_if (pt_cmpR op_lt (pv 2) pe_int (nomark _))
      (pss_one (ps_ret (pe_call (ok__law_pick M) (hr.mono (by decide)) rfl M.g__law_pick M.F__law_pick.kp M.b__law_pick .nil (passE rfl rfl rfl rfl) (pa_cons (pv 0) (pa_cons pe_int pa_nil)))))
      pss_nil)
    (pss_cons (ps_if (pt_cmpR op_lt (pv 2) pe_int (nomark _))
      (pss_cons (ps_set (i := 4) sc.nd rfl (Or.inl rfl) (pe_call (ok__law_pick M) (hr.mono (by decide)) rfl M.g__law_pick M.F__law_pick.kp M.b__law_pick .nil (passE rfl rfl rfl rfl) (pa_cons (pv 0) (pa_cons pe_int pa_nil))))
      (pss_one (ps_ret (pe_ix (ix_listK K) (pe_lst (pa_cons (pe_op op_sub (pe_un un_neg pe_int) (pv 4)) (pa_cons (pe_op op_sub (pe_op op_sub (pv 3) pe_int) (pv 4)) (pa_cons (pe_op op_sub (pv 4) (pv 3)) (pa_cons (pe_op op_add pe_int (pe_op op_mul pe_int (pv 4))) pa_nil))))) (pe_op op_sub (pv 2) pe_int) (fun _ _ => rfl)))))
      pss_nil)
    (pss_one (ps_ret (pe_call (ok__law_wrap M) (hr.mono (by decide)) rfl M.g__law_wrap M.F__law_wrap.kp M.b__law_wrap .nil (passE rfl rfl rfl rfl) (pa_cons (pv 1) (pa_cons (pe_op op_add (pe_op op_mul (pe_call (ok__law_pick M) (hr.mono (by decide)) rfl M.g__law_pick M.F__law_pick.kp M.b__law_pick .nil (passE rfl rfl rfl rfl) (pa_cons (pv 0) (pa_cons pe_int pa_nil))) pe_int) (pe_call (ok__law_pick M) (hr.mono (by decide)) rfl M.g__law_pick M.F__law_pick.kp M.b__law_pick .nil (passE rfl rfl rfl rfl) (pa_cons (pv 0) (pa_cons pe_int pa_nil)))) pa_nil))))))))), ?_⟩

  obtain ⟨b, w, rfl, rfl, hw, B, k⟩ := h
  have hq := hf_pos hw
  have hq2 : 32768 ≤ hf w := by rcases hf_val hw with ⟨_, e⟩ | ⟨_, e⟩ | ⟨_, e⟩ <;> rw [e] <;> decide
  walk_at "rd"
  intro v H1 v0 v1 B1 k1
  walk_at "rd"
  intro H2 s2
  have B2 := B1.same s2
  have k2 := k1.trans (Kp.of s2)
  walk_at "rd"
  refine iteD (fun c1 => ?_) (fun c1 => ?_)
  · walk_at "rd"
    intro u H3 u0 u1 B3 k3
    exact k u H3 (by unfold InR; omega) B3 (k2.trans k3)
  · walk_at "rd"
    refine iteD (fun c2 => ?_) (fun c2 => ?_)
    · walk_at "rd"
      intro u H3 u0 u1 B3 k3
      walk_at "rd"
      intro p hp
      walk_at "rd"
      have fin : ∀ z, InR w z → Q (.int z) (upd H3 p (.lst [V.int (-1 - u), V.int (hf w - 1 - u), V.int (u - hf w), V.int (20 + 31 * u)])) := fun z hz => k z _ hz (B3.put hp) ((k2.trans k3).trans (Kp.put Kp.refl hp))
      have hv : v = 3 ∨ v = 4 ∨ v = 5 ∨ v = 6 := by omega
      rcases hv with rfl | rfl | rfl | rfl
      · exact ⟨_, _, _, _, rfl, rfl, SqL.of upd_same, rfl, fin _ (by unfold InR; omega)⟩
      · exact ⟨_, _, _, _, rfl, rfl, SqL.of upd_same, rfl, fin _ (by unfold InR; omega)⟩
      · exact ⟨_, _, _, _, rfl, rfl, SqL.of upd_same, rfl, fin _ (by unfold InR; omega)⟩
      · exact ⟨_, _, _, _, rfl, rfl, SqL.of upd_same, rfl, fin _ (by unfold InR; omega)⟩
    · walk_at "rd"
      intro u H3 u0 u1 B3 k3
      walk_at "rd"
      intro t H4 t0 t1 B4 k4
      walk_at "rd"
      intro H5 s5
      exact k _ _ (wrap_in hw) (B4.same s5) (((k2.trans k3).trans k4).trans (Kp.of s5))

end
end K02
namespace K02
open PySem PySem.Spec PyProof.Rows L2 My
section
variable {P : Program} {w : World} {K : PySem.W.Frag} {mg : Str → Option Value} {base : Heap}

def bys (k : Nat) (r : Int) : List Int := (List.range k).map fun j => r / 256 ^ j % 256
abbrev sp_bytes_of (M : TX K mg) : Sp := Sp2 fun x y H Q E => Pl H x ∧ Pl H y ∧
  (∀ w n, x = .int w → y = .int n → Wd w → InR w n → ∀ t H', H' t = some (.tup ((bys (w / 8).toNat (n % (2 * hf w))).map V.int)) → Same H H' → Q (.ref t) H') ∧
  (isW x = false → Rz M.c_BadWidth "width" x H E) ∧ (∀ w, x = .int w → Wd w → isN w y = false → Rz M.c_BadNumber "number" y H E)

theorem bys_get {k j : Nat} {r : Int} (h : j < k) : (bys k r)[j]? = some (r / 256 ^ j % 256) := by
  unfold bys
  rw [List.getElem?_map, List.getElem?_range h]
  rfl
theorem bys_len (k : Nat) (r : Int) : (bys k r).length = k := by
  unfold bys
  rw [List.length_map, List.length_range]
theorem div_step (r : Int) (i : Nat) : r / 256 ^ i / 256 = r / 256 ^ (i + 1) := by
  rw [Int.ediv_ediv_of_nonneg (Int.le_of_lt (Int.pow_pos (by decide))), Int.pow_succ]
theorem isN_of {w : Int} {y : V} (h : isN w y = true) : ∃ n, y = .int n ∧ InR w n := by
  cases y <;> first | (cases h; done) | skip
  rename_i n
  refine ⟨n, rfl, ?_⟩
  unfold isN btw at h
  simp only [Bool.and_eq_true, decide_eq_true_eq] at h
  unfold InR
  omega
theorem w8 {w : Int} (h : Wd w) : (0 ≤ w / 8 ∧ w / 8 ≤ 4) := by
  rcases h with rfl | rfl | rfl <;> decide

theorem ok_bytes_of (M : TX K mg) : FnOk P w K mg base (L2.CX P w) 7 M.f_bytes_of M.d_bytes_of ["width", "number"] (sp_bytes_of M) := by
  have sc := sc_bytes_of
  refine M.F_bytes_of.okX sc (fun vs H Q E h => Sp2_len h) (fun cdv A outer s H vs Q E hr h => ?_)
  obtain ⟨x0, x1, rfl, h⟩ := h
  have hu := hu_of hr
  have hu64 := hr.units
  refine ⟨_, (pss_cons (ps_expr (pe_call (ok_check_width M) (hr.mono (by decide)) rfl M.g_check_width M.F_check_width.kp M.b_check_width .nil (passE rfl rfl rfl rfl) (pa_cons (pv 0) pa_nil)))
    (pss_cons (ps_expr (pe_call (ok_check_number M) (hr.mono (by decide)) rfl M.g_check_number M.F_check_number.kp M.b_check_number .nil (passE rfl rfl rfl rfl) (pa_cons (pv 0) (pa_cons (pv 1) pa_nil))))
    (pss_cons (ps_set (i := 2) sc.nd rfl (Or.inl rfl) (pe_op op_mod (pv 1) (pe_op op_mul pe_int (pe_call (ok_half M) (hr.mono (by decide)) rfl M.g_half M.F_half.kp M.b_half .nil (passE rfl rfl rfl rfl) (pa_cons (pv 0) pa_nil)))))
    (pss_cons (ps_set (i := 3) sc.nd rfl (Or.inl rfl) (pe_lst pa_nil))
    (pss_cons (ps_for (passes_of rfl) rfl (pi_range1 rfl M.n_range (pa_cons (pe_op op_fdiv (pv 0) pe_int) pa_nil)) (pg_name (i := 4) sc.nd rfl (Or.inl rfl))
      (pss_cons (ps_expr (pe_bmK K (pe_bm PySem.F.plainAttrs_list PySem.F.slot_list_append PySem.F.type_list_append mt_append (pv 3) (pa_cons (pe_op op_mod (pv 2) pe_int) pa_nil))))
      (pss_one (ps_set (i := 2) sc.nd rfl (Or.inl rfl) (pe_op op_fdiv (pv 2) pe_int)))))
    (pss_one (ps_ret (pe_callTy call_tuple_of (by rfl) M.n_tuple (by decide +kernel) (pa_cons (pv 3) pa_nil))))))))), ?_⟩

  obtain ⟨hx, hy, k, kw, kn⟩ := h
  refine ⟨_, rfl, _, rfl, hx, fun c => ?_, fun c => kw c⟩
  obtain ⟨w, rfl, hw⟩ := isW_of c
  refine ⟨_, rfl, _, rfl, _, _, rfl, w, rfl, hw, hy, fun c2 => ?_, fun c2 => kn w rfl hw c2⟩
  obtain ⟨n, rfl, hn⟩ := isN_of c2
  have hq := hf_pos hw
  have h8 := w8 hw
  refine ⟨_, rfl, _, rfl, _, rfl, Pl.int _, fun w' e hw' => ?_, fun c3 => by rw [isW_int hw] at c3; cases c3⟩
  cases e
  walk_at "rd"
  intro l hl
  walk_at "rd"
  refine for_range (lo := 0) (n := (w / 8).toNat) (fun i σ H2 => ∃ v, σ = [some (.int w), some (.int n), some (.int (n % (2 * hf w) / 256 ^ i)), some (.ref l), v] ∧ LBd l ((bys (w / 8).toNat (n % (2 * hf w))).map V.int) H i H2) ⟨none, ?_, LBd_0 hl⟩ ?_ ?_
  · rw [Int.pow_zero, Int.ediv_one]
    rfl
  · rintro i σ H2 hi ⟨v, rfl, B⟩
    have hB := B.1
    walk_at "rd"
    refine ⟨by rw [List.length_take, List.length_map, bys_len, sizeLine_eq]; omega, ?_⟩
    walk_at "rd"
    have z := LBd_p B hl (map_put (bys_get (r := n % (2 * hf w)) hi))
    refine ⟨some (.int (0 + i)), ?_, z⟩
    rw [← div_step]
    rfl
  · rintro σ H2 ⟨v, rfl, B⟩
    obtain ⟨hd, s2⟩ := LBd_n B (by rw [List.length_map, bys_len])
    walk_at "rd"
    refine ⟨_, _, rfl, .inl ⟨SqL.of hd, fun t ht => ?_⟩⟩
    exact k w n rfl rfl hw hn t _ upd_same (s2.trans (Same.put (Same.refl _) ht))

end
end K02
namespace K02
open PySem PySem.Spec PyProof.Rows L2 My
section
variable {P : Program} {w : World} {K : PySem.W.Frag} {mg : Str → Option Value} {base : Heap}
theorem ok__law_doubled (M : TX K mg) : FnOk P w K mg base (L2.CX P w) 1 M.f__law_doubled M.d__law_doubled ["_law_times"] (Sp1 fun x H Q _ => ∃ n : Nat, x = .int n ∧ n ≤ 63 ∧ Q (.int (2 ^ n)) H) := by
  have sc := sc__law_doubled
  refine M.F__law_doubled.okX sc (fun vs H Q E h => Sp1_len h) (fun cdv A outer s H vs Q E hr h => ?_)
  obtain ⟨x0, rfl, h⟩ := h
  have hu := hu_of hr
  have hu64 := hr.units
  refine ⟨_, (pss_cons (ps_set (i := 1) sc.nd rfl (Or.inl rfl) pe_int)
    (pss_cons (ps_for (passes_of rfl) rfl (pi_range1 rfl M.n_range (pa_cons (pv 0) pa_nil)) (pg_name (i := 2) sc.nd rfl (Or.inl rfl))
      (pss_one (ps_set (i := 1) sc.nd rfl (Or.inl rfl) (pe_op op_mul (pv 1) pe_int))))
    (pss_one (ps_ret (pv 1))))), ?_⟩

  obtain ⟨n, rfl, hn, q⟩ := h
  walk_at "rd"
  have en : (n : Int).toNat = n := by omega
  rw [en]
  refine for_range (lo := 0) (n := n) (fun i σ H2 => H2 = H ∧ ∃ v, σ = [some (.int n), some (.int (2 ^ i)), v]) ⟨rfl, none, rfl⟩ ?_ ?_
  · rintro i σ H2 hi ⟨rfl, v, rfl⟩
    walk_at "rd"
    refine ⟨some (.int (0 + i)), ?_⟩
    rw [Int.pow_succ]
    rfl
  · rintro σ H2 ⟨rfl, v, rfl⟩
    walk_at "rd"
    exact q


abbrev spLBytes : Sp := Sp2 fun x y H Q _ => ∃ w n, x = .int w ∧ y = .int n ∧ Wd w ∧ ∀ l H', H l = none → H' l = some (.lst ((bys (w / 8).toNat (n % (2 * hf w))).map V.int)) → Same H H' → Q (.ref l) H'

theorem ok__law_bytes (M : TX K mg) : FnOk P w K mg base (L2.CX P w) 2 M.f__law_bytes M.d__law_bytes ["_law_width", "_law_number"] (spLBytes) := by
  have sc := sc__law_bytes
  refine M.F__law_bytes.okX sc (fun vs H Q E h => Sp2_len h) (fun cdv A outer s H vs Q E hr h => ?_)
  obtain ⟨x0, x1, rfl, h⟩ := h
  have hu := hu_of hr
  have hu64 := hr.units
  refine ⟨_, (pss_cons (ps_set (i := 2) sc.nd rfl (Or.inl rfl) (pe_op op_mod (pe_callTy call_int1 (by rfl) M.n_int (by decide +kernel) (pa_cons (pv 1) pa_nil)) (pe_op op_mul pe_int (pe_call (ok__law_half M) (hr.mono (by decide)) rfl M.g__law_half M.F__law_half.kp M.b__law_half .nil (passE rfl rfl rfl rfl) (pa_cons (pv 0) pa_nil)))))
    (pss_cons (ps_set (i := 3) sc.nd rfl (Or.inl rfl) (pe_lst pa_nil))
    (pss_cons (ps_for (passes_of rfl) rfl (pi_range1 rfl M.n_range (pa_cons (pe_op op_fdiv (pv 0) pe_int) pa_nil)) (pg_name (i := 4) sc.nd rfl (Or.inl rfl))
      (pss_cons (ps_expr (pe_bmK K (pe_bm PySem.F.plainAttrs_list PySem.F.slot_list_append PySem.F.type_list_append mt_append (pv 3) (pa_cons (pe_op op_mod (pe_callTy call_int1 (by rfl) M.n_int (by decide +kernel) (pa_cons (pv 2) pa_nil)) pe_int) pa_nil))))
      (pss_one (ps_set (i := 2) sc.nd rfl (Or.inl rfl) (pe_op op_fdiv (pv 2) pe_int)))))
    (pss_one (ps_ret (pv 3)))))), ?_⟩

  obtain ⟨w, n, rfl, rfl, hw, k⟩ := h
  have hq := hf_pos hw
  have h8 := w8 hw
  walk_at "rd"
  intro H1 s1
  walk_at "rd"
  intro l hl
  have hl0 : H l = none := s1.free hl
  walk_at "rd"
  refine for_range (lo := 0) (n := (w / 8).toNat) (fun i σ H2 => ∃ v, σ = [some (.int w), some (.int n), some (.int (n % (2 * hf w) / 256 ^ i)), some (.ref l), v] ∧ LBd l ((bys (w / 8).toNat (n % (2 * hf w))).map V.int) H1 i H2) ⟨none, ?_, LBd_0 hl⟩ ?_ ?_
  · rw [Int.pow_zero, Int.ediv_one]
    rfl
  · rintro i σ H2 hi ⟨v, rfl, B⟩
    have hB := B.1
    walk_at "rd"
    refine ⟨by rw [List.length_take, List.length_map, bys_len, sizeLine_eq]; omega, ?_⟩
    walk_at "rd"
    have z := LBd_p B hl (map_put (bys_get (r := n % (2 * hf w)) hi))
    refine ⟨some (.int (0 + i)), ?_, z⟩
    rw [← div_step]
    rfl
  · rintro σ H2 ⟨v, rfl, B⟩
    obtain ⟨hd, s2⟩ := LBd_n B (by rw [List.length_map, bys_len])
    walk_at "rd"
    exact k l H2 hl0 hd (s1.trans s2)

end
end K02
namespace K02
open PySem PySem.Spec PyProof.Rows L2 My
section
variable {P : Program} {w : World} {K : PySem.W.Frag} {mg : Str → Option Value} {base : Heap}
theorem ok__law_same (M : TX K mg) : FnOk P w K mg base (L2.CX P w) 1 M.f__law_same M.d__law_same ["_law_told", "_law_due"] (spSame) := by
  have sc := sc__law_same
  refine M.F__law_same.okX sc (fun vs H Q E h => Sp2_len h) (fun cdv A outer s H vs Q E hr h => ?_)
  obtain ⟨x0, x1, rfl, h⟩ := h
  have hu := hu_of hr
  have hu64 := hr.units
  refine ⟨_, (pss_one (ps_ret (pe_and (pe_cmpR op_eq (pe_ix (ix_tupK K) (pv 0) pe_int (fun _ _ => rfl)) (pe_ix (ix_tupK K) (pv 1) pe_int (fun _ _ => rfl)) (nomark _)) (pe_and (pe_cmpR op_eq (pe_callB call_isBool (by rfl) M.n_isinstance (by decide +kernel) (pa_cons (pe_ix (ix_tupK K) (pv 0) pe_int (fun _ _ => rfl)) (pa_cons (pe_bltn (v := .ty "bool") (u := .type "bool") (by rfl) M.n_bool (by decide +kernel) rfl) pa_nil))) (pe_callB call_isBool (by rfl) M.n_isinstance (by decide +kernel) (pa_cons (pe_ix (ix_tupK K) (pv 1) pe_int (fun _ _ => rfl)) (pa_cons (pe_bltn (v := .ty "bool") (u := .type "bool") (by rfl) M.n_bool (by decide +kernel) rfl) pa_nil))) (nomark _)) (pe_one (pe_cmpR (op_eqDK K hu64) (pe_ix (ix_tupK K) (pv 0) pe_int (fun _ _ => rfl)) (pe_ix (ix_tupK K) (pv 1) pe_int (fun _ _ => rfl)) (nomark _))))))), ?_⟩

  obtain ⟨t, u, k, v, d, rfl, rfl, ht, hu', hd, q⟩ := h
  refine ⟨_, rfl, _, _, _, .str k, rfl, rfl, SqT.of ht, rfl, ?_⟩
  refine ⟨_, rfl, _, _, _, .str k, rfl, rfl, SqT.of hu', rfl, ?_⟩
  refine ⟨rfl, _, rfl, ?_⟩
  rw [decide_eq_true (rfl : V.str k = V.str k)]
  refine iteT ?_
  refine ⟨_, rfl, _, _, _, v, rfl, rfl, SqT.of ht, rfl, v, rfl, hd.pl, ?_⟩
  refine ⟨_, rfl, _, _, _, v, rfl, rfl, SqT.of hu', rfl, v, rfl, hd.pl, ?_⟩
  refine ⟨rfl, _, rfl, ?_⟩
  rw [decide_eq_true (rfl : V.bl (isB v) = V.bl (isB v))]
  refine iteT ?_
  refine ⟨_, rfl, _, _, _, v, rfl, rfl, SqT.of ht, rfl, ?_⟩
  refine ⟨_, rfl, _, _, _, v, rfl, rfl, SqT.of hu', rfl, ?_⟩
  refine ⟨d, d, hd.dp, hd.dp, hd.shp, hd.shp, ?_⟩
  rw [hd.refl]
  exact q


abbrev spIsTold : Sp := Sp2 fun x y H Q _ => ∃ (t : Addr) (n : Int), x = .ref t ∧ y = .int n ∧ H t = some (.tup [.str "told", .int n]) ∧ Q (.bl true) H

theorem ok__law_is_told (M : TX K mg) : FnOk P w K mg base (L2.CX P w) 2 M.f__law_is_told M.d__law_is_told ["_law_told", "_law_due"] (spIsTold) := by
  have sc := sc__law_is_told
  refine M.F__law_is_told.okX sc (fun vs H Q E h => Sp2_len h) (fun cdv A outer s H vs Q E hr h => ?_)
  obtain ⟨x0, x1, rfl, h⟩ := h
  have hu := hu_of hr
  have hu64 := hr.units
  refine ⟨_, (pss_one (ps_ret (pe_and (pe_cmpR op_eq (pe_ix (ix_tupK K) (pv 0) pe_int (fun _ _ => rfl)) pe_str (nomark _)) (pe_and (pe_call (ok__law_integer M) (hr.mono (by decide)) rfl M.g__law_integer M.F__law_integer.kp M.b__law_integer .nil (passE rfl rfl rfl rfl) (pa_cons (pe_ix (ix_tupK K) (pv 0) pe_int (fun _ _ => rfl)) pa_nil)) (pe_one (pe_cmpR op_eq (pe_ix (ix_tupK K) (pv 0) pe_int (fun _ _ => rfl)) (pv 1) (nomark _))))))), ?_⟩

  obtain ⟨t, n, rfl, rfl, ht, q⟩ := h
  refine ⟨_, rfl, _, _, _, .str "told", rfl, rfl, SqT.of ht, rfl, ?_⟩
  refine ⟨rfl, _, rfl, ?_⟩
  rw [decide_eq_true (rfl : V.str "told" = V.str "told")]
  refine iteT ?_
  refine ⟨_, rfl, _, _, _, .int n, rfl, rfl, SqT.of ht, rfl, ?_⟩
  refine ⟨_, rfl, Pl.int _, true, rfl, ?_⟩
  refine iteT ?_
  refine ⟨_, rfl, _, _, _, .int n, rfl, rfl, SqT.of ht, rfl, _, rfl, rfl, ?_⟩
  rw [decide_eq_true (rfl : V.int n = V.int n)]
  exact q

end
end K02
namespace K02
open PySem PySem.Spec PyProof.Rows L2 My
section
variable {P : Program} {w : World} {K : PySem.W.Frag} {mg : Str → Option Value} {base : Heap}

def vb (ns : List Int) : Int := ns.foldr (fun b v => v * 256 + b) 0
theorem vb_step {ns : List Int} {i : Nat} (h : i < ns.length) : ∃ b, ns[ns.length - 1 - i]? = some b ∧ vb (ns.drop (ns.length - (i + 1))) = vb (ns.drop (ns.length - i)) * 256 + b := by
  have e : ns.length - i = ns.length - (i + 1) + 1 := by omega
  have hl : ns.length - (i + 1) < ns.length := by omega
  refine ⟨ns[ns.length - (i + 1)], ?_, ?_⟩
  · rw [show ns.length - 1 - i = ns.length - (i + 1) by omega]
    exact List.getElem?_eq_getElem hl
  · rw [e, List.drop_eq_getElem_cons hl]
    rfl
abbrev spCell : Sp := Sp2 fun x y H Q _ => ∃ (p : Addr) (w : Int) (ns : List Int), x = .int w ∧ y = .ref p ∧ H p = some (.lst (ns.map V.int)) ∧ Wd w ∧ ns.length ≤ 1000 ∧ ∀ H', Same H H' → Q (.int (wrapI w (vb ns))) H'

theorem ok__law_cell (M : TX K mg) : FnOk P w K mg base (L2.CX P w) 3 M.f__law_cell M.d__law_cell ["_law_width", "_law_row"] (spCell) := by
  have sc := sc__law_cell
  refine M.F__law_cell.okX sc (fun vs H Q E h => Sp2_len h) (fun cdv A outer s H vs Q E hr h => ?_)
  obtain ⟨x0, x1, rfl, h⟩ := h
  have hu := hu_of hr
  have hu64 := hr.units
  refine ⟨_, (pss_cons (ps_set (i := 2) sc.nd rfl (Or.inl rfl) pe_int)
    (pss_cons (ps_for (passes_of rfl) rfl (pi_range1 rfl M.n_range (pa_cons (pe_callB (call_lenK K) (by rfl) M.n_len PySem.boot_len (pa_cons (pv 1) pa_nil)) pa_nil)) (pg_name (i := 3) sc.nd rfl (Or.inl rfl))
      (pss_one (ps_set (i := 2) sc.nd rfl (Or.inl rfl) (pe_op op_add (pe_op op_mul (pv 2) pe_int) (pe_ix (ix_listK K) (pv 1) (pe_op op_sub (pe_op op_sub (pe_callB (call_lenK K) (by rfl) M.n_len PySem.boot_len (pa_cons (pv 1) pa_nil)) pe_int) (pv 3)) (fun _ _ => rfl))))))
    (pss_one (ps_ret (pe_call (ok__law_wrap M) (hr.mono (by decide)) rfl M.g__law_wrap M.F__law_wrap.kp M.b__law_wrap .nil (passE rfl rfl rfl rfl) (pa_cons (pv 0) (pa_cons (pv 2) pa_nil))))))), ?_⟩

  obtain ⟨p, w, ns, rfl, rfl, hp, hw, hl, q⟩ := h
  have hlen : (ns.map V.int).length = ns.length := List.length_map ..
  walk_at "rd"
  rw [Int.toNat_natCast, hlen]
  refine for_range (lo := 0) (n := ns.length) (fun i σ H2 => H2 = H ∧ ∃ v, σ = [some (.int w), some (.ref p), some (.int (vb (ns.drop (ns.length - i)))), v]) ⟨rfl, none, ?_⟩ ?_ ?_
  · rw [Nat.sub_zero, List.drop_length]
    rfl
  · rintro i σ H2 hi ⟨rfl, v, rfl⟩
    obtain ⟨b, hb, eb⟩ := vb_step hi
    refine ⟨_, rfl, _, _, rfl, rfl, .inr (by decide), _, rfl, _, rfl, ?_⟩
    walk_at "rd"
    refine ⟨_, _, _, .int b, rfl, rfl, SqL.of hp, at_of (j := ns.length - 1 - i) (by omega) (map_put hb), ?_⟩
    refine ⟨_, _, rfl, rfl, ?_⟩
    refine ⟨rfl, some (.int (0 + i)), ?_⟩
    rw [eb]
    rfl
  · rintro σ H2 ⟨rfl, v, rfl⟩
    rw [Nat.sub_self, List.drop_zero]
    refine ⟨_, rfl, _, rfl, _, _, rfl, w, vb ns, rfl, rfl, hw, fun H' s' => q H' s'⟩

end
end K02
namespace K02
open PySem PySem.Spec PyProof.Rows L2 My
section
variable {P : Program} {w : World} {K : PySem.W.Frag} {mg : Str → Option Value} {base : Heap}

abbrev spIsRow : Sp := Sp2 fun x y H Q _ => ∃ (t u l : Addr) (ns : List Int), x = .ref t ∧ y = .ref l ∧ H t = some (.tup [.str "told", .ref u]) ∧ H u = some (.tup (ns.map V.int)) ∧ H l = some (.lst (ns.map V.int)) ∧ ns.length ≤ 1000 ∧ Q (.bl true) H

theorem ok__law_is_row (M : TX K mg) : FnOk P w K mg base (L2.CX P w) 2 M.f__law_is_row M.d__law_is_row ["_law_told", "_law_due"] (spIsRow) := by
  have sc := sc__law_is_row
  refine M.F__law_is_row.okX sc (fun vs H Q E h => Sp2_len h) (fun cdv A outer s H vs Q E hr h => ?_)
  obtain ⟨x0, x1, rfl, h⟩ := h
  have hu := hu_of hr
  have hu64 := hr.units
  refine ⟨_, (pss_cons (ps_if (PW.pt (pw_or (pt_cmpR op_ne (pe_ix (ix_tupK K) (pv 0) pe_int (fun _ _ => rfl)) pe_str (nomark _)) (pw_or (pt_not (pt_val (pe_callB call_isTup (by rfl) M.n_isinstance (by decide +kernel) (pa_cons (pe_ix (ix_tupK K) (pv 0) pe_int (fun _ _ => rfl)) (pa_cons (pe_bltn (v := .ty "tuple") (u := .type "tuple") (by rfl) M.n_tuple (by decide +kernel) rfl) pa_nil))))) (pw_or1 (pt_cmpR op_ne (pe_callB (call_lenK K) (by rfl) M.n_len PySem.boot_len (pa_cons (pe_ix (ix_tupK K) (pv 0) pe_int (fun _ _ => rfl)) pa_nil)) (pe_callB (call_lenK K) (by rfl) M.n_len PySem.boot_len (pa_cons (pv 1) pa_nil)) (nomark _))))))
      (pss_one (ps_ret pe_bl))
      pss_nil)
    (pss_cons (ps_for (passes_of rfl) rfl (pi_range1 rfl M.n_range (pa_cons (pe_callB (call_lenK K) (by rfl) M.n_len PySem.boot_len (pa_cons (pv 1) pa_nil)) pa_nil)) (pg_name (i := 2) sc.nd rfl (Or.inl rfl))
      (pss_one (ps_if (PW.pt (pw_or (pt_not (pt_val (pe_call (ok__law_integer M) (hr.mono (by decide)) rfl M.g__law_integer M.F__law_integer.kp M.b__law_integer .nil (passE rfl rfl rfl rfl) (pa_cons (pe_ix (ix_tupK K) (pe_ix (ix_tupK K) (pv 0) pe_int (fun _ _ => rfl)) (pv 2) (fun _ _ => rfl)) pa_nil)))) (pw_or1 (pt_cmpR op_ne (pe_ix (ix_tupK K) (pe_ix (ix_tupK K) (pv 0) pe_int (fun _ _ => rfl)) (pv 2) (fun _ _ => rfl)) (pe_ix (ix_listK K) (pv 1) (pv 2) (fun _ _ => rfl)) (nomark _)))))
        (pss_one (ps_ret pe_bl))
        pss_nil)))
    (pss_one (ps_ret pe_bl)))), ?_⟩

  obtain ⟨t, u, l, ns, rfl, rfl, ht, hu', hl, hn, q⟩ := h
  have hlen : (ns.map V.int).length = ns.length := List.length_map ..
  refine ⟨_, rfl, _, _, _, .str "told", rfl, rfl, SqT.of ht, rfl, ?_⟩
  refine ⟨rfl, _, rfl, ?_⟩
  rw [decide_eq_true (rfl : V.str "told" = V.str "told")]
  refine iteF ?_
  refine ⟨_, rfl, _, _, _, .ref u, rfl, rfl, SqT.of ht, rfl, _, _, rfl, hu', true, rfl, ?_⟩
  refine iteF ?_
  refine ⟨_, rfl, _, _, _, .ref u, rfl, rfl, SqT.of ht, rfl, _, _, rfl, .inr (SqT.of hu'), _, rfl, _, _, rfl, .inl (SqL.of hl), rfl, _, rfl, ?_⟩
  rw [decide_eq_true (rfl : V.int (ns.map V.int).length = V.int (ns.map V.int).length)]
  refine iteF ?_
  refine ⟨_, rfl, _, _, rfl, .inl (SqL.of hl), _, rfl, by rw [hlen]; omega, by rw [hlen]; omega, ?_⟩
  rw [Int.toNat_natCast, hlen]
  refine for_range (lo := 0) (n := ns.length) (fun i σ H2 => H2 = H ∧ ∃ v, σ = [some (.ref t), some (.ref l), v]) ⟨rfl, none, rfl⟩ ?_ ?_
  · rintro i σ H2 hi ⟨rfl, v, rfl⟩
    have hg : ns[i]? = some ns[i] := List.getElem?_eq_getElem hi
    refine ⟨_, rfl, _, _, _, .ref u, rfl, rfl, SqT.of ht, rfl, _, rfl, _, _, _, .int ns[i], rfl, rfl, SqT.of hu', at_of (j := i) (by omega) (map_put hg), ?_⟩
    refine ⟨_, rfl, Pl.int _, true, rfl, ?_⟩
    refine iteF ?_
    refine ⟨_, rfl, _, _, _, .ref u, rfl, rfl, SqT.of ht, rfl, _, rfl, _, _, _, .int ns[i], rfl, rfl, SqT.of hu', at_of (j := i) (by omega) (map_put hg), ?_⟩
    refine ⟨_, rfl, _, rfl, _, _, _, .int ns[i], rfl, rfl, SqL.of hl, at_of (j := i) (by omega) (map_put hg), rfl, _, rfl, ?_⟩
    rw [decide_eq_true (rfl : V.int ns[i] = V.int ns[i])]
    refine iteF ?_
    exact ⟨rfl, _, rfl⟩
  · rintro σ H2 ⟨rfl, v, rfl⟩
    exact q

end
end K02
namespace K02
open PySem PySem.Spec PyProof.Rows L2 My
section
variable {P : Program} {w : World} {K : PySem.W.Frag} {mg : Str → Option Value} {base : Heap}

theorem bag_app {H : Hp} {b l : Addr} {ns : List Int} {z : Int} (B : BagAt H b) (h : H l = some (.lst (ns.map V.int))) (nl : l ≠ b) (hn : ns.length < 63) : BagAt (upd H l (.lst ((ns ++ [z]).map V.int))) b := by
  obtain ⟨c, ms, a, r, s, n, h1, h2, h3, h4⟩ := B.ex
  by_cases e : c = l
  · subst e
    exact ⟨⟨c, ns ++ [z], a, r, s, n, by rw [upd_ne nl.symm]; exact h1, upd_same, h3, by rw [List.length_append]; exact hn⟩⟩
  · exact ⟨⟨c, ms, a, r, s, n, by rw [upd_ne nl.symm]; exact h1, by rw [upd_ne e]; exact h2, h3, h4⟩⟩
abbrev spDrawnRow : Sp := Sp2 fun x y H Q _ => ∃ (b : Addr) (w : Int), x = .ref b ∧ y = .int w ∧ Wd w ∧ BagAt H b ∧ ∀ (l : Addr) (ns : List Int) (H' : Hp), ns.length = (w / 8).toNat → (∀ n ∈ ns, 0 ≤ n ∧ n < 256) → H' l = some (.lst (ns.map V.int)) → l ≠ b → H l = none → BagAt H' b → Kp b H H' → Q (.ref l) H'

theorem ok__law_drawn_row (M : TX K mg) : FnOk P w K mg base (L2.CX P w) 3 M.f__law_drawn_row M.d__law_drawn_row ["_law_bag_here", "_law_width"] (spDrawnRow) := by
  have sc := sc__law_drawn_row
  refine M.F__law_drawn_row.okX sc (fun vs H Q E h => Sp2_len h) (fun cdv A outer s H vs Q E hr h => ?_)
  obtain ⟨x0, x1, rfl, h⟩ := h
  have hu := hu_of hr
  have hu64 := hr.units
  refine ⟨_, (pss_cons (ps_set (i := 2) sc.nd rfl (Or.inl rfl) (pe_lst pa_nil))
    (pss_cons (ps_for (passes_of rfl) rfl (pi_range1 rfl M.n_range (pa_cons (pe_op op_fdiv (pv 1) pe_int) pa_nil)) (pg_name (i := 3) sc.nd rfl (Or.inl rfl))
      (pss_one (ps_expr (pe_bmK K (pe_bm PySem.F.plainAttrs_list PySem.F.slot_list_append PySem.F.type_list_append mt_append (pv 2) (pa_cons (pe_call (ok__law_choice M) (hr.mono (by decide)) rfl M.g__law_choice M.F__law_choice.kp M.b__law_choice .nil (passE rfl rfl rfl rfl) (pa_cons (pv 0) (pa_cons (pe_lst (pa_cons pe_int (pa_cons pe_int (pa_cons pe_int (pa_cons pe_int (pa_cons (pe_call (ok__law_pick M) (hr.mono (by decide)) rfl M.g__law_pick M.F__law_pick.kp M.b__law_pick .nil (passE rfl rfl rfl rfl) (pa_cons (pv 0) (pa_cons pe_int pa_nil))) (pa_cons (pe_call (ok__law_pick M) (hr.mono (by decide)) rfl M.g__law_pick M.F__law_pick.kp M.b__law_pick .nil (passE rfl rfl rfl rfl) (pa_cons (pv 0) (pa_cons pe_int pa_nil))) pa_nil))))))) pa_nil))) pa_nil))))))
    (pss_one (ps_ret (pv 2))))), ?_⟩

  obtain ⟨b, w, rfl, rfl, hw, B, q⟩ := h
  have h8 := w8 hw
  obtain ⟨ob, hob⟩ := B.some
  walk_at "rd"
  intro l hl
  walk_at "rd"
  have nlb : l ≠ b := (ne_of_none hob hl).symm
  refine for_range (lo := 0) (n := (w / 8).toNat) (fun i σ H2 => ∃ (v : Option V) (ns : List Int), σ = [some (.ref b), some (.int w), some (.ref l), v] ∧ ns.length = i ∧ (∀ n ∈ ns, 0 ≤ n ∧ n < 256) ∧ H2 l = some (.lst (ns.map V.int)) ∧ BagAt H2 b ∧ Kp b H H2) ⟨none, [], rfl, rfl, fun n hn => (by cases hn), upd_same, B.put hl, fun p o _ e => Same.put (Same.refl H) hl p o e⟩ ?_ ?_
  · rintro i σ H2 hi ⟨v, ns, rfl, en, hb, hr2, B2, k2⟩
    refine ⟨_, rfl, Or.inl ⟨rfl, _, Or.inl (Or.inl hr2)⟩, ?_⟩
    walk_at "rd"
    intro v1 H3 p1 p1' B3 k3
    walk_at "rd"
    intro v2 H4 p2 p2' B4 k4
    refine ⟨Nat.le_of_ble_eq_true rfl, fun t ht => ?_⟩
    obtain ⟨ob4, hob4⟩ := B4.some
    have hr4 : H4 l = some (.lst (ns.map V.int)) := k4 _ _ nlb (k3 _ _ nlb hr2)
    have sT : Same H4 (upd H4 t (.lst [V.int 0, V.int 255, V.int 128, V.int 127, V.int v1, V.int v2])) := Same.put (Same.refl _) ht
    refine ⟨_, _, rfl, b, t, [V.int 0, V.int 255, V.int 128, V.int 127, V.int v1, V.int v2], rfl, rfl, upd_same, Nat.le_of_ble_eq_true rfl, Nat.le_of_ble_eq_true rfl, (ne_of_none hob4 ht).symm, B4.put ht, fun j v5 H5 hj B5 k5 => ?_⟩
    obtain ⟨z, rfl, hz⟩ : ∃ z : Int, v5 = V.int z ∧ 0 ≤ z ∧ z < 256 := by
      have m := List.mem_of_getElem? hj
      simp only [List.mem_cons, List.not_mem_nil, or_false] at m
      rcases m with rfl | rfl | rfl | rfl | rfl | rfl
      · exact ⟨_, rfl, by omega⟩
      · exact ⟨_, rfl, by omega⟩
      · exact ⟨_, rfl, by omega⟩
      · exact ⟨_, rfl, by omega⟩
      · exact ⟨_, rfl, p1, p1'⟩
      · exact ⟨_, rfl, p2, p2'⟩
    have hr5 := k5 _ _ nlb (sT _ _ hr4)
    have hsz : (ns.map V.int).length < sizeLine := by rw [List.length_map, sizeLine_eq]; omega
    refine ⟨l, ns.map V.int, .int z, rfl, rfl, hr5, hsz, ?_⟩
    have e1 : ns.map V.int ++ [V.int z] = (ns ++ [z]).map V.int := by rw [List.map_append]; rfl
    rw [e1]
    refine ⟨some (.int (0 + i)), ns ++ [z], rfl, by rw [List.length_append, en]; rfl, fun n hn => ?_, upd_same, bag_app B5 hr5 nlb (by omega), fun p o hp ho => ?_⟩
    · rcases List.mem_append.mp hn with hn | hn
      · exact hb n hn
      · rw [List.mem_singleton.mp hn]
        exact hz
    · rw [upd_ne (ne_of_none ho hl)]
      exact k5 _ _ hp (sT _ _ (k4 _ _ hp (k3 _ _ hp (k2 _ _ hp ho))))
  · rintro σ H2 ⟨v, ns, rfl, en, hb, hr2, B2, k2⟩
    walk_at "rd"
    exact q l ns H2 en hb hr2 nlb hl B2 k2

end
end K02
namespace K02
open PySem PySem.Spec PyProof.Rows L2 My
section
variable {P : Program} {w : World} {K : PySem.W.Frag} {mg : Str → Option Value} {base : Heap}

abbrev sp_number_of (M : TX K mg) : Sp := Sp2 fun x y H Q E => ∃ (p : Addr) (xs : List V), y = .ref p ∧ (H p = some (.lst xs) ∨ H p = some (.tup xs)) ∧ xs.length ≤ 1000 ∧ Pl H x ∧ (∀ v ∈ xs, Pl H v) ∧
  (isW x = false → Rz M.c_BadWidth "width" x H E) ∧
  (∀ w, x = .int w → Wd w → ((xs.length : Int) ≠ w / 8 → Rz M.c_BadByte "byte" .non H E) ∧
     ((xs.length : Int) = w / 8 → (∀ (i : Nat) (v : V), xs[i]? = some v → btw v 0 255 = false → (∀ (j : Nat) (u : V), j < i → xs[j]? = some u → btw u 0 255 = true) → Rz M.c_BadByte "byte" v H E) ∧
       (∀ ns : List Int, xs = ns.map V.int → (∀ v ∈ xs, btw v 0 255 = true) → ∀ H', Same H H' → Q (.int (wrapI w (vb ns))) H')))
theorem iteNB {c : Bool} {A B : Prop} (h1 : c = true → B) (h2 : c = false → A) : if (!c) = true then A else B := by
  cases c
  · exact iteT (h2 rfl)
  · exact iteF (h1 rfl)
theorem bytes_of_all {xs : List V} (h : ∀ (j : Nat) (u : V), j < xs.length → xs[j]? = some u → btw u 0 255 = true) : ∃ ns : List Int, xs = ns.map V.int := by
  induction xs with
  | nil => exact ⟨[], rfl⟩
  | cons a r ih =>
    obtain ⟨ns, e⟩ := ih (fun j u hj hu => h (j + 1) u (Nat.succ_lt_succ hj) hu)
    have ha := h 0 a (Nat.succ_pos _) rfl
    cases a <;> first | (cases ha; done) | skip
    rename_i n
    exact ⟨n :: ns, by rw [e]; rfl⟩
theorem rev_get {ns : List Int} {i : Nat} {y : V} (h : (ns.map V.int).reverse[i]? = some y) : i < ns.length ∧ ∃ b, ns[ns.length - 1 - i]? = some b ∧ y = .int b := by
  have hi : i < ns.length := by
    have := (List.getElem?_eq_some_iff.mp h).1
    rwa [List.length_reverse, List.length_map] at this
  rw [List.getElem?_reverse (by rw [List.length_map]; exact hi), List.length_map] at h
  obtain ⟨b, hb, e⟩ := map_get h
  exact ⟨hi, b, hb, e⟩

theorem ok_number_of (M : TX K mg) : FnOk P w K mg base (L2.CX P w) 6 M.f_number_of M.d_number_of ["width", "row"] (sp_number_of M) := by
  have sc := sc_number_of
  refine M.F_number_of.okX sc (fun vs H Q E h => Sp2_len h) (fun cdv A outer s H vs Q E hr h => ?_)
  obtain ⟨x0, x1, rfl, h⟩ := h
  have hu := hu_of hr
  have hu64 := hr.units
  refine ⟨_, (pss_cons (ps_expr (pe_call (ok_check_width M) (hr.mono (by decide)) rfl M.g_check_width M.F_check_width.kp M.b_check_width .nil (passE rfl rfl rfl rfl) (pa_cons (pv 0) pa_nil)))
    (pss_cons (ps_if (pt_cmpR op_ne (pe_callB (call_lenK K) (by rfl) M.n_len PySem.boot_len (pa_cons (pv 1) pa_nil)) (pe_op op_fdiv (pv 0) pe_int) (nomark _))
      (pss_one (ps_rz rfl (takes_of rfl rfl rfl rfl) M.o_BadByte M.F_BadByte___init__.1 M.F_BadByte___init__.2.1 (ok_BadByte___init__ M) (hr.mono (by decide)) M.b_BadByte___init__ rfl M.g_BadByte (pa_cons pe_non pa_nil)))
      pss_nil)
    (pss_cons (ps_for (passes_of rfl) rfl (pi_ei (pi_listK K (pi_list (pv 1))) (pi_tupK K (pi_tup (pv 1)))) (pg_name (i := 2) sc.nd rfl (Or.inl rfl))
      (pss_one (ps_if (pt_not (pt_val (pe_call (ok_is_byte M) (hr.mono (by decide)) rfl M.g_is_byte M.F_is_byte.kp M.b_is_byte .nil (passE rfl rfl rfl rfl) (pa_cons (pv 2) pa_nil))))
        (pss_one (ps_rz rfl (takes_of rfl rfl rfl rfl) M.o_BadByte M.F_BadByte___init__.1 M.F_BadByte___init__.2.1 (ok_BadByte___init__ M) (hr.mono (by decide)) M.b_BadByte___init__ rfl M.g_BadByte (pa_cons (pv 2) pa_nil)))
        pss_nil)))
    (pss_cons (ps_set (i := 3) sc.nd rfl (Or.inl rfl) pe_int)
    (pss_cons (ps_for (passes_of rfl) rfl (pi_ei (pi_listK K (pi_list (pe_revLK K (pv 1)))) (pi_tupK K (pi_tup (pe_revTK K (pv 1))))) (pg_name (i := 2) sc.nd rfl (Or.inl rfl))
      (pss_one (ps_set (i := 3) sc.nd rfl (Or.inl rfl) (pe_op op_add (pe_op op_mul (pv 3) pe_int) (pv 2)))))
    (pss_one (ps_ret (pe_call (ok_wrap M) (hr.mono (by decide)) rfl M.g_wrap M.F_wrap.kp M.b_wrap .nil (passE rfl rfl rfl rfl) (pa_cons (pv 0) (pa_cons (pv 3) pa_nil)))))))))), ?_⟩

  obtain ⟨p, xs, rfl, hp, hl, hx, hpl, kw, kk⟩ := h
  refine ⟨_, rfl, _, rfl, hx, fun c => ?_, fun c => kw c⟩
  obtain ⟨w, rfl, hw⟩ := isW_of c
  obtain ⟨k1, k2⟩ := kk w rfl hw
  have hq := hf_pos hw
  rcases hp with hp | hp
  · refine ⟨_, rfl, _, _, rfl, .inl (SqL.of hp), _, rfl, ?_⟩
    walk_at "rd"
    refine iteND (fun c2 => ?_) (fun c2 => ?_)
    · have c3 : (xs.length : Int) ≠ w / 8 := fun z => c2 (by rw [z])
      walk_at "rd"
      exact k1 c3
    have c3 : (xs.length : Int) = w / 8 := V.int.inj c2
    obtain ⟨k3, k4⟩ := k2 c3
    refine Or.inl ⟨_, rfl, _, rfl, ⟨_, SqL.of hp⟩, ?_⟩
    refine for_list (K := K) (a := p) (xs := xs) (fun i σ H2 => H2 = H ∧ ∃ v, σ = [some (.int w), some (.ref p), v, none] ∧ ∀ (j : Nat) (y : V), j < i → xs[j]? = some y → btw y 0 255 = true) ⟨rfl, none, rfl, fun j y hj => absurd hj (Nat.not_lt_zero j)⟩ (fun i σ H2 _ ⟨e, _⟩ => by rw [e]; exact SqL.of hp) ?_ ?_
    · rintro i y σ H2 hi ⟨rfl, v, rfl, hall⟩
      have hy' : Pl H2 y := hpl y (List.mem_of_getElem? hi)
      refine ⟨_, rfl, _, rfl, hy', _, rfl, ?_⟩
      refine iteNB (fun c5 => ?_) (fun c5 => ?_)
      · exact ⟨rfl, _, rfl, fun j z hj hz => by
          by_cases e : j = i
          · rw [e, hi] at hz
            rw [← Option.some.inj hz]; exact c5
          · exact hall j z (by omega) hz⟩
      · walk_at "rd"
        exact k3 i y hi c5 hall
    · rintro σ H2 ⟨rfl, v, rfl, hall⟩
      obtain ⟨ns, rfl⟩ := bytes_of_all (fun j u _ hu => hall j u (List.getElem?_eq_some_iff.mp hu).1 hu)
      have hal : ∀ v ∈ ns.map V.int, btw v 0 255 = true := fun u hu => by
        obtain ⟨j, hj⟩ := List.mem_iff_getElem?.mp hu
        exact hall j u (List.getElem?_eq_some_iff.mp hj).1 hj
      refine Or.inl ⟨_, rfl, p, ns.map V.int, rfl, SqL.of hp, fun r hr => ?_⟩
      refine ⟨_, rfl, ⟨_, SqL.of upd_same⟩, ?_⟩
      have sR := Same.put (o := .lst (ns.map V.int).reverse) (Same.refl H2) hr
      refine for_list (K := K) (a := r) (xs := (ns.map V.int).reverse) (fun i σ H3 => H3 = upd H2 r (.lst (ns.map V.int).reverse) ∧ ∃ v, σ = [some (.int w), some (.ref p), v, some (.int (vb (ns.drop (ns.length - i))))]) ⟨rfl, v, ?_⟩ (fun i σ H3 _ ⟨e, _⟩ => by rw [e]; exact SqL.of upd_same) ?_ ?_
      · rw [Nat.sub_zero, List.drop_length]
        rfl
      · rintro i y σ H3 hi ⟨rfl, v, rfl⟩
        obtain ⟨hlt, b, hb, rfl⟩ := rev_get hi
        obtain ⟨b', hb', eb⟩ := vb_step hlt
        rw [hb] at hb'
        cases hb'
        walk_at "rd"
        refine ⟨some (.int b), ?_⟩
        rw [eb]
        rfl
      · rintro σ H3 ⟨rfl, v, rfl⟩
        rw [List.length_reverse, List.length_map, Nat.sub_self, List.drop_zero]
        walk_at "rd"
        exact ⟨fun w' e hw' => by cases e; exact k4 ns rfl hal _ sR, fun c3 => by rw [isW_int hw] at c3; cases c3⟩
  · refine ⟨_, rfl, _, _, rfl, .inr (SqT.of hp), _, rfl, ?_⟩
    walk_at "rd"
    refine iteND (fun c2 => ?_) (fun c2 => ?_)
    · have c3 : (xs.length : Int) ≠ w / 8 := fun z => c2 (by rw [z])
      walk_at "rd"
      exact k1 c3
    have c3 : (xs.length : Int) = w / 8 := V.int.inj c2
    obtain ⟨k3, k4⟩ := k2 c3
    refine Or.inr ⟨_, rfl, _, rfl, ⟨_, SqT.of hp⟩, ?_⟩
    refine for_tup (K := K) (a := p) (xs := xs) (fun i σ H2 => H2 = H ∧ ∃ v, σ = [some (.int w), some (.ref p), v, none] ∧ ∀ (j : Nat) (y : V), j < i → xs[j]? = some y → btw y 0 255 = true) ⟨rfl, none, rfl, fun j y hj => absurd hj (Nat.not_lt_zero j)⟩ (fun i σ H2 _ ⟨e, _⟩ => by rw [e]; exact SqT.of hp) ?_ ?_
    · rintro i y σ H2 hi ⟨rfl, v, rfl, hall⟩
      have hy' : Pl H2 y := hpl y (List.mem_of_getElem? hi)
      refine ⟨_, rfl, _, rfl, hy', _, rfl, ?_⟩
      refine iteNB (fun c5 => ?_) (fun c5 => ?_)
      · exact ⟨rfl, _, rfl, fun j z hj hz => by
          by_cases e : j = i
          · rw [e, hi] at hz
            rw [← Option.some.inj hz]; exact c5
          · exact hall j z (by omega) hz⟩
      · walk_at "rd"
        exact k3 i y hi c5 hall
    · rintro σ H2 ⟨rfl, v, rfl, hall⟩
      obtain ⟨ns, rfl⟩ := bytes_of_all (fun j u _ hu => hall j u (List.getElem?_eq_some_iff.mp hu).1 hu)
      have hal : ∀ v ∈ ns.map V.int, btw v 0 255 = true := fun u hu => by
        obtain ⟨j, hj⟩ := List.mem_iff_getElem?.mp hu
        exact hall j u (List.getElem?_eq_some_iff.mp hj).1 hj
      refine Or.inr ⟨_, rfl, p, ns.map V.int, rfl, SqT.of hp, fun r hr => ?_⟩
      refine ⟨_, rfl, ⟨_, SqT.of upd_same⟩, ?_⟩
      have sR := Same.put (o := .tup (ns.map V.int).reverse) (Same.refl H2) hr
      refine for_tup (K := K) (a := r) (xs := (ns.map V.int).reverse) (fun i σ H3 => H3 = upd H2 r (.tup (ns.map V.int).reverse) ∧ ∃ v, σ = [some (.int w), some (.ref p), v, some (.int (vb (ns.drop (ns.length - i))))]) ⟨rfl, v, ?_⟩ (fun i σ H3 _ ⟨e, _⟩ => by rw [e]; exact SqT.of upd_same) ?_ ?_
      · rw [Nat.sub_zero, List.drop_length]
        rfl
      · rintro i y σ H3 hi ⟨rfl, v, rfl⟩
        obtain ⟨hlt, b, hb, rfl⟩ := rev_get hi
        obtain ⟨b', hb', eb⟩ := vb_step hlt
        rw [hb] at hb'
        cases hb'
        walk_at "rd"
        refine ⟨some (.int b), ?_⟩
        rw [eb]
        rfl
      · rintro σ H3 ⟨rfl, v, rfl⟩
        rw [List.length_reverse, List.length_map, Nat.sub_self, List.drop_zero]
        walk_at "rd"
        exact ⟨fun w' e hw' => by cases e; exact k4 ns rfl hal _ sR, fun c3 => by rw [isW_int hw] at c3; cases c3⟩

end
end K02
namespace K02
open PySem PySem.Spec PyProof.Rows L2 My
section
variable {P : Program} {w : World} {K : PySem.W.Frag} {mg : Str → Option Value} {base : Heap}

theorem len5 : ∀ {σ : L2.St}, σ.length = 5 → ∃ a b c d e, σ = [a, b, c, d, e]
  | [a, b, c, d, e], _ => ⟨a, b, c, d, e, rfl⟩
  | [], h => by cases h
  | [_], h => by cases h
  | [_, _], h => by cases h
  | [_, _, _], h => by cases h
  | [_, _, _, _], h => by cases h
  | _ :: _ :: _ :: _ :: _ :: _ :: _, h => by simp at h
def rHalf (R : Str → V → Hp → Prop) (y : V) : Prop := ∀ w, y = .int w → Wd w → ∀ H1, R "told" (.int (hf w)) H1
def rWrap (R : Str → V → Hp → Prop) (y z : V) : Prop := ∃ n, z = .int n ∧ ∀ w, y = .int w → Wd w → ∀ H1, R "told" (.int (wrapI w n)) H1
def rIs (R : Str → V → Hp → Prop) (y z : V) (H : Hp) : Prop := Pl H z ∧ ∀ w, y = .int w → Wd w → ∀ H1, R "told" (.bl (isN w z)) H1
def rByt (R : Str → V → Hp → Prop) (y z : V) (H : Hp) : Prop := Pl H z ∧ ∀ w, y = .int w → Wd w → (isN w z = false → ∀ H1, R "BadNumber" z H1) ∧ ∀ n, z = .int n → InR w n → ∀ u H1, H1 u = some (.tup ((bys (w / 8).toNat (n % (2 * hf w))).map V.int)) → R "told" (.ref u) H1
def rBck (R : Str → V → Hp → Prop) (y z : V) (H : Hp) : Prop := ∃ p xs, z = .ref p ∧ (H p = some (.lst xs) ∨ H p = some (.tup xs)) ∧ xs.length ≤ 1000 ∧ (∀ v ∈ xs, Pl H v) ∧ ∀ w, y = .int w → Wd w → ((xs.length : Int) ≠ w / 8 → ∀ H1, R "BadByte" .non H1) ∧
  ((xs.length : Int) = w / 8 → (∀ (i : Nat) (v : V), xs[i]? = some v → btw v 0 255 = false → (∀ (j : Nat) (u : V), j < i → xs[j]? = some u → btw u 0 255 = true) → ∀ H1, R "BadByte" v H1) ∧ ∀ ns : List Int, xs = ns.map V.int → (∀ v ∈ xs, btw v 0 255 = true) → ∀ H1, R "told" (.int (wrapI w (vb ns))) H1)
def askB (x y z : V) (H : Hp) (Q : VK) : Prop := ∃ (kw : Str) (R : Str → V → Hp → Prop), x = .str kw ∧ Pl H y ∧ (∀ name v t H', R name v H' → H' t = some (.tup [.str name, v]) → Same H H' → Q (.ref t) H') ∧ (isW y = false → ∀ H1, R "BadWidth" y H1) ∧
  ((kw = "half" ∧ rHalf R y) ∨ (kw = "wrap" ∧ rWrap R y z) ∨ (kw = "is" ∧ rIs R y z H) ∨ (kw = "bytes" ∧ rByt R y z H) ∨ (kw = "back" ∧ rBck R y z H))
abbrev spAsked : Sp := Sp3 fun x y z H Q _ => askB x y z H Q

theorem ok__law_asked (M : TX K mg) : FnOk P w K mg base (L2.CX P w) 8 M.f__law_asked M.d__law_asked ["_law_word", "_law_width", "_law_thing"] (spAsked) := by
  have sc := sc__law_asked
  refine M.F__law_asked.okX sc (fun vs H Q E h => Sp3_len h) (fun cdv A outer s H vs Q E hr h => ?_)
  obtain ⟨x0, x1, x2, rfl, h⟩ := h
  have hu := hu_of hr
  have hu64 := hr.units
  refine ⟨_, (pss_one (ps_try_as (i := 3) (tb := fun W => (tSeq (tIfS (tTest (tOp rEq (tVar 0) (tC (.str "half")))) (tRet (tTup (tCons (tC (.str "told")) (tCons (tCallS (sp_half M) (WE W) (tCons (tVar 1) tNil)) tNil)))) tNext) (tSeq (tIfS (tTest (tOp rEq (tVar 0) (tC (.str "wrap")))) (tRet (tTup (tCons (tC (.str "told")) (tCons (tCallS (sp_wrap M) (WE W) (tCons (tVar 1) (tCons (tVar 2) tNil))) tNil)))) tNext) (tSeq (tIfS (tTest (tOp rEq (tVar 0) (tC (.str "is")))) (tRet (tTup (tCons (tC (.str "told")) (tCons (tCallS (sp_is_number M) (WE W) (tCons (tVar 1) (tCons (tVar 2) tNil))) tNil)))) tNext) (tSeq (tIfS (tTest (tOp rEq (tVar 0) (tC (.str "bytes")))) (tRet (tTup (tCons (tC (.str "told")) (tCons (tCallS (sp_bytes_of M) (WE W) (tCons (tVar 1) (tCons (tVar 2) tNil))) tNil)))) tNext) (tRet (tTup (tCons (tC (.str "told")) (tCons (tCallS (sp_number_of M) (WE W) (tCons (tVar 1) (tCons (tVar 2) tNil))) tNil))))))))) (ts := fun a cls d => (tSeq (tAsg (tLst (tCons (tCB (rIsED K a cls d) (tCons (tVar 3) (tCons (tC (.ref M.c_BadWidth)) tNil))) (tCons (tCB (rIsED K a cls d) (tCons (tVar 3) (tCons (tC (.ref M.c_BadNumber)) tNil))) (tCons (tCB (rIsED K a cls d) (tCons (tVar 3) (tCons (tC (.ref M.c_BadByte)) tNil))) tNil)))) (gName 4)) (tSeq (tIfS (tOr (tNot (tB (tCB (rIsED K a cls d) (tCons (tVar 3) (tCons (tC (.ty "ValueError")) tNil))))) (tTest (tOp rNe (tBM K "list" (rCntB K) (tVar 4) (tCons (tC (.bl true)) tNil)) (tC (.int 1))))) (tRet (tTup (tCons (tC (.str "odd")) (tCons (tC .non) tNil)))) tNext) (tSeq (tIfS (tB (tOp (rIxL K) (tVar 4) (tC (.int 0)))) (tRet (tTup (tCons (tC (.str "BadWidth")) (tCons (tXf a cls d M.c_BadWidth "width" (tVar 3)) tNil)))) tNext) (tSeq (tIfS (tB (tOp (rIxL K) (tVar 4) (tC (.int 1)))) (tRet (tTup (tCons (tC (.str "BadNumber")) (tCons (tXf a cls d M.c_BadNumber "number" (tVar 3)) tNil)))) tNext) (tRet (tTup (tCons (tC (.str "BadByte")) (tCons (tXf a cls d M.c_BadByte "byte" (tVar 3)) tNil))))))))) (Wout := fun _ _ _ _ => False) rfl rfl sc.nd rfl rfl ⟨rfl, by decide, Or.inl M.g_MintError⟩ takes0
      (fun W pn xe tk _ => (pss_cons (ps_if (pt_cmpR op_eq (pv 0) pe_str (nomark _))
        (pss_one (ps_ret (pe_tup (pa_cons pe_str (pa_cons (by exact (pe_callS (ok_half M) (hr.mono (by decide)) rfl M.g_half M.F_half.kp M.b_half (fun σ => passAt tk σ) (by exact (pa_cons (pv 1) pa_nil)))) pa_nil)))))
        pss_nil)
      (pss_cons (ps_if (pt_cmpR op_eq (pv 0) pe_str (nomark _))
        (pss_one (ps_ret (pe_tup (pa_cons pe_str (pa_cons (by exact (pe_callS (ok_wrap M) (hr.mono (by decide)) rfl M.g_wrap M.F_wrap.kp M.b_wrap (fun σ => passAt tk σ) (by exact (pa_cons (pv 1) (pa_cons (pv 2) pa_nil))))) pa_nil)))))
        pss_nil)
      (pss_cons (ps_if (pt_cmpR op_eq (pv 0) pe_str (nomark _))
        (pss_one (ps_ret (pe_tup (pa_cons pe_str (pa_cons (by exact (pe_callS (ok_is_number M) (hr.mono (by decide)) rfl M.g_is_number M.F_is_number.kp M.b_is_number (fun σ => passAt tk σ) (by exact (pa_cons (pv 1) (pa_cons (pv 2) pa_nil))))) pa_nil)))))
        pss_nil)
      (pss_cons (ps_if (pt_cmpR op_eq (pv 0) pe_str (nomark _))
        (pss_one (ps_ret (pe_tup (pa_cons pe_str (pa_cons (by exact (pe_callS (ok_bytes_of M) (hr.mono (by decide)) rfl M.g_bytes_of M.F_bytes_of.kp M.b_bytes_of (fun σ => passAt tk σ) (by exact (pa_cons (pv 1) (pa_cons (pv 2) pa_nil))))) pa_nil)))))
        pss_nil)
      (pss_one (ps_ret (pe_tup (pa_cons pe_str (pa_cons (by exact (pe_callS (ok_number_of M) (hr.mono (by decide)) rfl M.g_number_of M.F_number_of.kp M.b_number_of (fun σ => passAt tk σ) (by exact (pa_cons (pv 1) (pa_cons (pv 2) pa_nil))))) pa_nil))))))))))
      (fun a oe cls d pn hz hf => (pss_cons (ps_set (i := 4) sc.nd rfl (Or.inl rfl) (pe_lst (pa_cons (pe_callB (call_isED hz hf) (by rfl) M.n_isinstance (by decide +kernel) (pa_cons (pv 3) (pa_cons (pe_glob (v := .ref M.c_BadWidth) rfl M.g_BadWidth rfl) pa_nil))) (pa_cons (pe_callB (call_isED hz hf) (by rfl) M.n_isinstance (by decide +kernel) (pa_cons (pv 3) (pa_cons (pe_glob (v := .ref M.c_BadNumber) rfl M.g_BadNumber rfl) pa_nil))) (pa_cons (pe_callB (call_isED hz hf) (by rfl) M.n_isinstance (by decide +kernel) (pa_cons (pv 3) (pa_cons (pe_glob (v := .ref M.c_BadByte) rfl M.g_BadByte rfl) pa_nil))) pa_nil)))))
      (pss_cons (ps_if (PW.pt (pw_or (pt_not (pt_val (pe_callB (call_isED hz hf) (by rfl) M.n_isinstance (by decide +kernel) (pa_cons (pv 3) (pa_cons (pe_bltn (v := .ty "ValueError") (u := .type "ValueError") (by rfl) M.n_ValueError (by decide +kernel) rfl) pa_nil))))) (pw_or1 (pt_cmpR op_ne (pe_bmK K (pe_bm PySem.F.plainAttrs_list PySem.F.slot_list_count PySem.F.type_list_count (by exact mt_countBK K hu64) (pv 4) (pa_cons pe_bl pa_nil))) pe_int (nomark _)))))
        (pss_one (ps_ret (pe_tup (pa_cons pe_str (pa_cons pe_non pa_nil)))))
        pss_nil)
      (pss_cons (ps_if (pt_val (pe_ix (ix_listK K) (pv 4) pe_int (fun _ _ => rfl)))
        (pss_one (ps_ret (pe_tup (pa_cons pe_str (pa_cons (pe_xf M.x_BadWidth M.F_BadWidth___init__.2.2 hz hf (pv 3)) pa_nil)))))
        pss_nil)
      (pss_cons (ps_if (pt_val (pe_ix (ix_listK K) (pv 4) pe_int (fun _ _ => rfl)))
        (pss_one (ps_ret (pe_tup (pa_cons pe_str (pa_cons (pe_xf M.x_BadNumber M.F_BadNumber___init__.2.2 hz hf (pv 3)) pa_nil)))))
        pss_nil)
      (pss_one (ps_ret (pe_tup (pa_cons pe_str (pa_cons (pe_xf M.x_BadByte M.F_BadByte___init__.2.2 hz hf (pv 3)) pa_nil)))))))))))), ?_⟩

  obtain ⟨kw, R, rfl, hy, k, hbw, hc⟩ := h
  rcases hc with ⟨rfl, hc⟩ | ⟨rfl, hc⟩ | ⟨rfl, hc⟩ | ⟨rfl, hc⟩ | ⟨rfl, hc⟩
  · walk_at "rd"
    refine ⟨fun w e hw => ?_, fun c => ?_⟩
    · exact ⟨Nat.le_of_ble_eq_true rfl, fun t ht => k "told" (.int (hf w)) t _ (hc w e hw _) upd_same (Same.put (Same.refl H) ht)⟩
    
    · intro dd hd0
      have S2 := Same.put (o := .xd [("width", x1)]) (Same.refl H) hd0
      have hdd : upd H dd (.xd [("width", x1)]) dd = some (.xd [("width", x1)]) := upd_same
      refine ⟨true, M.m_BadWidth, fun _ ea hea => ?_, fun z => Bool.noConfusion z⟩
      generalize upd H dd (.xd [("width", x1)]) = H2 at *
      refine ⟨_, rfl, M.c_BadWidth, dd, _, _, _, _, rfl, rfl, hdd, M.e_BadWidth, rfl, .own _, M.k_BadWidth_BadWidth, ?_⟩
      refine ⟨_, rfl, M.c_BadWidth, dd, _, _, _, _, rfl, rfl, hdd, M.e_BadWidth, rfl, .own _, M.k_BadWidth_BadNumber, ?_⟩
      refine ⟨_, rfl, M.c_BadWidth, dd, _, _, _, _, rfl, rfl, hdd, M.e_BadWidth, rfl, .own _, M.k_BadWidth_BadByte, ?_⟩
      refine ⟨Nat.le_of_ble_eq_true rfl, fun kp hkp => ?_⟩
      have S3 := Same.put (o := .lst ([true, false, false].map V.bl)) S2 (S2.free hkp)
      have hdd3 : upd H2 kp (.lst ([true, false, false].map V.bl)) dd = some (.xd [("width", x1)]) := by rw [upd_ne (ne_of_none hdd hkp)]; exact hdd
      have hk2 : upd H2 kp (.lst ([true, false, false].map V.bl)) kp = some (.lst ([true, false, false].map V.bl)) := upd_same
      show tSeq _ _ _ _ (upd H2 kp (.lst ([true, false, false].map V.bl)))
      generalize upd H2 kp (.lst ([true, false, false].map V.bl)) = H3 at *
      refine ⟨_, rfl, M.c_BadWidth, dd, _, _, _, _, rfl, rfl, hdd3, M.e_BadWidth, rfl, .ty _, M.v_BadWidth, _, rfl, ?_⟩
      refine iteF ?_
      walk_at "rd"
      refine ⟨kp, [true, false, false], rfl, rfl, SqL.of hk2, rfl, _, rfl, ?_⟩
      refine iteNS (by rfl) ?_
      refine ⟨_, rfl, _, _, _, .bl true, rfl, rfl, SqL.of hk2, rfl, _, rfl, ?_⟩
      refine iteT ?_
      refine ⟨_, rfl, rfl, rfl, dd, _, x1, rfl, hdd3, by simp [List.lookup], ?_⟩
      exact ⟨Nat.le_of_ble_eq_true rfl, fun t ht => k "BadWidth" x1 t _ (hbw c _) upd_same (Same.put S3 (S3.free ht))⟩
  · obtain ⟨n, rfl, hc⟩ := hc
    walk_at "rd"
    refine ⟨fun w e hw => ?_, fun c => ?_⟩
    · exact ⟨Nat.le_of_ble_eq_true rfl, fun t ht => k "told" (.int (wrapI w n)) t _ (hc w e hw _) upd_same (Same.put (Same.refl H) ht)⟩
    
    · intro dd hd0
      have S2 := Same.put (o := .xd [("width", x1)]) (Same.refl H) hd0
      have hdd : upd H dd (.xd [("width", x1)]) dd = some (.xd [("width", x1)]) := upd_same
      refine ⟨true, M.m_BadWidth, fun _ ea hea => ?_, fun z => Bool.noConfusion z⟩
      generalize upd H dd (.xd [("width", x1)]) = H2 at *
      refine ⟨_, rfl, M.c_BadWidth, dd, _, _, _, _, rfl, rfl, hdd, M.e_BadWidth, rfl, .own _, M.k_BadWidth_BadWidth, ?_⟩
      refine ⟨_, rfl, M.c_BadWidth, dd, _, _, _, _, rfl, rfl, hdd, M.e_BadWidth, rfl, .own _, M.k_BadWidth_BadNumber, ?_⟩
      refine ⟨_, rfl, M.c_BadWidth, dd, _, _, _, _, rfl, rfl, hdd, M.e_BadWidth, rfl, .own _, M.k_BadWidth_BadByte, ?_⟩
      refine ⟨Nat.le_of_ble_eq_true rfl, fun kp hkp => ?_⟩
      have S3 := Same.put (o := .lst ([true, false, false].map V.bl)) S2 (S2.free hkp)
      have hdd3 : upd H2 kp (.lst ([true, false, false].map V.bl)) dd = some (.xd [("width", x1)]) := by rw [upd_ne (ne_of_none hdd hkp)]; exact hdd
      have hk2 : upd H2 kp (.lst ([true, false, false].map V.bl)) kp = some (.lst ([true, false, false].map V.bl)) := upd_same
      show tSeq _ _ _ _ (upd H2 kp (.lst ([true, false, false].map V.bl)))
      generalize upd H2 kp (.lst ([true, false, false].map V.bl)) = H3 at *
      refine ⟨_, rfl, M.c_BadWidth, dd, _, _, _, _, rfl, rfl, hdd3, M.e_BadWidth, rfl, .ty _, M.v_BadWidth, _, rfl, ?_⟩
      refine iteF ?_
      walk_at "rd"
      refine ⟨kp, [true, false, false], rfl, rfl, SqL.of hk2, rfl, _, rfl, ?_⟩
      refine iteNS (by rfl) ?_
      refine ⟨_, rfl, _, _, _, .bl true, rfl, rfl, SqL.of hk2, rfl, _, rfl, ?_⟩
      refine iteT ?_
      refine ⟨_, rfl, rfl, rfl, dd, _, x1, rfl, hdd3, by simp [List.lookup], ?_⟩
      exact ⟨Nat.le_of_ble_eq_true rfl, fun t ht => k "BadWidth" x1 t _ (hbw c _) upd_same (Same.put S3 (S3.free ht))⟩
  · obtain ⟨hz, hc⟩ := hc
    walk_at "rd"
    refine ⟨fun w e hw => ?_, fun c => ?_⟩
    · exact ⟨Nat.le_of_ble_eq_true rfl, fun t ht => k "told" (.bl (isN w x2)) t _ (hc w e hw _) upd_same (Same.put (Same.refl H) ht)⟩
    
    · intro dd hd0
      have S2 := Same.put (o := .xd [("width", x1)]) (Same.refl H) hd0
      have hdd : upd H dd (.xd [("width", x1)]) dd = some (.xd [("width", x1)]) := upd_same
      refine ⟨true, M.m_BadWidth, fun _ ea hea => ?_, fun z => Bool.noConfusion z⟩
      generalize upd H dd (.xd [("width", x1)]) = H2 at *
      refine ⟨_, rfl, M.c_BadWidth, dd, _, _, _, _, rfl, rfl, hdd, M.e_BadWidth, rfl, .own _, M.k_BadWidth_BadWidth, ?_⟩
      refine ⟨_, rfl, M.c_BadWidth, dd, _, _, _, _, rfl, rfl, hdd, M.e_BadWidth, rfl, .own _, M.k_BadWidth_BadNumber, ?_⟩
      refine ⟨_, rfl, M.c_BadWidth, dd, _, _, _, _, rfl, rfl, hdd, M.e_BadWidth, rfl, .own _, M.k_BadWidth_BadByte, ?_⟩
      refine ⟨Nat.le_of_ble_eq_true rfl, fun kp hkp => ?_⟩
      have S3 := Same.put (o := .lst ([true, false, false].map V.bl)) S2 (S2.free hkp)
      have hdd3 : upd H2 kp (.lst ([true, false, false].map V.bl)) dd = some (.xd [("width", x1)]) := by rw [upd_ne (ne_of_none hdd hkp)]; exact hdd
      have hk2 : upd H2 kp (.lst ([true, false, false].map V.bl)) kp = some (.lst ([true, false, false].map V.bl)) := upd_same
      show tSeq _ _ _ _ (upd H2 kp (.lst ([true, false, false].map V.bl)))
      generalize upd H2 kp (.lst ([true, false, false].map V.bl)) = H3 at *
      refine ⟨_, rfl, M.c_BadWidth, dd, _, _, _, _, rfl, rfl, hdd3, M.e_BadWidth, rfl, .ty _, M.v_BadWidth, _, rfl, ?_⟩
      refine iteF ?_
      walk_at "rd"
      refine ⟨kp, [true, false, false], rfl, rfl, SqL.of hk2, rfl, _, rfl, ?_⟩
      refine iteNS (by rfl) ?_
      refine ⟨_, rfl, _, _, _, .bl true, rfl, rfl, SqL.of hk2, rfl, _, rfl, ?_⟩
      refine iteT ?_
      refine ⟨_, rfl, rfl, rfl, dd, _, x1, rfl, hdd3, by simp [List.lookup], ?_⟩
      exact ⟨Nat.le_of_ble_eq_true rfl, fun t ht => k "BadWidth" x1 t _ (hbw c _) upd_same (Same.put S3 (S3.free ht))⟩
  · obtain ⟨hz, hc⟩ := hc
    walk_at "rd"
    refine ⟨fun w n e e2 hw hn u H1 hu1 sm1 => ?_, fun c => ?_, fun w e hw c => ?_⟩
    · exact ⟨Nat.le_of_ble_eq_true rfl, fun t ht => k "told" (.ref u) t _ ((hc w e hw).2 n e2 hn u _ (by rw [upd_ne (ne_of_none hu1 ht)]; exact hu1)) upd_same (Same.put sm1 (sm1.free ht))⟩
    
    · intro dd hd0
      have S2 := Same.put (o := .xd [("width", x1)]) (Same.refl H) hd0
      have hdd : upd H dd (.xd [("width", x1)]) dd = some (.xd [("width", x1)]) := upd_same
      refine ⟨true, M.m_BadWidth, fun _ ea hea => ?_, fun z => Bool.noConfusion z⟩
      generalize upd H dd (.xd [("width", x1)]) = H2 at *
      refine ⟨_, rfl, M.c_BadWidth, dd, _, _, _, _, rfl, rfl, hdd, M.e_BadWidth, rfl, .own _, M.k_BadWidth_BadWidth, ?_⟩
      refine ⟨_, rfl, M.c_BadWidth, dd, _, _, _, _, rfl, rfl, hdd, M.e_BadWidth, rfl, .own _, M.k_BadWidth_BadNumber, ?_⟩
      refine ⟨_, rfl, M.c_BadWidth, dd, _, _, _, _, rfl, rfl, hdd, M.e_BadWidth, rfl, .own _, M.k_BadWidth_BadByte, ?_⟩
      refine ⟨Nat.le_of_ble_eq_true rfl, fun kp hkp => ?_⟩
      have S3 := Same.put (o := .lst ([true, false, false].map V.bl)) S2 (S2.free hkp)
      have hdd3 : upd H2 kp (.lst ([true, false, false].map V.bl)) dd = some (.xd [("width", x1)]) := by rw [upd_ne (ne_of_none hdd hkp)]; exact hdd
      have hk2 : upd H2 kp (.lst ([true, false, false].map V.bl)) kp = some (.lst ([true, false, false].map V.bl)) := upd_same
      show tSeq _ _ _ _ (upd H2 kp (.lst ([true, false, false].map V.bl)))
      generalize upd H2 kp (.lst ([true, false, false].map V.bl)) = H3 at *
      refine ⟨_, rfl, M.c_BadWidth, dd, _, _, _, _, rfl, rfl, hdd3, M.e_BadWidth, rfl, .ty _, M.v_BadWidth, _, rfl, ?_⟩
      refine iteF ?_
      walk_at "rd"
      refine ⟨kp, [true, false, false], rfl, rfl, SqL.of hk2, rfl, _, rfl, ?_⟩
      refine iteNS (by rfl) ?_
      refine ⟨_, rfl, _, _, _, .bl true, rfl, rfl, SqL.of hk2, rfl, _, rfl, ?_⟩
      refine iteT ?_
      refine ⟨_, rfl, rfl, rfl, dd, _, x1, rfl, hdd3, by simp [List.lookup], ?_⟩
      exact ⟨Nat.le_of_ble_eq_true rfl, fun t ht => k "BadWidth" x1 t _ (hbw c _) upd_same (Same.put S3 (S3.free ht))⟩
    · intro dd hd0
      have S2 := Same.put (o := .xd [("number", x2)]) (Same.refl H) hd0
      have hdd : upd H dd (.xd [("number", x2)]) dd = some (.xd [("number", x2)]) := upd_same
      refine ⟨true, M.m_BadNumber, fun _ ea hea => ?_, fun z => Bool.noConfusion z⟩
      generalize upd H dd (.xd [("number", x2)]) = H2 at *
      refine ⟨_, rfl, M.c_BadNumber, dd, _, _, _, _, rfl, rfl, hdd, M.e_BadNumber, rfl, .own _, M.k_BadNumber_BadWidth, ?_⟩
      refine ⟨_, rfl, M.c_BadNumber, dd, _, _, _, _, rfl, rfl, hdd, M.e_BadNumber, rfl, .own _, M.k_BadNumber_BadNumber, ?_⟩
      refine ⟨_, rfl, M.c_BadNumber, dd, _, _, _, _, rfl, rfl, hdd, M.e_BadNumber, rfl, .own _, M.k_BadNumber_BadByte, ?_⟩
      refine ⟨Nat.le_of_ble_eq_true rfl, fun kp hkp => ?_⟩
      have S3 := Same.put (o := .lst ([false, true, false].map V.bl)) S2 (S2.free hkp)
      have hdd3 : upd H2 kp (.lst ([false, true, false].map V.bl)) dd = some (.xd [("number", x2)]) := by rw [upd_ne (ne_of_none hdd hkp)]; exact hdd
      have hk2 : upd H2 kp (.lst ([false, true, false].map V.bl)) kp = some (.lst ([false, true, false].map V.bl)) := upd_same
      show tSeq _ _ _ _ (upd H2 kp (.lst ([false, true, false].map V.bl)))
      generalize upd H2 kp (.lst ([false, true, false].map V.bl)) = H3 at *
      refine ⟨_, rfl, M.c_BadNumber, dd, _, _, _, _, rfl, rfl, hdd3, M.e_BadNumber, rfl, .ty _, M.v_BadNumber, _, rfl, ?_⟩
      refine iteF ?_
      walk_at "rd"
      refine ⟨kp, [false, true, false], rfl, rfl, SqL.of hk2, rfl, _, rfl, ?_⟩
      refine iteNS (by rfl) ?_
      refine ⟨_, rfl, _, _, _, .bl false, rfl, rfl, SqL.of hk2, rfl, _, rfl, ?_⟩
      refine iteF ?_
      refine ⟨_, rfl, _, _, _, .bl true, rfl, rfl, SqL.of hk2, rfl, _, rfl, ?_⟩
      refine iteT ?_
      refine ⟨_, rfl, rfl, rfl, dd, _, x2, rfl, hdd3, by simp [List.lookup], ?_⟩
      exact ⟨Nat.le_of_ble_eq_true rfl, fun t ht => k "BadNumber" x2 t _ ((hc w e hw).1 c _) upd_same (Same.put S3 (S3.free ht))⟩
  · obtain ⟨p, xs, rfl, hp, hl, hpl, hc⟩ := hc
    walk_at "rd"
    refine ⟨p, xs, rfl, hp, hl, hy, hpl, fun c => ?_, fun w e hw => ⟨fun c => ?_, fun c => ⟨fun i v hi hv hj => ?_, fun ns en hal H1 sm1 => ?_⟩⟩⟩
    · intro dd hd0
      have S2 := Same.put (o := .xd [("width", x1)]) (Same.refl H) hd0
      have hdd : upd H dd (.xd [("width", x1)]) dd = some (.xd [("width", x1)]) := upd_same
      refine ⟨true, M.m_BadWidth, fun _ ea hea => ?_, fun z => Bool.noConfusion z⟩
      generalize upd H dd (.xd [("width", x1)]) = H2 at *
      refine ⟨_, rfl, M.c_BadWidth, dd, _, _, _, _, rfl, rfl, hdd, M.e_BadWidth, rfl, .own _, M.k_BadWidth_BadWidth, ?_⟩
      refine ⟨_, rfl, M.c_BadWidth, dd, _, _, _, _, rfl, rfl, hdd, M.e_BadWidth, rfl, .own _, M.k_BadWidth_BadNumber, ?_⟩
      refine ⟨_, rfl, M.c_BadWidth, dd, _, _, _, _, rfl, rfl, hdd, M.e_BadWidth, rfl, .own _, M.k_BadWidth_BadByte, ?_⟩
      refine ⟨Nat.le_of_ble_eq_true rfl, fun kp hkp => ?_⟩
      have S3 := Same.put (o := .lst ([true, false, false].map V.bl)) S2 (S2.free hkp)
      have hdd3 : upd H2 kp (.lst ([true, false, false].map V.bl)) dd = some (.xd [("width", x1)]) := by rw [upd_ne (ne_of_none hdd hkp)]; exact hdd
      have hk2 : upd H2 kp (.lst ([true, false, false].map V.bl)) kp = some (.lst ([true, false, false].map V.bl)) := upd_same
      show tSeq _ _ _ _ (upd H2 kp (.lst ([true, false, false].map V.bl)))
      generalize upd H2 kp (.lst ([true, false, false].map V.bl)) = H3 at *
      refine ⟨_, rfl, M.c_BadWidth, dd, _, _, _, _, rfl, rfl, hdd3, M.e_BadWidth, rfl, .ty _, M.v_BadWidth, _, rfl, ?_⟩
      refine iteF ?_
      walk_at "rd"
      refine ⟨kp, [true, false, false], rfl, rfl, SqL.of hk2, rfl, _, rfl, ?_⟩
      refine iteNS (by rfl) ?_
      refine ⟨_, rfl, _, _, _, .bl true, rfl, rfl, SqL.of hk2, rfl, _, rfl, ?_⟩
      refine iteT ?_
      refine ⟨_, rfl, rfl, rfl, dd, _, x1, rfl, hdd3, by simp [List.lookup], ?_⟩
      exact ⟨Nat.le_of_ble_eq_true rfl, fun t ht => k "BadWidth" x1 t _ (hbw c _) upd_same (Same.put S3 (S3.free ht))⟩
    · intro dd hd0
      have S2 := Same.put (o := .xd [("byte", V.non)]) (Same.refl H) hd0
      have hdd : upd H dd (.xd [("byte", V.non)]) dd = some (.xd [("byte", V.non)]) := upd_same
      refine ⟨true, M.m_BadByte, fun _ ea hea => ?_, fun z => Bool.noConfusion z⟩
      generalize upd H dd (.xd [("byte", V.non)]) = H2 at *
      refine ⟨_, rfl, M.c_BadByte, dd, _, _, _, _, rfl, rfl, hdd, M.e_BadByte, rfl, .own _, M.k_BadByte_BadWidth, ?_⟩
      refine ⟨_, rfl, M.c_BadByte, dd, _, _, _, _, rfl, rfl, hdd, M.e_BadByte, rfl, .own _, M.k_BadByte_BadNumber, ?_⟩
      refine ⟨_, rfl, M.c_BadByte, dd, _, _, _, _, rfl, rfl, hdd, M.e_BadByte, rfl, .own _, M.k_BadByte_BadByte, ?_⟩
      refine ⟨Nat.le_of_ble_eq_true rfl, fun kp hkp => ?_⟩
      have S3 := Same.put (o := .lst ([false, false, true].map V.bl)) S2 (S2.free hkp)
      have hdd3 : upd H2 kp (.lst ([false, false, true].map V.bl)) dd = some (.xd [("byte", V.non)]) := by rw [upd_ne (ne_of_none hdd hkp)]; exact hdd
      have hk2 : upd H2 kp (.lst ([false, false, true].map V.bl)) kp = some (.lst ([false, false, true].map V.bl)) := upd_same
      show tSeq _ _ _ _ (upd H2 kp (.lst ([false, false, true].map V.bl)))
      generalize upd H2 kp (.lst ([false, false, true].map V.bl)) = H3 at *
      refine ⟨_, rfl, M.c_BadByte, dd, _, _, _, _, rfl, rfl, hdd3, M.e_BadByte, rfl, .ty _, M.v_BadByte, _, rfl, ?_⟩
      refine iteF ?_
      walk_at "rd"
      refine ⟨kp, [false, false, true], rfl, rfl, SqL.of hk2, rfl, _, rfl, ?_⟩
      refine iteNS (by rfl) ?_
      refine ⟨_, rfl, _, _, _, .bl false, rfl, rfl, SqL.of hk2, rfl, _, rfl, ?_⟩
      refine iteF ?_
      refine ⟨_, rfl, _, _, _, .bl false, rfl, rfl, SqL.of hk2, rfl, _, rfl, ?_⟩
      refine iteF ?_
      refine ⟨_, rfl, rfl, rfl, dd, _, V.non, rfl, hdd3, by simp [List.lookup], ?_⟩
      exact ⟨Nat.le_of_ble_eq_true rfl, fun t ht => k "BadByte" V.non t _ ((hc w e hw).1 c _) upd_same (Same.put S3 (S3.free ht))⟩
    · intro dd hd0
      have S2 := Same.put (o := .xd [("byte", v)]) (Same.refl H) hd0
      have hdd : upd H dd (.xd [("byte", v)]) dd = some (.xd [("byte", v)]) := upd_same
      refine ⟨true, M.m_BadByte, fun _ ea hea => ?_, fun z => Bool.noConfusion z⟩
      generalize upd H dd (.xd [("byte", v)]) = H2 at *
      refine ⟨_, rfl, M.c_BadByte, dd, _, _, _, _, rfl, rfl, hdd, M.e_BadByte, rfl, .own _, M.k_BadByte_BadWidth, ?_⟩
      refine ⟨_, rfl, M.c_BadByte, dd, _, _, _, _, rfl, rfl, hdd, M.e_BadByte, rfl, .own _, M.k_BadByte_BadNumber, ?_⟩
      refine ⟨_, rfl, M.c_BadByte, dd, _, _, _, _, rfl, rfl, hdd, M.e_BadByte, rfl, .own _, M.k_BadByte_BadByte, ?_⟩
      refine ⟨Nat.le_of_ble_eq_true rfl, fun kp hkp => ?_⟩
      have S3 := Same.put (o := .lst ([false, false, true].map V.bl)) S2 (S2.free hkp)
      have hdd3 : upd H2 kp (.lst ([false, false, true].map V.bl)) dd = some (.xd [("byte", v)]) := by rw [upd_ne (ne_of_none hdd hkp)]; exact hdd
      have hk2 : upd H2 kp (.lst ([false, false, true].map V.bl)) kp = some (.lst ([false, false, true].map V.bl)) := upd_same
      show tSeq _ _ _ _ (upd H2 kp (.lst ([false, false, true].map V.bl)))
      generalize upd H2 kp (.lst ([false, false, true].map V.bl)) = H3 at *
      refine ⟨_, rfl, M.c_BadByte, dd, _, _, _, _, rfl, rfl, hdd3, M.e_BadByte, rfl, .ty _, M.v_BadByte, _, rfl, ?_⟩
      refine iteF ?_
      walk_at "rd"
      refine ⟨kp, [false, false, true], rfl, rfl, SqL.of hk2, rfl, _, rfl, ?_⟩
      refine iteNS (by rfl) ?_
      refine ⟨_, rfl, _, _, _, .bl false, rfl, rfl, SqL.of hk2, rfl, _, rfl, ?_⟩
      refine iteF ?_
      refine ⟨_, rfl, _, _, _, .bl false, rfl, rfl, SqL.of hk2, rfl, _, rfl, ?_⟩
      refine iteF ?_
      refine ⟨_, rfl, rfl, rfl, dd, _, v, rfl, hdd3, by simp [List.lookup], ?_⟩
      exact ⟨Nat.le_of_ble_eq_true rfl, fun t ht => k "BadByte" v t _ (((hc w e hw).2 c).1 i v hi hv hj _) upd_same (Same.put S3 (S3.free ht))⟩
    · exact ⟨Nat.le_of_ble_eq_true rfl, fun t ht => k "told" (.int (wrapI w (vb ns))) t _ (((hc w e hw).2 c).2 ns en hal _) upd_same (Same.put sm1 (sm1.free ht))⟩
    

end
end K02
namespace K02
open PySem PySem.Spec PyProof.Rows L2 My
section
variable {P : Program} {w : World} {K : PySem.W.Frag} {mg : Str → Option Value} {base : Heap}

section
variable {H : Hp} {Q : VK} {w : Int}
theorem ask_half {z : V} (hw : Wd w) (k : ∀ t H', H' t = some (.tup [.str "told", .int (hf w)]) → Same H H' → Q (.ref t) H') : askB (.str "half") (.int w) z H Q :=
  ⟨"half", fun name v _ => name = "told" ∧ v = .int (hf w), rfl, .int _, fun name v t H' ⟨e1, e2⟩ h s => k t H' (by rw [h, e1, e2]) s, fun c => (by rw [isW_int hw] at c; cases c), .inl ⟨rfl, fun w' e _ H1 => by cases e; exact ⟨rfl, rfl⟩⟩⟩
theorem ask_wrap {n : Int} (hw : Wd w) (k : ∀ t H', H' t = some (.tup [.str "told", .int (wrapI w n)]) → Same H H' → Q (.ref t) H') : askB (.str "wrap") (.int w) (.int n) H Q :=
  ⟨"wrap", fun name v _ => name = "told" ∧ v = .int (wrapI w n), rfl, .int _, fun name v t H' ⟨e1, e2⟩ h s => k t H' (by rw [h, e1, e2]) s, fun c => (by rw [isW_int hw] at c; cases c), .inr (.inl ⟨rfl, n, rfl, fun w' e _ H1 => by cases e; exact ⟨rfl, rfl⟩⟩)⟩
theorem ask_is {z : V} (hz : Pl H z) (hw : Wd w) (k : ∀ t H', H' t = some (.tup [.str "told", .bl (isN w z)]) → Same H H' → Q (.ref t) H') : askB (.str "is") (.int w) z H Q :=
  ⟨"is", fun name v _ => name = "told" ∧ v = .bl (isN w z), rfl, .int _, fun name v t H' ⟨e1, e2⟩ h s => k t H' (by rw [h, e1, e2]) s, fun c => (by rw [isW_int hw] at c; cases c), .inr (.inr (.inl ⟨rfl, hz, fun w' e _ H1 => by cases e; exact ⟨rfl, rfl⟩⟩))⟩
theorem ask_bytes {n : Int} (hw : Wd w) (hn : InR w n) (k : ∀ t u H', H' t = some (.tup [.str "told", .ref u]) → H' u = some (.tup ((bys (w / 8).toNat (n % (2 * hf w))).map V.int)) → Same H H' → Q (.ref t) H') : askB (.str "bytes") (.int w) (.int n) H Q := by
  refine ⟨"bytes", fun name v H1 => name = "told" ∧ ∃ u, v = .ref u ∧ H1 u = some (.tup ((bys (w / 8).toNat (n % (2 * hf w))).map V.int)), rfl, .int _, ?_, fun c => (by rw [isW_int hw] at c; cases c), .inr (.inr (.inr (.inl ⟨rfl, .int _, fun w' e _ => ?_⟩)))⟩
  · rintro name v t H' ⟨rfl, u, rfl, hu⟩ h s
    exact k t u H' h hu s
  · cases e
    refine ⟨fun c => ?_, fun n' e _ u H1 h => by cases e; exact ⟨rfl, u, rfl, h⟩⟩
    have hN : isN w (.int n) = true := by
      unfold InR at hn
      show (decide (-(hf w) ≤ n) && decide (n ≤ hf w - 1)) = true
      rw [decide_eq_true (show -(hf w) ≤ n by omega), decide_eq_true (show n ≤ hf w - 1 by omega)]; rfl
    rw [hN] at c; cases c
theorem ask_bytes_bad {z : V} (hz : Pl H z) (hw : Wd w) (hn : isN w z = false) (k : ∀ t H', H' t = some (.tup [.str "BadNumber", z]) → Same H H' → Q (.ref t) H') : askB (.str "bytes") (.int w) z H Q := by
  refine ⟨"bytes", fun name v _ => name = "BadNumber" ∧ v = z, rfl, .int _, fun name v t H' ⟨e1, e2⟩ h s => k t H' (by rw [h, e1, e2]) s, fun c => (by rw [isW_int hw] at c; cases c), .inr (.inr (.inr (.inl ⟨rfl, hz, fun w' e _ => ?_⟩)))⟩
  cases e
  refine ⟨fun _ H1 => ⟨rfl, rfl⟩, fun n e hr => ?_⟩
  have hN : isN w (.int n) = true := by
    unfold InR at hr
    show (decide (-(hf w) ≤ n) && decide (n ≤ hf w - 1)) = true
    rw [decide_eq_true (show -(hf w) ≤ n by omega), decide_eq_true (show n ≤ hf w - 1 by omega)]; rfl
  rw [e, hN] at hn; cases hn
theorem ask_back {p : Addr} {ns : List Int} (hp : H p = some (.lst (ns.map V.int)) ∨ H p = some (.tup (ns.map V.int))) (hw : Wd w) (hl : (ns.length : Int) = w / 8) (hb : ∀ n ∈ ns, 0 ≤ n ∧ n < 256) (k : ∀ t H', H' t = some (.tup [.str "told", .int (wrapI w (vb ns))]) → Same H H' → Q (.ref t) H') : askB (.str "back") (.int w) (.ref p) H Q := by
  have h8 := w8 hw
  refine ⟨"back", fun name v _ => name = "told" ∧ v = .int (wrapI w (vb ns)), rfl, .int _, fun name v t H' ⟨e1, e2⟩ h s => k t H' (by rw [h, e1, e2]) s, fun c => (by rw [isW_int hw] at c; cases c), .inr (.inr (.inr (.inr ⟨rfl, p, _, rfl, hp, by rw [List.length_map]; omega, fun v hv => ?_, fun w' e _ => ?_⟩)))⟩
  · obtain ⟨n, _, rfl⟩ := List.mem_map.mp hv
    exact .int n
  · cases e
    rw [List.length_map]
    refine ⟨fun c => absurd hl c, fun _ => ⟨fun i v hi hv => ?_, fun ms e _ H1 => ⟨rfl, ?_⟩⟩⟩
    · obtain ⟨z, hz, rfl⟩ := map_get hi
      have h1 := hb z (List.mem_of_getElem? hz)
      have h2 : btw (.int z) 0 255 = true := by
        show (decide (0 ≤ z) && decide (z ≤ 255)) = true
        rw [decide_eq_true (show 0 ≤ z by omega), decide_eq_true (show z ≤ 255 by omega)]; rfl
      rw [h2] at hv; cases hv
    · rw [(List.map_inj_right (fun x y h => V.int.inj h)).mp e]
theorem ask_back_len {p : Addr} {xs : List V} (hp : H p = some (.lst xs) ∨ H p = some (.tup xs)) (hw : Wd w) (hl : (xs.length : Int) ≠ w / 8) (hm : xs.length ≤ 1000) (hpl : ∀ v ∈ xs, Pl H v) (k : ∀ t H', H' t = some (.tup [.str "BadByte", .non]) → Same H H' → Q (.ref t) H') : askB (.str "back") (.int w) (.ref p) H Q := by
  refine ⟨"back", fun name v _ => name = "BadByte" ∧ v = .non, rfl, .int _, fun name v t H' ⟨e1, e2⟩ h s => k t H' (by rw [h, e1, e2]) s, fun c => (by rw [isW_int hw] at c; cases c), .inr (.inr (.inr (.inr ⟨rfl, p, _, rfl, hp, hm, hpl, fun w' e _ => ?_⟩)))⟩
  cases e
  exact ⟨fun _ H1 => ⟨rfl, rfl⟩, fun c => absurd c hl⟩
theorem ask_back_bad {p : Addr} {xs : List V} {i : Nat} {v : V} (hp : H p = some (.lst xs) ∨ H p = some (.tup xs)) (hw : Wd w) (hl : (xs.length : Int) = w / 8) (hpl : ∀ v ∈ xs, Pl H v) (hi : xs[i]? = some v) (hv : btw v 0 255 = false)
    (hf' : ∀ (j : Nat) (u : V), j < i → xs[j]? = some u → btw u 0 255 = true) (k : ∀ t H', H' t = some (.tup [.str "BadByte", v]) → Same H H' → Q (.ref t) H') : askB (.str "back") (.int w) (.ref p) H Q := by
  have h8 := w8 hw
  refine ⟨"back", fun name u _ => name = "BadByte" ∧ u = v, rfl, .int _, fun name v t H' ⟨e1, e2⟩ h s => k t H' (by rw [h, e1, e2]) s, fun c => (by rw [isW_int hw] at c; cases c), .inr (.inr (.inr (.inr ⟨rfl, p, _, rfl, hp, by omega, hpl, fun w' e _ => ?_⟩)))⟩
  cases e
  refine ⟨fun c => absurd hl c, fun _ => ⟨fun j u hj hu hfu H1 => ⟨rfl, ?_⟩, fun ns e hal H1 => ?_⟩⟩
  · rcases Nat.lt_trichotomy j i with c | c | c
    · have := hf' j u c hj
      rw [hu] at this; cases this
    · subst c
      rw [hi] at hj
      exact (Option.some.inj hj).symm
    · have := hfu i v c hi
      rw [hv] at this; cases this
  · have := hal v (List.mem_of_getElem? hi)
    rw [hv] at this; cases this
end
abbrev spWrapped : Sp := Sp2 fun x y H Q _ => ∃ (w n : Int), x = .int w ∧ y = .int n ∧ Wd w ∧ ∀ H', Same H H' → Q (.bl true) H'

theorem ok__law_wrapped_right (M : TX K mg) : FnOk P w K mg base (L2.CX P w) 9 M.f__law_wrapped_right M.d__law_wrapped_right ["_law_width", "_law_number"] (spWrapped) := by
  have sc := sc__law_wrapped_right
  refine M.F__law_wrapped_right.okX sc (fun vs H Q E h => Sp2_len h) (fun cdv A outer s H vs Q E hr h => ?_)
  obtain ⟨x0, x1, rfl, h⟩ := h
  have hu := hu_of hr
  have hu64 := hr.units
  refine ⟨_, (pss_cons (ps_set (i := 2) sc.nd rfl (Or.inl rfl) (pe_call (ok__law_asked M) (hr.mono (by decide)) rfl M.g__law_asked M.F__law_asked.kp M.b__law_asked .nil (passE rfl rfl rfl rfl) (pa_cons pe_str (pa_cons (pv 0) (pa_cons (pv 1) pa_nil)))))
    (pss_cons (ps_set (i := 3) sc.nd rfl (Or.inl rfl) (pe_call (ok__law_doubled M) (hr.mono (by decide)) rfl M.g__law_doubled M.F__law_doubled.kp M.b__law_doubled .nil (passE rfl rfl rfl rfl) (pa_cons (pe_op op_sub (pv 0) pe_int) pa_nil)))
    (pss_cons (ps_if (PW.pt (pw_or (pt_cmpR op_ne (pe_ix (ix_tupK K) (pv 2) pe_int (fun _ _ => rfl)) pe_str (nomark _)) (pw_or1 (pt_not (pt_val (pe_call (ok__law_integer M) (hr.mono (by decide)) rfl M.g__law_integer M.F__law_integer.kp M.b__law_integer .nil (passE rfl rfl rfl rfl) (pa_cons (pe_ix (ix_tupK K) (pv 2) pe_int (fun _ _ => rfl)) pa_nil)))))))
      (pss_one (ps_ret pe_bl))
      pss_nil)
    (pss_one (ps_ret (pe_and (pe_cmpR op_le (pe_un un_neg (pv 3)) (pe_ix (ix_tupK K) (pv 2) pe_int (fun _ _ => rfl)) (nomark _)) (pe_and (pe_cmpR op_lt (pe_ix (ix_tupK K) (pv 2) pe_int (fun _ _ => rfl)) (pv 3) (nomark _)) (pe_one (pe_cmpR op_eq (pe_op op_mod (pe_callTy call_int1 (by rfl) M.n_int (by decide +kernel) (pa_cons (pe_op op_sub (pv 1) (pe_ix (ix_tupK K) (pv 2) pe_int (fun _ _ => rfl))) pa_nil)) (pe_op op_mul pe_int (pv 3))) pe_int (nomark _)))))))))), ?_⟩

  obtain ⟨w, n, rfl, rfl, hw, q⟩ := h
  have ew : ((w - 1).toNat : Int) = w - 1 := by rcases hw with rfl | rfl | rfl <;> rfl
  have lw : (w - 1).toNat ≤ 63 := by rcases hw with rfl | rfl | rfl <;> decide
  have hq := hf_pos hw
  have eh : (2 : Int) ^ (w - 1).toNat = hf w := rfl
  walk_at "rd"
  refine ask_wrap hw fun t H1 ht s1 => ?_
  walk_at "rd"
  refine ⟨(w - 1).toNat, by rw [ew], lw, ?_⟩
  rw [eh]
  clear eh ew lw
  have h1 := wrap_in (n := n) hw
  have h2 : (n - wrapI w n) % (2 * hf w) = 0 := by
    unfold wrapI
    have e1 := Int.mul_ediv_add_emod (n + hf w) (2 * hf w)
    have e2 : n - ((n + hf w) % (2 * hf w) - hf w) = 2 * hf w * ((n + hf w) / (2 * hf w)) := by omega
    rw [e2]
    exact Int.mul_emod_right _ _
  unfold InR at h1
  refine ⟨_, rfl, _, _, _, .str "told", rfl, rfl, SqT.of ht, rfl, rfl, _, rfl, ?_⟩
  rw [decide_eq_true (rfl : V.str "told" = V.str "told")]
  refine iteF ?_
  refine ⟨_, rfl, _, _, _, .int (wrapI w n), rfl, rfl, SqT.of ht, rfl, ?_⟩
  refine ⟨_, rfl, Pl.int _, true, rfl, ?_⟩
  refine iteF ?_
  refine ⟨_, rfl, _, rfl, ?_⟩
  refine ⟨_, rfl, _, _, _, .int (wrapI w n), rfl, rfl, SqT.of ht, rfl, ?_⟩
  refine ⟨_, _, rfl, rfl, _, rfl, ?_⟩
  refine iteDT h1.1 ?_
  refine ⟨_, rfl, _, _, _, .int (wrapI w n), rfl, rfl, SqT.of ht, rfl, ?_⟩
  refine ⟨_, rfl, _, _, rfl, rfl, _, rfl, ?_⟩
  refine iteDT h1.2 ?_
  refine ⟨_, rfl, ?_⟩
  refine ⟨_, rfl, _, _, _, .int (wrapI w n), rfl, rfl, SqT.of ht, rfl, ?_⟩
  refine ⟨_, _, rfl, rfl, .inl ⟨_, rfl, ?_⟩⟩
  walk_at "rd"
  have e : decide (V.int ((n - wrapI w n) % (2 * hf w)) = V.int 0) = true := decide_eq_true (congrArg V.int h2)
  have q' := q H1 s1
  rw [← e] at q'
  exact q'

end
end K02
namespace K02
open PySem PySem.Spec PyProof.Rows L2 My
section
variable {P : Program} {w : World} {K : PySem.W.Frag} {mg : Str → Option Value} {base : Heap}

abbrev spGreat : Sp := Sp2 fun x y H Q _ => ∃ (b : Addr) (w : Int), x = .ref b ∧ y = .int w ∧ Wd w ∧ BagAt H b ∧ ∀ (n : Int) (H' : Hp), BagAt H' b → Kp b H H' → Q (.int n) H'

theorem ok__law_great (M : TX K mg) : FnOk P w K mg base (L2.CX P w) 3 M.f__law_great M.d__law_great ["_law_bag_here", "_law_width"] (spGreat) := by
  have sc := sc__law_great
  refine M.F__law_great.okX sc (fun vs H Q E h => Sp2_len h) (fun cdv A outer s H vs Q E hr h => ?_)
  obtain ⟨x0, x1, rfl, h⟩ := h
  have hu := hu_of hr
  have hu64 := hr.units
  refine ⟨_, (pss_cons (ps_if (pt_cmpR op_eq (pe_call (ok__law_pick M) (hr.mono (by decide)) rfl M.g__law_pick M.F__law_pick.kp M.b__law_pick .nil (passE rfl rfl rfl rfl) (pa_cons (pv 0) (pa_cons pe_int pa_nil))) pe_int (nomark _))
      (pss_cons (ps_set (i := 2) sc.nd rfl (Or.inl rfl) (pe_op op_mul (pe_op op_mul pe_int (pe_call (ok__law_doubled M) (hr.mono (by decide)) rfl M.g__law_doubled M.F__law_doubled.kp M.b__law_doubled .nil (passE rfl rfl rfl rfl) (pa_cons (pe_op op_sub (pv 1) pe_int) pa_nil))) (pe_op op_sub (pe_call (ok__law_pick M) (hr.mono (by decide)) rfl M.g__law_pick M.F__law_pick.kp M.b__law_pick .nil (passE rfl rfl rfl rfl) (pa_cons (pv 0) (pa_cons pe_int pa_nil))) pe_int)))
      (pss_one (ps_ret (pe_op op_add (pe_op op_add (pv 2) (pe_call (ok__law_choice M) (hr.mono (by decide)) rfl M.g__law_choice M.F__law_choice.kp M.b__law_choice .nil (passE rfl rfl rfl rfl) (pa_cons (pv 0) (pa_cons (pe_lst (pa_cons (pe_un un_neg pe_int) (pa_cons pe_int (pa_cons pe_int pa_nil)))) pa_nil)))) (pe_op op_mul (pe_call (ok__law_doubled M) (hr.mono (by decide)) rfl M.g__law_doubled M.F__law_doubled.kp M.b__law_doubled .nil (passE rfl rfl rfl rfl) (pa_cons (pe_op op_sub (pv 1) pe_int) pa_nil)) (pe_call (ok__law_pick M) (hr.mono (by decide)) rfl M.g__law_pick M.F__law_pick.kp M.b__law_pick .nil (passE rfl rfl rfl rfl) (pa_cons (pv 0) (pa_cons pe_int pa_nil))))))))
      pss_nil)
    (pss_cons (ps_set (i := 2) sc.nd rfl (Or.inl rfl) pe_int)
    (pss_cons (ps_for (passes_of rfl) rfl (pi_range1 rfl M.n_range (pa_cons (pe_op op_add pe_int (pe_call (ok__law_pick M) (hr.mono (by decide)) rfl M.g__law_pick M.F__law_pick.kp M.b__law_pick .nil (passE rfl rfl rfl rfl) (pa_cons (pv 0) (pa_cons pe_int pa_nil)))) pa_nil)) (pg_name (i := 3) sc.nd rfl (Or.inl rfl))
      (pss_one (ps_set (i := 2) sc.nd rfl (Or.inl rfl) (pe_op op_add (pe_op op_mul (pv 2) pe_int) (pe_call (ok__law_pick M) (hr.mono (by decide)) rfl M.g__law_pick M.F__law_pick.kp M.b__law_pick .nil (passE rfl rfl rfl rfl) (pa_cons (pv 0) (pa_cons pe_int pa_nil)))))))
    (pss_cons (ps_if (pt_cmpR op_eq (pe_call (ok__law_pick M) (hr.mono (by decide)) rfl M.g__law_pick M.F__law_pick.kp M.b__law_pick .nil (passE rfl rfl rfl rfl) (pa_cons (pv 0) (pa_cons pe_int pa_nil))) pe_int (nomark _))
      (pss_one (ps_ret (pe_un un_neg (pv 2))))
      pss_nil)
    (pss_one (ps_ret (pv 2))))))), ?_⟩

  obtain ⟨b, w, rfl, rfl, hw, B, q⟩ := h
  have ew : ((w - 1).toNat : Int) = w - 1 := by rcases hw with rfl | rfl | rfl <;> rfl
  have lw : (w - 1).toNat ≤ 63 := by rcases hw with rfl | rfl | rfl <;> decide
  walk_at "rd"
  intro v1 H1 p1 p1' B1 k1
  walk_at "rd"
  refine iteD (fun c => ?_) (fun c => ?_)
  · walk_at "rd"
    refine ⟨(w - 1).toNat, by rw [ew], lw, ?_⟩
    walk_at "rd"
    intro v2 H2 p2 p2' B2 k2
    walk_at "rd"
    intro t ht
    obtain ⟨ob, hob⟩ := B2.some
    refine ⟨_, _, rfl, b, t, [V.int (-1), V.int 0, V.int 1], rfl, rfl, upd_same, Nat.le_of_ble_eq_true rfl, Nat.le_of_ble_eq_true rfl, (ne_of_none hob ht).symm, B2.put ht, fun j v5 H5 hj B5 k5 => ?_⟩
    obtain ⟨z, rfl⟩ : ∃ z : Int, v5 = V.int z := by
      have m := List.mem_of_getElem? hj
      simp only [List.mem_cons, List.not_mem_nil, or_false] at m
      rcases m with rfl | rfl | rfl <;> exact ⟨_, rfl⟩
    walk_at "rd"
    refine ⟨(w - 1).toNat, by rw [ew], lw, ?_⟩
    walk_at "rd"
    intro v3 H6 p3 p3' B6 k6
    walk_at "rd"
    exact q _ H6 B6 (((k1.trans k2).trans (Kp.put (Kp.refl) ht)).trans (k5.trans k6))
  · walk_at "rd"
    intro v2 H2 p2 p2' B2 k2
    walk_at "rd"
    have e2 : ((1 + v2).toNat : Int) = 1 + v2 := by omega
    refine for_range (lo := 0) (n := (1 + v2).toNat) (fun i σ H3 => ∃ (v : Option V) (n : Int), σ = [some (.ref b), some (.int w), some (.int n), v] ∧ BagAt H3 b ∧ Kp b H H3) ⟨none, 0, rfl, B2, k1.trans k2⟩ ?_ ?_
    · rintro i σ H3 hi ⟨v, n, rfl, B3, k3⟩
      walk_at "rd"
      intro v4 H4 p4 p4' B4 k4
      walk_at "rd"
      exact k3.trans k4
    · rintro σ H3 ⟨v, n, rfl, B3, k3⟩
      walk_at "rd"
      intro v4 H4 p4 p4' B4 k4
      walk_at "rd"
      refine iteD (fun c2 => ?_) (fun c2 => ?_)
      · walk_at "rd"
        exact q _ H4 B4 (k3.trans k4)
      · walk_at "rd"
        exact q _ H4 B4 (k3.trans k4)

end
end K02
namespace K02
open PySem PySem.Spec PyProof.Rows L2 My
section
variable {P : Program} {w : World} {K : PySem.W.Frag} {mg : Str → Option Value} {base : Heap}

theorem btw_out {n lo hi : Int} (h : n < lo ∨ hi < n) : btw (.int n) lo hi = false := by
  show (decide (lo ≤ n) && decide (n ≤ hi)) = false
  rcases h with h | h
  · rw [decide_eq_false (show ¬ lo ≤ n by omega)]; rfl
  · rw [decide_eq_false (show ¬ n ≤ hi by omega), Bool.and_false]
abbrev spOddN : Sp := Sp2 fun x y H Q _ => ∃ (b : Addr) (w : Int), x = .ref b ∧ y = .int w ∧ Wd w ∧ BagAt H b ∧ ∀ (v : V) (d : PyData) (H' : Hp), PD H' v d → isN w v = false → BagAt H' b → Kp b H H' → Q v H'

theorem ok__law_odd_number (M : TX K mg) : FnOk P w K mg base (L2.CX P w) 3 M.f__law_odd_number M.d__law_odd_number ["_law_bag_here", "_law_width"] (spOddN) := by
  have sc := sc__law_odd_number
  refine M.F__law_odd_number.okX sc (fun vs H Q E h => Sp2_len h) (fun cdv A outer s H vs Q E hr h => ?_)
  obtain ⟨x0, x1, rfl, h⟩ := h
  have hu := hu_of hr
  have hu64 := hr.units
  refine ⟨_, (pss_cons (ps_set (i := 2) sc.nd rfl (Or.inl rfl) (pe_call (ok__law_doubled M) (hr.mono (by decide)) rfl M.g__law_doubled M.F__law_doubled.kp M.b__law_doubled .nil (passE rfl rfl rfl rfl) (pa_cons (pe_op op_sub (pv 1) pe_int) pa_nil)))
    (pss_cons (ps_set (i := 3) sc.nd rfl (Or.inl rfl) (pe_lst (pa_cons (pv 2) (pa_cons (pe_op op_sub (pe_un un_neg (pv 2)) pe_int) (pa_cons (pe_op op_add (pv 2) (pe_call (ok__law_pick M) (hr.mono (by decide)) rfl M.g__law_pick M.F__law_pick.kp M.b__law_pick .nil (passE rfl rfl rfl rfl) (pa_cons (pv 0) (pa_cons pe_int pa_nil)))) (pa_cons (pe_op op_sub (pe_op op_sub (pe_un un_neg (pv 2)) pe_int) (pe_call (ok__law_pick M) (hr.mono (by decide)) rfl M.g__law_pick M.F__law_pick.kp M.b__law_pick .nil (passE rfl rfl rfl rfl) (pa_cons (pv 0) (pa_cons pe_int pa_nil)))) (pa_cons (pe_op op_sub (pe_op op_mul pe_int (pv 2)) pe_int) (pa_cons (pe_op op_pow pe_int pe_int) (pa_cons (pe_un un_neg (pe_op op_pow pe_int pe_int)) (pa_cons pe_bl (pa_cons pe_bl (pa_cons pe_non (pa_cons pe_str (pa_cons pe_str (pa_cons (pe_tup (pa_cons pe_int pa_nil)) (pa_cons (pe_tup (pa_cons pe_int pa_nil)) pa_nil))))))))))))))))
    (pss_one (ps_ret (pe_call (ok__law_choice M) (hr.mono (by decide)) rfl M.g__law_choice M.F__law_choice.kp M.b__law_choice .nil (passE rfl rfl rfl rfl) (pa_cons (pv 0) (pa_cons (pv 3) pa_nil))))))), ?_⟩

  obtain ⟨b, w, rfl, rfl, hw, B, q⟩ := h
  have ew : ((w - 1).toNat : Int) = w - 1 := by rcases hw with rfl | rfl | rfl <;> rfl
  have lw : (w - 1).toNat ≤ 63 := by rcases hw with rfl | rfl | rfl <;> decide
  have hq := hf_pos hw
  have eh : (2 : Int) ^ (w - 1).toNat = hf w := rfl
  walk_at "rd"
  refine ⟨(w - 1).toNat, by rw [ew], lw, ?_⟩
  rw [eh]
  clear eh ew lw
  walk_at "rd"
  intro v2 H2 p2 p2' B2 k2
  walk_at "rd"
  intro v3 H3 p3 p3' B3 k3
  walk_at "rd"
  intro t1 ht1
  walk_at "rd"
  intro t2 ht2
  walk_at "rd"
  intro l hl
  obtain ⟨ob, hob⟩ := B3.some
  have n1 : t1 ≠ b := (ne_of_none hob ht1).symm
  have s1 : Same H3 (upd H3 t1 (.tup [V.int 0])) := Same.put (Same.refl H3) ht1
  have s2 : Same (upd H3 t1 (.tup [V.int 0])) (upd (upd H3 t1 (.tup [V.int 0])) t2 (.tup [V.int 3])) := Same.put (Same.refl _) ht2
  have hb2 := s2 _ _ (s1 _ _ hob)
  have n2 : t2 ≠ b := (ne_of_none (s1 _ _ hob) ht2).symm
  have h1 := s2 t1 _ upd_same
  have B' := (B3.put (o := .tup [V.int 0]) ht1).put (o := .tup [V.int 3]) ht2
  have k' : Kp b H (upd (upd H3 t1 (.tup [V.int 0])) t2 (.tup [V.int 3])) := (k2.trans k3).trans (Kp.of (s1.trans s2))
  have h2 : upd (upd H3 t1 (.tup [V.int 0])) t2 (.tup [V.int 3]) t2 = some (.tup [V.int 3]) := upd_same
  generalize upd (upd H3 t1 (.tup [V.int 0])) t2 (.tup [V.int 3]) = H6 at *
  refine ⟨_, rfl, _, rfl, _, _, rfl, b, l, _, rfl, rfl, upd_same, Nat.le_of_ble_eq_true rfl, Nat.le_of_ble_eq_true rfl, (ne_of_none hb2 hl).symm, B'.put hl, fun j v H5 hj B5 k5 => ?_⟩
  have h1 := k5 _ _ n1 ((Same.put (Same.refl _) hl) _ _ h1)
  have h2 := k5 _ _ n2 ((Same.put (Same.refl _) hl) _ _ h2)
  have kk := (k'.trans (Kp.of (Same.put (Same.refl _) hl))).trans k5
  have m := List.mem_of_getElem? hj
  clear hj k5 B' k'
  simp only [List.mem_cons, List.not_mem_nil, or_false] at m
  rcases m with rfl | rfl | rfl | rfl | rfl | rfl | rfl | rfl | rfl | rfl | rfl | rfl | rfl | rfl
  · exact q _ _ H5 (.int _) (btw_out (.inr (by omega))) B5 kk
  · exact q _ _ H5 (.int _) (btw_out (.inl (by omega))) B5 kk
  · exact q _ _ H5 (.int _) (btw_out (.inr (by omega))) B5 kk
  · exact q _ _ H5 (.int _) (btw_out (.inl (by omega))) B5 kk
  · exact q _ _ H5 (.int _) (btw_out (.inr (by omega))) B5 kk
  · exact q _ _ H5 (.int _) (btw_out (.inr (show hf w - 1 < 1000000000000000000000000000000000000000 by omega))) B5 kk
  · exact q _ _ H5 (.int _) (btw_out (.inl (show -1000000000000000000000000000000000000000 < -(hf w) by omega))) B5 kk
  · exact q _ _ H5 (.bl _) rfl B5 kk
  · exact q _ _ H5 (.bl _) rfl B5 kk
  · exact q _ _ H5 .non rfl B5 kk
  · exact q _ _ H5 (.str _ (by decide +kernel)) rfl B5 kk
  · exact q _ _ H5 (.str _ (by decide +kernel)) rfl B5 kk
  · exact q _ _ H5 (.tupI h1) rfl B5 kk
  · exact q _ _ H5 (.tupI h2) rfl B5 kk


abbrev spOddB : Sp := Sp1 fun x H Q _ => ∃ (b : Addr), x = .ref b ∧ BagAt H b ∧ ∀ (v : V) (d : PyData) (H' : Hp), PD H' v d → btw v 0 255 = false → BagAt H' b → Kp b H H' → Q v H'

theorem ok__law_odd_byte (M : TX K mg) : FnOk P w K mg base (L2.CX P w) 3 M.f__law_odd_byte M.d__law_odd_byte ["_law_bag_here"] (spOddB) := by
  have sc := sc__law_odd_byte
  refine M.F__law_odd_byte.okX sc (fun vs H Q E h => Sp1_len h) (fun cdv A outer s H vs Q E hr h => ?_)
  obtain ⟨x0, rfl, h⟩ := h
  have hu := hu_of hr
  have hu64 := hr.units
  refine ⟨_, (pss_cons (ps_set (i := 1) sc.nd rfl (Or.inl rfl) (pe_op op_add pe_int (pe_call (ok__law_pick M) (hr.mono (by decide)) rfl M.g__law_pick M.F__law_pick.kp M.b__law_pick .nil (passE rfl rfl rfl rfl) (pa_cons (pv 0) (pa_cons pe_int pa_nil)))))
    (pss_one (ps_ret (pe_call (ok__law_choice M) (hr.mono (by decide)) rfl M.g__law_choice M.F__law_choice.kp M.b__law_choice .nil (passE rfl rfl rfl rfl) (pa_cons (pv 0) (pa_cons (pe_lst (pa_cons pe_int (pa_cons pe_int (pa_cons pe_int (pa_cons (pe_un un_neg pe_int) (pa_cons (pe_un un_neg pe_int) (pa_cons (pe_un un_neg pe_int) (pa_cons (pv 1) (pa_cons (pe_un un_neg (pv 1)) (pa_cons (pe_op op_pow pe_int pe_int) (pa_cons pe_bl (pa_cons pe_bl (pa_cons pe_non (pa_cons pe_str (pa_cons pe_str (pa_cons (pe_tup (pa_cons pe_int pa_nil)) pa_nil)))))))))))))))) pa_nil)))))), ?_⟩

  obtain ⟨b, rfl, B, q⟩ := h
  walk_at "rd"
  intro v3 H3 p3 p3' B3 k3
  walk_at "rd"
  intro t1 ht1
  walk_at "rd"
  intro l hl
  obtain ⟨ob, hob⟩ := B3.some
  have n1 : t1 ≠ b := (ne_of_none hob ht1).symm
  have s1 : Same H3 (upd H3 t1 (.tup [V.int 7])) := Same.put (Same.refl H3) ht1
  have hb2 := s1 _ _ hob
  have B' := (B3.put (o := .tup [V.int 7]) ht1)
  have k' : Kp b H (upd H3 t1 (.tup [V.int 7])) := k3.trans (Kp.of s1)
  have h1 : upd H3 t1 (.tup [V.int 7]) t1 = some (.tup [V.int 7]) := upd_same
  generalize upd H3 t1 (.tup [V.int 7]) = H6 at *
  refine ⟨_, _, rfl, b, l, _, rfl, rfl, upd_same, Nat.le_of_ble_eq_true rfl, Nat.le_of_ble_eq_true rfl, (ne_of_none hb2 hl).symm, B'.put hl, fun j v H5 hj B5 k5 => ?_⟩
  have h1 := k5 _ _ n1 ((Same.put (Same.refl _) hl) _ _ h1)
  have kk := (k'.trans (Kp.of (Same.put (Same.refl _) hl))).trans k5
  have m := List.mem_of_getElem? hj
  clear hj k5 B' k'
  simp only [List.mem_cons, List.not_mem_nil, or_false] at m
  rcases m with rfl | rfl | rfl | rfl | rfl | rfl | rfl | rfl | rfl | rfl | rfl | rfl | rfl | rfl | rfl
  · exact q _ _ H5 (.int _) (btw_out (.inr (by omega))) B5 kk
  · exact q _ _ H5 (.int _) (btw_out (.inr (by omega))) B5 kk
  · exact q _ _ H5 (.int _) (btw_out (.inr (by omega))) B5 kk
  · exact q _ _ H5 (.int _) (btw_out (.inl (by omega))) B5 kk
  · exact q _ _ H5 (.int _) (btw_out (.inl (by omega))) B5 kk
  · exact q _ _ H5 (.int _) (btw_out (.inl (by omega))) B5 kk
  · exact q _ _ H5 (.int _) (btw_out (.inr (by omega))) B5 kk
  · exact q _ _ H5 (.int _) (btw_out (.inl (by omega))) B5 kk
  · exact q _ _ H5 (.int _) (btw_out (.inr (show (255 : Int) < 1000000000000000000000000000000000000000 by omega))) B5 kk
  · exact q _ _ H5 (.bl _) rfl B5 kk
  · exact q _ _ H5 (.bl _) rfl B5 kk
  · exact q _ _ H5 .non rfl B5 kk
  · exact q _ _ H5 (.str _ (by decide +kernel)) rfl B5 kk
  · exact q _ _ H5 (.str _ (by decide +kernel)) rfl B5 kk
  · exact q _ _ H5 (.tupI h1) rfl B5 kk


theorem isW_out {n : Int} (h : n ≠ 16 ∧ n ≠ 24 ∧ n ≠ 32) : isW (.int n) = false := decide_eq_false (by omega)
abbrev spOddW : Sp := Sp1 fun x H Q _ => ∃ (b : Addr), x = .ref b ∧ BagAt H b ∧ ∀ (v : V) (d : PyData) (H' : Hp), PD H' v d → isW v = false → BagAt H' b → Kp b H H' → Q v H'

theorem ok__law_odd_width (M : TX K mg) : FnOk P w K mg base (L2.CX P w) 3 M.f__law_odd_width M.d__law_odd_width ["_law_bag_here"] (spOddW) := by
  have sc := sc__law_odd_width
  refine M.F__law_odd_width.okX sc (fun vs H Q E h => Sp1_len h) (fun cdv A outer s H vs Q E hr h => ?_)
  obtain ⟨x0, rfl, h⟩ := h
  have hu := hu_of hr
  have hu64 := hr.units
  refine ⟨_, (pss_cons (ps_set (i := 1) sc.nd rfl (Or.inl rfl) (pe_op op_add pe_int (pe_call (ok__law_pick M) (hr.mono (by decide)) rfl M.g__law_pick M.F__law_pick.kp M.b__law_pick .nil (passE rfl rfl rfl rfl) (pa_cons (pv 0) (pa_cons pe_int pa_nil)))))
    (pss_one (ps_ret (pe_call (ok__law_choice M) (hr.mono (by decide)) rfl M.g__law_choice M.F__law_choice.kp M.b__law_choice .nil (passE rfl rfl rfl rfl) (pa_cons (pv 0) (pa_cons (pe_lst (pa_cons pe_int (pa_cons pe_int (pa_cons pe_int (pa_cons pe_int (pa_cons pe_int (pa_cons pe_int (pa_cons pe_int (pa_cons pe_int (pa_cons pe_int (pa_cons pe_int (pa_cons (pe_un un_neg pe_int) (pa_cons (pe_un un_neg pe_int) (pa_cons pe_bl (pa_cons pe_non (pa_cons pe_str (pa_cons (pe_tup (pa_cons pe_int pa_nil)) (pa_cons (pv 1) (pa_cons (pe_un un_neg (pv 1)) pa_nil))))))))))))))))))) pa_nil)))))), ?_⟩

  obtain ⟨b, rfl, B, q⟩ := h
  walk_at "rd"
  intro v3 H3 p3 p3' B3 k3
  walk_at "rd"
  intro t1 ht1
  walk_at "rd"
  intro l hl
  obtain ⟨ob, hob⟩ := B3.some
  have n1 : t1 ≠ b := (ne_of_none hob ht1).symm
  have s1 : Same H3 (upd H3 t1 (.tup [V.int 16])) := Same.put (Same.refl H3) ht1
  have hb2 := s1 _ _ hob
  have B' := (B3.put (o := .tup [V.int 16]) ht1)
  have k' : Kp b H (upd H3 t1 (.tup [V.int 16])) := k3.trans (Kp.of s1)
  have h1 : upd H3 t1 (.tup [V.int 16]) t1 = some (.tup [V.int 16]) := upd_same
  generalize upd H3 t1 (.tup [V.int 16]) = H6 at *
  refine ⟨_, _, rfl, b, l, _, rfl, rfl, upd_same, Nat.le_of_ble_eq_true rfl, Nat.le_of_ble_eq_true rfl, (ne_of_none hb2 hl).symm, B'.put hl, fun j v H5 hj B5 k5 => ?_⟩
  have h1 := k5 _ _ n1 ((Same.put (Same.refl _) hl) _ _ h1)
  have kk := (k'.trans (Kp.of (Same.put (Same.refl _) hl))).trans k5
  have m := List.mem_of_getElem? hj
  clear hj k5 B' k'
  simp only [List.mem_cons, List.not_mem_nil, or_false] at m
  rcases m with rfl | rfl | rfl | rfl | rfl | rfl | rfl | rfl | rfl | rfl | rfl | rfl | rfl | rfl | rfl | rfl | rfl | rfl
  iterate 12 (first | exact q _ _ H5 (.int _) (isW_out (by omega)) B5 kk | skip)
  · exact q _ _ H5 (.bl _) rfl B5 kk
  · exact q _ _ H5 .non rfl B5 kk
  · exact q _ _ H5 (.str _ (by decide +kernel)) rfl B5 kk
  · exact q _ _ H5 (.tupI h1) rfl B5 kk
  · exact q _ _ H5 (.int _) (isW_out (by omega)) B5 kk
  · exact q _ _ H5 (.int _) (isW_out (by omega)) B5 kk

end
end K02
namespace K02
open PySem PySem.Spec PyProof.Rows L2 My
section
variable {P : Program} {w : World} {K : PySem.W.Frag} {mg : Str → Option Value} {base : Heap}

theorem back_num {w n : Int} (hw : Wd w) (hn : InR w n) : wrapI w (vb (bys (w / 8).toNat (n % (2 * hf w)))) = n := by
  unfold InR at hn
  have e : vb (bys (w / 8).toNat (n % (2 * hf w))) = n % (2 * hf w) := by
    rcases hf_val hw with ⟨rfl, e⟩ | ⟨rfl, e⟩ | ⟨rfl, e⟩
    · rw [e]
      show ((0 * 256 + (n % (2 * 32768)) / 256 % 256) * 256 + (n % (2 * 32768)) / 1 % 256) = n % (2 * 32768)
      omega
    · rw [e]
      show (((0 * 256 + (n % (2 * 8388608)) / 65536 % 256) * 256 + (n % (2 * 8388608)) / 256 % 256) * 256 + (n % (2 * 8388608)) / 1 % 256) = n % (2 * 8388608)
      omega
    · rw [e]
      show ((((0 * 256 + (n % (2 * 2147483648)) / 16777216 % 256) * 256 + (n % (2 * 2147483648)) / 65536 % 256) * 256 + (n % (2 * 2147483648)) / 256 % 256) * 256 + (n % (2 * 2147483648)) / 1 % 256) = n % (2 * 2147483648)
      omega
  rw [e]
  unfold wrapI
  rcases hf_val hw with ⟨rfl, e⟩ | ⟨rfl, e⟩ | ⟨rfl, e⟩ <;> rw [e] at hn ⊢ <;> omega
theorem bys_rng {k : Nat} {r : Int} : ∀ n ∈ bys k r, 0 ≤ n ∧ n < 256 := by
  intro n hn
  obtain ⟨j, _, rfl⟩ := List.mem_map.mp hn
  exact ⟨Int.emod_nonneg _ (by decide), Int.emod_lt_of_pos _ (by decide)⟩
theorem isN_in {w n : Int} (hn : InR w n) : isN w (.int n) = true := by
  unfold InR at hn
  show (decide (-(hf w) ≤ n) && decide (n ≤ hf w - 1)) = true
  rw [decide_eq_true (show -(hf w) ≤ n by omega), decide_eq_true (show n ≤ hf w - 1 by omega)]; rfl
abbrev spNumsR : Sp := Sp2 fun x y H Q _ => ∃ (b : Addr) (w : Int), x = .ref b ∧ y = .int w ∧ Wd w ∧ BagAt H b ∧ ∀ H', BagAt H' b → Kp b H H' → Q (.bl true) H'

theorem ok__law_numbers_right (M : TX K mg) : FnOk P w K mg base (L2.CX P w) 10 M.f__law_numbers_right M.d__law_numbers_right ["_law_bag_here", "_law_width"] (spNumsR) := by
  have sc := sc__law_numbers_right
  refine M.F__law_numbers_right.okX sc (fun vs H Q E h => Sp2_len h) (fun cdv A outer s H vs Q E hr h => ?_)
  obtain ⟨x0, x1, rfl, h⟩ := h
  have hu := hu_of hr
  have hu64 := hr.units
  refine ⟨_, (pss_cons (ps_set (i := 2) sc.nd rfl (Or.inl rfl) (pe_call (ok__law_doubled M) (hr.mono (by decide)) rfl M.g__law_doubled M.F__law_doubled.kp M.b__law_doubled .nil (passE rfl rfl rfl rfl) (pa_cons (pe_op op_sub (pv 1) pe_int) pa_nil)))
    (pss_cons (ps_if (pt_not (pt_val (pe_call (ok__law_is_told M) (hr.mono (by decide)) rfl M.g__law_is_told M.F__law_is_told.kp M.b__law_is_told .nil (passE rfl rfl rfl rfl) (pa_cons (pe_call (ok__law_asked M) (hr.mono (by decide)) rfl M.g__law_asked M.F__law_asked.kp M.b__law_asked .nil (passE rfl rfl rfl rfl) (pa_cons pe_str (pa_cons (pv 1) (pa_cons pe_non pa_nil)))) (pa_cons (pv 2) pa_nil)))))
      (pss_one (ps_ret pe_bl))
      pss_nil)
    (pss_cons (ps_set (i := 3) sc.nd rfl (Or.inl rfl) (pe_call (ok__law_num M) (hr.mono (by decide)) rfl M.g__law_num M.F__law_num.kp M.b__law_num .nil (passE rfl rfl rfl rfl) (pa_cons (pv 0) (pa_cons (pv 1) pa_nil))))
    (pss_cons (ps_for (passes_of rfl) rfl (pi_listK K (pi_list (pe_lst (pa_cons (pv 3) (pa_cons (pe_op op_sub (pv 2) pe_int) (pa_cons (pe_un un_neg (pv 2)) (pa_cons pe_int pa_nil))))))) (pg_name (i := 4) sc.nd rfl (Or.inl rfl))
      (pss_cons (ps_if (PW.pt (pw_or (pt_not (pt_val (pe_call (ok__law_same M) (hr.mono (by decide)) rfl M.g__law_same M.F__law_same.kp M.b__law_same .nil (passE rfl rfl rfl rfl) (pa_cons (pe_call (ok__law_asked M) (hr.mono (by decide)) rfl M.g__law_asked M.F__law_asked.kp M.b__law_asked .nil (passE rfl rfl rfl rfl) (pa_cons pe_str (pa_cons (pv 1) (pa_cons (pv 4) pa_nil)))) (pa_cons (pe_tup (pa_cons pe_str (pa_cons pe_bl pa_nil))) pa_nil))))) (pw_or1 (pt_not (pt_val (pe_call (ok__law_wrapped_right M) (hr.mono (by decide)) rfl M.g__law_wrapped_right M.F__law_wrapped_right.kp M.b__law_wrapped_right .nil (passE rfl rfl rfl rfl) (pa_cons (pv 1) (pa_cons (pv 4) pa_nil))))))))
        (pss_one (ps_ret pe_bl))
        pss_nil)
      (pss_cons (ps_set (i := 5) sc.nd rfl (Or.inl rfl) (pe_call (ok__law_bytes M) (hr.mono (by decide)) rfl M.g__law_bytes M.F__law_bytes.kp M.b__law_bytes .nil (passE rfl rfl rfl rfl) (pa_cons (pv 1) (pa_cons (pv 4) pa_nil))))
      (pss_cons (ps_if (pt_not (pt_val (pe_call (ok__law_is_row M) (hr.mono (by decide)) rfl M.g__law_is_row M.F__law_is_row.kp M.b__law_is_row .nil (passE rfl rfl rfl rfl) (pa_cons (pe_call (ok__law_asked M) (hr.mono (by decide)) rfl M.g__law_asked M.F__law_asked.kp M.b__law_asked .nil (passE rfl rfl rfl rfl) (pa_cons pe_str (pa_cons (pv 1) (pa_cons (pv 4) pa_nil)))) (pa_cons (pv 5) pa_nil)))))
        (pss_one (ps_ret pe_bl))
        pss_nil)
      (pss_one (ps_if (pt_not (pt_val (pe_call (ok__law_is_told M) (hr.mono (by decide)) rfl M.g__law_is_told M.F__law_is_told.kp M.b__law_is_told .nil (passE rfl rfl rfl rfl) (pa_cons (pe_call (ok__law_asked M) (hr.mono (by decide)) rfl M.g__law_asked M.F__law_asked.kp M.b__law_asked .nil (passE rfl rfl rfl rfl) (pa_cons pe_str (pa_cons (pv 1) (pa_cons (pe_callTy (call_listK K) (by rfl) M.n_list (by decide +kernel) (pa_cons (pv 5) pa_nil)) pa_nil)))) (pa_cons (pv 4) pa_nil)))))
        (pss_one (ps_ret pe_bl))
        pss_nil))))))
    (pss_cons (ps_set (i := 6) sc.nd rfl (Or.inl rfl) (pe_call (ok__law_odd_number M) (hr.mono (by decide)) rfl M.g__law_odd_number M.F__law_odd_number.kp M.b__law_odd_number .nil (passE rfl rfl rfl rfl) (pa_cons (pv 0) (pa_cons (pv 1) pa_nil))))
    (pss_cons (ps_for (passes_of rfl) rfl (pi_listK K (pi_list (pe_lst (pa_cons (pv 6) (pa_cons (pv 2) (pa_cons (pe_op op_sub (pe_un un_neg (pv 2)) pe_int) (pa_cons pe_bl (pa_cons pe_str pa_nil)))))))) (pg_name (i := 4) sc.nd rfl (Or.inl rfl))
      (pss_cons (ps_if (pt_not (pt_val (pe_call (ok__law_same M) (hr.mono (by decide)) rfl M.g__law_same M.F__law_same.kp M.b__law_same .nil (passE rfl rfl rfl rfl) (pa_cons (pe_call (ok__law_asked M) (hr.mono (by decide)) rfl M.g__law_asked M.F__law_asked.kp M.b__law_asked .nil (passE rfl rfl rfl rfl) (pa_cons pe_str (pa_cons (pv 1) (pa_cons (pv 4) pa_nil)))) (pa_cons (pe_tup (pa_cons pe_str (pa_cons pe_bl pa_nil))) pa_nil)))))
        (pss_one (ps_ret pe_bl))
        pss_nil)
      (pss_one (ps_if (pt_not (pt_val (pe_call (ok__law_same M) (hr.mono (by decide)) rfl M.g__law_same M.F__law_same.kp M.b__law_same .nil (passE rfl rfl rfl rfl) (pa_cons (pe_call (ok__law_asked M) (hr.mono (by decide)) rfl M.g__law_asked M.F__law_asked.kp M.b__law_asked .nil (passE rfl rfl rfl rfl) (pa_cons pe_str (pa_cons (pv 1) (pa_cons (pv 4) pa_nil)))) (pa_cons (pe_tup (pa_cons pe_str (pa_cons (pv 4) pa_nil))) pa_nil)))))
        (pss_one (ps_ret pe_bl))
        pss_nil))))
    (pss_one (ps_ret (pe_and (pe_call (ok__law_wrapped_right M) (hr.mono (by decide)) rfl M.g__law_wrapped_right M.F__law_wrapped_right.kp M.b__law_wrapped_right .nil (passE rfl rfl rfl rfl) (pa_cons (pv 1) (pa_cons (pe_call (ok__law_great M) (hr.mono (by decide)) rfl M.g__law_great M.F__law_great.kp M.b__law_great .nil (passE rfl rfl rfl rfl) (pa_cons (pv 0) (pa_cons (pv 1) pa_nil))) pa_nil))) (pe_one (pe_call (ok__law_wrapped_right M) (hr.mono (by decide)) rfl M.g__law_wrapped_right M.F__law_wrapped_right.kp M.b__law_wrapped_right .nil (passE rfl rfl rfl rfl) (pa_cons (pv 1) (pa_cons (pe_call (ok__law_great M) (hr.mono (by decide)) rfl M.g__law_great M.F__law_great.kp M.b__law_great .nil (passE rfl rfl rfl rfl) (pa_cons (pv 0) (pa_cons (pv 1) pa_nil))) pa_nil))))))))))))), ?_⟩

  obtain ⟨b, w, rfl, rfl, hw, B, q⟩ := h
  have ew : ((w - 1).toNat : Int) = w - 1 := by rcases hw with rfl | rfl | rfl <;> rfl
  have lw : (w - 1).toNat ≤ 63 := by rcases hw with rfl | rfl | rfl <;> decide
  have hq := hf_pos hw
  have eh : (2 : Int) ^ (w - 1).toNat = hf w := rfl
  walk_at "rd"
  refine ⟨(w - 1).toNat, by rw [ew], lw, ?_⟩
  rw [eh]
  clear eh ew lw
  walk_at "rd"
  refine ask_half hw fun t0 H0 ht0 s0 => ?_
  have B0 := B.same s0
  walk_at "rd"
  intro n0 H1 hn0 B1 k1
  walk_at "rd"
  intro l hl
  refine ⟨l, rfl, ⟨_, SqL.of upd_same⟩, ?_⟩
  have kA : Kp b H (upd H1 l (.lst [V.int n0, V.int (hf w - 1), V.int (-(hf w)), V.int 0])) := ((Kp.of s0).trans k1).trans (Kp.put Kp.refl hl)
  have B1' := B1.put (o := .lst [V.int n0, V.int (hf w - 1), V.int (-(hf w)), V.int 0]) hl
  have hl1 : upd H1 l (.lst [V.int n0, V.int (hf w - 1), V.int (-(hf w)), V.int 0]) l = some (.lst [V.int n0, V.int (hf w - 1), V.int (-(hf w)), V.int 0]) := upd_same
  have hall : ∀ x ∈ [V.int n0, V.int (hf w - 1), V.int (-(hf w)), V.int 0], ∃ n, x = V.int n ∧ InR w n := by
    intro x m
    simp only [List.mem_cons, List.not_mem_nil, or_false] at m
    unfold InR
    rcases m with rfl | rfl | rfl | rfl
    · exact ⟨_, rfl, hn0⟩
    · exact ⟨_, rfl, by omega⟩
    · exact ⟨_, rfl, by omega⟩
    · exact ⟨_, rfl, by omega⟩
  obtain ⟨HA, eA⟩ : ∃ HA, HA = upd H1 l (.lst [V.int n0, V.int (hf w - 1), V.int (-(hf w)), V.int 0]) := ⟨_, rfl⟩
  obtain ⟨xs, eX⟩ : ∃ xs, xs = [V.int n0, V.int (hf w - 1), V.int (-(hf w)), V.int 0] := ⟨_, rfl⟩
  have sI : Same HA (upd H1 l (.lst [V.int n0, V.int (hf w - 1), V.int (-(hf w)), V.int 0])) := by rw [eA]; exact Same.refl _
  rw [← eA] at kA B1' hl1
  rw [← eX] at hl1 hall
  clear eA eX B0 B1 k1 s0 ht0 hl B hn0
  refine for_list (K := K) (a := l) (xs := xs) (fun i σ H2 => Same HA H2 ∧ ∃ v4 v5, σ = [some (.ref b), some (.int w), some (.int (hf w)), some (.int n0), v4, v5, none]) ⟨sI, none, none, rfl⟩ (fun i σ H2 _ h => SqL.of (h.1 _ _ hl1)) ?_ ?_
  · rintro i x σ H2 hi ⟨sA, v4, v5, rfl⟩
    obtain ⟨n, rfl, hn⟩ := hall x (List.mem_of_getElem? hi)
    have hN := isN_in hn
    clear hall hi kA B1' hl1 q
    walk_at "rd"
    refine ask_is (.int n) hw fun t1 H3 ht1 s3 => ?_
    rw [hN] at ht1
    walk_at "rd"
    intro u1 hu1
    have s4 := Same.put (o := .tup [V.str "told", V.bl true]) (Same.refl H3) hu1
    refine ⟨_, _, rfl, t1, u1, "told", .bl true, .bool true, rfl, rfl, s4 _ _ ht1, upd_same, .bl true, true, rfl, ?_⟩
    walk_at "rd"
    intro H5 s5
    walk_at "rd"
    intro l5 H6 hl5 hr5 s6
    walk_at "rd"
    refine ask_bytes hw hn fun t2 u2 H7 ht2 hu2 s7 => ?_
    have hl7 := s7 _ _ hr5
    have hk : ((w / 8).toNat : Int) = w / 8 := by rcases hw with rfl | rfl | rfl <;> rfl
    have hk2 : (w / 8).toNat ≤ 4 := by rcases hw with rfl | rfl | rfl <;> decide
    refine ⟨_, rfl, _, _, rfl, t2, u2, l5, _, rfl, rfl, ht2, hu2, hl7, by rw [bys_len]; omega, true, rfl, ?_⟩
    walk_at "rd"
    intro l8 hl8
    refine ⟨_, _, _, rfl, ask_back (ns := bys (w / 8).toNat (n % (2 * hf w))) (.inl upd_same) hw (by rw [bys_len]; exact hk) bys_rng fun t3 H9 ht3 s9 => ?_⟩
    rw [back_num hw hn] at ht3
    refine ⟨_, rfl, _, _, rfl, t3, n, rfl, rfl, ht3, true, rfl, ?_⟩
    have sZ : Same HA H9 := sA.trans (s3.trans (s4.trans (s5.trans (s6.trans (s7.trans ((Same.put (Same.refl H7) hl8).trans s9))))))
    exact ⟨sZ, _, _, rfl⟩
  · rintro σ H2 ⟨sA, v4, v5, rfl⟩
    have B2 := B1'.same sA
    have k2 := kA.trans (Kp.of sA)
    clear hall kA B1' hl1 sA
    walk_at "rd"
    intro odd d H3 pd hod B3 k3
    walk_at "rd"
    intro l2 hl2
    refine ⟨l2, rfl, ⟨_, SqL.of upd_same⟩, ?_⟩
    have B3' := B3.put (o := .lst [odd, V.int (hf w), V.int (-(hf w) - 1), V.bl true, V.str "0"]) hl2
    have kB : Kp b H (upd H3 l2 (.lst [odd, V.int (hf w), V.int (-(hf w) - 1), V.bl true, V.str "0"])) := (k2.trans k3).trans (Kp.put Kp.refl hl2)
    have hl3 : upd H3 l2 (.lst [odd, V.int (hf w), V.int (-(hf w) - 1), V.bl true, V.str "0"]) l2 = some (.lst [odd, V.int (hf w), V.int (-(hf w) - 1), V.bl true, V.str "0"]) := upd_same
    have sB : Same H3 (upd H3 l2 (.lst [odd, V.int (hf w), V.int (-(hf w) - 1), V.bl true, V.str "0"])) := Same.put (Same.refl H3) hl2
    have hall : ∀ x ∈ [odd, V.int (hf w), V.int (-(hf w) - 1), V.bl true, V.str "0"], ∃ d, PD H3 x d ∧ isN w x = false := by
      intro x m
      simp only [List.mem_cons, List.not_mem_nil, or_false] at m
      rcases m with rfl | rfl | rfl | rfl | rfl
      · exact ⟨_, pd, hod⟩
      · exact ⟨_, .int _, btw_out (.inr (by omega))⟩
      · exact ⟨_, .int _, btw_out (.inl (by omega))⟩
      · exact ⟨_, .bl _, rfl⟩
      · exact ⟨_, .str _ (by decide +kernel), rfl⟩
    obtain ⟨HB, eA⟩ : ∃ HB, HB = upd H3 l2 (.lst [odd, V.int (hf w), V.int (-(hf w) - 1), V.bl true, V.str "0"]) := ⟨_, rfl⟩
    obtain ⟨ys, eX⟩ : ∃ ys, ys = [odd, V.int (hf w), V.int (-(hf w) - 1), V.bl true, V.str "0"] := ⟨_, rfl⟩
    have sI : Same HB (upd H3 l2 (.lst [odd, V.int (hf w), V.int (-(hf w) - 1), V.bl true, V.str "0"])) := by rw [eA]; exact Same.refl _
    rw [← eA] at kB B3' hl3 sB
    rw [← eX] at hl3 hall
    clear eA eX pd hod B3 k3 k2 hl2 B2
    refine for_list (K := K) (a := l2) (xs := ys) (fun i σ H4 => Same HB H4 ∧ ∃ v4 v5, σ = [some (.ref b), some (.int w), some (.int (hf w)), some (.int n0), v4, v5, some odd]) ⟨sI, _, _, rfl⟩ (fun i σ H4 _ h => SqL.of (h.1 _ _ hl3)) ?_ ?_
    · rintro i x σ H4 hi ⟨sA, v4, v5, rfl⟩
      obtain ⟨d, pd, hN⟩ := hall x (List.mem_of_getElem? hi)
      have pd4 := pd.same (sB.trans sA)
      clear hall hi kB B3' hl3 q
      walk_at "rd"
      refine ask_is pd4.pl hw fun t1 H5 ht1 s5 => ?_
      rw [hN] at ht1
      walk_at "rd"
      intro u1 hu1
      have s6 := Same.put (o := .tup [V.str "told", V.bl false]) (Same.refl H5) hu1
      refine ⟨_, _, rfl, t1, u1, "told", .bl false, .bool false, rfl, rfl, s6 _ _ ht1, upd_same, .bl false, true, rfl, ?_⟩
      walk_at "rd"
      refine ask_bytes_bad (pd4.same (s5.trans s6)).pl hw hN fun t2 H7 ht2 s7 => ?_
      walk_at "rd"
      intro u2 hu2
      have s8 := Same.put (o := .tup [V.str "BadNumber", x]) (Same.refl H7) hu2
      refine ⟨_, _, rfl, t2, u2, "BadNumber", x, d, rfl, rfl, s8 _ _ ht2, upd_same, pd4.same (s5.trans (s6.trans (s7.trans s8))), true, rfl, ?_⟩
      exact ⟨sA.trans (s5.trans (s6.trans (s7.trans s8))), _, _, rfl⟩
    · rintro σ H4 ⟨sA, v4, v5, rfl⟩
      have B4 := B3'.same sA
      have k4 := kB.trans (Kp.of sA)
      clear hall kB B3' hl3
      walk_at "rd"
      intro g1 H5 B5 k5
      walk_at "rd"
      intro H6 s6
      have B6 := B5.same s6
      walk_at "rd"
      intro g2 H7 B7 k7
      walk_at "rd"
      intro H8 s8
      walk_at "rd"
      exact q H8 (B7.same s8) (k4.trans (k5.trans ((Kp.of s6).trans (k7.trans (Kp.of s8)))))

end
end K02
namespace K02
open PySem PySem.Spec PyProof.Rows L2 My
section
variable {P : Program} {w : World} {K : PySem.W.Frag} {mg : Str → Option Value} {base : Heap}

theorem len_two {α : Type} : ∀ {l : List α}, l.length = 2 → ∃ a b, l = [a, b]
  | [a, b], _ => ⟨a, b, rfl⟩
  | [], h => by cases h
  | [_], h => by cases h
  | _ :: _ :: _ :: _, h => by simp at h
theorem len_three {α : Type} : ∀ {l : List α}, l.length = 3 → ∃ a b c, l = [a, b, c]
  | [a, b, c], _ => ⟨a, b, c, rfl⟩
  | [], h => by cases h
  | [_], h => by cases h
  | [_, _], h => by cases h
  | _ :: _ :: _ :: _ :: _, h => by simp at h
theorem len_four {α : Type} : ∀ {l : List α}, l.length = 4 → ∃ a b c d, l = [a, b, c, d]
  | [a, b, c, d], _ => ⟨a, b, c, d, rfl⟩
  | [], h => by cases h
  | [_], h => by cases h
  | [_, _], h => by cases h
  | [_, _, _], h => by cases h
  | _ :: _ :: _ :: _ :: _ :: _, h => by simp at h
theorem row_back {w : Int} {ns : List Int} (hw : Wd w) (hl : ns.length = (w / 8).toNat) (hr : ∀ n ∈ ns, 0 ≤ n ∧ n < 256) : bys (w / 8).toNat (wrapI w (vb ns) % (2 * hf w)) = ns := by
  have e : wrapI w (vb ns) % (2 * hf w) = vb ns := by
    unfold wrapI
    rcases hf_val hw with ⟨rfl, e⟩ | ⟨rfl, e⟩ | ⟨rfl, e⟩
    · obtain ⟨a, c, rfl⟩ := len_two hl
      have ha := hr a (by simp); have hc := hr c (by simp)
      rw [e]
      show ((((0 * 256 + c) * 256 + a) + 32768) % (2 * 32768) - 32768) % (2 * 32768) = (0 * 256 + c) * 256 + a
      omega
    · obtain ⟨a, c, g, rfl⟩ := len_three hl
      have ha := hr a (by simp); have hc := hr c (by simp); have hg := hr g (by simp)
      rw [e]
      show (((((0 * 256 + g) * 256 + c) * 256 + a) + 8388608) % (2 * 8388608) - 8388608) % (2 * 8388608) = ((0 * 256 + g) * 256 + c) * 256 + a
      omega
    · obtain ⟨a, c, g, f, rfl⟩ := len_four hl
      have ha := hr a (by simp); have hc := hr c (by simp); have hg := hr g (by simp); have hf4 := hr f (by simp)
      rw [e]
      show ((((((0 * 256 + f) * 256 + g) * 256 + c) * 256 + a) + 2147483648) % (2 * 2147483648) - 2147483648) % (2 * 2147483648) = (((0 * 256 + f) * 256 + g) * 256 + c) * 256 + a
      omega
  rw [e]
  rcases hw with rfl | rfl | rfl
  · obtain ⟨a, c, rfl⟩ := len_two hl
    have ha := hr a (by simp); have hc := hr c (by simp)
    show [((0 * 256 + c) * 256 + a) / 1 % 256, ((0 * 256 + c) * 256 + a) / 256 % 256] = [a, c]
    rw [show ((0 * 256 + c) * 256 + a) / 1 % 256 = a by omega, show ((0 * 256 + c) * 256 + a) / 256 % 256 = c by omega]
  · obtain ⟨a, c, g, rfl⟩ := len_three hl
    have ha := hr a (by simp); have hc := hr c (by simp); have hg := hr g (by simp)
    show [(((0 * 256 + g) * 256 + c) * 256 + a) / 1 % 256, (((0 * 256 + g) * 256 + c) * 256 + a) / 256 % 256, (((0 * 256 + g) * 256 + c) * 256 + a) / 65536 % 256] = [a, c, g]
    rw [show (((0 * 256 + g) * 256 + c) * 256 + a) / 1 % 256 = a by omega, show (((0 * 256 + g) * 256 + c) * 256 + a) / 256 % 256 = c by omega, show (((0 * 256 + g) * 256 + c) * 256 + a) / 65536 % 256 = g by omega]
  · obtain ⟨a, c, g, f, rfl⟩ := len_four hl
    have ha := hr a (by simp); have hc := hr c (by simp); have hg := hr g (by simp); have hf4 := hr f (by simp)
    show [((((0 * 256 + f) * 256 + g) * 256 + c) * 256 + a) / 1 % 256, ((((0 * 256 + f) * 256 + g) * 256 + c) * 256 + a) / 256 % 256, ((((0 * 256 + f) * 256 + g) * 256 + c) * 256 + a) / 65536 % 256, ((((0 * 256 + f) * 256 + g) * 256 + c) * 256 + a) / 16777216 % 256] = [a, c, g, f]
    rw [show ((((0 * 256 + f) * 256 + g) * 256 + c) * 256 + a) / 1 % 256 = a by omega, show ((((0 * 256 + f) * 256 + g) * 256 + c) * 256 + a) / 256 % 256 = c by omega, show ((((0 * 256 + f) * 256 + g) * 256 + c) * 256 + a) / 65536 % 256 = g by omega, show ((((0 * 256 + f) * 256 + g) * 256 + c) * 256 + a) / 16777216 % 256 = f by omega]
theorem spoil_eq {R : List V} {p : Nat} {x : V} (h : p < R.length) : (R.take p ++ [x]) ++ R.drop (p + 1) = R.set p x := by
  rw [List.set_eq_take_append_cons_drop, if_pos h, List.append_assoc]
  rfl
theorem spoil_last {R : List V} {n : Nat} {x : V} (h : R.length = n + 1) : R.take n ++ [x] = R.set n x := by
  rw [List.set_eq_take_append_cons_drop, if_pos (by omega), List.drop_of_length_le (by omega)]
theorem spoil_zero {R : List V} {x : V} (h : 0 < R.length) : [x] ++ R.drop 1 = R.set 0 x := by
  rw [List.set_eq_take_append_cons_drop, if_pos h]
  rfl
theorem pl_set {R : List V} {p : Nat} {x : V} {H : Hp} (hR : ∀ v ∈ R, Pl H v) (hx : Pl H x) : ∀ v ∈ R.set p x, Pl H v := by
  intro v hv
  rcases List.mem_or_eq_of_mem_set hv with h | h
  · exact hR v h
  · rw [h]; exact hx
theorem pd_set {R : List V} {p : Nat} {x : V} {d : PyData} {H : Hp} (hR : ∀ v ∈ R, ∃ d, PD H v d) (hx : PD H x d) : ∀ v ∈ R.set p x, ∃ d, PD H v d := by
  intro v hv
  rcases List.mem_or_eq_of_mem_set hv with h | h
  · exact hR v h
  · rw [h]; exact ⟨d, hx⟩
theorem cut_take {xs : List V} {p : Int} (h0 : 0 ≤ p) (h1 : p.toNat ≤ xs.length) : cutV xs none (some p) = xs.take p.toNat := by
  unfold cutV HT.sIx
  simp only [if_neg (show ¬ p < 0 by omega), List.drop_zero, Nat.sub_zero]
  rw [Nat.min_eq_left h1]
theorem cut_drop {xs : List V} {p : Int} (h0 : 0 ≤ p) (h1 : p.toNat ≤ xs.length) : cutV xs (some p) none = xs.drop p.toNat := by
  unfold cutV HT.sIx
  simp only [if_neg (show ¬ p < 0 by omega)]
  rw [Nat.min_eq_left h1, List.take_of_length_le (by rw [List.length_drop]; exact Nat.le_refl _)]
abbrev spRowsR : Sp := Sp2 fun x y H Q _ => ∃ (b : Addr) (w : Int), x = .ref b ∧ y = .int w ∧ Wd w ∧ BagAt H b ∧ ∀ H', BagAt H' b → Kp b H H' → Q (.bl true) H'

theorem ok__law_rows_right (M : TX K mg) : FnOk P w K mg base (L2.CX P w) 9 M.f__law_rows_right M.d__law_rows_right ["_law_bag_here", "_law_width"] (spRowsR) := by
  have sc := sc__law_rows_right
  refine M.F__law_rows_right.okX sc (fun vs H Q E h => Sp2_len h) (fun cdv A outer s H vs Q E hr h => ?_)
  obtain ⟨x0, x1, rfl, h⟩ := h
  have hu := hu_of hr
  have hu64 := hr.units
  refine ⟨_, (pss_cons (ps_set (i := 2) sc.nd rfl (Or.inl rfl) (pe_call (ok__law_drawn_row M) (hr.mono (by decide)) rfl M.g__law_drawn_row M.F__law_drawn_row.kp M.b__law_drawn_row .nil (passE rfl rfl rfl rfl) (pa_cons (pv 0) (pa_cons (pv 1) pa_nil))))
    (pss_cons (ps_set (i := 3) sc.nd rfl (Or.inl rfl) (pe_call (ok__law_cell M) (hr.mono (by decide)) rfl M.g__law_cell M.F__law_cell.kp M.b__law_cell .nil (passE rfl rfl rfl rfl) (pa_cons (pv 1) (pa_cons (pv 2) pa_nil))))
    (pss_cons (ps_set (i := 4) sc.nd rfl (Or.inl rfl) (pe_callTy (call_listK K) (by rfl) M.n_list (by decide +kernel) (pa_cons (pv 2) pa_nil)))
    (pss_cons (ps_if (PW.pt (pw_or (pt_not (pt_val (pe_call (ok__law_is_told M) (hr.mono (by decide)) rfl M.g__law_is_told M.F__law_is_told.kp M.b__law_is_told .nil (passE rfl rfl rfl rfl) (pa_cons (pe_call (ok__law_asked M) (hr.mono (by decide)) rfl M.g__law_asked M.F__law_asked.kp M.b__law_asked .nil (passE rfl rfl rfl rfl) (pa_cons pe_str (pa_cons (pv 1) (pa_cons (pv 4) pa_nil)))) (pa_cons (pv 3) pa_nil))))) (pw_or1 (pt_cmpR (op_neIntsK K hu64) (pv 4) (pv 2) (nomark _)))))
      (pss_one (ps_ret pe_bl))
      pss_nil)
    (pss_cons (ps_if (pt_not (pt_val (pe_call (ok__law_is_told M) (hr.mono (by decide)) rfl M.g__law_is_told M.F__law_is_told.kp M.b__law_is_told .nil (passE rfl rfl rfl rfl) (pa_cons (pe_call (ok__law_asked M) (hr.mono (by decide)) rfl M.g__law_asked M.F__law_asked.kp M.b__law_asked .nil (passE rfl rfl rfl rfl) (pa_cons pe_str (pa_cons (pv 1) (pa_cons (pe_callTy (call_tupleK K) (by rfl) M.n_tuple (by decide +kernel) (pa_cons (pv 2) pa_nil)) pa_nil)))) (pa_cons (pv 3) pa_nil)))))
      (pss_one (ps_ret pe_bl))
      pss_nil)
    (pss_cons (ps_if (pt_not (pt_val (pe_call (ok__law_is_row M) (hr.mono (by decide)) rfl M.g__law_is_row M.F__law_is_row.kp M.b__law_is_row .nil (passE rfl rfl rfl rfl) (pa_cons (pe_call (ok__law_asked M) (hr.mono (by decide)) rfl M.g__law_asked M.F__law_asked.kp M.b__law_asked .nil (passE rfl rfl rfl rfl) (pa_cons pe_str (pa_cons (pv 1) (pa_cons (pv 3) pa_nil)))) (pa_cons (pv 2) pa_nil)))))
      (pss_one (ps_ret pe_bl))
      pss_nil)
    (pss_cons (ps_set (i := 5) sc.nd rfl (Or.inl rfl) (pe_call (ok__law_odd_byte M) (hr.mono (by decide)) rfl M.g__law_odd_byte M.F__law_odd_byte.kp M.b__law_odd_byte .nil (passE rfl rfl rfl rfl) (pa_cons (pv 0) pa_nil)))
    (pss_cons (ps_set (i := 6) sc.nd rfl (Or.inl rfl) (pe_call (ok__law_pick M) (hr.mono (by decide)) rfl M.g__law_pick M.F__law_pick.kp M.b__law_pick .nil (passE rfl rfl rfl rfl) (pa_cons (pv 0) (pa_cons (pe_callB (call_lenK K) (by rfl) M.n_len PySem.boot_len (pa_cons (pv 2) pa_nil)) pa_nil))))
    (pss_cons (ps_set (i := 7) sc.nd rfl (Or.inl rfl) (pe_op op_cat (pe_op op_cat (pe_slice (sl_listK K) (pv 2) po_none (po_some (pv 6))) (pe_lst (pa_cons (pv 5) pa_nil))) (pe_slice (sl_listK K) (pv 2) (po_some (pe_op op_add (pv 6) pe_int)) po_none)))
    (pss_cons (ps_if (pt_not (pt_val (pe_call (ok__law_same M) (hr.mono (by decide)) rfl M.g__law_same M.F__law_same.kp M.b__law_same .nil (passE rfl rfl rfl rfl) (pa_cons (pe_call (ok__law_asked M) (hr.mono (by decide)) rfl M.g__law_asked M.F__law_asked.kp M.b__law_asked .nil (passE rfl rfl rfl rfl) (pa_cons pe_str (pa_cons (pv 1) (pa_cons (pv 7) pa_nil)))) (pa_cons (pe_tup (pa_cons pe_str (pa_cons (pv 5) pa_nil))) pa_nil)))))
      (pss_one (ps_ret pe_bl))
      pss_nil)
    (pss_cons (ps_set (i := 8) sc.nd rfl (Or.inl rfl) (pe_call (ok__law_odd_byte M) (hr.mono (by decide)) rfl M.g__law_odd_byte M.F__law_odd_byte.kp M.b__law_odd_byte .nil (passE rfl rfl rfl rfl) (pa_cons (pv 0) pa_nil)))
    (pss_cons (ps_set (i := 9) sc.nd rfl (Or.inl rfl) (pe_op op_sub (pe_callB (call_lenK K) (by rfl) M.n_len PySem.boot_len (pa_cons (pv 2) pa_nil)) pe_int))
    (pss_cons (ps_if (pt_cmpR op_lt (pv 6) (pv 9) (nomark _))
      (pss_one (ps_set (i := 7) sc.nd rfl (Or.inl rfl) (pe_op op_cat (pe_slice (sl_listK K) (pv 7) po_none (po_some (pv 9))) (pe_lst (pa_cons (pv 8) pa_nil)))))
      (pss_cons (ps_set (i := 7) sc.nd rfl (Or.inl rfl) (pe_op op_cat (pe_lst (pa_cons (pv 8) pa_nil)) (pe_slice (sl_listK K) (pv 7) (po_some pe_int) po_none)))
      (pss_one (ps_set (i := 5) sc.nd rfl (Or.inl rfl) (pv 8)))))
    (pss_cons (ps_if (pt_not (pt_val (pe_call (ok__law_same M) (hr.mono (by decide)) rfl M.g__law_same M.F__law_same.kp M.b__law_same .nil (passE rfl rfl rfl rfl) (pa_cons (pe_call (ok__law_asked M) (hr.mono (by decide)) rfl M.g__law_asked M.F__law_asked.kp M.b__law_asked .nil (passE rfl rfl rfl rfl) (pa_cons pe_str (pa_cons (pv 1) (pa_cons (pe_callTy (call_tupleK K) (by rfl) M.n_tuple (by decide +kernel) (pa_cons (pv 7) pa_nil)) pa_nil)))) (pa_cons (pe_tup (pa_cons pe_str (pa_cons (pv 5) pa_nil))) pa_nil)))))
      (pss_one (ps_ret pe_bl))
      pss_nil)
    (pss_cons (ps_set (i := 10) sc.nd rfl (Or.inl rfl) (pe_slice (sl_listK K) (pv 7) po_none (po_some (pe_call (ok__law_pick M) (hr.mono (by decide)) rfl M.g__law_pick M.F__law_pick.kp M.b__law_pick .nil (passE rfl rfl rfl rfl) (pa_cons (pv 0) (pa_cons (pe_callB (call_lenK K) (by rfl) M.n_len PySem.boot_len (pa_cons (pv 2) pa_nil)) pa_nil))))))
    (pss_cons (ps_set (i := 11) sc.nd rfl (Or.inl rfl) (pe_op op_cat (pv 7) (pe_slice (sl_listK K) (pe_call (ok__law_drawn_row M) (hr.mono (by decide)) rfl M.g__law_drawn_row M.F__law_drawn_row.kp M.b__law_drawn_row .nil (passE rfl rfl rfl rfl) (pa_cons (pv 0) (pa_cons (pv 1) pa_nil))) po_none (po_some (pe_op op_add pe_int (pe_call (ok__law_pick M) (hr.mono (by decide)) rfl M.g__law_pick M.F__law_pick.kp M.b__law_pick .nil (passE rfl rfl rfl rfl) (pa_cons (pv 0) (pa_cons pe_int pa_nil))))))))
    (pss_cons (ps_for (passes_of rfl) rfl (pi_listK K (pi_list (pe_lst (pa_cons (pv 10) (pa_cons (pv 11) (pa_cons (pe_lst pa_nil) (pa_cons (pe_slice (sl_listK K) (pv 2) po_none (po_some (pe_un un_neg pe_int))) (pa_cons (pe_op op_cat (pv 2) (pe_lst (pa_cons pe_int pa_nil))) (pa_cons (pe_op (op_catTK K) (pe_callTy (call_tupleK K) (by rfl) M.n_tuple (by decide +kernel) (pa_cons (pv 2) pa_nil)) (pe_tup (pa_cons pe_int pa_nil))) pa_nil))))))))) (pg_name (i := 12) sc.nd rfl (Or.inl rfl))
      (pss_one (ps_if (pt_not (pt_val (pe_call (ok__law_same M) (hr.mono (by decide)) rfl M.g__law_same M.F__law_same.kp M.b__law_same .nil (passE rfl rfl rfl rfl) (pa_cons (pe_call (ok__law_asked M) (hr.mono (by decide)) rfl M.g__law_asked M.F__law_asked.kp M.b__law_asked .nil (passE rfl rfl rfl rfl) (pa_cons pe_str (pa_cons (pv 1) (pa_cons (pv 12) pa_nil)))) (pa_cons (pe_tup (pa_cons pe_str (pa_cons pe_non pa_nil))) pa_nil)))))
        (pss_one (ps_ret pe_bl))
        pss_nil)))
    (pss_one (ps_ret pe_bl))))))))))))))))))), ?_⟩

  obtain ⟨b, w, rfl, rfl, hw, B, q⟩ := h
  have h8 := w8 hw
  have hk : ((w / 8).toNat : Int) = w / 8 := by omega
  have hk2 : 2 ≤ (w / 8).toNat ∧ (w / 8).toNat ≤ 4 := by rcases hw with rfl | rfl | rfl <;> decide
  walk_at "rd"
  intro l0 ns H0 hlen hrng hl0 nb0 hl0n B0 k0
  walk_at "rd"
  intro H1 s1
  have hl1 := s1 _ _ hl0
  have hle : (ns.length : Int) = w / 8 := by rw [hlen]; exact hk
  walk_at "rd"
  intro lp hlp
  have hl2 : upd H1 lp (.lst (ns.map V.int)) l0 = some (.lst (ns.map V.int)) := Same.put (Same.refl H1) hlp _ _ hl1
  walk_at "rd"
  refine ask_back (.inl upd_same) hw hle hrng fun t1 H2 ht1 s2 => ?_
  have hl3 := s2 _ _ hl2
  have hp3 : H2 lp = some (.lst (ns.map V.int)) := s2 _ _ upd_same
  refine ⟨_, rfl, _, _, rfl, t1, _, rfl, rfl, ht1, true, rfl, ?_⟩
  refine ⟨_, rfl, _, rfl, lp, l0, ns, ns, rfl, rfl, SqL.of hp3, SqL.of hl3, ?_⟩
  refine ⟨false, by rw [decide_eq_true (rfl : ns = ns)]; rfl, ?_⟩
  walk_at "rd"
  refine ⟨_, _, rfl, .inl ⟨SqL.of hl3, fun lt hlt => ?_⟩⟩
  refine ⟨_, _, _, rfl, ask_back (ns := ns) (.inr upd_same) hw hle hrng fun t2 H3 ht2 s3 => ?_⟩
  refine ⟨_, rfl, _, _, rfl, t2, _, rfl, rfl, ht2, true, rfl, ?_⟩
  walk_at "rd"
  have s4 : Same H2 H3 := (Same.put (Same.refl H2) hlt).trans s3
  refine ask_bytes hw (wrap_in hw) fun t3 u3 H4 ht3 hu3 s5 => ?_
  rw [row_back hw hlen hrng] at hu3
  have hl5 := s5 _ _ (s4 _ _ hl3)
  refine ⟨_, rfl, _, _, rfl, t3, u3, l0, ns, rfl, rfl, ht3, hu3, hl5, by omega, true, rfl, ?_⟩
  have sA : Same H0 H4 := s1.trans ((Same.put (Same.refl H1) hlp).trans (s2.trans (s4.trans s5)))
  have B4 := B0.same sA
  have k4 := k0.trans (Kp.of sA)
  clear sA B0 k0 s5 s4 s3 s2 ht3 hu3 ht2 ht1 hl3 hp3 hl2 hl1 hl0 s1 hlp hlt B hl0n t1 t2 t3 u3
  walk_at "rd"
  intro bad d H5 pd hbad B5 k5
  have hl6 := k5 _ _ nb0 hl5
  have hlR : (ns.map V.int).length = ns.length := List.length_map ..
  walk_at "rd"
  intro p H6 p0 p1 B6 k6
  have hl7 := k6 _ _ nb0 hl6
  have pd6 := pd.kp B5 k6
  have k7 := k4.trans (k5.trans k6)
  clear pd hl6 hl5 k4 k5 k6 B4 B5
  have hR4 : ns.length ≤ 4 := by omega
  have hpn : p.toNat < ns.length := by omega
  obtain ⟨R, eR⟩ : ∃ R, R = ns.map V.int := ⟨_, rfl⟩
  rw [← eR] at hl7 hlR
  walk_at "rd"
  refine ⟨l0, R, rfl, SqL.of hl7, fun q1 hq1 => ?_⟩
  rw [cut_take p0 (by omega)]
  have f1 := Same.put (o := .lst (R.take p.toNat)) (Same.refl H6) hq1 _ _ hl7
  refine ⟨_, rfl, Nat.le_of_ble_eq_true rfl, fun q2 hq2 => ?_⟩
  have s12 := (Same.put (o := .lst (R.take p.toNat)) (Same.refl H6) hq1)
  have s22 := (Same.put (o := .lst [bad]) (Same.refl (upd H6 q1 (.lst (R.take p.toNat)))) hq2)
  refine ⟨q1, q2, _, _, rfl, rfl, s22 _ _ upd_same, upd_same, by rw [sizeLine_eq]; simp only [List.length_take, List.length_cons, List.length_nil]; omega, fun q3 hq3 => ?_⟩
  have s32 := (Same.put (o := .lst (R.take p.toNat ++ [bad])) (Same.refl (upd (upd H6 q1 (.lst (R.take p.toNat))) q2 (.lst [bad]))) hq3)
  have f3 := s32 _ _ (s22 _ _ (s12 _ _ hl7))
  walk_at "rd"
  refine ⟨l0, R, rfl, SqL.of f3, fun q4 hq4 => ?_⟩
  rw [cut_drop (show 0 ≤ p + 1 by omega) (by omega)]
  have e1 : (p + 1).toNat = p.toNat + 1 := by omega
  rw [e1]
  have s42 := (Same.put (o := .lst (R.drop (p.toNat + 1))) (Same.refl _) hq4)
  refine ⟨q3, q4, _, _, rfl, rfl, s42 _ _ upd_same, upd_same, by rw [sizeLine_eq]; simp only [List.length_append, List.length_drop, List.length_take, List.length_cons, List.length_nil]; omega, fun q5 hq5 => ?_⟩
  have s52 := (Same.put (o := .lst ((R.take p.toNat ++ [bad]) ++ R.drop (p.toNat + 1))) (Same.refl _) hq5)
  have sS := s12.trans (s22.trans (s32.trans (s42.trans s52)))
  have hS : upd (upd (upd (upd (upd H6 q1 (.lst (R.take p.toNat))) q2 (.lst [bad])) q3 (.lst (R.take p.toNat ++ [bad]))) q4 (.lst (R.drop (p.toNat + 1)))) q5 (.lst ((R.take p.toNat ++ [bad]) ++ R.drop (p.toNat + 1))) q5 = some (.lst ((R.take p.toNat ++ [bad]) ++ R.drop (p.toNat + 1))) := upd_same
  show tSeq _ _ _ _ (upd (upd (upd (upd (upd H6 q1 (.lst (R.take p.toNat))) q2 (.lst [bad])) q3 (.lst (R.take p.toNat ++ [bad]))) q4 (.lst (R.drop (p.toNat + 1)))) q5 (.lst ((R.take p.toNat ++ [bad]) ++ R.drop (p.toNat + 1))))
  generalize upd (upd (upd (upd (upd H6 q1 (.lst (R.take p.toNat))) q2 (.lst [bad])) q3 (.lst (R.take p.toNat ++ [bad]))) q4 (.lst (R.drop (p.toNat + 1)))) q5 (.lst ((R.take p.toNat ++ [bad]) ++ R.drop (p.toNat + 1))) = H7 at *
  have hl8 := sS _ _ hl7
  have pd7 := pd6.same sS
  have B7 := B6.same sS
  have k8 := k7.trans (Kp.of sS)
  clear s12 s22 s32 s42 s52 f1 f3 hq1 hq2 hq3 hq4 hq5 q1 q2 q3 q4 pd6 B6 k7 hl7 sS
  have hpR : p.toNat < R.length := by omega
  rw [spoil_eq hpR] at hS
  have hRb : ∀ (j : Nat) (u : V), R[j]? = some u → btw u 0 255 = true := by
    intro j u hj
    rw [eR] at hj
    obtain ⟨z, hz, rfl⟩ := map_get hj
    have h1 := hrng z (List.mem_of_getElem? hz)
    show (decide (0 ≤ z) && decide (z ≤ 255)) = true
    rw [decide_eq_true (show 0 ≤ z by omega), decide_eq_true (show z ≤ 255 by omega)]; rfl
  have hRp : ∀ (H : Hp), ∀ v ∈ R, Pl H v := by
    intro H v hv
    rw [eR] at hv
    obtain ⟨z, _, rfl⟩ := List.mem_map.mp hv
    exact .int z
  have hnq : q5 ≠ b := B7.ne_lst hS
  walk_at "rd"
  refine ask_back_bad (i := p.toNat) (v := bad) (.inl hS) hw (by rw [List.length_set, hlR]; exact hle) (pl_set (hRp _) pd7.pl) (by rw [List.getElem?_set_self hpR]) hbad (fun j u hj hu => by
    rw [List.getElem?_set_ne (by omega)] at hu
    exact hRb j u hu) fun t1 H8 ht1 s8 => ?_
  walk_at "rd"
  intro u1 hu1
  have s9 := Same.put (o := .tup [V.str "BadByte", bad]) (Same.refl H8) hu1
  have s89 := s8.trans s9
  refine ⟨_, _, rfl, t1, u1, "BadByte", bad, d, rfl, rfl, s9 _ _ ht1, upd_same, pd7.same s89, true, rfl, ?_⟩
  have hl9 := s89 _ _ hl8
  have hS9 := s89 _ _ hS
  have pd9 := pd7.same s89
  have B9 := B7.same s89
  have k9 := k8.trans (Kp.of s89)
  clear s9 s89 s8 hl8 hS pd7 B7 k8
  walk_at "rd"
  intro worse d2 H10 pdw hworse B10 k10
  have hl10 := k10 _ _ nb0 hl9
  have hS10 := k10 _ _ hnq hS9
  have pd10 := pd9.kp B9 k10
  have k11 := k9.trans k10
  clear pd9 hS9 hl9 B9 k9 k10
  refine ⟨_, rfl, _, _, rfl, .inl (SqL.of hl10), ?_⟩
  refine ⟨_, _, rfl, rfl, ?_⟩
  refine seq_gen fun R0 hR0 => ?_
  refine hR0 _ _ ?_
  clear hR0 R0
  refine seq_gen fun RR hRR => ?_
  have key : ∀ (σ : L2.St) (HH : Hp), (∃ (bb : V) (db : PyData) (i : Nat) (S : List V) (qs : Addr), σ = [some (.ref b), some (.int w), some (.ref l0), some (.int (wrapI w (vb ns))), some (.ref lp), some bb, some (.int p), some (.ref qs), some worse, some (.int ((R.length : Int) - 1)), none, none, none] ∧
      HH qs = some (.lst S) ∧ S.length = ns.length ∧ S[i]? = some bb ∧ btw bb 0 255 = false ∧ (∀ (j : Nat) (u : V), j < i → S[j]? = some u → btw u 0 255 = true) ∧ (∀ v ∈ S, ∃ dv, PD HH v dv) ∧ PD HH bb db ∧ BagAt HH b ∧ Kp b H HH ∧ HH l0 = some (.lst R)) → RR σ HH := by
    rintro σ HH ⟨bb, db, i, S, qs, rfl, hS, hSl, hSi, hbb, hbf, hSp, pdb, BB, kk, hl0⟩
    refine hRR _ _ ?_
    clear hRR hS10 hl10 pd10 hworse B10 k11 hbad hnq
    have hRp2 := hRp
    clear pdw ht1 hu1 hRb hRp hpn hpR p1
    have nqs : qs ≠ b := BB.ne_lst hS
    refine ⟨_, rfl, _, rfl, _, _, rfl, .inl ⟨SqL.of hS, fun tt htt => ?_⟩⟩
    have sT := Same.put (o := .tup S) (Same.refl HH) htt
    refine ⟨_, _, _, rfl, ask_back_bad (i := i) (v := bb) (.inr upd_same) hw (by rw [hSl]; exact hle) (fun v hv => by obtain ⟨dv, hv⟩ := hSp v hv; exact (hv.same sT).pl) hSi hbb hbf fun t1 G1 ht1 s1 => ?_⟩
    refine ⟨_, rfl, Nat.le_of_ble_eq_true rfl, fun u1 hu1 => ?_⟩
    have s2 := Same.put (o := .tup [V.str "BadByte", bb]) (Same.refl G1) hu1
    have sG := sT.trans (s1.trans s2)
    refine ⟨_, _, rfl, t1, u1, "BadByte", bb, db, rfl, rfl, s2 _ _ ht1, upd_same, pdb.same sG, true, rfl, ?_⟩
    have hlG := sG _ _ hl0
    have hSG := sG _ _ hS
    have BG := BB.same sG
    have kG := kk.trans (Kp.of sG)
    have hSpG : ∀ v ∈ S, ∃ dv, PD (upd G1 u1 (.tup [V.str "BadByte", bb])) v dv := fun v hv => by obtain ⟨dv, hv⟩ := hSp v hv; exact ⟨dv, hv.same sG⟩
    clear sG s2 s1 sT hSp hS hl0 BB kk pdb hSi hbb hbf
    have hm1 : (0 : Int) < (R.length : Nat) := by omega
    have hm2 : ((R.length : Nat) : Int) < 1073741824 := by omega
    refine ⟨_, rfl, _, rfl, _, rfl, _, _, rfl, .inl (SqL.of hlG), _, _, rfl, b, _, rfl, rfl, hm1, hm2, BG, fun p2 G3 p20 p21 B3 k3 => ?_⟩
    have hl3 := k3 _ _ nb0 hlG
    have hS3 := k3 _ _ nqs hSG
    have hSp3 : ∀ v ∈ S, ∃ dv, PD G3 v dv := fun v hv => by obtain ⟨dv, hv⟩ := hSpG v hv; exact ⟨dv, hv.kp BG k3⟩
    have kG3 := kG.trans k3
    clear hSpG k3 kG BG hSG hlG hu1 ht1 htt
    refine ⟨_, rfl, qs, S, rfl, SqL.of hS3, fun q1 hq1 => ?_⟩
    rw [cut_take p20 (by omega)]
    have s4 := Same.put (o := .lst (S.take p2.toNat)) (Same.refl G3) hq1
    have hl4 := s4 _ _ hl3
    have hS4 := s4 _ _ hS3
    have hSp4 : ∀ v ∈ S, ∃ dv, PD (upd G3 q1 (.lst (S.take p2.toNat))) v dv := fun v hv => by obtain ⟨dv, hv⟩ := hSp3 v hv; exact ⟨dv, hv.same s4⟩
    have hsh4 : upd G3 q1 (.lst (S.take p2.toNat)) q1 = some (.lst (S.take p2.toNat)) := upd_same
    have B4 := B3.same s4
    have k4 := kG3.trans (Kp.of s4)
    have nq1 : q1 ≠ b := B4.ne_lst hsh4
    clear s4 hSp3 hS3 hl3 B3 kG3 hq1
    refine ⟨_, rfl, _, rfl, _, rfl, _, _, rfl, b, w, rfl, rfl, hw, B4, fun ld ms H5 hml hmr hld nld hldn B5 k5 => ?_⟩
    have hl5 := k5 _ _ nb0 hl4
    have hS5 := k5 _ _ nqs hS4
    have hsh5 := k5 _ _ nq1 hsh4
    have hSp5 : ∀ v ∈ S, ∃ dv, PD H5 v dv := fun v hv => by obtain ⟨dv, hv⟩ := hSp4 v hv; exact ⟨dv, hv.kp B4 k5⟩
    have kk5 := k4.trans k5
    clear k5 k4 B4 hSp4 hsh4 hS4 hl4 hldn
    refine ⟨_, rfl, _, _, rfl, b, 2, rfl, rfl, by decide, by decide, B5, fun p3 H6 p30 p31 B6 k6 => ?_⟩
    have hl6 := k6 _ _ nb0 hl5
    have hS6 := k6 _ _ nqs hS5
    have hsh6 := k6 _ _ nq1 hsh5
    have hld6 := k6 _ _ nld hld
    have hSp6 : ∀ v ∈ S, ∃ dv, PD H6 v dv := fun v hv => by obtain ⟨dv, hv⟩ := hSp5 v hv; exact ⟨dv, hv.kp B5 k6⟩
    have kk6 := kk5.trans k6
    clear k6 kk5 B5 hSp5 hsh5 hS5 hl5 hld
    obtain ⟨T, eT⟩ : ∃ T, T = ms.map V.int := ⟨_, rfl⟩
    have hTl : T.length = ns.length := by rw [eT, List.length_map, hml]; omega
    have hTp : ∀ (H : Hp), ∀ v ∈ T, Pl H v := by
      intro H v hv
      rw [eT] at hv
      obtain ⟨z, _, rfl⟩ := List.mem_map.mp hv
      exact .int z
    rw [← eT] at hld6
    clear eT hml hmr
    refine ⟨_, _, rfl, rfl, _, rfl, ld, T, rfl, SqL.of hld6, fun q2 hq2 => ?_⟩
    rw [cut_take (show 0 ≤ 1 + p3 by omega) (by omega)]
    have c2 := Same.put (o := .lst (T.take (1 + p3).toNat)) (Same.refl H6) hq2
    refine ⟨qs, q2, _, _, rfl, rfl, c2 _ _ hS6, upd_same, by rw [sizeLine_eq]; simp only [List.length_take]; omega, fun q3 hq3 => ?_⟩
    have c3 := Same.put (o := .lst (S ++ T.take (1 + p3).toNat)) (Same.refl _) hq3
    have c23 := c2.trans c3
    have hl7 := c23 _ _ hl6
    have hsh7 := c23 _ _ hsh6
    have hSp7 : ∀ v ∈ S, ∃ dv, PD (upd (upd H6 q2 (.lst (T.take (1 + p3).toNat))) q3 (.lst (S ++ T.take (1 + p3).toNat))) v dv := fun v hv => by obtain ⟨dv, hv⟩ := hSp6 v hv; exact ⟨dv, hv.same c23⟩
    have hlo7 : (upd (upd H6 q2 (.lst (T.take (1 + p3).toNat))) q3 (.lst (S ++ T.take (1 + p3).toNat))) q3 = some (.lst (S ++ T.take (1 + p3).toNat)) := upd_same
    have B7 := B6.same c23
    have k7 := kk6.trans (Kp.of c23)
    clear c2 c3 c23 hq2 hq3 hl6 hsh6 hSp6 B6 kk6 hS6 hld6
    refine ⟨_, rfl, _, rfl, Nat.le_of_ble_eq_true rfl, fun q4 hq4 => ?_⟩
    have c4 := Same.put (o := .lst []) (Same.refl _) hq4
    have h4 : (upd (upd (upd H6 q2 (.lst (T.take (1 + p3).toNat))) q3 (.lst (S ++ T.take (1 + p3).toNat))) q4 (.lst [])) q4 = some (.lst []) := upd_same
    have hl8 := c4 _ _ hl7
    refine ⟨_, rfl, _, rfl, _, rfl, l0, R, rfl, SqL.of hl8, fun q5 hq5 => ?_⟩
    rw [show cutV R none (some (-1)) = R.dropLast from cut_init R]
    have c5 := Same.put (o := .lst R.dropLast) (Same.refl _) hq5
    have hl9 := c5 _ _ hl8
    refine ⟨_, rfl, Nat.le_of_ble_eq_true rfl, fun q6 hq6 => ?_⟩
    have c6 := Same.put (o := .lst [V.int 0]) (Same.refl _) hq6
    have hl10 := c6 _ _ hl9
    refine ⟨l0, q6, _, _, rfl, rfl, hl10, upd_same, by rw [sizeLine_eq]; simp only [List.length_cons, List.length_nil]; omega, fun q7 hq7 => ?_⟩
    have c7 := Same.put (o := .lst (R ++ [V.int 0])) (Same.refl _) hq7
    have hl11 := c7 _ _ hl10
    refine ⟨_, rfl, _, _, rfl, .inl ⟨SqL.of hl11, fun q8 hq8 => ?_⟩⟩
    have c8 := Same.put (o := .tup R) (Same.refl _) hq8
    refine ⟨Nat.le_of_ble_eq_true rfl, fun q9 hq9 => ?_⟩
    have c9 := Same.put (o := .tup [V.int 0]) (Same.refl _) hq9
    have hRn : R ≠ [] := fun z => by rw [z] at hlR; simp at hlR; omega
    refine ⟨q8, q9, _, _, rfl, rfl, SqT.of (c9 _ _ upd_same), SqT.of upd_same, hRn, by rw [sizeLine_eq]; simp only [List.length_cons, List.length_nil]; omega, fun z => (by cases z), fun _ q10 hq10 => ?_⟩
    have c10 := Same.put (o := .tup (R ++ [V.int 0])) (Same.refl _) hq10
    refine ⟨Nat.le_of_ble_eq_true rfl, fun q11 hq11 => ?_⟩
    refine alloc_gen hq11 fun HF c11 hF => ?_
    refine ⟨q11, rfl, ⟨_, SqL.of hF⟩, ?_⟩
    have d10 := c10.trans c11
    have d9 := c9.trans d10
    have d8 := c8.trans d9
    have d7 := c7.trans d8
    have d6 := c6.trans d7
    have d5 := c5.trans d6
    have d4 := c4.trans d5
    have hq : ∀ x ∈ [V.ref q1, V.ref q3, V.ref q4, V.ref q5, V.ref q7, V.ref q10], ∃ p xs, x = .ref p ∧ (HF p = some (.lst xs) ∨ HF p = some (.tup xs)) ∧ (xs.length : Int) ≠ w / 8 ∧ xs.length ≤ 1000 ∧ ∀ v ∈ xs, Pl HF v := by
      intro x m
      have pT : ∀ v ∈ T.take (1 + p3).toNat, Pl HF v := fun v hv => hTp HF v (List.mem_of_mem_take hv)
      have pR : ∀ v ∈ R, Pl HF v := fun v hv => hRp2 HF v hv
      have pS : ∀ v ∈ S, Pl HF v := fun v hv => by obtain ⟨dv, hv⟩ := hSp7 v hv; exact (hv.same d4).pl
      have p0 : ∀ v ∈ [V.int 0], Pl HF v := fun v hv => by rw [List.mem_singleton.mp hv]; exact .int 0
      simp only [List.mem_cons, List.not_mem_nil, or_false] at m
      rcases m with rfl | rfl | rfl | rfl | rfl | rfl
      · exact ⟨q1, _, rfl, .inl (d4 _ _ hsh7), by rw [List.length_take]; omega, by rw [List.length_take]; omega, fun v hv => pS v (List.mem_of_mem_take hv)⟩
      · exact ⟨q3, _, rfl, .inl (d4 _ _ hlo7), by rw [List.length_append, List.length_take]; omega, by rw [List.length_append, List.length_take]; omega, fun v hv => (List.mem_append.mp hv).elim (pS v) (pT v)⟩
      · exact ⟨q4, _, rfl, .inl (d5 _ _ h4), by simp only [List.length_nil]; omega, by simp, fun v hv => by cases hv⟩
      · exact ⟨q5, _, rfl, .inl (d6 _ _ upd_same), by rw [List.length_dropLast]; omega, by rw [List.length_dropLast]; omega, fun v hv => pR v (List.dropLast_subset _ hv)⟩
      · exact ⟨q7, _, rfl, .inl (d8 _ _ upd_same), by rw [List.length_append]; simp only [List.length_cons, List.length_nil]; omega, by rw [List.length_append]; simp only [List.length_cons, List.length_nil]; omega, fun v hv => (List.mem_append.mp hv).elim (pR v) (p0 v)⟩
      · exact ⟨q10, _, rfl, .inr (c11 _ _ upd_same), by rw [List.length_append]; simp only [List.length_cons, List.length_nil]; omega, by rw [List.length_append]; simp only [List.length_cons, List.length_nil]; omega, fun v hv => (List.mem_append.mp hv).elim (pR v) (p0 v)⟩
    have BF := B7.same d4
    have kF := k7.trans (Kp.of d4)
    clear d4 d5 d6 d7 d8 d9 d10 c4 c5 c6 c7 c8 c9 c10 c11 hl11 hl10 hl9 hl8 hl7 hSp7 hsh7 hlo7 B7 k7 h4 hq4 hq5 hq6 hq7 hq8 hq9 hq10 hq11 hTp
    obtain ⟨xs, eX⟩ : ∃ xs, xs = [V.ref q1, V.ref q3, V.ref q4, V.ref q5, V.ref q7, V.ref q10] := ⟨_, rfl⟩
    rw [← eX] at hF hq
    clear eX
    refine for_list (K := K) (a := q11) (xs := xs) (fun i σ H2 => Same HF H2 ∧ ∃ v, σ = [some (.ref b), some (.int w), some (.ref l0), some (.int (wrapI w (vb ns))), some (.ref lp), some bb, some (.int p), some (.ref qs), some worse, some (.int ((R.length : Int) - 1)), some (.ref q1), some (.ref q3), v]) ⟨Same.refl HF, none, rfl⟩ (fun i σ H2 _ h => SqL.of (h.1 _ _ hF)) ?_ ?_
    · rintro i x σ H2 hi ⟨sA, v, rfl⟩
      obtain ⟨pp, ys, rfl, hpp, hln, hlm, hpl⟩ := hq x (List.mem_of_getElem? hi)
      have hpp2 : H2 pp = some (.lst ys) ∨ H2 pp = some (.tup ys) := hpp.imp (sA _ _) (sA _ _)
      refine ⟨_, rfl, _, rfl, _, _, _, rfl, ask_back_len hpp2 hw hln hlm (fun v hv => (hpl v hv).same sA) fun t1 H5 ht1 s5 => ?_⟩
      refine ⟨Nat.le_of_ble_eq_true rfl, fun u1 hu1 => ?_⟩
      have s6 := Same.put (o := .tup [V.str "BadByte", V.non]) (Same.refl H5) hu1
      refine ⟨_, _, rfl, t1, u1, "BadByte", .non, .none, rfl, rfl, s6 _ _ ht1, upd_same, .non, true, rfl, ?_⟩
      exact ⟨sA.trans (s5.trans s6), _, rfl⟩
    · rintro σ H2 ⟨sA, v, rfl⟩
      exact q H2 (BF.same sA) (kF.trans (Kp.of sA))
  clear q hRR
  have hRd : ∀ (H : Hp), ∀ v ∈ R, ∃ d, PD H v d := by
    intro H v hv
    rw [eR] at hv
    obtain ⟨z, _, rfl⟩ := List.mem_map.mp hv
    exact ⟨_, .int z⟩
  have hSl : (R.set p.toNat bad).length = R.length := List.length_set ..
  refine ⟨_, rfl, _, rfl, ?_⟩
  refine ⟨_, _, rfl, rfl, ?_⟩
  refine ⟨_, rfl, ?_⟩
  refine iteD (fun c => ?_) (fun c => ?_)
  · refine ⟨_, rfl, _, rfl, _, rfl, q5, _, rfl, SqL.of hS10, fun q1 hq1 => ?_⟩
    rw [cut_take (show 0 ≤ (R.length : Int) - 1 by omega) (by rw [hSl]; omega)]
    have c1 := Same.put (o := .lst ((R.set p.toNat bad).take ((R.length : Int) - 1).toNat)) (Same.refl H10) hq1
    refine ⟨_, rfl, Nat.le_of_ble_eq_true rfl, fun q2 hq2 => ?_⟩
    have c2 := Same.put (o := .lst [worse]) (Same.refl _) hq2
    refine ⟨q1, q2, _, _, rfl, rfl, c2 _ _ upd_same, upd_same, by rw [sizeLine_eq]; simp only [List.length_take, List.length_cons, List.length_nil]; omega, fun q3 hq3 => ?_⟩
    rw [spoil_last (show (R.set p.toNat bad).length = ((R.length : Int) - 1).toNat + 1 by rw [hSl]; omega)]
    have c3 := Same.put (o := .lst ((R.set p.toNat bad).set ((R.length : Int) - 1).toNat worse)) (Same.refl _) hq3
    have cc := c1.trans (c2.trans c3)
    have hpl : p.toNat ≠ ((R.length : Int) - 1).toNat := by omega
    refine key _ _ ⟨bad, d, p.toNat, _, q3, rfl, upd_same, by rw [List.length_set, hSl, hlR], ?_, hbad, ?_, pd_set (pd_set (hRd _) (pd10.same cc)) (pdw.same cc), pd10.same cc, B10.same cc, k11.trans (Kp.of cc), cc _ _ hl10⟩
    · rw [List.getElem?_set_ne (Ne.symm hpl), List.getElem?_set_self hpR]
    · intro j u hj hu
      rw [List.getElem?_set_ne (by omega), List.getElem?_set_ne (by omega)] at hu
      exact hRb j u hu
  · refine ⟨_, rfl, Nat.le_of_ble_eq_true rfl, fun q2 hq2 => ?_⟩
    have c2 := Same.put (o := .lst [worse]) (Same.refl H10) hq2
    refine ⟨_, rfl, _, rfl, q5, _, rfl, SqL.of (c2 _ _ hS10), fun q1 hq1 => ?_⟩
    rw [cut_drop (show 0 ≤ (1 : Int) by omega) (by rw [hSl]; omega)]
    have c1 := Same.put (o := .lst ((R.set p.toNat bad).drop (1 : Int).toNat)) (Same.refl _) hq1
    refine ⟨q2, q1, _, _, rfl, rfl, c1 _ _ upd_same, upd_same, by rw [sizeLine_eq]; simp only [List.length_drop, List.length_cons, List.length_nil]; omega, fun q3 hq3 => ?_⟩
    have c3 := Same.put (o := .lst ([worse] ++ (R.set p.toNat bad).drop (1 : Int).toNat)) (Same.refl _) hq3
    have cc := c2.trans (c1.trans c3)
    have e0 : [worse] ++ (R.set p.toNat bad).drop (1 : Int).toNat = (R.set p.toNat bad).set 0 worse := spoil_zero (by rw [hSl]; omega)
    refine ⟨_, rfl, ?_⟩
    refine key _ _ ⟨worse, d2, 0, (R.set p.toNat bad).set 0 worse, q3, rfl, by rw [e0]; exact upd_same, by rw [List.length_set, hSl, hlR], ?_, hworse, ?_, pd_set (pd_set (hRd _) (pd10.same cc)) (pdw.same cc), pdw.same cc, B10.same cc, k11.trans (Kp.of cc), cc _ _ hl10⟩
    · rw [List.getElem?_set_self (by rw [hSl]; omega)]
    · intro j u hj
      exact absurd hj (Nat.not_lt_zero j)

end
end K02
namespace K02
open PySem PySem.Spec PyProof.Rows L2 My
section
variable {P : Program} {w : World} {K : PySem.W.Frag} {mg : Str → Option Value} {base : Heap}

def WideZ (kw : Str) (z : V) (H : Hp) : Prop := kw = "half" ∨ (kw = "wrap" ∧ ∃ n, z = .int n) ∨ (kw = "is" ∧ Pl H z) ∨ (kw = "bytes" ∧ Pl H z) ∨ (kw = "back" ∧ ∃ p xs, z = .ref p ∧ (H p = some (.lst xs) ∨ H p = some (.tup xs)) ∧ xs.length ≤ 1000 ∧ ∀ v ∈ xs, Pl H v)
theorem WideZ.same {kw : Str} {z : V} {H H' : Hp} (h : WideZ kw z H) (s : Same H H') : WideZ kw z H' := by
  rcases h with h | h | ⟨e, h⟩ | ⟨e, h⟩ | ⟨e, p, xs, ez, h, hl, hp⟩
  · exact .inl h
  · exact .inr (.inl h)
  · exact .inr (.inr (.inl ⟨e, h.same s⟩))
  · exact .inr (.inr (.inr (.inl ⟨e, h.same s⟩)))
  · exact .inr (.inr (.inr (.inr ⟨e, p, xs, ez, h.imp (s _ _) (s _ _), hl, fun v hv => (hp v hv).same s⟩)))
theorem ask_wide {kw : Str} {y z : V} {H : Hp} {Q : VK} (hy : Pl H y) (hw : isW y = false) (hz : WideZ kw z H) (k : ∀ t H', H' t = some (.tup [.str "BadWidth", y]) → Same H H' → Q (.ref t) H') : askB (.str kw) y z H Q := by
  refine ⟨kw, fun name v _ => name = "BadWidth" ∧ v = y, rfl, hy, fun name v t H' ⟨e1, e2⟩ h s => k t H' (by rw [h, e1, e2]) s, fun _ _ => ⟨rfl, rfl⟩, ?_⟩
  have no : ∀ {w : Int}, y = .int w → Wd w → False := fun e h => by rw [e, isW_int h] at hw; cases hw
  rcases hz with h | ⟨e, n, h⟩ | ⟨e, h⟩ | ⟨e, h⟩ | ⟨e, p, xs, ez, h, hl, hp⟩
  · exact .inl ⟨h, fun w e hW => (no e hW).elim⟩
  · exact .inr (.inl ⟨e, n, h, fun w e hW => (no e hW).elim⟩)
  · exact .inr (.inr (.inl ⟨e, h, fun w e hW => (no e hW).elim⟩))
  · exact .inr (.inr (.inr (.inl ⟨e, h, fun w e hW => (no e hW).elim⟩)))
  · exact .inr (.inr (.inr (.inr ⟨e, p, xs, ez, h, hl, hp, fun w e hW => (no e hW).elim⟩)))
abbrev spWideR : Sp := Sp1 fun x H Q _ => ∃ (b : Addr), x = .ref b ∧ BagAt H b ∧ ∀ H', BagAt H' b → Kp b H H' → Q (.bl true) H'

theorem ok__law_widths_right (M : TX K mg) : FnOk P w K mg base (L2.CX P w) 9 M.f__law_widths_right M.d__law_widths_right ["_law_bag_here"] (spWideR) := by
  have sc := sc__law_widths_right
  refine M.F__law_widths_right.okX sc (fun vs H Q E h => Sp1_len h) (fun cdv A outer s H vs Q E hr h => ?_)
  obtain ⟨x0, rfl, h⟩ := h
  have hu := hu_of hr
  have hu64 := hr.units
  refine ⟨_, (pss_cons (ps_set (i := 1) sc.nd rfl (Or.inl rfl) (pe_call (ok__law_odd_width M) (hr.mono (by decide)) rfl M.g__law_odd_width M.F__law_odd_width.kp M.b__law_odd_width .nil (passE rfl rfl rfl rfl) (pa_cons (pv 0) pa_nil)))
    (pss_cons (ps_set (i := 2) sc.nd rfl (Or.inl rfl) (pe_lst (pa_cons (pe_tup (pa_cons pe_str (pa_cons pe_non pa_nil))) (pa_cons (pe_tup (pa_cons pe_str (pa_cons (pe_call (ok__law_pick M) (hr.mono (by decide)) rfl M.g__law_pick M.F__law_pick.kp M.b__law_pick .nil (passE rfl rfl rfl rfl) (pa_cons (pv 0) (pa_cons pe_int pa_nil))) pa_nil))) (pa_cons (pe_tup (pa_cons pe_str (pa_cons (pe_call (ok__law_pick M) (hr.mono (by decide)) rfl M.g__law_pick M.F__law_pick.kp M.b__law_pick .nil (passE rfl rfl rfl rfl) (pa_cons (pv 0) (pa_cons pe_int pa_nil))) pa_nil))) (pa_cons (pe_tup (pa_cons pe_str (pa_cons pe_str pa_nil))) (pa_cons (pe_tup (pa_cons pe_str (pa_cons (pe_call (ok__law_pick M) (hr.mono (by decide)) rfl M.g__law_pick M.F__law_pick.kp M.b__law_pick .nil (passE rfl rfl rfl rfl) (pa_cons (pv 0) (pa_cons pe_int pa_nil))) pa_nil))) (pa_cons (pe_tup (pa_cons pe_str (pa_cons pe_bl pa_nil))) (pa_cons (pe_tup (pa_cons pe_str (pa_cons (pe_lst (pa_cons pe_int (pa_cons pe_int pa_nil))) pa_nil))) (pa_cons (pe_tup (pa_cons pe_str (pa_cons (pe_lst (pa_cons pe_int pa_nil)) pa_nil))) (pa_cons (pe_tup (pa_cons pe_str (pa_cons (pe_tup (pa_cons pe_int (pa_cons pe_int (pa_cons pe_int (pa_cons pe_int pa_nil))))) pa_nil))) pa_nil)))))))))))
    (pss_cons (ps_for (passes_of rfl) rfl (pi_listK K (pi_list (pv 2))) (pg_name (i := 3) sc.nd rfl (Or.inl rfl))
      (pss_one (ps_if (pt_not (pt_val (pe_call (ok__law_same M) (hr.mono (by decide)) rfl M.g__law_same M.F__law_same.kp M.b__law_same .nil (passE rfl rfl rfl rfl) (pa_cons (pe_call (ok__law_asked M) (hr.mono (by decide)) rfl M.g__law_asked M.F__law_asked.kp M.b__law_asked .nil (passE rfl rfl rfl rfl) (pa_cons (pe_ix (ix_tupK K) (pv 3) pe_int (fun _ _ => rfl)) (pa_cons (pv 1) (pa_cons (pe_ix (ix_tupK K) (pv 3) pe_int (fun _ _ => rfl)) pa_nil)))) (pa_cons (pe_tup (pa_cons pe_str (pa_cons (pv 1) pa_nil))) pa_nil)))))
        (pss_one (ps_ret pe_bl))
        pss_nil)))
    (pss_one (ps_ret pe_bl))))), ?_⟩

  obtain ⟨b, rfl, B, q⟩ := h
  walk_at "rd"
  intro wide d H0 pd hwd B0 k0
  walk_at "rd"
  intro t1 ht1
  refine alloc_gen ht1 fun H1 s1 h1 => ?_
  have B1 := B0.same s1
  have n1 := B1.ne_tup h1
  walk_at "rd"
  intro m2 H2 _ _ B2 k2
  walk_at "rd"
  intro t2 ht2
  refine alloc_gen ht2 fun H3 s3 h2 => ?_
  have B3 := B2.same s3
  have n2 := B3.ne_tup h2
  walk_at "rd"
  intro m3 H4 _ _ B4 k4
  walk_at "rd"
  intro t3 ht3
  refine alloc_gen ht3 fun H5 s5 h3 => ?_
  have B5 := B4.same s5
  have n3 := B5.ne_tup h3
  walk_at "rd"
  intro t4 ht4
  refine alloc_gen ht4 fun H6 s6 h4 => ?_
  have B6 := B5.same s6
  have n4 := B6.ne_tup h4
  walk_at "rd"
  intro m5 H7 _ _ B7 k7
  walk_at "rd"
  intro t5 ht5
  refine alloc_gen ht5 fun H8 s8 h5 => ?_
  have B8 := B7.same s8
  walk_at "rd"
  intro t6 ht6
  refine alloc_gen ht6 fun H9 s9 h6 => ?_
  have B9 := B8.same s9
  walk_at "rd"
  intro l7 hl7
  refine alloc_gen hl7 fun H10 s10 hl7 => ?_
  have B10 := B9.same s10
  walk_at "rd"
  intro t7 ht7
  refine alloc_gen ht7 fun H11 s11 h7 => ?_
  have B11 := B10.same s11
  walk_at "rd"
  intro l8 hl8
  refine alloc_gen hl8 fun H12 s12 hl8 => ?_
  have B12 := B11.same s12
  walk_at "rd"
  intro t8 ht8
  refine alloc_gen ht8 fun H13 s13 h8 => ?_
  have B13 := B12.same s13
  walk_at "rd"
  intro u9 hu9
  refine alloc_gen hu9 fun H14 s14 hu9 => ?_
  have B14 := B13.same s14
  walk_at "rd"
  intro t9 ht9
  refine alloc_gen ht9 fun H15 s15 h9 => ?_
  have B15 := B14.same s15
  walk_at "rd"
  intro cs hcs
  refine alloc_gen hcs fun H16 s16 hcs => ?_
  have B16 := B15.same s16
  have d16 := s16
  have d15 := s15.trans d16
  have d14 := s14.trans d15
  have d13 := s13.trans d14
  have d12 := s12.trans d13
  have d11 := s11.trans d12
  have d10 := s10.trans d11
  have d9 := s9.trans d10
  have d8 := s8.trans d9
  have g7 := k7.trans (Kp.of d8)
  have g6 := (Kp.of (b := b) s6).trans g7
  have g5 := (Kp.of (b := b) s5).trans g6
  have g4 := k4.trans g5
  have g3 := (Kp.of (b := b) s3).trans g4
  have g2 := k2.trans g3
  have g1 := (Kp.of (b := b) s1).trans g2
  have f1 := g2 _ _ n1 h1
  have f2 := g4 _ _ n2 h2
  have f3 := g6 _ _ n3 h3
  have f4 := g7 _ _ n4 h4
  have f5 := d9 _ _ h5
  have f6 := d10 _ _ h6
  have e7 := d11 _ _ hl7
  have f7 := d12 _ _ h7
  have e8 := d13 _ _ hl8
  have f8 := d14 _ _ h8
  have e9 := d15 _ _ hu9
  have f9 := d16 _ _ h9
  have pdF := pd.kp B0 g1
  have kF := k0.trans g1
  clear d16 d15 d14 d13 d12 d11 d10 d9 d8 g7 g6 g5 g4 g3 g2 g1 h1 h2 h3 h4 h5 h6 hl7 h7 hl8 h8 hu9 h9 pd k0 s1 k2 s3 k4 s5 s6 k7 s8 s9 s10 s11 s12 s13 s14 s15 s16 B0 B1 B2 B3 B4 B5 B6 B7 B8 B9 B10 B11 B12 B13 B14 B15
  have hq : ∀ x ∈ [V.ref t1, V.ref t2, V.ref t3, V.ref t4, V.ref t5, V.ref t6, V.ref t7, V.ref t8, V.ref t9], ∃ t kw z, x = .ref t ∧ H16 t = some (.tup [.str kw, z]) ∧ WideZ kw z H16 := by
    intro x m
    have pi : ∀ (ns : List Int), ∀ v ∈ ns.map V.int, Pl H16 v := fun ns v hv => by obtain ⟨z, _, rfl⟩ := List.mem_map.mp hv; exact .int z
    simp only [List.mem_cons, List.not_mem_nil, or_false] at m
    rcases m with rfl | rfl | rfl | rfl | rfl | rfl | rfl | rfl | rfl
    · exact ⟨t1, _, _, rfl, f1, .inl rfl⟩
    · exact ⟨t2, _, _, rfl, f2, .inr (.inl ⟨rfl, _, rfl⟩)⟩
    · exact ⟨t3, _, _, rfl, f3, .inr (.inr (.inl ⟨rfl, .int _⟩))⟩
    · exact ⟨t4, _, _, rfl, f4, .inr (.inr (.inl ⟨rfl, .str _⟩))⟩
    · exact ⟨t5, _, _, rfl, f5, .inr (.inr (.inr (.inl ⟨rfl, .int _⟩)))⟩
    · exact ⟨t6, _, _, rfl, f6, .inr (.inr (.inr (.inl ⟨rfl, .bl _⟩)))⟩
    · exact ⟨t7, _, _, rfl, f7, .inr (.inr (.inr (.inr ⟨rfl, l7, _, rfl, .inl e7, Nat.le_of_ble_eq_true rfl, pi [0, 0]⟩)))⟩
    · exact ⟨t8, _, _, rfl, f8, .inr (.inr (.inr (.inr ⟨rfl, l8, _, rfl, .inl e8, Nat.le_of_ble_eq_true rfl, pi [300]⟩)))⟩
    · exact ⟨t9, _, _, rfl, f9, .inr (.inr (.inr (.inr ⟨rfl, u9, _, rfl, .inr e9, Nat.le_of_ble_eq_true rfl, pi [0, 0, 0, 0]⟩)))⟩
  obtain ⟨xs, eX⟩ : ∃ xs, xs = [V.ref t1, V.ref t2, V.ref t3, V.ref t4, V.ref t5, V.ref t6, V.ref t7, V.ref t8, V.ref t9] := ⟨_, rfl⟩
  rw [← eX] at hcs hq
  clear eX f1 f2 f3 f4 f5 f6 f7 f8 f9 e7 e8 e9
  refine ⟨_, rfl, cs, rfl, ⟨_, SqL.of hcs⟩, ?_⟩
  refine for_list (K := K) (a := cs) (xs := xs) (fun i σ H2 => Same H16 H2 ∧ ∃ v, σ = [some (.ref b), some wide, some (.ref cs), v]) ⟨Same.refl H16, none, rfl⟩ (fun i σ H2 _ h => SqL.of (h.1 _ _ hcs)) ?_ ?_
  · rintro i x σ H2 hi ⟨sA, v, rfl⟩
    obtain ⟨t, kw, z, rfl, ht, hz⟩ := hq x (List.mem_of_getElem? hi)
    have ht2 := sA _ _ ht
    have hz2 := hz.same sA
    have pd2 := pdF.same sA
    refine ⟨_, rfl, _, _, _, .str kw, rfl, rfl, SqT.of ht2, rfl, ?_⟩
    refine ⟨_, rfl, _, rfl, _, _, _, z, rfl, rfl, SqT.of ht2, rfl, ?_⟩
    refine ⟨_, _, _, rfl, ask_wide pd2.pl hwd hz2 fun t1 H5 ht1 s5 => ?_⟩
    refine ⟨_, rfl, Nat.le_of_ble_eq_true rfl, fun u1 hu1 => ?_⟩
    have s6 := Same.put (o := .tup [V.str "BadWidth", wide]) (Same.refl H5) hu1
    refine ⟨_, _, rfl, t1, u1, "BadWidth", wide, d, rfl, rfl, s6 _ _ ht1, upd_same, pd2.same (s5.trans s6), true, rfl, ?_⟩
    exact ⟨sA.trans (s5.trans s6), _, rfl⟩
  · rintro σ H2 ⟨sA, v, rfl⟩
    exact q H2 (B16.same sA) (kF.trans (Kp.of sA))

end
end K02
namespace K02
open PySem PySem.Spec PyProof.Rows L2 My
section
variable {P : Program} {w : World} {K : PySem.W.Frag} {mg : Str → Option Value} {base : Heap}

abbrev spLaw (K : PySem.W.Frag) : Sp := Sp1 fun x H Q _ => ∃ (a : Addr) (ns : List Int), x = .ref a ∧ SqL K H a (ns.map V.int) ∧ ns.length ≤ 63 ∧ ∀ H', Q (.bl true) H'

theorem ok_law (M : TX K mg) : FnOk P w K mg base (L2.CX P w) 11 M.f_law M.d_law ["_law_script"] (spLaw K) := by
  have sc := sc_law
  refine M.F_law.okX sc (fun vs H Q E h => Sp1_len h) (fun cdv A outer s H vs Q E hr h => ?_)
  obtain ⟨x0, rfl, h⟩ := h
  have hu := hu_of hr
  have hu64 := hr.units
  refine ⟨_, (pss_cons (ps_set (i := 1) sc.nd rfl (Or.inl rfl) (pe_call (ok__law_bag M) (hr.mono (by decide)) rfl M.g__law_bag M.F__law_bag.kp M.b__law_bag .nil (passE rfl rfl rfl rfl) (pa_cons (pv 0) pa_nil)))
    (pss_cons (ps_for (passes_of rfl) rfl (pi_tupK K (pi_tup (pe_tup (pa_cons pe_int (pa_cons pe_int (pa_cons pe_int pa_nil)))))) (pg_name (i := 2) sc.nd rfl (Or.inl rfl))
      (pss_one (ps_if (PW.pt (pw_or (pt_not (pt_val (pe_call (ok__law_numbers_right M) (hr.mono (by decide)) rfl M.g__law_numbers_right M.F__law_numbers_right.kp M.b__law_numbers_right .nil (passE rfl rfl rfl rfl) (pa_cons (pv 1) (pa_cons (pv 2) pa_nil))))) (pw_or1 (pt_not (pt_val (pe_call (ok__law_rows_right M) (hr.mono (by decide)) rfl M.g__law_rows_right M.F__law_rows_right.kp M.b__law_rows_right .nil (passE rfl rfl rfl rfl) (pa_cons (pv 1) (pa_cons (pv 2) pa_nil))))))))
        (pss_one (ps_ret pe_bl))
        pss_nil)))
    (pss_one (ps_ret (pe_call (ok__law_widths_right M) (hr.mono (by decide)) rfl M.g__law_widths_right M.F__law_widths_right.kp M.b__law_widths_right .nil (passE rfl rfl rfl rfl) (pa_cons (pv 1) pa_nil)))))), ?_⟩

  obtain ⟨a, ns, rfl, hS, hl, k⟩ := h
  refine ⟨_, rfl, _, rfl, a, ns, rfl, hS, hl, fun b H1 hb B s1 => ?_⟩
  refine ⟨Nat.le_of_ble_eq_true rfl, fun wp hwp => ?_⟩
  have hw5 : upd H1 wp (.tup [V.int 16, V.int 24, V.int 32]) wp = some (.tup [V.int 16, V.int 24, V.int 32]) := upd_same
  have B5 := B.put (o := .tup [V.int 16, V.int 24, V.int 32]) hwp
  have nw := B5.ne_tup hw5
  refine ⟨wp, rfl, ⟨_, SqT.of hw5⟩, ?_⟩
  refine for_tup (K := K) (a := wp) (xs := [V.int 16, V.int 24, V.int 32]) (fun i σ H' => ∃ v1, σ = [some (.ref a), some (.ref b), v1] ∧ BagAt H' b ∧ H' wp = some (.tup [V.int 16, V.int 24, V.int 32])) ⟨none, rfl, B5, hw5⟩ (fun i σ H' _ ⟨_, _, _, h⟩ => SqT.of h) ?_ ?_
  · rintro i x σ H6 hi ⟨v1, rfl, B6, hw6⟩
    obtain ⟨wd, rfl, hwd⟩ : ∃ w, x = V.int w ∧ Wd w := by
      have m := List.mem_of_getElem? hi
      simp only [List.mem_cons, List.not_mem_nil, or_false] at m
      rcases m with rfl | rfl | rfl
      · exact ⟨_, rfl, .inl rfl⟩
      · exact ⟨_, rfl, .inr (.inl rfl)⟩
      · exact ⟨_, rfl, .inr (.inr rfl)⟩
    refine ⟨_, rfl, _, rfl, _, _, rfl, b, wd, rfl, rfl, hwd, B6, fun H7 B7 k7 => ?_⟩
    refine ⟨true, rfl, ?_⟩
    refine ⟨_, rfl, _, rfl, _, _, rfl, b, wd, rfl, rfl, hwd, B7, fun H8 B8 k8 => ?_⟩
    refine ⟨true, rfl, ?_⟩
    exact ⟨_, rfl, B8, k8 _ _ nw (k7 _ _ nw hw6)⟩
  · rintro σ H9 ⟨v1, rfl, B9, hw9⟩
    exact ⟨_, rfl, _, rfl, b, rfl, B9, fun H' _ _ => k H'⟩

end
end K02
namespace K02
open PySem PySem.Spec PyProof.Rows L2 My
theorem all_mk {K : PySem.W.Frag} {h : Heap} {mg : Str → Option Value} {fa : Addr} (X : K.In h) (G : h.Ns mainGlobals mg) (hfa : mg "law" = some (.ref fa))
    {f_BadWidth___init__ : Addr}
    {oc_BadWidth___init__ kV_BadWidth___init__ dc_BadWidth___init__ pm_BadWidth___init__ cd_BadWidth___init__ ct_BadWidth___init__ : Value} {od_BadWidth___init__ an_BadWidth___init__ : Option Addr} {sl_BadWidth___init__ : Array (Option Value)}
    {f_BadNumber___init__ : Addr}
    {oc_BadNumber___init__ kV_BadNumber___init__ dc_BadNumber___init__ pm_BadNumber___init__ cd_BadNumber___init__ ct_BadNumber___init__ : Value} {od_BadNumber___init__ an_BadNumber___init__ : Option Addr} {sl_BadNumber___init__ : Array (Option Value)}
    {f_BadByte___init__ : Addr}
    {oc_BadByte___init__ kV_BadByte___init__ dc_BadByte___init__ pm_BadByte___init__ cd_BadByte___init__ ct_BadByte___init__ : Value} {od_BadByte___init__ an_BadByte___init__ : Option Addr} {sl_BadByte___init__ : Array (Option Value)}
    {f_is_integer : Addr}
    {oc_is_integer kV_is_integer dc_is_integer pm_is_integer cd_is_integer ct_is_integer : Value} {od_is_integer an_is_integer : Option Addr} {sl_is_integer : Array (Option Value)}
    {f_is_between : Addr}
    {oc_is_between kV_is_between dc_is_between pm_is_between cd_is_between ct_is_between : Value} {od_is_between an_is_between : Option Addr} {sl_is_between : Array (Option Value)}
    {f_is_byte : Addr}
    {oc_is_byte kV_is_byte dc_is_byte pm_is_byte cd_is_byte ct_is_byte : Value} {od_is_byte an_is_byte : Option Addr} {sl_is_byte : Array (Option Value)}
    {f_check_width : Addr}
    {oc_check_width kV_check_width dc_check_width pm_check_width cd_check_width ct_check_width : Value} {od_check_width an_check_width : Option Addr} {sl_check_width : Array (Option Value)}
    {f_check_number : Addr}
    {oc_check_number kV_check_number dc_check_number pm_check_number cd_check_number ct_check_number : Value} {od_check_number an_check_number : Option Addr} {sl_check_number : Array (Option Value)}
    {f_half : Addr}
    {oc_half kV_half dc_half pm_half cd_half ct_half : Value} {od_half an_half : Option Addr} {sl_half : Array (Option Value)}
    {f_wrap : Addr}
    {oc_wrap kV_wrap dc_wrap pm_wrap cd_wrap ct_wrap : Value} {od_wrap an_wrap : Option Addr} {sl_wrap : Array (Option Value)}
    {f_is_number : Addr}
    {oc_is_number kV_is_number dc_is_number pm_is_number cd_is_number ct_is_number : Value} {od_is_number an_is_number : Option Addr} {sl_is_number : Array (Option Value)}
    {f_bytes_of : Addr}
    {oc_bytes_of kV_bytes_of dc_bytes_of pm_bytes_of cd_bytes_of ct_bytes_of : Value} {od_bytes_of an_bytes_of : Option Addr} {sl_bytes_of : Array (Option Value)}
    {f_number_of : Addr}
    {oc_number_of kV_number_of dc_number_of pm_number_of cd_number_of ct_number_of : Value} {od_number_of an_number_of : Option Addr} {sl_number_of : Array (Option Value)}
    {f__law_bag : Addr}
    {oc__law_bag kV__law_bag dc__law_bag pm__law_bag cd__law_bag ct__law_bag : Value} {od__law_bag an__law_bag : Option Addr} {sl__law_bag : Array (Option Value)}
    {f__law_pick : Addr}
    {oc__law_pick kV__law_pick dc__law_pick pm__law_pick cd__law_pick ct__law_pick : Value} {od__law_pick an__law_pick : Option Addr} {sl__law_pick : Array (Option Value)}
    {f__law_choice : Addr}
    {oc__law_choice kV__law_choice dc__law_choice pm__law_choice cd__law_choice ct__law_choice : Value} {od__law_choice an__law_choice : Option Addr} {sl__law_choice : Array (Option Value)}
    {f__law_integer : Addr}
    {oc__law_integer kV__law_integer dc__law_integer pm__law_integer cd__law_integer ct__law_integer : Value} {od__law_integer an__law_integer : Option Addr} {sl__law_integer : Array (Option Value)}
    {f__law_half : Addr}
    {oc__law_half kV__law_half dc__law_half pm__law_half cd__law_half ct__law_half : Value} {od__law_half an__law_half : Option Addr} {sl__law_half : Array (Option Value)}
    {f__law_wrap : Addr}
    {oc__law_wrap kV__law_wrap dc__law_wrap pm__law_wrap cd__law_wrap ct__law_wrap : Value} {od__law_wrap an__law_wrap : Option Addr} {sl__law_wrap : Array (Option Value)}
    {f__law_num : Addr}
    {oc__law_num kV__law_num dc__law_num pm__law_num cd__law_num ct__law_num : Value} {od__law_num an__law_num : Option Addr} {sl__law_num : Array (Option Value)}
    {f__law_bytes : Addr}
    {oc__law_bytes kV__law_bytes dc__law_bytes pm__law_bytes cd__law_bytes ct__law_bytes : Value} {od__law_bytes an__law_bytes : Option Addr} {sl__law_bytes : Array (Option Value)}
    {f__law_cell : Addr}
    {oc__law_cell kV__law_cell dc__law_cell pm__law_cell cd__law_cell ct__law_cell : Value} {od__law_cell an__law_cell : Option Addr} {sl__law_cell : Array (Option Value)}
    {f__law_asked : Addr}
    {oc__law_asked kV__law_asked dc__law_asked pm__law_asked cd__law_asked ct__law_asked : Value} {od__law_asked an__law_asked : Option Addr} {sl__law_asked : Array (Option Value)}
    {f__law_same : Addr}
    {oc__law_same kV__law_same dc__law_same pm__law_same cd__law_same ct__law_same : Value} {od__law_same an__law_same : Option Addr} {sl__law_same : Array (Option Value)}
    {f__law_is_told : Addr}
    {oc__law_is_told kV__law_is_told dc__law_is_told pm__law_is_told cd__law_is_told ct__law_is_told : Value} {od__law_is_told an__law_is_told : Option Addr} {sl__law_is_told : Array (Option Value)}
    {f__law_is_row : Addr}
    {oc__law_is_row kV__law_is_row dc__law_is_row pm__law_is_row cd__law_is_row ct__law_is_row : Value} {od__law_is_row an__law_is_row : Option Addr} {sl__law_is_row : Array (Option Value)}
    {f__law_doubled : Addr}
    {oc__law_doubled kV__law_doubled dc__law_doubled pm__law_doubled cd__law_doubled ct__law_doubled : Value} {od__law_doubled an__law_doubled : Option Addr} {sl__law_doubled : Array (Option Value)}
    {f__law_great : Addr}
    {oc__law_great kV__law_great dc__law_great pm__law_great cd__law_great ct__law_great : Value} {od__law_great an__law_great : Option Addr} {sl__law_great : Array (Option Value)}
    {f__law_odd_number : Addr}
    {oc__law_odd_number kV__law_odd_number dc__law_odd_number pm__law_odd_number cd__law_odd_number ct__law_odd_number : Value} {od__law_odd_number an__law_odd_number : Option Addr} {sl__law_odd_number : Array (Option Value)}
    {f__law_odd_byte : Addr}
    {oc__law_odd_byte kV__law_odd_byte dc__law_odd_byte pm__law_odd_byte cd__law_odd_byte ct__law_odd_byte : Value} {od__law_odd_byte an__law_odd_byte : Option Addr} {sl__law_odd_byte : Array (Option Value)}
    {f__law_odd_width : Addr}
    {oc__law_odd_width kV__law_odd_width dc__law_odd_width pm__law_odd_width cd__law_odd_width ct__law_odd_width : Value} {od__law_odd_width an__law_odd_width : Option Addr} {sl__law_odd_width : Array (Option Value)}
    {f__law_wrapped_right : Addr}
    {oc__law_wrapped_right kV__law_wrapped_right dc__law_wrapped_right pm__law_wrapped_right cd__law_wrapped_right ct__law_wrapped_right : Value} {od__law_wrapped_right an__law_wrapped_right : Option Addr} {sl__law_wrapped_right : Array (Option Value)}
    {f__law_numbers_right : Addr}
    {oc__law_numbers_right kV__law_numbers_right dc__law_numbers_right pm__law_numbers_right cd__law_numbers_right ct__law_numbers_right : Value} {od__law_numbers_right an__law_numbers_right : Option Addr} {sl__law_numbers_right : Array (Option Value)}
    {f__law_drawn_row : Addr}
    {oc__law_drawn_row kV__law_drawn_row dc__law_drawn_row pm__law_drawn_row cd__law_drawn_row ct__law_drawn_row : Value} {od__law_drawn_row an__law_drawn_row : Option Addr} {sl__law_drawn_row : Array (Option Value)}
    {f__law_rows_right : Addr}
    {oc__law_rows_right kV__law_rows_right dc__law_rows_right pm__law_rows_right cd__law_rows_right ct__law_rows_right : Value} {od__law_rows_right an__law_rows_right : Option Addr} {sl__law_rows_right : Array (Option Value)}
    {f__law_widths_right : Addr}
    {oc__law_widths_right kV__law_widths_right dc__law_widths_right pm__law_widths_right cd__law_widths_right ct__law_widths_right : Value} {od__law_widths_right an__law_widths_right : Option Addr} {sl__law_widths_right : Array (Option Value)}
    {f_law : Addr}
    {oc_law kV_law dc_law pm_law cd_law ct_law : Value} {od_law an_law : Option Addr} {sl_law : Array (Option Value)}
    {c_MintError : Addr}
    {c_BadWidth : Addr}
    {c_BadNumber : Addr}
    {c_BadByte : Addr}
    {nm_BadWidth q_BadWidth : Str} {N_BadWidth : Addr} {bs_BadWidth bm_BadWidth sub_BadWidth : List Value} {sn_BadWidth : List Str} {ab_BadWidth : Bool} {col_BadWidth : Option Bool} {dd_BadWidth : Option Addr} {m0_BadWidth m1_BadWidth m2_BadWidth m3_BadWidth m5_BadWidth : Option Value}
    {nm_BadNumber q_BadNumber : Str} {N_BadNumber : Addr} {bs_BadNumber bm_BadNumber sub_BadNumber : List Value} {sn_BadNumber : List Str} {ab_BadNumber : Bool} {col_BadNumber : Option Bool} {dd_BadNumber : Option Addr} {m0_BadNumber m1_BadNumber m2_BadNumber m3_BadNumber m5_BadNumber : Option Value}
    {nm_BadByte q_BadByte : Str} {N_BadByte : Addr} {bs_BadByte bm_BadByte sub_BadByte : List Value} {sn_BadByte : List Str} {ab_BadByte : Bool} {col_BadByte : Option Bool} {dd_BadByte : Option Addr} {m0_BadByte m1_BadByte m2_BadByte m3_BadByte m5_BadByte : Option Value}
    {a_WIDTHS : Addr}
    {oda_WIDTHS : Option Addr} {itsa_WIDTHS : Array Value} {na_WIDTHS : Nat} {sla_WIDTHS : Array (Option Value)}
    (l_BadWidth___init__ : K.lookup f_BadWidth___init__ = some ⟨oc_BadWidth___init__, od_BadWidth___init__, .func (PySem.W.fnOf "__init__" "BadWidth.__init__" (defArgs s_BadWidth___init__) (defBody s_BadWidth___init__) (defScope s_BadWidth___init__) .none kV_BadWidth___init__ dc_BadWidth___init__ pm_BadWidth___init__ an_BadWidth___init__ cd_BadWidth___init__ ct_BadWidth___init__), sl_BadWidth___init__⟩)
    (z_BadWidth___init__ : PySem.W.codeIn K cd_BadWidth___init__ "BadWidth.__init__" = true)
    (kk_BadWidth___init__ : PySem.W.keepIn K (.ref f_BadWidth___init__) = true)
    (l_BadNumber___init__ : K.lookup f_BadNumber___init__ = some ⟨oc_BadNumber___init__, od_BadNumber___init__, .func (PySem.W.fnOf "__init__" "BadNumber.__init__" (defArgs s_BadNumber___init__) (defBody s_BadNumber___init__) (defScope s_BadNumber___init__) .none kV_BadNumber___init__ dc_BadNumber___init__ pm_BadNumber___init__ an_BadNumber___init__ cd_BadNumber___init__ ct_BadNumber___init__), sl_BadNumber___init__⟩)
    (z_BadNumber___init__ : PySem.W.codeIn K cd_BadNumber___init__ "BadNumber.__init__" = true)
    (kk_BadNumber___init__ : PySem.W.keepIn K (.ref f_BadNumber___init__) = true)
    (l_BadByte___init__ : K.lookup f_BadByte___init__ = some ⟨oc_BadByte___init__, od_BadByte___init__, .func (PySem.W.fnOf "__init__" "BadByte.__init__" (defArgs s_BadByte___init__) (defBody s_BadByte___init__) (defScope s_BadByte___init__) .none kV_BadByte___init__ dc_BadByte___init__ pm_BadByte___init__ an_BadByte___init__ cd_BadByte___init__ ct_BadByte___init__), sl_BadByte___init__⟩)
    (z_BadByte___init__ : PySem.W.codeIn K cd_BadByte___init__ "BadByte.__init__" = true)
    (kk_BadByte___init__ : PySem.W.keepIn K (.ref f_BadByte___init__) = true)
    (l_is_integer : K.lookup f_is_integer = some ⟨oc_is_integer, od_is_integer, .func (PySem.W.fnOf "is_integer" "is_integer" (defArgs s_is_integer) (defBody s_is_integer) (defScope s_is_integer) .none kV_is_integer dc_is_integer pm_is_integer an_is_integer cd_is_integer ct_is_integer), sl_is_integer⟩)
    (z_is_integer : PySem.W.codeIn K cd_is_integer "is_integer" = true)
    (kk_is_integer : PySem.W.keepIn K (.ref f_is_integer) = true)
    (ag_is_integer : PySem.W.nsIn K mainGlobals "is_integer" = some (some (.ref f_is_integer)))
    (l_is_between : K.lookup f_is_between = some ⟨oc_is_between, od_is_between, .func (PySem.W.fnOf "is_between" "is_between" (defArgs s_is_between) (defBody s_is_between) (defScope s_is_between) .none kV_is_between dc_is_between pm_is_between an_is_between cd_is_between ct_is_between), sl_is_between⟩)
    (z_is_between : PySem.W.codeIn K cd_is_between "is_between" = true)
    (kk_is_between : PySem.W.keepIn K (.ref f_is_between) = true)
    (ag_is_between : PySem.W.nsIn K mainGlobals "is_between" = some (some (.ref f_is_between)))
    (l_is_byte : K.lookup f_is_byte = some ⟨oc_is_byte, od_is_byte, .func (PySem.W.fnOf "is_byte" "is_byte" (defArgs s_is_byte) (defBody s_is_byte) (defScope s_is_byte) .none kV_is_byte dc_is_byte pm_is_byte an_is_byte cd_is_byte ct_is_byte), sl_is_byte⟩)
    (z_is_byte : PySem.W.codeIn K cd_is_byte "is_byte" = true)
    (kk_is_byte : PySem.W.keepIn K (.ref f_is_byte) = true)
    (ag_is_byte : PySem.W.nsIn K mainGlobals "is_byte" = some (some (.ref f_is_byte)))
    (l_check_width : K.lookup f_check_width = some ⟨oc_check_width, od_check_width, .func (PySem.W.fnOf "check_width" "check_width" (defArgs s_check_width) (defBody s_check_width) (defScope s_check_width) .none kV_check_width dc_check_width pm_check_width an_check_width cd_check_width ct_check_width), sl_check_width⟩)
    (z_check_width : PySem.W.codeIn K cd_check_width "check_width" = true)
    (kk_check_width : PySem.W.keepIn K (.ref f_check_width) = true)
    (ag_check_width : PySem.W.nsIn K mainGlobals "check_width" = some (some (.ref f_check_width)))
    (l_check_number : K.lookup f_check_number = some ⟨oc_check_number, od_check_number, .func (PySem.W.fnOf "check_number" "check_number" (defArgs s_check_number) (defBody s_check_number) (defScope s_check_number) .none kV_check_number dc_check_number pm_check_number an_check_number cd_check_number ct_check_number), sl_check_number⟩)
    (z_check_number : PySem.W.codeIn K cd_check_number "check_number" = true)
    (kk_check_number : PySem.W.keepIn K (.ref f_check_number) = true)
    (ag_check_number : PySem.W.nsIn K mainGlobals "check_number" = some (some (.ref f_check_number)))
    (l_half : K.lookup f_half = some ⟨oc_half, od_half, .func (PySem.W.fnOf "half" "half" (defArgs s_half) (defBody s_half) (defScope s_half) .none kV_half dc_half pm_half an_half cd_half ct_half), sl_half⟩)
    (z_half : PySem.W.codeIn K cd_half "half" = true)
    (kk_half : PySem.W.keepIn K (.ref f_half) = true)
    (ag_half : PySem.W.nsIn K mainGlobals "half" = some (some (.ref f_half)))
    (l_wrap : K.lookup f_wrap = some ⟨oc_wrap, od_wrap, .func (PySem.W.fnOf "wrap" "wrap" (defArgs s_wrap) (defBody s_wrap) (defScope s_wrap) .none kV_wrap dc_wrap pm_wrap an_wrap cd_wrap ct_wrap), sl_wrap⟩)
    (z_wrap : PySem.W.codeIn K cd_wrap "wrap" = true)
    (kk_wrap : PySem.W.keepIn K (.ref f_wrap) = true)
    (ag_wrap : PySem.W.nsIn K mainGlobals "wrap" = some (some (.ref f_wrap)))
    (l_is_number : K.lookup f_is_number = some ⟨oc_is_number, od_is_number, .func (PySem.W.fnOf "is_number" "is_number" (defArgs s_is_number) (defBody s_is_number) (defScope s_is_number) .none kV_is_number dc_is_number pm_is_number an_is_number cd_is_number ct_is_number), sl_is_number⟩)
    (z_is_number : PySem.W.codeIn K cd_is_number "is_number" = true)
    (kk_is_number : PySem.W.keepIn K (.ref f_is_number) = true)
    (ag_is_number : PySem.W.nsIn K mainGlobals "is_number" = some (some (.ref f_is_number)))
    (l_bytes_of : K.lookup f_bytes_of = some ⟨oc_bytes_of, od_bytes_of, .func (PySem.W.fnOf "bytes_of" "bytes_of" (defArgs s_bytes_of) (defBody s_bytes_of) (defScope s_bytes_of) .none kV_bytes_of dc_bytes_of pm_bytes_of an_bytes_of cd_bytes_of ct_bytes_of), sl_bytes_of⟩)
    (z_bytes_of : PySem.W.codeIn K cd_bytes_of "bytes_of" = true)
    (kk_bytes_of : PySem.W.keepIn K (.ref f_bytes_of) = true)
    (ag_bytes_of : PySem.W.nsIn K mainGlobals "bytes_of" = some (some (.ref f_bytes_of)))
    (l_number_of : K.lookup f_number_of = some ⟨oc_number_of, od_number_of, .func (PySem.W.fnOf "number_of" "number_of" (defArgs s_number_of) (defBody s_number_of) (defScope s_number_of) .none kV_number_of dc_number_of pm_number_of an_number_of cd_number_of ct_number_of), sl_number_of⟩)
    (z_number_of : PySem.W.codeIn K cd_number_of "number_of" = true)
    (kk_number_of : PySem.W.keepIn K (.ref f_number_of) = true)
    (ag_number_of : PySem.W.nsIn K mainGlobals "number_of" = some (some (.ref f_number_of)))
    (l__law_bag : K.lookup f__law_bag = some ⟨oc__law_bag, od__law_bag, .func (PySem.W.fnOf "_law_bag" "_law_bag" (defArgs s__law_bag) (defBody s__law_bag) (defScope s__law_bag) .none kV__law_bag dc__law_bag pm__law_bag an__law_bag cd__law_bag ct__law_bag), sl__law_bag⟩)
    (z__law_bag : PySem.W.codeIn K cd__law_bag "_law_bag" = true)
    (kk__law_bag : PySem.W.keepIn K (.ref f__law_bag) = true)
    (ag__law_bag : PySem.W.nsIn K mainGlobals "_law_bag" = some (some (.ref f__law_bag)))
    (l__law_pick : K.lookup f__law_pick = some ⟨oc__law_pick, od__law_pick, .func (PySem.W.fnOf "_law_pick" "_law_pick" (defArgs s__law_pick) (defBody s__law_pick) (defScope s__law_pick) .none kV__law_pick dc__law_pick pm__law_pick an__law_pick cd__law_pick ct__law_pick), sl__law_pick⟩)
    (z__law_pick : PySem.W.codeIn K cd__law_pick "_law_pick" = true)
    (kk__law_pick : PySem.W.keepIn K (.ref f__law_pick) = true)
    (ag__law_pick : PySem.W.nsIn K mainGlobals "_law_pick" = some (some (.ref f__law_pick)))
    (l__law_choice : K.lookup f__law_choice = some ⟨oc__law_choice, od__law_choice, .func (PySem.W.fnOf "_law_choice" "_law_choice" (defArgs s__law_choice) (defBody s__law_choice) (defScope s__law_choice) .none kV__law_choice dc__law_choice pm__law_choice an__law_choice cd__law_choice ct__law_choice), sl__law_choice⟩)
    (z__law_choice : PySem.W.codeIn K cd__law_choice "_law_choice" = true)
    (kk__law_choice : PySem.W.keepIn K (.ref f__law_choice) = true)
    (ag__law_choice : PySem.W.nsIn K mainGlobals "_law_choice" = some (some (.ref f__law_choice)))
    (l__law_integer : K.lookup f__law_integer = some ⟨oc__law_integer, od__law_integer, .func (PySem.W.fnOf "_law_integer" "_law_integer" (defArgs s__law_integer) (defBody s__law_integer) (defScope s__law_integer) .none kV__law_integer dc__law_integer pm__law_integer an__law_integer cd__law_integer ct__law_integer), sl__law_integer⟩)
    (z__law_integer : PySem.W.codeIn K cd__law_integer "_law_integer" = true)
    (kk__law_integer : PySem.W.keepIn K (.ref f__law_integer) = true)
    (ag__law_integer : PySem.W.nsIn K mainGlobals "_law_integer" = some (some (.ref f__law_integer)))
    (l__law_half : K.lookup f__law_half = some ⟨oc__law_half, od__law_half, .func (PySem.W.fnOf "_law_half" "_law_half" (defArgs s__law_half) (defBody s__law_half) (defScope s__law_half) .none kV__law_half dc__law_half pm__law_half an__law_half cd__law_half ct__law_half), sl__law_half⟩)
    (z__law_half : PySem.W.codeIn K cd__law_half "_law_half" = true)
    (kk__law_half : PySem.W.keepIn K (.ref f__law_half) = true)
    (ag__law_half : PySem.W.nsIn K mainGlobals "_law_half" = some (some (.ref f__law_half)))
    (l__law_wrap : K.lookup f__law_wrap = some ⟨oc__law_wrap, od__law_wrap, .func (PySem.W.fnOf "_law_wrap" "_law_wrap" (defArgs s__law_wrap) (defBody s__law_wrap) (defScope s__law_wrap) .none kV__law_wrap dc__law_wrap pm__law_wrap an__law_wrap cd__law_wrap ct__law_wrap), sl__law_wrap⟩)
    (z__law_wrap : PySem.W.codeIn K cd__law_wrap "_law_wrap" = true)
    (kk__law_wrap : PySem.W.keepIn K (.ref f__law_wrap) = true)
    (ag__law_wrap : PySem.W.nsIn K mainGlobals "_law_wrap" = some (some (.ref f__law_wrap)))
    (l__law_num : K.lookup f__law_num = some ⟨oc__law_num, od__law_num, .func (PySem.W.fnOf "_law_num" "_law_num" (defArgs s__law_num) (defBody s__law_num) (defScope s__law_num) .none kV__law_num dc__law_num pm__law_num an__law_num cd__law_num ct__law_num), sl__law_num⟩)
    (z__law_num : PySem.W.codeIn K cd__law_num "_law_num" = true)
    (kk__law_num : PySem.W.keepIn K (.ref f__law_num) = true)
    (ag__law_num : PySem.W.nsIn K mainGlobals "_law_num" = some (some (.ref f__law_num)))
    (l__law_bytes : K.lookup f__law_bytes = some ⟨oc__law_bytes, od__law_bytes, .func (PySem.W.fnOf "_law_bytes" "_law_bytes" (defArgs s__law_bytes) (defBody s__law_bytes) (defScope s__law_bytes) .none kV__law_bytes dc__law_bytes pm__law_bytes an__law_bytes cd__law_bytes ct__law_bytes), sl__law_bytes⟩)
    (z__law_bytes : PySem.W.codeIn K cd__law_bytes "_law_bytes" = true)
    (kk__law_bytes : PySem.W.keepIn K (.ref f__law_bytes) = true)
    (ag__law_bytes : PySem.W.nsIn K mainGlobals "_law_bytes" = some (some (.ref f__law_bytes)))
    (l__law_cell : K.lookup f__law_cell = some ⟨oc__law_cell, od__law_cell, .func (PySem.W.fnOf "_law_cell" "_law_cell" (defArgs s__law_cell) (defBody s__law_cell) (defScope s__law_cell) .none kV__law_cell dc__law_cell pm__law_cell an__law_cell cd__law_cell ct__law_cell), sl__law_cell⟩)
    (z__law_cell : PySem.W.codeIn K cd__law_cell "_law_cell" = true)
    (kk__law_cell : PySem.W.keepIn K (.ref f__law_cell) = true)
    (ag__law_cell : PySem.W.nsIn K mainGlobals "_law_cell" = some (some (.ref f__law_cell)))
    (l__law_asked : K.lookup f__law_asked = some ⟨oc__law_asked, od__law_asked, .func (PySem.W.fnOf "_law_asked" "_law_asked" (defArgs s__law_asked) (defBody s__law_asked) (defScope s__law_asked) .none kV__law_asked dc__law_asked pm__law_asked an__law_asked cd__law_asked ct__law_asked), sl__law_asked⟩)
    (z__law_asked : PySem.W.codeIn K cd__law_asked "_law_asked" = true)
    (kk__law_asked : PySem.W.keepIn K (.ref f__law_asked) = true)
    (ag__law_asked : PySem.W.nsIn K mainGlobals "_law_asked" = some (some (.ref f__law_asked)))
    (l__law_same : K.lookup f__law_same = some ⟨oc__law_same, od__law_same, .func (PySem.W.fnOf "_law_same" "_law_same" (defArgs s__law_same) (defBody s__law_same) (defScope s__law_same) .none kV__law_same dc__law_same pm__law_same an__law_same cd__law_same ct__law_same), sl__law_same⟩)
    (z__law_same : PySem.W.codeIn K cd__law_same "_law_same" = true)
    (kk__law_same : PySem.W.keepIn K (.ref f__law_same) = true)
    (ag__law_same : PySem.W.nsIn K mainGlobals "_law_same" = some (some (.ref f__law_same)))
    (l__law_is_told : K.lookup f__law_is_told = some ⟨oc__law_is_told, od__law_is_told, .func (PySem.W.fnOf "_law_is_told" "_law_is_told" (defArgs s__law_is_told) (defBody s__law_is_told) (defScope s__law_is_told) .none kV__law_is_told dc__law_is_told pm__law_is_told an__law_is_told cd__law_is_told ct__law_is_told), sl__law_is_told⟩)
    (z__law_is_told : PySem.W.codeIn K cd__law_is_told "_law_is_told" = true)
    (kk__law_is_told : PySem.W.keepIn K (.ref f__law_is_told) = true)
    (ag__law_is_told : PySem.W.nsIn K mainGlobals "_law_is_told" = some (some (.ref f__law_is_told)))
    (l__law_is_row : K.lookup f__law_is_row = some ⟨oc__law_is_row, od__law_is_row, .func (PySem.W.fnOf "_law_is_row" "_law_is_row" (defArgs s__law_is_row) (defBody s__law_is_row) (defScope s__law_is_row) .none kV__law_is_row dc__law_is_row pm__law_is_row an__law_is_row cd__law_is_row ct__law_is_row), sl__law_is_row⟩)
    (z__law_is_row : PySem.W.codeIn K cd__law_is_row "_law_is_row" = true)
    (kk__law_is_row : PySem.W.keepIn K (.ref f__law_is_row) = true)
    (ag__law_is_row : PySem.W.nsIn K mainGlobals "_law_is_row" = some (some (.ref f__law_is_row)))
    (l__law_doubled : K.lookup f__law_doubled = some ⟨oc__law_doubled, od__law_doubled, .func (PySem.W.fnOf "_law_doubled" "_law_doubled" (defArgs s__law_doubled) (defBody s__law_doubled) (defScope s__law_doubled) .none kV__law_doubled dc__law_doubled pm__law_doubled an__law_doubled cd__law_doubled ct__law_doubled), sl__law_doubled⟩)
    (z__law_doubled : PySem.W.codeIn K cd__law_doubled "_law_doubled" = true)
    (kk__law_doubled : PySem.W.keepIn K (.ref f__law_doubled) = true)
    (ag__law_doubled : PySem.W.nsIn K mainGlobals "_law_doubled" = some (some (.ref f__law_doubled)))
    (l__law_great : K.lookup f__law_great = some ⟨oc__law_great, od__law_great, .func (PySem.W.fnOf "_law_great" "_law_great" (defArgs s__law_great) (defBody s__law_great) (defScope s__law_great) .none kV__law_great dc__law_great pm__law_great an__law_great cd__law_great ct__law_great), sl__law_great⟩)
    (z__law_great : PySem.W.codeIn K cd__law_great "_law_great" = true)
    (kk__law_great : PySem.W.keepIn K (.ref f__law_great) = true)
    (ag__law_great : PySem.W.nsIn K mainGlobals "_law_great" = some (some (.ref f__law_great)))
    (l__law_odd_number : K.lookup f__law_odd_number = some ⟨oc__law_odd_number, od__law_odd_number, .func (PySem.W.fnOf "_law_odd_number" "_law_odd_number" (defArgs s__law_odd_number) (defBody s__law_odd_number) (defScope s__law_odd_number) .none kV__law_odd_number dc__law_odd_number pm__law_odd_number an__law_odd_number cd__law_odd_number ct__law_odd_number), sl__law_odd_number⟩)
    (z__law_odd_number : PySem.W.codeIn K cd__law_odd_number "_law_odd_number" = true)
    (kk__law_odd_number : PySem.W.keepIn K (.ref f__law_odd_number) = true)
    (ag__law_odd_number : PySem.W.nsIn K mainGlobals "_law_odd_number" = some (some (.ref f__law_odd_number)))
    (l__law_odd_byte : K.lookup f__law_odd_byte = some ⟨oc__law_odd_byte, od__law_odd_byte, .func (PySem.W.fnOf "_law_odd_byte" "_law_odd_byte" (defArgs s__law_odd_byte) (defBody s__law_odd_byte) (defScope s__law_odd_byte) .none kV__law_odd_byte dc__law_odd_byte pm__law_odd_byte an__law_odd_byte cd__law_odd_byte ct__law_odd_byte), sl__law_odd_byte⟩)
    (z__law_odd_byte : PySem.W.codeIn K cd__law_odd_byte "_law_odd_byte" = true)
    (kk__law_odd_byte : PySem.W.keepIn K (.ref f__law_odd_byte) = true)
    (ag__law_odd_byte : PySem.W.nsIn K mainGlobals "_law_odd_byte" = some (some (.ref f__law_odd_byte)))
    (l__law_odd_width : K.lookup f__law_odd_width = some ⟨oc__law_odd_width, od__law_odd_width, .func (PySem.W.fnOf "_law_odd_width" "_law_odd_width" (defArgs s__law_odd_width) (defBody s__law_odd_width) (defScope s__law_odd_width) .none kV__law_odd_width dc__law_odd_width pm__law_odd_width an__law_odd_width cd__law_odd_width ct__law_odd_width), sl__law_odd_width⟩)
    (z__law_odd_width : PySem.W.codeIn K cd__law_odd_width "_law_odd_width" = true)
    (kk__law_odd_width : PySem.W.keepIn K (.ref f__law_odd_width) = true)
    (ag__law_odd_width : PySem.W.nsIn K mainGlobals "_law_odd_width" = some (some (.ref f__law_odd_width)))
    (l__law_wrapped_right : K.lookup f__law_wrapped_right = some ⟨oc__law_wrapped_right, od__law_wrapped_right, .func (PySem.W.fnOf "_law_wrapped_right" "_law_wrapped_right" (defArgs s__law_wrapped_right) (defBody s__law_wrapped_right) (defScope s__law_wrapped_right) .none kV__law_wrapped_right dc__law_wrapped_right pm__law_wrapped_right an__law_wrapped_right cd__law_wrapped_right ct__law_wrapped_right), sl__law_wrapped_right⟩)
    (z__law_wrapped_right : PySem.W.codeIn K cd__law_wrapped_right "_law_wrapped_right" = true)
    (kk__law_wrapped_right : PySem.W.keepIn K (.ref f__law_wrapped_right) = true)
    (ag__law_wrapped_right : PySem.W.nsIn K mainGlobals "_law_wrapped_right" = some (some (.ref f__law_wrapped_right)))
    (l__law_numbers_right : K.lookup f__law_numbers_right = some ⟨oc__law_numbers_right, od__law_numbers_right, .func (PySem.W.fnOf "_law_numbers_right" "_law_numbers_right" (defArgs s__law_numbers_right) (defBody s__law_numbers_right) (defScope s__law_numbers_right) .none kV__law_numbers_right dc__law_numbers_right pm__law_numbers_right an__law_numbers_right cd__law_numbers_right ct__law_numbers_right), sl__law_numbers_right⟩)
    (z__law_numbers_right : PySem.W.codeIn K cd__law_numbers_right "_law_numbers_right" = true)
    (kk__law_numbers_right : PySem.W.keepIn K (.ref f__law_numbers_right) = true)
    (ag__law_numbers_right : PySem.W.nsIn K mainGlobals "_law_numbers_right" = some (some (.ref f__law_numbers_right)))
    (l__law_drawn_row : K.lookup f__law_drawn_row = some ⟨oc__law_drawn_row, od__law_drawn_row, .func (PySem.W.fnOf "_law_drawn_row" "_law_drawn_row" (defArgs s__law_drawn_row) (defBody s__law_drawn_row) (defScope s__law_drawn_row) .none kV__law_drawn_row dc__law_drawn_row pm__law_drawn_row an__law_drawn_row cd__law_drawn_row ct__law_drawn_row), sl__law_drawn_row⟩)
    (z__law_drawn_row : PySem.W.codeIn K cd__law_drawn_row "_law_drawn_row" = true)
    (kk__law_drawn_row : PySem.W.keepIn K (.ref f__law_drawn_row) = true)
    (ag__law_drawn_row : PySem.W.nsIn K mainGlobals "_law_drawn_row" = some (some (.ref f__law_drawn_row)))
    (l__law_rows_right : K.lookup f__law_rows_right = some ⟨oc__law_rows_right, od__law_rows_right, .func (PySem.W.fnOf "_law_rows_right" "_law_rows_right" (defArgs s__law_rows_right) (defBody s__law_rows_right) (defScope s__law_rows_right) .none kV__law_rows_right dc__law_rows_right pm__law_rows_right an__law_rows_right cd__law_rows_right ct__law_rows_right), sl__law_rows_right⟩)
    (z__law_rows_right : PySem.W.codeIn K cd__law_rows_right "_law_rows_right" = true)
    (kk__law_rows_right : PySem.W.keepIn K (.ref f__law_rows_right) = true)
    (ag__law_rows_right : PySem.W.nsIn K mainGlobals "_law_rows_right" = some (some (.ref f__law_rows_right)))
    (l__law_widths_right : K.lookup f__law_widths_right = some ⟨oc__law_widths_right, od__law_widths_right, .func (PySem.W.fnOf "_law_widths_right" "_law_widths_right" (defArgs s__law_widths_right) (defBody s__law_widths_right) (defScope s__law_widths_right) .none kV__law_widths_right dc__law_widths_right pm__law_widths_right an__law_widths_right cd__law_widths_right ct__law_widths_right), sl__law_widths_right⟩)
    (z__law_widths_right : PySem.W.codeIn K cd__law_widths_right "_law_widths_right" = true)
    (kk__law_widths_right : PySem.W.keepIn K (.ref f__law_widths_right) = true)
    (ag__law_widths_right : PySem.W.nsIn K mainGlobals "_law_widths_right" = some (some (.ref f__law_widths_right)))
    (l_law : K.lookup f_law = some ⟨oc_law, od_law, .func (PySem.W.fnOf "law" "law" (defArgs s_law) (defBody s_law) (defScope s_law) .none kV_law dc_law pm_law an_law cd_law ct_law), sl_law⟩)
    (z_law : PySem.W.codeIn K cd_law "law" = true)
    (kk_law : PySem.W.keepIn K (.ref f_law) = true)
    (ag_law : PySem.W.nsIn K mainGlobals "law" = some (some (.ref f_law)))
    (ag_MintError : PySem.W.nsIn K mainGlobals "MintError" = some (some (.ref c_MintError)))
    (ag_BadWidth : PySem.W.nsIn K mainGlobals "BadWidth" = some (some (.ref c_BadWidth)))
    (xl_BadWidth : K.lookup c_BadWidth = some (excClassObj nm_BadWidth q_BadWidth c_BadWidth N_BadWidth bs_BadWidth bm_BadWidth true sn_BadWidth sub_BadWidth ab_BadWidth col_BadWidth dd_BadWidth m0_BadWidth m1_BadWidth m2_BadWidth m3_BadWidth m5_BadWidth "ValueError.__new__"))
    (rv_BadWidth : HandSPX.refsVE bm_BadWidth = true)
    (sa_BadWidth : PySem.W.findIn K (.ref c_BadWidth) "__setattr__" = some (some (.builtin "object.__setattr__")))
    (ex_BadWidth : PySem.W.subIn K (.ref c_BadWidth) (.type "BaseException") = some true)
    (ty_BadWidth : PySem.W.typeIn K (.ref c_BadWidth) = some (.type "type"))
    (kC_BadWidth : PySem.W.keepIn K (.ref c_BadWidth) = true)
    (ga_BadWidth : PySem.W.findIn K (.ref c_BadWidth) "__getattribute__" = some (some (.builtin "BaseException.__getattribute__")))
    (gg_BadWidth : PySem.W.findIn K (.ref c_BadWidth) "__getattr__" = some none)
    (hd_BadWidth : PySem.W.hasDictIn K c_BadWidth = true)
    (sn_get : PySem.W.specialIn K (.builtin "object.__class__") "__get__" = some (some (.builtin "getset_descriptor.__get__")))
    (st_get : PySem.W.takesIn K (.builtin "object.__class__") = some true)
    (hc_BadWidth : PySem.W.findIn K (.ref c_BadWidth) "__class__" = some (some (.builtin "object.__class__")))
    (mr_BadWidth : PySem.W.mroIn K c_BadWidth (.type "object") = some true)
    (F_BadWidth___init___0 : PySem.W.findIn K (.ref c_BadWidth) "__init__" = some (some (.ref f_BadWidth___init__)))
    (F_BadWidth___init___1 : PySem.W.typeIn K (.ref f_BadWidth___init__) = some (.type "function"))
    (F_BadWidth___init___2 : PySem.W.findIn K (.ref c_BadWidth) "width" = some none)
    (hm_BadWidth : PySem.W.exmOne K (.ref c_BadWidth) (.ref c_MintError) = some true)
    (hv_BadWidth : PySem.W.kitOne K (.ref c_BadWidth) (.type "ValueError") = some true)
    (hk_BadWidth_BadWidth : PySem.W.kitOne K (.ref c_BadWidth) (.ref c_BadWidth) = some true)
    (hk_BadWidth_BadNumber : PySem.W.kitOne K (.ref c_BadWidth) (.ref c_BadNumber) = some false)
    (hk_BadWidth_BadByte : PySem.W.kitOne K (.ref c_BadWidth) (.ref c_BadByte) = some false)
    (ag_BadNumber : PySem.W.nsIn K mainGlobals "BadNumber" = some (some (.ref c_BadNumber)))
    (xl_BadNumber : K.lookup c_BadNumber = some (excClassObj nm_BadNumber q_BadNumber c_BadNumber N_BadNumber bs_BadNumber bm_BadNumber true sn_BadNumber sub_BadNumber ab_BadNumber col_BadNumber dd_BadNumber m0_BadNumber m1_BadNumber m2_BadNumber m3_BadNumber m5_BadNumber "ValueError.__new__"))
    (rv_BadNumber : HandSPX.refsVE bm_BadNumber = true)
    (sa_BadNumber : PySem.W.findIn K (.ref c_BadNumber) "__setattr__" = some (some (.builtin "object.__setattr__")))
    (ex_BadNumber : PySem.W.subIn K (.ref c_BadNumber) (.type "BaseException") = some true)
    (ty_BadNumber : PySem.W.typeIn K (.ref c_BadNumber) = some (.type "type"))
    (kC_BadNumber : PySem.W.keepIn K (.ref c_BadNumber) = true)
    (ga_BadNumber : PySem.W.findIn K (.ref c_BadNumber) "__getattribute__" = some (some (.builtin "BaseException.__getattribute__")))
    (gg_BadNumber : PySem.W.findIn K (.ref c_BadNumber) "__getattr__" = some none)
    (hd_BadNumber : PySem.W.hasDictIn K c_BadNumber = true)
    (hc_BadNumber : PySem.W.findIn K (.ref c_BadNumber) "__class__" = some (some (.builtin "object.__class__")))
    (mr_BadNumber : PySem.W.mroIn K c_BadNumber (.type "object") = some true)
    (F_BadNumber___init___0 : PySem.W.findIn K (.ref c_BadNumber) "__init__" = some (some (.ref f_BadNumber___init__)))
    (F_BadNumber___init___1 : PySem.W.typeIn K (.ref f_BadNumber___init__) = some (.type "function"))
    (F_BadNumber___init___2 : PySem.W.findIn K (.ref c_BadNumber) "number" = some none)
    (hm_BadNumber : PySem.W.exmOne K (.ref c_BadNumber) (.ref c_MintError) = some true)
    (hv_BadNumber : PySem.W.kitOne K (.ref c_BadNumber) (.type "ValueError") = some true)
    (hk_BadNumber_BadWidth : PySem.W.kitOne K (.ref c_BadNumber) (.ref c_BadWidth) = some false)
    (hk_BadNumber_BadNumber : PySem.W.kitOne K (.ref c_BadNumber) (.ref c_BadNumber) = some true)
    (hk_BadNumber_BadByte : PySem.W.kitOne K (.ref c_BadNumber) (.ref c_BadByte) = some false)
    (ag_BadByte : PySem.W.nsIn K mainGlobals "BadByte" = some (some (.ref c_BadByte)))
    (xl_BadByte : K.lookup c_BadByte = some (excClassObj nm_BadByte q_BadByte c_BadByte N_BadByte bs_BadByte bm_BadByte true sn_BadByte sub_BadByte ab_BadByte col_BadByte dd_BadByte m0_BadByte m1_BadByte m2_BadByte m3_BadByte m5_BadByte "ValueError.__new__"))
    (rv_BadByte : HandSPX.refsVE bm_BadByte = true)
    (sa_BadByte : PySem.W.findIn K (.ref c_BadByte) "__setattr__" = some (some (.builtin "object.__setattr__")))
    (ex_BadByte : PySem.W.subIn K (.ref c_BadByte) (.type "BaseException") = some true)
    (ty_BadByte : PySem.W.typeIn K (.ref c_BadByte) = some (.type "type"))
    (kC_BadByte : PySem.W.keepIn K (.ref c_BadByte) = true)
    (ga_BadByte : PySem.W.findIn K (.ref c_BadByte) "__getattribute__" = some (some (.builtin "BaseException.__getattribute__")))
    (gg_BadByte : PySem.W.findIn K (.ref c_BadByte) "__getattr__" = some none)
    (hd_BadByte : PySem.W.hasDictIn K c_BadByte = true)
    (hc_BadByte : PySem.W.findIn K (.ref c_BadByte) "__class__" = some (some (.builtin "object.__class__")))
    (mr_BadByte : PySem.W.mroIn K c_BadByte (.type "object") = some true)
    (F_BadByte___init___0 : PySem.W.findIn K (.ref c_BadByte) "__init__" = some (some (.ref f_BadByte___init__)))
    (F_BadByte___init___1 : PySem.W.typeIn K (.ref f_BadByte___init__) = some (.type "function"))
    (F_BadByte___init___2 : PySem.W.findIn K (.ref c_BadByte) "byte" = some none)
    (hm_BadByte : PySem.W.exmOne K (.ref c_BadByte) (.ref c_MintError) = some true)
    (hv_BadByte : PySem.W.kitOne K (.ref c_BadByte) (.type "ValueError") = some true)
    (hk_BadByte_BadWidth : PySem.W.kitOne K (.ref c_BadByte) (.ref c_BadWidth) = some false)
    (hk_BadByte_BadNumber : PySem.W.kitOne K (.ref c_BadByte) (.ref c_BadNumber) = some false)
    (hk_BadByte_BadByte : PySem.W.kitOne K (.ref c_BadByte) (.ref c_BadByte) = some true)
    (ag_WIDTHS : PySem.W.nsIn K mainGlobals "WIDTHS" = some (some (.ref a_WIDTHS)))
    (lq_WIDTHS : K.lookup a_WIDTHS = some ⟨.type "tuple", oda_WIDTHS, .seq itsa_WIDTHS na_WIDTHS, sla_WIDTHS⟩)
    (sq_WIDTHS : itsa_WIDTHS.size ≤ sizeLine)
    (vq_WIDTHS : Vals [V.int 16, V.int 24, V.int 32] itsa_WIDTHS.toList)
    (an_ValueError : PySem.W.nsIn K mainGlobals "ValueError" = some none)
    (an_bool : PySem.W.nsIn K mainGlobals "bool" = some none)
    (an_int : PySem.W.nsIn K mainGlobals "int" = some none)
    (an_isinstance : PySem.W.nsIn K mainGlobals "isinstance" = some none)
    (an_len : PySem.W.nsIn K mainGlobals "len" = some none)
    (an_list : PySem.W.nsIn K mainGlobals "list" = some none)
    (an_range : PySem.W.nsIn K mainGlobals "range" = some none)
    (an_tuple : PySem.W.nsIn K mainGlobals "tuple" = some none) : ∃ M : TX K mg, M.f_law = fa ∧ ∀ (s : Shared) (v : Value), BindsTo s M.d_law ⟨[v], []⟩ [("_law_script", v)] := by
  have e := hfa.symm.trans (PySem.W.mg_of X G ag_law)
  obtain rfl : f_law = fa := by
    injection e with e
    injection e with e
    exact e.symm
  have E_BadWidth___init__ := fun_mk (st := s_BadWidth___init__) l_BadWidth___init__ z_BadWidth___init__ kk_BadWidth___init__
  have E_BadNumber___init__ := fun_mk (st := s_BadNumber___init__) l_BadNumber___init__ z_BadNumber___init__ kk_BadNumber___init__
  have E_BadByte___init__ := fun_mk (st := s_BadByte___init__) l_BadByte___init__ z_BadByte___init__ kk_BadByte___init__
  have F_is_integer := fun_mk (st := s_is_integer) l_is_integer z_is_integer kk_is_integer
  have F_is_between := fun_mk (st := s_is_between) l_is_between z_is_between kk_is_between
  have F_is_byte := fun_mk (st := s_is_byte) l_is_byte z_is_byte kk_is_byte
  have F_check_width := fun_mk (st := s_check_width) l_check_width z_check_width kk_check_width
  have F_check_number := fun_mk (st := s_check_number) l_check_number z_check_number kk_check_number
  have F_half := fun_mk (st := s_half) l_half z_half kk_half
  have F_wrap := fun_mk (st := s_wrap) l_wrap z_wrap kk_wrap
  have F_is_number := fun_mk (st := s_is_number) l_is_number z_is_number kk_is_number
  have F_bytes_of := fun_mk (st := s_bytes_of) l_bytes_of z_bytes_of kk_bytes_of
  have F_number_of := fun_mk (st := s_number_of) l_number_of z_number_of kk_number_of
  have F__law_bag := fun_mk (st := s__law_bag) l__law_bag z__law_bag kk__law_bag
  have F__law_pick := fun_mk (st := s__law_pick) l__law_pick z__law_pick kk__law_pick
  have F__law_choice := fun_mk (st := s__law_choice) l__law_choice z__law_choice kk__law_choice
  have F__law_integer := fun_mk (st := s__law_integer) l__law_integer z__law_integer kk__law_integer
  have F__law_half := fun_mk (st := s__law_half) l__law_half z__law_half kk__law_half
  have F__law_wrap := fun_mk (st := s__law_wrap) l__law_wrap z__law_wrap kk__law_wrap
  have F__law_num := fun_mk (st := s__law_num) l__law_num z__law_num kk__law_num
  have F__law_bytes := fun_mk (st := s__law_bytes) l__law_bytes z__law_bytes kk__law_bytes
  have F__law_cell := fun_mk (st := s__law_cell) l__law_cell z__law_cell kk__law_cell
  have F__law_asked := fun_mk (st := s__law_asked) l__law_asked z__law_asked kk__law_asked
  have F__law_same := fun_mk (st := s__law_same) l__law_same z__law_same kk__law_same
  have F__law_is_told := fun_mk (st := s__law_is_told) l__law_is_told z__law_is_told kk__law_is_told
  have F__law_is_row := fun_mk (st := s__law_is_row) l__law_is_row z__law_is_row kk__law_is_row
  have F__law_doubled := fun_mk (st := s__law_doubled) l__law_doubled z__law_doubled kk__law_doubled
  have F__law_great := fun_mk (st := s__law_great) l__law_great z__law_great kk__law_great
  have F__law_odd_number := fun_mk (st := s__law_odd_number) l__law_odd_number z__law_odd_number kk__law_odd_number
  have F__law_odd_byte := fun_mk (st := s__law_odd_byte) l__law_odd_byte z__law_odd_byte kk__law_odd_byte
  have F__law_odd_width := fun_mk (st := s__law_odd_width) l__law_odd_width z__law_odd_width kk__law_odd_width
  have F__law_wrapped_right := fun_mk (st := s__law_wrapped_right) l__law_wrapped_right z__law_wrapped_right kk__law_wrapped_right
  have F__law_numbers_right := fun_mk (st := s__law_numbers_right) l__law_numbers_right z__law_numbers_right kk__law_numbers_right
  have F__law_drawn_row := fun_mk (st := s__law_drawn_row) l__law_drawn_row z__law_drawn_row kk__law_drawn_row
  have F__law_rows_right := fun_mk (st := s__law_rows_right) l__law_rows_right z__law_rows_right kk__law_rows_right
  have F__law_widths_right := fun_mk (st := s__law_widths_right) l__law_widths_right z__law_widths_right kk__law_widths_right
  have F_law := fun_mk (st := s_law) l_law z_law kk_law
  exact ⟨{
    f_BadWidth___init__ := f_BadWidth___init__,
    d_BadWidth___init__ := _,
    E_BadWidth___init__ := E_BadWidth___init__,
    b_BadWidth___init__ := E_BadWidth___init__.binds (ps := ["self", "width"]) fun _ _ _ _ _ _ us hl => match us, hl with | [_, _], _ => rfl,
    f_BadNumber___init__ := f_BadNumber___init__,
    d_BadNumber___init__ := _,
    E_BadNumber___init__ := E_BadNumber___init__,
    b_BadNumber___init__ := E_BadNumber___init__.binds (ps := ["self", "number"]) fun _ _ _ _ _ _ us hl => match us, hl with | [_, _], _ => rfl,
    f_BadByte___init__ := f_BadByte___init__,
    d_BadByte___init__ := _,
    E_BadByte___init__ := E_BadByte___init__,
    b_BadByte___init__ := E_BadByte___init__.binds (ps := ["self", "byte"]) fun _ _ _ _ _ _ us hl => match us, hl with | [_, _], _ => rfl,
    f_is_integer := f_is_integer,
    d_is_integer := _,
    F_is_integer := F_is_integer,
    g_is_integer := PySem.W.mg_of X G ag_is_integer,
    k_is_integer := kk_is_integer,
    b_is_integer := F_is_integer.binds (ps := ["thing"]) fun _ _ _ _ _ _ us hl => match us, hl with | [_], _ => rfl,
    f_is_between := f_is_between,
    d_is_between := _,
    F_is_between := F_is_between,
    g_is_between := PySem.W.mg_of X G ag_is_between,
    k_is_between := kk_is_between,
    b_is_between := F_is_between.binds (ps := ["thing", "low", "high"]) fun _ _ _ _ _ _ us hl => match us, hl with | [_, _, _], _ => rfl,
    f_is_byte := f_is_byte,
    d_is_byte := _,
    F_is_byte := F_is_byte,
    g_is_byte := PySem.W.mg_of X G ag_is_byte,
    k_is_byte := kk_is_byte,
    b_is_byte := F_is_byte.binds (ps := ["thing"]) fun _ _ _ _ _ _ us hl => match us, hl with | [_], _ => rfl,
    f_check_width := f_check_width,
    d_check_width := _,
    F_check_width := F_check_width,
    g_check_width := PySem.W.mg_of X G ag_check_width,
    k_check_width := kk_check_width,
    b_check_width := F_check_width.binds (ps := ["width"]) fun _ _ _ _ _ _ us hl => match us, hl with | [_], _ => rfl,
    f_check_number := f_check_number,
    d_check_number := _,
    F_check_number := F_check_number,
    g_check_number := PySem.W.mg_of X G ag_check_number,
    k_check_number := kk_check_number,
    b_check_number := F_check_number.binds (ps := ["width", "thing"]) fun _ _ _ _ _ _ us hl => match us, hl with | [_, _], _ => rfl,
    f_half := f_half,
    d_half := _,
    F_half := F_half,
    g_half := PySem.W.mg_of X G ag_half,
    k_half := kk_half,
    b_half := F_half.binds (ps := ["width"]) fun _ _ _ _ _ _ us hl => match us, hl with | [_], _ => rfl,
    f_wrap := f_wrap,
    d_wrap := _,
    F_wrap := F_wrap,
    g_wrap := PySem.W.mg_of X G ag_wrap,
    k_wrap := kk_wrap,
    b_wrap := F_wrap.binds (ps := ["width", "number"]) fun _ _ _ _ _ _ us hl => match us, hl with | [_, _], _ => rfl,
    f_is_number := f_is_number,
    d_is_number := _,
    F_is_number := F_is_number,
    g_is_number := PySem.W.mg_of X G ag_is_number,
    k_is_number := kk_is_number,
    b_is_number := F_is_number.binds (ps := ["width", "thing"]) fun _ _ _ _ _ _ us hl => match us, hl with | [_, _], _ => rfl,
    f_bytes_of := f_bytes_of,
    d_bytes_of := _,
    F_bytes_of := F_bytes_of,
    g_bytes_of := PySem.W.mg_of X G ag_bytes_of,
    k_bytes_of := kk_bytes_of,
    b_bytes_of := F_bytes_of.binds (ps := ["width", "number"]) fun _ _ _ _ _ _ us hl => match us, hl with | [_, _], _ => rfl,
    f_number_of := f_number_of,
    d_number_of := _,
    F_number_of := F_number_of,
    g_number_of := PySem.W.mg_of X G ag_number_of,
    k_number_of := kk_number_of,
    b_number_of := F_number_of.binds (ps := ["width", "row"]) fun _ _ _ _ _ _ us hl => match us, hl with | [_, _], _ => rfl,
    f__law_bag := f__law_bag,
    d__law_bag := _,
    F__law_bag := F__law_bag,
    g__law_bag := PySem.W.mg_of X G ag__law_bag,
    k__law_bag := kk__law_bag,
    b__law_bag := F__law_bag.binds (ps := ["_law_script"]) fun _ _ _ _ _ _ us hl => match us, hl with | [_], _ => rfl,
    f__law_pick := f__law_pick,
    d__law_pick := _,
    F__law_pick := F__law_pick,
    g__law_pick := PySem.W.mg_of X G ag__law_pick,
    k__law_pick := kk__law_pick,
    b__law_pick := F__law_pick.binds (ps := ["_law_bag_here", "_law_many"]) fun _ _ _ _ _ _ us hl => match us, hl with | [_, _], _ => rfl,
    f__law_choice := f__law_choice,
    d__law_choice := _,
    F__law_choice := F__law_choice,
    g__law_choice := PySem.W.mg_of X G ag__law_choice,
    k__law_choice := kk__law_choice,
    b__law_choice := F__law_choice.binds (ps := ["_law_bag_here", "_law_things"]) fun _ _ _ _ _ _ us hl => match us, hl with | [_, _], _ => rfl,
    f__law_integer := f__law_integer,
    d__law_integer := _,
    F__law_integer := F__law_integer,
    g__law_integer := PySem.W.mg_of X G ag__law_integer,
    k__law_integer := kk__law_integer,
    b__law_integer := F__law_integer.binds (ps := ["_law_thing"]) fun _ _ _ _ _ _ us hl => match us, hl with | [_], _ => rfl,
    f__law_half := f__law_half,
    d__law_half := _,
    F__law_half := F__law_half,
    g__law_half := PySem.W.mg_of X G ag__law_half,
    k__law_half := kk__law_half,
    b__law_half := F__law_half.binds (ps := ["_law_width"]) fun _ _ _ _ _ _ us hl => match us, hl with | [_], _ => rfl,
    f__law_wrap := f__law_wrap,
    d__law_wrap := _,
    F__law_wrap := F__law_wrap,
    g__law_wrap := PySem.W.mg_of X G ag__law_wrap,
    k__law_wrap := kk__law_wrap,
    b__law_wrap := F__law_wrap.binds (ps := ["_law_width", "_law_number"]) fun _ _ _ _ _ _ us hl => match us, hl with | [_, _], _ => rfl,
    f__law_num := f__law_num,
    d__law_num := _,
    F__law_num := F__law_num,
    g__law_num := PySem.W.mg_of X G ag__law_num,
    k__law_num := kk__law_num,
    b__law_num := F__law_num.binds (ps := ["_law_bag_here", "_law_width"]) fun _ _ _ _ _ _ us hl => match us, hl with | [_, _], _ => rfl,
    f__law_bytes := f__law_bytes,
    d__law_bytes := _,
    F__law_bytes := F__law_bytes,
    g__law_bytes := PySem.W.mg_of X G ag__law_bytes,
    k__law_bytes := kk__law_bytes,
    b__law_bytes := F__law_bytes.binds (ps := ["_law_width", "_law_number"]) fun _ _ _ _ _ _ us hl => match us, hl with | [_, _], _ => rfl,
    f__law_cell := f__law_cell,
    d__law_cell := _,
    F__law_cell := F__law_cell,
    g__law_cell := PySem.W.mg_of X G ag__law_cell,
    k__law_cell := kk__law_cell,
    b__law_cell := F__law_cell.binds (ps := ["_law_width", "_law_row"]) fun _ _ _ _ _ _ us hl => match us, hl with | [_, _], _ => rfl,
    f__law_asked := f__law_asked,
    d__law_asked := _,
    F__law_asked := F__law_asked,
    g__law_asked := PySem.W.mg_of X G ag__law_asked,
    k__law_asked := kk__law_asked,
    b__law_asked := F__law_asked.binds (ps := ["_law_word", "_law_width", "_law_thing"]) fun _ _ _ _ _ _ us hl => match us, hl with | [_, _, _], _ => rfl,
    f__law_same := f__law_same,
    d__law_same := _,
    F__law_same := F__law_same,
    g__law_same := PySem.W.mg_of X G ag__law_same,
    k__law_same := kk__law_same,
    b__law_same := F__law_same.binds (ps := ["_law_told", "_law_due"]) fun _ _ _ _ _ _ us hl => match us, hl with | [_, _], _ => rfl,
    f__law_is_told := f__law_is_told,
    d__law_is_told := _,
    F__law_is_told := F__law_is_told,
    g__law_is_told := PySem.W.mg_of X G ag__law_is_told,
    k__law_is_told := kk__law_is_told,
    b__law_is_told := F__law_is_told.binds (ps := ["_law_told", "_law_due"]) fun _ _ _ _ _ _ us hl => match us, hl with | [_, _], _ => rfl,
    f__law_is_row := f__law_is_row,
    d__law_is_row := _,
    F__law_is_row := F__law_is_row,
    g__law_is_row := PySem.W.mg_of X G ag__law_is_row,
    k__law_is_row := kk__law_is_row,
    b__law_is_row := F__law_is_row.binds (ps := ["_law_told", "_law_due"]) fun _ _ _ _ _ _ us hl => match us, hl with | [_, _], _ => rfl,
    f__law_doubled := f__law_doubled,
    d__law_doubled := _,
    F__law_doubled := F__law_doubled,
    g__law_doubled := PySem.W.mg_of X G ag__law_doubled,
    k__law_doubled := kk__law_doubled,
    b__law_doubled := F__law_doubled.binds (ps := ["_law_times"]) fun _ _ _ _ _ _ us hl => match us, hl with | [_], _ => rfl,
    f__law_great := f__law_great,
    d__law_great := _,
    F__law_great := F__law_great,
    g__law_great := PySem.W.mg_of X G ag__law_great,
    k__law_great := kk__law_great,
    b__law_great := F__law_great.binds (ps := ["_law_bag_here", "_law_width"]) fun _ _ _ _ _ _ us hl => match us, hl with | [_, _], _ => rfl,
    f__law_odd_number := f__law_odd_number,
    d__law_odd_number := _,
    F__law_odd_number := F__law_odd_number,
    g__law_odd_number := PySem.W.mg_of X G ag__law_odd_number,
    k__law_odd_number := kk__law_odd_number,
    b__law_odd_number := F__law_odd_number.binds (ps := ["_law_bag_here", "_law_width"]) fun _ _ _ _ _ _ us hl => match us, hl with | [_, _], _ => rfl,
    f__law_odd_byte := f__law_odd_byte,
    d__law_odd_byte := _,
    F__law_odd_byte := F__law_odd_byte,
    g__law_odd_byte := PySem.W.mg_of X G ag__law_odd_byte,
    k__law_odd_byte := kk__law_odd_byte,
    b__law_odd_byte := F__law_odd_byte.binds (ps := ["_law_bag_here"]) fun _ _ _ _ _ _ us hl => match us, hl with | [_], _ => rfl,
    f__law_odd_width := f__law_odd_width,
    d__law_odd_width := _,
    F__law_odd_width := F__law_odd_width,
    g__law_odd_width := PySem.W.mg_of X G ag__law_odd_width,
    k__law_odd_width := kk__law_odd_width,
    b__law_odd_width := F__law_odd_width.binds (ps := ["_law_bag_here"]) fun _ _ _ _ _ _ us hl => match us, hl with | [_], _ => rfl,
    f__law_wrapped_right := f__law_wrapped_right,
    d__law_wrapped_right := _,
    F__law_wrapped_right := F__law_wrapped_right,
    g__law_wrapped_right := PySem.W.mg_of X G ag__law_wrapped_right,
    k__law_wrapped_right := kk__law_wrapped_right,
    b__law_wrapped_right := F__law_wrapped_right.binds (ps := ["_law_width", "_law_number"]) fun _ _ _ _ _ _ us hl => match us, hl with | [_, _], _ => rfl,
    f__law_numbers_right := f__law_numbers_right,
    d__law_numbers_right := _,
    F__law_numbers_right := F__law_numbers_right,
    g__law_numbers_right := PySem.W.mg_of X G ag__law_numbers_right,
    k__law_numbers_right := kk__law_numbers_right,
    b__law_numbers_right := F__law_numbers_right.binds (ps := ["_law_bag_here", "_law_width"]) fun _ _ _ _ _ _ us hl => match us, hl with | [_, _], _ => rfl,
    f__law_drawn_row := f__law_drawn_row,
    d__law_drawn_row := _,
    F__law_drawn_row := F__law_drawn_row,
    g__law_drawn_row := PySem.W.mg_of X G ag__law_drawn_row,
    k__law_drawn_row := kk__law_drawn_row,
    b__law_drawn_row := F__law_drawn_row.binds (ps := ["_law_bag_here", "_law_width"]) fun _ _ _ _ _ _ us hl => match us, hl with | [_, _], _ => rfl,
    f__law_rows_right := f__law_rows_right,
    d__law_rows_right := _,
    F__law_rows_right := F__law_rows_right,
    g__law_rows_right := PySem.W.mg_of X G ag__law_rows_right,
    k__law_rows_right := kk__law_rows_right,
    b__law_rows_right := F__law_rows_right.binds (ps := ["_law_bag_here", "_law_width"]) fun _ _ _ _ _ _ us hl => match us, hl with | [_, _], _ => rfl,
    f__law_widths_right := f__law_widths_right,
    d__law_widths_right := _,
    F__law_widths_right := F__law_widths_right,
    g__law_widths_right := PySem.W.mg_of X G ag__law_widths_right,
    k__law_widths_right := kk__law_widths_right,
    b__law_widths_right := F__law_widths_right.binds (ps := ["_law_bag_here"]) fun _ _ _ _ _ _ us hl => match us, hl with | [_], _ => rfl,
    f_law := f_law,
    d_law := _,
    F_law := F_law,
    g_law := PySem.W.mg_of X G ag_law,
    k_law := kk_law,
    b_law := F_law.binds (ps := ["_law_script"]) fun _ _ _ _ _ _ us hl => match us, hl with | [_], _ => rfl,
    c_MintError := c_MintError,
    c_BadWidth := c_BadWidth,
    c_BadNumber := c_BadNumber,
    c_BadByte := c_BadByte,
    g_MintError := PySem.W.mg_of X G ag_MintError,
    g_BadWidth := PySem.W.mg_of X G ag_BadWidth,
    o_BadWidth := ⟨⟨nm_BadWidth, q_BadWidth, N_BadWidth, bs_BadWidth, bm_BadWidth, sn_BadWidth, sub_BadWidth, ab_BadWidth, col_BadWidth, dd_BadWidth, m0_BadWidth, m1_BadWidth, m2_BadWidth, m3_BadWidth, m5_BadWidth, xl_BadWidth, rv_BadWidth⟩, sa_BadWidth, ex_BadWidth, ty_BadWidth, kC_BadWidth⟩,
    x_BadWidth := ⟨ga_BadWidth, gg_BadWidth, ex_BadWidth, hd_BadWidth⟩,
    e_BadWidth := ⟨ga_BadWidth, gg_BadWidth, ex_BadWidth, hd_BadWidth, hc_BadWidth, sn_get, st_get, mr_BadWidth⟩,
    F_BadWidth___init__ := ⟨F_BadWidth___init___0, F_BadWidth___init___1, F_BadWidth___init___2⟩,
    m_BadWidth := hm_BadWidth,
    v_BadWidth := hv_BadWidth,
    k_BadWidth_BadWidth := hk_BadWidth_BadWidth,
    k_BadWidth_BadNumber := hk_BadWidth_BadNumber,
    k_BadWidth_BadByte := hk_BadWidth_BadByte,
    g_BadNumber := PySem.W.mg_of X G ag_BadNumber,
    o_BadNumber := ⟨⟨nm_BadNumber, q_BadNumber, N_BadNumber, bs_BadNumber, bm_BadNumber, sn_BadNumber, sub_BadNumber, ab_BadNumber, col_BadNumber, dd_BadNumber, m0_BadNumber, m1_BadNumber, m2_BadNumber, m3_BadNumber, m5_BadNumber, xl_BadNumber, rv_BadNumber⟩, sa_BadNumber, ex_BadNumber, ty_BadNumber, kC_BadNumber⟩,
    x_BadNumber := ⟨ga_BadNumber, gg_BadNumber, ex_BadNumber, hd_BadNumber⟩,
    e_BadNumber := ⟨ga_BadNumber, gg_BadNumber, ex_BadNumber, hd_BadNumber, hc_BadNumber, sn_get, st_get, mr_BadNumber⟩,
    F_BadNumber___init__ := ⟨F_BadNumber___init___0, F_BadNumber___init___1, F_BadNumber___init___2⟩,
    m_BadNumber := hm_BadNumber,
    v_BadNumber := hv_BadNumber,
    k_BadNumber_BadWidth := hk_BadNumber_BadWidth,
    k_BadNumber_BadNumber := hk_BadNumber_BadNumber,
    k_BadNumber_BadByte := hk_BadNumber_BadByte,
    g_BadByte := PySem.W.mg_of X G ag_BadByte,
    o_BadByte := ⟨⟨nm_BadByte, q_BadByte, N_BadByte, bs_BadByte, bm_BadByte, sn_BadByte, sub_BadByte, ab_BadByte, col_BadByte, dd_BadByte, m0_BadByte, m1_BadByte, m2_BadByte, m3_BadByte, m5_BadByte, xl_BadByte, rv_BadByte⟩, sa_BadByte, ex_BadByte, ty_BadByte, kC_BadByte⟩,
    x_BadByte := ⟨ga_BadByte, gg_BadByte, ex_BadByte, hd_BadByte⟩,
    e_BadByte := ⟨ga_BadByte, gg_BadByte, ex_BadByte, hd_BadByte, hc_BadByte, sn_get, st_get, mr_BadByte⟩,
    F_BadByte___init__ := ⟨F_BadByte___init___0, F_BadByte___init___1, F_BadByte___init___2⟩,
    m_BadByte := hm_BadByte,
    v_BadByte := hv_BadByte,
    k_BadByte_BadWidth := hk_BadByte_BadWidth,
    k_BadByte_BadNumber := hk_BadByte_BadNumber,
    k_BadByte_BadByte := hk_BadByte_BadByte,
    a_WIDTHS := a_WIDTHS,
    g_WIDTHS := PySem.W.mg_of X G ag_WIDTHS,
    q_WIDTHS := fun H => Or.inr ⟨_, _, _, lq_WIDTHS, rfl, rfl, sq_WIDTHS, vq_WIDTHS⟩,
    n_ValueError := PySem.W.mg_none_of X G an_ValueError,
    n_bool := PySem.W.mg_none_of X G an_bool,
    n_int := PySem.W.mg_none_of X G an_int,
    n_isinstance := PySem.W.mg_none_of X G an_isinstance,
    n_len := PySem.W.mg_none_of X G an_len,
    n_list := PySem.W.mg_none_of X G an_list,
    n_range := PySem.W.mg_none_of X G an_range,
    n_tuple := PySem.W.mg_none_of X G an_tuple }, rfl, fun s v => .of_eq rfl⟩
theorem last_walk {l : PySem.W.OpenLaw} {K : Params → PySem.W.Frag}
    {q : Program} {d : DefRec} {XP : (Str → Option Value) → Heap → Prop}
    {loose : List Str} {YP : World → Heap → Prop}
    (hn : l.most = some 63) (hdf : d.params.defaults = []) (hnm : d.name = "law")
    (hY : ∀ (w : World) (h : Heap), YP w h →
      (K w.params).In h)
    (F : ∀ (w : World) (mg : Str → Option Value) (fa : Addr) (h : Heap),
      (K w.params).In h → h.Ns mainGlobals mg → mg "law" = some (.ref fa) →
      ∃ M : TX (K w.params) mg, M.f_law = fa ∧
        ∀ (s : Shared) (v : Value), BindsTo s M.d_law ⟨[v], []⟩ [("_law_script", v)]) :
    PySem.W.WalkO q loose XP YP
      l.row.toRowW d [] fun f vs =>
        PySem.call f vs :=
  L2.walk_of (n := 63) (k := 11) (x := "_law_script")
    (CX := fun w => L2.CX l.prog w) (sp := fun w => spLaw (K w.params))
    hn (by decide) hdf ⟨rfl, by decide, by decide⟩ hY
    (fun w mg fa h KX G hmg => by
      obtain ⟨M, rfl, bd⟩ := F w mg fa h KX G (hnm ▸ hmg)
      exact ⟨M.d_law, bd, fun base _ _ => ok_law M⟩)
    (fun _ _ a ns hl _ hS => ⟨_, rfl, a, ns, rfl, hS, hl, fun _ => rfl⟩)
    fun _ _ _ _ _ ⟨_, _, _, _, _, _, _, _, _, _, _, _, z⟩ => z
end K02
end
open PySem PySem.W PyProof.Rows
set_option maxRecDepth 100000 in
set_option maxHeartbeats 0 in
theorem PySem.Challenge.cw_wordmint_k02_numbers_and_bytes_holds : PySem.Challenge.rw_wordmint_k02_numbers_and_bytes.Holds := by
  w_on
  o_law
  k_head
  (case hw => w_witness2)
  k_fill
  refine K02.last_walk (l := PySem.Challenge.rw_wordmint_k02_numbers_and_bytes) rfl rfl rfl
    (fun w h Y => PySem.W.kIn_of Y) ?F
  case F =>
    intro w mg fa h KX G hmg
    refine' K02.all_mk KX G hmg ?l_BadWidth___init__ ?z_BadWidth___init__ ?kk_BadWidth___init__ ?l_BadNumber___init__ ?z_BadNumber___init__ ?kk_BadNumber___init__ ?l_BadByte___init__ ?z_BadByte___init__ ?kk_BadByte___init__ ?l_is_integer ?z_is_integer ?kk_is_integer ?ag_is_integer ?l_is_between ?z_is_between ?kk_is_between ?ag_is_between ?l_is_byte ?z_is_byte ?kk_is_byte ?ag_is_byte ?l_check_width ?z_check_width ?kk_check_width ?ag_check_width ?l_check_number ?z_check_number ?kk_check_number ?ag_check_number ?l_half ?z_half ?kk_half ?ag_half ?l_wrap ?z_wrap ?kk_wrap ?ag_wrap ?l_is_number ?z_is_number ?kk_is_number ?ag_is_number ?l_bytes_of ?z_bytes_of ?kk_bytes_of ?ag_bytes_of ?l_number_of ?z_number_of ?kk_number_of ?ag_number_of ?l__law_bag ?z__law_bag ?kk__law_bag ?ag__law_bag ?l__law_pick ?z__law_pick ?kk__law_pick ?ag__law_pick ?l__law_choice ?z__law_choice ?kk__law_choice ?ag__law_choice ?l__law_integer ?z__law_integer ?kk__law_integer ?ag__law_integer ?l__law_half ?z__law_half ?kk__law_half ?ag__law_half ?l__law_wrap ?z__law_wrap ?kk__law_wrap ?ag__law_wrap ?l__law_num ?z__law_num ?kk__law_num ?ag__law_num ?l__law_bytes ?z__law_bytes ?kk__law_bytes ?ag__law_bytes ?l__law_cell ?z__law_cell ?kk__law_cell ?ag__law_cell ?l__law_asked ?z__law_asked ?kk__law_asked ?ag__law_asked ?l__law_same ?z__law_same ?kk__law_same ?ag__law_same ?l__law_is_told ?z__law_is_told ?kk__law_is_told ?ag__law_is_told ?l__law_is_row ?z__law_is_row ?kk__law_is_row ?ag__law_is_row ?l__law_doubled ?z__law_doubled ?kk__law_doubled ?ag__law_doubled ?l__law_great ?z__law_great ?kk__law_great ?ag__law_great ?l__law_odd_number ?z__law_odd_number ?kk__law_odd_number ?ag__law_odd_number ?l__law_odd_byte ?z__law_odd_byte ?kk__law_odd_byte ?ag__law_odd_byte ?l__law_odd_width ?z__law_odd_width ?kk__law_odd_width ?ag__law_odd_width ?l__law_wrapped_right ?z__law_wrapped_right ?kk__law_wrapped_right ?ag__law_wrapped_right ?l__law_numbers_right ?z__law_numbers_right ?kk__law_numbers_right ?ag__law_numbers_right ?l__law_drawn_row ?z__law_drawn_row ?kk__law_drawn_row ?ag__law_drawn_row ?l__law_rows_right ?z__law_rows_right ?kk__law_rows_right ?ag__law_rows_right ?l__law_widths_right ?z__law_widths_right ?kk__law_widths_right ?ag__law_widths_right ?l_law ?z_law ?kk_law ?ag_law ?ag_MintError ?ag_BadWidth ?xl_BadWidth ?rv_BadWidth ?sa_BadWidth ?ex_BadWidth ?ty_BadWidth ?kC_BadWidth ?ga_BadWidth ?gg_BadWidth ?hd_BadWidth ?sn_get ?st_get ?hc_BadWidth ?mr_BadWidth ?F_BadWidth___init___0 ?F_BadWidth___init___1 ?F_BadWidth___init___2 ?hm_BadWidth ?hv_BadWidth ?hk_BadWidth_BadWidth ?hk_BadWidth_BadNumber ?hk_BadWidth_BadByte ?ag_BadNumber ?xl_BadNumber ?rv_BadNumber ?sa_BadNumber ?ex_BadNumber ?ty_BadNumber ?kC_BadNumber ?ga_BadNumber ?gg_BadNumber ?hd_BadNumber ?hc_BadNumber ?mr_BadNumber ?F_BadNumber___init___0 ?F_BadNumber___init___1 ?F_BadNumber___init___2 ?hm_BadNumber ?hv_BadNumber ?hk_BadNumber_BadWidth ?hk_BadNumber_BadNumber ?hk_BadNumber_BadByte ?ag_BadByte ?xl_BadByte ?rv_BadByte ?sa_BadByte ?ex_BadByte ?ty_BadByte ?kC_BadByte ?ga_BadByte ?gg_BadByte ?hd_BadByte ?hc_BadByte ?mr_BadByte ?F_BadByte___init___0 ?F_BadByte___init___1 ?F_BadByte___init___2 ?hm_BadByte ?hv_BadByte ?hk_BadByte_BadWidth ?hk_BadByte_BadNumber ?hk_BadByte_BadByte ?ag_WIDTHS ?lq_WIDTHS ?sq_WIDTHS ?vq_WIDTHS ?an_ValueError ?an_bool ?an_int ?an_isinstance ?an_len ?an_list ?an_range ?an_tuple
    (case ag_is_integer => k_is)
    (case ag_is_between => k_is)
    (case ag_is_byte => k_is)
    (case ag_check_width => k_is)
    (case ag_check_number => k_is)
    (case ag_half => k_is)
    (case ag_wrap => k_is)
    (case ag_is_number => k_is)
    (case ag_bytes_of => k_is)
    (case ag_number_of => k_is)
    (case ag__law_bag => k_is)
    (case ag__law_pick => k_is)
    (case ag__law_choice => k_is)
    (case ag__law_integer => k_is)
    (case ag__law_half => k_is)
    (case ag__law_wrap => k_is)
    (case ag__law_num => k_is)
    (case ag__law_bytes => k_is)
    (case ag__law_cell => k_is)
    (case ag__law_asked => k_is)
    (case ag__law_same => k_is)
    (case ag__law_is_told => k_is)
    (case ag__law_is_row => k_is)
    (case ag__law_doubled => k_is)
    (case ag__law_great => k_is)
    (case ag__law_odd_number => k_is)
    (case ag__law_odd_byte => k_is)
    (case ag__law_odd_width => k_is)
    (case ag__law_wrapped_right => k_is)
    (case ag__law_numbers_right => k_is)
    (case ag__law_drawn_row => k_is)
    (case ag__law_rows_right => k_is)
    (case ag__law_widths_right => k_is)
    (case ag_law => k_is)
    (case ag_MintError => k_is)
    (case ag_BadWidth => k_is)
    (case ag_BadNumber => k_is)
    (case ag_BadByte => k_is)
    (case ag_WIDTHS => k_is)
    (case F_BadWidth___init___0 => k_is)
    (case F_BadNumber___init___0 => k_is)
    (case F_BadByte___init___0 => k_is)
    (case l_BadWidth___init__ => k_is)
    (case z_BadWidth___init__ => k_is)
    (case kk_BadWidth___init__ => k_is)
    (case l_BadNumber___init__ => k_is)
    (case z_BadNumber___init__ => k_is)
    (case kk_BadNumber___init__ => k_is)
    (case l_BadByte___init__ => k_is)
    (case z_BadByte___init__ => k_is)
    (case kk_BadByte___init__ => k_is)
    (case l_is_integer => k_is)
    (case z_is_integer => k_is)
    (case kk_is_integer => k_is)
    (case l_is_between => k_is)
    (case z_is_between => k_is)
    (case kk_is_between => k_is)
    (case l_is_byte => k_is)
    (case z_is_byte => k_is)
    (case kk_is_byte => k_is)
    (case l_check_width => k_is)
    (case z_check_width => k_is)
    (case kk_check_width => k_is)
    (case l_check_number => k_is)
    (case z_check_number => k_is)
    (case kk_check_number => k_is)
    (case l_half => k_is)
    (case z_half => k_is)
    (case kk_half => k_is)
    (case l_wrap => k_is)
    (case z_wrap => k_is)
    (case kk_wrap => k_is)
    (case l_is_number => k_is)
    (case z_is_number => k_is)
    (case kk_is_number => k_is)
    (case l_bytes_of => k_is)
    (case z_bytes_of => k_is)
    (case kk_bytes_of => k_is)
    (case l_number_of => k_is)
    (case z_number_of => k_is)
    (case kk_number_of => k_is)
    (case l__law_bag => k_is)
    (case z__law_bag => k_is)
    (case kk__law_bag => k_is)
    (case l__law_pick => k_is)
    (case z__law_pick => k_is)
    (case kk__law_pick => k_is)
    (case l__law_choice => k_is)
    (case z__law_choice => k_is)
    (case kk__law_choice => k_is)
    (case l__law_integer => k_is)
    (case z__law_integer => k_is)
    (case kk__law_integer => k_is)
    (case l__law_half => k_is)
    (case z__law_half => k_is)
    (case kk__law_half => k_is)
    (case l__law_wrap => k_is)
    (case z__law_wrap => k_is)
    (case kk__law_wrap => k_is)
    (case l__law_num => k_is)
    (case z__law_num => k_is)
    (case kk__law_num => k_is)
    (case l__law_bytes => k_is)
    (case z__law_bytes => k_is)
    (case kk__law_bytes => k_is)
    (case l__law_cell => k_is)
    (case z__law_cell => k_is)
    (case kk__law_cell => k_is)
    (case l__law_asked => k_is)
    (case z__law_asked => k_is)
    (case kk__law_asked => k_is)
    (case l__law_same => k_is)
    (case z__law_same => k_is)
    (case kk__law_same => k_is)
    (case l__law_is_told => k_is)
    (case z__law_is_told => k_is)
    (case kk__law_is_told => k_is)
    (case l__law_is_row => k_is)
    (case z__law_is_row => k_is)
    (case kk__law_is_row => k_is)
    (case l__law_doubled => k_is)
    (case z__law_doubled => k_is)
    (case kk__law_doubled => k_is)
    (case l__law_great => k_is)
    (case z__law_great => k_is)
    (case kk__law_great => k_is)
    (case l__law_odd_number => k_is)
    (case z__law_odd_number => k_is)
    (case kk__law_odd_number => k_is)
    (case l__law_odd_byte => k_is)
    (case z__law_odd_byte => k_is)
    (case kk__law_odd_byte => k_is)
    (case l__law_odd_width => k_is)
    (case z__law_odd_width => k_is)
    (case kk__law_odd_width => k_is)
    (case l__law_wrapped_right => k_is)
    (case z__law_wrapped_right => k_is)
    (case kk__law_wrapped_right => k_is)
    (case l__law_numbers_right => k_is)
    (case z__law_numbers_right => k_is)
    (case kk__law_numbers_right => k_is)
    (case l__law_drawn_row => k_is)
    (case z__law_drawn_row => k_is)
    (case kk__law_drawn_row => k_is)
    (case l__law_rows_right => k_is)
    (case z__law_rows_right => k_is)
    (case kk__law_rows_right => k_is)
    (case l__law_widths_right => k_is)
    (case z__law_widths_right => k_is)
    (case kk__law_widths_right => k_is)
    (case l_law => k_is)
    (case z_law => k_is)
    (case kk_law => k_is)
    (case xl_BadWidth => k_is)
    (case rv_BadWidth => decide +kernel)
    (case sa_BadWidth => k_is)
    (case ex_BadWidth => k_is)
    (case ty_BadWidth => k_is)
    (case kC_BadWidth => k_is)
    (case ga_BadWidth => k_is)
    (case gg_BadWidth => k_is)
    (case hd_BadWidth => k_is)
    (case sn_get => k_is)
    (case st_get => k_is)
    (case hc_BadWidth => k_is)
    (case mr_BadWidth => k_is)
    (case F_BadWidth___init___1 => k_is)
    (case F_BadWidth___init___2 => k_is)
    (case hm_BadWidth => first | rfl | k_is)
    (case hv_BadWidth => first | rfl | k_is)
    (case hk_BadWidth_BadWidth => first | rfl | k_is)
    (case hk_BadWidth_BadNumber => first | rfl | k_is)
    (case hk_BadWidth_BadByte => first | rfl | k_is)
    (case xl_BadNumber => k_is)
    (case rv_BadNumber => decide +kernel)
    (case sa_BadNumber => k_is)
    (case ex_BadNumber => k_is)
    (case ty_BadNumber => k_is)
    (case kC_BadNumber => k_is)
    (case ga_BadNumber => k_is)
    (case gg_BadNumber => k_is)
    (case hd_BadNumber => k_is)
    (case hc_BadNumber => k_is)
    (case mr_BadNumber => k_is)
    (case F_BadNumber___init___1 => k_is)
    (case F_BadNumber___init___2 => k_is)
    (case hm_BadNumber => first | rfl | k_is)
    (case hv_BadNumber => first | rfl | k_is)
    (case hk_BadNumber_BadWidth => first | rfl | k_is)
    (case hk_BadNumber_BadNumber => first | rfl | k_is)
    (case hk_BadNumber_BadByte => first | rfl | k_is)
    (case xl_BadByte => k_is)
    (case rv_BadByte => decide +kernel)
    (case sa_BadByte => k_is)
    (case ex_BadByte => k_is)
    (case ty_BadByte => k_is)
    (case kC_BadByte => k_is)
    (case ga_BadByte => k_is)
    (case gg_BadByte => k_is)
    (case hd_BadByte => k_is)
    (case hc_BadByte => k_is)
    (case mr_BadByte => k_is)
    (case F_BadByte___init___1 => k_is)
    (case F_BadByte___init___2 => k_is)
    (case hm_BadByte => first | rfl | k_is)
    (case hv_BadByte => first | rfl | k_is)
    (case hk_BadByte_BadWidth => first | rfl | k_is)
    (case hk_BadByte_BadNumber => first | rfl | k_is)
    (case hk_BadByte_BadByte => first | rfl | k_is)
    (case lq_WIDTHS => k_is)
    (case sq_WIDTHS => exact Nat.le_of_ble_eq_true rfl)
    (case vq_WIDTHS => exact (.cons ⟨_, rfl⟩ (.cons ⟨_, rfl⟩ (.cons ⟨_, rfl⟩ .nil))))
    (case an_ValueError => k_is)
    (case an_bool => k_is)
    (case an_int => k_is)
    (case an_isinstance => k_is)
    (case an_len => k_is)
    (case an_list => k_is)
    (case an_range => k_is)
    (case an_tuple => k_is)
#print axioms PySem.Challenge.cw_wordmint_k02_numbers_and_bytes_holds
