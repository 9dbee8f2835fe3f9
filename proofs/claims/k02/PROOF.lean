import PyProof.Rows.All
import Wide.All
import OpenK.AllK
import Wide.FinOn
import HandS.ForExc
import HandS.Comp
import HandS.Dict
import HandS.Iter
import HandS.Text
import HandS.More
import HandS.Deep
import HandS.Wide
import HandS.Defaults
import HandS.Property
import HandS.ExcInit
import HandS.ExcField
import HandS.ExcIs
import HandS.IsInst
import HandS.TupAny
import HandS.Style
import HandS.Flow
import HandS.Evl
import PyProof.ReprRoads
import PyProof.ListStr
import HandS.HeadHook1
import HandS.Ends
import KE.KExcIs
import HandS.Head0
import HandS.Head1
import HandS.Head2
import HandS.HeadEnd
import HandS.HeadHook2
import HandS.HeadHook3
import HandS.HeadHook4
import PyProof.InstNe
import HandS.MakeKwOnly
import PySem.Challenge.RW_deedshares_k02_diagrams_kept
import PyProof.ReprLen
set_option Elab.async false
set_option linter.all false
set_option maxRecDepth 100000
set_option maxHeartbeats 0
section F1
/-! Own rules and wrappers over the hand layer. -/
namespace Ds
open PySem PySem.Spec PyProof.Rows L2

/-! ### powers of great ints -/
def CPowW (i j : Int) : Prop := 0 ≤ j ∧ (i.natAbs.log2 + 1 : Int) * j ≤ 134217728
theorem op_powW {X : Cx} : OpR X (binaryOp .Pow) (rI CPowW fun i j => .int (i ^ j.toNat)) := opI fun i j _ _ _ _ _ hc q => by
  refine pow_int hc.1 ?_ q
  have e : Builtin.Int.intBits i ≤ i.natAbs.log2 + 1 := by
    unfold Builtin.Int.intBits
    split <;> omega
  have e2 : ((Builtin.Int.intBits i : Nat) : Int) ≤ (i.natAbs.log2 + 1 : Int) := by omega
  have e3 := Int.mul_le_mul_of_nonneg_right e2 hc.1
  have h := hc.2
  have e4 : (2 : Int) ^ 27 = 134217728 := by decide
  omega

/-! ### a def to be called -/
def Cal (P : Program) (w : World) (K : PySem.W.Frag) (mg : Str → Option Value) (base : Heap) (CX : CXT) (k : Nat) (x : Str) (ps : List Str) (sp : Sp) : Prop :=
  ∃ f fd, FnOk P w K mg base CX k f fd ps sp ∧ mg x = some (.ref f) ∧ PySem.W.keepIn K (.ref f) = true ∧ Binds K fd ps []
section
variable {X : Cx} {CX : CXT} {k j : Nat} {x : Str} {ps : List Str} {sp : Sp} {p pos : Pos} {e : Expr} {es : List Expr} {t : TA}
theorem pe_cal (c : Cal X.prog X.w X.K X.mg X.base CX0 k x ps sp) (hr : Room j X.A) (hg : Gl X x) (ha : PA X (e :: es) t) (hj : k ≤ j := by decide) (hdb : (x == ("__debug__" : Str)) = false := by decide)
    (he : starEach (e :: es) X.env = (false, eval e X.env) :: starEach es X.env := by rfl) (hpl : (backTo pos (starEach es X.env)).any (·.1) = false := by rfl) :
    PE X (.Call (.Name x p) (e :: es) [] pos) (tCall sp [] E0 t) := by
  obtain ⟨f, fd, F, hm, kp, b⟩ := c
  exact pe_call F (hr.mono hj) hg hm kp b .nil pass0 ha hdb he hpl
end

/-! ### steps of a reading -/
section
variable {σ : L2.St} {H : Hp} {Q : VK} {D : Ends} {v x y : V} {i : Nat} {m n : Int} {t u : TS} {te tb : TE} {ta tr : TA} {c : TT} {g : TG} {r : R2} {QT : Bool → Hp → Prop} {QA : List V → Hp → Prop} {QS : L2.St → Hp → Prop}
theorem d_seq (h : t { D with nx := u D } σ H) : tSeq t u D σ H := h
theorem d_asg (h : te σ H fun x H1 => g x σ H1 D.nx) : tAsg te g D σ H := h
theorem d_gname (h : QS (σ.set i (some v)) H) : gName i v σ H QS := h
theorem d_if (h : c σ H fun b H1 => if b = true then t D σ H1 else u D σ H1) : tIfS c t u D σ H := h
theorem d_next (h : D.nx σ H) : tNext D σ H := h
theorem d_ret (h : te σ H D.rt) : tRet te D σ H := h
theorem d_drop (h : te σ H fun _ H1 => D.nx σ H1) : tDrop te D σ H := h
theorem d_test (h : te σ H fun x H1 => ∃ k, x = .bl k ∧ QT k H1) : tTest te σ H QT := h
theorem d_B (h : te σ H fun x H1 => ∃ k, x = .bl k ∧ QT k H1) : tB te σ H QT := h
theorem d_c (h : Q v H) : tC v σ H Q := h
theorem d_var (e : σ[i]? = some (some v)) (h : Q v H) : tVar i σ H Q := ⟨v, e, h⟩
theorem d_op (h : te σ H fun x H1 => tb σ H1 fun y H2 => r x y H2 Q) : tOp r te tb σ H Q := h
theorem d_un {r1 : V → Hp → VK → Prop} (h : te σ H fun x H1 => r1 x H1 Q) : tUn r1 te σ H Q := h
theorem d_rI0 {f : Int → Int → V} (h : Q (f m n) H) : rI0 f (.int m) (.int n) H Q := ⟨m, n, rfl, rfl, h⟩
theorem d_rI {C : Int → Int → Prop} {f : Int → Int → V} (hc : C m n) (h : Q (f m n) H) : rI C f (.int m) (.int n) H Q := ⟨m, n, rfl, rfl, hc, h⟩
theorem d_rU {f : Int → V} (h : Q (f m) H) : rU f (.int m) H Q := ⟨m, rfl, h⟩
theorem d_cons (h : te σ H fun x H1 => tr σ H1 fun xs H2 => QA (x :: xs) H2) : tCons te tr σ H QA := h
theorem d_nil (h : QA [] H) : tNil σ H QA := h
theorem d_cb {rc : List V → Hp → VK → Prop} (h : ta σ H fun vs H1 => rc vs H1 Q) : tCB rc ta σ H Q := h
theorem d_bl {b : Bool} {R : Bool → Prop} (h : R b) : ∃ k, V.bl b = .bl k ∧ R k := ⟨b, rfl, h⟩
theorem d_call {sp : Sp} {dvs : List V} {E : XK} (h : ta σ H fun vs H1 => sp (vs ++ dvs) H1 Q E) : tCall sp dvs E ta σ H Q := h
theorem d_eq (hs : scal x y = true) (h : Q (.bl (decide (x = y))) H) : rEq x y H Q := ⟨hs, h⟩
theorem d_ne (hs : scal x y = true) (h : Q (.bl (!decide (x = y))) H) : rNe x y H Q := ⟨hs, h⟩
theorem d_and {c' : TT} (h : c σ H fun b H1 => if b = true then c' σ H1 QT else QT false H1) : tAnd c c' σ H QT := h
theorem d_or {c' : TT} (h : c σ H fun b H1 => if b = true then QT true H1 else c' σ H1 QT) : tOr c c' σ H QT := h
theorem d_not (h : c σ H fun b H1 => QT (!b) H1) : tNot c σ H QT := h
theorem d_ix1 {K : PySem.W.Frag} {p : Addr} {xs : List V} (hS : SqL K H p xs) (ha : atI xs m = some v) (h : Q v H) : rIxL K (.ref p) (.int m) H Q := ⟨p, xs, m, v, rfl, rfl, hS, ha, h⟩
theorem d_ixT {K : PySem.W.Frag} {p : Addr} {xs : List V} (hS : SqT K H p xs) (ha : atI xs m = some v) (h : Q v H) : rIxT K (.ref p) (.int m) H Q := ⟨p, xs, m, v, rfl, rfl, hS, ha, h⟩
theorem d_lst (h : ta σ H fun xs H1 => xs.length ≤ sizeLine ∧ ∀ p, H1 p = none → Q (.ref p) (upd H1 p (.lst xs))) : tLst ta σ H Q := h
theorem d_tup (h : ta σ H fun xs H1 => xs.length ≤ sizeLine ∧ ∀ p, H1 p = none → Q (.ref p) (upd H1 p (.tup xs))) : tTup ta σ H Q := h
theorem d_new {xs : List V} {R : Addr → Prop} (hl : xs.length ≤ 100000) (h : ∀ p, H p = none → R p) : xs.length ≤ sizeLine ∧ ∀ p, H p = none → R p := ⟨Nat.le_trans hl (by decide), h⟩
theorem d_cut {M : L2.St → Hp → Prop} (h : t { D with nx := M } σ H) (k : ∀ σ' H', M σ' H' → u D σ' H') : Evl.tCut t u D σ H := ⟨M, h, k⟩
theorem d_bm {K : PySem.W.Frag} {T : String} {rm : V → List V → Hp → VK → Prop} (h : te σ H fun x H1 => tyV K T x H1 ∧ ta σ H1 fun xs H2 => rm x xs H2 Q) : tBM K T rm te ta σ H Q := h
theorem d_bm0 {K : PySem.W.Frag} {T : String} {rm : V → List V → Hp → VK → Prop} (h : te σ H fun x H1 => tyV K T x H1 ∧ rm x [] H1 Q) : tBM0 K T rm te σ H Q := h
theorem d_i1 {z : Int} {R : Int → Prop} (h : R z) : ∃ i, [V.int z] = [V.int i] ∧ R i := ⟨z, rfl, h⟩
theorem d_i2 {a b : Int} {R : Int → Int → Prop} (h : R a b) : ∃ i j, [V.int a, V.int b] = [V.int i, V.int j] ∧ R i j := ⟨a, b, rfl, h⟩
theorem d_o1 {z : Int} {R : Int → Prop} {O : Prop} (h : R z) : (∃ i, [V.int z] = [V.int i] ∧ R i) ∨ O := .inl ⟨z, rfl, h⟩
theorem d_len {K : PySem.W.Frag} {H : Hp} {p : Addr} {xs : List V} {R : List V → Prop} (hS : SqL K H p xs) (h : R xs) : ∃ q ys, [V.ref p] = [V.ref q] ∧ (SqL K H q ys ∨ SqT K H q ys) ∧ R ys := ⟨p, xs, rfl, .inl hS, h⟩
theorem d_gsub {σ : L2.St} {H : Hp} {te tb : TE} {ts : TSet} {v : V} {QS : L2.St → Hp → Prop} (h : te σ H fun o H1 => tb σ H1 fun i H2 => ts o i v H2 fun H3 => QS σ H3) : gSub te tb ts v σ H QS := h
theorem d_setL {H : Hp} {p : Addr} {xs : List V} {k : Int} {j : Nat} {v : V} {QH : Hp → Prop} (hp : H p = some (.lst xs)) (hj : ixN xs.length k = some j) (h : QH (upd H p (.lst (xs.set j v)))) : rSetL (.ref p) (.int k) v H QH := ⟨p, xs, k, j, rfl, rfl, hp, hj, h⟩
end
end Ds
end F1
section F2
namespace Ds
open PySem PySem.Spec PyProof.Rows L2

/-! ### list of a text -/
theorem call_listS {X : Cx} (hc : X.calm = true) : CallR X (.type "list") (fun xs H Q => ∃ z : Str, xs = [.str z] ∧ z.length ≤ sizeLine ∧ ∀ p, H p = none → Q (.ref p) (upd H p (.lst (z.cps.toList.map fun c => V.str ⟨#[c]⟩)))) := by
  intro pins s σ H xs us Q I r h
  obtain ⟨z, rfl, hz, q⟩ := h
  obtain ⟨u, rfl, t, rfl⟩ := vals1 r
  refine PySem.call_list_str (I.ok.hd hc) z t (hn := hz) fun h' tk acc c' hk e hi => ?_
  have len : (z.cps.toList.map fun c => V.str ⟨#[c]⟩).length = z.cps.size := by rw [List.length_map]; exact Array.length_toList
  refine ⟨.ref s.heap.objs.size, _, I.laid (t' := tk) (o := .lst (z.cps.toList.map fun c => V.str ⟨#[c]⟩)) hk (Nat.le_refl _) ⟨by rw [len]; exact hz, acc.toList, c', ?_, by rw [Array.toArray_toList]; exact e⟩, rfl, q _ (I.hok.fresh (Nat.le_refl _))⟩
  refine vals_of_idx _ _ (by rw [len, Array.length_toList]; exact hi.1) fun j u hj => ?_
  obtain ⟨c, t', hc, rfl⟩ := hi.2 j u (by rw [← Array.getElem?_toList]; exact hj)
  refine ⟨.str ⟨#[c]⟩, ?_, ⟨_, rfl⟩⟩
  rw [List.getElem?_map, Array.getElem?_toList, hc]
  rfl

/-! ### a heap beside what a def found: S may have changed, L is known -/
structure Mem (H0 : Hp) (S : List Addr) (L : List (Addr × HO)) (H : Hp) : Prop where
  fr : ∀ b o, H0 b = some o → b ∉ S → H b = some o
  here : ∀ x ∈ L, H x.1 = some x.2
  nd : (L.map (·.1)).Nodup
  ol : ∀ x ∈ L, x.1 ∈ S ∨ H0 x.1 = none
section
variable {H0 H H' : Hp} {S : List Addr} {L L' : List (Addr × HO)} {p q : Addr} {o o' : HO} {i : Nat}
theorem Mem.get (M : Mem H0 S L H) (i : Nat) {p : Addr} {o : HO} (h : L[i]? = some (p, o) := by rfl) : H p = some o := M.here (p, o) (List.mem_of_getElem? h)
theorem Mem.start (H : Hp) : Mem H [] [] H := ⟨fun _ _ e _ => e, fun x h => by simp at h, List.nodup_nil, fun x h => by simp at h⟩
theorem Mem.start1 {p : Addr} {o : HO} (h : H p = some o) : Mem H [p] [(p, o)] H := ⟨fun _ _ e _ => e, fun x hx => by
  have e : x = (p, o) := by simpa using hx
  rw [e]
  exact h, by simp, fun x hx => by
  have e : x = (p, o) := by simpa using hx
  rw [e]
  exact .inl (by simp)⟩
theorem Mem.new (M : Mem H0 S L H) (h : H p = none) (hs : p ∉ S) : Mem H0 S (L ++ [(p, o)]) (upd H p o) := by
  refine ⟨fun b u e hb => ?_, fun x hx => ?_, ?_, fun x hx => ?_⟩
  · have q := M.fr b u e hb
    rw [upd_ne (ne_of_none q h)]
    exact q
  · rcases List.mem_append.mp hx with hx | hx
    · have q := M.here x hx
      rw [upd_ne (ne_of_none q h)]
      exact q
    · have e : x = (p, o) := by simpa using hx
      rw [e]
      exact upd_same
  · rw [List.map_append, List.nodup_append]
    refine ⟨M.nd, by simp, fun a ha b hb => ?_⟩
    have e : b = p := by simpa using hb
    subst e
    obtain ⟨x, hx, rfl⟩ := List.mem_map.mp ha
    exact ne_of_none (M.here x hx) h
  · rcases List.mem_append.mp hx with hx | hx
    · exact M.ol x hx
    · have e : x = (p, o) := by simpa using hx
      rw [e]
      refine .inr ?_
      cases e2 : H0 p with
      | none => rfl
      | some u =>
        have z := M.fr p u e2 hs
        rw [h] at z
        cases z
/-- the objects that are not known may be of S only if they stand in L -/
theorem Mem.fresh (M : Mem H0 S L H) (hS : ∀ s ∈ S, ∃ o, (s, o) ∈ L) (h : H p = none) : p ∉ S := fun hp => by
  obtain ⟨u, hu⟩ := hS p hp
  have z := M.here _ hu
  rw [show ((p, u) : Addr × HO).1 = p from rfl, h] at z
  cases z
theorem mem_set {α : Type} {l : List α} {i : Nat} {a x : α} (h : x ∈ l.set i a) : x = a ∨ ∃ j, j ≠ i ∧ l[j]? = some x := by
  obtain ⟨j, hj⟩ := List.mem_iff_getElem?.mp h
  rw [List.getElem?_set] at hj
  by_cases e : i = j
  · rw [if_pos e] at hj
    by_cases e2 : i < l.length
    · rw [if_pos e2] at hj
      exact .inl (Option.some.inj hj).symm
    · rw [if_neg e2] at hj
      cases hj
  · rw [if_neg e] at hj
    exact .inr ⟨j, fun z => e z.symm, hj⟩
theorem nodup_ne {l : List Addr} (nd : l.Nodup) {i j : Nat} {a b : Addr} (hi : l[i]? = some a) (hj : l[j]? = some b) (h : j ≠ i) : b ≠ a := fun e => by
  subst e
  obtain ⟨h1, e1⟩ := List.getElem?_eq_some_iff.mp hi
  obtain ⟨h2, e2⟩ := List.getElem?_eq_some_iff.mp hj
  exact h ((List.getElem_inj nd).mp (e2.trans e1.symm))
theorem Mem.call (M : Mem H0 S L H) (i : Nat) (h : L[i]? = some (p, o)) (k : ∀ b u, H b = some u → b ≠ p → H' b = some u) (e : H' p = some o') : Mem H0 S (L.set i (p, o')) H' := by
  have hp := M.ol (p, o) (List.mem_of_getElem? h)
  have hmap : (L.map (·.1))[i]? = some p := by rw [List.getElem?_map, h]; rfl
  refine ⟨fun b u eb hb => ?_, fun x hx => ?_, ?_, fun x hx => ?_⟩
  · refine k b u (M.fr b u eb hb) fun z => ?_
    subst z
    rcases hp with hp | hp
    · exact hb hp
    · have hp' : H0 b = none := hp
      rw [hp'] at eb
      cases eb
  · rcases mem_set hx with rfl | ⟨j, hj, hx⟩
    · exact e
    · exact k _ _ (M.here x (List.mem_of_getElem? hx)) (nodup_ne M.nd hmap (show (L.map (·.1))[j]? = some x.1 by rw [List.getElem?_map, hx]; rfl) hj)
  · have e : (L.set i (p, o')).map (·.1) = L.map (·.1) := by
      rw [List.map_set]
      refine List.ext_getElem? fun j => ?_
      rw [List.getElem?_set]
      by_cases z : i = j
      · subst z
        rw [if_pos rfl, hmap]
        obtain ⟨h1, _⟩ := List.getElem?_eq_some_iff.mp hmap
        rw [if_pos h1]
      · rw [if_neg z]
    rw [e]
    exact M.nd
  · rcases mem_set hx with rfl | ⟨j, _, hx⟩
    · exact hp
    · exact M.ol x (List.mem_of_getElem? hx)
theorem Mem.set (M : Mem H0 S L H) (i : Nat) (h : L[i]? = some (p, o)) : Mem H0 S (L.set i (p, o')) (upd H p o') :=
  M.call i h (fun b u e hb => by rw [upd_ne hb]; exact e) upd_same
theorem Mem.sub (M : Mem H0 S L H) (h : L'.Sublist L) : Mem H0 S L' H :=
  ⟨M.fr, fun x hx => M.here x (h.subset hx), M.nd.sublist (h.map _), fun x hx => M.ol x (h.subset hx)⟩
theorem Mem.ne (M : Mem H0 S L H) (i j : Nat) (hi : L[i]? = some (p, o)) (hj : L[j]? = some (q, o')) (h : j ≠ i) : q ≠ p :=
  nodup_ne M.nd (i := i) (j := j) (by rw [List.getElem?_map, hi]; rfl) (by rw [List.getElem?_map, hj]; rfl) h
/-- a new object beside the one that may change -/
theorem Mem.alloc {a : Addr} (M : Mem H0 [p] ((p, o) :: L) H) (h : H a = none) : Mem H0 [p] ((p, o) :: (L ++ [(a, o')])) (upd H a o') :=
  M.new h (M.fresh (fun s hs => ⟨o, by
    have e : s = p := by simpa using hs
    rw [e]
    exact List.mem_cons_self ..⟩) h)
theorem Mem.alloc0 {a : Addr} (M : Mem H0 [] L H) (h : H a = none) : Mem H0 [] (L ++ [(a, o')]) (upd H a o') := M.new h (by simp)
/-- nothing that was known has changed -/
theorem Mem.same (M : Mem H0 [] L H) : Same H0 H := fun b o e => M.fr b o e (by simp)
end

/-! ### tuples stay -/
def TupS (H H' : Hp) : Prop := ∀ a xs, H a = some (.tup xs) → H' a = some (.tup xs)
theorem TupS.refl (H : Hp) : TupS H H := fun _ _ e => e
theorem TupS.trans {H H1 H2 : Hp} (a : TupS H H1) (b : TupS H1 H2) : TupS H H2 := fun x xs e => b x xs (a x xs e)
theorem TupS.lst {H : Hp} {p : Addr} {xs : List V} {o : HO} (h : H p = some (.lst xs)) : TupS H (upd H p o) := fun a ys e => by
  rw [upd_ne (ne_of e h (by intro z; cases z))]
  exact e
theorem TupS.new {H : Hp} {p : Addr} {o : HO} (h : H p = none) : TupS H (upd H p o) := fun a ys e => by
  rw [upd_ne (ne_of_none e h)]
  exact e
theorem TupS.same {H H' : Hp} (h : Same H H') : TupS H H' := fun a xs e => h a _ e
theorem TupS.mem {H H' : Hp} {p : Addr} {L : List (Addr × HO)} {xs : List V} (M : Mem H [p] L H') (h : H p = some (.lst xs)) : TupS H H' := fun a ys e =>
  M.fr a _ e (by
    intro z
    have e2 : a = p := by simpa using z
    rw [e2, h] at e
    cases e)

/-! ### lists of pairs of texts -/
abbrev Pr := Str × Str
def PrsAt (H : Hp) : List Addr → List Pr → Prop := Paired fun a p => H a = some (.tup [.str p.1, .str p.2])
theorem PrsAt.ts {H H' : Hp} (t : TupS H H') {as : List Addr} {ps : List Pr} (h : PrsAt H as ps) : PrsAt H' as ps := Paired.mapP h fun a p e => t a _ e
theorem PrsAt.get : ∀ {as : List Addr} {ps : List Pr} {H : Hp} {i : Nat} {a : Addr}, PrsAt H as ps → as[i]? = some a → ∃ p, ps[i]? = some p ∧ H a = some (.tup [.str p.1, .str p.2])
  | _, _, _, _, _, .nil, e => by simp at e
  | _, _, _, 0, _, .cons h _, e => by
    simp at e
    subst e
    exact ⟨_, rfl, h⟩
  | _, _, _, i + 1, _, .cons _ t, e => by
    obtain ⟨p, e1, e2⟩ := PrsAt.get t (i := i) (by simpa using e)
    exact ⟨p, by simpa using e1, e2⟩
theorem PrsAt.append : ∀ {as bs : List Addr} {ps qs : List Pr} {H : Hp}, PrsAt H as ps → PrsAt H bs qs → PrsAt H (as ++ bs) (ps ++ qs)
  | _, _, _, _, _, .nil, s => s
  | _, _, _, _, _, .cons h t, s => .cons h (PrsAt.append t s)
theorem PrsAt.take : ∀ {as : List Addr} {ps : List Pr} {H : Hp} (n : Nat), PrsAt H as ps → PrsAt H (as.take n) (ps.take n)
  | _, _, _, 0, _ => .nil
  | _, _, _, _ + 1, .nil => .nil
  | _, _, _, n + 1, .cons h t => .cons h (PrsAt.take n t)
theorem PrsAt.drop : ∀ {as : List Addr} {ps : List Pr} {H : Hp} (n : Nat), PrsAt H as ps → PrsAt H (as.drop n) (ps.drop n)
  | _, _, _, 0, h => h
  | _, _, _, _ + 1, .nil => .nil
  | _, _, _, n + 1, .cons _ t => PrsAt.drop n t
theorem PrsAt.length {as : List Addr} {ps : List Pr} {H : Hp} (h : PrsAt H as ps) : as.length = ps.length := Paired.length h
/-- as data -/
abbrev dStr (xs : List Str) : PyData := .list (xs.map .str)
abbrev dPr (p : Pr) : PyData := .tuple [.str p.1, .str p.2]
abbrev dPrs (ps : List Pr) : PyData := .list (ps.map dPr)
theorem dp_strs {K : PySem.W.Frag} {H : Hp} : ∀ (xs : List Str), DpAll K H (xs.map V.str) (xs.map PyData.str)
  | [] => .nil
  | x :: xs => .cons (.str x) (dp_strs xs)
theorem dp_pr {K : PySem.W.Frag} {H : Hp} {a : Addr} {p : Pr} (h : H a = some (.tup [.str p.1, .str p.2])) : Dp K H (.ref a) (dPr p) := .tup (SqT.of h) (.cons (.str _) (.cons (.str _) .nil))
theorem dp_prs {K : PySem.W.Frag} {H : Hp} : ∀ {as : List Addr} {ps : List Pr}, PrsAt H as ps → DpAll K H (as.map V.ref) (ps.map dPr)
  | _, _, .nil => .nil
  | _, _, .cons h t => .cons (dp_pr h) (dp_prs t)
end Ds
end F2
section F3
namespace Ds
open PySem PySem.Spec PyProof.Rows L2

/-! ### t[::s] of a tuple of two, s 1 or -1 -/
section
variable {prog : Program} {w : World} {A : Around} {E : Value → Shared → Prop} {s : Shared}
theorem applied_step {sl : Addr} {vs : Value} {k : Int} {Q : Int × Int × Nat → Shared → Prop} (hs : s.heap.IsSliceOf sl .none .none vs) (ps : PySem.IsPart vs (some k)) (hk : k = 1 ∨ k = -1)
    (h : Q (if k = 1 then (0, 1, 2) else (1, -1, 2)) s) : wpAny (model prog w) A (Builtin.Slice.sliceApplied (.ref sl) (pure (2 : Int))) Q E s := by
  obtain ⟨ob, e1, e2, e3⟩ := id hs
  unfold Builtin.Slice.sliceApplied Builtin.Slice.sliceFields
  refine wpAny_bind (wpAny_bind (wpAny_field e1 e3 (x := .none) rfl ?_))
  refine wpAny_bind (wpAny_field e1 e3 (x := .none) rfl (wpAny_bind (wpAny_field e1 e3 (x := vs) rfl (wpAny_pure ?_))))
  dsimp only
  refine wpAny_bind (HT.slicePart_ ps ?_)
  rcases hk with rfl | rfl
  · show wpAny _ _ (if ((1 : Int) == 0) = true then _ else _) _ _ s
    rw [if_neg (by decide)]
    refine wpAny_bind (HT.slicePart_ .none (wpAny_bind (HT.slicePart_ .none (wpAny_bind (wpAny_pure ?_)))))
    exact wpAny_pure h
  · show wpAny _ _ (if ((-1 : Int) == 0) = true then _ else _) _ _ s
    rw [if_neg (by decide)]
    refine wpAny_bind (HT.slicePart_ .none (wpAny_bind (HT.slicePart_ .none (wpAny_bind (wpAny_pure ?_)))))
    exact wpAny_pure h
theorem item_step {t sl : Addr} {x y : Value} {vs : Value} {k : Int} {Q : Value → Shared → Prop} (ht : IsTup s.heap t #[x, y]) (hs : s.heap.IsSliceOf sl .none .none vs) (ps : PySem.IsPart vs (some k))
    (h : (k = 1 ∧ Q (.ref t) s) ∨ (k = -1 ∧ Q (.ref s.heap.objs.size) { s with heap := s.heap.push { cls := .type "tuple", data := .seq #[y, x] } })) : wpAny (model prog w) A (getItem (.ref t) (.ref sl)) Q E s := by
  obtain ⟨ob, e1, e2, e3⟩ := id hs
  have hTs : s.TypeIs (.ref sl) "slice" := ⟨ob, e1, e2⟩
  unfold getItem
  try with_reducible refine wpAny_holding ?_
  first | refine wpAny_bind (wpAny_pure ?_) | skip
  refine wpAny_bind (wpAny_sequenceKey ht.typeIs (by decide) ?_)
  refine wpAny_bind (wpAny_callSpecial?_slot (name := Str.ofString "__getitem__") ht.typeIs PyProof.Rows.slot_tuple_getitem
      (wpAny_call_entry PyProof.Rows.slot_tuple_getitem ht.typeIs entry_tuple_getitem ?_ (args_tuple_getitem _ _)) )
  show wpAny _ _ (Builtin.Tuple.tupleItemsOf (.ref t) >>= _)  _ _ s
  refine wpAny_bind (tupleItemsOf_ ht (wpAny_bind (wpAny_typeOf hTs ?_)))
  rw [if_pos (by decide)]
  refine wpAny_bind (applied_step hs ps (by rcases h with h | h <;> omega) ?_)
  rcases h with ⟨rfl, h⟩ | ⟨rfl, h⟩
  · have hex : s.TypeIs (.ref t) "tuple" := ht.typeIs
    show wpAny _ _ (Builtin.Tuple.tupleIsExact (.ref t) >>= _) _ _ s
    refine wpAny_bind ?_
    show wpAny _ _ (typeOf (.ref t) >>= fun T => pure (T == .type "tuple")) _ _ s
    refine wpAny_bind (wpAny_typeOf hex (wpAny_pure ?_))
    rw [if_pos (by decide)]
    exact wpAny_bind (wpAny_rule (wpAny_pure ⟨_, rfl, wpAny_pure h⟩))
  · show wpAny _ _ (Builtin.Tuple.tupleExact #[y, x] >>= _) _ _ s
    exact wpAny_bind (m := Builtin.Tuple.tupleExact _) (wpAny_newObj_type (wpAny_pure ⟨_, rfl, wpAny_pure h⟩) (by show 2 ≤ sizeLine; decide))
end
/-- t[::s] -/
def tStep2 (K : PySem.W.Frag) (te ts : TE) : TE := fun σ H Q => te σ H fun x H1 => ts σ H1 fun y H2 => ∃ i : Int, y = .int i ∧ ∃ (a : Addr) (u v : V), x = .ref a ∧ SqT K H2 a [u, v] ∧
  ((some i = some 1 ∧ Q (.ref a) H2) ∨ (some i = some (-1) ∧ ∀ p, H2 p = none → Q (.ref p) (upd H2 p (.tup [v, u]))))
theorem pe_sliceStep {X : Cx} {e st : Expr} {te ts : TE} {p3 pos : Pos} (he : PE X e te) (hs : PE X st ts) : PE X (.Subscript e (.Slice none none (some st) p3) pos) (tStep2 X.K te ts) := by
  refine ⟨fun pins s σ H Q I h => Subscript_ (thn (he.run pins s σ H _ I h) fun v s1 ⟨x, H1, I1, r1, q1⟩ => ?_)⟩
  refine wpAny_Slice (thn (po_none.run pins s1 σ H1 (fun o H2 => o = none ∧ H2 = H1) I1 ⟨rfl, rfl⟩) fun vl s2 ⟨l, H2, I2, pl, el, e2⟩ => ?_)
  subst el e2
  refine thn (po_none.run pins s2 σ H2 (fun o H3 => o = none ∧ H3 = H2) I2 ⟨rfl, rfl⟩) fun vu s3 ⟨u, H3, I3, pu, eu, e3⟩ => ?_
  subst eu e3
  have hst : PO X (some st) (tPart ts) := po_some hs
  refine thn (hst.run pins s3 σ H3 (fun o H4 => ∃ (a : Addr) (u v : V), x = .ref a ∧ SqT X.K H4 a [u, v] ∧ ((o = some 1 ∧ Q (.ref a) H4) ∨ (o = some (-1) ∧ ∀ p, H4 p = none → Q (.ref p) (upd H4 p (.tup [v, u]))))) I3 q1) fun vs s4 ⟨o, H4, I4, ps, a, y1, y2, ex, hx, q⟩ => ?_
  subst ex
  cases r1
  have I5 : Inv X pins σ H4 { s4 with heap := s4.heap.push { cls := .type "slice", data := .fields #[vl, vu, vs] } } := I4.kept (t' := s4.toks) fun b ob z => Heap.get?_push_of_some _ z
  obtain ⟨its, r, ht, hz⟩ := I5.tuple hx
  obtain ⟨w1, w2, rfl, rw1, rw2⟩ : ∃ w1 w2, its = [w1, w2] ∧ RelV y1 w1 ∧ RelV y2 w2 := by
    cases r with
    | cons p1 p2 => cases p2 with
      | cons p3 p4 =>
        cases p4
        exact ⟨_, _, rfl, p1, p3⟩
  cases pl
  cases pu
  show wpAny (model X.prog X.w) X.A (subscriptTail e (.Slice none none (some st) p3) (.ref a) (.ref s4.heap.objs.size)) (EP X pins σ Q) X.xe { s4 with heap := s4.heap.push { cls := .type "slice", data := .fields #[.none, .none, vs] } }
  refine tail_any (ops := [.ref a, .ref s4.heap.objs.size]) ht.typeIs (PyProof.Rows.slot_tuple_getitem.lookup) ?_ (by with_unfolding_all rfl)
  rcases q with ⟨ek, q⟩ | ⟨ek, q⟩
  · subst ek
    exact item_step ht (Heap.IsSliceOf.new _ .none .none vs) ps (.inl ⟨rfl, .ref a, H4, I5, rfl, q⟩)
  · subst ek
    refine item_step ht (Heap.IsSliceOf.new _ .none .none vs) ps (.inr ⟨rfl, .ref _, _, I5.laid (t' := s4.toks) (o := .tup [y2, y1]) (fun b ob z => Heap.get?_push_of_some _ z) (Nat.le_refl _) ?_, rfl, q _ (I5.hok.fresh (Nat.le_refl _))⟩)
    exact ⟨by show 2 ≤ sizeLine; decide, [w2, w1], .cons rw2 (.cons rw1 .nil), IsTup.new _ _⟩

/-! ### the rules with the written part said -/
section
variable {X : Cx} {K : PySem.W.Frag} {e o : Expr} {es : List Expr} {te to : TE} {t : TA} {pos p pos' apos cpos : Pos} {f : Str} {tg : Expr}
theorem pe_fldK (he : PE X e te) (hb : attributeBase e f X.env (eval e X.env) = eval e X.env := by rfl) (hK : X.K = K := by rfl) : PE X (.Attribute e f pos) (tFld K te f) := hK ▸ pe_fld he hb
theorem ps_fldK {value : Expr} {tv : TE} (ha : PE X o to) (hv : PE X value tv) (hK : X.K = K := by rfl) (hs : swapsWith value (some (.Attribute o f pos')) pos.line X.env = pure false := by rfl) : PS X (.Assign [.Attribute o f pos'] value pos) (sFld K to tv f) := hK ▸ ps_fld ha hv hs
theorem pg_tupK {k : Nat} {tt : TGs} {n : Nat} (h : PGs X es tt) (hc : X.calm = true := by rfl) (hK : X.K = K := by rfl) (hn : (assignEach es X.env).length = n := by rfl) (hst : (assignEach es X.env).findIdx? (·.1) = none := by rfl) :
    PG X (.Tuple es k pos) (gTup K n tt) := hK ▸ pg_tup hc h hn hst
theorem pi_listK (h : PE X e te) (hK : X.K = K := by rfl) : PI X tg e (iList K te) := hK ▸ pi_list h
theorem pi_tupK (h : PE X e te) (hK : X.K = K := by rfl) : PI X tg e (iTup K te) := hK ▸ pi_tup h
theorem pi_enumK {elts : List Expr} {kk : Nat} {tpos : Pos} (hg : Gl X "enumerate") (hm : X.mg "enumerate" = none) (ha : PA X [e] t) (hK : X.K = K := by rfl) (hs : starEach [e] X.env = [(false, eval e X.env)] := by rfl) :
    PI X (.Tuple elts kk tpos) (.Call (.Name "enumerate" p) [e] [] pos) (iEnum K t) := hK ▸ pi_enum hg hm ha hs
theorem pe_revLK {k : Nat} {p1 p2 p3 : Pos} (he : PE X e te) (hK : X.K = K := by rfl) : PE X (.Subscript e (.Slice none none (some (.UnaryOp .USub (.Constant (.int 1) k p1) p2)) p3) pos) (tRevL K te) := hK ▸ pe_revL he
theorem pe_sliceStepK {st : Expr} {ts : TE} {p3 : Pos} (he : PE X e te) (hs : PE X st ts) (hK : X.K = K := by rfl) : PE X (.Subscript e (.Slice none none (some st) p3) pos) (tStep2 K te ts) := hK ▸ pe_sliceStep he hs
theorem pe_bm0K {name : Str} {T id : String} {r : V → List V → Hp → VK → Prop} (pa : PlainAttrs T) (slot : Slot T name id) (hty : typeOf (.builtin id) = pure (.type "method_descriptor")) (hm : MtR X id r) (ho : PE X o to) (hK : X.K = K := by rfl)
    (hbase : attributeBase o name X.env (eval o X.env) = eval o X.env := by rfl) (hline : (apos.endLine == cpos.line) = true := by rfl) : PE X (.Call (.Attribute o name apos) [] [] cpos) (tBM0 K T r to) := hK ▸ pe_bm0 pa slot hty hm ho hbase hline
theorem pe_bmK {name : Str} {T id : String} {r : V → List V → Hp → VK → Prop} (pa : PlainAttrs T) (slot : Slot T name id) (hty : typeOf (.builtin id) = pure (.type "method_descriptor")) (hm : MtR X id r) (ho : PE X o to) (ha : PA X (e :: es) t) (hK : X.K = K := by rfl)
    (hbase : attributeBase o name X.env (eval o X.env) = eval o X.env := by rfl)
    (hfew : ((backTo cpos (starEach (e :: es) X.env)).all (fun x => !x.1) && (backToKw cpos (keywordEach [] X.env)).all (fun x => x.1.isSome) && decide ((e :: es).length + ([] : List Keyword).length + (if ([] : List Keyword).isEmpty then 0 else 1) < 30)) = true := by rfl)
    (hline : (apos.endLine == cpos.line) = true := by rfl) (hs : starEach (e :: es) X.env = (false, eval e X.env) :: starEach es X.env := by rfl) (hplain : (backTo cpos (starEach es X.env)).any (·.1) = false := by rfl) :
    PE X (.Call (.Attribute o name apos) (e :: es) [] cpos) (tBM K T r to t) := hK ▸ pe_bm pa slot hty hm ho ha hbase hfew hline hs hplain
theorem _root_.L2.Room.units5 {k : Nat} {A : Around} (r : Room k A) : A.units + 65 < cLine := by have := r.un; omega
end
end Ds
end F3
section F4
namespace Ds
open PySem PySem.Spec PyProof.Rows L2

/-! ### the letters -/
def letter (c : Nat) : Str := ⟨#[c]⟩
def abc : List Str := ("abcdefghijklmnopqrstuvwxyz" : Str).cps.toList.map letter
theorem abc_eq : abc = (List.range 26).map (fun i => letter (97 + i)) := by decide +kernel
theorem letter_inj {a b : Nat} (h : letter a = letter b) : a = b := by
  have e : (letter a).cps = (letter b).cps := congrArg Str.cps h
  have e2 : #[a] = #[b] := e
  simpa using e2
theorem abc_nodup : abc.Nodup := by
  rw [abc_eq, List.nodup_iff_pairwise_ne, List.pairwise_map]
  refine (List.nodup_range (n := 26)).imp ?_
  intro a b h e
  exact h (by have := letter_inj e; omega)
theorem abc_len : abc.length = 26 := by rw [abc_eq]; simp
def IsLet (x : Str) : Prop := ∃ c, 97 ≤ c ∧ c ≤ 122 ∧ x = letter c
theorem abc_let {x : Str} (h : x ∈ abc) : IsLet x := by
  rw [abc_eq, List.mem_map] at h
  obtain ⟨i, hi, rfl⟩ := h
  have := List.mem_range.mp hi
  exact ⟨97 + i, by omega, by omega, rfl⟩

/-! ### what a drawn chart is -/
structure ChartOk (W : Nat) (ns : List Str) (ls vs : List Pr) : Prop where
  lo : 1 ≤ ns.length
  hi : ns.length ≤ W
  lets : ∀ x ∈ ns, IsLet x
  nd : ns.Nodup
  ord : ∃ order : List Str, order.Perm ns ∧ ∀ p ∈ ls, ∃ i j : Nat, i < j ∧ order[i]? = some p.1 ∧ order[j]? = some p.2
  lnd : ls.Nodup
  vin : ∀ p ∈ vs, p.1 ∈ ns ∧ p.2 ∈ ns ∧ p.1 ≠ p.2
  vnd : vs.Pairwise fun p q => p ≠ q ∧ p ≠ (q.2, q.1)
  vlen : vs.length ≤ 5

/-! ### the pairs of an order -/
def tiesAt (order : List Str) (j : Nat) : List Pr := (List.range j).map fun e => (order.getD e Str.empty, order.getD j Str.empty)
def ties (order : List Str) : Nat → List Pr
  | 0 => []
  | n + 1 => ties order n ++ tiesAt order n
theorem mem_ties {order : List Str} {p : Pr} : ∀ {n : Nat}, p ∈ ties order n ↔ ∃ i j : Nat, i < j ∧ j < n ∧ p = (order.getD i Str.empty, order.getD j Str.empty)
  | 0 => by simp [ties]
  | n + 1 => by
    rw [ties, List.mem_append, mem_ties (n := n)]
    constructor
    · rintro (⟨i, j, h1, h2, e⟩ | h)
      · exact ⟨i, j, h1, by omega, e⟩
      · obtain ⟨i, hi, rfl⟩ := List.mem_map.mp h
        exact ⟨i, n, List.mem_range.mp hi, by omega, rfl⟩
    · rintro ⟨i, j, h1, h2, e⟩
      by_cases hj : j < n
      · exact .inl ⟨i, j, h1, hj, e⟩
      · have ej : j = n := by omega
        subst ej
        exact .inr (List.mem_map.mpr ⟨i, List.mem_range.mpr h1, e.symm⟩)
theorem ties_len (order : List Str) : ∀ n : Nat, (ties order n).length ≤ n * n
  | 0 => by simp [ties]
  | n + 1 => by
    have := ties_len order n
    rw [ties, List.length_append]
    have e : (tiesAt order n).length = n := by simp [tiesAt]
    rw [e]
    have e2 : (n + 1) * (n + 1) = n * n + 2 * n + 1 := by rw [Nat.add_mul, Nat.mul_add]; omega
    omega
theorem getD_some {order : List Str} {i : Nat} (h : i < order.length) : order[i]? = some (order.getD i Str.empty) := by
  rw [List.getD_eq_getElem?_getD, List.getElem?_eq_getElem h]; rfl
theorem getD_inj {order : List Str} (nd : order.Nodup) {i j : Nat} (hi : i < order.length) (hj : j < order.length) (e : order.getD i Str.empty = order.getD j Str.empty) : i = j := by
  have h1 := getD_some hi
  have h2 := getD_some hj
  rw [e] at h1
  obtain ⟨a1, e1⟩ := List.getElem?_eq_some_iff.mp h1
  obtain ⟨a2, e2⟩ := List.getElem?_eq_some_iff.mp h2
  exact (List.getElem_inj nd).mp (e1.trans e2.symm)
theorem ties_nodup {order : List Str} (nd : order.Nodup) : ∀ {n : Nat}, n ≤ order.length → (ties order n).Nodup
  | 0, _ => List.nodup_nil
  | n + 1, h => by
    rw [ties, List.nodup_append]
    refine ⟨ties_nodup nd (by omega), ?_, ?_⟩
    · unfold tiesAt
      rw [List.nodup_iff_pairwise_ne, List.pairwise_map]
      refine List.Pairwise.imp_of_mem ?_ (List.nodup_range (n := n))
      intro a b ha hb hab e
      have e1 : order.getD a Str.empty = order.getD b Str.empty := congrArg Prod.fst e
      exact hab (getD_inj nd (by have := List.mem_range.mp ha; omega) (by have := List.mem_range.mp hb; omega) e1)
    · intro a ha b hb e
      subst e
      obtain ⟨i, j, h1, h2, e1⟩ := mem_ties.mp ha
      obtain ⟨k, hk, e2⟩ := List.mem_map.mp hb
      rw [e1] at e2
      have e3 : order.getD n Str.empty = order.getD j Str.empty := congrArg Prod.snd e2
      have := getD_inj nd (by omega) (by omega) e3
      omega
theorem ties_swap {order : List Str} (nd : order.Nodup) {n : Nat} (h : n ≤ order.length) {p : Pr} (hp : p ∈ ties order n) : (p.2, p.1) ∉ ties order n := by
  intro hq
  obtain ⟨i, j, h1, h2, e1⟩ := mem_ties.mp hp
  obtain ⟨k, l, h3, h4, e2⟩ := mem_ties.mp hq
  subst e1
  have a1 : order.getD j Str.empty = order.getD k Str.empty := congrArg Prod.fst e2
  have a2 : order.getD i Str.empty = order.getD l Str.empty := congrArg Prod.snd e2
  have := getD_inj nd (by omega) (by omega) a1
  have := getD_inj nd (by omega) (by omega) a2
  omega
theorem ties_ne {order : List Str} (nd : order.Nodup) {n : Nat} (h : n ≤ order.length) {p : Pr} (hp : p ∈ ties order n) : p.1 ∈ order ∧ p.2 ∈ order ∧ p.1 ≠ p.2 := by
  obtain ⟨i, j, h1, h2, rfl⟩ := mem_ties.mp hp
  refine ⟨List.mem_of_getElem? (getD_some (by omega)), List.mem_of_getElem? (getD_some (by omega)), fun e => ?_⟩
  have := getD_inj nd (by omega) (by omega) e
  omega

theorem eraseIdx_mapS {α β : Type} (f : α → β) : ∀ (l : List α) (i : Nat), (l.map f).eraseIdx i = (l.eraseIdx i).map f
  | [], _ => rfl
  | _ :: _, 0 => rfl
  | x :: l, i + 1 => by
    rw [List.map_cons, List.eraseIdx_cons_succ, List.eraseIdx_cons_succ, List.map_cons, eraseIdx_mapS f l i]
theorem cons_erase {α : Type} : ∀ {l : List α} {i : Nat} {x : α}, l[i]? = some x → (x :: l.eraseIdx i).Perm l
  | [], _, _, h => by simp at h
  | y :: l, 0, x, h => by
    have e : y = x := by simpa using h
    subst e
    exact List.Perm.refl _
  | y :: l, i + 1, x, h => by
    rw [List.eraseIdx_cons_succ]
    exact (List.Perm.swap y x _).trans ((cons_erase (l := l) (i := i) (by simpa using h)).cons y)
theorem map_get {α β : Type} {f : α → β} {l : List α} {i : Nat} {y : β} (h : (l.map f)[i]? = some y) : ∃ z, l[i]? = some z ∧ y = f z := by
  rw [List.getElem?_map] at h
  cases q : l[i]? with
  | none => rw [q] at h; cases h
  | some z => rw [q] at h; exact ⟨z, rfl, (Option.some.inj h).symm⟩
/-! ### what lies in the lists behind k ties -/
structure Laid (T : List Pr) (k : Nat) (ls vs : List Pr) : Prop where
  lsub : ∀ p ∈ ls, p ∈ T.take k
  lnd : ls.Nodup
  vsub : ∀ p ∈ vs, p ∈ T.take k ∨ (p.2, p.1) ∈ T.take k
  vnd : vs.Pairwise fun p q => p ≠ q ∧ p ≠ (q.2, q.1)
  vlen : vs.length ≤ 5
def ins {α : Type} (xs : List α) (i : Nat) (y : α) : List α := xs.take i ++ [y] ++ xs.drop i
theorem ins_perm {α : Type} (xs : List α) (i : Nat) (y : α) : (ins xs i y).Perm (y :: xs) := by
  unfold ins
  rw [List.append_assoc]
  refine (List.perm_append_comm_assoc _ _ _).trans ?_
  rw [List.take_append_drop]
  exact List.Perm.refl _
theorem ins_len {α : Type} (xs : List α) (i : Nat) (y : α) : (ins xs i y).length = xs.length + 1 := (ins_perm xs i y).length_eq
theorem ins_map {α β : Type} (f : α → β) (xs : List α) (i : Nat) (y : α) : (ins xs i y).map f = ins (xs.map f) i (f y) := by
  simp [ins, List.map_take, List.map_drop]
theorem take_succ_of {α : Type} {T : List α} {k : Nat} {t : α} (h : T[k]? = some t) : T.take (k + 1) = T.take k ++ [t] := by
  rw [List.take_succ, h]; rfl
theorem not_take {T : List Pr} (nd : T.Nodup) {k : Nat} {t : Pr} (h : T[k]? = some t) : t ∉ T.take k := by
  intro hm
  obtain ⟨j, hj⟩ := List.mem_iff_getElem?.mp hm
  rw [List.getElem?_take] at hj
  by_cases hk : j < k
  · rw [if_pos hk] at hj
    obtain ⟨a1, e1⟩ := List.getElem?_eq_some_iff.mp hj
    obtain ⟨a2, e2⟩ := List.getElem?_eq_some_iff.mp h
    have := (List.getElem_inj nd).mp (e1.trans e2.symm)
    omega
  · rw [if_neg hk] at hj
    cases hj
theorem Laid.skip {T : List Pr} {k : Nat} {ls vs : List Pr} (L : Laid T k ls vs) : Laid T (k + 1) ls vs := by
  have m : ∀ {p : Pr}, p ∈ T.take k → p ∈ T.take (k + 1) := fun {p} h => by
    rw [List.take_succ]
    exact List.mem_append_left _ h
  exact ⟨fun p h => m (L.lsub p h), L.lnd, fun p h => (L.vsub p h).imp m m, L.vnd, L.vlen⟩
theorem Laid.line {T : List Pr} (nd : T.Nodup) {k : Nat} {t : Pr} (h : T[k]? = some t) {ls vs : List Pr} (L : Laid T k ls vs) (i : Nat) : (∀ p ∈ ins ls i t, p ∈ T.take (k + 1)) ∧ (ins ls i t).Nodup := by
  refine ⟨fun p hp => ?_, ?_⟩
  · rw [take_succ_of h]
    rcases List.mem_cons.mp ((ins_perm ls i t).mem_iff.mp hp) with rfl | hp
    · simp
    · exact List.mem_append_left _ (L.lsub p hp)
  · rw [(ins_perm ls i t).nodup_iff]
    exact List.nodup_cons.mpr ⟨fun hm => not_take nd h (L.lsub t hm), L.lnd⟩
theorem vsym {p q : Pr} (h : p ≠ q ∧ p ≠ (q.2, q.1)) : q ≠ p ∧ q ≠ (p.2, p.1) := by
  refine ⟨fun e => h.1 e.symm, fun e => h.2 ?_⟩
  rw [e]
theorem Laid.veil {T : List Pr} (nd : T.Nodup) (sw : ∀ p ∈ T, (p.2, p.1) ∉ T) {k : Nat} {t v : Pr} (h : T[k]? = some t) (hv : v = t ∨ v = (t.2, t.1)) {ls vs : List Pr} (L : Laid T k ls vs) (h5 : vs.length < 5) (i : Nat) :
    (∀ p ∈ ins vs i v, p ∈ T.take (k + 1) ∨ (p.2, p.1) ∈ T.take (k + 1)) ∧ (ins vs i v).Pairwise (fun p q => p ≠ q ∧ p ≠ (q.2, q.1)) ∧ (ins vs i v).length ≤ 5 := by
  have hT : t ∈ T := List.mem_of_getElem? h
  have nt : t ∉ T.take k := not_take nd h
  have ns : (t.2, t.1) ∉ T.take k := fun z => sw t hT (List.mem_of_mem_take z)
  refine ⟨fun p hp => ?_, ?_, by rw [ins_len]; omega⟩
  · rw [take_succ_of h]
    rcases List.mem_cons.mp ((ins_perm vs i v).mem_iff.mp hp) with rfl | hp
    · rcases hv with rfl | rfl
      · exact .inl (by simp)
      · exact .inr (by simp)
    · exact (L.vsub p hp).imp (fun z => List.mem_append_left _ z) fun z => List.mem_append_left _ z
  · rw [(ins_perm vs i v).pairwise_iff vsym]
    refine List.pairwise_cons.mpr ⟨fun q hq => ?_, L.vnd⟩
    have hq' := L.vsub q hq
    rcases hv with rfl | rfl
    · refine ⟨fun e => ?_, fun e => ?_⟩
      · subst e
        exact hq'.elim nt ns
      · rw [e] at nt ns
        exact hq'.elim (fun z => ns z) fun z => nt z
    · refine ⟨fun e => ?_, fun e => ?_⟩
      · rw [← e] at hq'
        exact hq'.elim ns nt
      · have e1 : t = q := by
          have a1 : t.2 = q.2 := congrArg Prod.fst e
          have a2 : t.1 = q.1 := congrArg Prod.snd e
          exact Prod.ext a2 a1
        rw [e1] at nt ns
        exact hq'.elim nt ns
theorem Laid.ok {ns order ls vs : _} {W : Nat} (h1 : 1 ≤ ns.length) (h2 : ns.length ≤ W) (hl : ∀ x ∈ ns, IsLet x) (nd : ns.Nodup) (pm : order.Perm ns) {k : Nat} (L : Laid (ties order order.length) k ls vs) : ChartOk W ns ls vs := by
  have nd' : order.Nodup := pm.nodup_iff.mpr nd
  refine ⟨h1, h2, hl, nd, ⟨order, pm, fun p hp => ?_⟩, L.lnd, fun p hp => ?_, L.vnd, L.vlen⟩
  · obtain ⟨i, j, a1, a2, rfl⟩ := mem_ties.mp (List.mem_of_mem_take (L.lsub p hp))
    exact ⟨i, j, a1, getD_some (by omega), getD_some a2⟩
  · rcases L.vsub p hp with z | z
    · obtain ⟨a, b, c⟩ := ties_ne nd' (Nat.le_refl _) (List.mem_of_mem_take z)
      exact ⟨pm.mem_iff.mp a, pm.mem_iff.mp b, c⟩
    · obtain ⟨a, b, c⟩ := ties_ne nd' (Nat.le_refl _) (List.mem_of_mem_take z)
      exact ⟨pm.mem_iff.mp b, pm.mem_iff.mp a, fun e => c e.symm⟩
end Ds
end F4
section F5
namespace Ds
open PySem PySem.Spec PyProof.Rows L2
section
variable {K : PySem.W.Frag} {σ : L2.St} {H : Hp} {Q : VK} {D : Ends} {v x y : V} {p a : Addr} {xs ys : List V} {d : Int} {QS : L2.St → Hp → Prop}
theorem d_gtup {t : TGs} (h : SqT K H a xs) (t1 : t xs σ H QS) {n : Nat} (hl : xs.length = n) : gTup K n t (.ref a) σ H QS := ⟨a, xs, rfl, h, hl, t1⟩
theorem d_gcons {t : TG} {u : TGs} {r : List V} (h : t v σ H fun σ' H' => u r σ' H' QS) : gCons t u (v :: r) σ H QS := ⟨v, r, rfl, h⟩
theorem d_gnil (h : QS σ H) : gNil [] σ H QS := ⟨rfl, h⟩
theorem d_lenS (hS : SqL K H p xs) (h : Q (.int xs.length) H) : Evl.rLenS K [V.ref p] H Q := ⟨p, xs, rfl, .inl hS, h⟩
theorem d_lenT (hS : SqT K H p xs) (h : Q (.int xs.length) H) : Evl.rLenS K [V.ref p] H Q := ⟨p, xs, rfl, .inr hS, h⟩
theorem d_listS (hS : SqL K H p xs) (h : ∀ l, H l = none → Q (.ref l) (upd H l (.lst xs))) : Evl.rListS K [V.ref p] H Q := ⟨p, xs, rfl, .inl hS, h⟩
theorem d_par {i j : Nat} {ta : TA} (h : ta σ H fun vs H1 => ∃ v w, vs = [v, w] ∧ D.nx ((σ.set i (some v)).set j (some w)) H1) : tPar i j ta D σ H := h
theorem d_par2 {R : V → V → Prop} (h : R x y) : ∃ v w, [x, y] = [v, w] ∧ R v w := ⟨x, y, rfl, h⟩
theorem d_rng1 {ta : TA} {R : It → Hp → Prop} (h : ta σ H fun vs H1 => ∃ j : Int, vs = [.int j] ∧ -(2 ^ 62) ≤ j ∧ j < 2 ^ 62 ∧ R (Itr 0 j.toNat) H1) : iRng1 ta σ H R := h
theorem d_rng2 {ta : TA} {R : It → Hp → Prop} (h : ta σ H fun vs H1 => ∃ i j : Int, vs = [.int i, .int j] ∧ (-(2 ^ 62) ≤ i ∧ i < 2 ^ 62 ∧ -(2 ^ 62) ≤ j ∧ j < 2 ^ 62) ∧ R (Itr i (j - i).toNat) H1) : iRng2 ta σ H R := h
theorem d_for {wi : TI} {g : TG} {tb : TS} (h : wi σ H fun J H1 => ∃ W : Nat → Nat → L2.St → Hp → Prop, (∃ m, W 0 m σ H1) ∧ ∀ i m σ H, W i m σ H → ((J.stop i H ∧ D.nx σ H) ∨
    (J.go i H ∧ ∃ N : L2.St → Hp → Prop, (∀ σ' H', N σ' H' → ∃ m', m' < m ∧ W (i + 1) m' σ' H') ∧ ∀ x H', J.yld i H x H' → g x σ H' fun σ2 H2 => tb { D with nx := N, ct := N, bk := D.nx } σ2 H2))) : tFor wi g tb D σ H := h
theorem d_iList {R : Addr → Prop} (hS : SqL K H p xs) (h : R p) : (∃ a, V.ref p = .ref a ∧ (∃ xs, SqL K H a xs) ∧ R a) := ⟨p, rfl, ⟨xs, hS⟩, h⟩
theorem d_iTup {R : Addr → Prop} (hS : SqT K H p xs) (h : R p) : (∃ a, V.ref p = .ref a ∧ (∃ xs, SqT K H a xs) ∧ R a) := ⟨p, rfl, ⟨xs, hS⟩, h⟩
theorem d_ils {te : TE} {R : It → Hp → Prop} (h : te σ H fun x H1 => ∃ a, x = .ref a ∧ (∃ xs, SqL K H1 a xs) ∧ R (Itl K a) H1) : iList K te σ H R := h
theorem d_its {te : TE} {R : It → Hp → Prop} (h : te σ H fun x H1 => ∃ a, x = .ref a ∧ (∃ xs, SqT K H1 a xs) ∧ R (Itt K a) H1) : iTup K te σ H R := h
theorem d_ien {ta : TA} {R : It → Hp → Prop} (h : ta σ H fun vs H1 => ∃ a xs, vs = [.ref a] ∧ SqL K H1 a xs ∧ R (Ite K a) H1) : iEnum K ta σ H R := h
theorem d_rNeD {dd e : PyData} (h1 : Dp K H x dd) (h2 : Dp K H y e) (s1 : SeqAt.shaped dd = true) (s2 : SeqAt.shaped e = true) (h : Q (.bl (!PyData.eqv dd e)) H) : rNeD K x y H Q := ⟨dd, e, h1, h2, s1, s2, h⟩
theorem d_rEqD {dd e : PyData} (h1 : Dp K H x dd) (h2 : Dp K H y e) (s1 : SeqAt.shaped dd = true) (s2 : SeqAt.shaped e = true) (h : Q (.bl (PyData.eqv dd e)) H) : rEqD K x y H Q := ⟨dd, e, h1, h2, s1, s2, h⟩
theorem d_lc {wi : TI} {g : TG} {tt : TT} {te : TE} {vs : List Nat} (h : wi σ H fun J H1 => ∀ D, H1 D = none → ∃ W : Nat → Nat → Hp → Prop, (∃ m, W 0 m (upd H1 D (.lst []))) ∧ ∀ i m H, W i m H → ((J.stop i H ∧ Q (.ref D) H) ∨
    (J.go i H ∧ ∃ Nx : Hp → Prop, (∀ H', Nx H' → ∃ m', m' < m ∧ W (i + 1) m' H') ∧ ∀ x H', J.yld i H x H' → g x (wipe σ vs) H' fun σ2 H2 => wipe σ2 vs = wipe σ vs ∧ tt σ2 H2 fun b H3 =>
    if b = true then te σ2 H3 fun y H4 => ∃ acc, H4 D = some (.lst acc) ∧ acc.length < sizeLine ∧ Nx (upd H4 D (.lst (acc ++ [y]))) else Nx H3))) : tLc wi g tt te vs σ H Q := h
theorem d_yes {QT : Bool → Hp → Prop} (h : QT true H) : tYes σ H QT := h
theorem d_acc {D : Addr} {acc : List V} {R : Prop} {f : List V → Prop} (h : H D = some (.lst acc)) (hl : acc.length < 100000) (q : f acc) : ∃ acc, H D = some (.lst acc) ∧ acc.length < sizeLine ∧ f acc := ⟨acc, h, Nat.lt_of_lt_of_le hl (by decide), q⟩
theorem d_chain {r r' : R2} {ta tb tc : TE} (h : ta σ H fun x H1 => tb σ H1 fun y H2 => r x y H2 fun z H3 => ∃ k, z = .bl k ∧ (if k = true then tc σ H3 fun w' H4 => r' y w' H4 Q else Q (.bl false) H3)) : tChain r r' ta tb tc σ H Q := h
theorem d_andV {ta tb : TE} (h : ta σ H fun x H1 => ∃ c, x = .bl c ∧ if c = true then tb σ H1 Q else Q (.bl false) H1) : tAndV ta tb σ H Q := h
theorem d_orV {ta tb : TE} (h : ta σ H fun x H1 => ∃ c, x = .bl c ∧ if c = true then Q (.bl true) H1 else tb σ H1 Q) : tOrV ta tb σ H Q := h
theorem d_notV {ta : TE} (h : ta σ H fun x H1 => ∃ c, x = .bl c ∧ Q (.bl (!c)) H1) : tNotV ta σ H Q := h
theorem d_slice {r : V → Option Int → Option Int → Hp → VK → Prop} {te : TE} {tl th : TO} (h : te σ H fun x H1 => tl σ H1 fun l H2 => th σ H2 fun u H3 => r x l u H3 Q) : tSl r te tl th σ H Q := h
theorem d_nopart {QO : Option Int → Hp → Prop} (h : QO none H) : tNoPart σ H QO := h
theorem d_part {te : TE} {QO : Option Int → Hp → Prop} (h : te σ H fun x H1 => ∃ i, x = .int i ∧ QO (some i) H1) : tPart te σ H QO := h
theorem d_int {i : Int} {R : Int → Prop} (h : R i) : ∃ j, V.int i = .int j ∧ R j := ⟨i, rfl, h⟩
theorem d_s2 {s t : Str} {R : Str → Str → Prop} (h : R s t) : ∃ i j, V.str s = .str i ∧ V.str t = .str j ∧ R i j := ⟨s, t, rfl, rfl, h⟩
theorem d_slL {lo hi : Option Int} (hS : SqL K H p xs) (h : ∀ q, H q = none → Q (.ref q) (upd H q (.lst (cutV xs lo hi)))) : rSlL K (.ref p) lo hi H Q := ⟨p, xs, rfl, hS, h⟩
theorem d_inD {dd : PyData} {ds : List PyData} (h1 : Dp K H x dd) (h2 : Dp K H y (.list ds)) (s1 : SeqAt.shaped dd = true) (s2 : SeqAt.shaped (.list ds) = true) (h : Q (.bl (ds.any fun z => PyData.eqv z dd)) H) : rInD K x y H Q := ⟨dd, ds, h1, h2, s1, s2, h⟩
theorem d_ninD {dd : PyData} {ds : List PyData} (h1 : Dp K H x dd) (h2 : Dp K H y (.list ds)) (s1 : SeqAt.shaped dd = true) (s2 : SeqAt.shaped (.list ds) = true) (h : Q (.bl (!ds.any fun z => PyData.eqv z dd)) H) : rNotInD K x y H Q := ⟨dd, ds, h1, h2, s1, s2, h⟩
theorem d_fld {te : TE} {f : Str} (h : te σ H fun x H1 => ∃ a C dx fs v, x = .ref a ∧ H1 a = some (.ins C dx fs) ∧ Cls K C ∧ NoAttr K C f ∧ fs.lookup f = some v ∧ Q v H1) : tFld K te f σ H Q := h
theorem d_p0 {QP : List (V × V) → Hp → Prop} (h : QP [] H) : tPairs [] σ H QP := h
theorem d_p1 {tk tv : TE} {r : List (TE × TE)} {QP : List (V × V) → Hp → Prop} (h : tk σ H fun x H1 => tv σ H1 fun y H2 => tPairs r σ H2 fun ps H3 => QP ((x, y) :: ps) H3) : tPairs ((tk, tv) :: r) σ H QP := h
theorem d_disp {trs : List (TE × TE)} (h : ∀ p, H p = none → tPairs trs σ (upd H p (.dK [])) fun ps H2 => H2 p = some (.dK []) ∧ ∃ kvs : List (Key × V), ps = kvs.map (fun kv => (kV kv.1, kv.2)) ∧ kvs.length ≤ 15 ∧ Q (.ref p) (upd H2 p (.dK (mergeK [] kvs)))) : tDisp trs σ H Q := h
theorem d_din {ty td : TE} (h : ty σ H fun y H1 => td σ H1 fun x H2 => ∃ a o, x = .ref a ∧ DGet H2 a y o ∧ Q (.bl o.isSome) H2) : tDIn ty td σ H Q := h
theorem d_dnotin {ty td : TE} (h : ty σ H fun y H1 => td σ H1 fun x H2 => ∃ a o, x = .ref a ∧ DGet H2 a y o ∧ Q (.bl (!o.isSome)) H2) : tDNotIn ty td σ H Q := h
theorem d_dput {td ty tv : TE} (h : tv σ H fun v H1 => td σ H1 fun x H2 => ty σ H2 fun y H3 => ∃ a H4, x = .ref a ∧ DPut H3 a y v H4 ∧ D.nx σ H4) : sDPut td ty tv D σ H := h
theorem d_sfld {te tv : TE} {f : Str} (h : tv σ H fun y H1 => te σ H1 fun x H2 => ∃ a C dx fs, x = .ref a ∧ H2 a = some (.ins C dx fs) ∧ Cls K C ∧ NoAttr K C f ∧ fs.length < 1000 ∧ D.nx σ (upd H2 a (.ins C dx (putF f y fs)))) : sFld K te tv f D σ H := h
theorem d_ls {z : Str} {R : Str → Prop} (hz : z.length ≤ 100000) (h : R z) : ∃ u, [V.str z] = [V.str u] ∧ u.length ≤ sizeLine ∧ R u := ⟨z, rfl, Nat.le_trans hz (by decide), h⟩
theorem d_ty {R : Prop} (h : H p = some (.lst xs)) (q : R) : tyV K "list" (.ref p) H ∧ R := ⟨.inl ⟨rfl, xs, SqL.of h⟩, q⟩
theorem d_append (h : H p = some (.lst xs)) (hl : xs.length < 100000) (q : Q .non (upd H p (.lst (xs ++ [y])))) : rAppend (.ref p) [y] H Q := ⟨p, xs, y, rfl, rfl, h, Nat.lt_of_lt_of_le hl (by decide), q⟩
theorem d_extend {b : Addr} (h : H p = some (.lst xs)) (hb : H b = some (.lst ys)) (hl : xs.length + ys.length ≤ 100000) (q : Q .non (upd H p (.lst (xs ++ ys)))) : rExtend (.ref p) [.ref b] H Q := ⟨p, b, xs, ys, rfl, rfl, h, hb, Nat.le_trans hl (by decide), q⟩
theorem ixN_nat {n : Nat} {d : Int} (h0 : 0 ≤ d) (h1 : d < n) : ixN n d = some d.toNat := by
  unfold ixN
  rw [if_pos h0, if_pos h1]
theorem d_popAt (h : H p = some (.lst xs)) (h0 : 0 ≤ d) (h1 : d < xs.length) (hl : xs.length ≤ 100000) (q : ∀ y, xs[d.toNat]? = some y → Q y (upd H p (.lst (xs.eraseIdx d.toNat)))) : rPopAt (.ref p) [.int d] H Q := by
  have e := (ixN_seq (ixN_nat h0 h1)).1
  have hd : d.toNat < xs.length := by omega
  exact ⟨p, xs, d, d.toNat, xs[d.toNat], rfl, rfl, h, by omega, by omega, e, List.getElem?_eq_getElem hd, q _ (List.getElem?_eq_getElem hd)⟩
theorem d_pop (h : H p = some (.lst (xs ++ [y]))) (q : Q y (upd H p (.lst xs))) : rPop (.ref p) [] H Q := ⟨p, xs ++ [y], y, rfl, rfl, h, by simp, by rw [List.dropLast_concat]; exact q⟩
theorem d_insert {R : Addr → List V → Int → V → Prop} (h : H p = some (.lst xs)) (hl : xs.length < 100000) (h0 : 0 ≤ d) (h1 : d < 2 ^ 63) (q : R p xs d y) :
    ∃ (l : Addr) (zs : List V) (i : Int) (z : V), V.ref p = .ref l ∧ [V.int d, y] = [.int i, z] ∧ H l = some (.lst zs) ∧ zs.length < sizeLine ∧ 0 ≤ i ∧ i < 2 ^ 63 ∧ R l zs i z :=
  ⟨p, xs, d, y, rfl, rfl, h, Nat.lt_of_lt_of_le hl (by decide), h0, h1, q⟩
theorem d_step2 {te ts : TE} (h : te σ H fun x H1 => ts σ H1 fun y H2 => ∃ i : Int, y = .int i ∧ ∃ (a : Addr) (u v : V), x = .ref a ∧ SqT K H2 a [u, v] ∧
  ((some i = some 1 ∧ Q (.ref a) H2) ∨ (some i = some (-1) ∧ ∀ p, H2 p = none → Q (.ref p) (upd H2 p (.tup [v, u]))))) : tStep2 K te ts σ H Q := h
theorem d_inT (hT : SqT K H p xs) (hx : flatV x = true) (ha : xs.all flatV = true) (q : Q (.bl (inV x xs)) H) : rIn K false x (.ref p) H Q := ⟨p, xs, rfl, .inr hT, hx, ha, q⟩
theorem d_inL (hT : SqL K H p xs) (hx : flatV x = true) (ha : xs.all flatV = true) (q : Q (.bl (inV x xs)) H) : rIn K false x (.ref p) H Q := ⟨p, xs, rfl, .inl hT, hx, ha, q⟩
theorem d_ninL (hT : SqL K H p xs) (hx : flatV x = true) (ha : xs.all flatV = true) (q : Q (.bl (!inV x xs)) H) : rIn K true x (.ref p) H Q := ⟨p, xs, rfl, .inl hT, hx, ha, q⟩
theorem inV_strs {x : Str} {xs : List Str} : inV (.str x) (xs.map V.str) = decide (x ∈ xs) := by
  induction xs with
  | nil => rfl
  | cons y ys ih =>
    rw [List.map_cons]
    show (eqV (V.str y) (V.str x) || inV (.str x) (ys.map V.str)) = _
    rw [ih]
    by_cases e : x = y
    · subst e
      simp [eqV]
    · have e2 : y ≠ x := fun z => e z.symm
      simp [eqV, e, e2]
theorem flat_strs (xs : List Str) : (xs.map V.str).all flatV = true := by
  induction xs with
  | nil => rfl
  | cons y ys ih => rw [List.map_cons, List.all_cons, ih]; rfl
end
end Ds
end F5
section F6
namespace Ds
open PySem PySem.Spec PyProof.Rows L2
/-- a text of code points -/
abbrev SOk (x : Str) : Prop := PyData.strOk x = true
theorem let_ok {x : Str} (h : IsLet x) : SOk x := by
  obtain ⟨c, h1, h2, rfl⟩ := h
  show (#[c] : Array Nat).all (· < 0x110000) = true
  simp
  omega
theorem lay_strs : ∀ {xs : List Str}, (∀ x ∈ xs, SOk x) → PyData.canLayAll0 (xs.map PyData.str) = true
  | [], _ => by simp [PyData.canLayAll0]
  | x :: xs, h => by
    have h1 := h x (by simp)
    have h2 := lay_strs (xs := xs) fun y hy => h y (List.mem_cons_of_mem _ hy)
    rw [List.map_cons]
    simp [PyData.canLayAll0, PyData.canLay0, h1, h2]
abbrev POk (p : Pr) : Prop := SOk p.1 ∧ SOk p.2
theorem lay_prs : ∀ {ps : List Pr}, (∀ p ∈ ps, POk p) → PyData.canLayAll0 (ps.map dPr) = true
  | [], _ => by simp [PyData.canLayAll0]
  | x :: xs, h => by
    have h1 := h x (by simp)
    have h2 := lay_prs (ps := xs) fun y hy => h y (List.mem_cons_of_mem _ hy)
    rw [List.map_cons]
    simp [PyData.canLayAll0, PyData.canLay0, h1.1, h1.2, h2]
theorem depth_strs : ∀ xs : List Str, PyData.depthAll (xs.map PyData.str) ≤ 1
  | [] => by simp [PyData.depthAll]
  | x :: xs => by
    have := depth_strs xs
    rw [List.map_cons]
    simp only [PyData.depthAll, PyData.depth]
    omega
theorem depth_prs : ∀ xs : List Pr, PyData.depthAll (xs.map dPr) ≤ 3
  | [] => by simp [PyData.depthAll]
  | x :: xs => by
    have := depth_prs xs
    rw [List.map_cons]
    simp only [PyData.depthAll, PyData.depth]
    omega
theorem shaped_strs {xs : List Str} (ok : ∀ x ∈ xs, SOk x) : SeqAt.shaped (dStr xs) = true := by
  have h := depth_strs xs
  unfold SeqAt.shaped
  simp only [PyData.canLay0, lay_strs ok, PyData.depth, Bool.true_and]
  exact decide_eq_true (by omega)
theorem shaped_prs {xs : List Pr} (ok : ∀ x ∈ xs, POk x) : SeqAt.shaped (dPrs xs) = true := by
  have h := depth_prs xs
  unfold SeqAt.shaped
  simp only [PyData.canLay0, lay_prs ok, PyData.depth, Bool.true_and]
  exact decide_eq_true (by omega)
theorem shaped_pr {p : Pr} (ok : POk p) : SeqAt.shaped (dPr p) = true := by
  unfold SeqAt.shaped
  simp [PyData.canLay0, PyData.canLayAll0, PyData.depth, PyData.depthAll, ok.1, ok.2]
theorem shaped_nil : SeqAt.shaped (.list []) = true := by decide +kernel
theorem eqv_strs_nil (xs : List Str) : PyData.eqv (dStr xs) (.list []) = xs.isEmpty := by
  cases xs <;> simp [PyData.eqv, PyData.eqvAll]
theorem eqvAll_strs : ∀ xs ys : List Str, PyData.eqvAll (xs.map PyData.str) (ys.map PyData.str) = decide (xs = ys)
  | [], [] => by simp [PyData.eqvAll]
  | [], y :: ys => by simp [PyData.eqvAll]
  | x :: xs, [] => by simp [PyData.eqvAll]
  | x :: xs, y :: ys => by
    rw [List.map_cons, List.map_cons, PyData.eqvAll, eqvAll_strs xs ys]
    by_cases h : x = y
    · subst h
      simp [PyData.eqv]
    · simp [PyData.eqv, h]
theorem eqv_strs (xs ys : List Str) : PyData.eqv (dStr xs) (dStr ys) = decide (xs = ys) := by
  rw [PyData.eqv, eqvAll_strs]
theorem eqv_pr (p q : Pr) : PyData.eqv (dPr p) (dPr q) = decide (p = q) := by
  obtain ⟨a, b⟩ := p
  obtain ⟨c, d⟩ := q
  simp only [PyData.eqv, PyData.eqvAll, Bool.and_true, Prod.mk.injEq, Bool.decide_and]
  have e : ∀ x y : Str, (x == y) = decide (x = y) := fun x y => by
    by_cases h : x = y
    · subst h
      simp
    · simp [h]
  rw [e, e]
theorem eqvAll_prs : ∀ xs ys : List Pr, PyData.eqvAll (xs.map dPr) (ys.map dPr) = decide (xs = ys)
  | [], [] => by simp [PyData.eqvAll]
  | [], y :: ys => by simp [PyData.eqvAll]
  | x :: xs, [] => by simp [PyData.eqvAll]
  | x :: xs, y :: ys => by
    rw [List.map_cons, List.map_cons, PyData.eqvAll, eqvAll_prs xs ys, eqv_pr]
    by_cases h : x = y
    · subst h
      simp
    · simp [h]
theorem eqv_prs (xs ys : List Pr) : PyData.eqv (dPrs xs) (dPrs ys) = decide (xs = ys) := by
  rw [PyData.eqv, eqvAll_prs]
theorem any_prs (p : Pr) (ps : List Pr) : ((ps.map dPr).any fun z => PyData.eqv z (dPr p)) = decide (p ∈ ps) := by
  induction ps with
  | nil => rfl
  | cons q ps ih =>
    rw [List.map_cons, List.any_cons, ih, eqv_pr]
    by_cases h : p = q
    · subst h
      simp
    · have h2 : q ≠ p := fun z => h z.symm
      simp [h, h2]
end Ds
end F6
section F7
namespace Ds
open PySem PySem.Spec PyProof.Rows L2 He

/-! ### the package's error classes: all of them have the first one's __init__ -/
def errI (K : PySem.W.Frag) : Addr := ma K (ga K "DeedError") "__init__"
structure ErrC (K : PySem.W.Frag) (mg : Str → Option Value) (x : Str) : Prop where
  cl : OexC K (ga K x)
  ini : PySem.W.findIn K (.ref (ga K x)) "__init__" = some (some (.ref (errI K)))
  noV : PySem.W.findIn K (.ref (ga K x)) "value" = some none
  gl : mg x = some (.ref (ga K x))
  xf : XfC K (ga K x)
/-- self.value = value of an exception that is being made -/
def spErrI (K : PySem.W.Frag) : Sp := fun vs H Q _ => ∃ (a C : Addr) (v : V), vs = [.ref a, v] ∧ OexC K C ∧ PySem.W.findIn K (.ref C) "value" = some none ∧ H a = some (exo a C none) ∧
  ∀ dx, H dx = none → dx ≠ a → Q .non (upd (upd H dx (exd dx [("value", v)])) a (exo a C (some dx)))
structure ErrI (P : Program) (w : World) (K : PySem.W.Frag) (mg : Str → Option Value) (base : Heap) : Prop where
  ok : ∃ fd, FnOk P w K mg base CX0 1 (errI K) fd ["self", "value"] (spErrI K) ∧ Binds K fd ["self", "value"] []
  ty : PySem.W.typeIn K (.ref (errI K)) = some (.type "function")
section
variable {X : Cx} {x : Str} {e : Expr} {ta : TA} {p pos : Pos} {k : Nat}
theorem pmk_x (I : ErrI X.prog X.w X.K X.mg X.base) (T : ErrC X.K X.mg x) (hr : Room k X.A) (hg : Gl X x) (ha : PA X [e] ta) (hk : 2 ≤ k := by decide) (hdb : (x == ("__debug__" : Str)) = false := by decide)
    (he : starEach [e] X.env = (false, eval e X.env) :: starEach [] X.env := by rfl) (hpl : (backTo pos (starEach [] X.env)).any (·.1) = false := by rfl) :
    PMk X (.Call (.Name x p) [e] [] pos) (tMkO (ga X.K x) (spErrI X.K) [] ta) := by
  obtain ⟨fd, F, b⟩ := I.ok
  exact pmk_oex T.cl T.ini I.ty F (hr.mono hk) b .nil pass0 hg T.gl ha hdb he hpl
end
section
variable {K : PySem.W.Frag} {mg : Str → Option Value} {σ : L2.St} {H : Hp} {Q : XK} {v : V} {x : Str} {D : Ends}
theorem heap_made {a dx C : Addr} {fs : List (Str × V)} (ha : H a = none) (hd : H dx = none) (hn : dx ≠ a) : upd (del (upd (upd (upd H a (exo a C none)) dx (exd dx fs)) a (exo a C (some dx))) a) dx (.xd fs) = upd H dx (.xd fs) := by
  funext b
  by_cases hb : b = dx
  · subst hb
    rw [upd_same, upd_same]
  · rw [upd_ne hb, upd_ne hb]
    by_cases hc : b = a
    · subst hc
      rw [del_same, ha]
    · rw [del_ne hc, upd_ne hc, upd_ne hb, upd_ne hc]
/-- what is left of C(v), to be raised -/
theorem d_made (T : ErrC K mg x) (h : ∀ d, H d = none → Q (.ref (ga K x)) (some d) (upd H d (.xd [("value", v)]))) :
    [v].length ≤ 1000 ∧ ∀ a, H a = none → spErrI K (.ref a :: ([v] ++ [])) (upd H a (exo a (ga K x) none))
      (fun u H2 => u = .non ∧ ∃ (d : Addr) (fs : List (Str × V)), H2 a = some (exo a (ga K x) (some d)) ∧ H2 d = some (exd d fs) ∧ H d = none ∧ Q (.ref (ga K x)) (some d) (upd (del H2 a) d (.xd fs))) (fun _ _ _ => False) := by
  refine ⟨by show 1 ≤ 1000; decide, fun a ha => ⟨a, ga K x, v, rfl, T.cl, T.noV, upd_same, fun dx hd hn => ⟨rfl, dx, [("value", v)], upd_same, ?_, ?_, ?_⟩⟩⟩
  · rw [upd_ne hn, upd_same]
  · rw [upd_ne hn] at hd
    exact hd
  · rw [upd_ne hn] at hd
    rw [heap_made ha hd hn]
    exact h dx hd
theorem d_mkO {C : Addr} {sp : Sp} {dvs : List V} {ta : TA} (h : ta σ H fun vs H1 => vs.length ≤ 1000 ∧ ∀ a, H1 a = none → sp (.ref a :: (vs ++ dvs)) (upd H1 a (exo a C none))
  (fun v H2 => v = .non ∧ ∃ (d : Addr) (fs : List (Str × V)), H2 a = some (exo a C (some d)) ∧ H2 d = some (exd d fs) ∧ H1 d = none ∧ Q (.ref C) (some d) (upd (del H2 a) d (.xd fs))) (fun _ _ _ => False)) : tMkO C sp dvs ta σ H Q := h
theorem d_callS {sp : Sp} {E : L2.St → XK} {t : TA} {QV : VK} (h : t σ H fun vs H1 => sp vs H1 QV (E σ)) : tCallS sp E t σ H QV := h
end
section
variable {X : Cx} {CX : CXT} {k j : Nat} {x : Str} {ps : List Str} {sp : Sp} {p pos : Pos} {e : Expr} {es : List Expr} {t : TA} {W : WX}
theorem pe_calX (c : Cal X.prog X.w X.K X.mg X.base (L2.CX X.prog X.w) k x ps sp) (hr : Room j X.A) (hg : Gl X x) (tk : Takes X W) (ha : PA X (e :: es) t) (hj : k ≤ j := by decide) (hdb : (x == ("__debug__" : Str)) = false := by decide)
    (he : starEach (e :: es) X.env = (false, eval e X.env) :: starEach es X.env := by rfl) (hpl : (backTo pos (starEach es X.env)).any (·.1) = false := by rfl) :
    PE X (.Call (.Name x p) (e :: es) [] pos) (tCallS sp (WE W) t) := by
  obtain ⟨f, fd, F, hm, kp, b⟩ := c
  exact pe_callS F (hr.mono hj) hg hm kp b (fun σ => passAt tk σ) ha hdb he hpl
/-- the same where the promise is asked for without an error -/
theorem pe_calN (c : Cal X.prog X.w X.K X.mg X.base (L2.CX X.prog X.w) k x ps sp) (hr : Room j X.A) (hg : Gl X x) (ha : PA X (e :: es) t) (hj : k ≤ j := by decide) (hdb : (x == ("__debug__" : Str)) = false := by decide)
    (he : starEach (e :: es) X.env = (false, eval e X.env) :: starEach es X.env := by rfl) (hpl : (backTo pos (starEach es X.env)).any (·.1) = false := by rfl) :
    PE X (.Call (.Name x p) (e :: es) [] pos) (tCall sp [] E0 t) := by
  obtain ⟨f, fd, F, hm, kp, b⟩ := c
  exact pe_call F (hr.mono hj) hg hm kp b .nil passL ha hdb he hpl
end
end Ds
end F7
section F8
namespace Ds
open PySem PySem.Spec PyProof.Rows L2 He

/-! ### what leads to what -/
inductive Leads (ps : List Pr) : Str → Str → Prop where
  | refl (a : Str) : Leads ps a a
  | step {a b c : Str} : (a, b) ∈ ps → Leads ps b c → Leads ps a c
theorem Leads.mono {ps qs : List Pr} (h : ∀ p ∈ ps, p ∈ qs) {a b : Str} (l : Leads ps a b) : Leads qs a b := by
  induction l with
  | refl a => exact .refl a
  | step e _ ih => exact .step (h _ e) ih
theorem Leads.trans {ps : List Pr} {a b c : Str} (l : Leads ps a b) (m : Leads ps b c) : Leads ps a c := by
  induction l with
  | refl a => exact m
  | step e _ ih => exact .step e (ih m)
/-- a set that holds x and is closed holds all that leads to x -/
theorem Leads.closed {ps : List Pr} {F : List Str} {x : Str} (hx : x ∈ F) (hc : ∀ a b, (a, b) ∈ ps → b ∈ F → a ∈ F) {a : Str} (l : Leads ps a x) : a ∈ F := by
  induction l with
  | refl a => exact hx
  | step e _ ih => exact hc _ _ e (ih hx)
theorem nodup_le : ∀ {l m : List Str}, l.Nodup → (∀ x ∈ l, x ∈ m) → l.length ≤ m.length
  | [], _, _, _ => Nat.zero_le _
  | x :: l, m, nd, h => by
    have hx : x ∈ m := h x (by simp)
    obtain ⟨nx, nd'⟩ := List.nodup_cons.mp nd
    have h2 : ∀ y ∈ l, y ∈ m.erase x := fun y hy => by
      have hne : y ≠ x := fun e => nx (e ▸ hy)
      exact (List.mem_erase_of_ne hne).mpr (h y (by simp [hy]))
    have := nodup_le nd' h2
    rw [List.length_erase_of_mem hx] at this
    have hp : 0 < m.length := List.length_pos_of_mem hx
    rw [List.length_cons]
    omega
open Classical in
/-- the things of ns that lead to x, in their sequence -/
noncomputable def leading (ns : List Str) (ps : List Pr) (x : Str) : List Str := ns.filter fun t => decide (Leads ps t x)
open Classical in
theorem leading_mem {ns : List Str} {ps : List Pr} {x t : Str} : t ∈ leading ns ps x ↔ t ∈ ns ∧ Leads ps t x := by
  unfold leading
  rw [List.mem_filter, decide_eq_true_eq]
open Classical in
theorem leading_eq {ns : List Str} {ps : List Pr} {x : Str} {F : List Str} (h : ∀ t ∈ ns, t ∈ F ↔ Leads ps t x) : ns.filter (fun t => decide (t ∈ F)) = leading ns ps x := by
  unfold leading
  refine List.filter_congr fun t ht => ?_
  by_cases c : t ∈ F
  · rw [decide_eq_true c, decide_eq_true ((h t ht).mp c)]
  · rw [decide_eq_false c, decide_eq_false fun z => c ((h t ht).mpr z)]

/-! ### the first that can't be had -/
def FirstBad {α : Type} (B : List α → α → Prop) (xs : List α) (x : α) : Prop := ∃ i : Nat, xs[i]? = some x ∧ B (xs.take i) x ∧ ∀ (j : Nat) (y : α), j < i → xs[j]? = some y → ¬ B (xs.take j) y
def NoBad {α : Type} (B : List α → α → Prop) (xs : List α) : Prop := ∀ (j : Nat) (y : α), xs[j]? = some y → ¬ B (xs.take j) y
theorem FirstBad.uniq {α : Type} {B : List α → α → Prop} {xs : List α} {x y : α} (h : FirstBad B xs x) (h' : FirstBad B xs y) : x = y := by
  obtain ⟨i, e1, b1, n1⟩ := h
  obtain ⟨j, e2, b2, n2⟩ := h'
  by_cases c : i < j
  · exact absurd b1 (n2 i x c e1)
  · by_cases d : j < i
    · exact absurd b2 (n1 j y d e2)
    · have e : i = j := by omega
      subst e
      exact Option.some.inj (e1.symm.trans e2)
theorem FirstBad.not {α : Type} {B : List α → α → Prop} {xs : List α} {x : α} (h : FirstBad B xs x) : ¬ NoBad B xs := fun n => by
  obtain ⟨i, e1, b1, _⟩ := h
  exact n i x e1 b1
def NameBad (pre : List Str) (x : Str) : Prop := ¬ IsLet x ∨ x ∈ pre
def Two (ns : List Str) (p : Pr) : Prop := p.1 ∈ ns ∧ p.2 ∈ ns ∧ p.1 ≠ p.2
def ArrowBad (ns : List Str) (pre : List Pr) (p : Pr) : Prop := ¬ Two ns p ∨ p ∈ pre ∨ Leads pre p.2 p.1
def PairBad (ns : List Str) (pre : List Pr) (p : Pr) : Prop := ¬ Two ns p ∨ p ∈ pre ∨ (p.2, p.1) ∈ pre

/-! ### a dict of texts -/
def dOf (F : List Str) : List (Key × V) := F.map fun s => (Sum.inr s, V.bl true)
theorem dOf_val (F : List Str) (s : Str) : (valV (dOf F) (Sum.inr s : Key)).isSome = decide (s ∈ F) := by
  unfold valV dOf
  induction F with
  | nil => rfl
  | cons x F ih =>
    rw [List.map_cons, List.find?_cons]
    by_cases h : x = s
    · subst h
      simp
    · have h2 : ¬ (Sum.inr x : Key) = Sum.inr s := fun e => h (Sum.inr.inj e)
      have h3 : s ≠ x := fun e => h e.symm
      simp only [h2, decide_false]
      rw [ih]
      simp [h3]
theorem dOf_put {F : List Str} {s : Str} (h : s ∉ F) : putK (dOf F) (Sum.inr s : Key) (.bl true) = dOf (F ++ [s]) := by
  have e : valV (dOf F) (Sum.inr s : Key) = none := by
    have := dOf_val F s
    rw [decide_eq_false h] at this
    cases q : valV (dOf F) (Sum.inr s : Key) with
    | none => rfl
    | some v => rw [q] at this; cases this
  rw [putK_new _ e]
  simp [dOf]
theorem dOf_len (F : List Str) : (dOf F).length = F.length := by simp [dOf]
theorem letter_cps {x : Str} (h : x.length = 1) : ∃ c, x = letter c := by
  obtain ⟨a⟩ := x
  have h' : a.size = 1 := h
  obtain ⟨l⟩ := a
  match l, h' with
  | [c], _ => exact ⟨c, rfl⟩
theorem lt1 (a b : Nat) : ([a] < [b]) ↔ a < b := by
  rw [List.cons_lt_cons_iff]
  constructor
  · rintro (h | ⟨_, h⟩)
    · exact h
    · exact absurd h (List.lt_irrefl [])
  · exact .inl
theorem isLet_iff (x : Str) : IsLet x ↔ x.length = 1 ∧ ¬ (x.cps.toList < ("a" : Str).cps.toList) ∧ ¬ (("z" : Str).cps.toList < x.cps.toList) := by
  constructor
  · rintro ⟨c, h1, h2, rfl⟩
    refine ⟨rfl, ?_, ?_⟩
    · show ¬ ([c] < [97])
      rw [lt1]
      omega
    · show ¬ ([122] < [c])
      rw [lt1]
      omega
  · rintro ⟨h1, h2, h3⟩
    obtain ⟨c, rfl⟩ := letter_cps h1
    have h2' : ¬ ([c] < [97]) := h2
    have h3' : ¬ ([122] < [c]) := h3
    rw [lt1] at h2' h3'
    exact ⟨c, by omega, by omega, rfl⟩

/-! ### walks over enumerate -/
theorem for_enum {K : PySem.W.Frag} {a : Addr} {xs : List V} {g : TG} {tb : L2.TS} {D : Ends} {σ : L2.St} {H : Hp} (Pv : Nat → L2.St → Hp → Prop) (h0 : Pv 0 σ H) (hl : ∀ i σ H, i ≤ xs.length → Pv i σ H → SqL K H a xs)
    (hs : ∀ i x T σ H, xs[i]? = some x → Pv i σ H → H T = none → g (.ref T) σ (upd H T (.tup [.int (i : Nat), x])) fun σ2 H2 => tb { D with nx := Pv (i + 1), ct := Pv (i + 1), bk := D.nx } σ2 H2) (hd : ∀ σ H, Pv xs.length σ H → D.nx σ H) :
    ∃ W : Nat → Nat → L2.St → Hp → Prop, (∃ m, W 0 m σ H) ∧ ∀ i m σ H, W i m σ H → (((Ite K a).stop i H ∧ D.nx σ H) ∨
      ((Ite K a).go i H ∧ ∃ N : L2.St → Hp → Prop, (∀ σ' H', N σ' H' → ∃ m', m' < m ∧ W (i + 1) m' σ' H') ∧ ∀ x H', (Ite K a).yld i H x H' → g x σ H' fun σ2 H2 => tb { D with nx := N, ct := N, bk := D.nx } σ2 H2)) := by
  refine ⟨fun i m σ H => m = xs.length - i ∧ i ≤ xs.length ∧ Pv i σ H, ⟨_, rfl, Nat.zero_le _, h0⟩, fun i m σ H h => ?_⟩
  obtain ⟨em, hi, p⟩ := h
  have q := hl i σ H hi p
  by_cases hlt : i < xs.length
  · refine .inr ⟨⟨xs, xs[i], q, List.getElem?_eq_getElem hlt⟩, Pv (i + 1), fun σ' H' p' => ⟨xs.length - (i + 1), by omega, rfl, hlt, p'⟩, fun y H' hy => ?_⟩
    obtain ⟨T, x, rfl, hT, rfl, hx⟩ := hy
    exact hs i x T σ H (hx xs q) p hT
  · have e : i = xs.length := by omega
    rw [e] at p
    exact .inl ⟨⟨xs, q, by omega⟩, hd σ H p⟩
theorem lc_enum {K : PySem.W.Frag} {a : Addr} {xs : List V} {g : TG} {tt : TT} {te : TE} {vs : List Nat} {σ : L2.St} {H1 : Hp} {D : Addr} {Qd : Hp → Prop} (Pv : Nat → Hp → Prop) (h0 : Pv 0 (upd H1 D (.lst []))) (hl : ∀ i H, i ≤ xs.length → Pv i H → SqL K H a xs)
    (hs : ∀ i x T H, xs[i]? = some x → Pv i H → H T = none → g (.ref T) (wipe σ vs) (upd H T (.tup [.int (i : Nat), x])) fun σ2 H2 => wipe σ2 vs = wipe σ vs ∧ tt σ2 H2 fun b H3 =>
      if b = true then te σ2 H3 fun y H4 => ∃ acc, H4 D = some (.lst acc) ∧ acc.length < sizeLine ∧ Pv (i + 1) (upd H4 D (.lst (acc ++ [y]))) else Pv (i + 1) H3) (hd : ∀ H, Pv xs.length H → Qd H) :
    ∃ W : Nat → Nat → Hp → Prop, (∃ m, W 0 m (upd H1 D (.lst []))) ∧ ∀ i m H, W i m H →
      (((Ite K a).stop i H ∧ Qd H) ∨ ((Ite K a).go i H ∧ ∃ Nx : Hp → Prop, (∀ H', Nx H' → ∃ m', m' < m ∧ W (i + 1) m' H') ∧ ∀ x H', (Ite K a).yld i H x H' → g x (wipe σ vs) H' fun σ2 H2 => wipe σ2 vs = wipe σ vs ∧ tt σ2 H2 fun b H3 =>
        if b = true then te σ2 H3 fun y H4 => ∃ acc, H4 D = some (.lst acc) ∧ acc.length < sizeLine ∧ Nx (upd H4 D (.lst (acc ++ [y]))) else Nx H3)) := by
  refine ⟨fun i m H => m = xs.length - i ∧ i ≤ xs.length ∧ Pv i H, ⟨_, rfl, Nat.zero_le _, h0⟩, fun i m H h => ?_⟩
  obtain ⟨em, hi, p⟩ := h
  have q := hl i H hi p
  by_cases hlt : i < xs.length
  · refine .inr ⟨⟨xs, xs[i], q, List.getElem?_eq_getElem hlt⟩, Pv (i + 1), fun H' p' => ⟨xs.length - (i + 1), by omega, rfl, hlt, p'⟩, fun y H' hy => ?_⟩
    obtain ⟨T, x, rfl, hT, rfl, hx⟩ := hy
    exact hs i x T H (hx xs q) p hT
  · have e : i = xs.length := by omega
    rw [e] at p
    exact .inl ⟨⟨xs, q, by omega⟩, hd H p⟩
theorem cut_take (xs : List V) (i : Nat) : cutV xs none (some (i : Int)) = xs.take i := by
  unfold cutV
  have e1 : HT.sIx xs.length 0 none = 0 := rfl
  have e2 : HT.sIx xs.length xs.length (some (i : Int)) = min i xs.length := by
    show (if (i : Int) < 0 then ((i : Int) + (xs.length : Int)).toNat else min (i : Int).toNat xs.length) = _
    rw [if_neg (by omega)]
    rfl
  rw [e1, e2, List.drop_zero, Nat.sub_zero, ← List.take_eq_take_min]
theorem d_ien1 {K : PySem.W.Frag} {H : Hp} {p : Addr} {xs : List V} {R : Addr → Prop} (hS : SqL K H p xs) (h : R p) : ∃ a ys, [V.ref p] = [V.ref a] ∧ SqL K H a ys ∧ R a := ⟨p, xs, rfl, hS, h⟩
end Ds
end F8
section F9
namespace Ds
open PySem PySem.Spec PyProof.Rows L2 He

/-! ### a method of an own class, to be called by place or by name -/
structure CalM (P : Program) (w : World) (K : PySem.W.Frag) (mg : Str → Option Value) (base : Heap) (CX : CXT) (k : Nat) (C : Addr) (m : Str) (ps : List Str) (sp : Sp) : Prop where
  cl : Cls K C
  ex : ∃ f fd, FnOk P w K mg base CX k f fd ps sp ∧ Meth K C m f ∧ Binds K fd ps [] ∧ KBn K fd ps 1 ps.tail (fun us ws => us ++ ws) (fun vs zs => vs ++ zs)
def tDM (C : Addr) (m : Str) (sp : Sp) (E : L2.St → XK) (ta : TE) (t : TA) : TE := fun σ H Q => ta σ H fun x H1 => ∃ a dx fs, x = .ref a ∧ H1 a = some (.ins C dx fs) ∧ fs.lookup m = none ∧
  t σ H1 fun vs H2 => sp (x :: vs) H2 Q (E σ)
section
variable {X : Cx} {CX : CXT} {k j : Nat} {C : Addr} {ps : List Str} {sp : Sp} {E : L2.St → XK} {W : WX} {m : Str} {p pos apos : Pos} {e o : Expr} {es : List Expr} {kws : List Keyword} {ta : TE} {t tk : TA} {pl : Sem Bool}
theorem pe_methG (c : CalM X.prog X.w X.K X.mg X.base CX k C m ps sp) (hr : Room j X.A) (hx : ∀ σ, PassesAt CX X σ (E σ)) (he : PE X o ta) (ha : PA X (e :: es) t) (hj : k ≤ j)
    (hst : starEach (e :: es) X.env = (false, eval e X.env) :: starEach es X.env) (hpl : (backTo pos (starEach es X.env)).any (·.1) = false)
    (ht : eval (.Call (.Attribute o m apos) (e :: es) [] pos) X.env = (do
      let ov ← eval o X.env
      standAt apos.atName
      let (f, first) ← holding [ov] (getMethod ov m pl)
      callWith pos f first (backTo pos (starEach (e :: es) X.env)) (backToKw pos (keywordEach [] X.env)))) :
    PE X (.Call (.Attribute o m apos) (e :: es) [] pos) (tDM C m sp E ta t) := by
  obtain ⟨f, fd, F, hm, b, _⟩ := c.ex
  refine ⟨fun pins s σ H Q I h => ?_⟩
  refine PySem.W.methodCall_KW (pl := pl) (thn (he.run pins s σ H _ I h) fun u s1 ⟨x, H1, I1, rx, a, dx, fs, ex, ea, l, q⟩ => ?_) ht
  subst ex
  obtain rfl : u = Value.ref a := rx
  refine getmeth_ok I1 ea c.cl hm l ?_
  refine PySem.W.callWith_K (first := [.ref a]) (h₀ := X.base) I.ok.mod.kin hm.kp (thn (ha.run pos pins s1 σ H1 _ I1 q) fun us s2 ⟨vs, H2, I2, r, q2⟩ => ⟨I2.kIn, ?_⟩) hst hpl
  exact run_fnS (us := .ref a :: us) (vs := .ref a :: vs) F (hr.mono hj) b (hx σ) I2 (.cons rfl r) q2
theorem pe_methKG (c : CalM X.prog X.w X.K X.mg X.base CX k C m ps sp) (hr : Room j X.A) (hx : ∀ σ, PassesAt CX X σ (E σ)) (he : PE X o ta) (hkw : PK X kws tk) (hj : k ≤ j)
    (hall : (backToKw pos (keywordEach kws X.env)).all (·.1.isSome) = true) (hks : (backToKw pos (keywordEach kws X.env)).filterMap (·.1) = ps.tail)
    (hpl : ((backTo pos (starEach [] X.env)).any (·.1) || (backToKw pos (keywordEach kws X.env)).any (·.1.isNone)) = false)
    (ht : eval (.Call (.Attribute o m apos) [] kws pos) X.env = (do
      let ov ← eval o X.env
      standAt apos.atName
      let (f, first) ← holding [ov] (getMethod ov m pl)
      callWith pos f first (backTo pos (starEach [] X.env)) (backToKw pos (keywordEach kws X.env)))) :
    PE X (.Call (.Attribute o m apos) [] kws pos) (tDM C m sp E ta tk) := by
  obtain ⟨f, fd, F, hm, _, b⟩ := c.ex
  refine ⟨fun pins s σ H Q I h => ?_⟩
  refine PySem.W.methodCall_KW (pl := pl) (thn (he.run pins s σ H _ I h) fun u s1 ⟨x, H1, I1, rx, a, dx, fs, ex, ea, l, q⟩ => ?_) ht
  subst ex
  obtain rfl : u = Value.ref a := rx
  refine getmeth_ok I1 ea c.cl hm l ?_
  refine PySem.W.callWith_KW0 (first := [.ref a]) (h₀ := X.base) I.ok.mod.kin hm.kp hall (thn (hkw.run pos pins s1 σ H1 _ I1 q) fun ws s2 ⟨zs, H2, I2, rz, q2⟩ => ⟨I2.kIn, ?_⟩) hpl
  rw [hks, List.append_nil]
  have r2 : Vals ([V.ref a] ++ zs) ([Value.ref a] ++ ws) := b.rel (.cons rfl .nil) rz
  have hl := F.len _ _ _ _ q2
  have l2 : ws.length = ps.tail.length := by
    rw [← rz.length, List.length_tail, ← hl]
    rfl
  refine wpAny_call (codeAny_mono (F.run X.A X.stack s2 H2 ⟨[.ref a], ps.tail.zip ws⟩ ([.ref a] ++ ws) ([.ref a] ++ zs) Q (E σ) (hr.mono hj) I2.env0 (b.to s2 [.ref a] ws I2.kIn rfl l2) r2 q2) fun r s' hq => ?_)
  cases r with
  | error e => exact hx σ pins H2 s2 e s' I2 hq
  | ok fl =>
    cases fl with
    | ret u => exact I2.after hq
    | next => exact False.elim hq
    | brk => exact False.elim hq
    | cont => exact False.elim hq
/-- within a def that takes errors -/
theorem pe_methX (c : CalM X.prog X.w X.K X.mg X.base (L2.CX X.prog X.w) k C m ps sp) (hr : Room j X.A) (tk : Takes X W) (he : PE X o ta) (ha : PA X (e :: es) t) (hj : k ≤ j := by decide)
    (hst : starEach (e :: es) X.env = (false, eval e X.env) :: starEach es X.env := by rfl) (hpl : (backTo pos (starEach es X.env)).any (·.1) = false := by rfl)
    (ht : eval (.Call (.Attribute o m apos) (e :: es) [] pos) X.env = (do
      let ov ← eval o X.env
      standAt apos.atName
      let (f, first) ← holding [ov] (getMethod ov m pl)
      callWith pos f first (backTo pos (starEach (e :: es) X.env)) (backToKw pos (keywordEach [] X.env))) := by rfl) :
    PE X (.Call (.Attribute o m apos) (e :: es) [] pos) (tDM C m sp (WE W) ta t) := pe_methG c hr (fun σ => passAt tk σ) he ha hj hst hpl ht
theorem pe_methKX (c : CalM X.prog X.w X.K X.mg X.base (L2.CX X.prog X.w) k C m ps sp) (hr : Room j X.A) (tk : Takes X W) (he : PE X o ta) (hkw : PK X kws t) (hj : k ≤ j := by decide)
    (hall : (backToKw pos (keywordEach kws X.env)).all (·.1.isSome) = true := by rfl) (hks : (backToKw pos (keywordEach kws X.env)).filterMap (·.1) = ps.tail := by rfl)
    (hpl : ((backTo pos (starEach [] X.env)).any (·.1) || (backToKw pos (keywordEach kws X.env)).any (·.1.isNone)) = false := by rfl)
    (ht : eval (.Call (.Attribute o m apos) [] kws pos) X.env = (do
      let ov ← eval o X.env
      standAt apos.atName
      let (f, first) ← holding [ov] (getMethod ov m pl)
      callWith pos f first (backTo pos (starEach [] X.env)) (backToKw pos (keywordEach kws X.env))) := by rfl) :
    PE X (.Call (.Attribute o m apos) [] kws pos) (tDM C m sp (WE W) ta t) := pe_methKG c hr (fun σ => passAt tk σ) he hkw hj hall hks hpl ht
/-- the same where the promise is asked for without an error -/
theorem pe_methN (c : CalM X.prog X.w X.K X.mg X.base (L2.CX X.prog X.w) k C m ps sp) (hr : Room j X.A) (he : PE X o ta) (ha : PA X (e :: es) t) (hj : k ≤ j := by decide)
    (hst : starEach (e :: es) X.env = (false, eval e X.env) :: starEach es X.env := by rfl) (hpl : (backTo pos (starEach es X.env)).any (·.1) = false := by rfl)
    (ht : eval (.Call (.Attribute o m apos) (e :: es) [] pos) X.env = (do
      let ov ← eval o X.env
      standAt apos.atName
      let (f, first) ← holding [ov] (getMethod ov m pl)
      callWith pos f first (backTo pos (starEach (e :: es) X.env)) (backToKw pos (keywordEach [] X.env))) := by rfl) :
    PE X (.Call (.Attribute o m apos) (e :: es) [] pos) (tDM C m sp (fun _ => E0) ta t) := pe_methG c hr (fun σ pins H s e s' I h => passL pins σ H s e s' I h) he ha hj hst hpl ht
theorem pe_methKN (c : CalM X.prog X.w X.K X.mg X.base (L2.CX X.prog X.w) k C m ps sp) (hr : Room j X.A) (he : PE X o ta) (hkw : PK X kws t) (hj : k ≤ j := by decide)
    (hall : (backToKw pos (keywordEach kws X.env)).all (·.1.isSome) = true := by rfl) (hks : (backToKw pos (keywordEach kws X.env)).filterMap (·.1) = ps.tail := by rfl)
    (hpl : ((backTo pos (starEach [] X.env)).any (·.1) || (backToKw pos (keywordEach kws X.env)).any (·.1.isNone)) = false := by rfl)
    (ht : eval (.Call (.Attribute o m apos) [] kws pos) X.env = (do
      let ov ← eval o X.env
      standAt apos.atName
      let (f, first) ← holding [ov] (getMethod ov m pl)
      callWith pos f first (backTo pos (starEach [] X.env)) (backToKw pos (keywordEach kws X.env))) := by rfl) :
    PE X (.Call (.Attribute o m apos) [] kws pos) (tDM C m sp (fun _ => E0) ta t) := pe_methKG c hr (fun σ pins H s e s' I h => passL pins σ H s e s' I h) he hkw hj hall hks hpl ht
end

/-! ### a new instance of an own class -/
structure CalC (P : Program) (w : World) (K : PySem.W.Frag) (mg : Str → Option Value) (base : Heap) (CX : CXT) (k : Nat) (x : Str) (C : Addr) (ps : List Str) (sp : Sp) : Prop where
  gl : mg x = some (.ref C)
  ex : ∃ f fd, FnOk P w K mg base CX k f fd ps sp ∧ Mk K C f ∧ Binds K fd ps []
section
variable {X : Cx} {CX : CXT} {k j : Nat} {C : Addr} {ps : List Str} {sp : Sp} {x : Str} {p pos : Pos} {e : Expr} {es : List Expr} {t : TA}
theorem pe_mkN (c : CalC X.prog X.w X.K X.mg X.base (L2.CX X.prog X.w) k x C ps sp) (hr : Room j X.A) (hg : Gl X x) (ha : PA X (e :: es) t) (hj : k + 1 ≤ j := by decide) (hdb : (x == ("__debug__" : Str)) = false := by decide)
    (he : starEach (e :: es) X.env = (false, eval e X.env) :: starEach es X.env := by rfl) (hpl : (backTo pos (starEach es X.env)).any (·.1) = false := by rfl) :
    PE X (.Call (.Name x p) (e :: es) [] pos) (tMake C sp [] E0 t) := by
  obtain ⟨f, fd, F, M, b⟩ := c.ex
  exact pe_make M F (hr.mono hj) hg c.gl b .nil passL ha hdb he hpl
end
section
variable {σ : L2.St} {H : Hp} {Q : VK} {C : Addr} {m : Str} {sp : Sp} {E : L2.St → XK} {ta : TE} {t : TA}
theorem d_dm (h : ta σ H fun x H1 => ∃ a dx fs, x = .ref a ∧ H1 a = some (.ins C dx fs) ∧ fs.lookup m = none ∧ t σ H1 fun vs H2 => sp (x :: vs) H2 Q (E σ)) : tDM C m sp E ta t σ H Q := h
theorem d_make {dvs : List V} {E : XK} (h : t σ H fun vs H1 => ∀ x dx, H1 x = none → H1 dx = none → dx ≠ x → sp (.ref x :: (vs ++ dvs)) (upd (upd H1 dx (.own x)) x (.ins C dx [])) (fun v H2 => v = .non ∧ Q (.ref x) H2) E) : tMake C sp dvs E t σ H Q := h
end
end Ds
end F9
section F10
namespace Ds
open PySem PySem.Spec PyProof.Rows L2 He

/-! ### a def that shows data: nothing is being shown around its call -/
structure FnG (P : Program) (w : World) (K : PySem.W.Frag) (mg : Str → Option Value) (base : Heap) (CX : CXT) (k : Nat) (f : Addr) (fd : FuncData) (ps : List Str) (sp : Sp) : Prop where
  many : ∀ vs H Q E, sp vs H Q E → vs.length = ps.length
  does : ∀ (A : Around) (outer : List Env) (s : Shared) (H : Hp) (args : Args) (us : List Value) (vs : List V) (Q : VK) (E : XK), A.guards = some [] → Room k A → Env0 P w K mg base A outer s H → BindsTo s fd args (ps.zip us) → Vals vs us → sp vs H Q E →
    codeAny (model P w) A (.call (.ref f) args) (CR CX outer P w H s Q E) s
theorem FnG.mono {P : Program} {w : World} {K : PySem.W.Frag} {mg : Str → Option Value} {base : Heap} {CX : CXT} {j k : Nat} {f : Addr} {fd : FuncData} {ps : List Str} {sp : Sp} (F : FnG P w K mg base CX j f fd ps sp) (h : j ≤ k) : FnG P w K mg base CX k f fd ps sp :=
  ⟨F.many, fun A o s H a us vs Q E g r => F.does A o s H a us vs Q E g (r.mono h)⟩
theorem FnOk.guarded {P : Program} {w : World} {K : PySem.W.Frag} {mg : Str → Option Value} {base : Heap} {CX : CXT} {k : Nat} {f : Addr} {fd : FuncData} {ps : List Str} {sp : Sp} (F : FnOk P w K mg base CX k f fd ps sp) : FnG P w K mg base CX k f fd ps sp :=
  ⟨F.len, fun A o s H a us vs Q E _ r => F.run A o s H a us vs Q E r⟩
/-- what a run of the body comes to -/
theorem ended {CX : CXT} {P : Program} {w : World} {K : PySem.W.Frag} {mg : Str → Option Value} {base : Heap} {N : List Str} {qual : Str} {sc : Scope} {f : Addr} {cd : Value} {A : Around} {outer : List Env} {s s' : Shared} {H : Hp} {Q : VK} {E : XK} {fl : Flow}
    (h : SP (cxOf CX P w K mg base N qual sc f cd A outer s H E) [] { nx := fun _ H' => Q .non H', rt := Q } fl s') :
    match fl with | .ret u => CE outer P w H s Q u s' | .next => CE outer P w H s Q Value.none s' | .brk => False | .cont => False := by
  match fl, h with
  | .ret u, ⟨v, σ', H', J, rv, q⟩ => exact ⟨v, H', J.os, J.bare, J.base, J.hok, rv, q⟩
  | .next, ⟨σ', H', J, q⟩ => exact ⟨V.non, H', J.os, J.bare, J.base, J.hok, rfl, q⟩
  | .brk, ⟨_, _, _, q⟩ => exact q.elim
  | .cont, ⟨_, _, _, q⟩ => exact q.elim
section
variable {P : Program} {w : World} {K : PySem.W.Frag} {mg : Str → Option Value} {base : Heap} {x qual : Str} {prm : Arguments} {body : List Stmt} {sc : Scope} {f : Addr} {fd : FuncData}
theorem okG {CX : CXT} {N ps : List Str} {k : Nat} {sp : Sp} (F : FunD K x qual prm body sc [] [] f fd) (S : FnScope N ps sc) (len : ∀ vs H Q E, sp vs H Q E → vs.length = ps.length)
    (hbody : ∀ (cdv : Value) (A : Around) (outer : List Env) (s : Shared) (H : Hp) (vs : List V) (Q : VK) (E : XK), (A.deeper (envOfC qual sc s.heap.objs.size f cdv)).guards = some [] → Room k (A.deeper (envOfC qual sc s.heap.objs.size f cdv)) → sp vs H Q E →
      ∃ t, PSs (cxOf CX P w K mg base N qual sc f cdv A outer s H E) body t ∧ t { nx := fun _ H' => Q .non H', rt := Q } (start N vs) H) : FnG P w K mg base CX (k + 1) f fd ps sp := by
  obtain ⟨oc, od, dV, kV, doc, pm, an, cdv, ct, osl, e, lk, hcd, _⟩ := F.ex
  subst e
  refine ⟨len, ?_⟩
  intro A outer s H args us vs Q E hg hr e0 hb r hsp
  have inK : K.In s.heap := e0.mod.kin.keeps (fun b o z => (e0.bs b o z).1)
  have nolim : s.heap.NoLimit := e0.mod.nolimit.keeps (fun b o z => (e0.bs b o z).1)
  refine codeAny_call_function hr.depth (inK _ _ lk) rfl S.co S.gen rfl (PySem.W.codeRec_of inK hcd) (hb _ _ _ _ (wpAny_newFunctionEnv_cells S.kind (fun y hy => ?_) (fun env he s1 z => ?_)))
  · rcases S.par y.1 (List.of_mem_zip (a := y.1) (b := y.2) hy).1 with q | q
    · exact Or.inl q
    · exact Or.inr ⟨q, PySem.W.cellsFrom_some _ _ _ (Or.inl q)⟩
  · cases he
    obtain ⟨t, ht, hq⟩ := hbody cdv A outer s H vs Q E hg (hr.deeper _) hsp
    have I := inv_start (CX := CX) (E := E) S hr.hd e0 (len _ _ _ _ hsp) r z
    refine ⟨nolim.keeps z.toInCall.keep, codeAny_func (wpAny_mono (ht.run [] s1 (start N vs) H _ I hq) (fun fl s' hs => ?_) (fun _ _ q => q))⟩
    have q := ended hs
    cases fl with
    | ret u => exact q
    | next => exact q
    | brk => exact (show False from q).elim
    | cont => exact (show False from q).elim
end
/-- such a def, to be called -/
def CalG (P : Program) (w : World) (K : PySem.W.Frag) (mg : Str → Option Value) (base : Heap) (CX : CXT) (k : Nat) (x : Str) (ps : List Str) (sp : Sp) : Prop :=
  ∃ f fd, FnG P w K mg base CX k f fd ps sp ∧ mg x = some (.ref f) ∧ PySem.W.keepIn K (.ref f) = true ∧ Binds K fd ps []
section
variable {X : Cx} {CX : CXT} {k j : Nat} {x : Str} {ps : List Str} {sp : Sp} {p pos : Pos} {e : Expr} {es : List Expr} {t : TA}
theorem pe_calG (c : CalG X.prog X.w X.K X.mg X.base CX0 k x ps sp) (hr : Room j X.A) (hgd : X.A.guards = some []) (hg : Gl X x) (ha : PA X (e :: es) t) (hj : k ≤ j := by decide) (hdb : (x == ("__debug__" : Str)) = false := by decide)
    (he : starEach (e :: es) X.env = (false, eval e X.env) :: starEach es X.env := by rfl) (hpl : (backTo pos (starEach es X.env)).any (·.1) = false := by rfl) :
    PE X (.Call (.Name x p) (e :: es) [] pos) (tCall sp [] E0 t) := by
  obtain ⟨f, fd, F, hm, kp, b⟩ := c
  refine ⟨fun pins s σ H Q I h => wpAny_Call_Name_kw (ld_glob I hg hm ?_ hdb)⟩
  refine PySem.W.callWith_K (h₀ := X.base) I.ok.mod.kin kp (thn (ha.run pos pins s σ H _ I h) ?_) he hpl
  intro us s1 q0
  obtain ⟨vs, H1, I1, r, q⟩ := q0
  have q' : sp vs H1 Q E0 := by rw [List.append_nil] at q; exact q
  have hl : us.length = ps.length := r.length.symm.trans (F.many _ _ _ _ q')
  have b1 := b s1 us I1.kIn (by rw [List.append_nil]; exact hl)
  rw [List.append_nil] at b1
  refine ⟨I1.kIn, wpAny_call (codeAny_mono (F.does X.A X.stack s1 H1 ⟨us, []⟩ us vs Q E0 hgd (hr.mono hj) I1.env0 b1 r q') (fun res s' hq => ?_))⟩
  match res, hq with
  | .error z, hq => exact pass0 pins σ H1 s1 z s' I1 hq
  | .ok (.ret u), hq => exact I1.after hq
end

/-! ### repr of data -/
def rReprD (K : PySem.W.Frag) : List V → Hp → VK → Prop := fun xs H Q => ∃ (a : Addr) (d : PyData), xs = [.ref a] ∧ Dp K H (.ref a) d ∧ d.showable = true ∧ d.hasDict = false ∧ d.depth ≤ 20 ∧ d.shown.length ≤ sizeLine ∧ Q (.str d.shown) H
theorem call_reprD {X : Cx} (hg : X.A.guards = some []) (hu : X.A.units + 64 < cLine) : CallR X (.builtin "repr") (rReprD X.K) := by
  intro pins s σ H xs us Q I r h
  obtain ⟨a, d, rfl, hd, h1, h2, h3, h4, q⟩ := h
  obtain ⟨u, rfl, ru⟩ := vals1 r
  obtain ⟨as, rd⟩ := Dp.reads I d (.ref a) u hd ru
  cases (show u = Value.ref a from ru)
  exact repr_of_reads' rd h1 (PyData.noDict_hsm h2) hg (by omega) (fun b o z => z) (fun h' u tk hk => ⟨.str d.shown, H, I.kept hk, ⟨_, rfl⟩, q⟩) h4
theorem d_reprD {K : PySem.W.Frag} {H : Hp} {Q : VK} {a : Addr} {d : PyData} (hd : Dp K H (.ref a) d) (h1 : d.showable = true) (h2 : d.hasDict = false) (h3 : d.depth ≤ 20) (h4 : d.shown.length ≤ 100000) (q : Q (.str d.shown) H) : rReprD K [.ref a] H Q :=
  ⟨a, d, rfl, hd, h1, h2, h3, Nat.le_trans h4 (by decide), q⟩
end Ds
end F10
section F11
namespace Ds
open PySem PySem.Spec PyProof.Rows L2 He

theorem same_new {H H' : Hp} {a : Addr} {o : HO} (s : Same H H') (n : H' a = none) : Same H (upd H' a o) := fun b u e => by rw [upd_ne (ne_of_none (s b u e) n)]; exact s b u e
/-! ### isinstance of the caught error that has a dict -/
section
variable {X : Cx} {a C : Addr} {oe : Obj} {cls : Value} {d : Option Addr} {pn : List (Addr × Obj)}
theorem inst_at {pins : List (Addr × Obj)} {σ : L2.St} {H : Hp} {s : Shared} {dd : Addr} {fs : List (Str × V)} (I : Inv (X.suite a ((a, oe) :: pn)) pins σ H s) (hz : Zc (.ref C) (some dd) oe) (hf : ∃ vs, oe.data = .fields vs) (e : H dd = some (.xd fs)) :
    ∃ od : Obj, PySem.W.InstAt s.heap a oe C (some od) := by
  obtain ⟨ha, _⟩ := I.pin (a, oe) (List.mem_append_left _ List.mem_cons_self)
  obtain ⟨vs, hv⟩ := hf
  have hx : ObjOk X.prog X.w H s.heap dd (.xd fs) := I.hok dd _ e
  obtain ⟨m, hns, _⟩ := hx
  obtain ⟨od, ho, _⟩ := lookIn_ns hns
  refine ⟨od, ha, hz.1, ?_, ?_⟩
  · unfold PySem.W.notCls
    rw [hv] <;> rfl
  · rw [hz.2]
    exact ho
/-- isinstance(e, T): e the caught error at a, of the class C, T a class -/
def rIsX (K : PySem.W.Frag) (a : Addr) (cls : Value) (d : Option Addr) : List V → Hp → VK → Prop := fun xs H Q => ∃ (C dd : Addr) (fs : List (Str × V)) (c : V) (u : Value) (b : Bool), xs = [.ref a, c] ∧ cls = .ref C ∧ d = some dd ∧ H dd = some (.xd fs) ∧
  ExcC K C ∧ ClsV c u ∧ PySem.W.kitOne K (.ref C) u = some b ∧ Q (.bl b) H
/-- isinstance(e, (T, ..)) -/
def rIsXT (K : PySem.W.Frag) (a : Addr) (cls : Value) (d : Option Addr) : List V → Hp → VK → Prop := fun xs H Q => ∃ (C dd tp : Addr) (fs : List (Str × V)) (cs : List V) (us : List Value) (b : Bool), xs = [.ref a, .ref tp] ∧ cls = .ref C ∧ d = some dd ∧ H dd = some (.xd fs) ∧
  H tp = some (.tup cs) ∧ ExcC K C ∧ Paired ClsV cs us ∧ PySem.W.kitAny K (.ref C) us = some b ∧ Q (.bl b) H
theorem kit_x {od : Obj} (T : ExcC X.K C) : PySem.W.KitX X.K (.ref a) (.ref C) (fun h => PySem.W.InstAt h a oe C (some od)) := by
  have hc : (PySem.W.clsIn X.K C).isSome = true := by
    obtain ⟨cd, h, _⟩ := PySem.W.any_some T.hd
    rw [h]
    rfl
  exact PySem.W.kitx_exc hc T.hg T.hk T.hs T.ha T.hn T.ht T.hm
theorem call_isX (hz : Zc cls d oe) (hf : ∃ vs, oe.data = .fields vs) : CallR (X.suite a ((a, oe) :: pn)) (.builtin "isinstance") (rIsX X.K a cls d) := by
  intro pins s σ H xs us Q I r h
  obtain ⟨C, dd, fs, c, u, b, rfl, rfl, rfl, e, T, k, eb, q⟩ := h
  obtain ⟨u1, u2, rfl, r1, r2⟩ := vals2 r
  cases (show u1 = Value.ref a from r1)
  have e2 := k.eq r2
  subst e2
  obtain ⟨od, J⟩ := inst_at I hz hf e
  exact PySem.W.kia_one (kit_x T) I.kIn J eb (fun z => nomatch z) fun tk => ⟨.bl b, H, I.tok tk, rfl, q⟩
theorem call_isXT (hz : Zc cls d oe) (hf : ∃ vs, oe.data = .fields vs) : CallR (X.suite a ((a, oe) :: pn)) (.builtin "isinstance") (rIsXT X.K a cls d) := by
  intro pins s σ H xs us Q I r h
  obtain ⟨C, dd, tp, fs, cs, ws, b, rfl, rfl, rfl, e, hT, T, k, eb, q⟩ := h
  obtain ⟨u1, u2, rfl, r1, r2⟩ := vals2 r
  cases (show u1 = Value.ref a from r1)
  cases (show u2 = Value.ref tp from r2)
  obtain ⟨_, its, rv, o, h1, h2, n, h3⟩ := (show ObjOk X.prog X.w H s.heap tp (.tup cs) from I.hok tp _ hT)
  have e3 := ClsV.all k rv
  subst e3
  obtain ⟨oc, od, dt, sl⟩ := o
  simp only at h2 h3
  subst h2 h3
  obtain ⟨od2, J⟩ := inst_at I hz hf e
  exact PySem.W.kia_tup (kit_x T) I.kIn J h1 eb (fun z => nomatch z) fun tk => ⟨.bl b, H, I.tok tk, rfl, q⟩
end
/-- what isinstance asks of a class, to be decided -/
def excB (K : PySem.W.Frag) (C : Addr) : Bool := decide (PySem.W.findIn K (.ref C) "__getattribute__" = some (some (.builtin "BaseException.__getattribute__"))) && (decide (PySem.W.findIn K (.ref C) "__getattr__" = some none) && (decide (PySem.W.subIn K (.ref C) (.type "BaseException") = some true) &&
  (PySem.W.hasDictIn K C && (decide (PySem.W.findIn K (.ref C) "__class__" = some (some (.builtin "object.__class__"))) && (decide (PySem.W.specialIn K (.builtin "object.__class__") "__get__" = some (some (.builtin "getset_descriptor.__get__"))) && (decide (PySem.W.takesIn K (.builtin "object.__class__") = some true) && decide (PySem.W.mroIn K C (.type "object") = some true)))))))
theorem excB_ok {K : PySem.W.Frag} {C : Addr} (h : excB K C = true) : ExcC K C := by
  unfold excB at h
  simp only [Bool.and_eq_true, decide_eq_true_eq] at h
  obtain ⟨h1, h2, h3, h4, h5, h6, h7, h8⟩ := h
  exact ⟨h1, h2, h3, h4, h5, h6, h7, h8⟩
/-- e.f of the caught error, its class in the reading -/
def tXfA (K : PySem.W.Frag) (a : Addr) (cls : Value) (d : Option Addr) (f : Str) (te : TE) : TE := fun σ H Q => ∃ C, (XfC K C ∧ PySem.W.findIn K (.ref C) f = some none) ∧ tXf a cls d C f te σ H Q
theorem pe_xfA {X : Cx} {a : Addr} {oe : Obj} {cls : Value} {d : Option Addr} {pn : List (Addr × Obj)} {e : Expr} {te : TE} {pos : Pos} {n : Str} (hz : Zc cls d oe) (hf : ∃ vs, oe.data = .fields vs) (he : PE (X.suite a ((a, oe) :: pn)) e te)
    (hb : attributeBase e n X.env (eval e X.env) = eval e X.env := by rfl) : PE (X.suite a ((a, oe) :: pn)) (.Attribute e n pos) (tXfA X.K a cls d n te) :=
  ⟨fun pins s σ H Q I h => by
    obtain ⟨C, ⟨T, hno⟩, q⟩ := h
    exact (pe_xf T hno hz hf he hb).run pins s σ H Q I q⟩
/-- the package's error classes, all of them, and what isinstance and except say of them -/
def errNames : List Str := ["DeedError", "InvalidName", "InvalidArrow", "InvalidPair", "InvalidNumber", "InvalidWeights", "InvalidDeed", "NotTold", "NothingToUndo", "TooMany", "Unreadable"]
def kitB1 (K : PySem.W.Frag) (x y : Str) : Bool := decide (PySem.W.kitOne K (.ref (ga K x)) (.ref (ga K y)) = some (x == y || y == "DeedError"))
def kitB2 (K : PySem.W.Frag) (x : Str) : Bool := decide (PySem.W.kitOne K (.ref (ga K x)) (.type "ValueError") = some true) && (decide (PySem.W.exmOne K (.ref (ga K x)) (.ref (ga K "DeedError")) = some true) && excB K (ga K x))
structure ErrAll (K : PySem.W.Frag) (mg : Str → Option Value) : Prop where
  DeedError : ErrC K mg "DeedError"
  InvalidName : ErrC K mg "InvalidName"
  InvalidArrow : ErrC K mg "InvalidArrow"
  InvalidPair : ErrC K mg "InvalidPair"
  InvalidNumber : ErrC K mg "InvalidNumber"
  InvalidWeights : ErrC K mg "InvalidWeights"
  InvalidDeed : ErrC K mg "InvalidDeed"
  NotTold : ErrC K mg "NotTold"
  NothingToUndo : ErrC K mg "NothingToUndo"
  TooMany : ErrC K mg "TooMany"
  Unreadable : ErrC K mg "Unreadable"
  k1 : ∀ x ∈ errNames, ∀ y ∈ errNames, kitB1 K x y = true
  k2 : ∀ x ∈ errNames, kitB2 K x = true
section
variable {K : PySem.W.Frag} {mg : Str → Option Value}
theorem ErrAll.is (T : ErrAll K mg) {x y : Str} (hx : x ∈ errNames) (hy : y ∈ errNames) {b : Bool} (e : (x == y || y == "DeedError") = b) : PySem.W.kitOne K (.ref (ga K x)) (.ref (ga K y)) = some b := by
  rw [← e]
  exact of_decide_eq_true (T.k1 x hx y hy)
theorem ErrAll.none (T : ErrAll K mg) {x : Str} (hx : x ∈ errNames) : ∀ ys : List Str, (∀ y ∈ ys, y ∈ errNames) → (∀ y ∈ ys, (x == y || y == "DeedError") = false) → PySem.W.kitAny K (.ref (ga K x)) (ys.map fun y => Value.ref (ga K y)) = some false
  | [], _, _ => kitAny_nil
  | y :: ys, h1, h2 => kitAny_cons (T.is hx (h1 y (by simp)) (h2 y (by simp))) (fun _ => ErrAll.none T hx ys (fun z hz => h1 z (by simp [hz])) (fun z hz => h2 z (by simp [hz]))) (fun z => nomatch z)
theorem own_all : ∀ ys : List Str, Paired ClsV (ys.map fun y => V.ref (ga K y)) (ys.map fun y => Value.ref (ga K y))
  | [] => .nil
  | y :: ys => .cons (.own _) (own_all ys)
theorem ErrAll.vE (T : ErrAll K mg) {x : Str} (hx : x ∈ errNames) : PySem.W.kitOne K (.ref (ga K x)) (.type "ValueError") = some true := of_decide_eq_true (Bool.and_eq_true_iff.mp (T.k2 x hx)).1
theorem ErrAll.exm (T : ErrAll K mg) {x : Str} (hx : x ∈ errNames) : PySem.W.exmOne K (.ref (ga K x)) (.ref (ga K "DeedError")) = some true := of_decide_eq_true (Bool.and_eq_true_iff.mp (Bool.and_eq_true_iff.mp (T.k2 x hx)).2).1
theorem ErrAll.xc (T : ErrAll K mg) {x : Str} (hx : x ∈ errNames) : ExcC K (ga K x) := excB_ok (Bool.and_eq_true_iff.mp (Bool.and_eq_true_iff.mp (T.k2 x hx)).2).2
end
section
variable {K : PySem.W.Frag} {σ : L2.St} {H : Hp} {Q : VK} {a C dd : Addr} {fs : List (Str × V)} {c : V} {u : Value} {b : Bool}
theorem d_isX (e : H dd = some (.xd fs)) (T : ExcC K C) (k : ClsV c u) (eb : PySem.W.kitOne K (.ref C) u = some b) (q : Q (.bl b) H) : rIsX K a (.ref C) (some dd) [.ref a, c] H Q := ⟨C, dd, fs, c, u, b, rfl, rfl, rfl, e, T, k, eb, q⟩
theorem d_isXT {tp : Addr} {cs : List V} {us : List Value} (e : H dd = some (.xd fs)) (hT : H tp = some (.tup cs)) (T : ExcC K C) (k : Paired ClsV cs us) (eb : PySem.W.kitAny K (.ref C) us = some b) (q : Q (.bl b) H) : rIsXT K a (.ref C) (some dd) [.ref a, .ref tp] H Q :=
  ⟨C, dd, tp, fs, cs, us, b, rfl, rfl, rfl, e, hT, T, k, eb, q⟩
theorem d_tif {c : TT} {ta tb : TE} (h : c σ H fun b H1 => if b = true then ta σ H1 Q else tb σ H1 Q) : tIf c ta tb σ H Q := h
theorem d_xfA {te : TE} {f : Str} {cls : Value} {d : Option Addr} (T : XfC K C) (hno : PySem.W.findIn K (.ref C) f = some none) (h : te σ H fun x H1 => x = .ref a ∧ cls = .ref C ∧ ∃ (dd : Addr) (fs : List (Str × V)) (v : V), d = some dd ∧ H1 dd = some (.xd fs) ∧ fs.lookup f = some v ∧ Q v H1) : tXfA K a cls d f te σ H Q := ⟨C, ⟨T, hno⟩, h⟩
theorem d_xf {te : TE} {f : Str} {cls : Value} {d : Option Addr} (h : te σ H fun x H1 => x = .ref a ∧ cls = .ref C ∧ ∃ (dd : Addr) (fs : List (Str × V)) (v : V), d = some dd ∧ H1 dd = some (.xd fs) ∧ fs.lookup f = some v ∧ Q v H1) : tXf a cls d C f te σ H Q := h
end
end Ds
end F11
section F12
namespace Ds
open PySem PySem.Spec PyProof.Rows L2 He

/-! ### what the written part says of the error classes, to be decided -/
def oexB (K : PySem.W.Frag) (C : Addr) : Bool := match K.lookup C with
  | some ⟨.type "type", _, .cls ⟨_, _, .ref C' :: bm, _, _, hd, _, _, _, _, del⟩, sl⟩ => (match sl.toList with
    | [_, _, _, _, some (.builtin n), _] => decide (C' = C) && (decide (n = "ValueError.__new__") && (!del && (hd && PySem.HandSPX.refsVE bm)))
    | _ => false)
  | _ => false
theorem oexB_ok {K : PySem.W.Frag} {C : Addr} (h : oexB K C = true) : ∃ nm q N bs bm sn sub ab col dd k0 k1 k2 k3 k5, K.lookup C = some (excClassObj nm q C N bs bm true sn sub ab col dd k0 k1 k2 k3 k5 "ValueError.__new__") ∧ PySem.HandSPX.refsVE bm = true := by
  unfold oexB at h
  split at h
  · rename_i dd a1 a2 C' bm a3 a4 hd a5 a6 a7 a8 del sl ho
    split at h
    · rename_i k0 k1 k2 k3 n k5 hs
      simp only [Bool.and_eq_true, decide_eq_true_eq, Bool.not_eq_true'] at h
      obtain ⟨rfl, rfl, rfl, rfl, hv⟩ := h
      have hsl : sl = #[k0, k1, k2, k3, some (.builtin "ValueError.__new__"), k5] := by
        obtain ⟨l⟩ := sl
        simp only at hs
        rw [hs]
      subst hsl
      exact ⟨_, _, _, _, bm, _, _, _, _, dd, k0, k1, k2, k3, k5, ho, hv⟩
    · cases h
  · cases h
def errB (K : PySem.W.Frag) (x : Str) : Bool := oexB K (ga K x) && (decide (PySem.W.findIn K (.ref (ga K x)) "__setattr__" = some (some (.builtin "object.__setattr__"))) && (decide (PySem.W.subIn K (.ref (ga K x)) (.type "BaseException") = some true) &&
  (decide (PySem.W.typeIn K (.ref (ga K x)) = some (.type "type")) && (PySem.W.keepIn K (.ref (ga K x)) && (decide (PySem.W.findIn K (.ref (ga K x)) "__init__" = some (some (.ref (errI K)))) && (decide (PySem.W.findIn K (.ref (ga K x)) "value" = some none) && xfB K (ga K x)))))))
theorem errB_ok {K : PySem.W.Frag} {mg : Str → Option Value} {x : Str} (h : errB K x = true) (g : mg x = some (.ref (ga K x))) : ErrC K mg x := by
  unfold errB at h
  simp only [Bool.and_eq_true, decide_eq_true_eq] at h
  obtain ⟨h1, h2, h3, h4, h5, h6, h7, h8⟩ := h
  exact ⟨⟨oexB_ok h1, h2, h3, h4, h5⟩, h6, h7, g, xfB_ok h8⟩
def errsB (K : PySem.W.Frag) : Bool := errNames.all (errB K) && ((errNames.all fun x => errNames.all (kitB1 K x)) && (errNames.all (kitB2 K) && decide (PySem.W.typeIn K (.ref (errI K)) = some (.type "function"))))
theorem errsB_ok {K : PySem.W.Frag} {mg : Str → Option Value} (h : errsB K = true) (g : ∀ x ∈ errNames, mg x = some (.ref (ga K x))) : ErrAll K mg ∧ PySem.W.typeIn K (.ref (errI K)) = some (.type "function") := by
  unfold errsB at h
  simp only [Bool.and_eq_true, decide_eq_true_eq, List.all_eq_true] at h
  obtain ⟨h1, h2, h3, h4⟩ := h
  have e : ∀ x ∈ errNames, ErrC K mg x := fun x hx => errB_ok (h1 x hx) (g x hx)
  refine ⟨⟨e _ ?_, e _ ?_, e _ ?_, e _ ?_, e _ ?_, e _ ?_, e _ ?_, e _ ?_, e _ ?_, e _ ?_, e _ ?_, h2, h3⟩, h4⟩ <;> decide +kernel
end Ds
end F12
section F13
namespace Ds
open PySem PySem.Spec PyProof.Rows L2 He

/-! ### the top: the law's guarded promise, behind the claim's caller -/
section
variable {P : Program} {w : World} {K : PySem.W.Frag} {mg mb : Str → Option Value} {k : Nat} {fa a : Addr} {fd : FuncData} {x : Str} {sp : Sp} {s₁ : Shared} {vs : List Value} {ns : List Int}
/-- the tracked heap at the top holds the script alone, or nothing -/
structure Lone (K : PySem.W.Frag) (P : Program) (w : World) (a : Addr) (h : Heap) (H : Hp) : Prop where
  at_ : ∀ b u, H b = some u → b = a ∧ K.lookup a = none ∧ ∃ ob xs, u = .frz ob (.lst xs)
  ok : HOk P w H h
theorem Lone.only {h : Heap} {H : Hp} (L : Lone K P w a h H) : Only H := by
  intro b
  match e : H b with
  | none => exact .inl rfl
  | some u =>
    obtain ⟨_, _, ob, xs, rfl⟩ := L.at_ b u e
    exact .inr ⟨ob, xs, rfl⟩
/-- what is no list stays in the base -/
theorem Lone.base {h : Heap} {H : Hp} (L : Lone K P w a h H) (ha : h.get? a = some { cls := .type "list", data := .seq vs.toArray }) {b : Addr} {m : Str → Option Value} (n : h.Ns b m) : (hidT h H).Ns b m := by
  obtain ⟨o, es, ep, e, d, r⟩ := n
  refine ⟨o, es, ep, hidT_get e ?_, d, r⟩
  match q : H b with
  | none => rfl
  | some u =>
    obtain ⟨rfl, _⟩ := L.at_ b u q
    have z : o = _ := Option.some.inj (e.symm.trans ha)
    rw [z] at d
    exact nomatch d
theorem Lone.kin {h : Heap} {H : Hp} (L : Lone K P w a h H) (X : K.In h) : K.In (hidT h H) := by
  intro b o e
  refine hidT_get (X b o e) ?_
  match q : H b with
  | none => rfl
  | some u =>
    obtain ⟨rfl, n, _⟩ := L.at_ b u q
    exact nomatch n.symm.trans e
theorem top_run {H : Hp} (L : Lone K P w a s₁.heap H) (KX : K.In s₁.heap) (hns : s₁.heap.Ns mainGlobals mg) (hb : s₁.heap.Ns builtinsNs mb) (hbb : ∀ x : Str, x ≠ "__name__" → mb x = bootBuiltins x) (hlim : s₁.heap.NoLimit) (hg : s₁.gens = #[])
    (ha : s₁.heap.get? a = some { cls := .type "list", data := .seq vs.toArray }) (hr : Room k callerA)
    (F : FnG P w K mg (hidT s₁.heap H) CX0 k fa fd [x] sp) (hbind : ∀ (s : Shared) (u : Value), BindsTo s fd ⟨[u], []⟩ [(x, u)]) (hsp : sp [.ref a] H (fun v _ => v = .bl true) fun _ _ _ => False) :
    codeAny (model P w) callerA (.call (.ref fa) ⟨[.ref a], []⟩) (fun r s' => r = .ok (.ret (.bool true)) ∧ OldK s₁.heap s'.heap ∧ s'.os = s₁.os ∧ AllBare s'.gens) s₁ := by
  obtain ⟨mc, m1, m2⟩ := hlim
  have e0 : Env0 P w K mg (hidT s₁.heap H) callerA [] s₁ H := by
    refine ⟨rfl, ⟨L.kin KX, L.base ha hns, ⟨mb, L.base ha hb, hbb⟩, ⟨mc, L.base ha m1, m2⟩⟩, fun b o => of_hidT, Nat.le_of_eq (hidT_size ..), trivial, ?_, L.ok, AllBare.of_eq hg⟩
    exact fun b q => nomatch (show b ∈ ([] : List Addr) from q)
  refine codeAny_mono (F.does callerA [] s₁ H ⟨[.ref a], []⟩ [.ref a] [.ref a] _ _ rfl hr e0 (hbind s₁ _) (Paired.cons rfl Paired.nil) hsp) ?_
  intro r s' q
  match r, q with
  | .error e, q => exact (show False from q).elim
  | .ok (.ret u), ⟨v, H', os, bare, un, hok', rv, q⟩ =>
    have ev : v = V.bl true := q
    subst ev
    cases (show u = Value.bool true from rv)
    refine ⟨rfl, OldK.of_keep ?_, os, bare⟩
    intro b o e
    match z : H b with
    | none => exact un.keep b o e z (fun q => nomatch (show b ∈ ([] : List Addr) from q)) (fun q => nomatch q)
    | some u =>
      obtain ⟨_, _, ob, xs, rfl⟩ := L.at_ b u z
      have h1 := (L.ok b _ z).1
      have h2 := (hok' b _ (un.frzs b ob _ z)).1
      rw [← Option.some.inj (h1.symm.trans e)]
      exact h2
  | .ok .next, q => exact (show False from q).elim
  | .ok .brk, q => exact (show False from q).elim
  | .ok .cont, q => exact (show False from q).elim
theorem top_law (KX : K.In s₁.heap) (hns : s₁.heap.Ns mainGlobals mg) (hb : s₁.heap.Ns builtinsNs mb) (hbb : ∀ x : Str, x ≠ "__name__" → mb x = bootBuiltins x) (hlim : s₁.heap.NoLimit) (hg : s₁.gens = #[])
    (ha : s₁.heap.get? a = some { cls := .type "list", data := .seq vs.toArray }) (hi : IntsAre vs ns) (hl : ns.length ≤ sizeLine) (hr : Room k callerA)
    (F : ∀ base : Heap, K.In base → base.Ns mainGlobals mg → FnG P w K mg base CX0 k fa fd [x] sp) (hbind : ∀ (s : Shared) (u : Value), BindsTo s fd ⟨[u], []⟩ [(x, u)])
    (hsp : ∀ H : Hp, Only H → SqL K H a (ns.map V.int) → sp [.ref a] H (fun v _ => v = .bl true) fun _ _ _ => False) :
    codeAny (model P w) callerA (.call (.ref fa) ⟨[.ref a], []⟩) (fun r s' => r = .ok (.ret (.bool true)) ∧ OldK s₁.heap s'.heap ∧ s'.os = s₁.os ∧ AllBare s'.gens) s₁ := by
  have go : ∀ H, Lone K P w a s₁.heap H → SqL K H a (ns.map V.int) → codeAny (model P w) callerA (.call (.ref fa) ⟨[.ref a], []⟩) (fun r s' => r = .ok (.ret (.bool true)) ∧ OldK s₁.heap s'.heap ∧ s'.os = s₁.os ∧ AllBare s'.gens) s₁ := fun H L S =>
    top_run L KX hns hb hbb hlim hg ha hr (F _ (L.kin KX) (L.base ha hns)) hbind (hsp H L.only S)
  have rv := vals_ints hi
  have lv := hi.length
  match q : K.lookup a with
  | some o =>
    have eo : o = _ := Option.some.inj ((KX a o q).symm.trans ha)
    rw [eo] at q
    refine go (fun _ => none) ⟨fun _ _ e => (nomatch e), fun _ _ e => (nomatch e)⟩ (.inr ⟨_, vs.toArray, _, q, rfl, rfl, rfl, ?_, ?_⟩)
    · rw [List.size_toArray, lv]
      exact hl
    · simpa using rv
  | none =>
    have sel : ∀ b u, (if b = a then some (HO.frz { cls := .type "list", data := .seq vs.toArray } (.lst (ns.map V.int))) else none) = some u → b = a ∧ u = HO.frz { cls := .type "list", data := .seq vs.toArray } (.lst (ns.map V.int)) := fun b u e => by
      by_cases c : b = a
      · rw [if_pos c] at e
        exact ⟨c, (Option.some.inj e).symm⟩
      · rw [if_neg c] at e
        exact nomatch e
    refine go (fun b => if b = a then some (.frz { cls := .type "list", data := .seq vs.toArray } (.lst (ns.map V.int))) else none) ⟨fun b u e => ?_, fun b u e => ?_⟩ (.inl (.inr ⟨_, if_pos rfl⟩))
    · obtain ⟨h1, h2⟩ := sel b u e
      exact ⟨h1, q, _, _, h2⟩
    · obtain ⟨h1, h2⟩ := sel b u e
      subst h1
      rw [h2]
      refine ⟨ha, ?_, vs, _, rv, ha⟩
      rw [List.length_map]
      exact hl
end
theorem walk_G {l : PySem.W.OpenLaw} {n k : Nat} {q : Program} {loose : List Str} {XP : (Str → Option Value) → Heap → Prop} {YP : World → Heap → Prop} {d : DefRec} {x : Str} (hn : l.most = some n) (hn2 : n ≤ sizeLine) (hdf : d.params.defaults = []) (hr : Room k callerA)
    (F : ∀ (w : World) (mg : Str → Option Value) (fa : Addr) (h : Heap), YP w h → h.Ns mainGlobals mg → mg d.name = some (.ref fa) → ∃ (K : PySem.W.Frag) (fd : FuncData) (sp : Sp), K.In h ∧ (∀ (s : Shared) (u : Value), BindsTo s fd ⟨[u], []⟩ [(x, u)]) ∧
      (∀ (H : Hp) (a : Addr) (ns : List Int), ns.length ≤ n → SqL K H a (ns.map V.int) → sp [.ref a] H (fun v _ => v = .bl true) fun _ _ _ => False) ∧ ∀ base : Heap, K.In base → base.Ns mainGlobals mg → FnG l.prog w K mg base CX0 k fa fd [x] sp) :
    PySem.W.WalkO q loose XP YP l.row.toRowW d [] (fun f vs => PySem.call f vs) :=
  Att.attach_call hn hdf fun w s₀ s₁ mg mb fa o pm cd doc a vs ns G Y _ _ _ hmg hobj hints hlen hg => by
    obtain ⟨K, fd, sp, KX, hb, hsp, hF⟩ := F w mg fa _ Y G.T.g hmg
    exact top_law KX G.T.g G.T.b G.T.builtins G.T.nolimit hg hobj hints (Nat.le_trans hlen hn2) hr hF hb fun H _ S => hsp H a ns hlen S
end Ds
end F13
section F14
namespace Ds
open PySem PySem.Spec PyProof.Rows L2 He

/-! ### == and != by an own __eq__ -/
/-- what the class must say: an __eq__ of its own at g, no __ne__, object alone above it -/
def eqB (K : PySem.W.Frag) (C g : Addr) : Bool := match K.lookup C with
  | some ⟨.type "type", _, .cls ⟨_, _, .ref C' :: bm, ns, _, _, _, _, _, _, del⟩, sl⟩ => (match sl.toList with
    | [_, _, _, _, some (.builtin _), _] => decide (C' = C) && (decide (bm = [.type "object"]) && (!del && (PySem.W.nsOkIn K ns && (decide (PySem.W.nsIn K ns "__eq__" = some (some (.ref g))) && decide (PySem.W.nsIn K ns "__ne__" = some none)))))
    | _ => false)
  | _ => false
structure EqC (K : PySem.W.Frag) (C g : Addr) : Prop where
  cl : Cls K C
  at_ : PySem.W.findIn K (.ref C) "__eq__" = some (some (.ref g))
  fn : PySem.W.isFn K (.ref g) = true
  b : eqB K C g = true
theorem ns_has {K : PySem.W.Frag} {h : Heap} {N : Addr} {m : Str → Option Value} {n : Str} {v : Value} (X : K.In h) (G : h.Ns N m) (e : PySem.W.nsIn K N n = some (some v)) : m n = some v := by
  obtain ⟨o, es, ep, ho, hd, _, hf⟩ := G
  unfold PySem.W.nsIn at e
  cases q : K.lookup N with
  | none => rw [q] at e; cases e
  | some o2 =>
    obtain rfl : o2 = o := Option.some.inj ((X _ _ q).symm.trans ho)
    obtain ⟨c, d, dt, sl⟩ := o2
    obtain rfl : dt = _ := hd
    rw [q] at e
    cases q2 : es.toList.find? (·.key.isStr n) with
    | none =>
      simp only [q2] at e
      split at e <;> cases e
    | some en =>
      simp only [q2] at e
      rw [← hf]
      unfold nsFind findBy
      rw [← Array.find?_toList, q2]
      exact Option.some.inj e
theorem own_ne {K : PySem.W.Frag} {C g x : Addr} {h : Heap} {ox : Obj} {od : Option Obj} (X : K.In h) (E : EqC K C g) (J : PySem.W.InstAt h x ox C od) : h.OwnEqNoNe x C g "object" [.type "object"] := by
  have hb := E.b
  unfold eqB at hb
  split at hb
  · rename_i dd a1 a2 C' bm ns a4 hd a5 a6 a7 a8 del sl ho
    split at hb
    · rename_i k0 k1 k2 k3 n k5 hs
      simp only [Bool.and_eq_true, decide_eq_true_eq, Bool.not_eq_true'] at hb
      obtain ⟨rfl, rfl, rfl, h1, h2, h3⟩ := hb
      have hsl : sl = #[k0, k1, k2, k3, some (.builtin n), k5] := by
        obtain ⟨l⟩ := sl
        simp only at hs
        rw [hs]
      subst hsl
      have N := Heap.Ns.of_isNs (PySem.W.isNs_of_in X h1)
      have hfn : PySem.W.typeIn K (.ref g) = some (.type "function") := beq_iff_eq.mp E.fn
      obtain ⟨og, hg, ec⟩ := Option.map_eq_some_iff.mp (show (K.lookup g).map (·.cls) = _ from hfn)
      exact ⟨ox, og, _, _, ns, _, _, _, _, _, _, dd, k0, k1, k2, k3, k5, n, _, _, J.1, J.2, X _ _ ho, N, ns_has X N h2, X _ _ hg, ec, F.cmp_object.mro, F.cmp_object.eq.lookup, PySem.W.ns_none_of X N h3⟩
    · cases hb
  · cases hb
/-- x == y: x an instance of the class at C; y of a type that is no other class below C -/
def rEqO (K : PySem.W.Frag) (C : Addr) (sp : Sp) : R2 := fun x y H Q => ∃ a dx fs t, x = .ref a ∧ H a = some (.ins C dx fs) ∧ TyX K H y t ∧ PySem.W.notFirst K C t = true ∧ sp [x, y] H (fun v H' => ∃ b, v = .bl b ∧ Q v H') E0
/-- x != y: both of the class -/
def rNeO (C : Addr) (sp : Sp) : R2 := fun x y H Q => ∃ a dx fs b dy gs, x = .ref a ∧ H a = some (.ins C dx fs) ∧ y = .ref b ∧ H b = some (.ins C dy gs) ∧ sp [x, y] H (fun v H' => ∃ c, v = .bl c ∧ Q (.bl (!c)) H') E0
section
variable {X : Cx} {CX : CXT} {k j : Nat} {C : Addr} {sp : Sp}
/-- the class's == to be asked -/
def CalE (P : Program) (w : World) (K : PySem.W.Frag) (mg : Str → Option Value) (base : Heap) (CX : CXT) (k : Nat) (C : Addr) (sp : Sp) : Prop := ∃ g fd, FnOk P w K mg base CX k g fd ["self", "other"] sp ∧ EqC K C g ∧ Binds K fd ["self", "other"] []
theorem op_eqO (c : CalE X.prog X.w X.K X.mg X.base CX0 k C sp) (hr : Room j X.A) (hj : k ≤ j := by decide) : OpR X (compareOp .Eq) (rEqO X.K C sp) := by
  obtain ⟨g, fd, F, E, b⟩ := c
  intro pins s σ H x y v u Q I rx ry h
  obtain ⟨a, dx, fs, t, rfl, ha, ty, hn, q⟩ := h
  cases (show v = Value.ref a from rx)
  obtain ⟨mA, O, _⟩ := ins_get I.hok ha
  obtain ⟨od, J, _⟩ := O.look
  obtain ⟨P, Z, p, _⟩ := kit_of I ry ty
  obtain ⟨m, hF⟩ := I.fr
  show wpAny _ _ (richCompare .Eq (.ref a) u) _ _ _
  refine PySem.W.cmp_K (op := .Eq) (tb := t) hr.units0 hF I.ok.mod.kin J (Z.ty _ _ I.kIn p) hn E.at_ E.fn ?_
  refine wpAny_mono (run_fn (us := [.ref a, u]) (vs := [.ref a, y]) F (hr.mono hj) b .nil pass0 I (.cons rfl (.cons ry .nil)) q) (fun w s' z => ?_) fun _ _ e => e
  obtain ⟨z', H', I', rz, c, ec, qz⟩ := z
  subst ec
  cases (show w = Value.bool c from rz)
  exact ⟨.bl c, H', I', rfl, qz⟩
theorem op_neO (c : CalE X.prog X.w X.K X.mg X.base CX0 k C sp) (hr : Room j X.A) (hj : k + 1 ≤ j := by decide) : OpR X (compareOp .NotEq) (rNeO C sp) := by
  obtain ⟨g, fd, F, E, b⟩ := c
  intro pins s σ H x y v u Q I rx ry h
  obtain ⟨a, dx, fs, a2, dy, gs, rfl, ha, rfl, hb, q⟩ := h
  cases (show v = Value.ref a from rx)
  cases (show u = Value.ref a2 from ry)
  obtain ⟨mA, O, _⟩ := ins_get I.hok ha
  obtain ⟨od, J, _⟩ := O.look
  obtain ⟨mB, O2, _⟩ := ins_get I.hok hb
  obtain ⟨od2, J2, _⟩ := O2.look
  have X' := own_ne I.kIn E J
  have hr1 := hr.mono hj
  have hu : X.A.units + 1 < cLine := by have := hr1.un; omega
  have run : wpAny (model X.prog X.w) X.A.in1 (call (.ref g) [.ref a, .ref a2]) (EP X pins σ (fun v H' => ∃ c, v = .bl c ∧ Q (.bl (!c)) H')) X.xe s := by
    have bt := b s [.ref a, .ref a2] I.kIn rfl
    refine wpAny_call (codeAny_mono (F.run X.A.in1 X.stack s H ⟨[.ref a, .ref a2], []⟩ [.ref a, .ref a2] [.ref a, .ref a2] _ _ hr1.in1 I.env0.in1 bt (.cons rfl (.cons rfl .nil)) q) fun r s' hq => ?_)
    match r, hq with
    | .error z, hq => exact pass0 pins σ H s z s' I hq
    | .ok (.ret u), hq => exact I.after hq
  obtain ⟨hp, gg, dd, tk, os⟩ := s
  refine compareOp_ne_ownEq (g := gg) (d := dd) (t := tk) (os := os) PySem.F.cmp_object X' J2.1 J2.2 hu (wpAny_mono run (fun w s' z => ?_) fun _ _ e => e)
  obtain ⟨z', H', I', rz, c, ec, qz⟩ := z
  subst ec
  cases (show w = Value.bool c from rz)
  exact ⟨c, rfl, .bl (!c), H', I', rfl, qz⟩
end
end Ds
end F14
section F15
namespace Ds
open PySem PySem.Spec PyProof.Rows L2 He

/-! ### a property of an own class -/
def CalP (P : Program) (w : World) (K : PySem.W.Frag) (mg : Str → Option Value) (base : Heap) (k : Nat) (C : Addr) (x : Str) (sp : Sp) : Prop :=
  Cls K C ∧ ∃ p g fd, PropOf K C x p g ∧ FnOk P w K mg base CX0 k g fd ["self"] sp ∧ Binds K fd ["self"] []
section
variable {X : Cx} {CX : CXT} {k j n : Nat} {C : Addr} {ps ks : List Str} {sp : Sp} {x : Str} {p pos : Pos} {e : Expr} {ta t tk : TE} {kws : List Keyword} {gV : List V → List V → List V}
theorem pe_propC (c : CalP X.prog X.w X.K X.mg X.base k C x sp) (hr : Room j X.A) (he : PE X e ta) (hj : k + 1 ≤ j := by decide) (hab : attributeBase e x X.env (eval e X.env) = eval e X.env := by rfl) : PE X (.Attribute e x pos) (tProp C sp [] E0 ta) := by
  obtain ⟨cl, q, g, fd, hp, F, b⟩ := c
  exact pe_prop he cl hp F (hr.mono hj) b .nil (fun _ _ _ _ _ _ _ z => z) hab
theorem d_prop {σ : L2.St} {H : Hp} {Q : VK} {dvs : List V} {E : XK} (h : ta σ H fun v H1 => ∃ a dx fs, v = .ref a ∧ H1 a = some (.ins C dx fs) ∧ sp (.ref a :: dvs) H1 Q E) : tProp C sp dvs E ta σ H Q := h
end
theorem d_par3 {σ : L2.St} {H : Hp} {D : Ends} {i j l : Nat} {ta : TA} (h : ta σ H fun vs H1 => ∃ u v w, vs = [u, v, w] ∧ D.nx (((σ.set i (some u)).set j (some v)).set l (some w)) H1) : tPar3 i j l ta D σ H := h
theorem d_revL {K : PySem.W.Frag} {σ : L2.St} {H : Hp} {Q : VK} {te : TE} (h : te σ H fun x H1 => ∃ a xs, x = .ref a ∧ SqL K H1 a xs ∧ ∀ p, H1 p = none → Q (.ref p) (upd H1 p (.lst xs.reverse))) : tRevL K te σ H Q := h
/-! ### a new instance by keywords alone -/
def CalCK (P : Program) (w : World) (K : PySem.W.Frag) (mg : Str → Option Value) (base : Heap) (CX : CXT) (k : Nat) (x : Str) (C : Addr) (ps ks : List Str) (gV : List V → List V → List V) (sp : Sp) : Prop :=
  mg x = some (.ref C) ∧ ∃ f fd, FnOk P w K mg base CX k f fd ps sp ∧ Mk K C f ∧ ∃ g, KBn K fd ps 1 ks g gV
section
variable {X : Cx} {CX : CXT} {k j : Nat} {C : Addr} {ps ks : List Str} {sp : Sp} {x : Str} {p pos : Pos} {tk : TA} {kws : List Keyword} {gV : List V → List V → List V}
theorem pe_mkKN (c : CalCK X.prog X.w X.K X.mg X.base (L2.CX X.prog X.w) k x C ps ks gV sp) (hr : Room j X.A) (hg : Gl X x) (hkw : PK X kws tk) (hj : k + 1 ≤ j := by decide)
    (hall : (backToKw pos (keywordEach kws X.env)).all (·.1.isSome) = true := by rfl) (hks : (backToKw pos (keywordEach kws X.env)).filterMap (·.1) = ks := by rfl) (hdb : (x == ("__debug__" : Str)) = false := by decide)
    (hpl : ((backTo pos (starEach [] X.env)).any (·.1) || (backToKw pos (keywordEach kws X.env)).any (·.1.isNone)) = false := by rfl) : PE X (.Call (.Name x p) [] kws pos) (tMakeK C 0 ks.length sp gV E0 tNil tk) := by
  obtain ⟨hm, f, fd, F, M, g, b⟩ := c
  exact pe_makeK0 M F (hr.mono hj) hg hm b passL hkw hall hks hdb hpl
end
theorem d_makeK {σ : L2.St} {H : Hp} {Q : VK} {C : Addr} {n m : Nat} {sp : Sp} {gV : List V → List V → List V} {E : XK} {t tk : TA} (h : t σ H fun vs H1 => tk σ H1 fun zs H2 => vs.length = n ∧ zs.length = m ∧
  ∀ x dx, H2 x = none → H2 dx = none → dx ≠ x → sp (gV (.ref x :: vs) zs) (upd (upd H2 dx (.own x)) x (.ins C dx [])) (fun v H3 => v = .non ∧ Q (.ref x) H3) E) : tMakeK C n m sp gV E t tk σ H Q := h
/-! ### the head: getters too -/
/-- the function of the property x of the class at C -/
def gtA (C x : Str) (K : PySem.W.Frag) : Addr := match PySem.W.recIn K (ma K (ga K C) x) "property" with
  | some (.ref g :: _) => g
  | _ => 0
def fnV (K : PySem.W.Frag) (a : Addr) : FnW := match K.lookup a with
  | some ⟨_, _, .func fd, _⟩ => some (fd.name, fd.qualname, fd.params, fd.body, fd.scope, fd.globals, fd.closure, fd.builtins)
  | _ => none
def gtB (K : PySem.W.Frag) (C x qual : Str) : Bool := PySem.W.keepIn K (.ref (gtA C x K)) && ((match K.lookup (gtA C x K) with
  | some ⟨_, _, .func fd, _⟩ => PySem.W.codeIn K fd.code qual && (dflB K fd.defaults [] && kwdB K fd.kwdefaults [])
  | _ => false) && (decide (PySem.W.findIn K (.ref (ga K C)) x = some (some (.ref (ma K (ga K C) x)))) && (decide (PySem.W.specialIn K (.ref (ma K (ga K C) x)) "__get__" = some (some (.builtin "property.__get__"))) &&
  (decide (PySem.W.takesIn K (.ref (ma K (ga K C) x)) = some true) && (match PySem.W.recIn K (ma K (ga K C) x) "property" with
  | some (.ref _ :: _) => true
  | _ => false)))))
theorem gtB_ok {K : PySem.W.Frag} {C x : Str} {d : DefD} (hb : gtB K C x d.qual = true) (e : fnV K (gtA C x K) = d.val) : ∃ fd, FunD K d.name d.qual d.params d.body d.scope [] [] (gtA C x K) fd ∧ PropOf K (ga K C) x (ma K (ga K C) x) (gtA C x K) := by
  unfold gtB at hb
  obtain ⟨kp, hb⟩ := ba hb
  obtain ⟨hc, hb⟩ := ba hb
  obtain ⟨h1, hb⟩ := ba hb
  obtain ⟨h2, hb⟩ := ba hb
  obtain ⟨h3, h4⟩ := ba hb
  have hp : PropOf K (ga K C) x (ma K (ga K C) x) (gtA C x K) := by
    refine ⟨of_decide_eq_true h1, of_decide_eq_true h2, of_decide_eq_true h3, ?_⟩
    unfold gtA
    cases q : PySem.W.recIn K (ma K (ga K C) x) "property" with
    | none => rw [q] at h4; cases h4
    | some l =>
      rw [q] at h4
      match l, h4 with
      | .ref g :: rest, _ => exact ⟨rest, rfl⟩
  unfold fnV at e
  cases q : K.lookup (gtA C x K) with
  | none => rw [q] at hc; cases hc
  | some o =>
    obtain ⟨oc, od, dt, osl⟩ := o
    rw [q] at hc e
    cases dt with
    | func fd =>
      obtain ⟨n1, n2, n3, n4, n5, n6, n7, n8, n9, n10, n11, n12, n13, n14, n15⟩ := fd
      have e2 : (some (n1, n2, n3, n4, n5, n6, n7, n15) : FnW) = some (d.name, d.qual, d.params, .stmts d.body, d.scope, mainGlobals, [], builtinsNs) := e
      simp only [Option.some.injEq, Prod.mk.injEq] at e2
      obtain ⟨g1, g2, g3, g4, g5, g6, g7, g8⟩ := e2
      subst g1 g2 g3 g4 g5 g6 g7 g8
      obtain ⟨k1, k2⟩ := ba hc
      obtain ⟨k3, k4⟩ := ba k2
      exact ⟨_, ⟨⟨oc, od, n8, n9, n10, n11, n12, n13, n14, osl, rfl, q, k1, dflB_ok k3, kwdB_ok k4⟩, kp⟩, hp⟩
    | _ => cases hc
/-- a getter: class, name, its def -/
structure GtD where
  C : Str
  x : Str
  d : DefD
abbrev AlP : Type := AlX × (List FnW × Bool)
def obsP (n : Nat) (fa : List Fa) (fn : List DefD) (ex : PySem.W.Frag → Bool) (gt : List GtD) (g : Addr → Option Obj) : AlP :=
  (obsX n fa fn [] [] ex g, (gt.map fun q => fnV (frT g (asD g n)) (gtA q.C q.x (frT g (asD g n))), gt.all fun q => gtB (frT g (asD g n)) q.C q.x q.d.qual))
def valP (fn : List DefD) (gt : List GtD) (w : World) : AlP := (valX fn [] w, (gt.map fun q => q.d.val, true))
structure SaysP (fa : List Fa) (fn : List DefD) (ex : PySem.W.Frag → Bool) (gt : List GtD) (w : World) (h : Heap) (K : PySem.W.Frag) : Prop where
  x : SaysX fa fn [] [] ex w h K
  g : ∀ q ∈ gt, fnV K (gtA q.C q.x K) = q.d.val ∧ gtB K q.C q.x q.d.qual = true
theorem map_eq_on {α β : Type} {f g : α → β} : ∀ {l : List α}, l.map f = l.map g → ∀ x ∈ l, f x = g x
  | [], _, _, h => nomatch h
  | a :: l, e, x, h => by
    rw [List.map_cons, List.map_cons] at e
    injection e with e1 e2
    rcases List.mem_cons.mp h with rfl | h
    · exact e1
    · exact map_eq_on e2 x h
def hookP (n : Nat) (fa : List Fa) (fn : List DefD) (ex : PySem.W.Frag → Bool) (gt : List GtD) : PySem.W.Hook where
  α := AlP
  obs := fun s => obsP n fa fn ex gt s.heap.get?
  val := fun w => valP fn gt w
  says := fun w h => ∃ K : PySem.W.Frag, K.In h ∧ SaysP fa fn ex gt w h K
  of := fun w s e => ⟨_, frT_in, saysX_of (congrArg (fun z : AlP => z.1) e), fun q hq => ⟨map_eq_on (congrArg (fun z : AlP => z.2.1) e) q hq, List.all_eq_true.mp (congrArg (fun z : AlP => z.2.2) e) q hq⟩⟩
  keeps := fun _ _ _ ⟨K, hK, c⟩ k => ⟨K, PySem.W.Frag.In.keeps hK k, ⟨⟨c.x.t, c.x.more, c.x.hd, c.x.out, fun p hp => k _ _ (c.x.empty p hp)⟩, c.g⟩⟩
theorem obsP_eq {n : Nat} {fa : List Fa} {fn : List DefD} {ex : PySem.W.Frag → Bool} {gt : List GtD} {g : Addr → Option Obj} {s : Shared} (h : ∀ a, g a = s.heap.get? a) : obsP n fa fn ex gt g = (hookP n fa fn ex gt).obs s := by
  have e : g = s.heap.get? := funext h
  rw [e] <;> rfl
end Ds
end F15
section F16
open L2 Ds

local macro_rules | `(tactic| walk_at "ds1") => `(tactic| with_reducible first
  | refine d_seq ?_ | refine d_asg ?_ | refine d_gname ?_ | refine d_if ?_ | refine d_next ?_ | refine d_ret ?_ | refine d_drop ?_ | refine d_test ?_ | refine d_B ?_ | refine d_c ?_
  | refine d_op ?_ | refine d_un ?_ | refine d_rI0 ?_ | refine d_rU ?_ | refine d_cons ?_ | refine d_nil ?_ | refine d_cb ?_ | refine d_bl ?_ | refine d_call ?_ | refine d_and ?_ | refine d_or ?_ | refine d_not ?_ | refine d_lst ?_ | refine d_tup ?_
  | refine d_par ?_ | refine d_par2 ?_ | refine d_for ?_ | refine d_rng1 ?_ | refine d_rng2 ?_ | refine d_ils ?_ | refine d_its ?_ | refine d_ien ?_ | refine d_lc ?_ | refine d_yes ?_ | refine d_step2 ?_ | refine d_chain ?_ | refine d_andV ?_ | refine d_orV ?_ | refine d_notV ?_ | refine d_slice ?_ | refine d_nopart ?_ | refine d_part ?_ | refine d_int ?_ | refine d_s2 ?_ | refine d_mkO ?_ | refine d_callS ?_ | refine d_p0 ?_ | refine d_p1 ?_ | refine d_disp ?_ | refine d_din ?_ | refine d_dnotin ?_ | refine d_dput ?_ | refine d_sfld ?_ | refine d_fld ?_ | refine d_gcons ?_ | refine d_gnil ?_ | refine d_gsub ?_ | refine d_bm ?_ | refine d_bm0 ?_)
local macro_rules | `(tactic| walk_at "ds2") => `(tactic| first
  | ((with_reducible show tVar _ _ _ _); refine d_var (by exact rfl) ?_)
  | (with_reducible refine d_i1 ?_) | (with_reducible refine d_i2 ?_) | (with_reducible refine d_o1 ?_) | ((with_reducible refine d_ls ?k1 ?_); (case k1 => exact Nat.le_of_ble_eq_true rfl))
  | ((with_reducible refine' d_lenS ?k1 ?_); (case k1 => first | assumption | exact SqL.of (by assumption))) | ((with_reducible refine' d_listS ?k1 ?_); (case k1 => first | assumption | exact SqL.of (by assumption)))
  | ((with_reducible refine' d_len ?k1 ?_); (case k1 => first | assumption | exact SqL.of (by assumption)))
  | ((with_reducible refine' d_eq ?k1 ?_); (case k1 => rfl)) | ((with_reducible refine' d_ne ?k1 ?_); (case k1 => rfl))
  | ((with_reducible refine' d_new ?k1 ?_); (case k1 => exact Nat.le_of_ble_eq_true rfl)))
local macro_rules | `(tactic| walk_at "rd") => `(tactic| repeat (first | walk_at "ds1" | walk_at "ds2"))
local macro_rules | `(tactic| walk_at "sub") => `(tactic| repeat (first | exact List.Sublist.slnil | exact List.Sublist.refl _ | refine List.Sublist.cons₂ _ ?_ | refine List.Sublist.cons _ ?_))

namespace Ds
open PySem PySem.Spec PyProof.Rows L2
def top (i : Nat) : Stmt := PySem.Challenge.pw_deedshares_k02_diagrams_kept.main.body.getD i (.Pass ⟨0, 0, 0, 0⟩)
abbrev s_pool : Stmt := top 17
abbrev s_draw : Stmt := top 18
/-- the built-ins' names are free -/
structure Tx (mg : Str → Option Value) : Prop where
  n_abs : mg "abs" = none
  n_int : mg "int" = none
  n_len : mg "len" = none
  n_list : mg "list" = none
  n_max : mg "max" = none
  n_min : mg "min" = none
  n_range : mg "range" = none
  n_enumerate : mg "enumerate" = none
  n_repr : mg "repr" = none
  n_isinstance : mg "isinstance" = none
  n_ValueError : mg "ValueError" = none
  n_all : mg "all" = none
  n_any : mg "any" = none
  n_sum : mg "sum" = none
/-- a pool at p, drawn from at most n times -/
def Pool (H : Hp) (p : Addr) (n : Nat) : Prop := ∃ a b c : Int, H p = some (.lst [.int a, .int b, .int c]) ∧ 0 ≤ a ∧ 0 ≤ b ∧ b < 2 ^ 62 ∧ 0 ≤ c ∧ c ≤ n
theorem Pool.mono {H : Hp} {p : Addr} {n m : Nat} (h : Pool H p n) (k : n ≤ m) : Pool H p m := by
  obtain ⟨a, b, c, h1, h2, h3, h4, h5, h6⟩ := h
  exact ⟨a, b, c, h1, h2, h3, h4, h5, by omega⟩
theorem Pool.same {H H' : Hp} {p : Addr} {n : Nat} (h : Pool H p n) (e : H' p = H p) : Pool H' p n := by
  obtain ⟨a, b, c, h1, r⟩ := h
  exact ⟨a, b, c, e.trans h1, r⟩
theorem Pool.new {H : Hp} {p a : Addr} {o : HO} {n : Nat} (h : Pool H p n) (e : H a = none) : Pool (upd H a o) p n := h.same (upd_ne (by
  obtain ⟨_, _, _, h1, _⟩ := h
  exact ne_of_none h1 e))
theorem Pool.ne {H : Hp} {p q : Addr} {o : HO} {n : Nat} (h : Pool H p n) (e : q ≠ p) : Pool (upd H q o) p n := h.same (upd_ne (fun z => e z.symm))
def spPool (K : PySem.W.Frag) : Sp := fun vs H Q _ => ∃ (a : Addr) (ns : List Int) (i : Nat), vs = [.ref a, .int i] ∧ SqL K H a (ns.map V.int) ∧ ns.length ≤ 63 ∧ i < 63 ∧
  ∀ p o, H p = none → Pool (upd H p o) p 0 → Q (.ref p) (upd H p o)
/-- a draw: some number below span; only the pool changes -/
def spDraw : Sp := fun vs H Q _ => ∃ (p : Addr) (n : Nat) (m : Int), vs = [.ref p, .int m] ∧ Pool H p n ∧ n ≤ 1000000000 ∧ 0 < m ∧ m < 2 ^ 200 ∧
  ∀ (d : Int) o, 0 ≤ d → d < m → Pool (upd H p o) p (n + 1) → Q (.int d) (upd H p o)
section
variable {P : Program} {w : World} {K : PySem.W.Frag} {mg : Str → Option Value} {base : Heap}
abbrev FnP (K : PySem.W.Frag) (x q : Str) (st : Stmt) (f : Addr) (fd : FuncData) : Prop := FunD K x q (defArgs st) (defBody st) (defScope st) [] [] f fd
theorem sc_pool : FnScope ["script", "spot", "cell"] ["script", "spot"] (defScope s_pool) := ⟨rfl, rfl, rfl, by decide +kernel, rfl, by decide +kernel, by decide +kernel⟩
theorem ok_pool {f : Addr} {fd : FuncData} (F : FnP K "_law_pool" "_law_pool" s_pool f fd) (T : Tx mg) : FnOk P w K mg base CX0 1 f fd ["script", "spot"] (spPool K) := by
  refine F.ok sc_pool (fun vs H Q E h => ?_) (fun cdv A outer s H vs Q E hr h => ⟨_, PSs.nox ((pss_cons (ps_set (i := 2) sc_pool.nd rfl (Or.inl rfl) pe_int)
 (Evl.pss_cut (ps_if (pt_cmpR op_lt (pv 1) (pe_callB (r := Evl.rLenS K) call_len_seq (by rfl) T.n_len (by decide +kernel) (pa_cons (pv 0) pa_nil)) (nomark _))
 (pss_one (ps_set (i := 2) sc_pool.nd rfl (Or.inl rfl) (pe_ix (r := rIxL K) ix_list (pv 0) (pv 1) (fun _ _ => rfl))))
 pss_nil)
 (pss_one (ps_ret (pe_lst (pa_cons (pe_callB (call_max2 rfl) (by rfl) T.n_max (by decide +kernel) (pa_cons pe_int (pa_cons (pe_op op_sub (pe_callB call_abs (by rfl) T.n_abs (by decide +kernel) (pa_cons (pv 2) pa_nil)) (pe_op op_powW pe_int pe_int)) pa_nil))) (pa_cons (pe_op op_add (pe_op op_mod (pe_callTy call_int1 (by rfl) T.n_int (by decide +kernel) (pa_cons (pv 2) pa_nil)) pe_int) (pe_op op_mulW pe_int (pe_op op_add (pv 1) pe_int))) (pa_cons pe_int pa_nil))))))))), ?_⟩)
  · obtain ⟨a, ns, i, rfl, _⟩ := h
    rfl
  · obtain ⟨a, ns, i, rfl, hS, hl, hi, k⟩ := h
    walk_at "rd"
    refine d_cut (M := fun σ' H' => ∃ z : Int, σ' = [some (.ref a), some (.int i), some (.int z)] ∧ H' = H) ?_ ?_
    · walk_at "rd"
      refine ite2 (fun c => ?_) (fun c => ?_)
      · have c' : (i : Int) < ((ns.map V.int).length : Nat) := of_decide_eq_true c
        rw [List.length_map] at c'
        have hi' : i < ns.length := by omega
        walk_at "rd"
        refine d_ix1 hS (atI_nat (v := .int ns[i]) (by rw [List.getElem?_map, List.getElem?_eq_getElem hi']; rfl)) ?_
        walk_at "rd"
        exact ⟨_, rfl, rfl⟩
      · walk_at "rd"
        exact ⟨_, rfl, rfl⟩
    · rintro σ' H' ⟨z, rfl, rfl⟩
      walk_at "rd"
      refine d_rI ⟨by decide, by decide⟩ ?_
      walk_at "rd"
      refine d_rI (by decide) ?_
      walk_at "rd"
      refine d_rI (wide_mul (a := 30) (b := 30) (by decide) (by omega) (by decide) (by decide) (by decide)) ?_
      walk_at "rd"
      intro p hp
      refine k p _ hp ⟨_, _, _, upd_same, ?_, ?_, ?_, by decide, by decide⟩
      · split <;> omega
      · have h1 := Int.emod_nonneg z (show (2305843009213693951 : Int) ≠ 0 by decide)
        omega
      · have h1 := Int.emod_lt_of_pos z (show (0 : Int) < 2305843009213693951 by decide)
        omega
theorem sc_draw : FnScope ["pool", "span", "drawn", "mixed"] ["pool", "span"] (defScope s_draw) := ⟨rfl, rfl, rfl, by decide +kernel, rfl, by decide +kernel, by decide +kernel⟩
theorem pow3_lt {x : Int} {n : Nat} (h : x.natAbs < 2 ^ n) (h0 : 0 < n) (h2 : n ≤ 40000000) : CPowW x 3 := by
  refine ⟨by decide, ?_⟩
  have e := PySem.Flt.log2_lt_of h0 h
  omega
theorem ok_draw {f : Addr} {fd : FuncData} (F : FnP K "_law_draw" "_law_draw" s_draw f fd) (T : Tx mg) : FnOk P w K mg base CX0 1 f fd ["pool", "span"] spDraw := by
  refine F.ok sc_draw (fun vs H Q E h => ?_) (fun cdv A outer s H vs Q E hr h => ⟨_, PSs.nox ((pss_cons (ps_if (pt_cmpR op_gt (pe_ix (r := rIxL K) ix_list (pv 0) pe_int (fun _ _ => rfl)) pe_int (nomark _))
 (pss_cons (ps_set (i := 2) sc_draw.nd rfl (Or.inl rfl) (pe_op op_mod (pe_callTy call_int1 (by rfl) T.n_int (by decide +kernel) (pa_cons (pe_ix (r := rIxL K) ix_list (pv 0) pe_int (fun _ _ => rfl)) pa_nil)) (pv 1)))
 (pss_cons (ps_asg (pe_op op_fdivW (pe_ix (r := rIxL K) ix_list (pv 0) pe_int (fun _ _ => rfl)) (pv 1)) (pg_sub (pv 0) pe_int set_list))
 (pss_one (ps_ret (pv 2)))))
 pss_nil)
 (pss_cons (ps_asg (pe_op op_add (pe_ix (r := rIxL K) ix_list (pv 0) pe_int (fun _ _ => rfl)) pe_int) (pg_sub (pv 0) pe_int set_list))
 (pss_cons (ps_set (i := 3) sc_draw.nd rfl (Or.inl rfl) (pe_op op_mod (pe_callTy call_int1 (by rfl) T.n_int (by decide +kernel) (pa_cons (pe_op op_powW (pe_op op_add (pe_ix (r := rIxL K) ix_list (pv 0) pe_int (fun _ _ => rfl)) (pe_op op_mulW pe_int (pe_ix (r := rIxL K) ix_list (pv 0) pe_int (fun _ _ => rfl)))) pe_int) pa_nil)) pe_int))
 (pss_cons (ps_set (i := 3) sc_draw.nd rfl (Or.inl rfl) (pe_op op_mod (pe_callTy call_int1 (by rfl) T.n_int (by decide +kernel) (pa_cons (pe_op op_powW (pe_op op_add (pv 3) (pe_op op_mulW pe_int (pe_ix (r := rIxL K) ix_list (pv 0) pe_int (fun _ _ => rfl)))) pe_int) pa_nil)) pe_int))
 (pss_one (ps_ret (pe_op op_mod (pe_callTy call_int1 (by rfl) T.n_int (by decide +kernel) (pa_cons (pe_op op_fdivW (pv 3) pe_int) pa_nil)) (pv 1))))))))), ?_⟩)
  · obtain ⟨p, n, m, rfl, _⟩ := h
    rfl
  · obtain ⟨p, n, m, rfl, ⟨a, b, c, hp, ha, hb, hb2, hc, hcn⟩, hn, hm, hm2, k⟩ := h
    have hS : SqL K H p [.int a, .int b, .int c] := SqL.of hp
    walk_at "rd"
    refine d_ix1 hS (atI_nat (j := 0) rfl) ?_
    walk_at "rd"
    refine ite2 (fun c0 => ?_) (fun c0 => ?_)
    · walk_at "rd"
      refine d_ix1 hS (atI_nat (j := 0) rfl) ?_
      walk_at "rd"
      refine d_rI hm ?_
      walk_at "rd"
      refine d_ix1 hS (atI_nat (j := 0) rfl) ?_
      walk_at "rd"
      refine d_rI (wide_div hm (b := 200) (by omega) (by decide) (by decide)) ?_
      walk_at "rd"
      refine d_setL hp rfl ?_
      walk_at "rd"
      refine k _ _ (Int.emod_nonneg _ (by omega)) (Int.emod_lt_of_pos _ hm) ⟨_, b, c, upd_same, ?_, hb, hb2, hc, by omega⟩
      exact Int.ediv_nonneg ha (by omega)
    · walk_at "rd"
      refine d_ix1 hS (atI_nat (j := 2) rfl) ?_
      walk_at "rd"
      refine d_setL hp rfl ?_
      have hp1 : upd H p (.lst [.int a, .int b, .int (c + 1)]) p = some (.lst [.int a, .int b, .int (c + 1)]) := upd_same
      have hS1 : SqL K (upd H p (.lst [.int a, .int b, .int (c + 1)])) p [.int a, .int b, .int (c + 1)] := SqL.of hp1
      walk_at "rd"
      refine d_ix1 hS1 (atI_nat (j := 1) rfl) ?_
      walk_at "rd"
      refine d_ix1 hS1 (atI_nat (j := 2) rfl) ?_
      walk_at "rd"
      refine d_rI (wide_mul (a := 30) (b := 40) (by decide) (by omega) (by decide) (by decide) (by decide)) ?_
      walk_at "rd"
      refine d_rI (pow3_lt (n := 100) (by omega) (by decide) (by decide)) ?_
      walk_at "rd"
      refine d_rI (by decide) ?_
      walk_at "rd"
      have e1 := Int.emod_nonneg ((b + 15485863 * (c + 1)) ^ (3 : Int).toNat) (show (162259276829213363391578010288127 : Int) ≠ 0 by decide)
      have e2 := Int.emod_lt_of_pos ((b + 15485863 * (c + 1)) ^ (3 : Int).toNat) (show (0 : Int) < 162259276829213363391578010288127 by decide)
      generalize hx : (b + 15485863 * (c + 1)) ^ (3 : Int).toNat % 162259276829213363391578010288127 = x at e1 e2 ⊢
      refine d_ix1 hS1 (atI_nat (j := 2) rfl) ?_
      walk_at "rd"
      refine d_rI (wide_mul (a := 30) (b := 40) (by decide) (by omega) (by decide) (by decide) (by decide)) ?_
      walk_at "rd"
      refine d_rI (pow3_lt (n := 200) (by omega) (by decide) (by decide)) ?_
      walk_at "rd"
      refine d_rI (by decide) ?_
      walk_at "rd"
      refine d_rI (wide_div (by decide) (b := 40) (by decide) (by decide) (by decide)) ?_
      walk_at "rd"
      refine d_rI hm ?_
      walk_at "rd"
      exact k _ _ (Int.emod_nonneg _ (by omega)) (Int.emod_lt_of_pos _ hm) ⟨a, b, c + 1, hp1, ha, hb, hb2, by omega, by omega⟩
end
end Ds
end F16
section F17
open L2 Ds
local macro_rules | `(tactic| walk_at "ds1") => `(tactic| with_reducible first
  | refine d_seq ?_ | refine d_asg ?_ | refine d_gname ?_ | refine d_if ?_ | refine d_next ?_ | refine d_ret ?_ | refine d_drop ?_ | refine d_test ?_ | refine d_B ?_ | refine d_c ?_
  | refine d_op ?_ | refine d_un ?_ | refine d_rI0 ?_ | refine d_rU ?_ | refine d_cons ?_ | refine d_nil ?_ | refine d_cb ?_ | refine d_bl ?_ | refine d_call ?_ | refine d_and ?_ | refine d_or ?_ | refine d_not ?_ | refine d_lst ?_ | refine d_tup ?_
  | refine d_par ?_ | refine d_par2 ?_ | refine d_for ?_ | refine d_rng1 ?_ | refine d_rng2 ?_ | refine d_ils ?_ | refine d_its ?_ | refine d_ien ?_ | refine d_lc ?_ | refine d_yes ?_ | refine d_step2 ?_ | refine d_chain ?_ | refine d_andV ?_ | refine d_orV ?_ | refine d_notV ?_ | refine d_slice ?_ | refine d_nopart ?_ | refine d_part ?_ | refine d_int ?_ | refine d_s2 ?_ | refine d_mkO ?_ | refine d_callS ?_ | refine d_p0 ?_ | refine d_p1 ?_ | refine d_disp ?_ | refine d_din ?_ | refine d_dnotin ?_ | refine d_dput ?_ | refine d_sfld ?_ | refine d_fld ?_ | refine d_gcons ?_ | refine d_gnil ?_ | refine d_gsub ?_ | refine d_bm ?_ | refine d_bm0 ?_)
local macro_rules | `(tactic| walk_at "ds2") => `(tactic| first
  | ((with_reducible show tVar _ _ _ _); refine d_var (by exact rfl) ?_)
  | (with_reducible refine d_i1 ?_) | (with_reducible refine d_i2 ?_) | (with_reducible refine d_o1 ?_) | ((with_reducible refine d_ls ?k1 ?_); (case k1 => exact Nat.le_of_ble_eq_true rfl))
  | ((with_reducible refine' d_lenS ?k1 ?_); (case k1 => first | assumption | exact SqL.of (by assumption))) | ((with_reducible refine' d_listS ?k1 ?_); (case k1 => first | assumption | exact SqL.of (by assumption)))
  | ((with_reducible refine' d_len ?k1 ?_); (case k1 => first | assumption | exact SqL.of (by assumption)))
  | ((with_reducible refine' d_eq ?k1 ?_); (case k1 => rfl)) | ((with_reducible refine' d_ne ?k1 ?_); (case k1 => rfl))
  | ((with_reducible refine' d_new ?k1 ?_); (case k1 => exact Nat.le_of_ble_eq_true rfl)))
local macro_rules | `(tactic| walk_at "rd") => `(tactic| repeat (first | walk_at "ds1" | walk_at "ds2"))
local macro_rules | `(tactic| walk_at "sub") => `(tactic| repeat (first | exact List.Sublist.slnil | exact List.Sublist.refl _ | refine List.Sublist.cons₂ _ ?_ | refine List.Sublist.cons _ ?_))

namespace Ds
open PySem PySem.Spec PyProof.Rows L2
abbrev s_chart : Stmt := top 19
abbrev N_chart : List Str := ["pool", "widest", "letters_here", "left", "turn", "order", "rest_here", "ties", "late", "lines", "veils", "tie", "way", "early"]
section
variable {P : Program} {w : World} {K : PySem.W.Frag} {mg : Str → Option Value} {base : Heap}
theorem sc_chart : FnScope N_chart ["pool", "widest"] (defScope s_chart) := ⟨rfl, rfl, rfl, by decide +kernel, rfl, by decide +kernel, by decide +kernel⟩
/-- a drawn chart stands at t -/
structure ChartAt (H : Hp) (t l1 l2 l3 : Addr) (as bs : List Addr) (ns : List Str) (ls vs : List Pr) : Prop where
  h0 : H t = some (.tup [.ref l1, .ref l2, .ref l3])
  h1 : H l1 = some (.lst (ns.map V.str))
  h2 : H l2 = some (.lst (as.map V.ref))
  h3 : H l3 = some (.lst (bs.map V.ref))
  p2 : PrsAt H as ls
  p3 : PrsAt H bs vs
def spChart : Sp := fun vs H Q _ => ∃ (p : Addr) (n W : Nat), vs = [.ref p, .int W] ∧ Pool H p n ∧ n ≤ 999990000 ∧ 1 ≤ W ∧ W ≤ 6 ∧
  ∀ (t l1 l2 l3 : Addr) (as bs : List Addr) (ns : List Str) (ls vs : List Pr) (o : HO) (H' : Hp),
    Mem H [p] [(p, o), (l1, .lst (ns.map V.str)), (l2, .lst (as.map V.ref)), (l3, .lst (bs.map V.ref)), (t, .tup [.ref l1, .ref l2, .ref l3])] H' →
    Pool H' p (n + 200) → PrsAt H' as ls → PrsAt H' bs vs → ChartOk W ns ls vs → Q (.ref t) H'
theorem d_draw {H0 H : Hp} {S : List Addr} {L : List (Addr × HO)} {p : Addr} {o : HO} {n : Nat} {m : Int} {Q : VK} {E : XK} (M : Mem H0 S L H) (i : Nat) (hi : L[i]? = some (p, o)) (hp : Pool H p n) (hn : n ≤ 1000000000) (hm : 0 < m) (hm2 : m < 2 ^ 200)
    (k : ∀ (d : Int) (o' : HO), 0 ≤ d → d < m → Mem H0 S (L.set i (p, o')) (upd H p o') → Pool (upd H p o') p (n + 1) → TupS H (upd H p o') → Q (.int d) (upd H p o')) : spDraw ([.ref p, .int m] ++ []) H Q E := by
  refine ⟨p, n, m, rfl, hp, hn, hm, hm2, fun d o' h0 h1 hp' => ?_⟩
  obtain ⟨a, b, c, e, _⟩ := hp
  exact k d o' h0 h1 (M.set i hi) hp' (TupS.lst e)
theorem ok_chart {f : Addr} {fd : FuncData} (F : FnP K "_law_chart" "_law_chart" s_chart f fd) (T : Tx mg) (C_draw : Cal P w K mg base CX0 1 "_law_draw" ["pool", "span"] spDraw) : FnOk P w K mg base CX0 2 f fd ["pool", "widest"] spChart := by
  refine F.ok sc_chart (fun vs H Q E h => ?_) (fun cdv A outer s H vs Q E hr h => ⟨_, PSs.nox ((pss_cons (ps_par (i := 2) (j := 3) (by rfl) sc_chart.nd rfl rfl (by decide) rfl rfl (pa_cons (pe_lst pa_nil) (pa_cons (pe_callTy (call_listS rfl) (by rfl) T.n_list (by decide +kernel) (pa_cons pe_str pa_nil)) pa_nil)) (by rfl))
 (pss_cons (ps_for PassesOwn.never rfl (pi_range1 (by rfl) T.n_range (pa_cons (pe_op op_add pe_int (pe_cal C_draw hr rfl (pa_cons (pv 0) (pa_cons (pv 1) pa_nil)))) pa_nil)) (pg_name (i := 4) sc_chart.nd rfl (Or.inl rfl))
 (pss_one (ps_expr (pe_bmK (K := K) PySem.F.plainAttrs_list PySem.F.slot_list_append PySem.F.type_list_append mt_append (pv 2) (pa_cons (pe_bmK (K := K) PySem.F.plainAttrs_list PySem.F.slot_list_pop PySem.F.type_list_pop mt_popAt (pv 3) (pa_cons (pe_cal C_draw hr rfl (pa_cons (pv 0) (pa_cons (pe_callB (r := Evl.rLenS K) call_len_seq (by rfl) T.n_len (by decide +kernel) (pa_cons (pv 3) pa_nil)) pa_nil))) pa_nil)) pa_nil)))))
 (pss_cons (ps_asg (pe_tup (pa_cons (pe_lst pa_nil) (pa_cons (pe_callTy (r := Evl.rListS K) call_list_of (by rfl) T.n_list (by decide +kernel) (pa_cons (pv 2) pa_nil)) (pa_cons (pe_lst pa_nil) pa_nil)))) (pg_tupK (K := K) (n := 3) (pgs_cons (pg_name (i := 5) sc_chart.nd rfl (Or.inr rfl)) (pgs_cons (pg_name (i := 6) sc_chart.nd rfl (Or.inl rfl)) (pgs_cons (pg_name (i := 7) sc_chart.nd rfl (Or.inl rfl)) pgs_nil)))))
 (pss_cons (ps_while PassesOwn.never (pt_cmpR (r := rNeD K) (op_neD hr.units) (pv 6) (pe_lst pa_nil) (nomark _))
 (pss_one (ps_expr (pe_bmK (K := K) PySem.F.plainAttrs_list PySem.F.slot_list_append PySem.F.type_list_append mt_append (pv 5) (pa_cons (pe_bmK (K := K) PySem.F.plainAttrs_list PySem.F.slot_list_pop PySem.F.type_list_pop mt_popAt (pv 6) (pa_cons (pe_cal C_draw hr rfl (pa_cons (pv 0) (pa_cons (pe_callB (r := Evl.rLenS K) call_len_seq (by rfl) T.n_len (by decide +kernel) (pa_cons (pv 6) pa_nil)) pa_nil))) pa_nil)) pa_nil)))))
 (pss_cons (ps_for PassesOwn.never rfl (pi_range1 (by rfl) T.n_range (pa_cons (pe_callB (r := Evl.rLenS K) call_len_seq (by rfl) T.n_len (by decide +kernel) (pa_cons (pv 5) pa_nil)) pa_nil)) (pg_name (i := 8) sc_chart.nd rfl (Or.inr rfl))
 (pss_one (ps_expr (pe_bmK (K := K) PySem.F.plainAttrs_list PySem.F.slot_list_extend PySem.F.type_list_extend mt_extend (pv 7) (pa_cons (pe_lc (own := [("early", 13)]) (by rfl) sc_chart.nd (pi_range1 (by rfl) T.n_range (pa_cons (pv 8) pa_nil)) (blkOk_by (own := [("early", 13)]) (N := N_chart) (sc := defScope s_chart) (by decide +kernel)) (fun _ _ _ _ _ => (pg_name (i := 13) sc_chart.nd rfl (Or.inl rfl))) (fun _ _ _ _ _ => pts_nil) (fun _ _ _ _ _ => (pe_tup (pa_cons (pe_ix (r := rIxL K) ix_list (pv 5) (pv 13) (fun _ _ => rfl)) (pa_cons (pe_ix (r := rIxL K) ix_list (pv 5) (pv 8) (fun _ _ => rfl)) pa_nil))))) pa_nil)))))
 (pss_cons (ps_par (i := 9) (j := 10) (by rfl) sc_chart.nd rfl rfl (by decide) rfl rfl (pa_cons (pe_lst pa_nil) (pa_cons (pe_lst pa_nil) pa_nil)) (by rfl))
 (pss_cons (ps_for PassesOwn.never rfl (pi_listK (K := K) (pv 7)) (pg_name (i := 11) sc_chart.nd rfl (Or.inl rfl))
 (pss_cons (ps_set (i := 12) sc_chart.nd rfl (Or.inl rfl) (pe_cal C_draw hr rfl (pa_cons (pv 0) (pa_cons pe_int pa_nil))))
 (Evl.pss_cut (ps_if (pt_cmpR (r := rIn K false) op_in_seq (pv 12) (pe_tup (pa_cons pe_int (pa_cons pe_int (pa_cons pe_int pa_nil)))) (by rfl))
 (pss_one (ps_expr (pe_bmK (K := K) PySem.F.plainAttrs_list PySem.F.slot_list_insert PySem.F.type_list_insert mt_insert (pv 9) (pa_cons (pe_cal C_draw hr rfl (pa_cons (pv 0) (pa_cons (pe_op op_add (pe_callB (r := Evl.rLenS K) call_len_seq (by rfl) T.n_len (by decide +kernel) (pa_cons (pv 9) pa_nil)) pe_int) pa_nil))) (pa_cons (pv 11) pa_nil)))))
 pss_nil)
 (pss_one (ps_if (PW.pt (pw_and (pt_cmpR (r := rIn K false) op_in_seq (pv 12) (pe_tup (pa_cons pe_int (pa_cons pe_int pa_nil))) (by rfl)) (pw_and1 (pt_cmpR op_lt (pe_callB (r := Evl.rLenS K) call_len_seq (by rfl) T.n_len (by decide +kernel) (pa_cons (pv 10) pa_nil)) pe_int (nomark _)))))
 (pss_one (ps_expr (pe_bmK (K := K) PySem.F.plainAttrs_list PySem.F.slot_list_insert PySem.F.type_list_insert mt_insert (pv 10) (pa_cons (pe_cal C_draw hr rfl (pa_cons (pv 0) (pa_cons (pe_op op_add (pe_callB (r := Evl.rLenS K) call_len_seq (by rfl) T.n_len (by decide +kernel) (pa_cons (pv 10) pa_nil)) pe_int) pa_nil))) (pa_cons (pe_sliceStepK (K := K) (pv 11) (pe_ix (r := rIxL K) ix_list (pe_lst (pa_cons pe_int (pa_cons (pe_un un_neg pe_int) pa_nil))) (pe_cal C_draw hr rfl (pa_cons (pv 0) (pa_cons pe_int pa_nil))) (fun _ _ => rfl))) pa_nil)))))
 pss_nil)))))
 (pss_one (ps_ret (pe_tup (pa_cons (pv 2) (pa_cons (pv 9) (pa_cons (pv 10) pa_nil)))))))))))))), ?_⟩)
  · obtain ⟨p, n, W, rfl, _⟩ := h
    rfl
  · obtain ⟨p, n, W, rfl, hpool, hn, hW1, hW2, k⟩ := h
    obtain ⟨p0, hp0⟩ : ∃ o, H p = some o := by
      obtain ⟨a, b, c, e, _⟩ := hpool
      exact ⟨_, e⟩
    have M0 := Mem.start1 hp0
    walk_at "rd"
    intro a na
    walk_at "rd"
    intro b nb
    have M1 : Mem H [p] [(p, p0), (a, .lst [])] _ := M0.alloc na
    have M2 : Mem H [p] [(p, p0), (a, .lst ([].map V.str)), (b, .lst (abc.map V.str))] (upd (upd H a (.lst [])) b (.lst (abc.map V.str))) := M1.alloc nb
    have P2 : Pool (upd (upd H a (.lst [])) b (.lst (abc.map V.str))) p n := (hpool.new na).new nb
    generalize hH2 : upd (upd H a (.lst [])) b (.lst (abc.map V.str)) = H2 at M2 P2
    have eH2 : (upd (upd H a (HO.lst [])) b (HO.lst (List.map (fun c => V.str { cps := #[c] }) (Str.ofString "abcdefghijklmnopqrstuvwxyz").cps.toList))) = H2 := by
      rw [← hH2]
      unfold abc
      rw [List.map_map]
      rfl
    rw [eH2]
    walk_at "rd"
    refine d_draw M2 0 rfl P2 (by omega) (by omega) (by omega) fun d o' d0 d1 M3 P3 _ => ?_
    walk_at "rd"
    refine ⟨by omega, by omega, for_range (lo := 0) (n := (1 + d).toNat) (fun i σ' Hc => ∃ (xs ys : List Str) (op : HO) (v : Option V),
      σ' = [some (.ref p), some (.int W), some (.ref a), some (.ref b), v, none, none, none, none, none, none, none, none, none] ∧
      Mem H [p] [(p, op), (a, .lst (xs.map V.str)), (b, .lst (ys.map V.str))] Hc ∧ Pool Hc p (n + 1 + i) ∧ xs.length = i ∧ (xs ++ ys).Perm abc) ?_ ?_ ?_⟩
    · exact ⟨[], abc, _, none, rfl, M3, P3, rfl, List.Perm.refl _⟩
    · rintro i σ' Hc hi ⟨xs, ys, op, v, rfl, Mc, Pc, hx, hperm⟩
      have hlen := hperm.length_eq
      rw [List.length_append, abc_len] at hlen
      walk_at "rd"
      refine d_ty (Mc.get 1) ?_
      walk_at "rd"
      refine d_ty (Mc.get 2) ?_
      walk_at "rd"
      refine d_lenS (SqL.of (Mc.get 2)) ?_
      walk_at "rd"
      rw [List.length_map]
      refine d_draw (m := (ys.length : Nat)) Mc 0 rfl Pc (by omega) (by omega) (by omega) fun e o2 e0 e1 Md Pd _ => ?_
      walk_at "rd"
      refine d_popAt (Md.get 2) e0 (by rw [List.length_map]; exact e1) (by rw [List.length_map]; omega) fun y hy => ?_
      walk_at "rd"
      have Me := Md.set 2 (o' := .lst ((ys.map V.str).eraseIdx e.toNat)) rfl
      refine d_append (Me.get 1) (by rw [List.length_map]; omega) ?_
      walk_at "rd"
      obtain ⟨z, hz, rfl⟩ := map_get hy
      have Mf := Me.set 1 (o' := .lst ((xs ++ [z]).map V.str)) rfl
      refine ⟨xs ++ [z], ys.eraseIdx e.toNat, o2, _, rfl, ?_, ?_, by rw [List.length_append, hx]; rfl, ?_⟩
      · have e1 : xs.map V.str ++ [V.str z] = (xs ++ [z]).map V.str := by simp
        have e2 : (ys.map V.str).eraseIdx e.toNat = (ys.eraseIdx e.toNat).map V.str := eraseIdx_mapS ..
        rw [e1]
        rw [e2] at Mf ⊢
        exact Mf
      · refine (Pd.ne ?_).ne ?_ |>.mono (by omega)
        · exact Md.ne 0 2 rfl rfl (by decide)
        · exact Md.ne 0 1 rfl rfl (by decide)
      · rw [List.append_assoc]
        exact ((cons_erase hz).append_left xs).trans hperm
    · rintro σ' Hc ⟨xs, ys, op, v, rfl, Mc, Pc, hx, hperm⟩
      walk_at "rd"
      intro c nc
      have Ma := Mc.alloc nc (o' := .lst [])
      walk_at "rd"
      refine d_listS (SqL.of (Ma.get 1)) ?_
      intro r nr
      have Mb := Ma.alloc nr (o' := .lst (xs.map V.str))
      walk_at "rd"
      intro u nu
      have Mu := Mb.alloc nu (o' := .lst [])
      walk_at "rd"
      intro t0 nt0
      have Mt := Mu.alloc nt0 (o' := .tup [.ref c, .ref r, .ref u])
      have Pt := (((Pc.new nc (o := .lst [])).new nr (o := .lst (xs.map V.str))).new nu (o := .lst [])).new nt0 (o := .tup [.ref c, .ref r, .ref u])
      walk_at "rd"
      refine d_gtup (SqT.of (Mt.get 6)) ?_ rfl
      walk_at "rd"
      have hlen := hperm.length_eq
      rw [List.length_append, abc_len] at hlen
      have hnd : xs.Nodup := (List.nodup_append.mp (hperm.nodup_iff.mpr abc_nodup)).1
      have hlet : ∀ x ∈ xs, IsLet x := fun x hx => abc_let (hperm.mem_iff.mp (List.mem_append_left _ hx))
      -- the order
      obtain ⟨Wo, hWo⟩ : ∃ Wo : Nat → L2.St → Hp → Prop, Wo = fun m σ' Hd => ∃ (zs ws : List Str) (o1 : HO), ws.length = m ∧
        σ' = [some (.ref p), some (.int W), some (.ref a), some (.ref b), v, some (.ref c), some (.ref r), some (.ref u), none, none, none, none, none, none] ∧
        Mem H [p] [(p, o1), (a, .lst (xs.map V.str)), (b, .lst (ys.map V.str)), (c, .lst (zs.map V.str)), (r, .lst (ws.map V.str)), (u, .lst []), (t0, .tup [.ref c, .ref r, .ref u])] Hd ∧
        Pool Hd p (n + 20 + zs.length) ∧ (zs ++ ws).Perm xs := ⟨_, rfl⟩
      refine ⟨Wo, ⟨xs.length, by rw [hWo]; exact ⟨[], xs, op, rfl, rfl, Mt, Pt.mono (by simp; omega), List.Perm.refl _⟩⟩, ?_⟩
      rintro m σ' Hd h0
      rw [hWo] at h0
      obtain ⟨zs, ws, o1, rfl, rfl, Md, Pd, hpm⟩ := h0
      have hl2 := hpm.length_eq
      rw [List.length_append] at hl2
      walk_at "rd"
      intro e ne
      have Me := Md.alloc ne (o' := .lst [])
      have Pe := Pd.new ne (o := .lst [])
      walk_at "rd"
      refine d_rNeD (.lst (SqL.of (Me.get 4)) (dp_strs ws)) (.lst (SqL.of (Me.get 7)) .nil) (shaped_strs fun x hx => let_ok (hlet x (hpm.mem_iff.mp (List.mem_append_right _ hx)))) shaped_nil ?_
      rw [eqv_strs_nil]
      walk_at "rd"
      cases ws with
      | cons w0 ws =>
        refine iteT ⟨Wo ws.length, fun σ' H' h => ⟨ws.length, by simp, h⟩, ?_⟩
        rw [List.length_cons] at hl2
        walk_at "rd"
        refine d_ty (Me.get 3) ?_
        walk_at "rd"
        refine d_ty (Me.get 4) ?_
        walk_at "rd"
        refine d_lenS (SqL.of (Me.get 4)) ?_
        walk_at "rd"
        rw [List.length_map]
        refine d_draw (m := ((w0 :: ws).length : Nat)) Me 0 rfl Pe (by omega) (by rw [List.length_cons]; omega) (by rw [List.length_cons]; omega) fun g o2 g0 g1 Mg Pg _ => ?_
        walk_at "rd"
        refine d_popAt (Mg.get 4) g0 (by rw [List.length_map]; exact g1) (by simp; omega) fun y hy => ?_
        walk_at "rd"
        obtain ⟨z, hz, rfl⟩ := map_get hy
        have Mh := Mg.set 4 (o' := .lst (((w0 :: ws).map V.str).eraseIdx g.toNat)) rfl
        refine d_append (Mh.get 3) (by rw [List.length_map]; omega) ?_
        walk_at "rd"
        have Mi := Mh.set 3 (o' := .lst ((zs ++ [z]).map V.str)) rfl
        rw [hWo]
        have pe := cons_erase hz
        refine ⟨zs ++ [z], (w0 :: ws).eraseIdx g.toNat, o2, ?_, rfl, ?_, ?_, ?_⟩
        · have := pe.length_eq
          simp at this
          omega
        · have e1 : zs.map V.str ++ [V.str z] = (zs ++ [z]).map V.str := by simp
          have e2 : ((w0 :: ws).map V.str).eraseIdx g.toNat = ((w0 :: ws).eraseIdx g.toNat).map V.str := eraseIdx_mapS ..
          rw [e1]
          rw [e2] at Mi ⊢
          exact Mi.sub (by walk_at "sub")
        · refine (Pg.ne (Mg.ne 0 4 rfl rfl (by decide))).ne (Mg.ne 0 3 rfl rfl (by decide)) |>.mono ?_
          simp
          omega
        · rw [List.append_assoc]
          exact (pe.append_left zs).trans hpm
      | nil =>
        refine iteF ?_
        rw [List.append_nil] at hpm
        have hndz : zs.Nodup := hpm.nodup_iff.mpr hnd
        have hl3 : zs.length = xs.length := hpm.length_eq
        have hx6 : xs.length ≤ 6 := by omega
        -- the ties
        walk_at "rd"
        refine d_lenS (SqL.of (Me.get 3)) ?_
        walk_at "rd"
        rw [List.length_map]
        refine ⟨by omega, by omega, for_range (lo := 0) (n := zs.length) (fun i σ' He => ∃ (as : List Addr) (vl ve : Option V),
          σ' = [some (.ref p), some (.int W), some (.ref a), some (.ref b), v, some (.ref c), some (.ref r), some (.ref u), vl, none, none, none, none, ve] ∧
          Mem H [p] [(p, o1), (a, .lst (xs.map V.str)), (c, .lst (zs.map V.str)), (u, .lst (as.map V.ref))] He ∧
          Pool He p (n + 30) ∧ PrsAt He as (ties zs i)) ?_ ?_ ?_⟩
        · exact ⟨[], none, none, rfl, Me.sub (by walk_at "sub"), Pe.mono (by omega), .nil⟩
        · rintro i σ' He hi ⟨as, vl, ve, rfl, Mf, Pf, hAs⟩
          walk_at "rd"
          refine d_ty (Mf.get 3) ?_
          walk_at "rd"
          refine ⟨by omega, by omega, fun D nD => lc_range (lo := 0) (n := (0 + (i : Int)).toNat) (fun j Hf => ∃ (bs : List Addr),
            Mem H [p] [(p, o1), (a, .lst (xs.map V.str)), (c, .lst (zs.map V.str)), (u, .lst (as.map V.ref)), (D, .lst (bs.map V.ref))] Hf ∧
            Pool Hf p (n + 30) ∧ PrsAt Hf as (ties zs i) ∧ PrsAt Hf bs ((tiesAt zs i).take j)) ?_ ?_ ?_⟩
          · exact ⟨[], Mf.alloc nD, Pf.new nD, hAs.ts (TupS.new nD), by rw [List.take_zero]; exact .nil⟩
          · rintro j Hf hj ⟨bs, Mg, Pg, hAs, hBs⟩
            have hj' : j < i := by omega
            have hbl := hBs.length
            rw [List.length_take] at hbl
            walk_at "rd"
            refine ⟨rfl, ?_⟩
            walk_at "rd"
            refine iteT ?_
            walk_at "rd"
            refine d_ix1 (SqL.of (Mg.get 2)) (v := .str (zs.getD j Str.empty)) ?_ ?_
            · have e : ((0 : Int) + (j : Int)) = ((j : Nat) : Int) := by omega
              rw [e]
              exact atI_nat (by rw [List.getElem?_map, getD_some (by omega)]; rfl)
            walk_at "rd"
            refine d_ix1 (SqL.of (Mg.get 2)) (v := .str (zs.getD i Str.empty)) ?_ ?_
            · have e : ((0 : Int) + (i : Int)) = ((i : Nat) : Int) := by omega
              rw [e]
              exact atI_nat (by rw [List.getElem?_map, getD_some (by omega)]; rfl)
            walk_at "rd"
            intro t nt
            have Mh := Mg.alloc nt (o' := .tup [.str (zs.getD j Str.empty), .str (zs.getD i Str.empty)])
            refine ⟨bs.map V.ref, Mh.get 4, Nat.lt_of_lt_of_le (show _ < 100000 by rw [List.length_map]; omega) (by decide), bs ++ [t], ?_, ?_, ?_, ?_⟩
            · have e1 : bs.map V.ref ++ [V.ref t] = (bs ++ [t]).map V.ref := by simp
              rw [e1]
              exact (Mh.set 4 rfl).sub (by walk_at "sub")
            · exact (Pg.new nt).ne (Mh.ne 0 4 rfl rfl (by decide))
            · exact (hAs.ts (TupS.new nt)).ts (TupS.lst (Mh.get 4))
            · have hk : (tiesAt zs i)[j]? = some (zs.getD j Str.empty, zs.getD i Str.empty) := by
                unfold tiesAt
                rw [List.getElem?_map, List.getElem?_range hj']
                rfl
              rw [take_succ_of hk]
              refine PrsAt.append ((hBs.ts (TupS.new nt)).ts (TupS.lst (Mh.get 4))) (.cons ?_ .nil)
              exact TupS.lst (Mh.get 4) _ _ upd_same
          · rintro Hf ⟨bs, Mg, Pg, hAs, hBs⟩
            have hbl := hBs.length
            rw [List.length_take] at hbl
            walk_at "rd"
            have hal := hAs.length
            have htl := ties_len zs i
            have hi6 : i * i ≤ 36 := Nat.mul_le_mul (by omega : i ≤ 6) (by omega : i ≤ 6)
            refine d_extend (Mg.get 3) (Mg.get 4) (by rw [List.length_map, List.length_map]; omega) ?_
            walk_at "rd"
            refine ⟨as ++ bs, _, ve, rfl, ?_, ?_, ?_⟩
            · have e1 : as.map V.ref ++ bs.map V.ref = (as ++ bs).map V.ref := by simp
              rw [e1]
              exact (Mg.set 3 rfl).sub (by walk_at "sub")
            · exact Pg.ne (Mg.ne 0 3 rfl rfl (by decide))
            · rw [ties]
              refine PrsAt.append (hAs.ts (TupS.lst (Mg.get 3))) ?_
              have e2 : (tiesAt zs i).take (0 + (i : Int)).toNat = tiesAt zs i := List.take_of_length_le (by simp [tiesAt])
              rw [e2] at hBs
              exact hBs.ts (TupS.lst (Mg.get 3))
        · rintro σ' He ⟨as, vl, ve, rfl, Mf, Pf, hAs⟩
          have hal := hAs.length
          have htl := ties_len zs zs.length
          have hi6 : zs.length * zs.length ≤ 36 := Nat.mul_le_mul (by omega : zs.length ≤ 6) (by omega : zs.length ≤ 6)
          have tnd := ties_nodup hndz (Nat.le_refl _)
          have tsw : ∀ p ∈ ties zs zs.length, (p.2, p.1) ∉ ties zs zs.length := fun p hp => ties_swap hndz (Nat.le_refl _) hp
          generalize hT : ties zs zs.length = TT at hAs hal htl tnd tsw
          walk_at "rd"
          intro l nl
          have Ml := Mf.alloc nl (o' := .lst [])
          walk_at "rd"
          intro q nq
          have Mq := Ml.alloc nq (o' := .lst [])
          walk_at "rd"
          refine d_iList (SqL.of (Mq.get 3)) ?_
          refine for_list (K := K) (a := u) (xs := as.map V.ref) (fun i σ' Hg => ∃ (ls vs : List Pr) (la va : List Addr) (o2 : HO) (vt vw : Option V),
            σ' = [some (.ref p), some (.int W), some (.ref a), some (.ref b), v, some (.ref c), some (.ref r), some (.ref u), vl, some (.ref l), some (.ref q), vt, vw, ve] ∧
            Mem H [p] [(p, o2), (a, .lst (xs.map V.str)), (c, .lst (zs.map V.str)), (u, .lst (as.map V.ref)), (l, .lst (la.map V.ref)), (q, .lst (va.map V.ref))] Hg ∧
            Pool Hg p (n + 30 + 4 * i) ∧ PrsAt Hg as TT ∧ PrsAt Hg la ls ∧ PrsAt Hg va vs ∧ Laid TT i ls vs ∧ la.length ≤ i) ?_ ?_ ?_ ?_
          · exact ⟨[], [], [], [], _, none, none, rfl, Mq, (Pf.new nl).new nq, (hAs.ts (TupS.new nl)).ts (TupS.new nq), .nil, .nil, ⟨fun p h => by simp at h, List.nodup_nil, fun p h => by simp at h, .nil, by simp⟩, by simp⟩
          · rintro i σ' Hg _ ⟨ls, vs, la, va, o2, vt, vw, rfl, Mg, _⟩
            exact SqL.of (Mg.get 3)
          · rintro i x σ' Hg hx1 ⟨ls, vs, la, va, o2, vt, vw, rfl, Mg, Pg, hAs, hLa, hVa, hL, hlai⟩
            obtain ⟨ta, hta, rfl⟩ := map_get hx1
            obtain ⟨tp, htp, hob⟩ := hAs.get hta
            have hil : i < as.length := (List.getElem?_eq_some_iff.mp hta).1
            walk_at "rd"
            refine d_draw (m := 5) Mg 0 rfl Pg (by omega) (by decide) (by decide) fun g o3 g0 g1 Mh Ph th => ?_
            walk_at "rd"
            refine d_cut (M := fun σ' H' => ∃ (ls : List Pr) (la : List Addr) (o2 : HO),
              σ' = [some (.ref p), some (.int W), some (.ref a), some (.ref b), v, some (.ref c), some (.ref r), some (.ref u), vl, some (.ref l), some (.ref q), some (.ref ta), some (.int g), ve] ∧
              Mem H [p] [(p, o2), (a, .lst (xs.map V.str)), (c, .lst (zs.map V.str)), (u, .lst (as.map V.ref)), (l, .lst (la.map V.ref)), (q, .lst (va.map V.ref))] H' ∧
              Pool H' p (n + 30 + 4 * i + 2) ∧ PrsAt H' as TT ∧ PrsAt H' la ls ∧ PrsAt H' va vs ∧ (∀ z ∈ ls, z ∈ TT.take (i + 1)) ∧ ls.Nodup ∧ H' ta = some (.tup [.str tp.1, .str tp.2]) ∧ la.length ≤ i + 1) ?_ ?_
            · walk_at "rd"
              intro t1 nt1
              have Mi := Mh.alloc nt1 (o' := .tup [.int 1, .int 2, .int 4])
              have ki := th.trans (TupS.new nt1 (o := .tup [.int 1, .int 2, .int 4]))
              refine d_inT (SqT.of upd_same) rfl rfl ?_
              walk_at "rd"
              refine ite2 (fun cc => ?_) (fun cc => ?_)
              · walk_at "rd"
                refine d_ty (Mi.get 4) ?_
                walk_at "rd"
                refine d_lenS (SqL.of (Mi.get 4)) ?_
                walk_at "rd"
                rw [List.length_map]
                refine d_draw (m := (la.length : Int) + 1) Mi 0 rfl (Ph.new nt1) (by omega) (by omega) (by omega) fun h o4 h0 h1 Mj Pj tj => ?_
                walk_at "rd"
                refine d_insert (Mj.get 4) (by rw [List.length_map]; omega) h0 (by omega) ?_
                walk_at "rd"
                have kj := ki.trans tj
                have kk := kj.trans (TupS.lst (o := .lst ((ins la h.toNat ta).map V.ref)) (Mj.get 4))
                have el : (la.map V.ref).take h.toNat ++ [V.ref ta] ++ (la.map V.ref).drop h.toNat = (ins la h.toNat ta).map V.ref := (ins_map V.ref la h.toNat ta).symm
                have hl2 := hL.line tnd htp h.toNat
                rw [el]
                refine ⟨ins ls h.toNat tp, ins la h.toNat ta, o4, rfl, (Mj.set 4 rfl).sub (by walk_at "sub"), (Pj.ne (Mj.ne 0 4 rfl rfl (by decide))).mono (by omega), hAs.ts kk, ?_, hVa.ts kk, hl2.1, hl2.2, kk _ _ hob, by rw [ins_len]; omega⟩
                exact PrsAt.append (PrsAt.append ((hLa.ts kk).take _) (.cons (kk _ _ hob) .nil)) ((hLa.ts kk).drop _)
              · walk_at "rd"
                exact ⟨ls, la, o3, rfl, Mi.sub (by walk_at "sub"), (Ph.new nt1).mono (by omega), hAs.ts ki, hLa.ts ki, hVa.ts ki, hL.skip.lsub, hL.lnd, ki _ _ hob, by omega⟩
            · rintro σ' H' ⟨ls, la, o2, rfl, Mh, Ph, hAs, hLa, hVa, hl1, hl2, hob, hlai⟩
              walk_at "rd"
              intro t1 nt1
              have Mi := Mh.alloc nt1 (o' := .tup [.int 3, .int 4])
              have ki := TupS.new nt1 (o := .tup [.int 3, .int 4])
              refine d_inT (SqT.of upd_same) rfl rfl ?_
              walk_at "rd"
              refine ite2 (fun cc => ?_) (fun cc => ?_)
              · walk_at "rd"
                refine d_lenS (SqL.of (Mi.get 5)) ?_
                walk_at "rd"
                rw [List.length_map]
                have hvl := hVa.length
                have hv5 := hL.vlen
                refine ite2 (fun c5 => ?_) (fun c5 => ?_)
                · have c5' : (va.length : Int) < 5 := of_decide_eq_true c5
                  walk_at "rd"
                  refine d_ty (Mi.get 5) ?_
                  walk_at "rd"
                  refine d_lenS (SqL.of (Mi.get 5)) ?_
                  walk_at "rd"
                  rw [List.length_map]
                  refine d_draw (m := (va.length : Int) + 1) Mi 0 rfl (Ph.new nt1) (by omega) (by omega) (by omega) fun h o4 h0 h1 Mj Pj tj => ?_
                  walk_at "rd"
                  intro t2 nt2
                  have Mk := Mj.alloc nt2 (o' := .lst [.int 1, .int (-1)])
                  have kk := (ki.trans tj).trans (TupS.new nt2 (o := .lst [.int 1, .int (-1)]))
                  walk_at "rd"
                  refine d_draw (m := 2) Mk 0 rfl (Pj.new nt2) (by omega) (by decide) (by decide) fun g2 o5 g20 g21 Mm Pm tm => ?_
                  have km := kk.trans tm
                  walk_at "rd"
                  refine d_ix1 (SqL.of (Mm.get 7)) (v := .int (if g2 = 0 then 1 else -1)) ?_ ?_
                  · by_cases z : g2 = 0
                    · subst z
                      rfl
                    · have z1 : g2 = 1 := by omega
                      subst z1
                      rfl
                  walk_at "rd"
                  refine ⟨ta, .str tp.1, .str tp.2, rfl, SqT.of (km _ _ hob), ?_⟩
                  by_cases z : g2 = 0
                  · refine .inl ⟨by rw [if_pos z], ?_⟩
                    walk_at "rd"
                    refine d_insert (Mm.get 5) (by rw [List.length_map]; omega) h0 (by omega) ?_
                    walk_at "rd"
                    have el : (va.map V.ref).take h.toNat ++ [V.ref ta] ++ (va.map V.ref).drop h.toNat = (ins va h.toNat ta).map V.ref := (ins_map V.ref va h.toNat ta).symm
                    rw [el]
                    have kn := km.trans (TupS.lst (o := .lst ((ins va h.toNat ta).map V.ref)) (Mm.get 5))
                    have hv3 := Laid.veil tnd tsw htp (v := tp) (.inl rfl) ⟨fun z hz => hL.lsub z hz, hL.lnd, hL.vsub, hL.vnd, hL.vlen⟩ (by omega) h.toNat
                    refine ⟨ls, ins vs h.toNat tp, la, ins va h.toNat ta, o5, _, _, rfl, (Mm.set 5 rfl).sub (by walk_at "sub"), (Pm.ne (Mm.ne 0 5 rfl rfl (by decide))).mono (by omega), hAs.ts kn, hLa.ts kn, ?_, ⟨hl1, hl2, hv3.1, hv3.2.1, hv3.2.2⟩, hlai⟩
                    exact PrsAt.append (PrsAt.append ((hVa.ts kn).take _) (.cons (TupS.lst (Mm.get 5) _ _ (km _ _ hob)) .nil)) ((hVa.ts kn).drop _)
                  · refine .inr ⟨by rw [if_neg z], ?_⟩
                    intro t3 nt3
                    have Mn := Mm.alloc nt3 (o' := .tup [.str tp.2, .str tp.1])
                    have kt := km.trans (TupS.new nt3 (o := .tup [.str tp.2, .str tp.1]))
                    walk_at "rd"
                    refine d_insert (Mn.get 5) (by rw [List.length_map]; omega) h0 (by omega) ?_
                    walk_at "rd"
                    have el : (va.map V.ref).take h.toNat ++ [V.ref t3] ++ (va.map V.ref).drop h.toNat = (ins va h.toNat t3).map V.ref := (ins_map V.ref va h.toNat t3).symm
                    rw [el]
                    have kn := kt.trans (TupS.lst (o := .lst ((ins va h.toNat t3).map V.ref)) (Mn.get 5))
                    have hv3 := Laid.veil tnd tsw htp (v := (tp.2, tp.1)) (.inr rfl) ⟨fun z hz => hL.lsub z hz, hL.lnd, hL.vsub, hL.vnd, hL.vlen⟩ (by omega) h.toNat
                    refine ⟨ls, ins vs h.toNat (tp.2, tp.1), la, ins va h.toNat t3, o5, _, _, rfl, (Mn.set 5 rfl).sub (by walk_at "sub"), ((Pm.new nt3).ne (Mn.ne 0 5 rfl rfl (by decide))).mono (by omega), hAs.ts kn, hLa.ts kn, ?_, ⟨hl1, hl2, hv3.1, hv3.2.1, hv3.2.2⟩, hlai⟩
                    exact PrsAt.append (PrsAt.append ((hVa.ts kn).take _) (.cons (TupS.lst (Mn.get 5) _ _ upd_same) .nil)) ((hVa.ts kn).drop _)
                · walk_at "rd"
                  exact ⟨ls, vs, la, va, _, _, _, rfl, Mi.sub (by walk_at "sub"), (Ph.new nt1).mono (by omega), hAs.ts ki, hLa.ts ki, hVa.ts ki, ⟨hl1, hl2, hL.skip.vsub, hL.vnd, hL.vlen⟩, hlai⟩
              · refine iteF ?_
                walk_at "rd"
                exact ⟨ls, vs, la, va, _, _, _, rfl, Mi.sub (by walk_at "sub"), (Ph.new nt1).mono (by omega), hAs.ts ki, hLa.ts ki, hVa.ts ki, ⟨hl1, hl2, hL.skip.vsub, hL.vnd, hL.vlen⟩, hlai⟩
          · rintro σ' Hg ⟨ls, vs, la, va, o2, vt, vw, rfl, Mg, Pg, hAs, hLa, hVa, hL, hlai⟩
            walk_at "rd"
            intro t9 nt9
            have Mz := Mg.alloc nt9 (o' := .tup [.ref a, .ref l, .ref q])
            refine k t9 a l q la va xs ls vs o2 _ (Mz.sub (by walk_at "sub")) ((Pg.new nt9).mono (by rw [List.length_map]; omega)) (hLa.ts (TupS.new nt9)) (hVa.ts (TupS.new nt9)) ?_
            rw [← hT] at hL
            exact hL.ok (by omega) (by omega) hlet hnd hpm
end
end Ds
end F17
section F18
open L2 Ds
local macro_rules | `(tactic| walk_at "ds1") => `(tactic| with_reducible first
  | refine d_seq ?_ | refine d_asg ?_ | refine d_gname ?_ | refine d_if ?_ | refine d_next ?_ | refine d_ret ?_ | refine d_drop ?_ | refine d_test ?_ | refine d_B ?_ | refine d_c ?_
  | refine d_op ?_ | refine d_un ?_ | refine d_rI0 ?_ | refine d_rU ?_ | refine d_cons ?_ | refine d_nil ?_ | refine d_cb ?_ | refine d_bl ?_ | refine d_call ?_ | refine d_and ?_ | refine d_or ?_ | refine d_not ?_ | refine d_lst ?_ | refine d_tup ?_
  | refine d_par ?_ | refine d_par2 ?_ | refine d_for ?_ | refine d_rng1 ?_ | refine d_rng2 ?_ | refine d_ils ?_ | refine d_its ?_ | refine d_ien ?_ | refine d_lc ?_ | refine d_yes ?_ | refine d_step2 ?_ | refine d_chain ?_ | refine d_andV ?_ | refine d_orV ?_ | refine d_notV ?_ | refine d_slice ?_ | refine d_nopart ?_ | refine d_part ?_ | refine d_int ?_ | refine d_s2 ?_ | refine d_mkO ?_ | refine d_callS ?_ | refine d_p0 ?_ | refine d_p1 ?_ | refine d_disp ?_ | refine d_din ?_ | refine d_dnotin ?_ | refine d_dput ?_ | refine d_sfld ?_ | refine d_fld ?_ | refine d_gcons ?_ | refine d_gnil ?_ | refine d_gsub ?_ | refine d_bm ?_ | refine d_bm0 ?_)
local macro_rules | `(tactic| walk_at "ds2") => `(tactic| first
  | ((with_reducible show tVar _ _ _ _); refine d_var (by exact rfl) ?_)
  | (with_reducible refine d_i1 ?_) | (with_reducible refine d_i2 ?_) | (with_reducible refine d_o1 ?_) | ((with_reducible refine d_ls ?k1 ?_); (case k1 => exact Nat.le_of_ble_eq_true rfl))
  | ((with_reducible refine' d_lenS ?k1 ?_); (case k1 => first | assumption | exact SqL.of (by assumption))) | ((with_reducible refine' d_listS ?k1 ?_); (case k1 => first | assumption | exact SqL.of (by assumption)))
  | ((with_reducible refine' d_len ?k1 ?_); (case k1 => first | assumption | exact SqL.of (by assumption)))
  | ((with_reducible refine' d_eq ?k1 ?_); (case k1 => rfl)) | ((with_reducible refine' d_ne ?k1 ?_); (case k1 => rfl))
  | ((with_reducible refine' d_new ?k1 ?_); (case k1 => exact Nat.le_of_ble_eq_true rfl)))
local macro_rules | `(tactic| walk_at "rd") => `(tactic| repeat (first | walk_at "ds1" | walk_at "ds2"))
local macro_rules | `(tactic| walk_at "sub") => `(tactic| repeat (first | exact List.Sublist.slnil | exact List.Sublist.refl _ | refine List.Sublist.cons₂ _ ?_ | refine List.Sublist.cons _ ?_))

namespace Ds
open PySem PySem.Spec PyProof.Rows L2 He
abbrev s_einit : Stmt := inClass (top 2) 0
abbrev s_check_things : Stmt := top 10
abbrev s_check_arrows : Stmt := top 11
abbrev s_check_pairs : Stmt := top 12
abbrev s_init : Stmt := inClass (top 9) 0
abbrev s_is_letter : Stmt := top 13
abbrev s_are_two : Stmt := top 14
abbrev s_things_leading : Stmt := top 15
abbrev N_things_leading : List Str := ["names", "arrows", "name", "found", "waiting", "thing", "one", "other"]
section
variable {P : Program} {w : World} {K : PySem.W.Frag} {mg : Str → Option Value} {base : Heap}
theorem sc_einit : FnScope ["self", "value"] ["self", "value"] (defScope s_einit) := ⟨rfl, rfl, rfl, by decide +kernel, rfl, by decide +kernel, by decide +kernel⟩
theorem ok_einit {f : Addr} {fd : FuncData} (F : FnP K "__init__" "DeedError.__init__" s_einit f fd) : FnOk P w K mg base CX0 1 f fd ["self", "value"] (spErrI K) := by
  refine F.ok sc_einit (fun vs H Q E h => ?_) (fun cdv A outer s H vs Q E hr h => ⟨_, PSs.nox (pss_one (ps_ost (pv 0) (pv 1))), ?_⟩)
  · obtain ⟨a, C, v, rfl, _⟩ := h
    rfl
  · obtain ⟨a, C, v, rfl, T, hno, ha, k⟩ := h
    exact ⟨_, rfl, _, rfl, a, C, rfl, T, hno, .inl ⟨ha, fun dx h1 h2 => k dx h1 h2⟩⟩
theorem sc_is_letter : FnScope ["name"] ["name"] (defScope s_is_letter) := ⟨rfl, rfl, rfl, by decide +kernel, rfl, by decide +kernel, by decide +kernel⟩
def spLetter : Sp := fun vs H Q _ => ∃ x : Str, vs = [.str x] ∧ x.length ≤ 1000 ∧ ∀ b : Bool, (b = true ↔ IsLet x) → Q (.bl b) H
theorem ok_is_letter {f : Addr} {fd : FuncData} (F : FnP K "is_letter" "is_letter" s_is_letter f fd) (T : Tx mg) : FnOk P w K mg base CX0 1 f fd ["name"] spLetter := by
  refine F.ok sc_is_letter (fun vs H Q E h => ?_) (fun cdv A outer s H vs Q E hr h => ⟨_, PSs.nox ((pss_one (ps_ret (pe_and (pe_cmpR op_eq (pe_callB call_len_str (by rfl) T.n_len (by decide +kernel) (pa_cons (pv 0) pa_nil)) pe_int (nomark _)) (pe_one (pe_chain op_le_str op_le_str pe_str (pv 0) pe_str)))))), ?_⟩)
  · obtain ⟨x, rfl, _⟩ := h
    rfl
  · obtain ⟨x, rfl, hx, k⟩ := h
    have hi := isLet_iff x
    walk_at "rd"
    refine ⟨x, rfl, Nat.le_trans hx (by decide), ?_⟩
    walk_at "rd"
    refine ite2 (fun c => ?_) (fun c => ?_)
    · have c1 : x.length = 1 := by
        have := V.int.inj (of_decide_eq_true c)
        omega
      walk_at "rd"
      refine ite2 (fun c2 => ?_) (fun c2 => ?_)
      · walk_at "rd"
        refine k _ ?_
        rw [hi]
        simp only [Bool.not_eq_true', decide_eq_false_iff_not] at c2 ⊢
        exact ⟨fun z => ⟨c1, c2, z⟩, fun z => z.2.2⟩
      · walk_at "rd"
        refine k _ ?_
        rw [hi]
        simp only [Bool.not_eq_true', decide_eq_false_iff_not] at c2
        exact ⟨fun z => (Bool.false_ne_true z).elim, fun z => (c2 z.2.1).elim⟩
    · refine k _ ?_
      rw [hi]
      exact ⟨fun z => (Bool.false_ne_true z).elim, fun z => (c (decide_eq_true (by rw [z.1]; rfl))).elim⟩
theorem sc_are_two : FnScope ["names", "one", "other"] ["names", "one", "other"] (defScope s_are_two) := ⟨rfl, rfl, rfl, by decide +kernel, rfl, by decide +kernel, by decide +kernel⟩
def spTwo (K : PySem.W.Frag) : Sp := fun vs H Q _ => ∃ (a : Addr) (ns : List Str) (x y : Str), vs = [.ref a, .str x, .str y] ∧ SqL K H a (ns.map V.str) ∧ ∀ b : Bool, (b = true ↔ Two ns (x, y)) → Q (.bl b) H
theorem ok_are_two {f : Addr} {fd : FuncData} (F : FnP K "are_two" "are_two" s_are_two f fd) : FnOk P w K mg base CX0 1 f fd ["names", "one", "other"] (spTwo K) := by
  refine F.ok sc_are_two (fun vs H Q E h => ?_) (fun cdv A outer s H vs Q E hr h => ⟨_, PSs.nox ((pss_one (ps_ret (pe_and (pe_cmpR (r := rIn K false) op_in_seq (pv 1) (pv 0) (by rfl)) (pe_and (pe_cmpR (r := rIn K false) op_in_seq (pv 2) (pv 0) (by rfl)) (pe_one (pe_cmpR op_ne (pv 1) (pv 2) (nomark _)))))))), ?_⟩)
  · obtain ⟨a, ns, x, y, rfl, _⟩ := h
    rfl
  · obtain ⟨a, ns, x, y, rfl, hS, k⟩ := h
    walk_at "rd"
    refine d_inL hS rfl (flat_strs ns) ?_
    rw [inV_strs]
    walk_at "rd"
    refine ite2 (fun c => ?_) (fun c => ?_)
    · walk_at "rd"
      refine d_inL hS rfl (flat_strs ns) ?_
      rw [inV_strs]
      walk_at "rd"
      refine ite2 (fun c2 => ?_) (fun c2 => ?_)
      · walk_at "rd"
        refine k _ ?_
        have c' := of_decide_eq_true c
        have c2' := of_decide_eq_true c2
        simp only [Bool.not_eq_true', decide_eq_false_iff_not]
        exact ⟨fun z => ⟨c', c2', fun e => z (congrArg V.str e)⟩, fun z e => z.2.2 (V.str.inj e)⟩
      · walk_at "rd"
        exact k _ ⟨fun z => (Bool.false_ne_true z).elim, fun z => (c2 (decide_eq_true z.2.1)).elim⟩
    · exact k _ ⟨fun z => (Bool.false_ne_true z).elim, fun z => (c (decide_eq_true z.1)).elim⟩
theorem sc_things_leading : FnScope N_things_leading ["names", "arrows", "name"] (defScope s_things_leading) := ⟨rfl, rfl, rfl, by decide +kernel, rfl, by decide +kernel, by decide +kernel⟩
def spLeading (K : PySem.W.Frag) : Sp := fun vs H Q _ => ∃ (a b : Addr) (ns : List Str) (as : List Addr) (ps : List Pr) (x : Str), vs = [.ref a, .ref b, .str x] ∧ SqL K H a (ns.map V.str) ∧ SqL K H b (as.map V.ref) ∧ PrsAt H as ps ∧
  ns.length ≤ 1000 ∧ as.length ≤ 1000 ∧ ∀ (H' : Hp) (p : Addr), Same H H' → H p = none → H' p = some (.lst ((leading ns ps x).map V.str)) → Q (.ref p) H'
theorem ok_things_leading {f : Addr} {fd : FuncData} (F : FnP K "things_leading" "things_leading" s_things_leading f fd) (T : Tx mg) : FnOk P w K mg base CX0 1 f fd ["names", "arrows", "name"] (spLeading K) := by
  refine F.ok sc_things_leading (fun vs H Q E h => ?_) (fun cdv A outer s H vs Q E hr h => ⟨_, PSs.nox ((pss_cons (ps_set (i := 3) sc_things_leading.nd rfl (Or.inr rfl) (pe_disp (pps_cons (pv 2) pe_bl pps_nil) (by rfl) (by rfl) (fun z => by cases z) (by decide)))
 (pss_cons (ps_set (i := 4) sc_things_leading.nd rfl (Or.inl rfl) (pe_lst (pa_cons (pv 2) pa_nil)))
 (pss_cons (ps_while PassesOwn.never (pt_truth (pv 4) (by intro _; rfl))
 (pss_cons (ps_set (i := 5) sc_things_leading.nd rfl (Or.inl rfl) (pe_bm0K (K := K) PySem.F.plainAttrs_list PySem.F.slot_list_pop PySem.F.type_list_pop mt_pop (pv 4)))
 (pss_one (ps_for PassesOwn.never rfl (pi_listK (K := K) (pv 1)) (pg_tupK (K := K) (n := 2) (pgs_cons (pg_name (i := 6) sc_things_leading.nd rfl (Or.inl rfl)) (pgs_cons (pg_name (i := 7) sc_things_leading.nd rfl (Or.inl rfl)) pgs_nil)))
 (pss_one (ps_if (PW.pt (pw_and (pt_cmpR op_eq (pv 7) (pv 5) (nomark _)) (pw_and1 (pt_cmp (pc_dnotin (hu_of hr) (pv 6) (pv 3))))))
 (pss_cons (ps_dput (hu_of hr) (pv 3) (pv 6) pe_bl rfl)
 (pss_one (ps_expr (pe_bmK (K := K) PySem.F.plainAttrs_list PySem.F.slot_list_append PySem.F.type_list_append mt_append (pv 4) (pa_cons (pv 6) pa_nil)))))
 pss_nil))))))
 (pss_one (ps_ret (pe_lc (own := [("thing", 5)]) (by rfl) sc_things_leading.nd (pi_listK (K := K) (pv 0)) (blkOk_by (own := [("thing", 5)]) (N := N_things_leading) (sc := defScope s_things_leading) (by decide +kernel)) (fun _ _ _ _ _ => (pg_name (i := 5) sc_things_leading.nd rfl (Or.inl rfl))) (fun _ _ _ _ _ => (pts_one (pt_cmp (pc_din (hu_of hr) (pv 5) (pv 3))))) (fun _ _ _ _ _ => (pv 5))))))))), ?_⟩)
  · obtain ⟨a, b, ns, as, ps, x, rfl, _⟩ := h
    rfl
  · obtain ⟨a, b, ns, as, ps, x, rfl, hN, hA, hP, hnl, hal, k⟩ := h
    have hpl := hP.length
    have M0 := Mem.start H
    walk_at "rd"
    intro d nd
    have M1 := M0.alloc0 nd (o' := .dK [])
    walk_at "rd"
    refine ⟨upd_same, dOf [x], rfl, by show 1 ≤ 15; decide, ?_⟩
    have M2 : Mem H [] [(d, .dK (dOf [x]))] (upd (upd H d (.dK [])) d (.dK (mergeK [] (dOf [x])))) := M1.set 0 rfl
    generalize upd (upd H d (.dK [])) d (.dK (mergeK [] (dOf [x]))) = H2 at M2
    walk_at "rd"
    intro q nq
    have M3 : Mem H [] [(d, .dK (dOf [x])), (q, .lst ([x].map V.str))] _ := M2.alloc0 nq
    walk_at "rd"
    obtain ⟨Wf, hWf⟩ : ∃ Wf : Nat → L2.St → Hp → Prop, Wf = fun m σ' Hc => ∃ (F wl : List Str) (vt vo vu : Option V),
      σ' = [some (.ref a), some (.ref b), some (.str x), some (.ref d), some (.ref q), vt, vo, vu] ∧ Mem H [] [(d, .dK (dOf F)), (q, .lst (wl.map V.str))] Hc ∧
      F.Nodup ∧ x ∈ F ∧ (∀ f ∈ F, Leads ps f x) ∧ (∀ f ∈ F, f ∈ x :: ps.map (·.1)) ∧ (∀ y ∈ wl, y ∈ F) ∧ (∀ u v, (u, v) ∈ ps → v ∈ F → v ∉ wl → u ∈ F) ∧ wl.length ≤ F.length ∧
      2 * (1 + ps.length - F.length) + wl.length = m := ⟨_, rfl⟩
    refine ⟨Wf, ⟨2 * ps.length + 1, by
      rw [hWf]
      exact ⟨[x], [x], none, none, none, rfl, M3, by simp, by simp, fun f hf => by simp at hf; rw [hf]; exact .refl x, fun f hf => by simp at hf; simp [hf], fun y hy => hy, fun u v _ h1 h2 => absurd h1 h2, Nat.le_refl _, by show 2 * (1 + ps.length - 1) + 1 = 2 * ps.length + 1; omega⟩⟩, ?_⟩
    rintro m σ' Hc h0
    rw [hWf] at h0
    obtain ⟨F, wl, vt, vo, vu, rfl, Mc, fnd, fx, fl, fs, wf, fc, wF, hm⟩ := h0
    have hFl : F.length ≤ 1 + ps.length := by
      have := nodup_le fnd fs
      rw [List.length_cons, List.length_map] at this
      omega
    walk_at "rd"
    refine ⟨!(wl.map V.str).isEmpty, .inl ⟨_, SqL.of (Mc.get 1), rfl⟩, ?_⟩
    rcases List.eq_nil_or_concat wl with e | ⟨wi, t, e⟩
    · subst e
      refine iteF ?_
      -- the answer
      walk_at "rd"
      refine d_iList (hS := Mc.same.seq hN) ?_
      intro D nD
      have hF : ∀ t ∈ ns, t ∈ F ↔ Leads ps t x := fun t _ => ⟨fl t, fun l => l.closed fx fun u v h1 h2 => fc u v h1 h2 (by simp)⟩
      refine lc_list (K := K) (a := a) (xs := ns.map V.str) (fun i Hd => Mem H [] [(d, .dK (dOf F)), (D, .lst (((ns.take i).filter fun t => decide (t ∈ F)).map V.str))] Hd) ?_ ?_ ?_ ?_
      · exact (Mc.alloc0 nD).sub (by walk_at "sub")
      · intro i Hd _ Md
        exact Md.same.seq hN
      · intro i y Hd hy Md
        obtain ⟨z, hz, rfl⟩ := map_get hy
        walk_at "rd"
        refine ⟨rfl, ?_⟩
        walk_at "rd"
        refine ⟨d, _, rfl, DGet.k (k := Sum.inr z) (Md.get 0), ?_⟩
        rw [dOf_val]
        walk_at "rd"
        rw [take_succ_of hz, List.filter_append]
        by_cases hzF : z ∈ F
        · rw [decide_eq_true hzF]
          refine iteT ?_
          walk_at "rd"
          refine ⟨_, Md.get 1, ?_, ?_⟩
          · have h1 : ((ns.take i).filter fun t => decide (t ∈ F)).length ≤ (ns.take i).length := List.length_filter_le _ _
            rw [List.length_take] at h1
            exact Nat.lt_of_le_of_lt (show _ ≤ 1000 by rw [List.length_map]; omega) (by decide)
          · have e : [z].filter (fun t => decide (t ∈ F)) = [z] := by simp [hzF]
            rw [e, List.map_append]
            exact Md.set 1 rfl
        · rw [decide_eq_false hzF]
          refine iteF ?_
          have e : [z].filter (fun t => decide (t ∈ F)) = [] := by simp [hzF]
          rw [e, List.append_nil]
          exact Md
      · intro Hd Md
        rw [List.length_map, List.take_length] at Md
        refine k Hd D Md.same ?_ ?_
        · exact Mc.same.free nD
        · rw [← leading_eq hF]
          exact Md.get 1
    · subst e
      rw [List.concat_eq_append] at *
      rw [List.length_append, List.length_singleton] at wF hm
      have e0 : (!((wi ++ [t]).map V.str).isEmpty) = true := by simp
      rw [e0]
      refine iteT ⟨fun σ' H' => ∃ m', m' < m ∧ Wf m' σ' H', fun _ _ h => h, ?_⟩
      have Mc' := Mc
      rw [List.map_append] at Mc'
      walk_at "rd"
      refine d_ty (Mc'.get 1) ?_
      refine d_pop (Mc'.get 1) ?_
      have Md := Mc'.set 1 (o' := .lst (wi.map V.str)) rfl
      walk_at "rd"
      refine d_iList (Md.same.seq hA) ?_
      refine for_list (K := K) (a := b) (xs := as.map V.ref) (fun i σ' He => ∃ (G wl : List Str) (vo vu : Option V),
        σ' = [some (.ref a), some (.ref b), some (.str x), some (.ref d), some (.ref q), some (.str t), vo, vu] ∧ Mem H [] [(d, .dK (dOf G)), (q, .lst (wl.map V.str))] He ∧
        G.Nodup ∧ x ∈ G ∧ (∀ f ∈ G, Leads ps f x) ∧ (∀ f ∈ G, f ∈ x :: ps.map (·.1)) ∧ (∀ y ∈ wl, y ∈ G) ∧ (∀ u v, (u, v) ∈ ps → v ∈ G → v ∉ wl → u ∈ G ∨ (v = t ∧ (u, v) ∉ ps.take i)) ∧
        F.length ≤ G.length ∧ wl.length + F.length = wi.length + G.length ∧ t ∈ G) ?_ ?_ ?_ ?_
      · refine ⟨F, wi, vo, vu, rfl, Md, fnd, fx, fl, fs, fun y hy => wf y (by simp [hy]), fun u v h1 h2 h3 => ?_, Nat.le_refl _, rfl, wf t (by simp)⟩
        by_cases e : v = t
        · exact .inr ⟨e, by simp⟩
        · exact .inl (fc u v h1 h2 (by simp [h3, e]))
      · rintro i σ' He _ ⟨G, wl, vo, vu, rfl, Me, _⟩
        exact Me.same.seq hA
      · rintro i y σ' He hy ⟨G, wl, vo, vu, rfl, Me, gnd, gx, gl, gs, gw, gc, gF, gW, gt⟩
        obtain ⟨pa, hpa, rfl⟩ := map_get hy
        obtain ⟨⟨po, pu⟩, hpp, hob⟩ := (hP.ts (TupS.same Me.same)).get hpa
        have hGl : G.length ≤ 1 + ps.length := by
          have := nodup_le gnd gs
          rw [List.length_cons, List.length_map] at this
          omega
        have hps : (po, pu) ∈ ps := List.mem_of_getElem? hpp
        have tk := take_succ_of hpp
        refine d_gtup (SqT.of hob) ?_ rfl
        walk_at "rd"
        have keep : ¬ (pu = t ∧ po ∉ G) → ∀ u v, (u, v) ∈ ps → v ∈ G → v ∉ wl → u ∈ G ∨ (v = t ∧ (u, v) ∉ ps.take (i + 1)) := fun hn u v h1 h2 h3 => by
          rcases gc u v h1 h2 h3 with z | ⟨z1, z2⟩
          · exact .inl z
          · by_cases e : (u, v) = (po, pu)
            · have e1 : u = po := congrArg Prod.fst e
              have e2 : v = pu := congrArg Prod.snd e
              subst e1 e2
              refine .inl (Classical.byContradiction fun z => hn ⟨z1, z⟩)
            · refine .inr ⟨z1, ?_⟩
              rw [tk]
              simp only [List.mem_append, List.mem_singleton, not_or]
              exact ⟨z2, e⟩
        refine ite2 (fun c => ?_) (fun c => ?_)
        · have c1 : pu = t := V.str.inj (of_decide_eq_true c)
          walk_at "rd"
          refine ⟨d, _, rfl, DGet.k (k := Sum.inr po) (Me.get 0), ?_⟩
          rw [dOf_val]
          walk_at "rd"
          by_cases c2 : po ∈ G
          · rw [decide_eq_true c2]
            refine iteF ?_
            walk_at "rd"
            exact ⟨G, wl, _, _, rfl, Me, gnd, gx, gl, gs, gw, keep fun z => z.2 c2, gF, gW, gt⟩
          · rw [decide_eq_false c2]
            refine iteT ?_
            walk_at "rd"
            refine ⟨d, _, rfl, .inl ⟨dOf G, Sum.inr po, Me.get 0, rfl, Nat.lt_of_le_of_lt (show _ ≤ 1001 by rw [dOf_len]; omega) (by decide), rfl⟩, ?_⟩
            rw [dOf_put c2]
            have Mf := Me.set 0 (o' := .dK (dOf (G ++ [po]))) rfl
            walk_at "rd"
            refine d_ty (Mf.get 1) ?_
            walk_at "rd"
            refine d_append (Mf.get 1) (by rw [List.length_map]; omega) ?_
            walk_at "rd"
            have e1 : wl.map V.str ++ [V.str po] = (wl ++ [po]).map V.str := by simp
            rw [e1]
            refine ⟨G ++ [po], wl ++ [po], _, _, rfl, Mf.set 1 rfl, ?_, ?_, ?_, ?_, ?_, ?_, ?_, ?_, ?_⟩
            · rw [List.nodup_append]
              exact ⟨gnd, by simp, fun u hu v hv e => by
                have e2 : v = po := by simpa using hv
                exact c2 (by rw [← e2, ← e]; exact hu)⟩
            · exact List.mem_append_left _ gx
            · intro f hf
              rcases List.mem_append.mp hf with hf | hf
              · exact gl f hf
              · have e2 : f = po := by simpa using hf
                rw [e2]
                refine .step hps ?_
                rw [c1]
                exact gl t gt
            · intro f hf
              rcases List.mem_append.mp hf with hf | hf
              · exact gs f hf
              · have e2 : f = po := by simpa using hf
                rw [e2]
                exact List.mem_cons_of_mem _ (List.mem_map.mpr ⟨_, hps, rfl⟩)
            · intro y hy
              rcases List.mem_append.mp hy with hy | hy
              · exact List.mem_append_left _ (gw y hy)
              · exact List.mem_append_right _ hy
            · intro u v h1 h2 h3
              simp only [List.mem_append, List.mem_singleton, not_or] at h2 h3
              rcases h2 with h2 | h2
              · rcases gc u v h1 h2 h3.1 with z | ⟨z1, z2⟩
                · exact .inl (List.mem_append_left _ z)
                · by_cases e : (u, v) = (po, pu)
                  · have e1 : u = po := congrArg Prod.fst e
                    exact .inl (by simp [e1])
                  · refine .inr ⟨z1, ?_⟩
                    rw [tk]
                    simp only [List.mem_append, List.mem_singleton, not_or]
                    exact ⟨z2, e⟩
              · exact absurd h2 h3.2
            · rw [List.length_append]; omega
            · rw [List.length_append, List.length_append]; simp; omega
            · exact List.mem_append_left _ gt
        · walk_at "rd"
          exact ⟨G, wl, _, _, rfl, Me, gnd, gx, gl, gs, gw, keep fun z => c (decide_eq_true (congrArg V.str z.1)), gF, gW, gt⟩
      · rintro σ' He ⟨G, wl, vo, vu, rfl, Me, gnd, gx, gl, gs, gw, gc, gF, gW, gt⟩
        walk_at "rd"
        have hGl : G.length ≤ 1 + ps.length := by
          have := nodup_le gnd gs
          rw [List.length_cons, List.length_map] at this
          omega
        refine ⟨2 * (1 + ps.length - G.length) + wl.length, by omega, ?_⟩
        rw [hWf]
        refine ⟨G, wl, _, _, _, rfl, Me, gnd, gx, gl, gs, gw, fun u v h1 h2 h3 => ?_, by omega, rfl⟩
        rcases gc u v h1 h2 h3 with z | ⟨z1, z2⟩
        · exact z
        · rw [List.length_map, hpl, List.take_length] at z2
          exact absurd h1 z2
end
end Ds
end F18
section F19
open L2 Ds
local macro_rules | `(tactic| walk_at "ds1") => `(tactic| with_reducible first
  | refine d_seq ?_ | refine d_asg ?_ | refine d_gname ?_ | refine d_if ?_ | refine d_next ?_ | refine d_ret ?_ | refine d_drop ?_ | refine d_test ?_ | refine d_B ?_ | refine d_c ?_
  | refine d_op ?_ | refine d_un ?_ | refine d_rI0 ?_ | refine d_rU ?_ | refine d_cons ?_ | refine d_nil ?_ | refine d_cb ?_ | refine d_bl ?_ | refine d_call ?_ | refine d_and ?_ | refine d_or ?_ | refine d_not ?_ | refine d_lst ?_ | refine d_tup ?_
  | refine d_par ?_ | refine d_par2 ?_ | refine d_for ?_ | refine d_rng1 ?_ | refine d_rng2 ?_ | refine d_ils ?_ | refine d_its ?_ | refine d_ien ?_ | refine d_lc ?_ | refine d_yes ?_ | refine d_step2 ?_ | refine d_chain ?_ | refine d_andV ?_ | refine d_orV ?_ | refine d_notV ?_ | refine d_slice ?_ | refine d_nopart ?_ | refine d_part ?_ | refine d_int ?_ | refine d_s2 ?_ | refine d_mkO ?_ | refine d_callS ?_ | refine d_p0 ?_ | refine d_p1 ?_ | refine d_disp ?_ | refine d_din ?_ | refine d_dnotin ?_ | refine d_dput ?_ | refine d_sfld ?_ | refine d_fld ?_ | refine d_gcons ?_ | refine d_gnil ?_ | refine d_gsub ?_ | refine d_bm ?_ | refine d_bm0 ?_)
local macro_rules | `(tactic| walk_at "ds2") => `(tactic| first
  | ((with_reducible show tVar _ _ _ _); refine d_var (by exact rfl) ?_)
  | (with_reducible refine d_i1 ?_) | (with_reducible refine d_i2 ?_) | (with_reducible refine d_o1 ?_) | ((with_reducible refine d_ls ?k1 ?_); (case k1 => exact Nat.le_of_ble_eq_true rfl))
  | ((with_reducible refine' d_lenS ?k1 ?_); (case k1 => first | assumption | exact SqL.of (by assumption))) | ((with_reducible refine' d_listS ?k1 ?_); (case k1 => first | assumption | exact SqL.of (by assumption)))
  | ((with_reducible refine' d_len ?k1 ?_); (case k1 => first | assumption | exact SqL.of (by assumption)))
  | ((with_reducible refine' d_eq ?k1 ?_); (case k1 => rfl)) | ((with_reducible refine' d_ne ?k1 ?_); (case k1 => rfl))
  | ((with_reducible refine' d_new ?k1 ?_); (case k1 => exact Nat.le_of_ble_eq_true rfl)))
local macro_rules | `(tactic| walk_at "rd") => `(tactic| repeat (first | walk_at "ds1" | walk_at "ds2"))
local macro_rules | `(tactic| walk_at "sub") => `(tactic| repeat (first | exact List.Sublist.slnil | exact List.Sublist.refl _ | refine List.Sublist.cons₂ _ ?_ | refine List.Sublist.cons _ ?_))

namespace Ds
open PySem PySem.Spec PyProof.Rows L2 He
section
variable {P : Program} {w : World} {K : PySem.W.Frag} {mg : Str → Option Value} {base : Heap}
/-- an error of the class x with this value is let out -/
def Out (K : PySem.W.Frag) (H : Hp) (E : XK) (x : Str) (v : V) : Prop := ∀ (H' : Hp) (d : Addr), Same H H' → H' d = some (.xd [("value", v)]) → E (.ref (ga K x)) (some d) H'
def OutP (K : PySem.W.Frag) (H : Hp) (E : XK) (x : Str) (p : Pr) : Prop := ∀ (H' : Hp) (d t : Addr), Same H H' → H' d = some (.xd [("value", .ref t)]) → H' t = some (.tup [.str p.1, .str p.2]) → E (.ref (ga K x)) (some d) H'
theorem sc_check_things : FnScope ["names", "at", "name"] ["names"] (defScope s_check_things) := ⟨rfl, rfl, rfl, by decide +kernel, rfl, by decide +kernel, by decide +kernel⟩
def spThings (K : PySem.W.Frag) : Sp := fun vs H Q E => ∃ (a : Addr) (ns : List Str), vs = [.ref a] ∧ SqL K H a (ns.map V.str) ∧ ns.length ≤ 1000 ∧ (∀ x ∈ ns, x.length ≤ 1000) ∧
  (∀ x, FirstBad NameBad ns x → Out K H E "InvalidName" (.str x)) ∧ (NoBad NameBad ns → ¬ (1 ≤ ns.length ∧ ns.length ≤ 6) → Out K H E "InvalidNumber" (.int ns.length)) ∧
  (NoBad NameBad ns → 1 ≤ ns.length ∧ ns.length ≤ 6 → ∀ H', Same H H' → Q .non H')
theorem ok_check_things {f : Addr} {fd : FuncData} (F : FnP K "check_things" "check_things" s_check_things f fd) (T : Tx mg) (most : ∃ t, mg "MOST_THINGS" = some (.int 6 t)) (IE : ErrI P w K mg base) (T_InvalidName : ErrC K mg "InvalidName") (T_InvalidNumber : ErrC K mg "InvalidNumber")
    (C_is_letter : Cal P w K mg base CX0 1 "is_letter" ["name"] spLetter) : FnOk P w K mg base (L2.CX P w) 3 f fd ["names"] (spThings K) := by
  obtain ⟨tm, hc_MOST_THINGS⟩ := most
  refine F.ok sc_check_things (fun vs H Q E h => ?_) (fun cdv A outer s H vs Q E hr h => ⟨_, (pss_cons (ps_for (passes_of rfl) rfl (pi_enumK (K := K) (by rfl) T.n_enumerate (pa_cons (pv 0) pa_nil)) (pg_tupK (K := K) (n := 2) (pgs_cons (pg_name (i := 1) sc_check_things.nd rfl (Or.inl rfl)) (pgs_cons (pg_name (i := 2) sc_check_things.nd rfl (Or.inl rfl)) pgs_nil)))
 (pss_one (ps_if (PW.pt (pw_or (pt_not (pt_val (pe_cal C_is_letter hr rfl (pa_cons (pv 2) pa_nil)))) (pw_or1 (pt_cmpR (r := rIn K false) op_in_seq (pv 2) (pe_slice (r := rSlL K) sl_list (pv 0) po_none (po_some (pv 1))) (by rfl)))))
 (pss_one (ps_raise rfl (takes_of rfl rfl rfl rfl) (pmk_x IE T_InvalidName hr rfl (pa_cons (pv 2) pa_nil))))
 pss_nil)))
 (pss_one (ps_if (pt_not (pt_chain op_le op_le pe_int (pe_callB (r := Evl.rLenS K) call_len_seq (by rfl) T.n_len (by decide +kernel) (pa_cons (pv 0) pa_nil)) (pe_glob (v := .int 6) rfl hc_MOST_THINGS ⟨_, rfl⟩)))
 (pss_one (ps_raise rfl (takes_of rfl rfl rfl rfl) (pmk_x IE T_InvalidNumber hr rfl (pa_cons (pe_callB (r := Evl.rLenS K) call_len_seq (by rfl) T.n_len (by decide +kernel) (pa_cons (pv 0) pa_nil)) pa_nil))))
 pss_nil))), ?_⟩)
  · obtain ⟨a, ns, rfl, _⟩ := h
    rfl
  · obtain ⟨a, ns, rfl, hS, hl, hx, k1, k2, k3⟩ := h
    walk_at "rd"
    refine d_ien1 hS ?_
    refine for_enum (K := K) (a := a) (xs := ns.map V.str) (fun i σ' H1 => ∃ v1 v2 : Option V, σ' = [some (.ref a), v1, v2] ∧ Same H H1 ∧ ∀ j y, j < i → ns[j]? = some y → ¬ NameBad (ns.take j) y) ?_ ?_ ?_ ?_
    · exact ⟨none, none, rfl, Same.refl H, fun j y h => by omega⟩
    · rintro i σ' H1 _ ⟨v1, v2, rfl, s1, _⟩
      exact s1.seq hS
    · rintro i x T1 σ' H1 hi ⟨v1, v2, rfl, s1, nb⟩ nT
      obtain ⟨z, hz, rfl⟩ := map_get hi
      refine d_gtup (SqT.of upd_same) ?_ rfl
      walk_at "rd"
      refine ⟨z, rfl, hx z (List.mem_of_getElem? hz), fun b hb => ?_⟩
      have s2 : Same H (upd H1 T1 (.tup [.int (i : Nat), .str z])) := fun b o e => by rw [upd_ne (ne_of_none (s1 b o e) nT)]; exact s1 b o e
      walk_at "rd"
      have bad : ∀ H' d, Same H H' → H' d = some (.xd [("value", .str z)]) → NameBad (ns.take i) z → E (.ref (ga K "InvalidName")) (some d) H' := fun H' d h1 h2 h3 => k1 z ⟨i, hz, h3, nb⟩ H' d h1 h2
      cases b with
      | false =>
        refine iteT ?_
        walk_at "rd"
        refine iteT ?_
        walk_at "rd"
        refine d_made T_InvalidName fun d hd => ?_
        exact bad _ d (fun b o e => by rw [upd_ne (ne_of_none (s2 b o e) hd)]; exact s2 b o e) upd_same (.inl fun q => Bool.false_ne_true (hb.mpr q))
      | true =>
        refine iteF ?_
        walk_at "rd"
        refine d_slL (s2.seq hS) ?_
        intro q nq
        rw [cut_take, ← List.map_take]
        have s3 : Same H (upd (upd H1 T1 (.tup [.int (i : Nat), .str z])) q (.lst ((ns.take i).map V.str))) := fun b o e => by rw [upd_ne (ne_of_none (s2 b o e) nq)]; exact s2 b o e
        refine d_inL (SqL.of upd_same) rfl (flat_strs _) ?_
        rw [inV_strs]
        walk_at "rd"
        refine ite2 (fun c => ?_) (fun c => ?_)
        · walk_at "rd"
          refine d_made T_InvalidName fun d hd => ?_
          exact bad _ d (fun b o e => by rw [upd_ne (ne_of_none (s3 b o e) hd)]; exact s3 b o e) upd_same (.inr (of_decide_eq_true c))
        · walk_at "rd"
          refine ⟨_, _, rfl, s3, fun j y hj hy => ?_⟩
          by_cases e : j < i
          · exact nb j y e hy
          · have e2 : j = i := by omega
            subst e2
            have e3 : y = z := Option.some.inj (hy.symm.trans hz)
            subst e3
            rintro (z1 | z1)
            · exact z1 (hb.mp rfl)
            · exact c (decide_eq_true z1)
    · rintro σ' H1 ⟨v1, v2, rfl, s1, nb⟩
      have nob : NoBad NameBad ns := fun j y hy => nb j y (by rw [List.length_map]; exact (List.getElem?_eq_some_iff.mp hy).1) hy
      walk_at "rd"
      refine d_lenS (s1.seq hS) ?_
      walk_at "rd"
      rw [List.length_map]
      refine ite2 (fun c => ?_) (fun c => ?_)
      · have c' : (1 : Int) ≤ (ns.length : Int) := of_decide_eq_true c
        walk_at "rd"
        refine ite2 (fun c2 => ?_) (fun c2 => ?_)
        · have c2' : ¬ ((ns.length : Int) ≤ 6) := by simpa using c2
          walk_at "rd"
          refine d_lenS (s1.seq hS) ?_
          rw [List.length_map]
          walk_at "rd"
          refine d_made T_InvalidNumber fun d hd => ?_
          exact k2 nob (by omega) _ d (fun b o e => by rw [upd_ne (ne_of_none (s1 b o e) hd)]; exact s1 b o e) upd_same
        · have c2' : (ns.length : Int) ≤ 6 := by simpa using c2
          walk_at "rd"
          exact k3 nob (by omega) _ s1
      · have c' : ¬ ((1 : Int) ≤ (ns.length : Int)) := fun z => c (decide_eq_true z)
        walk_at "rd"
        refine iteT ?_
        walk_at "rd"
        refine d_lenS (s1.seq hS) ?_
        rw [List.length_map]
        walk_at "rd"
        refine d_made T_InvalidNumber fun d hd => ?_
        exact k2 nob (by omega) _ d (fun b o e => by rw [upd_ne (ne_of_none (s1 b o e) hd)]; exact s1 b o e) upd_same
theorem sc_check_arrows : FnScope ["names", "arrows", "at", "one", "other", "ahead"] ["names", "arrows"] (defScope s_check_arrows) := ⟨rfl, rfl, rfl, by decide +kernel, rfl, by decide +kernel, by decide +kernel⟩
def spArrows (K : PySem.W.Frag) : Sp := fun vs H Q E => ∃ (a b : Addr) (ns : List Str) (as : List Addr) (ps : List Pr), vs = [.ref a, .ref b] ∧ SqL K H a (ns.map V.str) ∧ SqL K H b (as.map V.ref) ∧ PrsAt H as ps ∧
  ns.length ≤ 1000 ∧ as.length ≤ 1000 ∧ (∀ p ∈ ps, POk p) ∧ (∀ p, FirstBad (ArrowBad ns) ps p → OutP K H E "InvalidArrow" p) ∧ (NoBad (ArrowBad ns) ps → ∀ H', Same H H' → Q .non H')
theorem ok_check_arrows {f : Addr} {fd : FuncData} (F : FnP K "check_arrows" "check_arrows" s_check_arrows f fd) (T : Tx mg) (IE : ErrI P w K mg base) (T_InvalidArrow : ErrC K mg "InvalidArrow")
    (C_are_two : Cal P w K mg base CX0 1 "are_two" ["names", "one", "other"] (spTwo K)) (C_things_leading : Cal P w K mg base CX0 1 "things_leading" ["names", "arrows", "name"] (spLeading K)) :
    FnOk P w K mg base (L2.CX P w) 3 f fd ["names", "arrows"] (spArrows K) := by
  refine F.ok sc_check_arrows (fun vs H Q E h => ?_) (fun cdv A outer s H vs Q E hr h => ⟨_, (pss_one (ps_for (passes_of rfl) rfl (pi_enumK (K := K) (by rfl) T.n_enumerate (pa_cons (pv 1) pa_nil)) (pg_tupK (K := K) (n := 2) (pgs_cons (pg_name (i := 2) sc_check_arrows.nd rfl (Or.inl rfl)) (pgs_cons (pg_tupK (K := K) (n := 2) (pgs_cons (pg_name (i := 3) sc_check_arrows.nd rfl (Or.inl rfl)) (pgs_cons (pg_name (i := 4) sc_check_arrows.nd rfl (Or.inl rfl)) pgs_nil))) pgs_nil)))
 (pss_cons (ps_set (i := 5) sc_check_arrows.nd rfl (Or.inl rfl) (pe_slice (r := rSlL K) sl_list (pv 1) po_none (po_some (pv 2))))
 (pss_cons (ps_if (PW.pt (pw_or (pt_not (pt_val (pe_cal C_are_two hr rfl (pa_cons (pv 0) (pa_cons (pv 3) (pa_cons (pv 4) pa_nil)))))) (pw_or1 (pt_cmpR (r := rInD K) (op_inD hr.units5) (pe_tup (pa_cons (pv 3) (pa_cons (pv 4) pa_nil))) (pv 5) (by rfl)))))
 (pss_one (ps_raise rfl (takes_of rfl rfl rfl rfl) (pmk_x IE T_InvalidArrow hr rfl (pa_cons (pe_tup (pa_cons (pv 3) (pa_cons (pv 4) pa_nil))) pa_nil))))
 pss_nil)
 (pss_one (ps_if (pt_cmpR (r := rIn K false) op_in_seq (pv 4) (pe_cal C_things_leading hr rfl (pa_cons (pv 0) (pa_cons (pv 5) (pa_cons (pv 3) pa_nil)))) (by rfl))
 (pss_one (ps_raise rfl (takes_of rfl rfl rfl rfl) (pmk_x IE T_InvalidArrow hr rfl (pa_cons (pe_tup (pa_cons (pv 3) (pa_cons (pv 4) pa_nil))) pa_nil))))
 pss_nil)))))), ?_⟩)
  · obtain ⟨a, b, ns, as, ps, rfl, _⟩ := h
    rfl
  · obtain ⟨a, b, ns, as, ps, rfl, hN, hA, hP, hnl, hal, hok, k1, k2⟩ := h
    have hpl := hP.length
    walk_at "rd"
    refine d_ien1 hA ?_
    refine for_enum (K := K) (a := b) (xs := as.map V.ref) (fun i σ' H1 => ∃ v1 v2 v3 v4 : Option V, σ' = [some (.ref a), some (.ref b), v1, v2, v3, v4] ∧ Same H H1 ∧ ∀ j y, j < i → ps[j]? = some y → ¬ ArrowBad ns (ps.take j) y) ?_ ?_ ?_ ?_
    · exact ⟨none, none, none, none, rfl, Same.refl H, fun j y h => by omega⟩
    · rintro i σ' H1 _ ⟨v1, v2, v3, v4, rfl, s1, _⟩
      exact s1.seq hA
    · rintro i x T1 σ' H1 hi ⟨v1, v2, v3, v4, rfl, s1, nb⟩ nT
      obtain ⟨pa, hpa, rfl⟩ := map_get hi
      obtain ⟨⟨po, pu⟩, hpp, hob⟩ := hP.get hpa
      have s2 : Same H (upd H1 T1 (.tup [.int (i : Nat), .ref pa])) := fun b o e => by rw [upd_ne (ne_of_none (s1 b o e) nT)]; exact s1 b o e
      refine d_gtup (SqT.of upd_same) ?_ rfl
      walk_at "rd"
      refine d_gtup (SqT.of (s2 _ _ hob)) ?_ rfl
      walk_at "rd"
      refine d_slL (s2.seq hA) ?_
      intro q nq
      rw [cut_take, ← List.map_take]
      have s3 : Same H (upd (upd H1 T1 (.tup [.int (i : Nat), .ref pa])) q (.lst ((as.take i).map V.ref))) := fun b o e => by rw [upd_ne (ne_of_none (s2 b o e) nq)]; exact s2 b o e
      have hq : upd (upd H1 T1 (.tup [.int (i : Nat), .ref pa])) q (.lst ((as.take i).map V.ref)) q = some (.lst ((as.take i).map V.ref)) := upd_same
      generalize upd (upd H1 T1 (.tup [.int (i : Nat), .ref pa])) q (.lst ((as.take i).map V.ref)) = H3 at s3 hq
      have hP3 : PrsAt H3 as ps := hP.ts (TupS.same s3)
      have bad : ∀ (Hx : Hp) (tp : Addr), Same H Hx → Hx tp = some (.tup [.str po, .str pu]) → ArrowBad ns (ps.take i) (po, pu) → ∀ d, Hx d = none → E (.ref (ga K "InvalidArrow")) (some d) (upd Hx d (.xd [("value", .ref tp)])) := fun Hx tp h1 h2 h3 d hd =>
        k1 (po, pu) ⟨i, hpp, h3, nb⟩ _ d tp (fun b o e => by rw [upd_ne (ne_of_none (h1 b o e) hd)]; exact h1 b o e) upd_same (by rw [upd_ne (ne_of_none h2 hd)]; exact h2)
      have newT : ∀ (Hx : Hp) (tp : Addr), Same H Hx → Hx tp = none → Same H (upd Hx tp (.tup [.str po, .str pu])) := fun Hx tp h1 h2 b o e => by rw [upd_ne (ne_of_none (h1 b o e) h2)]; exact h1 b o e
      walk_at "rd"
      refine ⟨a, ns, po, pu, rfl, s3.seq hN, fun b2 hb => ?_⟩
      walk_at "rd"
      cases b2 with
      | false =>
        refine iteT ?_
        walk_at "rd"
        refine iteT ?_
        walk_at "rd"
        intro tp ntp
        walk_at "rd"
        refine d_made T_InvalidArrow fun d hd => ?_
        exact bad _ tp (newT _ _ s3 ntp) upd_same (.inl fun z => Bool.false_ne_true (hb.mpr z)) d hd
      | true =>
        have htwo := hb.mp rfl
        refine iteF ?_
        walk_at "rd"
        intro tq ntq
        have s4 := newT _ _ s3 ntq
        walk_at "rd"
        refine d_inD (dp_pr (p := (po, pu)) upd_same) (.lst (SqL.of (by rw [upd_ne (ne_of_none hq ntq)]; exact hq)) (dp_prs ((hP3.ts (TupS.new ntq)).take i))) (shaped_pr (hok _ (List.mem_of_getElem? hpp))) (shaped_prs fun p hp => hok p (List.mem_of_mem_take hp)) ?_
        rw [any_prs]
        walk_at "rd"
        have hq4 : upd H3 tq (.tup [.str po, .str pu]) q = some (.lst ((as.take i).map V.ref)) := by rw [upd_ne (ne_of_none hq ntq)]; exact hq
        have hP4 : PrsAt (upd H3 tq (.tup [.str po, .str pu])) as ps := hP3.ts (TupS.new ntq)
        generalize upd H3 tq (.tup [.str po, .str pu]) = H4 at s4 hq4 hP4
        refine ite2 (fun c => ?_) (fun c => ?_)
        · walk_at "rd"
          intro tp ntp
          walk_at "rd"
          refine d_made T_InvalidArrow fun d hd => ?_
          exact bad _ tp (newT _ _ s4 ntp) upd_same (.inr (.inl (of_decide_eq_true c))) d hd
        · have c' : (po, pu) ∉ ps.take i := fun z => c (decide_eq_true z)
          walk_at "rd"
          refine ⟨a, q, ns, as.take i, ps.take i, po, rfl, s4.seq hN, SqL.of hq4, hP4.take i, hnl, by rw [List.length_take]; omega, fun H5 p5 s5 _ h5 => ?_⟩
          have s6 := s4.trans s5
          refine d_inL (SqL.of h5) rfl (flat_strs _) ?_
          rw [inV_strs]
          walk_at "rd"
          refine ite2 (fun c2 => ?_) (fun c2 => ?_)
          · walk_at "rd"
            intro tp ntp
            walk_at "rd"
            refine d_made T_InvalidArrow fun d hd => ?_
            exact bad _ tp (newT _ _ s6 ntp) upd_same (.inr (.inr (leading_mem.mp (of_decide_eq_true c2)).2)) d hd
          · walk_at "rd"
            refine ⟨_, _, _, _, rfl, s6, fun j y hj hy => ?_⟩
            by_cases e : j < i
            · exact nb j y e hy
            · have e2 : j = i := by omega
              subst e2
              have e3 : y = (po, pu) := Option.some.inj (hy.symm.trans hpp)
              subst e3
              rintro (z | z | z)
              · exact z htwo
              · exact c' z
              · exact c2 (decide_eq_true (leading_mem.mpr ⟨htwo.2.1, z⟩))
    · rintro σ' H1 ⟨v1, v2, v3, v4, rfl, s1, nb⟩
      walk_at "rd"
      exact k2 (fun j y hy => nb j y (by rw [List.length_map, hpl]; exact (List.getElem?_eq_some_iff.mp hy).1) hy) _ s1
theorem sc_check_pairs : FnScope ["names", "pairs", "at", "one", "other", "ahead"] ["names", "pairs"] (defScope s_check_pairs) := ⟨rfl, rfl, rfl, by decide +kernel, rfl, by decide +kernel, by decide +kernel⟩
def spPairs (K : PySem.W.Frag) : Sp := fun vs H Q E => ∃ (a b : Addr) (ns : List Str) (as : List Addr) (ps : List Pr), vs = [.ref a, .ref b] ∧ SqL K H a (ns.map V.str) ∧ SqL K H b (as.map V.ref) ∧ PrsAt H as ps ∧
  (∀ p ∈ ps, POk p) ∧ (∀ p, FirstBad (PairBad ns) ps p → OutP K H E "InvalidPair" p) ∧ (NoBad (PairBad ns) ps → ∀ H', Same H H' → Q .non H')
theorem ok_check_pairs {f : Addr} {fd : FuncData} (F : FnP K "check_pairs" "check_pairs" s_check_pairs f fd) (T : Tx mg) (IE : ErrI P w K mg base) (T_InvalidPair : ErrC K mg "InvalidPair")
    (C_are_two : Cal P w K mg base CX0 1 "are_two" ["names", "one", "other"] (spTwo K)) :
    FnOk P w K mg base (L2.CX P w) 3 f fd ["names", "pairs"] (spPairs K) := by
  refine F.ok sc_check_pairs (fun vs H Q E h => ?_) (fun cdv A outer s H vs Q E hr h => ⟨_, (pss_one (ps_for (passes_of rfl) rfl (pi_enumK (K := K) (by rfl) T.n_enumerate (pa_cons (pv 1) pa_nil)) (pg_tupK (K := K) (n := 2) (pgs_cons (pg_name (i := 2) sc_check_pairs.nd rfl (Or.inl rfl)) (pgs_cons (pg_tupK (K := K) (n := 2) (pgs_cons (pg_name (i := 3) sc_check_pairs.nd rfl (Or.inl rfl)) (pgs_cons (pg_name (i := 4) sc_check_pairs.nd rfl (Or.inl rfl)) pgs_nil))) pgs_nil)))
 (pss_cons (ps_set (i := 5) sc_check_pairs.nd rfl (Or.inl rfl) (pe_slice (r := rSlL K) sl_list (pv 1) po_none (po_some (pv 2))))
 (pss_one (ps_if (PW.pt (pw_or (pt_not (pt_val (pe_cal C_are_two hr rfl (pa_cons (pv 0) (pa_cons (pv 3) (pa_cons (pv 4) pa_nil)))))) (pw_or (pt_cmpR (r := rInD K) (op_inD hr.units5) (pe_tup (pa_cons (pv 3) (pa_cons (pv 4) pa_nil))) (pv 5) (by rfl)) (pw_or1 (pt_cmpR (r := rInD K) (op_inD hr.units5) (pe_tup (pa_cons (pv 4) (pa_cons (pv 3) pa_nil))) (pv 5) (by rfl))))))
 (pss_one (ps_raise rfl (takes_of rfl rfl rfl rfl) (pmk_x IE T_InvalidPair hr rfl (pa_cons (pe_tup (pa_cons (pv 3) (pa_cons (pv 4) pa_nil))) pa_nil))))
 pss_nil))))), ?_⟩)
  · obtain ⟨a, b, ns, as, ps, rfl, _⟩ := h
    rfl
  · obtain ⟨a, b, ns, as, ps, rfl, hN, hA, hP, hok, k1, k2⟩ := h
    have hpl := hP.length
    walk_at "rd"
    refine d_ien1 hA ?_
    refine for_enum (K := K) (a := b) (xs := as.map V.ref) (fun i σ' H1 => ∃ v1 v2 v3 v4 : Option V, σ' = [some (.ref a), some (.ref b), v1, v2, v3, v4] ∧ Same H H1 ∧ ∀ j y, j < i → ps[j]? = some y → ¬ PairBad ns (ps.take j) y) ?_ ?_ ?_ ?_
    · exact ⟨none, none, none, none, rfl, Same.refl H, fun j y h => by omega⟩
    · rintro i σ' H1 _ ⟨v1, v2, v3, v4, rfl, s1, _⟩
      exact s1.seq hA
    · rintro i x T1 σ' H1 hi ⟨v1, v2, v3, v4, rfl, s1, nb⟩ nT
      obtain ⟨pa, hpa, rfl⟩ := map_get hi
      obtain ⟨⟨po, pu⟩, hpp, hob⟩ := hP.get hpa
      have hpo := hok _ (List.mem_of_getElem? hpp)
      have s2 : Same H (upd H1 T1 (.tup [.int (i : Nat), .ref pa])) := fun b o e => by rw [upd_ne (ne_of_none (s1 b o e) nT)]; exact s1 b o e
      refine d_gtup (SqT.of upd_same) ?_ rfl
      walk_at "rd"
      refine d_gtup (SqT.of (s2 _ _ hob)) ?_ rfl
      walk_at "rd"
      refine d_slL (s2.seq hA) ?_
      intro q nq
      rw [cut_take, ← List.map_take]
      have s3 : Same H (upd (upd H1 T1 (.tup [.int (i : Nat), .ref pa])) q (.lst ((as.take i).map V.ref))) := fun b o e => by rw [upd_ne (ne_of_none (s2 b o e) nq)]; exact s2 b o e
      have hq : upd (upd H1 T1 (.tup [.int (i : Nat), .ref pa])) q (.lst ((as.take i).map V.ref)) q = some (.lst ((as.take i).map V.ref)) := upd_same
      generalize upd (upd H1 T1 (.tup [.int (i : Nat), .ref pa])) q (.lst ((as.take i).map V.ref)) = H3 at s3 hq
      have hP3 : PrsAt H3 as ps := hP.ts (TupS.same s3)
      have bad : ∀ (Hx : Hp) (tp : Addr), Same H Hx → Hx tp = some (.tup [.str po, .str pu]) → PairBad ns (ps.take i) (po, pu) → ∀ d, Hx d = none → E (.ref (ga K "InvalidPair")) (some d) (upd Hx d (.xd [("value", .ref tp)])) := fun Hx tp h1 h2 h3 d hd =>
        k1 (po, pu) ⟨i, hpp, h3, nb⟩ _ d tp (fun b o e => by rw [upd_ne (ne_of_none (h1 b o e) hd)]; exact h1 b o e) upd_same (by rw [upd_ne (ne_of_none h2 hd)]; exact h2)
      have newT : ∀ (Hx : Hp) (tp : Addr) (oo : HO), Same H Hx → Hx tp = none → Same H (upd Hx tp oo) := fun Hx tp oo h1 h2 b o e => by rw [upd_ne (ne_of_none (h1 b o e) h2)]; exact h1 b o e
      walk_at "rd"
      refine ⟨a, ns, po, pu, rfl, s3.seq hN, fun b2 hb => ?_⟩
      walk_at "rd"
      cases b2 with
      | false =>
        refine iteT ?_
        walk_at "rd"
        refine iteT ?_
        walk_at "rd"
        intro tp ntp
        walk_at "rd"
        refine d_made T_InvalidPair fun d hd => ?_
        exact bad _ tp (newT _ _ _ s3 ntp) upd_same (.inl fun z => Bool.false_ne_true (hb.mpr z)) d hd
      | true =>
        have htwo := hb.mp rfl
        refine iteF ?_
        walk_at "rd"
        intro tq ntq
        have s4 := newT _ _ (.tup [.str po, .str pu]) s3 ntq
        walk_at "rd"
        have hq4 : upd H3 tq (.tup [.str po, .str pu]) q = some (.lst ((as.take i).map V.ref)) := by rw [upd_ne (ne_of_none hq ntq)]; exact hq
        have hP4 : PrsAt (upd H3 tq (.tup [.str po, .str pu])) as ps := hP3.ts (TupS.new ntq)
        refine d_inD (dp_pr (p := (po, pu)) upd_same) (.lst (SqL.of hq4) (dp_prs (hP4.take i))) (shaped_pr hpo) (shaped_prs fun p hp => hok p (List.mem_of_mem_take hp)) ?_
        rw [any_prs]
        walk_at "rd"
        generalize upd H3 tq (.tup [.str po, .str pu]) = H4 at s4 hq4 hP4
        refine ite2 (fun c => ?_) (fun c => ?_)
        · walk_at "rd"
          refine iteT ?_
          walk_at "rd"
          intro tp ntp
          walk_at "rd"
          refine d_made T_InvalidPair fun d hd => ?_
          exact bad _ tp (newT _ _ _ s4 ntp) upd_same (.inr (.inl (of_decide_eq_true c))) d hd
        · have c' : (po, pu) ∉ ps.take i := fun z => c (decide_eq_true z)
          walk_at "rd"
          intro tr ntr
          have s5 := newT _ _ (.tup [.str pu, .str po]) s4 ntr
          walk_at "rd"
          have hq5 : upd H4 tr (.tup [.str pu, .str po]) q = some (.lst ((as.take i).map V.ref)) := by rw [upd_ne (ne_of_none hq4 ntr)]; exact hq4
          have hP5 : PrsAt (upd H4 tr (.tup [.str pu, .str po])) as ps := hP4.ts (TupS.new ntr)
          refine d_inD (dp_pr (p := (pu, po)) upd_same) (.lst (SqL.of hq5) (dp_prs (hP5.take i))) (shaped_pr ⟨hpo.2, hpo.1⟩) (shaped_prs fun p hp => hok p (List.mem_of_mem_take hp)) ?_
          rw [any_prs]
          walk_at "rd"
          generalize upd H4 tr (.tup [.str pu, .str po]) = H5 at s5 hq5 hP5
          refine ite2 (fun c2 => ?_) (fun c2 => ?_)
          · walk_at "rd"
            intro tp ntp
            walk_at "rd"
            refine d_made T_InvalidPair fun d hd => ?_
            exact bad _ tp (newT _ _ _ s5 ntp) upd_same (.inr (.inr (of_decide_eq_true c2))) d hd
          · walk_at "rd"
            refine ⟨_, _, _, _, rfl, s5, fun j y hj hy => ?_⟩
            by_cases e : j < i
            · exact nb j y e hy
            · have e2 : j = i := by omega
              subst e2
              have e3 : y = (po, pu) := Option.some.inj (hy.symm.trans hpp)
              subst e3
              rintro (z | z | z)
              · exact z htwo
              · exact c' z
              · exact c2 (decide_eq_true z)
    · rintro σ' H1 ⟨v1, v2, v3, v4, rfl, s1, nb⟩
      walk_at "rd"
      exact k2 (fun j y hy => nb j y (by rw [List.length_map, hpl]; exact (List.getElem?_eq_some_iff.mp hy).1) hy) _ s1
end
end Ds
end F19
section F20
open L2 Ds
local macro_rules | `(tactic| walk_at "ds1") => `(tactic| with_reducible first
  | refine d_seq ?_ | refine d_asg ?_ | refine d_gname ?_ | refine d_if ?_ | refine d_next ?_ | refine d_ret ?_ | refine d_drop ?_ | refine d_test ?_ | refine d_B ?_ | refine d_c ?_
  | refine d_op ?_ | refine d_un ?_ | refine d_rI0 ?_ | refine d_rU ?_ | refine d_cons ?_ | refine d_nil ?_ | refine d_cb ?_ | refine d_bl ?_ | refine d_call ?_ | refine d_and ?_ | refine d_or ?_ | refine d_not ?_ | refine d_lst ?_ | refine d_tup ?_
  | refine d_par ?_ | refine d_par2 ?_ | refine d_for ?_ | refine d_rng1 ?_ | refine d_rng2 ?_ | refine d_ils ?_ | refine d_its ?_ | refine d_ien ?_ | refine d_lc ?_ | refine d_yes ?_ | refine d_step2 ?_ | refine d_chain ?_ | refine d_andV ?_ | refine d_orV ?_ | refine d_notV ?_ | refine d_slice ?_ | refine d_nopart ?_ | refine d_part ?_ | refine d_int ?_ | refine d_s2 ?_ | refine d_mkO ?_ | refine d_callS ?_ | refine d_p0 ?_ | refine d_p1 ?_ | refine d_disp ?_ | refine d_din ?_ | refine d_dnotin ?_ | refine d_dput ?_ | refine d_sfld ?_ | refine d_fld ?_ | refine d_gcons ?_ | refine d_gnil ?_ | refine d_gsub ?_ | refine d_bm ?_ | refine d_bm0 ?_)
local macro_rules | `(tactic| walk_at "ds2") => `(tactic| first
  | ((with_reducible show tVar _ _ _ _); refine d_var (by exact rfl) ?_)
  | (with_reducible refine d_i1 ?_) | (with_reducible refine d_i2 ?_) | (with_reducible refine d_o1 ?_) | ((with_reducible refine d_ls ?k1 ?_); (case k1 => exact Nat.le_of_ble_eq_true rfl))
  | ((with_reducible refine' d_lenS ?k1 ?_); (case k1 => first | assumption | exact SqL.of (by assumption))) | ((with_reducible refine' d_listS ?k1 ?_); (case k1 => first | assumption | exact SqL.of (by assumption)))
  | ((with_reducible refine' d_len ?k1 ?_); (case k1 => first | assumption | exact SqL.of (by assumption)))
  | ((with_reducible refine' d_eq ?k1 ?_); (case k1 => rfl)) | ((with_reducible refine' d_ne ?k1 ?_); (case k1 => rfl))
  | ((with_reducible refine' d_new ?k1 ?_); (case k1 => exact Nat.le_of_ble_eq_true rfl)))
local macro_rules | `(tactic| walk_at "rd") => `(tactic| repeat (first | walk_at "ds1" | walk_at "ds2"))
local macro_rules | `(tactic| walk_at "sub") => `(tactic| repeat (first | exact List.Sublist.slnil | exact List.Sublist.refl _ | refine List.Sublist.cons₂ _ ?_ | refine List.Sublist.cons _ ?_))

namespace Ds
open PySem PySem.Spec PyProof.Rows L2 He
abbrev s_dsources : Stmt := inClass (top 9) 5
abbrev N_dsources : List Str := ["self", "name"]
abbrev s_dleading : Stmt := inClass (top 9) 6
section
variable {P : Program} {w : World} {K : PySem.W.Frag} {mg : Str → Option Value} {base : Heap}
/-- what the written part says of the class -/
structure DiagC (K : PySem.W.Frag) : Prop where
  cl : Cls K (ga K "Diagram")
  nN : NoAttr K (ga K "Diagram") "_names"
  nA : NoAttr K (ga K "Diagram") "_arrows"
  nP : NoAttr K (ga K "Diagram") "_pairs"
def dFs (l1 l2 l3 : Addr) : List (Str × V) := [("_names", .ref l1), ("_arrows", .ref l2), ("_pairs", .ref l3)]
/-- a diagram stands at a -/
def DiagAt (K : PySem.W.Frag) (H : Hp) (a : Addr) (ns : List Str) (ls vs : List Pr) : Prop := ∃ (dx l1 l2 l3 : Addr) (as bs : List Addr), H a = some (.ins (ga K "Diagram") dx (dFs l1 l2 l3)) ∧
  H l1 = some (.lst (ns.map V.str)) ∧ H l2 = some (.lst (as.map V.ref)) ∧ H l3 = some (.lst (bs.map V.ref)) ∧ PrsAt H as ls ∧ PrsAt H bs vs
theorem DiagAt.same {H H' : Hp} {a : Addr} {ns : List Str} {ls vs : List Pr} (h : DiagAt K H a ns ls vs) (s : Same H H') : DiagAt K H' a ns ls vs := by
  obtain ⟨dx, l1, l2, l3, as, bs, h0, h1, h2, h3, h4, h5⟩ := h
  exact ⟨dx, l1, l2, l3, as, bs, s _ _ h0, s _ _ h1, s _ _ h2, s _ _ h3, h4.ts (TupS.same s), h5.ts (TupS.same s)⟩
/-- a diagram stands at a, its lists are newer than H -/
def DiagNew (K : PySem.W.Frag) (H0 H : Hp) (a : Addr) (ns : List Str) (ls vs : List Pr) : Prop := ∃ (dx l1 l2 l3 : Addr) (as bs : List Addr), H a = some (.ins (ga K "Diagram") dx (dFs l1 l2 l3)) ∧
  H l1 = some (.lst (ns.map V.str)) ∧ H l2 = some (.lst (as.map V.ref)) ∧ H l3 = some (.lst (bs.map V.ref)) ∧ PrsAt H as ls ∧ PrsAt H bs vs ∧ H0 l1 = none ∧ H0 l2 = none ∧ H0 l3 = none
theorem DiagNew.at_ {H0 H : Hp} {a : Addr} {ns : List Str} {ls vs : List Pr} (h : DiagNew K H0 H a ns ls vs) : DiagAt K H a ns ls vs := by
  obtain ⟨dx, l1, l2, l3, as, bs, h0, h1, h2, h3, h4, h5, _⟩ := h
  exact ⟨dx, l1, l2, l3, as, bs, h0, h1, h2, h3, h4, h5⟩
/-- what a diagram may be made of -/
structure Good (ns : List Str) (ls vs : List Pr) : Prop where
  n : NoBad NameBad ns
  lo : 1 ≤ ns.length
  hi : ns.length ≤ 6
  l : NoBad (ArrowBad ns) ls
  v : NoBad (PairBad ns) vs
theorem sc_init : FnScope ["self", "names", "arrows", "pairs"] ["self", "names", "arrows", "pairs"] (defScope s_init) := ⟨rfl, rfl, rfl, by decide +kernel, rfl, by decide +kernel, by decide +kernel⟩
def spInit (K : PySem.W.Frag) : Sp := fun vs H Q E => ∃ (p dx a b c : Addr) (ns : List Str) (as bs : List Addr) (ls qs : List Pr), vs = [.ref p, .ref a, .ref b, .ref c] ∧ H p = some (.ins (ga K "Diagram") dx []) ∧
  H a = some (.lst (ns.map V.str)) ∧ H b = some (.lst (as.map V.ref)) ∧ H c = some (.lst (bs.map V.ref)) ∧ PrsAt H as ls ∧ PrsAt H bs qs ∧
  ns.length ≤ 1000 ∧ as.length ≤ 1000 ∧ (∀ x ∈ ns, x.length ≤ 1000) ∧ (∀ p ∈ ls, POk p) ∧ (∀ p ∈ qs, POk p) ∧
  (∀ x, FirstBad NameBad ns x → Out K H E "InvalidName" (.str x)) ∧ (NoBad NameBad ns → ¬ (1 ≤ ns.length ∧ ns.length ≤ 6) → Out K H E "InvalidNumber" (.int ns.length)) ∧
  (NoBad NameBad ns → 1 ≤ ns.length ∧ ns.length ≤ 6 → ∀ p, FirstBad (ArrowBad ns) ls p → OutP K H E "InvalidArrow" p) ∧
  (NoBad NameBad ns → 1 ≤ ns.length ∧ ns.length ≤ 6 → NoBad (ArrowBad ns) ls → ∀ p, FirstBad (PairBad ns) qs p → OutP K H E "InvalidPair" p) ∧
  (Good ns ls qs → ∀ H', (∀ u o, H u = some o → u ≠ p → H' u = some o) → DiagNew K H H' p ns ls qs → Q .non H')
theorem ok_init {f : Addr} {fd : FuncData} (F : FnP K "__init__" "Diagram.__init__" s_init f fd) (T : Tx mg) (DC : DiagC K)
    (C_check_things : Cal P w K mg base (L2.CX P w) 3 "check_things" ["names"] (spThings K)) (C_check_arrows : Cal P w K mg base (L2.CX P w) 3 "check_arrows" ["names", "arrows"] (spArrows K))
    (C_check_pairs : Cal P w K mg base (L2.CX P w) 3 "check_pairs" ["names", "pairs"] (spPairs K)) : FnOk P w K mg base (L2.CX P w) 4 f fd ["self", "names", "arrows", "pairs"] (spInit K) := by
  refine F.ok sc_init (fun vs H Q E h => ?_) (fun cdv A outer s H vs Q E hr h => ⟨_, (pss_cons (ps_expr (pe_calX C_check_things hr rfl (takes_of rfl rfl rfl rfl) (pa_cons (pv 1) pa_nil)))
 (pss_cons (ps_expr (pe_calX C_check_arrows hr rfl (takes_of rfl rfl rfl rfl) (pa_cons (pv 1) (pa_cons (pv 2) pa_nil))))
 (pss_cons (ps_expr (pe_calX C_check_pairs hr rfl (takes_of rfl rfl rfl rfl) (pa_cons (pv 1) (pa_cons (pv 3) pa_nil))))
 (pss_cons (ps_fldK (K := K) (pv 0) (pe_callTy (r := Evl.rListS K) call_list_of (by rfl) T.n_list (by decide +kernel) (pa_cons (pv 1) pa_nil)))
 (pss_cons (ps_fldK (K := K) (pv 0) (pe_callTy (r := Evl.rListS K) call_list_of (by rfl) T.n_list (by decide +kernel) (pa_cons (pv 2) pa_nil)))
 (pss_one (ps_fldK (K := K) (pv 0) (pe_callTy (r := Evl.rListS K) call_list_of (by rfl) T.n_list (by decide +kernel) (pa_cons (pv 3) pa_nil))))))))), ?_⟩)
  · obtain ⟨p, dx, a, b, c, ns, as, bs, ls, qs, rfl, _⟩ := h
    rfl
  · obtain ⟨p, dx, a, b, c, ns, as, bs, ls, qs, rfl, hp, ha, hb, hc, hL, hQ, n1, n2, n3, o1, o2, k1, k2, k3, k4, k5⟩ := h
    have out : ∀ {H1 : Hp} {x : Str} {v : V}, Same H H1 → Out K H E x v → Out K H1 E x v := fun s k H' d h1 h2 => k H' d (s.trans h1) h2
    have outP : ∀ {H1 : Hp} {x : Str} {q : Pr}, Same H H1 → OutP K H E x q → OutP K H1 E x q := fun s k H' d t h1 h2 h3 => k H' d t (s.trans h1) h2 h3
    walk_at "rd"
    refine ⟨a, ns, rfl, SqL.of ha, n1, n3, k1, k2, fun nob hlen H1 s1 => ?_⟩
    walk_at "rd"
    refine ⟨a, b, ns, as, ls, rfl, s1.seq (SqL.of ha), s1.seq (SqL.of hb), hL.ts (TupS.same s1), n1, n2, o1, fun q hq => outP s1 (k3 nob hlen q hq), fun noa H2 s2 => ?_⟩
    have t2 := s1.trans s2
    walk_at "rd"
    refine ⟨a, c, ns, bs, qs, rfl, t2.seq (SqL.of ha), t2.seq (SqL.of hc), hQ.ts (TupS.same t2), o2, fun q hq => outP t2 (k4 nob hlen noa q hq), fun nop H3 s3 => ?_⟩
    have t3 := t2.trans s3
    have npa : a ≠ p := ne_of ha hp (by intro z; cases z)
    have npb : b ≠ p := ne_of hb hp (by intro z; cases z)
    have npc : c ≠ p := ne_of hc hp (by intro z; cases z)
    walk_at "rd"
    have M0 := Mem.start1 (t3 _ _ hp)
    refine d_listS (SqL.of (t3 _ _ ha)) ?_
    intro l1 nl1
    have M1 := M0.alloc nl1 (o' := .lst (ns.map V.str))
    walk_at "rd"
    refine ⟨p, _, dx, _, rfl, M1.get 0, DC.cl, DC.nN, by show 0 < 1000; decide, ?_⟩
    have e1 : putF "_names" (V.ref l1) [] = ([("_names", V.ref l1)] : List (Str × V)) := rfl
    rw [e1]
    have M2 := M1.set 0 (o' := .ins (ga K "Diagram") dx [("_names", .ref l1)]) rfl
    have gb : ∀ {Hx : Hp} {L : List (Addr × HO)}, Mem H3 [p] L Hx → ∀ u o, H u = some o → u ≠ p → Hx u = some o := fun M u o e z => M.fr u o (t3 u o e) (by simpa using z)
    walk_at "rd"
    refine d_listS (SqL.of (gb M2 b _ hb npb)) ?_
    intro l2 nl2
    have M3 := M2.alloc nl2 (o' := .lst (as.map V.ref))
    walk_at "rd"
    refine ⟨p, _, dx, _, rfl, M3.get 0, DC.cl, DC.nA, by show 1 < 1000; decide, ?_⟩
    have e2 : putF "_arrows" (V.ref l2) ([("_names", V.ref l1)] : List (Str × V)) = ([("_names", V.ref l1), ("_arrows", V.ref l2)] : List (Str × V)) := by
      show (if ("_names" : Str) = "_arrows" then [(("_names" : Str), V.ref l2)] else (("_names" : Str), V.ref l1) :: putF "_arrows" (V.ref l2) []) = _
      rw [if_neg (by decide +kernel)]
      rfl
    rw [e2]
    have M4 := M3.set 0 (o' := .ins (ga K "Diagram") dx [("_names", .ref l1), ("_arrows", .ref l2)]) rfl
    walk_at "rd"
    refine d_listS (SqL.of (gb M4 c _ hc npc)) ?_
    intro l3 nl3
    have M5 := M4.alloc nl3 (o' := .lst (bs.map V.ref))
    walk_at "rd"
    refine ⟨p, _, dx, _, rfl, M5.get 0, DC.cl, DC.nP, by show 2 < 1000; decide, ?_⟩
    have e3 : putF "_pairs" (V.ref l3) ([("_names", V.ref l1), ("_arrows", V.ref l2)] : List (Str × V)) = dFs l1 l2 l3 := by
      show (if ("_names" : Str) = "_pairs" then [(("_names" : Str), V.ref l3), ("_arrows", V.ref l2)] else (("_names" : Str), V.ref l1) :: (if ("_arrows" : Str) = "_pairs" then [(("_arrows" : Str), V.ref l3)] else (("_arrows" : Str), V.ref l2) :: putF "_pairs" (V.ref l3) [])) = _
      rw [if_neg (by decide +kernel), if_neg (by decide +kernel)]
      rfl
    rw [e3]
    have M6 := M5.set 0 (o' := .ins (ga K "Diagram") dx (dFs l1 l2 l3)) rfl
    have ts : TupS H _ := fun u xs e => gb M6 u _ e (ne_of e hp (by intro z; cases z))
    refine k5 ⟨nob, hlen.1, hlen.2, noa, nop⟩ _ (gb M6) ⟨dx, l1, l2, l3, as, bs, M6.get 0, M6.get 1, M6.get 2, M6.get 3, hL.ts ts, hQ.ts ts, t3.free nl1, ?_, ?_⟩
    · cases e : H l2 with
      | none => rfl
      | some u =>
        have z := M3.ol (l2, .lst (as.map V.ref)) (by simp)
        rcases z with z | z
        · have z2 : l2 = p := by simpa using z
          rw [z2] at nl2
          rw [M2.get 0] at nl2
          cases nl2
        · exact e.symm.trans (t3.free z)
    · cases e : H l3 with
      | none => rfl
      | some u =>
        have z := M5.ol (l3, .lst (bs.map V.ref)) (by simp)
        rcases z with z | z
        · have z2 : l3 = p := by simpa using z
          rw [z2] at nl3
          rw [M4.get 0] at nl3
          cases nl3
        · exact e.symm.trans (t3.free z)
end
end Ds
end F20
section F21
open L2 Ds
local macro_rules | `(tactic| walk_at "ds1") => `(tactic| with_reducible first
  | refine d_seq ?_ | refine d_asg ?_ | refine d_gname ?_ | refine d_if ?_ | refine d_next ?_ | refine d_ret ?_ | refine d_drop ?_ | refine d_test ?_ | refine d_B ?_ | refine d_c ?_
  | refine d_op ?_ | refine d_un ?_ | refine d_rI0 ?_ | refine d_rU ?_ | refine d_cons ?_ | refine d_nil ?_ | refine d_cb ?_ | refine d_bl ?_ | refine d_call ?_ | refine d_and ?_ | refine d_or ?_ | refine d_not ?_ | refine d_lst ?_ | refine d_tup ?_
  | refine d_par ?_ | refine d_par2 ?_ | refine d_for ?_ | refine d_rng1 ?_ | refine d_rng2 ?_ | refine d_ils ?_ | refine d_its ?_ | refine d_ien ?_ | refine d_lc ?_ | refine d_yes ?_ | refine d_step2 ?_ | refine d_chain ?_ | refine d_andV ?_ | refine d_orV ?_ | refine d_notV ?_ | refine d_slice ?_ | refine d_nopart ?_ | refine d_part ?_ | refine d_int ?_ | refine d_s2 ?_ | refine d_mkO ?_ | refine d_callS ?_ | refine d_p0 ?_ | refine d_p1 ?_ | refine d_disp ?_ | refine d_din ?_ | refine d_dnotin ?_ | refine d_dput ?_ | refine d_sfld ?_ | refine d_fld ?_ | refine d_gcons ?_ | refine d_gnil ?_ | refine d_gsub ?_ | refine d_bm ?_ | refine d_bm0 ?_)
local macro_rules | `(tactic| walk_at "ds2") => `(tactic| first
  | ((with_reducible show tVar _ _ _ _); refine d_var (by exact rfl) ?_)
  | (with_reducible refine d_i1 ?_) | (with_reducible refine d_i2 ?_) | (with_reducible refine d_o1 ?_) | ((with_reducible refine d_ls ?k1 ?_); (case k1 => exact Nat.le_of_ble_eq_true rfl))
  | ((with_reducible refine' d_lenS ?k1 ?_); (case k1 => first | assumption | exact SqL.of (by assumption))) | ((with_reducible refine' d_listS ?k1 ?_); (case k1 => first | assumption | exact SqL.of (by assumption)))
  | ((with_reducible refine' d_len ?k1 ?_); (case k1 => first | assumption | exact SqL.of (by assumption)))
  | ((with_reducible refine' d_eq ?k1 ?_); (case k1 => rfl)) | ((with_reducible refine' d_ne ?k1 ?_); (case k1 => rfl))
  | ((with_reducible refine' d_new ?k1 ?_); (case k1 => exact Nat.le_of_ble_eq_true rfl)))
local macro_rules | `(tactic| walk_at "rd") => `(tactic| repeat (first | walk_at "ds1" | walk_at "ds2"))
local macro_rules | `(tactic| walk_at "sub") => `(tactic| repeat (first | exact List.Sublist.slnil | exact List.Sublist.refl _ | refine List.Sublist.cons₂ _ ?_ | refine List.Sublist.cons _ ?_))

namespace Ds
open PySem PySem.Spec PyProof.Rows L2 He
section
variable {P : Program} {w : World} {K : PySem.W.Frag} {mg : Str → Option Value} {base : Heap}
theorem nobad_let {ns : List Str} (h : NoBad NameBad ns) {y : Str} (hy : y ∈ ns) : IsLet y := by
  obtain ⟨j, hj⟩ := List.mem_iff_getElem?.mp hy
  exact Classical.byContradiction fun z => h j y hj (.inl z)
theorem Good.two {ns : List Str} {ls vs : List Pr} (g : Good ns ls vs) {p : Pr} (hp : p ∈ ls) : Two ns p := by
  obtain ⟨j, hj⟩ := List.mem_iff_getElem?.mp hp
  exact Classical.byContradiction fun z => g.l j p hj (.inl z)
theorem Good.lok {ns : List Str} {ls vs : List Pr} (g : Good ns ls vs) {p : Pr} (hp : p ∈ ls) : POk p := ⟨let_ok (nobad_let g.n (g.two hp).1), let_ok (nobad_let g.n (g.two hp).2.1)⟩
theorem Good.vtwo {ns : List Str} {ls vs : List Pr} (g : Good ns ls vs) {p : Pr} (hp : p ∈ vs) : Two ns p := by
  obtain ⟨j, hj⟩ := List.mem_iff_getElem?.mp hp
  exact Classical.byContradiction fun z => g.v j p hj (.inl z)
theorem Good.vok {ns : List Str} {ls vs : List Pr} (g : Good ns ls vs) {p : Pr} (hp : p ∈ vs) : POk p := ⟨let_ok (nobad_let g.n (g.vtwo hp).1), let_ok (nobad_let g.n (g.vtwo hp).2.1)⟩
abbrev s_names : Stmt := inClass (top 9) 1
abbrev s_arrows : Stmt := inClass (top 9) 2
abbrev s_pairs : Stmt := inClass (top 9) 3
abbrev s_eq : Stmt := inClass (top 9) 4
/-- the names, as a new list -/
def spNames (K : PySem.W.Frag) : Sp := fun us H Q _ => ∃ (p : Addr) (ns : List Str) (ls vs : List Pr), us = [.ref p] ∧ DiagAt K H p ns ls vs ∧ ∀ l, H l = none → Q (.ref l) (upd H l (.lst (ns.map V.str)))
def spArr (K : PySem.W.Frag) : Sp := fun us H Q _ => ∃ (p : Addr) (ns : List Str) (ls vs : List Pr), us = [.ref p] ∧ DiagAt K H p ns ls vs ∧ ∀ l as, H l = none → PrsAt H as ls → Q (.ref l) (upd H l (.lst (as.map V.ref)))
def spVls (K : PySem.W.Frag) : Sp := fun us H Q _ => ∃ (p : Addr) (ns : List Str) (ls vs : List Pr), us = [.ref p] ∧ DiagAt K H p ns ls vs ∧ ∀ l as, H l = none → PrsAt H as vs → Q (.ref l) (upd H l (.lst (as.map V.ref)))
theorem sc_names : FnScope ["self"] ["self"] (defScope s_names) := ⟨rfl, rfl, rfl, by decide +kernel, rfl, by decide +kernel, by decide +kernel⟩
theorem ok_names {f : Addr} {fd : FuncData} (F : FnP K "names" "Diagram.names" s_names f fd) (T : Tx mg) (DC : DiagC K) : FnOk P w K mg base CX0 1 f fd ["self"] (spNames K) := by
  refine F.ok sc_names (fun vs H Q E h => ?_) (fun cdv A outer s H vs Q E hr h => ⟨_, PSs.nox ((pss_one (ps_ret (pe_callTy (r := Evl.rListS K) call_list_of (by rfl) T.n_list (by decide +kernel) (pa_cons (pe_fldK (K := K) (pv 0)) pa_nil))))), ?_⟩)
  · obtain ⟨p, ns, ls, vs, rfl, _⟩ := h
    rfl
  · obtain ⟨p, ns, ls, vs, rfl, ⟨dx, l1, l2, l3, as, bs, h0, h1, h2, h3, h4, h5⟩, k⟩ := h
    walk_at "rd"
    refine ⟨p, _, dx, _, _, rfl, h0, DC.cl, DC.nN, rfl, ?_⟩
    walk_at "rd"
    intro l nl
    exact k l nl
theorem sc_arrows : FnScope ["self"] ["self"] (defScope s_arrows) := ⟨rfl, rfl, rfl, by decide +kernel, rfl, by decide +kernel, by decide +kernel⟩
theorem ok_arrows {f : Addr} {fd : FuncData} (F : FnP K "arrows" "Diagram.arrows" s_arrows f fd) (T : Tx mg) (DC : DiagC K) : FnOk P w K mg base CX0 1 f fd ["self"] (spArr K) := by
  refine F.ok sc_arrows (fun vs H Q E h => ?_) (fun cdv A outer s H vs Q E hr h => ⟨_, PSs.nox ((pss_one (ps_ret (pe_callTy (r := Evl.rListS K) call_list_of (by rfl) T.n_list (by decide +kernel) (pa_cons (pe_fldK (K := K) (pv 0)) pa_nil))))), ?_⟩)
  · obtain ⟨p, ns, ls, vs, rfl, _⟩ := h
    rfl
  · obtain ⟨p, ns, ls, vs, rfl, ⟨dx, l1, l2, l3, as, bs, h0, h1, h2, h3, h4, h5⟩, k⟩ := h
    walk_at "rd"
    refine ⟨p, _, dx, _, _, rfl, h0, DC.cl, DC.nA, rfl, ?_⟩
    walk_at "rd"
    intro l nl
    exact k l as nl h4
theorem sc_pairs : FnScope ["self"] ["self"] (defScope s_pairs) := ⟨rfl, rfl, rfl, by decide +kernel, rfl, by decide +kernel, by decide +kernel⟩
theorem ok_pairs {f : Addr} {fd : FuncData} (F : FnP K "pairs" "Diagram.pairs" s_pairs f fd) (T : Tx mg) (DC : DiagC K) : FnOk P w K mg base CX0 1 f fd ["self"] (spVls K) := by
  refine F.ok sc_pairs (fun vs H Q E h => ?_) (fun cdv A outer s H vs Q E hr h => ⟨_, PSs.nox ((pss_one (ps_ret (pe_callTy (r := Evl.rListS K) call_list_of (by rfl) T.n_list (by decide +kernel) (pa_cons (pe_fldK (K := K) (pv 0)) pa_nil))))), ?_⟩)
  · obtain ⟨p, ns, ls, vs, rfl, _⟩ := h
    rfl
  · obtain ⟨p, ns, ls, vs, rfl, ⟨dx, l1, l2, l3, as, bs, h0, h1, h2, h3, h4, h5⟩, k⟩ := h
    walk_at "rd"
    refine ⟨p, _, dx, _, _, rfl, h0, DC.cl, DC.nP, rfl, ?_⟩
    walk_at "rd"
    intro l nl
    exact k l bs nl h5
/-- == of a diagram: another one, or anything else -/
def spEq (K : PySem.W.Frag) : Sp := fun us H Q _ => ∃ (p : Addr) (ns : List Str) (ls vs : List Pr) (y : V) (t : Value), us = [.ref p, y] ∧ DiagAt K H p ns ls vs ∧ Good ns ls vs ∧ TyX K H y t ∧
  ((PySem.W.kitOne K t (.ref (ga K "Diagram")) = some false ∧ Q (.bl false) H) ∨
   (PySem.W.kitOne K t (.ref (ga K "Diagram")) = some true ∧ ∃ (q : Addr) (ns2 : List Str) (ls2 vs2 : List Pr), y = .ref q ∧ DiagAt K H q ns2 ls2 vs2 ∧ Good ns2 ls2 vs2 ∧ Q (.bl (decide (ns = ns2 ∧ ls = ls2 ∧ vs = vs2))) H))
theorem sc_eq : FnScope ["self", "other"] ["self", "other"] (defScope s_eq) := ⟨rfl, rfl, rfl, by decide +kernel, rfl, by decide +kernel, by decide +kernel⟩
structure ClsG (K : PySem.W.Frag) (mg : Str → Option Value) (x : Str) : Prop where
  gl : mg x = some (.ref (ga K x))
structure ClsAll (K : PySem.W.Frag) (mg : Str → Option Value) : Prop where
  Diagram : ClsG K mg "Diagram"
theorem ok_eq {f : Addr} {fd : FuncData} (F : FnP K "__eq__" "Diagram.__eq__" s_eq f fd) (T : Tx mg) (TC : ClsAll K mg) (DC : DiagC K) : FnOk P w K mg base CX0 1 f fd ["self", "other"] (spEq K) := by
  refine F.ok sc_eq (fun vs H Q E h => ?_) (fun cdv A outer s H vs Q E hr h => ⟨_, PSs.nox ((pss_one (ps_ret (pe_and (pe_callB (r := rIsi K) call_isi (by rfl) T.n_isinstance (by decide +kernel) (pa_cons (pv 1) (pa_cons (pe_glob (v := .ref (ga K "Diagram")) rfl TC.Diagram.gl rfl) pa_nil))) (pe_and (pe_cmpR (r := rEqD K) (op_eqD hr.units) (pe_fldK (K := K) (pv 0)) (pe_fldK (K := K) (pv 1)) (nomark _)) (pe_and (pe_cmpR (r := rEqD K) (op_eqD hr.units) (pe_fldK (K := K) (pv 0)) (pe_fldK (K := K) (pv 1)) (nomark _)) (pe_one (pe_cmpR (r := rEqD K) (op_eqD hr.units) (pe_fldK (K := K) (pv 0)) (pe_fldK (K := K) (pv 1)) (nomark _))))))))), ?_⟩)
  · obtain ⟨p, ns, ls, vs, y, t, rfl, _⟩ := h
    rfl
  · obtain ⟨p, ns, ls, vs, y, t, rfl, ⟨dx, l1, l2, l3, as, bs, h0, h1, h2, h3, h4, h5⟩, g, ty, k⟩ := h
    walk_at "rd"
    rcases k with ⟨e, k⟩ | ⟨e, q, ns2, ls2, vs2, rfl, ⟨dy, m1, m2, m3, cs, ds, g0, g1, g2, g3, g4, g5⟩, g', k⟩
    · refine ⟨y, _, t, _, _, rfl, .own _, ty, e, ?_⟩
      walk_at "rd"
      refine iteF ?_
      exact k
    · refine ⟨_, _, t, _, _, rfl, .own _, ty, e, ?_⟩
      walk_at "rd"
      refine iteT ?_
      walk_at "rd"
      refine ⟨p, _, dx, _, _, rfl, h0, DC.cl, DC.nN, rfl, ?_⟩
      walk_at "rd"
      refine ⟨q, _, dy, _, _, rfl, g0, DC.cl, DC.nN, rfl, ?_⟩
      refine d_rEqD (dd := dStr ns) (e := dStr ns2) (.lst (SqL.of h1) (dp_strs _)) (.lst (SqL.of g1) (dp_strs _)) (shaped_strs fun y hy => let_ok (nobad_let g.n hy)) (shaped_strs fun y hy => let_ok (nobad_let g'.n hy)) ?_
      rw [eqv_strs]
      walk_at "rd"
      refine ite2 (fun c1 => ?_) (fun c1 => ?_)
      · have c1' := of_decide_eq_true c1
        walk_at "rd"
        refine ⟨p, _, dx, _, _, rfl, h0, DC.cl, DC.nA, rfl, ?_⟩
        walk_at "rd"
        refine ⟨q, _, dy, _, _, rfl, g0, DC.cl, DC.nA, rfl, ?_⟩
        refine d_rEqD (dd := dPrs ls) (e := dPrs ls2) (.lst (SqL.of h2) (dp_prs h4)) (.lst (SqL.of g2) (dp_prs g4)) (shaped_prs fun y hy => g.lok hy) (shaped_prs fun y hy => g'.lok hy) ?_
        rw [eqv_prs]
        walk_at "rd"
        refine ite2 (fun c2 => ?_) (fun c2 => ?_)
        · have c2' := of_decide_eq_true c2
          walk_at "rd"
          refine ⟨p, _, dx, _, _, rfl, h0, DC.cl, DC.nP, rfl, ?_⟩
          walk_at "rd"
          refine ⟨q, _, dy, _, _, rfl, g0, DC.cl, DC.nP, rfl, ?_⟩
          refine d_rEqD (dd := dPrs vs) (e := dPrs vs2) (.lst (SqL.of h3) (dp_prs h5)) (.lst (SqL.of g3) (dp_prs g5)) (shaped_prs fun y hy => g.vok hy) (shaped_prs fun y hy => g'.vok hy) ?_
          rw [eqv_prs]
          walk_at "rd"
          have e2 : decide (vs = vs2) = decide (ns = ns2 ∧ ls = ls2 ∧ vs = vs2) := by simp [c1', c2']
          rw [e2]
          exact k
        · walk_at "rd"
          have e2 : false = decide (ns = ns2 ∧ ls = ls2 ∧ vs = vs2) := (decide_eq_false fun z => c2 (decide_eq_true z.2.1)).symm
          rw [e2]
          exact k
      · walk_at "rd"
        have e2 : false = decide (ns = ns2 ∧ ls = ls2 ∧ vs = vs2) := (decide_eq_false fun z => c1 (decide_eq_true z.1)).symm
        rw [e2]
        exact k
end
end Ds
end F21
section F22
open L2 Ds
local macro_rules | `(tactic| walk_at "ds1") => `(tactic| with_reducible first
  | refine d_seq ?_ | refine d_asg ?_ | refine d_gname ?_ | refine d_if ?_ | refine d_next ?_ | refine d_ret ?_ | refine d_drop ?_ | refine d_test ?_ | refine d_B ?_ | refine d_c ?_
  | refine d_op ?_ | refine d_un ?_ | refine d_rI0 ?_ | refine d_rU ?_ | refine d_cons ?_ | refine d_nil ?_ | refine d_cb ?_ | refine d_bl ?_ | refine d_call ?_ | refine d_and ?_ | refine d_or ?_ | refine d_not ?_ | refine d_lst ?_ | refine d_tup ?_
  | refine d_par ?_ | refine d_par2 ?_ | refine d_for ?_ | refine d_rng1 ?_ | refine d_rng2 ?_ | refine d_ils ?_ | refine d_its ?_ | refine d_ien ?_ | refine d_lc ?_ | refine d_yes ?_ | refine d_step2 ?_ | refine d_chain ?_ | refine d_andV ?_ | refine d_orV ?_ | refine d_notV ?_ | refine d_slice ?_ | refine d_nopart ?_ | refine d_part ?_ | refine d_int ?_ | refine d_s2 ?_ | refine d_mkO ?_ | refine d_callS ?_ | refine d_p0 ?_ | refine d_p1 ?_ | refine d_disp ?_ | refine d_din ?_ | refine d_dnotin ?_ | refine d_dput ?_ | refine d_sfld ?_ | refine d_fld ?_ | refine d_gcons ?_ | refine d_gnil ?_ | refine d_gsub ?_ | refine d_bm ?_ | refine d_bm0 ?_)
local macro_rules | `(tactic| walk_at "ds2") => `(tactic| first
  | ((with_reducible show tVar _ _ _ _); refine d_var (by exact rfl) ?_)
  | (with_reducible refine d_i1 ?_) | (with_reducible refine d_i2 ?_) | (with_reducible refine d_o1 ?_) | ((with_reducible refine d_ls ?k1 ?_); (case k1 => exact Nat.le_of_ble_eq_true rfl))
  | ((with_reducible refine' d_lenS ?k1 ?_); (case k1 => first | assumption | exact SqL.of (by assumption))) | ((with_reducible refine' d_listS ?k1 ?_); (case k1 => first | assumption | exact SqL.of (by assumption)))
  | ((with_reducible refine' d_len ?k1 ?_); (case k1 => first | assumption | exact SqL.of (by assumption)))
  | ((with_reducible refine' d_eq ?k1 ?_); (case k1 => rfl)) | ((with_reducible refine' d_ne ?k1 ?_); (case k1 => rfl))
  | ((with_reducible refine' d_new ?k1 ?_); (case k1 => exact Nat.le_of_ble_eq_true rfl)))
local macro_rules | `(tactic| walk_at "rd") => `(tactic| repeat (first | walk_at "ds1" | walk_at "ds2"))
local macro_rules | `(tactic| walk_at "sub") => `(tactic| repeat (first | exact List.Sublist.slnil | exact List.Sublist.refl _ | refine List.Sublist.cons₂ _ ?_ | refine List.Sublist.cons _ ?_))

namespace Ds
open PySem PySem.Spec PyProof.Rows L2 He

/-! ### what a drawn chart gives -/
theorem ord_inj {order : List Str} (nd : order.Nodup) {i j : Nat} {a : Str} (hi : order[i]? = some a) (hj : order[j]? = some a) : i = j := by
  obtain ⟨a1, e1⟩ := List.getElem?_eq_some_iff.mp hi
  obtain ⟨a2, e2⟩ := List.getElem?_eq_some_iff.mp hj
  exact (List.getElem_inj nd).mp (e1.trans e2.symm)
theorem leads_ord {order : List Str} {ls : List Pr} (nd : order.Nodup) (h : ∀ p ∈ ls, ∃ i j : Nat, i < j ∧ order[i]? = some p.1 ∧ order[j]? = some p.2) {a b : Str} (l : Leads ls a b) : a = b ∨ ∃ i j : Nat, i < j ∧ order[i]? = some a ∧ order[j]? = some b := by
  induction l with
  | refl a => exact .inl rfl
  | step e _ ih =>
    obtain ⟨i, j, h1, h2, h3⟩ := h _ e
    rcases ih with rfl | ⟨k, l, h4, h5, h6⟩
    · exact .inr ⟨i, j, h1, h2, h3⟩
    · have : j = k := ord_inj nd h3 h5
      exact .inr ⟨i, l, by omega, h2, h6⟩
theorem pw_take {α : Type} {R : α → α → Prop} {xs : List α} (h : xs.Pairwise R) {j : Nat} {x y : α} (hx : x ∈ xs.take j) (hy : xs[j]? = some y) : R x y := by
  obtain ⟨hj, e⟩ := List.getElem?_eq_some_iff.mp hy
  rw [List.mem_take_iff_getElem] at hx
  obtain ⟨i, hi, e2⟩ := hx
  rw [List.pairwise_iff_getElem] at h
  have := h i j (by omega) hj (by omega)
  rw [e2, e] at this
  exact this
theorem ChartOk.good {W : Nat} {ns : List Str} {ls vs : List Pr} (c : ChartOk W ns ls vs) (hW : W ≤ 6) : Good ns ls vs := by
  obtain ⟨order, pm, ho⟩ := c.ord
  have ond : order.Nodup := pm.nodup_iff.mpr c.nd
  refine ⟨fun j y hj hb => ?_, c.lo, Nat.le_trans c.hi hW, fun j p hj hb => ?_, fun j p hj hb => ?_⟩
  · rcases hb with hb | hb
    · exact hb (c.lets y (List.mem_of_getElem? hj))
    · exact pw_take (List.nodup_iff_pairwise_ne.mp c.nd) hb hj rfl
  · obtain ⟨i, k, h1, h2, h3⟩ := ho p (List.mem_of_getElem? hj)
    rcases hb with hb | hb | hb
    · refine hb ⟨pm.mem_iff.mp (List.mem_of_getElem? h2), pm.mem_iff.mp (List.mem_of_getElem? h3), fun e => ?_⟩
      rw [← e] at h3
      have := ord_inj ond h2 h3
      omega
    · exact pw_take (List.nodup_iff_pairwise_ne.mp c.lnd) hb hj rfl
    · rcases leads_ord ond ho (hb.mono fun q hq => List.mem_of_mem_take hq) with e | ⟨i2, k2, h4, h5, h6⟩
      · rw [e] at h3
        have := ord_inj ond h2 h3
        omega
      · have := ord_inj ond h2 h6
        have := ord_inj ond h3 h5
        omega
  · rcases hb with hb | hb | hb
    · exact hb (c.vin p (List.mem_of_getElem? hj))
    · exact (pw_take c.vnd hb hj).1 rfl
    · exact (pw_take c.vnd hb hj).2 rfl
/-- a drawn chart stands at t -/
def ChAt (H : Hp) (t : Addr) (ns : List Str) (ls vs : List Pr) : Prop := ∃ (l1 l2 l3 : Addr) (as bs : List Addr), H t = some (.tup [.ref l1, .ref l2, .ref l3]) ∧
  H l1 = some (.lst (ns.map V.str)) ∧ H l2 = some (.lst (as.map V.ref)) ∧ H l3 = some (.lst (bs.map V.ref)) ∧ PrsAt H as ls ∧ PrsAt H bs vs
theorem ChAt.same {H H' : Hp} {t : Addr} {ns : List Str} {ls vs : List Pr} (h : ChAt H t ns ls vs) (s : Same H H') : ChAt H' t ns ls vs := by
  obtain ⟨l1, l2, l3, as, bs, h0, h1, h2, h3, h4, h5⟩ := h
  exact ⟨l1, l2, l3, as, bs, s _ _ h0, s _ _ h1, s _ _ h2, s _ _ h3, h4.ts (TupS.same s), h5.ts (TupS.same s)⟩
theorem nodup_leP : ∀ {l m : List Pr}, l.Nodup → (∀ x ∈ l, x ∈ m) → l.length ≤ m.length
  | [], _, _, _ => Nat.zero_le _
  | x :: l, m, nd, h => by
    have hx : x ∈ m := h x (by simp)
    obtain ⟨nx, nd'⟩ := List.nodup_cons.mp nd
    have h2 : ∀ y ∈ l, y ∈ m.erase x := fun y hy => by
      have hne : y ≠ x := fun e => nx (e ▸ hy)
      exact (List.mem_erase_of_ne hne).mpr (h y (by simp [hy]))
    have := nodup_leP nd' h2
    rw [List.length_erase_of_mem hx] at this
    have hp : 0 < m.length := List.length_pos_of_mem hx
    rw [List.length_cons]
    omega
theorem flatMap_len {α β : Type} (f : α → List β) (n : Nat) : ∀ l : List α, (∀ x ∈ l, (f x).length = n) → (l.flatMap f).length = l.length * n
  | [], _ => by simp
  | x :: l, h => by
    rw [List.flatMap_cons, List.length_append, flatMap_len f n l (fun y hy => h y (by simp [hy])), h x (by simp), List.length_cons, Nat.succ_mul, Nat.add_comm]
theorem nobadA_nd {ns : List Str} {ls : List Pr} (h : NoBad (ArrowBad ns) ls) : ls.Nodup := by
  rw [List.nodup_iff_pairwise_ne, List.pairwise_iff_getElem]
  intro i j hi hj hij e
  refine h j ls[j] (List.getElem?_eq_getElem hj) (.inr (.inl ?_))
  rw [List.mem_take_iff_getElem]
  exact ⟨i, by omega, e⟩
theorem Good.llen {ns : List Str} {ls vs : List Pr} (g : Good ns ls vs) : ls.length ≤ 36 := by
  have h := nodup_leP (l := ls) (m := ns.flatMap fun a => ns.map fun b => (a, b)) (nobadA_nd g.l) fun p hp => by
    rw [List.mem_flatMap]
    exact ⟨p.1, (g.two hp).1, List.mem_map.mpr ⟨p.2, (g.two hp).2.1, rfl⟩⟩
  rw [flatMap_len _ ns.length _ fun x _ => by rw [List.length_map]] at h
  have h2 : ns.length * ns.length ≤ 6 * 6 := Nat.mul_le_mul g.hi g.hi
  omega
/-- the places where p holds -/
def idxs {α : Type} (p : α → Bool) (xs : List α) : List Nat := (xs.zipIdx.filter fun q => p q.1).map (·.2)
theorem idxs_snoc {α : Type} (p : α → Bool) (xs : List α) (y : α) : idxs p (xs ++ [y]) = idxs p xs ++ if p y = true then [xs.length] else [] := by
  unfold idxs
  rw [List.zipIdx_append, List.filter_append, List.map_append]
  congr 1
  by_cases h : p y = true
  · simp [h]
  · simp [h]
theorem idxs_len {α : Type} (p : α → Bool) (xs : List α) : (idxs p xs).length ≤ xs.length := by
  unfold idxs
  rw [List.length_map]
  refine Nat.le_trans (List.length_filter_le _ _) ?_
  rw [List.length_zipIdx]
  exact Nat.le_refl _
theorem idxs_map {α : Type} (p : α → Bool) (xs : List α) (e : α) : (idxs p xs).map (fun i => xs.getD i e) = xs.filter p := by
  unfold idxs
  rw [List.map_map]
  have h : ∀ q ∈ xs.zipIdx.filter (fun q => p q.1), ((fun i => xs.getD i e) ∘ fun q : α × Nat => q.2) q = q.1 := fun q hq => by
    have h1 := (List.mem_filter.mp hq).1
    have h2 := List.mk_mem_zipIdx_iff_getElem?.mp h1
    show xs.getD q.2 e = q.1
    rw [List.getD_eq_getElem?_getD, h2]
    rfl
  rw [List.map_congr_left h]
  have e2 : (fun q : α × Nat => p q.1) = p ∘ (fun q : α × Nat => q.1) := rfl
  rw [e2, ← List.filter_map, List.zipIdx_map_fst]
theorem idxs_lt {α : Type} {p : α → Bool} {xs : List α} {i : Nat} (h : i ∈ idxs p xs) : i < xs.length := by
  unfold idxs at h
  obtain ⟨q, hq, rfl⟩ := List.mem_map.mp h
  have h2 := List.mk_mem_zipIdx_iff_getElem?.mp (List.mem_filter.mp hq).1
  exact (List.getElem?_eq_some_iff.mp h2).1
abbrev s_made : Stmt := top 20
section
variable {P : Program} {w : World} {K : PySem.W.Frag} {mg : Str → Option Value} {base : Heap}
theorem sc_made : FnScope ["chart"] ["chart"] (defScope s_made) := ⟨rfl, rfl, rfl, by decide +kernel, rfl, by decide +kernel, by decide +kernel⟩
def spMade (K : PySem.W.Frag) : Sp := fun us H Q _ => ∃ (t : Addr) (ns : List Str) (ls vs : List Pr), us = [.ref t] ∧ ChAt H t ns ls vs ∧ Good ns ls vs ∧ vs.length ≤ 1000 ∧ ∀ (H' : Hp) (q : Addr), Same H H' → DiagAt K H' q ns ls vs → Q (.ref q) H'
theorem ok_made {f : Addr} {fd : FuncData} (F : FnP K "_law_made" "_law_made" s_made f fd) (T : Tx mg) (C_Diagram : CalC P w K mg base (L2.CX P w) 4 "Diagram" (ga K "Diagram") ["self", "names", "arrows", "pairs"] (spInit K)) :
    FnOk P w K mg base CX0 6 f fd ["chart"] (spMade K) := by
  refine F.ok sc_made (fun vs H Q E h => ?_) (fun cdv A outer s H vs Q E hr h => ⟨_, PSs.nox ((pss_one (ps_ret (pe_mkN C_Diagram hr rfl (pa_cons (pe_callTy (r := Evl.rListS K) call_list_of (by rfl) T.n_list (by decide +kernel) (pa_cons (pe_ix (r := rIxT K) ix_tup (pv 0) pe_int (fun _ _ => rfl)) pa_nil)) (pa_cons (pe_callTy (r := Evl.rListS K) call_list_of (by rfl) T.n_list (by decide +kernel) (pa_cons (pe_ix (r := rIxT K) ix_tup (pv 0) pe_int (fun _ _ => rfl)) pa_nil)) (pa_cons (pe_callTy (r := Evl.rListS K) call_list_of (by rfl) T.n_list (by decide +kernel) (pa_cons (pe_ix (r := rIxT K) ix_tup (pv 0) pe_int (fun _ _ => rfl)) pa_nil)) pa_nil))))))), ?_⟩)
  · obtain ⟨t, ns, ls, vs, rfl, _⟩ := h
    rfl
  · obtain ⟨t, ns, ls, vs, rfl, ⟨l1, l2, l3, as, bs, h0, h1, h2, h3, h4, h5⟩, g, hvl, k⟩ := h
    have hal := h4.length
    have hbl := h5.length
    have hll := g.llen
    have M0 := Mem.start H
    walk_at "rd"
    refine d_make ?_
    walk_at "rd"
    refine d_ixT (SqT.of h0) (atI_nat (j := 0) rfl) ?_
    walk_at "rd"
    intro a na
    have M1 := M0.alloc0 na (o' := .lst (ns.map V.str))
    walk_at "rd"
    refine d_ixT (SqT.of (M1.same _ _ h0)) (atI_nat (j := 1) rfl) ?_
    walk_at "rd"
    refine d_listS (SqL.of (M1.same _ _ h2)) ?_
    intro b nb
    have M2 := M1.alloc0 nb (o' := .lst (as.map V.ref))
    walk_at "rd"
    refine d_ixT (SqT.of (M2.same _ _ h0)) (atI_nat (j := 2) rfl) ?_
    walk_at "rd"
    refine d_listS (SqL.of (M2.same _ _ h3)) ?_
    intro c nc
    have M3 := M2.alloc0 nc (o' := .lst (bs.map V.ref))
    walk_at "rd"
    intro p dx n1 n2 n3
    have M4 := M3.alloc0 n2 (o' := .own p)
    have n4 : upd (upd (upd (upd H a (.lst (ns.map V.str))) b (.lst (as.map V.ref))) c (.lst (bs.map V.ref))) dx (.own p) p = none := by rw [upd_ne (fun e => n3 e.symm)]; exact n1
    have M5 := M4.alloc0 n4 (o' := .ins (ga K "Diagram") dx [])
    refine ⟨p, dx, a, b, c, ns, as, bs, ls, vs, rfl, M5.get 4, M5.get 0, M5.get 1, M5.get 2, h4.ts (TupS.same M5.same), h5.ts (TupS.same M5.same), by have := g.hi; omega, by omega, fun x hx => ?_, fun p hp => g.lok hp, fun p hp => ?_, fun x hx => absurd g.n hx.not, fun _ hx => absurd ⟨g.lo, g.hi⟩ hx, fun _ _ p hp => absurd g.l hp.not, fun _ _ _ p hp => absurd g.v hp.not, fun _ H' fr hd => ⟨rfl, ?_⟩⟩
    · obtain ⟨z, _, _, rfl⟩ := nobad_let g.n hx
      show 1 ≤ 1000
      decide
    · have h2 : Two ns p := by
        obtain ⟨j, hj⟩ := List.mem_iff_getElem?.mp hp
        exact Classical.byContradiction fun z => g.v j p hj (.inl z)
      exact ⟨let_ok (nobad_let g.n h2.1), let_ok (nobad_let g.n h2.2.1)⟩
    · refine k H' p (fun u o e => fr u o (M5.same u o e) ?_) hd.at_
      exact ne_of_none (M4.same u o e) n4
end
end Ds
end F22
section F23
open L2 Ds
local macro_rules | `(tactic| walk_at "ds1") => `(tactic| with_reducible first
  | refine d_seq ?_ | refine d_asg ?_ | refine d_gname ?_ | refine d_if ?_ | refine d_next ?_ | refine d_ret ?_ | refine d_drop ?_ | refine d_test ?_ | refine d_B ?_ | refine d_c ?_
  | refine d_op ?_ | refine d_un ?_ | refine d_rI0 ?_ | refine d_rU ?_ | refine d_cons ?_ | refine d_nil ?_ | refine d_cb ?_ | refine d_bl ?_ | refine d_call ?_ | refine d_and ?_ | refine d_or ?_ | refine d_not ?_ | refine d_lst ?_ | refine d_tup ?_
  | refine d_par ?_ | refine d_par2 ?_ | refine d_for ?_ | refine d_rng1 ?_ | refine d_rng2 ?_ | refine d_ils ?_ | refine d_its ?_ | refine d_ien ?_ | refine d_lc ?_ | refine d_yes ?_ | refine d_step2 ?_ | refine d_chain ?_ | refine d_andV ?_ | refine d_orV ?_ | refine d_notV ?_ | refine d_slice ?_ | refine d_nopart ?_ | refine d_part ?_ | refine d_int ?_ | refine d_s2 ?_ | refine d_mkO ?_ | refine d_callS ?_ | refine d_p0 ?_ | refine d_p1 ?_ | refine d_disp ?_ | refine d_din ?_ | refine d_dnotin ?_ | refine d_dput ?_ | refine d_sfld ?_ | refine d_fld ?_ | refine d_gcons ?_ | refine d_gnil ?_ | refine d_gsub ?_ | refine d_bm ?_ | refine d_bm0 ?_)
local macro_rules | `(tactic| walk_at "ds2") => `(tactic| first
  | ((with_reducible show tVar _ _ _ _); refine d_var (by exact rfl) ?_)
  | (with_reducible refine d_i1 ?_) | (with_reducible refine d_i2 ?_) | (with_reducible refine d_o1 ?_) | ((with_reducible refine d_ls ?k1 ?_); (case k1 => exact Nat.le_of_ble_eq_true rfl))
  | ((with_reducible refine' d_lenS ?k1 ?_); (case k1 => first | assumption | exact SqL.of (by assumption))) | ((with_reducible refine' d_listS ?k1 ?_); (case k1 => first | assumption | exact SqL.of (by assumption)))
  | ((with_reducible refine' d_len ?k1 ?_); (case k1 => first | assumption | exact SqL.of (by assumption)))
  | ((with_reducible refine' d_eq ?k1 ?_); (case k1 => rfl)) | ((with_reducible refine' d_ne ?k1 ?_); (case k1 => rfl))
  | ((with_reducible refine' d_new ?k1 ?_); (case k1 => exact Nat.le_of_ble_eq_true rfl)))
local macro_rules | `(tactic| walk_at "rd") => `(tactic| repeat (first | walk_at "ds1" | walk_at "ds2"))
local macro_rules | `(tactic| walk_at "sub") => `(tactic| repeat (first | exact List.Sublist.slnil | exact List.Sublist.refl _ | refine List.Sublist.cons₂ _ ?_ | refine List.Sublist.cons _ ?_))

local macro_rules | `(tactic| walk_at "ds1") => `(tactic| with_reducible first | refine d_dm ?_ | refine d_make ?_ | refine d_par3 ?_ | refine d_prop ?_ | refine d_revL ?_)
namespace Ds
open PySem PySem.Spec PyProof.Rows L2 He
theorem PrsAt.rev : ∀ {as : List Addr} {ps : List Pr} {H : Hp}, PrsAt H as ps → PrsAt H as.reverse ps.reverse
  | _, _, _, .nil => .nil
  | _, _, _, .cons h t => by
    rw [List.reverse_cons, List.reverse_cons]
    exact PrsAt.append (PrsAt.rev t) (.cons h .nil)
theorem lst_ne {α : Type} {f : α → V} (hf : ∀ x i, f x ≠ V.int i) {xs : List α} {a b c : Int} : HO.lst (xs.map f) ≠ HO.lst [.int a, .int b, .int c] := by
  intro z
  cases xs with
  | nil => cases z
  | cons x xs =>
    injection z with z
    injection z with z1 z2
    exact hf x a z1
theorem cut_tail (xs : List V) : cutV xs (some 1) none = xs.drop 1 := by
  have e1 : HT.sIx xs.length 0 (some 1) = min 1 xs.length := rfl
  have e2 : HT.sIx xs.length xs.length none = xs.length := rfl
  unfold cutV
  rw [e1, e2]
  cases xs with
  | nil => rfl
  | cons x xs =>
    have e3 : min 1 (x :: xs).length = 1 := by rw [List.length_cons]; omega
    rw [e3]
    refine List.take_of_length_le ?_
    rw [List.length_drop]
    exact Nat.le_refl _
theorem cut_init (xs : List V) : cutV xs none (some (-1)) = xs.take (xs.length - 1) := by
  have e1 : HT.sIx xs.length 0 none = 0 := rfl
  have e2 : HT.sIx xs.length xs.length (some (-1)) = xs.length - 1 := by
    show (if (-1 : Int) < 0 then ((-1 : Int) + (xs.length : Int)).toNat else min (-1 : Int).toNat xs.length) = _
    rw [if_pos (by decide)]
    omega
  unfold cutV
  rw [e1, e2, List.drop_zero, Nat.sub_zero]
def Apart (p q : Pr) : Prop := p ≠ q ∧ p ≠ (q.2, q.1)
theorem Apart.symm {p q : Pr} (h : Apart p q) : Apart q p := ⟨fun e => h.1 e.symm, fun e => h.2 (by rw [e])⟩
theorem Apart.flip {p q : Pr} (h : Apart p q) : Apart (p.2, p.1) q := ⟨fun e => h.2 (by rw [← e]), fun e => h.1 (Prod.ext (congrArg Prod.snd e) (congrArg Prod.fst e))⟩
theorem ChartOk.bent {W : Nat} {ns ns2 : List Str} {ls ls2 vs vs2 : List Pr} (c : ChartOk W ns ls vs) (hn : ns2.Perm ns) (hl : ∀ p ∈ ls2, p ∈ ls) (hd : ls2.Nodup) (hv : ∀ p ∈ vs2, p ∈ vs ∨ (p.2, p.1) ∈ vs) (hw : vs2.Pairwise Apart) (hx : vs2.length ≤ 5) : ChartOk W ns2 ls2 vs2 := by
  obtain ⟨order, pm, ho⟩ := c.ord
  refine ⟨by rw [hn.length_eq]; exact c.lo, by rw [hn.length_eq]; exact c.hi, fun x h => c.lets x (hn.mem_iff.mp h), hn.nodup_iff.mpr c.nd, ⟨order, pm.trans hn.symm, fun p hp => ho p (hl p hp)⟩, hd, fun p hp => ?_, hw, hx⟩
  rcases hv p hp with h | h
  · obtain ⟨h1, h2, h3⟩ := c.vin p h
    exact ⟨hn.mem_iff.mpr h1, hn.mem_iff.mpr h2, h3⟩
  · obtain ⟨h1, h2, h3⟩ := c.vin _ h
    exact ⟨hn.mem_iff.mpr h2, hn.mem_iff.mpr h1, fun e => h3 e.symm⟩
theorem ChartOk.vap {W : Nat} {ns : List Str} {ls vs : List Pr} (c : ChartOk W ns ls vs) : vs.Pairwise Apart := c.vnd
abbrev s_bent : Stmt := top 21
section
variable {P : Program} {w : World} {K : PySem.W.Frag} {mg : Str → Option Value} {base : Heap}
theorem sc_bent : FnScope ["pool", "chart", "things", "ties", "veils", "way"] ["pool", "chart"] (defScope s_bent) := ⟨rfl, rfl, rfl, by decide +kernel, rfl, by decide +kernel, by decide +kernel⟩
def spBent : Sp := fun us H Q _ => ∃ (p t : Addr) (n : Nat) (ns : List Str) (ls vs : List Pr), us = [.ref p, .ref t] ∧ Pool H p n ∧ n ≤ 999999000 ∧ ChAt H t ns ls vs ∧ ChartOk 6 ns ls vs ∧
  ∀ (H' : Hp) (t2 : Addr) (ns2 : List Str) (ls2 vs2 : List Pr), (∀ b u, H b = some u → b ≠ p → H' b = some u) → Pool H' p (n + 1) → ChAt H' t2 ns2 ls2 vs2 → ChartOk 6 ns2 ls2 vs2 → Q (.ref t2) H'
theorem ok_bent {f : Addr} {fd : FuncData} (F : FnP K "_law_bent" "_law_bent" s_bent f fd) (T : Tx mg) (C_draw : Cal P w K mg base CX0 1 "_law_draw" ["pool", "span"] spDraw) : FnOk P w K mg base CX0 2 f fd ["pool", "chart"] spBent := by
  refine F.ok sc_bent (fun vs H Q E h => ?_) (fun cdv A outer s H vs Q E hr h => ⟨_, PSs.nox ((pss_cons (ps_par3 (i := 2) (j := 3) (l := 4) (by rfl) sc_bent.nd rfl rfl rfl (by decide) (by decide) (by decide) rfl rfl rfl (pa_cons (pe_callTy (r := Evl.rListS K) call_list_of (by rfl) T.n_list (by decide +kernel) (pa_cons (pe_ix (r := rIxT K) ix_tup (pv 1) pe_int (fun _ _ => rfl)) pa_nil)) (pa_cons (pe_callTy (r := Evl.rListS K) call_list_of (by rfl) T.n_list (by decide +kernel) (pa_cons (pe_ix (r := rIxT K) ix_tup (pv 1) pe_int (fun _ _ => rfl)) pa_nil)) (pa_cons (pe_callTy (r := Evl.rListS K) call_list_of (by rfl) T.n_list (by decide +kernel) (pa_cons (pe_ix (r := rIxT K) ix_tup (pv 1) pe_int (fun _ _ => rfl)) pa_nil)) pa_nil))) (by rfl))
 (pss_cons (ps_set (i := 5) sc_bent.nd rfl (Or.inl rfl) (pe_cal C_draw hr rfl (pa_cons (pv 0) (pa_cons pe_int pa_nil))))
 (Evl.pss_cut (ps_if (pt_cmpR op_eq (pv 5) pe_int (nomark _))
 (pss_one (ps_set (i := 2) sc_bent.nd rfl (Or.inl rfl) (pe_revLK (K := K) (pv 2))))
 pss_nil)
 (Evl.pss_cut (ps_if (pt_cmpR op_eq (pv 5) pe_int (nomark _))
 (pss_one (ps_set (i := 3) sc_bent.nd rfl (Or.inl rfl) (pe_revLK (K := K) (pv 3))))
 pss_nil)
 (Evl.pss_cut (ps_if (pt_cmpR op_eq (pv 5) pe_int (nomark _))
 (pss_one (ps_set (i := 4) sc_bent.nd rfl (Or.inl rfl) (pe_slice (r := rSlL K) sl_list (pv 4) po_none (po_some (pe_un un_neg pe_int)))))
 pss_nil)
 (Evl.pss_cut (ps_if (PW.pt (pw_and (pt_cmpR op_eq (pv 5) pe_int (nomark _)) (pw_and1 (pt_cmpR (r := rNeD K) (op_neD hr.units) (pv 4) (pe_lst pa_nil) (nomark _)))))
 (pss_one (ps_set (i := 4) sc_bent.nd rfl (Or.inl rfl) (pe_op op_cat (pe_lst (pa_cons (pe_sliceStepK (K := K) (pe_ix (r := rIxL K) ix_list (pv 4) pe_int (fun _ _ => rfl)) (pe_un un_neg pe_int)) pa_nil)) (pe_slice (r := rSlL K) sl_list (pv 4) (po_some pe_int) po_none))))
 pss_nil)
 (Evl.pss_cut (ps_if (pt_cmpR op_eq (pv 5) pe_int (nomark _))
 (pss_one (ps_set (i := 3) sc_bent.nd rfl (Or.inl rfl) (pe_slice (r := rSlL K) sl_list (pv 3) (po_some pe_int) po_none)))
 pss_nil)
 (Evl.pss_cut (ps_if (pt_cmpR op_eq (pv 5) pe_int (nomark _))
 (pss_one (ps_set (i := 4) sc_bent.nd rfl (Or.inl rfl) (pe_revLK (K := K) (pv 4))))
 pss_nil)
 (pss_one (ps_ret (pe_tup (pa_cons (pv 2) (pa_cons (pv 3) (pa_cons (pv 4) pa_nil))))))))))))))), ?_⟩)
  · obtain ⟨p, t, n, ns, ls, vs, rfl, _⟩ := h
    rfl
  · obtain ⟨p, t, n, ns, ls, vs, rfl, hpool, hn, ⟨l1, l2, l3, as, bs, h0, h1, h2, h3, h4, h5⟩, ok, k⟩ := h
    have hpool2 := hpool
    obtain ⟨pa, pb, pc, ep, _⟩ := hpool2
    have M0 := Mem.start1 ep
    have n2 : l2 ≠ p := ne_of h2 ep (lst_ne fun _ _ z => by cases z)
    have n3 : l3 ≠ p := ne_of h3 ep (lst_ne fun _ _ z => by cases z)
    have nt : t ≠ p := ne_of h0 ep (by intro z; cases z)
    have tk : ∀ {L : List (Addr × HO)} {Hx : Hp}, Mem H [p] L Hx → Hx t = some (.tup [.ref l1, .ref l2, .ref l3]) := fun M => M.fr _ _ h0 (by simpa using nt)
    walk_at "rd"
    refine d_ixT (SqT.of h0) (atI_nat (j := 0) rfl) ?_
    walk_at "rd"
    walk_at "rd"
    intro a na
    have M1 := M0.alloc na (o' := .lst (ns.map V.str))
    walk_at "rd"
    refine d_ixT (SqT.of (tk M1)) (atI_nat (j := 1) rfl) ?_
    walk_at "rd"
    refine d_listS (SqL.of (M1.fr _ _ h2 (by simpa using n2))) ?_
    intro b nb
    have M2 := M1.alloc nb (o' := .lst (as.map V.ref))
    walk_at "rd"
    refine d_ixT (SqT.of (tk M2)) (atI_nat (j := 2) rfl) ?_
    walk_at "rd"
    refine d_listS (SqL.of (M2.fr _ _ h3 (by simpa using n3))) ?_
    intro c nc
    have M3 := M2.alloc nc (o' := .lst (bs.map V.ref))
    walk_at "rd"
    refine ⟨_, _, _, rfl, ?_⟩
    walk_at "rd"
    have P3 : Pool _ p n := hpool.same (M3.get 0 |>.trans ep.symm)
    refine d_draw M3 0 rfl P3 (by omega) (by decide) (by decide) fun d o' d0 d1 M4 P4 ts => ?_
    walk_at "rd"
    have t4 : TupS H _ := fun x xs e => M4.fr x _ e (by
      intro z
      have e2 : x = p := by simpa using z
      rw [e2, ep] at e
      cases e)
    obtain ⟨J, hJ⟩ : ∃ J : L2.St → Hp → Prop, J = fun σ' H' => ∃ (a b c : Addr) (ns2 : List Str) (ls2 vs2 : List Pr) (cs ds : List Addr), σ' = [some (.ref p), some (.ref t), some (.ref a), some (.ref b), some (.ref c), some (.int d)] ∧
      (∀ u o, H u = some o → u ≠ p → H' u = some o) ∧ Pool H' p (n + 1) ∧ H' a = some (.lst (ns2.map V.str)) ∧ H' b = some (.lst (cs.map V.ref)) ∧ H' c = some (.lst (ds.map V.ref)) ∧ PrsAt H' cs ls2 ∧ PrsAt H' ds vs2 ∧ ChartOk 6 ns2 ls2 vs2 := ⟨_, rfl⟩
    have keepU : ∀ {H' : Hp} {q : Addr} {o : HO}, (∀ u o, H u = some o → u ≠ p → H' u = some o) → H' q = none → ∀ u o2, H u = some o2 → u ≠ p → upd H' q o u = some o2 := fun f n u o2 e z => by rw [upd_ne (ne_of_none (f u o2 e z) n)]; exact f u o2 e z
    refine d_cut (M := J) ?_ (fun σ1 H1 j1 => ?_)
    · walk_at "rd"
      refine ite2 (fun _ => ?_) (fun _ => ?_)
      · walk_at "rd"
        refine ⟨a, _, rfl, SqL.of (M4.get 1), fun q nq => ?_⟩
        walk_at "rd"
        rw [hJ]
        have M5 := M4.alloc nq (o' := .lst (ns.map V.str).reverse)
        exact ⟨q, b, c, ns.reverse, ls, vs, as, bs, rfl, fun u o e z => M5.fr u o e (by simpa using z), P4.new nq, by rw [List.map_reverse]; exact M5.get 4, M5.get 2, M5.get 3, (h4.ts t4).ts (TupS.new nq), (h5.ts t4).ts (TupS.new nq),
          ok.bent (List.reverse_perm ns) (fun _ h => h) ok.lnd (fun _ h => .inl h) ok.vap ok.vlen⟩
      · walk_at "rd"
        rw [hJ]
        exact ⟨a, b, c, ns, ls, vs, as, bs, rfl, fun u o e z => M4.fr u o e (by simpa using z), P4, M4.get 1, M4.get 2, M4.get 3, h4.ts t4, h5.ts t4, ok⟩
    refine d_cut (M := J) ?_ (fun σ2 H2 j2 => ?_)
    · rw [hJ] at j1
      obtain ⟨a, b, c, ns2, ls2, vs2, cs, ds, rfl, fr, PP, ea, eb, ec, p1, p2, ok2⟩ := j1
      walk_at "rd"
      refine ite2 (fun _ => ?_) (fun _ => ?_)
      · walk_at "rd"
        refine ⟨b, _, rfl, SqL.of eb, fun q nq => ?_⟩
        walk_at "rd"
        rw [hJ]
        have sm : ∀ {u : Addr} {o2 : HO}, H1 u = some o2 → upd H1 q (.lst ((cs.map V.ref).reverse)) u = some o2 := fun {u o2} e => by rw [upd_ne (ne_of_none e nq)]; exact e
        exact ⟨a, q, c, ns2, ls2.reverse, vs2, cs.reverse, ds, rfl, keepU fr nq, PP.new nq, sm ea, by rw [List.map_reverse]; exact upd_same, sm ec, p1.rev.ts (TupS.new nq), p2.ts (TupS.new nq), ok2.bent (List.Perm.refl _) (fun _ h => List.mem_reverse.mp h) ((List.reverse_perm ls2).nodup_iff.mpr ok2.lnd) (fun _ h => .inl h) ok2.vap ok2.vlen⟩
      · walk_at "rd"
        rw [hJ]
        exact ⟨a, b, c, ns2, ls2, vs2, cs, ds, rfl, fr, PP, ea, eb, ec, p1, p2, ok2⟩
    refine d_cut (M := J) ?_ (fun σ3 H3 j3 => ?_)
    · rw [hJ] at j2
      obtain ⟨a, b, c, ns2, ls2, vs2, cs, ds, rfl, fr, PP, ea, eb, ec, p1, p2, ok2⟩ := j2
      walk_at "rd"
      refine ite2 (fun _ => ?_) (fun _ => ?_)
      · walk_at "rd"
        refine d_slL (SqL.of ec) fun q nq => ?_
        walk_at "rd"
        rw [hJ]
        have sm : ∀ {u : Addr} {o2 : HO}, H2 u = some o2 → upd H2 q (.lst (cutV (ds.map V.ref) none (some (-1)))) u = some o2 := fun {u o2} e => by rw [upd_ne (ne_of_none e nq)]; exact e
        exact ⟨a, b, q, ns2, ls2, vs2.take (ds.length - 1), cs, ds.take (ds.length - 1), rfl, keepU fr nq, PP.new nq, sm ea, sm eb, by rw [upd_same, cut_init, List.length_map, List.map_take], p1.ts (TupS.new nq), (p2.take _).ts (TupS.new nq), ok2.bent (List.Perm.refl _) (fun _ h => h) ok2.lnd (fun _ h => .inl (List.mem_of_mem_take h)) (ok2.vap.sublist (List.take_sublist _ _)) (by rw [List.length_take]; have := ok2.vlen; omega)⟩
      · walk_at "rd"
        rw [hJ]
        exact ⟨a, b, c, ns2, ls2, vs2, cs, ds, rfl, fr, PP, ea, eb, ec, p1, p2, ok2⟩
    refine d_cut (M := J) ?_ (fun σ4 H4 j4 => ?_)
    · rw [hJ] at j3
      obtain ⟨a, b, c, ns2, ls2, vs2, cs, ds, rfl, fr, PP, ea, eb, ec, p1, p2, ok2⟩ := j3
      walk_at "rd"
      refine ite2 (fun _ => ?_) (fun _ => ?_)
      · walk_at "rd"
        intro q0 nq0
        have sm : ∀ {u : Addr} {o2 : HO}, H3 u = some o2 → upd H3 q0 (.lst []) u = some o2 := fun {u o2} e => by rw [upd_ne (ne_of_none e nq0)]; exact e
        have g2 := ok2.good (by decide)
        refine d_rNeD (dd := dPrs vs2) (e := dPrs []) (.lst (SqL.of (sm ec)) (dp_prs (p2.ts (TupS.new nq0)))) (.lst (SqL.of upd_same) .nil) (shaped_prs fun y hy => g2.vok hy) shaped_nil ?_
        rw [eqv_prs]
        walk_at "rd"
        have fr0 := keepU (o := .lst []) fr nq0
        have PP0 := PP.new (o := .lst []) nq0
        have ea0 := sm ea
        have eb0 := sm eb
        have ec0 := sm ec
        have p10 := p1.ts (TupS.new (o := .lst []) nq0)
        have p20 := p2.ts (TupS.new (o := .lst []) nq0)
        generalize upd H3 q0 (.lst []) = Hq at fr0 PP0 ea0 eb0 ec0 p10 p20
        cases p2 with
        | nil =>
          rw [decide_eq_true rfl]
          refine iteF ?_
          walk_at "rd"
          rw [hJ]
          exact ⟨a, b, c, ns2, ls2, [], cs, [], rfl, fr0, PP0, ea0, eb0, ec0, p10, .nil, ok2⟩
        | @cons d0 v0 dr vr hd hr0 =>
          rw [decide_eq_false (fun z => by cases z)]
          refine iteT ?_
          cases p20 with
          | cons hd0 hr1 =>
          walk_at "rd"
          refine d_ix1 (SqL.of ec0) (atI_nat (j := 0) rfl) ?_
          walk_at "rd"
          refine ⟨d0, .str v0.1, .str v0.2, rfl, SqT.of hd0, .inr ⟨rfl, fun tq ntq => ?_⟩⟩
          walk_at "rd"
          have s1 : Same Hq (upd Hq tq (.tup [.str v0.2, .str v0.1])) := same_new (Same.refl Hq) ntq
          intro ql nql
          have s2 := same_new (o := .lst [.ref tq]) s1 nql
          have eql : upd (upd Hq tq (.tup [.str v0.2, .str v0.1])) ql (.lst [.ref tq]) tq = some (.tup [.str v0.2, .str v0.1]) := by
            have e : upd Hq tq (.tup [.str v0.2, .str v0.1]) tq = some (.tup [.str v0.2, .str v0.1]) := upd_same
            rw [upd_ne (ne_of_none e nql)]
            exact e
          have eql2 : upd (upd Hq tq (.tup [.str v0.2, .str v0.1])) ql (.lst [.ref tq]) ql = some (.lst [.ref tq]) := upd_same
          generalize upd (upd Hq tq (.tup [.str v0.2, .str v0.1])) ql (.lst [.ref tq]) = Hr at s2 eql eql2
          walk_at "rd"
          refine d_slL (SqL.of (s2 _ _ ec0)) fun qs nqs => ?_
          rw [cut_tail]
          have s3 := same_new (o := .lst (((d0 :: dr).map V.ref).drop 1)) (Same.refl Hr) nqs
          refine ⟨ql, qs, [.ref tq], ((d0 :: dr).map V.ref).drop 1, rfl, rfl, s3 _ _ eql2, upd_same, ?_, fun qn nqn => ?_⟩
          · have h1 := p1
            have hl := hr0.length
            have h2 := ok2.vlen
            rw [List.length_cons] at h2
            exact Nat.le_trans (show _ ≤ 1000 by simp; omega) (by decide)
          walk_at "rd"
          rw [hJ]
          have s4 := same_new (o := .lst ([V.ref tq] ++ ((d0 :: dr).map V.ref).drop 1)) s3 nqn
          have s5 := s2.trans s4
          obtain ⟨pa, pb, pc, z1, z2⟩ := PP0
          exact ⟨a, b, qn, ns2, ls2, (v0.2, v0.1) :: vr, cs, tq :: dr, rfl, fun u o e z => s5 _ _ (fr0 u o e z), ⟨pa, pb, pc, s5 _ _ z1, z2⟩, s5 _ _ ea0, s5 _ _ eb0, upd_same, p10.ts (TupS.same s5), .cons (s4 _ _ eql) (PrsAt.ts (TupS.same s5) hr1),
            ok2.bent (List.Perm.refl _) (fun _ h => h) ok2.lnd (fun p hp => by
              rcases List.mem_cons.mp hp with rfl | hp
              · exact .inr (List.mem_cons_self ..)
              · exact .inl (List.mem_cons_of_mem _ hp)) (by
              have hw := ok2.vap
              rw [List.pairwise_cons] at hw ⊢
              exact ⟨fun q hq => (hw.1 q hq).flip, hw.2⟩) ok2.vlen⟩
      · walk_at "rd"
        refine iteF ?_
        walk_at "rd"
        rw [hJ]
        exact ⟨a, b, c, ns2, ls2, vs2, cs, ds, rfl, fr, PP, ea, eb, ec, p1, p2, ok2⟩
    refine d_cut (M := J) ?_ (fun σ5 H5 j5 => ?_)
    · rw [hJ] at j4
      obtain ⟨a, b, c, ns2, ls2, vs2, cs, ds, rfl, fr, PP, ea, eb, ec, p1, p2, ok2⟩ := j4
      walk_at "rd"
      refine ite2 (fun _ => ?_) (fun _ => ?_)
      · walk_at "rd"
        refine d_slL (SqL.of eb) fun q nq => ?_
        walk_at "rd"
        rw [hJ]
        have sm : ∀ {u : Addr} {o2 : HO}, H4 u = some o2 → upd H4 q (.lst (cutV (cs.map V.ref) (some 1) none)) u = some o2 := fun {u o2} e => by rw [upd_ne (ne_of_none e nq)]; exact e
        exact ⟨a, q, c, ns2, ls2.drop 1, vs2, cs.drop 1, ds, rfl, keepU fr nq, PP.new nq, sm ea, by rw [upd_same, cut_tail, List.map_drop], sm ec, (p1.drop 1).ts (TupS.new nq), p2.ts (TupS.new nq), ok2.bent (List.Perm.refl _) (fun _ h => List.mem_of_mem_drop h) (ok2.lnd.sublist (List.drop_sublist _ _)) (fun _ h => .inl h) ok2.vap ok2.vlen⟩
      · walk_at "rd"
        rw [hJ]
        exact ⟨a, b, c, ns2, ls2, vs2, cs, ds, rfl, fr, PP, ea, eb, ec, p1, p2, ok2⟩
    refine d_cut (M := J) ?_ (fun σ6 H6 j6 => ?_)
    · rw [hJ] at j5
      obtain ⟨a, b, c, ns2, ls2, vs2, cs, ds, rfl, fr, PP, ea, eb, ec, p1, p2, ok2⟩ := j5
      walk_at "rd"
      refine ite2 (fun _ => ?_) (fun _ => ?_)
      · walk_at "rd"
        refine ⟨c, _, rfl, SqL.of ec, fun q nq => ?_⟩
        walk_at "rd"
        rw [hJ]
        have sm : ∀ {u : Addr} {o2 : HO}, H5 u = some o2 → upd H5 q (.lst ((ds.map V.ref).reverse)) u = some o2 := fun {u o2} e => by rw [upd_ne (ne_of_none e nq)]; exact e
        exact ⟨a, b, q, ns2, ls2, vs2.reverse, cs, ds.reverse, rfl, keepU fr nq, PP.new nq, sm ea, sm eb, by rw [List.map_reverse]; exact upd_same, p1.ts (TupS.new nq), p2.rev.ts (TupS.new nq), ok2.bent (List.Perm.refl _) (fun _ h => h) ok2.lnd (fun _ h => .inl (List.mem_reverse.mp h)) (List.pairwise_reverse.mpr (ok2.vap.imp fun h => h.symm)) (by rw [List.length_reverse]; exact ok2.vlen)⟩
      · walk_at "rd"
        rw [hJ]
        exact ⟨a, b, c, ns2, ls2, vs2, cs, ds, rfl, fr, PP, ea, eb, ec, p1, p2, ok2⟩
    rw [hJ] at j6
    obtain ⟨a, b, c, ns2, ls2, vs2, cs, ds, rfl, fr, PP, ea, eb, ec, p1, p2, ok2⟩ := j6
    walk_at "rd"
    intro q nq
    have sm := same_new (o := .tup [.ref a, .ref b, .ref c]) (Same.refl H6) nq
    obtain ⟨pa, pb, pc, z1, z2⟩ := PP
    exact k _ q ns2 ls2 vs2 (fun u o e z => sm _ _ (fr u o e z)) ⟨pa, pb, pc, sm _ _ z1, z2⟩ ⟨a, b, c, cs, ds, upd_same, sm _ _ ea, sm _ _ eb, sm _ _ ec, p1.ts (TupS.same sm), p2.ts (TupS.same sm)⟩ ok2
end
end Ds
end F23
section F24
open L2 Ds
local macro_rules | `(tactic| walk_at "ds1") => `(tactic| with_reducible first
  | refine d_seq ?_ | refine d_asg ?_ | refine d_gname ?_ | refine d_if ?_ | refine d_next ?_ | refine d_ret ?_ | refine d_drop ?_ | refine d_test ?_ | refine d_B ?_ | refine d_c ?_
  | refine d_op ?_ | refine d_un ?_ | refine d_rI0 ?_ | refine d_rU ?_ | refine d_cons ?_ | refine d_nil ?_ | refine d_cb ?_ | refine d_bl ?_ | refine d_call ?_ | refine d_and ?_ | refine d_or ?_ | refine d_not ?_ | refine d_lst ?_ | refine d_tup ?_
  | refine d_par ?_ | refine d_par2 ?_ | refine d_for ?_ | refine d_rng1 ?_ | refine d_rng2 ?_ | refine d_ils ?_ | refine d_its ?_ | refine d_ien ?_ | refine d_lc ?_ | refine d_yes ?_ | refine d_step2 ?_ | refine d_chain ?_ | refine d_andV ?_ | refine d_orV ?_ | refine d_notV ?_ | refine d_slice ?_ | refine d_nopart ?_ | refine d_part ?_ | refine d_int ?_ | refine d_s2 ?_ | refine d_mkO ?_ | refine d_callS ?_ | refine d_p0 ?_ | refine d_p1 ?_ | refine d_disp ?_ | refine d_din ?_ | refine d_dnotin ?_ | refine d_dput ?_ | refine d_sfld ?_ | refine d_fld ?_ | refine d_gcons ?_ | refine d_gnil ?_ | refine d_gsub ?_ | refine d_bm ?_ | refine d_bm0 ?_)
local macro_rules | `(tactic| walk_at "ds2") => `(tactic| first
  | ((with_reducible show tVar _ _ _ _); refine d_var (by exact rfl) ?_)
  | (with_reducible refine d_i1 ?_) | (with_reducible refine d_i2 ?_) | (with_reducible refine d_o1 ?_) | ((with_reducible refine d_ls ?k1 ?_); (case k1 => exact Nat.le_of_ble_eq_true rfl))
  | ((with_reducible refine' d_lenS ?k1 ?_); (case k1 => first | assumption | exact SqL.of (by assumption))) | ((with_reducible refine' d_listS ?k1 ?_); (case k1 => first | assumption | exact SqL.of (by assumption)))
  | ((with_reducible refine' d_len ?k1 ?_); (case k1 => first | assumption | exact SqL.of (by assumption)))
  | ((with_reducible refine' d_eq ?k1 ?_); (case k1 => rfl)) | ((with_reducible refine' d_ne ?k1 ?_); (case k1 => rfl))
  | ((with_reducible refine' d_new ?k1 ?_); (case k1 => exact Nat.le_of_ble_eq_true rfl)))
local macro_rules | `(tactic| walk_at "rd") => `(tactic| repeat (first | walk_at "ds1" | walk_at "ds2"))
local macro_rules | `(tactic| walk_at "sub") => `(tactic| repeat (first | exact List.Sublist.slnil | exact List.Sublist.refl _ | refine List.Sublist.cons₂ _ ?_ | refine List.Sublist.cons _ ?_))

local macro_rules | `(tactic| walk_at "ds1") => `(tactic| with_reducible first | refine d_dm ?_ | refine d_make ?_ | refine d_par3 ?_ | refine d_prop ?_ | refine d_revL ?_)
namespace Ds
open PySem PySem.Spec PyProof.Rows L2 He
theorem Mem.grow {H0 H H' : Hp} {L : List (Addr × HO)} {q : Addr} {o : HO} (M : Mem H0 [] L H) (s : Same H H') (n : H q = none) (e : H' q = some o) : Mem H0 [] (L ++ [(q, o)]) H' := by
  refine ⟨fun b u eb hb => s _ _ (M.fr b u eb hb), fun x hx => ?_, ?_, fun x hx => ?_⟩
  · rcases List.mem_append.mp hx with hx | hx
    · exact s _ _ (M.here x hx)
    · have z : x = (q, o) := by simpa using hx
      rw [z]
      exact e
  · rw [List.map_append, List.nodup_append]
    refine ⟨M.nd, by simp, fun a ha b hb => ?_⟩
    have z : b = q := by simpa using hb
    subst z
    obtain ⟨x, hx, rfl⟩ := List.mem_map.mp ha
    exact ne_of_none (M.here x hx) n
  · rcases List.mem_append.mp hx with hx | hx
    · exact M.ol x hx
    · have z : x = (q, o) := by simpa using hx
      rw [z]
      exact .inr (M.same.free n)
theorem Mem.of_same {H0 H : Hp} (s : Same H0 H) : Mem H0 [] [] H := ⟨fun b u e _ => s b u e, fun x h => by simp at h, List.nodup_nil, fun x h => by simp at h⟩
/-! ### what is shown -/
theorem shown_let {x : Str} (h : IsLet x) : (PyData.str x).shown.length ≤ 3 := by
  obtain ⟨c, h1, h2, rfl⟩ := h
  obtain ⟨i, rfl⟩ : ∃ i, c = 97 + i := ⟨c - 97, by omega⟩
  have hi : i < 26 := by omega
  have all : ∀ i, i < 26 → (PyData.str (letter (97 + i))).shown.length ≤ 3 := by decide +kernel
  exact all i hi
theorem shownAll_map : ∀ ds : List PyData, PyData.shownAll ds = ds.map PyData.shown
  | [] => rfl
  | d :: ds => by
    rw [List.map_cons, ← shownAll_map ds]
    rfl
theorem sum_le {α : Type} {f : α → Nat} {n : Nat} : ∀ {l : List α}, (∀ x ∈ l, f x ≤ n) → (l.map f).sum ≤ l.length * n
  | [], _ => by simp
  | x :: l, h => by
    have h1 := h x (by simp)
    have h2 := sum_le (l := l) fun y hy => h y (by simp [hy])
    rw [List.map_cons, List.sum_cons, List.length_cons, Nat.succ_mul]
    omega
theorem shown_list {ds : List PyData} {n : Nat} (h : ∀ d ∈ ds, d.shown.length ≤ n) : (PyData.list ds).shown.length ≤ ds.length * n + 2 * ds.length + 3 := by
  have e : (PyData.list ds).shown = listText (ds.map PyData.shown) := by
    rw [← shownAll_map]
    rfl
  rw [e]
  refine Nat.le_trans (listText_len_le _) ?_
  have h2 := sum_le (f := fun t : Str => t.length) (n := n) (l := ds.map PyData.shown) fun t ht => by
    obtain ⟨d, hd, rfl⟩ := List.mem_map.mp ht
    exact h d hd
  rw [List.length_map] at h2
  rw [List.length_map]
  omega
theorem shown_pr {p : Pr} (h1 : IsLet p.1) (h2 : IsLet p.2) : (dPr p).shown.length ≤ 20 := by
  obtain ⟨a, b⟩ := p
  have e : (dPr (a, b)).shown = tupleText [(PyData.str a).shown, (PyData.str b).shown] := rfl
  rw [e]
  have l1 : (PyData.str a).shown.length ≤ 3 := shown_let h1
  have l2 : (PyData.str b).shown.length ≤ 3 := shown_let h2
  show (tupleText [(PyData.str a).shown, (PyData.str b).shown]).length ≤ 20
  unfold tupleText
  rw [strLen_append, strLen_append]
  have j := join_length_add [(PyData.str a).shown, (PyData.str b).shown] (by simp)
  have e1 : ((("(" : String) : Str)).length = 1 := rfl
  have e2 : (((if ([(PyData.str a).shown, (PyData.str b).shown] : List Str).length == 1 then ",)" else ")" : String)) : Str).length = 1 := rfl
  simp only [piled, List.map_cons, List.map_nil, List.sum_cons, List.sum_nil] at j
  omega
theorem show_strs (xs : List Str) : PyData.showableAll (xs.map PyData.str) = true := by
  induction xs with
  | nil => rfl
  | cons x xs ih =>
    rw [List.map_cons]
    show (PyData.showable (.str x) && PyData.showableAll (xs.map PyData.str)) = true
    rw [ih]
    rfl
theorem nodict_strs (xs : List Str) : PyData.hasDictAll (xs.map PyData.str) = false := by
  induction xs with
  | nil => rfl
  | cons x xs ih =>
    rw [List.map_cons]
    show (PyData.hasDict (.str x) || PyData.hasDictAll (xs.map PyData.str)) = false
    rw [ih]
    rfl
theorem show_prs (xs : List Pr) : PyData.showableAll (xs.map dPr) = true := by
  induction xs with
  | nil => rfl
  | cons x xs ih =>
    rw [List.map_cons]
    show (PyData.showable (dPr x) && PyData.showableAll (xs.map dPr)) = true
    rw [ih]
    rfl
theorem nodict_prs (xs : List Pr) : PyData.hasDictAll (xs.map dPr) = false := by
  induction xs with
  | nil => rfl
  | cons x xs ih =>
    rw [List.map_cons]
    show (PyData.hasDict (dPr x) || PyData.hasDictAll (xs.map dPr)) = false
    rw [ih]
    rfl
/-- names, arrows and pairs as one datum -/
def tri (ns : List Str) (ls vs : List Pr) : PyData := .list [dStr ns, dPrs ls, dPrs vs]
theorem tri_show (ns : List Str) (ls vs : List Pr) : (tri ns ls vs).showable = true := by
  show (PyData.showableAll (ns.map PyData.str) && (PyData.showableAll (ls.map dPr) && (PyData.showableAll (vs.map dPr) && true))) = true
  rw [show_strs, show_prs, show_prs]
  rfl
theorem tri_nodict (ns : List Str) (ls vs : List Pr) : (tri ns ls vs).hasDict = false := by
  show (PyData.hasDictAll (ns.map PyData.str) || (PyData.hasDictAll (ls.map dPr) || (PyData.hasDictAll (vs.map dPr) || false))) = false
  rw [nodict_strs, nodict_prs, nodict_prs]
  rfl
theorem tri_depth (ns : List Str) (ls vs : List Pr) : (tri ns ls vs).depth ≤ 20 := by
  have h1 := depth_strs ns
  have h2 := depth_prs ls
  have h3 := depth_prs vs
  unfold tri
  simp only [PyData.depth, PyData.depthAll]
  omega
theorem tri_len {ns : List Str} {ls vs : List Pr} (g : Good ns ls vs) (hv : vs.length ≤ 5) : (tri ns ls vs).shown.length ≤ 100000 := by
  have h1 := shown_list (ds := ns.map PyData.str) (n := 3) fun d hd => by
    obtain ⟨x, hx, rfl⟩ := List.mem_map.mp hd
    exact shown_let (nobad_let g.n hx)
  have h2 := shown_list (ds := ls.map dPr) (n := 20) fun d hd => by
    obtain ⟨x, hx, rfl⟩ := List.mem_map.mp hd
    exact shown_pr (nobad_let g.n (g.two hx).1) (nobad_let g.n (g.two hx).2.1)
  have h3 := shown_list (ds := vs.map dPr) (n := 20) fun d hd => by
    obtain ⟨x, hx, rfl⟩ := List.mem_map.mp hd
    exact shown_pr (nobad_let g.n (g.vtwo hx).1) (nobad_let g.n (g.vtwo hx).2.1)
  have l1 := g.hi
  have l2 := g.llen
  rw [List.length_map] at h1 h2 h3
  have h4 := shown_list (ds := [dStr ns, dPrs ls, dPrs vs]) (n := 1000) fun d hd => by
    simp only [List.mem_cons, List.mem_nil_iff, or_false] at hd
    rcases hd with rfl | rfl | rfl
    · exact Nat.le_trans h1 (by omega)
    · exact Nat.le_trans h2 (by omega)
    · exact Nat.le_trans h3 (by omega)
  refine Nat.le_trans h4 ?_
  simp
theorem tri_shaped {ns : List Str} {ls vs : List Pr} (g : Good ns ls vs) : SeqAt.shaped (.tuple [dStr ns, dPrs ls, dPrs vs]) = true := by
  have h1 := depth_strs ns
  have h2 := depth_prs ls
  have h3 := depth_prs vs
  unfold SeqAt.shaped
  simp only [PyData.canLay0, PyData.canLayAll0, lay_strs fun y hy => let_ok (nobad_let g.n hy), lay_prs fun y hy => g.lok hy, lay_prs fun y hy => g.vok hy, PyData.depth, PyData.depthAll, Bool.true_and, Bool.and_true]
  exact decide_eq_true (by omega)
theorem tri_eqv (ns ns2 : List Str) (ls ls2 vs vs2 : List Pr) : PyData.eqv (.tuple [dStr ns, dPrs ls, dPrs vs]) (.tuple [dStr ns2, dPrs ls2, dPrs vs2]) = decide (ns = ns2 ∧ ls = ls2 ∧ vs = vs2) := by
  rw [PyData.eqv]
  simp only [PyData.eqvAll, eqv_strs, eqv_prs, Bool.and_true, Bool.decide_and]
def bools (a b c : Bool) : PyData := .list [.bool a, .bool b, .bool c]
theorem bools_eqv (a b c : Bool) : PyData.eqv (bools a b c) (bools a b c) = true := by cases a <;> cases b <;> cases c <;> decide +kernel
theorem bools_shaped (a b c : Bool) : SeqAt.shaped (bools a b c) = true := by cases a <;> cases b <;> cases c <;> decide +kernel
theorem dp_bools {K : PySem.W.Frag} {H : Hp} {l : Addr} {a b c : Bool} (h : H l = some (.lst [.bl a, .bl b, .bl c])) : Dp K H (.ref l) (bools a b c) := .lst (SqL.of h) (.cons (.bl _) (.cons (.bl _) (.cons (.bl _) .nil)))
theorem lc_tup {K : PySem.W.Frag} {a : Addr} {xs : List V} {g : TG} {tt : TT} {te : TE} {vs : List Nat} {σ : L2.St} {H1 : Hp} {D : Addr} {Qd : Hp → Prop} (Pv : Nat → Hp → Prop) (h0 : Pv 0 (upd H1 D (.lst []))) (hl : ∀ i H, i ≤ xs.length → Pv i H → SqT K H a xs)
    (hs : ∀ i x H, xs[i]? = some x → Pv i H → g x (wipe σ vs) H fun σ2 H2 => wipe σ2 vs = wipe σ vs ∧ tt σ2 H2 fun b H3 =>
      if b = true then te σ2 H3 fun y H4 => ∃ acc, H4 D = some (.lst acc) ∧ acc.length < sizeLine ∧ Pv (i + 1) (upd H4 D (.lst (acc ++ [y]))) else Pv (i + 1) H3) (hd : ∀ H, Pv xs.length H → Qd H) :
    ∃ W : Nat → Nat → Hp → Prop, (∃ m, W 0 m (upd H1 D (.lst []))) ∧ ∀ i m H, W i m H →
      (((Itt K a).stop i H ∧ Qd H) ∨ ((Itt K a).go i H ∧ ∃ Nx : Hp → Prop, (∀ H', Nx H' → ∃ m', m' < m ∧ W (i + 1) m' H') ∧ ∀ x H', (Itt K a).yld i H x H' → g x (wipe σ vs) H' fun σ2 H2 => wipe σ2 vs = wipe σ vs ∧ tt σ2 H2 fun b H3 =>
        if b = true then te σ2 H3 fun y H4 => ∃ acc, H4 D = some (.lst acc) ∧ acc.length < sizeLine ∧ Nx (upd H4 D (.lst (acc ++ [y]))) else Nx H3)) := by
  refine ⟨fun i m H => m = xs.length - i ∧ i ≤ xs.length ∧ Pv i H, ⟨_, rfl, Nat.zero_le _, h0⟩, fun i m H h => ?_⟩
  obtain ⟨em, hi, p⟩ := h
  have q := hl i H hi p
  by_cases hlt : i < xs.length
  · refine .inr ⟨⟨xs, xs[i], q, List.getElem?_eq_getElem hlt⟩, Pv (i + 1), fun H' p' => ⟨xs.length - (i + 1), by omega, rfl, hlt, p'⟩, fun y H' hy => ?_⟩
    obtain ⟨rfl, hx⟩ := hy
    exact hs i y _ (hx xs q) p
  · have e : i = xs.length := by omega
    rw [e] at p
    exact .inl ⟨⟨xs, q, by omega⟩, hd H p⟩
theorem d_tif2 {σ : L2.St} {H : Hp} {Q : VK} {c : TT} {ta tb : TE} (Cond : V → Hp → Prop) (k : ∀ v H, Cond v H → Q v H) (h : (∀ v H, Cond v H → Q v H) → c σ H fun b H1 => if b = true then ta σ H1 Q else tb σ H1 Q) : tIf c ta tb σ H Q := h k
theorem DiagAt.frame {K : PySem.W.Frag} {H H' : Hp} {p a : Addr} {n : Nat} {ns : List Str} {ls vs : List Pr} (h : DiagAt K H a ns ls vs) (P : Pool H p n) (f : ∀ u o, H u = some o → u ≠ p → H' u = some o) : DiagAt K H' a ns ls vs := by
  obtain ⟨dx, l1, l2, l3, as, bs, h0, h1, h2, h3, h4, h5⟩ := h
  obtain ⟨pa, pb, pc, ep, _⟩ := P
  have ts : TupS H H' := fun u xs e => f u _ e (ne_of e ep (by intro z; cases z))
  exact ⟨dx, l1, l2, l3, as, bs, f _ _ h0 (ne_of h0 ep (by intro z; cases z)), f _ _ h1 (ne_of h1 ep (lst_ne fun _ _ z => by cases z)), f _ _ h2 (ne_of h2 ep (lst_ne fun _ _ z => by cases z)), f _ _ h3 (ne_of h3 ep (lst_ne fun _ _ z => by cases z)), h4.ts ts, h5.ts ts⟩
theorem ChAt.frame {H H' : Hp} {p a : Addr} {n : Nat} {ns : List Str} {ls vs : List Pr} (h : ChAt H a ns ls vs) (P : Pool H p n) (f : ∀ u o, H u = some o → u ≠ p → H' u = some o) : ChAt H' a ns ls vs := by
  obtain ⟨l1, l2, l3, as, bs, h0, h1, h2, h3, h4, h5⟩ := h
  obtain ⟨pa, pb, pc, ep, _⟩ := P
  have ts : TupS H H' := fun u xs e => f u _ e (ne_of e ep (by intro z; cases z))
  exact ⟨l1, l2, l3, as, bs, f _ _ h0 (ne_of h0 ep (by intro z; cases z)), f _ _ h1 (ne_of h1 ep (lst_ne fun _ _ z => by cases z)), f _ _ h2 (ne_of h2 ep (lst_ne fun _ _ z => by cases z)), f _ _ h3 (ne_of h3 ep (lst_ne fun _ _ z => by cases z)), h4.ts ts, h5.ts ts⟩
end Ds
end F24
section F25
open L2 Ds
local macro_rules | `(tactic| walk_at "ds1") => `(tactic| with_reducible first
  | refine d_seq ?_ | refine d_asg ?_ | refine d_gname ?_ | refine d_if ?_ | refine d_next ?_ | refine d_ret ?_ | refine d_drop ?_ | refine d_test ?_ | refine d_B ?_ | refine d_c ?_
  | refine d_op ?_ | refine d_un ?_ | refine d_rI0 ?_ | refine d_rU ?_ | refine d_cons ?_ | refine d_nil ?_ | refine d_cb ?_ | refine d_bl ?_ | refine d_call ?_ | refine d_and ?_ | refine d_or ?_ | refine d_not ?_ | refine d_lst ?_ | refine d_tup ?_
  | refine d_par ?_ | refine d_par2 ?_ | refine d_for ?_ | refine d_rng1 ?_ | refine d_rng2 ?_ | refine d_ils ?_ | refine d_its ?_ | refine d_ien ?_ | refine d_lc ?_ | refine d_yes ?_ | refine d_step2 ?_ | refine d_chain ?_ | refine d_andV ?_ | refine d_orV ?_ | refine d_notV ?_ | refine d_slice ?_ | refine d_nopart ?_ | refine d_part ?_ | refine d_int ?_ | refine d_s2 ?_ | refine d_mkO ?_ | refine d_callS ?_ | refine d_p0 ?_ | refine d_p1 ?_ | refine d_disp ?_ | refine d_din ?_ | refine d_dnotin ?_ | refine d_dput ?_ | refine d_sfld ?_ | refine d_fld ?_ | refine d_gcons ?_ | refine d_gnil ?_ | refine d_gsub ?_ | refine d_bm ?_ | refine d_bm0 ?_)
local macro_rules | `(tactic| walk_at "ds2") => `(tactic| first
  | ((with_reducible show tVar _ _ _ _); refine d_var (by exact rfl) ?_)
  | (with_reducible refine d_i1 ?_) | (with_reducible refine d_i2 ?_) | (with_reducible refine d_o1 ?_) | ((with_reducible refine d_ls ?k1 ?_); (case k1 => exact Nat.le_of_ble_eq_true rfl))
  | ((with_reducible refine' d_lenS ?k1 ?_); (case k1 => first | assumption | exact SqL.of (by assumption))) | ((with_reducible refine' d_listS ?k1 ?_); (case k1 => first | assumption | exact SqL.of (by assumption)))
  | ((with_reducible refine' d_len ?k1 ?_); (case k1 => first | assumption | exact SqL.of (by assumption)))
  | ((with_reducible refine' d_eq ?k1 ?_); (case k1 => rfl)) | ((with_reducible refine' d_ne ?k1 ?_); (case k1 => rfl))
  | ((with_reducible refine' d_new ?k1 ?_); (case k1 => exact Nat.le_of_ble_eq_true rfl)))
local macro_rules | `(tactic| walk_at "rd") => `(tactic| repeat (first | walk_at "ds1" | walk_at "ds2"))
local macro_rules | `(tactic| walk_at "sub") => `(tactic| repeat (first | exact List.Sublist.slnil | exact List.Sublist.refl _ | refine List.Sublist.cons₂ _ ?_ | refine List.Sublist.cons _ ?_))

local macro_rules | `(tactic| walk_at "ds1") => `(tactic| with_reducible first | refine d_dm ?_ | refine d_make ?_ | refine d_par3 ?_ | refine d_prop ?_ | refine d_revL ?_ | refine d_makeK ?_)
namespace Ds
open PySem PySem.Spec PyProof.Rows L2 He
abbrev s_right : Stmt := top 22
abbrev N_right : List Str := ["pool", "chart", "things", "ties", "veils", "made", "turn", "told", "some", "mate", "twin", "due", "thing"]
section
variable {P : Program} {w : World} {K : PySem.W.Frag} {mg : Str → Option Value} {base : Heap}
theorem sc_right : FnScope N_right ["pool"] (defScope s_right) := ⟨rfl, rfl, rfl, by decide +kernel, rfl, by decide +kernel, by decide +kernel⟩
def spRight : Sp := fun us H Q _ => ∃ (p : Addr) (n : Nat), us = [.ref p] ∧ Pool H p n ∧ n ≤ 999990000 ∧ ∀ H', (∀ b u, H b = some u → b ≠ p → H' b = some u) → Pool H' p (n + 202) → Q (.bl true) H'
/-- what the written part says of the class beside other types -/
structure TyF (K : PySem.W.Frag) (C : Addr) : Prop where
  ty : ∀ T ∈ (["tuple", "list", "NoneType", "int", "str"] : List String), PySem.W.kitOne K (.type T) (.ref C) = some false ∧ PySem.W.notFirst K C (.type T) = true
  ha : PySem.W.findIn K (.ref C) "__class__" = some (some (.builtin "object.__class__"))
  hn : PySem.W.specialIn K (.builtin "object.__class__") "__get__" = some (some (.builtin "getset_descriptor.__get__"))
  ht : PySem.W.takesIn K (.builtin "object.__class__") = some true
  hm : PySem.W.mroIn K C (.type "object") = some true
def mkG : List V → List V → List V := fun vs zs => vs ++ zs.reverse
theorem ok_right {f : Addr} {fd : FuncData} (F : FnP K "_law_right" "_law_right" s_right f fd) (T : Tx mg) (DC : DiagC K) (TY : TyF K (ga K "Diagram")) (C_chart : Cal P w K mg base CX0 2 "_law_chart" ["pool", "widest"] spChart) (C_draw : Cal P w K mg base CX0 1 "_law_draw" ["pool", "span"] spDraw)
    (C_made : Cal P w K mg base CX0 6 "_law_made" ["chart"] (spMade K)) (C_bent : Cal P w K mg base CX0 2 "_law_bent" ["pool", "chart"] spBent) (C_Diagram : CalC P w K mg base (L2.CX P w) 4 "Diagram" (ga K "Diagram") ["self", "names", "arrows", "pairs"] (spInit K))
    (C_Diagram_p_a_n : CalCK P w K mg base (L2.CX P w) 4 "Diagram" (ga K "Diagram") ["self", "names", "arrows", "pairs"] ["pairs", "arrows", "names"] mkG (spInit K))
    (C_names : CalP P w K mg base 1 (ga K "Diagram") "names" (spNames K)) (C_arrows : CalP P w K mg base 1 (ga K "Diagram") "arrows" (spArr K)) (C_pairs : CalP P w K mg base 1 (ga K "Diagram") "pairs" (spVls K)) (C_Diagram_eq : CalE P w K mg base CX0 1 (ga K "Diagram") (spEq K)) :
    FnG P w K mg base CX0 7 f fd ["pool"] spRight := by
  refine okG F sc_right (fun vs H Q E h => ?_) (fun cdv A outer s H vs Q E hg hr h => ⟨_, PSs.nox ((pss_cons (ps_set (i := 1) sc_right.nd rfl (Or.inl rfl) (pe_cal C_chart hr rfl (pa_cons (pv 0) (pa_cons pe_int pa_nil))))
 (pss_cons (ps_par3 (i := 2) (j := 3) (l := 4) (by rfl) sc_right.nd rfl rfl rfl (by decide) (by decide) (by decide) rfl rfl rfl (pa_cons (pe_callTy (r := Evl.rListS K) call_list_of (by rfl) T.n_list (by decide +kernel) (pa_cons (pe_ix (r := rIxT K) ix_tup (pv 1) pe_int (fun _ _ => rfl)) pa_nil)) (pa_cons (pe_callTy (r := Evl.rListS K) call_list_of (by rfl) T.n_list (by decide +kernel) (pa_cons (pe_ix (r := rIxT K) ix_tup (pv 1) pe_int (fun _ _ => rfl)) pa_nil)) (pa_cons (pe_callTy (r := Evl.rListS K) call_list_of (by rfl) T.n_list (by decide +kernel) (pa_cons (pe_ix (r := rIxT K) ix_tup (pv 1) pe_int (fun _ _ => rfl)) pa_nil)) pa_nil))) (by rfl))
 (pss_cons (ps_set (i := 5) sc_right.nd rfl (Or.inr rfl) (pe_ifExp (pt_cmpR op_eq (pe_cal C_draw hr rfl (pa_cons (pv 0) (pa_cons pe_int pa_nil))) pe_int (nomark _)) (pe_mkN C_Diagram hr rfl (pa_cons (pv 2) (pa_cons (pv 3) (pa_cons (pv 4) pa_nil)))) (pe_mkKN C_Diagram_p_a_n hr rfl (pk_cons (pv 4) (pk_cons (pv 3) (pk_cons (pv 2) pk_nil))))))
 (pss_cons (ps_expr (pe_bmK (K := K) PySem.F.plainAttrs_list PySem.F.slot_list_append PySem.F.type_list_append mt_append (pv 2) (pa_cons pe_str pa_nil)))
 (pss_cons (ps_expr (pe_bmK (K := K) PySem.F.plainAttrs_list PySem.F.slot_list_append PySem.F.type_list_append mt_append (pv 3) (pa_cons (pe_tup (pa_cons pe_str (pa_cons pe_str pa_nil))) pa_nil)))
 (pss_cons (ps_expr (pe_bmK (K := K) PySem.F.plainAttrs_list PySem.F.slot_list_append PySem.F.type_list_append mt_append (pv 4) (pa_cons (pe_tup (pa_cons pe_str (pa_cons pe_str pa_nil))) pa_nil)))
 (pss_cons (ps_for PassesOwn.never rfl (pi_range1 (by rfl) T.n_range (pa_cons pe_int pa_nil)) (pg_name (i := 6) sc_right.nd rfl (Or.inl rfl))
 (pss_cons (ps_set (i := 7) sc_right.nd rfl (Or.inl rfl) (pe_lst (pa_cons (pe_propC C_names hr (pv 5)) (pa_cons (pe_propC C_arrows hr (pv 5)) (pa_cons (pe_propC C_pairs hr (pv 5)) pa_nil)))))
 (pss_cons (ps_if (pt_cmpR op_ne (pe_callB (call_reprD hg hr.units) (by rfl) T.n_repr (by decide +kernel) (pa_cons (pv 7) pa_nil)) (pe_callB (call_reprD hg hr.units) (by rfl) T.n_repr (by decide +kernel) (pa_cons (pe_lst (pa_cons (pe_ix (r := rIxT K) ix_tup (pv 1) pe_int (fun _ _ => rfl)) (pa_cons (pe_ix (r := rIxT K) ix_tup (pv 1) pe_int (fun _ _ => rfl)) (pa_cons (pe_ix (r := rIxT K) ix_tup (pv 1) pe_int (fun _ _ => rfl)) pa_nil)))) pa_nil)) (nomark _))
 (pss_one (ps_ret pe_bl))
 pss_nil)
 (pss_one (ps_for PassesOwn.never rfl (pi_listK (K := K) (pv 7)) (pg_name (i := 8) sc_right.nd rfl (Or.inl rfl))
 (pss_one (ps_expr (pe_bmK (K := K) PySem.F.plainAttrs_list PySem.F.slot_list_append PySem.F.type_list_append mt_append (pv 8) (pa_cons pe_str pa_nil)))))))))
 (pss_cons (ps_set (i := 9) sc_right.nd rfl (Or.inl rfl) (pe_cal C_bent hr rfl (pa_cons (pv 0) (pa_cons (pv 1) pa_nil))))
 (pss_cons (ps_set (i := 10) sc_right.nd rfl (Or.inl rfl) (pe_cal C_made hr rfl (pa_cons (pv 9) pa_nil)))
 (pss_cons (ps_set (i := 11) sc_right.nd rfl (Or.inl rfl) (pe_cmpR (r := rEqD K) (op_eqD hr.units) (pv 9) (pe_tup (pa_cons (pe_ix (r := rIxT K) ix_tup (pv 1) pe_int (fun _ _ => rfl)) (pa_cons (pe_ix (r := rIxT K) ix_tup (pv 1) pe_int (fun _ _ => rfl)) (pa_cons (pe_ix (r := rIxT K) ix_tup (pv 1) pe_int (fun _ _ => rfl)) pa_nil)))) (nomark _)))
 (pss_cons (ps_if (pt_cmpR (r := rNeD K) (op_neD hr.units) (pe_lst (pa_cons (pe_cmpR (r := rEqO K (ga K "Diagram") (spEq K)) (op_eqO C_Diagram_eq hr) (pv 5) (pv 10) (nomark _)) (pa_cons (pe_cmpR (r := rEqO K (ga K "Diagram") (spEq K)) (op_eqO C_Diagram_eq hr) (pv 10) (pv 5) (nomark _)) (pa_cons (pe_cmpR (r := rNeO (ga K "Diagram") (spEq K)) (op_neO C_Diagram_eq hr) (pv 5) (pv 10) (nomark _)) pa_nil)))) (pe_lst (pa_cons (pv 11) (pa_cons (pv 11) (pa_cons (pe_not (pv 11)) pa_nil)))) (nomark _))
 (pss_one (ps_ret pe_bl))
 pss_nil)
 (pss_cons (ps_if (pt_not (pt_cmpR (r := rEqO K (ga K "Diagram") (spEq K)) (op_eqO C_Diagram_eq hr) (pv 5) (pe_cal C_made hr rfl (pa_cons (pv 1) pa_nil)) (nomark _)))
 (pss_one (ps_ret pe_bl))
 pss_nil)
 (pss_one (ps_ret (pe_cmpR (r := rEqD K) (op_eqD hr.units) (pe_lc (own := [("thing", 12)]) (by rfl) sc_right.nd (pi_tupK (K := K) (pe_tup (pa_cons (pv 1) (pa_cons (pe_ix (r := rIxT K) ix_tup (pv 1) pe_int (fun _ _ => rfl)) (pa_cons pe_non (pa_cons pe_int (pa_cons pe_str pa_nil))))))) (blkOk_by (own := [("thing", 12)]) (N := N_right) (sc := defScope s_right) (by decide +kernel)) (fun _ _ _ _ _ => (pg_name (i := 12) sc_right.nd rfl (Or.inl rfl))) (fun _ _ _ _ _ => (pts_one (pt_cmpR (r := rEqO K (ga K "Diagram") (spEq K)) (op_eqO C_Diagram_eq hr) (pv 5) (pv 12) (nomark _)))) (fun _ _ _ _ _ => pe_int)) (pe_lst pa_nil) (nomark _))))))))))))))))), ?_⟩)
  · obtain ⟨p, n, rfl, _⟩ := h
    rfl
  · obtain ⟨p, n, rfl, hpool, hn, k⟩ := h
    walk_at "rd"
    refine ⟨p, n, 6, rfl, hpool, by omega, by decide, by decide, fun t l1 l2 l3 as bs ns ls vs o H1 M P1 hL hV ok => ?_⟩
    have g := ok.good (by decide)
    have ch : ChAt H1 t ns ls vs := ⟨l1, l2, l3, as, bs, M.get 4, M.get 1, M.get 2, M.get 3, hL, hV⟩
    have fr0 : ∀ b u, H b = some u → b ≠ p → H1 b = some u := fun b u e z => M.fr b u e (by simpa using z)
    have c0 := M.get 4
    have c1 := M.get 1
    have c2 := M.get 2
    have c3 := M.get 3
    have hll := g.llen
    have hn6 := g.hi
    have hvl := ok.vlen
    have hal := hL.length
    have hbl := hV.length
    clear M
    have P1' := P1
    obtain ⟨pa, pb, pc, ep, _⟩ := P1'
    have n0 : t ≠ p := ne_of c0 ep (by intro z; cases z)
    have n1 : l1 ≠ p := ne_of c1 ep (lst_ne fun _ _ z => by cases z)
    have n2 : l2 ≠ p := ne_of c2 ep (lst_ne fun _ _ z => by cases z)
    have n3 : l3 ≠ p := ne_of c3 ep (lst_ne fun _ _ z => by cases z)
    have M0 := Mem.start1 ep
    have tk : ∀ {L : List (Addr × HO)} {Hx : Hp}, Mem H1 [p] L Hx → ∀ {u o}, H1 u = some o → u ≠ p → Hx u = some o := fun M u o e z => M.fr _ _ e (by simpa using z)
    walk_at "rd"
    refine d_ixT (SqT.of (tk M0 c0 n0)) (atI_nat (j := 0) rfl) ?_
    walk_at "rd"
    intro a na
    have M1 := M0.alloc na (o' := .lst (ns.map V.str))
    walk_at "rd"
    refine d_ixT (SqT.of (tk M1 c0 n0)) (atI_nat (j := 1) rfl) ?_
    walk_at "rd"
    refine d_listS (SqL.of (tk M1 c2 n2)) ?_
    intro b nb
    have M2 := M1.alloc nb (o' := .lst (as.map V.ref))
    walk_at "rd"
    refine d_ixT (SqT.of (tk M2 c0 n0)) (atI_nat (j := 2) rfl) ?_
    walk_at "rd"
    refine d_listS (SqL.of (tk M2 c3 n3)) ?_
    intro c nc
    have M3 := M2.alloc nc (o' := .lst (bs.map V.ref))
    walk_at "rd"
    refine ⟨_, _, _, rfl, ?_⟩
    walk_at "rd"
    have P3 : Pool _ p (n + 200) := P1.same (M3.get 0 |>.trans ep.symm)
    have A3 := M3.get 1
    have B3 := M3.get 2
    have C3 := M3.get 3
    have nap : a ≠ p := M3.ne 0 1 rfl rfl (by decide)
    have nbp : b ≠ p := M3.ne 0 2 rfl rfl (by decide)
    have ncp : c ≠ p := M3.ne 0 3 rfl rfl (by decide)
    have nba : b ≠ a := M3.ne 1 2 rfl rfl (by decide)
    have nca : c ≠ a := M3.ne 1 3 rfl rfl (by decide)
    have ncb : c ≠ b := M3.ne 2 3 rfl rfl (by decide)
    have fr3 : ∀ u o, H1 u = some o → u ≠ p → upd (upd (upd H1 a (.lst (ns.map V.str))) b (.lst (as.map V.ref))) c (.lst (bs.map V.ref)) u = some o := fun u o e z => tk M3 e z
    have E3 := M3.get 0
    have ch3 := ch.frame P1 fr3
    have L3 : PrsAt _ as ls := hL.ts (fun u xs e => fr3 u _ e (ne_of e ep (by intro z; cases z)))
    have V3 : PrsAt _ bs vs := hV.ts (fun u xs e => fr3 u _ e (ne_of e ep (by intro z; cases z)))
    generalize upd (upd (upd H1 a (.lst (ns.map V.str))) b (.lst (as.map V.ref))) c (.lst (bs.map V.ref)) = H3 at P3 A3 B3 C3 fr3 E3 ch3 L3 V3 ⊢
    clear M0 M1 M2 M3 tk
    obtain ⟨Cond, hCond⟩ : ∃ Cond : V → Hp → Prop, Cond = fun v H' => ∃ m, v = .ref m ∧ (∀ u o, H3 u = some o → u ≠ p → H' u = some o) ∧ Pool H' p (n + 201) ∧ DiagNew K H3 H' m ns ls vs := ⟨_, rfl⟩
    have mk : ∀ (Qx : VK) (o' : HO) (H4 : Hp), H4 = upd H3 p o' → Pool H4 p (n + 201) → (∀ v H, Cond v H → Qx v H) → ∀ x dx, H4 x = none → H4 dx = none → dx ≠ x →
        spInit K [.ref x, .ref a, .ref b, .ref c] (upd (upd H4 dx (.own x)) x (.ins (ga K "Diagram") dx [])) (fun v H2 => v = .non ∧ Qx (.ref x) H2) E0 := by
      intro Qx o' H4 e4 P4 kk x dx x1 x2 x3
      have k4 : ∀ u o, H3 u = some o → u ≠ p → H4 u = some o := fun u o e z => by rw [e4, upd_ne z]; exact e
      have k5 : ∀ u o, H4 u = some o → upd (upd H4 dx (.own x)) x (.ins (ga K "Diagram") dx []) u = some o := fun u o e => by
        rw [upd_ne (ne_of_none e x1), upd_ne (ne_of_none e x2)]
        exact e
      have k6 : ∀ u o, H3 u = some o → u ≠ p → upd (upd H4 dx (.own x)) x (.ins (ga K "Diagram") dx []) u = some o := fun u o e z => k5 u o (k4 u o e z)
      have tt : TupS H3 (upd (upd H4 dx (.own x)) x (.ins (ga K "Diagram") dx [])) := fun u xs e => k6 u _ e (ne_of e E3 (by intro z; cases z))
      refine ⟨x, dx, a, b, c, ns, as, bs, ls, vs, rfl, upd_same, k6 _ _ A3 nap, k6 _ _ B3 nbp, k6 _ _ C3 ncp, L3.ts tt, V3.ts tt, by omega, by omega, fun z hz => ?_, fun q hq => g.lok hq, fun q hq => g.vok hq, fun z hz => absurd g.n hz.not, fun _ hz => absurd ⟨g.lo, g.hi⟩ hz, fun _ _ q hq => absurd g.l hq.not, fun _ _ _ q hq => absurd g.v hq.not, fun _ H' f' dn => ⟨rfl, kk _ _ ?_⟩⟩
      · obtain ⟨i, _, _, rfl⟩ := nobad_let g.n hz
        show 1 ≤ 1000
        decide
      · rw [hCond]
        have keep : ∀ u o, H4 u = some o → H' u = some o := fun u o e => f' u o (k5 u o e) (ne_of_none e x1)
        obtain ⟨qx, q1, q2, q3, ds, es, e0, e1, e2, e3, e5, e6, f1, f2, f3⟩ := dn
        obtain ⟨za, zb, zc, z1, z2⟩ := P4
        have old : ∀ {q : Addr}, upd (upd H4 dx (.own x)) x (.ins (ga K "Diagram") dx []) q = none → H3 q = none := fun {q} hq => by
          cases e : H3 q with
          | none => rfl
          | some u =>
            by_cases zp : q = p
            · rw [zp, k5 _ _ z1] at hq
              cases hq
            · rw [k6 _ _ e zp] at hq
              cases hq
        exact ⟨x, rfl, fun u o e z => keep _ _ (k4 u o e z), ⟨za, zb, zc, keep _ _ z1, z2⟩, qx, q1, q2, q3, ds, es, e0, e1, e2, e3, e5, e6, old f1, old f2, old f3⟩
    refine d_tif2 Cond ?_ (fun kk => ?_)
    rotate_left
    · walk_at "rd"
      refine ⟨p, n + 200, 2, rfl, P3, by omega, by decide, by decide, fun d o' d0 d1 P4 => ?_⟩
      walk_at "rd"
      refine ite2 (fun _ => ?_) (fun _ => ?_)
      · walk_at "rd"
        exact mk _ o' _ rfl P4 kk
      · walk_at "rd"
        exact ⟨rfl, rfl, mk _ o' _ rfl P4 kk⟩
    rw [hCond]
    rintro v H5 ⟨m, rfl, fr5, P5, dx, q1, q2, q3, ds, es, e0, e1, e2, e3, e4, e5, f1, f2, f3⟩
    have dgn : DiagAt K H5 m ns ls vs := ⟨dx, q1, q2, q3, ds, es, e0, e1, e2, e3, e4, e5⟩
    have ch5 := ch3.frame P3 fr5
    have A5 := fr5 _ _ A3 nap
    have B5 := fr5 _ _ B3 nbp
    have C5 := fr5 _ _ C3 ncp
    walk_at "rd"
    have na1 : H1 a = none := na
    have nb1 : H1 b = none := by
      cases e : H1 b with
      | none => rfl
      | some u => rw [upd_ne (ne_of_none e na), e] at nb; cases nb
    have nc1 : H1 c = none := by
      cases e : H1 c with
      | none => rfl
      | some u => rw [upd_ne (fun z => by rw [z] at e; rw [nb1] at e; cases e), upd_ne (ne_of_none e na), e] at nc; cases nc
    have fr15 : ∀ u o, H1 u = some o → u ≠ p → H5 u = some o := fun u o e z => fr5 u o (fr3 u o e z) z
    refine d_ty A5 ?_
    walk_at "rd"
    refine d_append A5 (by rw [List.length_map]; omega) ?_
    have ka : ∀ u o, H5 u = some o → u ≠ a → upd H5 a (.lst (ns.map V.str ++ [V.str "a"])) u = some o := fun u o e z => by rw [upd_ne z]; exact e
    generalize upd H5 a (.lst (ns.map V.str ++ [V.str "a"])) = Ha at ka ⊢
    walk_at "rd"
    refine d_ty (ka _ _ B5 nba) ?_
    walk_at "rd"
    intro tq ntq
    have kt : ∀ u o, H5 u = some o → u ≠ a → upd Ha tq (.tup [.str "a", .str "b"]) u = some o := fun u o e z => by rw [upd_ne (ne_of_none (ka u o e z) ntq)]; exact ka u o e z
    generalize upd Ha tq (.tup [.str "a", .str "b"]) = Ht at kt ⊢
    walk_at "rd"
    refine d_append (kt _ _ B5 nba) (by rw [List.length_map]; omega) ?_
    have kb : ∀ u o, H5 u = some o → u ≠ a → u ≠ b → upd Ht b (.lst (as.map V.ref ++ [V.ref tq])) u = some o := fun u o e z z2 => by rw [upd_ne z2]; exact kt u o e z
    generalize upd Ht b (.lst (as.map V.ref ++ [V.ref tq])) = Hb at kb ⊢
    walk_at "rd"
    refine d_ty (kb _ _ C5 nca ncb) ?_
    walk_at "rd"
    intro tr ntr
    have kr : ∀ u o, H5 u = some o → u ≠ a → u ≠ b → upd Hb tr (.tup [.str "a", .str "b"]) u = some o := fun u o e z z2 => by rw [upd_ne (ne_of_none (kb u o e z z2) ntr)]; exact kb u o e z z2
    generalize upd Hb tr (.tup [.str "a", .str "b"]) = Hr at kr ⊢
    walk_at "rd"
    refine d_append (kr _ _ C5 nca ncb) (by rw [List.length_map]; omega) ?_
    have kz : ∀ u o, H5 u = some o → u ≠ a → u ≠ b → u ≠ c → upd Hr c (.lst (bs.map V.ref ++ [V.ref tr])) u = some o := fun u o e z z2 z3 => by rw [upd_ne z3]; exact kr u o e z z2
    generalize upd Hr c (.lst (bs.map V.ref ++ [V.ref tr])) = Hz at kz ⊢
    have fz : ∀ u o, H1 u = some o → u ≠ p → Hz u = some o := fun u o e z => kz u o (fr15 u o e z) (ne_of_none e na1) (ne_of_none e nb1) (ne_of_none e nc1)
    have chz := ch.frame P1 fz
    have Pz : Pool Hz p (n + 201) := by
      obtain ⟨za, zb, zc, z1, z2⟩ := P5
      exact ⟨za, zb, zc, kz _ _ z1 nap.symm nbp.symm ncp.symm, z2⟩
    have ql : ∀ {q : Addr} {o : HO}, H3 q = none → H5 q = some o → Hz q = some o := fun {q o} z e => kz _ _ e (ne_of_none A3 z).symm (ne_of_none B3 z).symm (ne_of_none C3 z).symm
    have tz : TupS H5 Hz := fun u xs e => kz u _ e (ne_of e A5 (by intro z; cases z)) (ne_of e B5 (by intro z; cases z)) (ne_of e C5 (by intro z; cases z))
    have m5 := kz _ _ e0 (ne_of e0 A5 (by intro z; cases z)) (ne_of e0 B5 (by intro z; cases z)) (ne_of e0 C5 (by intro z; cases z))
    have dgz : DiagAt K Hz m ns ls vs := ⟨dx, q1, q2, q3, ds, es, m5, ql f1 e1, ql f2 e2, ql f3 e3, e4.ts tz, e5.ts tz⟩
    have cz0 := fz _ _ c0 n0
    have cz1 := fz _ _ c1 n1
    have cz2 := fz _ _ c2 n2
    have cz3 := fz _ _ c3 n3
    have zL : PrsAt Hz as ls := hL.ts (fun u xs e => fz u _ e (ne_of e ep (by intro z; cases z)))
    have zV : PrsAt Hz bs vs := hV.ts (fun u xs e => fz u _ e (ne_of e ep (by intro z; cases z)))
    clear kz kr kb kt ka mk e0 e1 e2 e3 e4 e5 f1 f2 f3 dgn ch5 A5 B5 C5 fr5 P5 ql tz
    walk_at "rd"
    refine ⟨by decide, by decide, ?_⟩
    refine for_range (lo := 0) (n := (2 : Int).toNat) (fun j σ' Hc => ∃ v6 v7 v8 v9 v10 v11 v12 : Option V, σ' = [some (.ref p), some (.ref t), some (.ref a), some (.ref b), some (.ref c), some (.ref m), v6, v7, v8, v9, v10, v11, v12] ∧ Same Hz Hc) ?_ ?_ ?_
    · exact ⟨none, none, none, none, none, none, none, rfl, Same.refl Hz⟩
    · rintro j σ' Hc hj ⟨v6, v7, v8, v9, v10, v11, v12, rfl, sc⟩
      walk_at "rd"
      refine ⟨m, dx, _, rfl, sc _ _ m5, ?_⟩
      refine ⟨m, ns, ls, vs, rfl, dgz.same sc, fun x1 nx1 => ?_⟩
      have M1 := (Mem.of_same sc).alloc0 nx1 (o' := .lst (ns.map V.str))
      walk_at "rd"
      refine ⟨m, dx, _, rfl, M1.same _ _ m5, ?_⟩
      refine ⟨m, ns, ls, vs, rfl, dgz.same M1.same, fun x2 as2 nx2 hL2 => ?_⟩
      have M2 := M1.alloc0 nx2 (o' := .lst (as2.map V.ref))
      walk_at "rd"
      refine ⟨m, dx, _, rfl, M2.same _ _ m5, ?_⟩
      refine ⟨m, ns, ls, vs, rfl, dgz.same M2.same, fun x3 bs2 nx3 hV2 => ?_⟩
      have M3 := M2.alloc0 nx3 (o' := .lst (bs2.map V.ref))
      walk_at "rd"
      intro told ntold
      have M4 := M3.alloc0 ntold (o' := .lst [.ref x1, .ref x2, .ref x3])
      walk_at "rd"
      have hL4 := hL2.ts (((TupS.new (o := .lst (as2.map V.ref)) nx2).trans (TupS.new (o := .lst (bs2.map V.ref)) nx3)).trans (TupS.new (o := .lst [.ref x1, .ref x2, .ref x3]) ntold))
      have hV4 := hV2.ts ((TupS.new (o := .lst (bs2.map V.ref)) nx3).trans (TupS.new (o := .lst [.ref x1, .ref x2, .ref x3]) ntold))
      refine d_reprD (d := tri ns ls vs) (.lst (SqL.of (M4.get 3)) (.cons (.lst (SqL.of (M4.get 0)) (dp_strs _)) (.cons (.lst (SqL.of (M4.get 1)) (dp_prs hL4)) (.cons (.lst (SqL.of (M4.get 2)) (dp_prs hV4)) .nil)))) (tri_show _ _ _) (tri_nodict _ _ _) (tri_depth _ _ _) (tri_len g hvl) ?_
      walk_at "rd"
      refine d_ixT (SqT.of (M4.same _ _ cz0)) (atI_nat (j := 0) rfl) ?_
      walk_at "rd"
      refine d_ixT (SqT.of (M4.same _ _ cz0)) (atI_nat (j := 1) rfl) ?_
      walk_at "rd"
      refine d_ixT (SqT.of (M4.same _ _ cz0)) (atI_nat (j := 2) rfl) ?_
      walk_at "rd"
      intro l9 nl9
      have M9 := M4.alloc0 nl9 (o' := .lst [.ref l1, .ref l2, .ref l3])
      walk_at "rd"
      refine d_reprD (d := tri ns ls vs) (.lst (SqL.of (M9.get 4)) (.cons (.lst (SqL.of (M9.same _ _ cz1)) (dp_strs _)) (.cons (.lst (SqL.of (M9.same _ _ cz2)) (dp_prs (zL.ts (TupS.same M9.same)))) (.cons (.lst (SqL.of (M9.same _ _ cz3)) (dp_prs (zV.ts (TupS.same M9.same)))) .nil)))) (tri_show _ _ _) (tri_nodict _ _ _) (tri_depth _ _ _) (tri_len g hvl) ?_
      walk_at "rd"
      rw [decide_eq_true rfl]
      refine iteF ?_
      walk_at "rd"
      refine d_iList (SqL.of (M9.get 3)) ?_
      have las2 := hL2.length
      have lbs2 := hV2.length
      have z1 : Hz x1 = none := sc.free nx1
      have z2 : Hz x2 = none := M1.same.free nx2
      have z3 : Hz x3 = none := M2.same.free nx3
      have t1 : x1 ≠ told := M4.ne 3 0 rfl rfl (by decide)
      have t2 : x2 ≠ told := M4.ne 3 1 rfl rfl (by decide)
      have t3 : x3 ≠ told := M4.ne 3 2 rfl rfl (by decide)
      have all : ∀ q ∈ [x1, x2, x3], Hz q = none ∧ q ≠ told := fun q hq => by
        simp only [List.mem_cons, List.mem_nil_iff, or_false] at hq
        rcases hq with rfl | rfl | rfl
        · exact ⟨z1, t1⟩
        · exact ⟨z2, t2⟩
        · exact ⟨z3, t3⟩
      refine for_list (K := K) (a := told) (xs := [x1, x2, x3].map V.ref) (fun i σ' He => ∃ v8 v9 v10 v11 v12 : Option V, σ' = [some (.ref p), some (.ref t), some (.ref a), some (.ref b), some (.ref c), some (.ref m), some (.int (0 + j)), some (.ref told), v8, v9, v10, v11, v12] ∧
        Same Hz He ∧ He told = some (.lst ([x1, x2, x3].map V.ref)) ∧ ∀ q ∈ [x1, x2, x3], ∃ xs, He q = some (.lst xs) ∧ xs.length ≤ 100 + i) ?_ ?_ ?_ ?_
      · refine ⟨_, _, _, _, _, rfl, M9.same, M9.get 3, fun q hq => ?_⟩
        simp only [List.mem_cons, List.mem_nil_iff, or_false] at hq
        rcases hq with rfl | rfl | rfl
        · exact ⟨_, M9.get 0, by rw [List.length_map]; omega⟩
        · exact ⟨_, M9.get 1, by rw [List.length_map]; omega⟩
        · exact ⟨_, M9.get 2, by rw [List.length_map]; omega⟩
      · rintro i σ' He _ ⟨v8, v9, v10, v11, v12, rfl, se, et, hq⟩
        exact SqL.of et
      · rintro i y σ' He hy ⟨v8, v9, v10, v11, v12, rfl, se, et, hq⟩
        obtain ⟨q, hqi, rfl⟩ := map_get hy
        have hm := List.mem_of_getElem? hqi
        obtain ⟨xs, ex, lx⟩ := hq q hm
        have hi3 : i < 3 := (List.getElem?_eq_some_iff.mp hqi).1
        obtain ⟨zq, tq⟩ := all q hm
        walk_at "rd"
        refine d_ty ex ?_
        walk_at "rd"
        refine d_append ex (by omega) ?_
        walk_at "rd"
        refine ⟨_, _, _, _, _, rfl, fun u o e => ?_, ?_, fun r hr2 => ?_⟩
        · rw [upd_ne (ne_of_none e zq)]
          exact se u o e
        · rw [upd_ne tq.symm]
          exact et
        · by_cases z : r = q
          · subst z
            exact ⟨_, upd_same, by rw [List.length_append, List.length_singleton]; omega⟩
          · obtain ⟨ys, ey, ly⟩ := hq r hr2
            exact ⟨ys, by rw [upd_ne z]; exact ey, by omega⟩
      · rintro σ' He ⟨v8, v9, v10, v11, v12, rfl, se, et, hq⟩
        walk_at "rd"
        exact ⟨_, _, _, _, _, _, _, rfl, se⟩
    · rintro σ' Hc ⟨v6, v7, v8, v9, v10, v11, v12, rfl, sc⟩
      walk_at "rd"
      refine ⟨p, t, n + 201, ns, ls, vs, rfl, by
        obtain ⟨za, zb, zc, z1, z2⟩ := Pz
        exact ⟨za, zb, zc, sc _ _ z1, z2⟩, by omega, chz.same sc, ok, fun Hd t2 ns2 ls2 vs2 fd Pd chd okd => ?_⟩
      have Pc : Pool Hc p (n + 201) := by
        obtain ⟨za, zb, zc, z1, z2⟩ := Pz
        exact ⟨za, zb, zc, sc _ _ z1, z2⟩
      have dgd := (dgz.same sc).frame Pc fd
      have chd0 := (chz.same sc).frame Pc fd
      have g2 := okd.good (by decide)
      have fHd : ∀ u o, H u = some o → u ≠ p → Hd u = some o := fun u o e z => fd u o (sc u o (fz u o (fr0 u o e z) z)) z
      walk_at "rd"
      refine ⟨t2, ns2, ls2, vs2, rfl, chd, g2, by have := okd.vlen; omega, fun He m2 se dg2 => ?_⟩
      have dge := dgd.same se
      have che := chd.same se
      have che0 := chd0.same se
      walk_at "rd"
      have ke : ∀ u o, H1 u = some o → u ≠ p → He u = some o := fun u o e z => se _ _ (fd _ _ (sc _ _ (fz u o e z)) z)
      have ce0 := ke _ _ c0 n0
      have ce1 := ke _ _ c1 n1
      have ce2 := ke _ _ c2 n2
      have ce3 := ke _ _ c3 n3
      have eL : PrsAt He as ls := hL.ts (fun u xs e => ke u _ e (ne_of e ep (by intro z; cases z)))
      have eV : PrsAt He bs vs := hV.ts (fun u xs e => ke u _ e (ne_of e ep (by intro z; cases z)))
      have fHe : ∀ u o, H u = some o → u ≠ p → He u = some o := fun u o e z => se _ _ (fHd u o e z)
      have PHe : Pool He p (n + 202) := by
        obtain ⟨za, zb, zc, z1, z2⟩ := Pd
        exact ⟨za, zb, zc, se _ _ z1, z2⟩
      obtain ⟨u1, u2, u3, us, ws, w0, w1, w2, w3, w4, w5⟩ := che
      obtain ⟨ey, r1, r2, r3, rs, qs, g0, grest⟩ := dge
      have dge : DiagAt K He m ns ls vs := ⟨ey, r1, r2, r3, rs, qs, g0, grest⟩
      obtain ⟨ez, v1, v2, v3, vs3, vt3, h0, hrest⟩ := dg2
      have dg2 : DiagAt K He m2 ns2 ls2 vs2 := ⟨ez, v1, v2, v3, vs3, vt3, h0, hrest⟩
      refine d_ixT (SqT.of ce0) (atI_nat (j := 0) rfl) ?_
      walk_at "rd"
      refine d_ixT (SqT.of ce0) (atI_nat (j := 1) rfl) ?_
      walk_at "rd"
      refine d_ixT (SqT.of ce0) (atI_nat (j := 2) rfl) ?_
      walk_at "rd"
      intro tt ntt
      have Mt := (Mem.start He).alloc0 ntt (o' := .tup [.ref l1, .ref l2, .ref l3])
      have st := Mt.same
      refine d_rEqD (dd := .tuple [dStr ns2, dPrs ls2, dPrs vs2]) (e := .tuple [dStr ns, dPrs ls, dPrs vs])
        (.tup (SqT.of (st _ _ w0)) (.cons (.lst (SqL.of (st _ _ w1)) (dp_strs _)) (.cons (.lst (SqL.of (st _ _ w2)) (dp_prs (w4.ts (TupS.same st)))) (.cons (.lst (SqL.of (st _ _ w3)) (dp_prs (w5.ts (TupS.same st)))) .nil))))
        (.tup (SqT.of (Mt.get 0)) (.cons (.lst (SqL.of (st _ _ ce1)) (dp_strs _)) (.cons (.lst (SqL.of (st _ _ ce2)) (dp_prs (eL.ts (TupS.same st)))) (.cons (.lst (SqL.of (st _ _ ce3)) (dp_prs (eV.ts (TupS.same st)))) .nil))))
        (tri_shaped g2) (tri_shaped g) ?_
      rw [tri_eqv]
      have ed : decide (ns = ns2 ∧ ls = ls2 ∧ vs = vs2) = decide (ns2 = ns ∧ ls2 = ls ∧ vs2 = vs) := by
        by_cases z : ns = ns2 ∧ ls = ls2 ∧ vs = vs2
        · rw [decide_eq_true z, decide_eq_true ⟨z.1.symm, z.2.1.symm, z.2.2.symm⟩]
        · rw [decide_eq_false z, decide_eq_false fun y => z ⟨y.1.symm, y.2.1.symm, y.2.2.symm⟩]
      generalize hdue : decide (ns2 = ns ∧ ls2 = ls ∧ vs2 = vs) = due
      rw [hdue] at ed
      have kitS : PySem.W.kitOne K (.ref (ga K "Diagram")) (.ref (ga K "Diagram")) = some true := by
        unfold PySem.W.kitOne
        rw [if_pos (beq_self_eq_true _)]
      have nfS : PySem.W.notFirst K (ga K "Diagram") (.ref (ga K "Diagram")) = true := by
        unfold PySem.W.notFirst
        rw [beq_self_eq_true, Bool.true_or]
      have tyI : ∀ {Hx : Hp} {x dy : Addr} {fs : List (Str × V)}, Hx x = some (.ins (ga K "Diagram") dy fs) → TyX K Hx (.ref x) (.ref (ga K "Diagram")) := fun e => .base (.ins e DC.cl TY.ha TY.hn TY.ht TY.hm)
      walk_at "rd"
      refine ⟨m, ey, _, _, rfl, st _ _ g0, tyI (st _ _ h0), nfS, m, ns, ls, vs, _, _, rfl, dge.same st, g, tyI (st _ _ h0), .inr ⟨kitS, m2, ns2, ls2, vs2, rfl, dg2.same st, g2, _, rfl, ?_⟩⟩
      rw [ed]
      walk_at "rd"
      refine ⟨m2, ez, _, _, rfl, st _ _ h0, tyI (st _ _ g0), nfS, m2, ns2, ls2, vs2, _, _, rfl, dg2.same st, g2, tyI (st _ _ g0), .inr ⟨kitS, m, ns, ls, vs, rfl, dge.same st, g, _, rfl, ?_⟩⟩
      rw [hdue]
      walk_at "rd"
      refine ⟨m, ey, _, m2, ez, _, rfl, st _ _ g0, rfl, st _ _ h0, m, ns, ls, vs, _, _, rfl, dge.same st, g, tyI (st _ _ h0), .inr ⟨kitS, m2, ns2, ls2, vs2, rfl, dg2.same st, g2, _, rfl, ?_⟩⟩
      rw [ed]
      walk_at "rd"
      intro la nla
      walk_at "rd"
      intro lb nlb
      have sa := same_new (o := .lst [.bl due, .bl due, .bl (!due)]) st nla
      have Ma := (Mem.start _).alloc0 nla (o' := .lst [.bl due, .bl due, .bl (!due)])
      have Mb := Ma.alloc0 nlb (o' := .lst [.bl due, .bl due, .bl (!due)])
      refine d_rNeD (dd := bools due due (!due)) (e := bools due due (!due)) (dp_bools (Mb.get 0)) (dp_bools (Mb.get 1)) (bools_shaped _ _ _) (bools_shaped _ _ _) ?_
      rw [bools_eqv]
      have sb := same_new (o := .lst [.bl due, .bl due, .bl (!due)]) sa nlb
      generalize upd (upd (upd He tt (.tup [.ref l1, .ref l2, .ref l3])) la (.lst [.bl due, .bl due, .bl (!due)])) lb (.lst [.bl due, .bl due, .bl (!due)]) = Hf at sb
      walk_at "rd"
      refine iteF ?_
      walk_at "rd"
      refine ⟨t, ns, ls, vs, rfl, che0.same sb, g, by omega, fun Hg m3 sg dg3 => ?_⟩
      have sg2 := sb.trans sg
      obtain ⟨e3, y1, y2, y3, ys1, ys2, i0, irest⟩ := dg3
      refine ⟨m, ey, _, _, rfl, sg2 _ _ g0, tyI i0, nfS, m, ns, ls, vs, _, _, rfl, dge.same sg2, g, tyI i0, .inr ⟨kitS, m3, ns, ls, vs, rfl, ⟨e3, y1, y2, y3, ys1, ys2, i0, irest⟩, g, _, rfl, ?_⟩⟩
      rw [decide_eq_true (⟨rfl, rfl, rfl⟩ : ns = ns ∧ ls = ls ∧ vs = vs)]
      walk_at "rd"
      refine iteF ?_
      walk_at "rd"
      refine d_ixT (SqT.of (sg2 _ _ ce0)) (atI_nat (j := 0) rfl) ?_
      walk_at "rd"
      intro tz ntz
      have Mz := (Mem.start Hg).alloc0 ntz (o' := .tup [.ref t, .ref l1, .non, .int 0, .str "a"])
      refine d_iTup (SqT.of (Mz.get 0)) ?_
      intro D nD
      have Mw := Mz.alloc0 nD (o' := .lst [])
      refine lc_tup (K := K) (a := tz) (xs := [.ref t, .ref l1, .non, .int 0, .str "a"]) (fun i Hd => Mem Hg [] [(tz, .tup [.ref t, .ref l1, .non, .int 0, .str "a"]), (D, .lst [])] Hd) ?_ ?_ ?_ ?_
      · exact Mw
      · intro i Hd _ Md
        exact SqT.of (Md.get 0)
      · intro i y Hd hy Md
        have ty : ∃ Tn ∈ (["tuple", "list", "NoneType", "int", "str"] : List String), TyX K Hd y (.type Tn) := by
          have hm := List.mem_of_getElem? hy
          simp only [List.mem_cons, List.mem_nil_iff, or_false] at hm
          rcases hm with rfl | rfl | rfl | rfl | rfl
          · exact ⟨"tuple", by simp, .base (.tup (Md.same _ _ (sg2 _ _ ce0)))⟩
          · exact ⟨"list", by simp, .base (.lst (Md.same _ _ (sg2 _ _ ce1)))⟩
          · exact ⟨"NoneType", by simp, .base .non⟩
          · exact ⟨"int", by simp, .base (.int _)⟩
          · exact ⟨"str", by simp, .base (.str _)⟩
        obtain ⟨Tn, hT, ty⟩ := ty
        obtain ⟨k1, k2⟩ := TY.ty Tn hT
        walk_at "rd"
        refine ⟨rfl, ?_⟩
        walk_at "rd"
        have sd := sg2.trans Md.same
        refine ⟨m, ey, _, _, rfl, sd _ _ g0, ty, k2, m, ns, ls, vs, y, _, rfl, dge.same sd, g, ty, .inl ⟨k1, _, rfl, ?_⟩⟩
        walk_at "rd"
        refine iteF ?_
        exact Md
      · intro Hd Md
        walk_at "rd"
        intro ln nln
        have Mn := Md.alloc0 nln (o' := .lst [])
        refine d_rEqD (dd := .list []) (e := .list []) (.lst (SqL.of (Mn.get 1)) .nil) (.lst (SqL.of (Mn.get 2)) .nil) shaped_nil shaped_nil ?_
        have en : PyData.eqv (.list []) (.list []) = true := by decide +kernel
        rw [en]
        have sn := sg2.trans Mn.same
        refine k _ (fun u o e z => sn _ _ (fHe u o e z)) ?_
        obtain ⟨za, zb, zc, z1, z2⟩ := PHe
        exact ⟨za, zb, zc, sn _ _ z1, z2⟩
end
end Ds
end F25
section F26
open L2 Ds
local macro_rules | `(tactic| walk_at "ds1") => `(tactic| with_reducible first
  | refine d_seq ?_ | refine d_asg ?_ | refine d_gname ?_ | refine d_if ?_ | refine d_next ?_ | refine d_ret ?_ | refine d_drop ?_ | refine d_test ?_ | refine d_B ?_ | refine d_c ?_
  | refine d_op ?_ | refine d_un ?_ | refine d_rI0 ?_ | refine d_rU ?_ | refine d_cons ?_ | refine d_nil ?_ | refine d_cb ?_ | refine d_bl ?_ | refine d_call ?_ | refine d_and ?_ | refine d_or ?_ | refine d_not ?_ | refine d_lst ?_ | refine d_tup ?_
  | refine d_par ?_ | refine d_par2 ?_ | refine d_for ?_ | refine d_rng1 ?_ | refine d_rng2 ?_ | refine d_ils ?_ | refine d_its ?_ | refine d_ien ?_ | refine d_lc ?_ | refine d_yes ?_ | refine d_step2 ?_ | refine d_chain ?_ | refine d_andV ?_ | refine d_orV ?_ | refine d_notV ?_ | refine d_slice ?_ | refine d_nopart ?_ | refine d_part ?_ | refine d_int ?_ | refine d_s2 ?_ | refine d_mkO ?_ | refine d_callS ?_ | refine d_p0 ?_ | refine d_p1 ?_ | refine d_disp ?_ | refine d_din ?_ | refine d_dnotin ?_ | refine d_dput ?_ | refine d_sfld ?_ | refine d_fld ?_ | refine d_gcons ?_ | refine d_gnil ?_ | refine d_gsub ?_ | refine d_bm ?_ | refine d_bm0 ?_)
local macro_rules | `(tactic| walk_at "ds2") => `(tactic| first
  | ((with_reducible show tVar _ _ _ _); refine d_var (by exact rfl) ?_)
  | (with_reducible refine d_i1 ?_) | (with_reducible refine d_i2 ?_) | (with_reducible refine d_o1 ?_) | ((with_reducible refine d_ls ?k1 ?_); (case k1 => exact Nat.le_of_ble_eq_true rfl))
  | ((with_reducible refine' d_lenS ?k1 ?_); (case k1 => first | assumption | exact SqL.of (by assumption))) | ((with_reducible refine' d_listS ?k1 ?_); (case k1 => first | assumption | exact SqL.of (by assumption)))
  | ((with_reducible refine' d_len ?k1 ?_); (case k1 => first | assumption | exact SqL.of (by assumption)))
  | ((with_reducible refine' d_eq ?k1 ?_); (case k1 => rfl)) | ((with_reducible refine' d_ne ?k1 ?_); (case k1 => rfl))
  | ((with_reducible refine' d_new ?k1 ?_); (case k1 => exact Nat.le_of_ble_eq_true rfl)))
local macro_rules | `(tactic| walk_at "rd") => `(tactic| repeat (first | walk_at "ds1" | walk_at "ds2"))
local macro_rules | `(tactic| walk_at "sub") => `(tactic| repeat (first | exact List.Sublist.slnil | exact List.Sublist.refl _ | refine List.Sublist.cons₂ _ ?_ | refine List.Sublist.cons _ ?_))

namespace Ds
open PySem PySem.Spec PyProof.Rows L2 He
abbrev s_law : Stmt := top 23
section
variable {P : Program} {w : World} {K : PySem.W.Frag} {mg : Str → Option Value} {base : Heap}
theorem sc_law : FnScope ["script", "spot", "pool", "turn"] ["script"] (defScope s_law) := ⟨rfl, rfl, rfl, by decide +kernel, rfl, by decide +kernel, by decide +kernel⟩
def spLaw (K : PySem.W.Frag) : Sp := fun us H Q _ => ∃ (a : Addr) (ns : List Int), us = [.ref a] ∧ SqL K H a (ns.map V.int) ∧ ns.length ≤ 63 ∧ ∀ H', Q (.bl true) H'
theorem ok_law {f : Addr} {fd : FuncData} (F : FnP K "law" "law" s_law f fd) (T : Tx mg) (C_pool : Cal P w K mg base CX0 1 "_law_pool" ["script", "spot"] (spPool K)) (C_right : CalG P w K mg base CX0 7 "_law_right" ["pool"] spRight) :
    FnG P w K mg base CX0 8 f fd ["script"] (spLaw K) := by
  refine okG F sc_law (fun vs H Q E h => ?_) (fun cdv A outer s H vs Q E hg hr h => ⟨_, PSs.nox ((pss_cons (ps_for PassesOwn.never rfl (pi_range1 (by rfl) T.n_range (pa_cons (pe_callB (call_max2 rfl) (by rfl) T.n_max (by decide +kernel) (pa_cons pe_int (pa_cons (pe_callB (call_min2 rfl) (by rfl) T.n_min (by decide +kernel) (pa_cons pe_int (pa_cons (pe_callB (r := Evl.rLenS K) call_len_seq (by rfl) T.n_len (by decide +kernel) (pa_cons (pv 0) pa_nil)) pa_nil))) pa_nil))) pa_nil)) (pg_name (i := 1) sc_law.nd rfl (Or.inl rfl))
 (pss_cons (ps_set (i := 2) sc_law.nd rfl (Or.inl rfl) (pe_cal C_pool hr rfl (pa_cons (pv 0) (pa_cons (pv 1) pa_nil))))
 (pss_one (ps_for PassesOwn.never rfl (pi_range1 (by rfl) T.n_range (pa_cons pe_int pa_nil)) (pg_name (i := 3) sc_law.nd rfl (Or.inl rfl))
 (pss_one (ps_if (pt_not (pt_val (pe_calG C_right hr hg rfl (pa_cons (pv 2) pa_nil))))
 (pss_one (ps_ret pe_bl))
 pss_nil))))))
 (pss_one (ps_ret pe_bl)))), ?_⟩)
  · obtain ⟨a, ns, rfl, _⟩ := h
    rfl
  · obtain ⟨a, ns, rfl, hS, hl, k⟩ := h
    walk_at "rd"
    rw [List.length_map]
    generalize hz : (if (if ((ns.length : Nat) : Int) < 6 then ((ns.length : Nat) : Int) else 6) > 1 then (if ((ns.length : Nat) : Int) < 6 then ((ns.length : Nat) : Int) else 6) else 1) = z
    have z0 : 1 ≤ z := by rw [← hz]; split <;> omega
    have z6 : z ≤ 6 := by rw [← hz]; split <;> split <;> omega
    refine ⟨by omega, by omega, ?_⟩
    refine for_range (lo := 0) (n := z.toNat) (fun i σ' Hc => ∃ v1 v2 v3 : Option V, σ' = [some (.ref a), v1, v2, v3] ∧ Same H Hc) ?_ ?_ ?_
    · exact ⟨none, none, none, rfl, Same.refl H⟩
    · rintro i σ' Hc hi ⟨v1, v2, v3, rfl, sc⟩
      walk_at "rd"
      refine ⟨a, ns, i, by rw [Int.zero_add]; rfl, sc.seq hS, hl, by omega, fun p o np P0 => ?_⟩
      have s1 : Same H (upd Hc p o) := fun b u e => by rw [upd_ne (ne_of_none (sc b u e) np)]; exact sc b u e
      have np0 := sc.free np
      walk_at "rd"
      refine ⟨by decide, by decide, ?_⟩
      refine for_range (lo := 0) (n := (5 : Int).toNat) (fun j σ' Hd => ∃ v1 v3 : Option V, σ' = [some (.ref a), v1, some (.ref p), v3] ∧ Same H Hd ∧ Pool Hd p (202 * j)) ?_ ?_ ?_
      · exact ⟨_, _, rfl, s1, P0⟩
      · rintro j σ' Hd hj ⟨v1, v3, rfl, sd, Pd⟩
        have hj4 : j < 5 := hj
        walk_at "rd"
        refine ⟨p, 202 * j, rfl, Pd, by omega, fun He fe Pe => ?_⟩
        walk_at "rd"
        refine iteF ?_
        walk_at "rd"
        exact ⟨_, _, rfl, fun b u e => fe b u (sd b u e) (ne_of_none e np0), by rw [Nat.mul_succ]; exact Pe⟩
      · rintro σ' Hd ⟨v1, v3, rfl, sd, Pd⟩
        walk_at "rd"
        exact ⟨_, _, _, rfl, sd⟩
    · rintro σ' Hc ⟨v1, v2, v3, rfl, sc⟩
      walk_at "rd"
      exact k _
end
end Ds
end F26
section F27
open L2 Ds
namespace Ds
open PySem PySem.Spec PyProof.Rows L2 He
section
variable {P : Program} {w : World} {K : PySem.W.Frag} {mg : Str → Option Value} {base : Heap} {x qual : Str} {prm : Arguments} {body : List Stmt} {sc : Scope} {f : Addr} {fd : FuncData} {CX : CXT} {k : Nat} {ps : List Str} {sp : Sp} {C : Addr} {m : Str}
theorem mkCal (F : FunD K x qual prm body sc [] [] f fd) (g : mg x = some (.ref f)) (ok : FnOk P w K mg base CX k f fd ps sp)
    (b : ∀ (kV doc pm : Value) (an : Option Addr) (cdv ct : Value) (us : List Value), us.length = ps.length → bindArgs (PySem.W.fnOf x qual prm body sc .none kV doc pm an cdv ct) ⟨us, []⟩ = pure (ps.zip us)) : Cal P w K mg base CX k x ps sp := ⟨f, fd, ok, g, F.kp, F.bindsN b⟩
theorem mkCalG (F : FunD K x qual prm body sc [] [] f fd) (g : mg x = some (.ref f)) (ok : FnG P w K mg base CX k f fd ps sp)
    (b : ∀ (kV doc pm : Value) (an : Option Addr) (cdv ct : Value) (us : List Value), us.length = ps.length → bindArgs (PySem.W.fnOf x qual prm body sc .none kV doc pm an cdv ct) ⟨us, []⟩ = pure (ps.zip us)) : CalG P w K mg base CX k x ps sp := ⟨f, fd, ok, g, F.kp, F.bindsN b⟩
theorem mkCalM (F : FunD K x qual prm body sc [] [] f fd) (c : Cls K C) (hm : Meth K C m f) (ok : FnOk P w K mg base CX k f fd ps sp)
    (b : ∀ (kV doc pm : Value) (an : Option Addr) (cdv ct : Value) (us : List Value), us.length = ps.length → bindArgs (PySem.W.fnOf x qual prm body sc .none kV doc pm an cdv ct) ⟨us, []⟩ = pure (ps.zip us))
    (b2 : ∀ (kV doc pm : Value) (an : Option Addr) (cdv ct : Value) (us ws : List Value), us.length = 1 → ws.length = ps.tail.length → bindArgs (PySem.W.fnOf x qual prm body sc .none kV doc pm an cdv ct) ⟨us, ps.tail.zip ws⟩ = pure (ps.zip (us ++ ws))) :
    CalM P w K mg base CX k C m ps sp := by
  refine ⟨c, f, fd, ok, hm, F.bindsN b, ⟨fun s us ws X l1 l2 => ?_, fun r1 r2 => r1.append r2⟩⟩
  obtain ⟨oc, od, dV, kV, doc, pm, an, cdv, ct, osl, rfl, lk, hcd, hD, hK⟩ := F.ex
  rcases hD with ⟨_, rfl⟩ | ⟨e, _⟩
  · exact BindsTo.of_eq (b2 kV doc pm an cdv ct us ws l1 l2)
  · exact absurd rfl e
end

theorem vals_rev : ∀ {vs : List V} {us : List Value}, Vals vs us → Vals vs.reverse us.reverse
  | _, _, .nil => .nil
  | _, _, .cons h t => by
    rw [List.reverse_cons, List.reverse_cons]
    exact (vals_rev t).append (.cons h .nil)
/-- the class beside other types, to be decided -/
def tyFB (K : PySem.W.Frag) (C : Addr) : Bool := ((["tuple", "list", "NoneType", "int", "str"] : List String).all fun T => decide (PySem.W.kitOne K (.type T) (.ref C) = some false) && PySem.W.notFirst K C (.type T)) &&
  (decide (PySem.W.findIn K (.ref C) "__class__" = some (some (.builtin "object.__class__"))) && (decide (PySem.W.specialIn K (.builtin "object.__class__") "__get__" = some (some (.builtin "getset_descriptor.__get__"))) && (decide (PySem.W.takesIn K (.builtin "object.__class__") = some true) && decide (PySem.W.mroIn K C (.type "object") = some true))))
theorem tyFB_ok {K : PySem.W.Frag} {C : Addr} (h : tyFB K C = true) : TyF K C := by
  unfold tyFB at h
  obtain ⟨h1, h⟩ := ba h
  obtain ⟨h2, h⟩ := ba h
  obtain ⟨h3, h⟩ := ba h
  obtain ⟨h4, h5⟩ := ba h
  exact ⟨fun T hT => by
    obtain ⟨k1, k2⟩ := ba (List.all_eq_true.mp h1 T hT)
    exact ⟨of_decide_eq_true k1, k2⟩, of_decide_eq_true h2, of_decide_eq_true h3, of_decide_eq_true h4, of_decide_eq_true h5⟩
def exB (K : PySem.W.Frag) : Bool := ((["InvalidName", "InvalidArrow", "InvalidPair", "InvalidNumber"] : List Str).all (errB K)) && (decide (PySem.W.typeIn K (.ref (errI K)) = some (.type "function")) && (eqB K (ga K "Diagram") (ma K (ga K "Diagram") "__eq__") && tyFB K (ga K "Diagram")))
def dd_DeedError___init__ : He.DefD := ⟨("DeedError", some "__init__"), "__init__", "DeedError.__init__", defArgs (inClass (top 2) 0), defBody (inClass (top 2) 0), defScope (inClass (top 2) 0), [], []⟩
def dd_Diagram___init__ : He.DefD := ⟨("Diagram", some "__init__"), "__init__", "Diagram.__init__", defArgs (inClass (top 9) 0), defBody (inClass (top 9) 0), defScope (inClass (top 9) 0), [], []⟩
def dd_Diagram___eq__ : He.DefD := ⟨("Diagram", some "__eq__"), "__eq__", "Diagram.__eq__", defArgs (inClass (top 9) 4), defBody (inClass (top 9) 4), defScope (inClass (top 9) 4), [], []⟩
def dd_check_things : He.DefD := ⟨("check_things", none), "check_things", "check_things", defArgs (top 10), defBody (top 10), defScope (top 10), [], []⟩
def dd_check_arrows : He.DefD := ⟨("check_arrows", none), "check_arrows", "check_arrows", defArgs (top 11), defBody (top 11), defScope (top 11), [], []⟩
def dd_check_pairs : He.DefD := ⟨("check_pairs", none), "check_pairs", "check_pairs", defArgs (top 12), defBody (top 12), defScope (top 12), [], []⟩
def dd_is_letter : He.DefD := ⟨("is_letter", none), "is_letter", "is_letter", defArgs (top 13), defBody (top 13), defScope (top 13), [], []⟩
def dd_are_two : He.DefD := ⟨("are_two", none), "are_two", "are_two", defArgs (top 14), defBody (top 14), defScope (top 14), [], []⟩
def dd_things_leading : He.DefD := ⟨("things_leading", none), "things_leading", "things_leading", defArgs (top 15), defBody (top 15), defScope (top 15), [], []⟩
def dd__law_pool : He.DefD := ⟨("_law_pool", none), "_law_pool", "_law_pool", defArgs (top 17), defBody (top 17), defScope (top 17), [], []⟩
def dd__law_draw : He.DefD := ⟨("_law_draw", none), "_law_draw", "_law_draw", defArgs (top 18), defBody (top 18), defScope (top 18), [], []⟩
def dd__law_chart : He.DefD := ⟨("_law_chart", none), "_law_chart", "_law_chart", defArgs (top 19), defBody (top 19), defScope (top 19), [], []⟩
def dd__law_made : He.DefD := ⟨("_law_made", none), "_law_made", "_law_made", defArgs (top 20), defBody (top 20), defScope (top 20), [], []⟩
def dd__law_bent : He.DefD := ⟨("_law_bent", none), "_law_bent", "_law_bent", defArgs (top 21), defBody (top 21), defScope (top 21), [], []⟩
def dd__law_right : He.DefD := ⟨("_law_right", none), "_law_right", "_law_right", defArgs (top 22), defBody (top 22), defScope (top 22), [], []⟩
def dd_law : He.DefD := ⟨("law", none), "law", "law", defArgs (top 23), defBody (top 23), defScope (top 23), [], []⟩
def fnL : List He.DefD := [dd_DeedError___init__, dd_Diagram___init__, dd_Diagram___eq__, dd_check_things, dd_check_arrows, dd_check_pairs, dd_is_letter, dd_are_two, dd_things_leading, dd__law_pool, dd__law_draw, dd__law_chart, dd__law_made, dd__law_bent, dd__law_right, dd_law]
def faL : List He.Fa := [.free "abs", .free "int", .free "len", .free "list", .free "max", .free "min", .free "range", .free "enumerate", .free "repr", .free "isinstance", .free "ValueError", .free "all", .free "any", .free "sum", .glo "InvalidName", .glo "InvalidArrow", .glo "InvalidPair", .glo "InvalidNumber", .glo "law", .cls "Diagram", .noat "Diagram" "_names", .noat "Diagram" "_arrows", .noat "Diagram" "_pairs", .glo "Diagram", .glo "_law_pool", .glo "_law_draw", .glo "_law_chart", .glo "is_letter", .glo "are_two", .glo "things_leading", .glo "check_things", .int "MOST_THINGS" 6, .glo "check_arrows", .glo "check_pairs", .mkr "Diagram", .meth "Diagram" "__eq__", .glo "_law_made", .glo "_law_bent", .glo "_law_right"]
def dg (m : Str) (st : Stmt) (q : Str) : He.DefD := ⟨("Diagram", some m), m, q, defArgs st, defBody st, defScope st, [], []⟩
def gtL : List GtD := [⟨"Diagram", "names", dg "names" s_names "Diagram.names"⟩, ⟨"Diagram", "arrows", dg "arrows" s_arrows "Diagram.arrows"⟩, ⟨"Diagram", "pairs", dg "pairs" s_pairs "Diagram.pairs"⟩]
theorem facts {P : Program} {w : World} {K : PySem.W.Frag} {h : Heap} {mg : Str → Option Value} {f : Addr} (X : K.In h) (G : h.Ns mainGlobals mg) (hfa : mg ("law" : Str) = some (.ref f)) (c : He.SaysD faL fnL K) (more : exB K = true)
    (gt : ∀ q ∈ gtL, fnV K (gtA q.C q.x K) = q.d.val ∧ gtB K q.C q.x q.d.qual = true) :
    ∃ fd : FuncData, (∀ (s : Shared) (v : Value), BindsTo s fd ⟨[v], []⟩ [("script", v)]) ∧ ∀ base : Heap, K.In base → base.Ns mainGlobals mg → FnG P w K mg base CX0 8 f fd ["script"] (spLaw K) := by
  have T : Tx mg := ⟨(He.free_ok X G (c.fact 0 (f := .free "abs") rfl)), (He.free_ok X G (c.fact 1 (f := .free "int") rfl)), (He.free_ok X G (c.fact 2 (f := .free "len") rfl)), (He.free_ok X G (c.fact 3 (f := .free "list") rfl)), (He.free_ok X G (c.fact 4 (f := .free "max") rfl)), (He.free_ok X G (c.fact 5 (f := .free "min") rfl)), (He.free_ok X G (c.fact 6 (f := .free "range") rfl)), (He.free_ok X G (c.fact 7 (f := .free "enumerate") rfl)), (He.free_ok X G (c.fact 8 (f := .free "repr") rfl)), (He.free_ok X G (c.fact 9 (f := .free "isinstance") rfl)), (He.free_ok X G (c.fact 10 (f := .free "ValueError") rfl)), (He.free_ok X G (c.fact 11 (f := .free "all") rfl)), (He.free_ok X G (c.fact 12 (f := .free "any") rfl)), (He.free_ok X G (c.fact 13 (f := .free "sum") rfl))⟩
  obtain ⟨m1, more⟩ := ba more
  obtain ⟨m2, more⟩ := ba more
  obtain ⟨m3, m4⟩ := ba more
  have tyI := of_decide_eq_true m2
  have TY := tyFB_ok m4
  have er : ∀ x ∈ (["InvalidName", "InvalidArrow", "InvalidPair", "InvalidNumber"] : List Str), mg x = some (.ref (ga K x)) → ErrC K mg x := fun x hx gl => errB_ok (List.all_eq_true.mp m1 x hx) gl
  have T_InvalidName := er "InvalidName" (by decide +kernel) (He.glo_ok X G (c.fact 14 (f := .glo "InvalidName") rfl))
  have T_InvalidArrow := er "InvalidArrow" (by decide +kernel) (He.glo_ok X G (c.fact 15 (f := .glo "InvalidArrow") rfl))
  have T_InvalidPair := er "InvalidPair" (by decide +kernel) (He.glo_ok X G (c.fact 16 (f := .glo "InvalidPair") rfl))
  have T_InvalidNumber := er "InvalidNumber" (by decide +kernel) (He.glo_ok X G (c.fact 17 (f := .glo "InvalidNumber") rfl))
  obtain ⟨f_einit, F_einit⟩ := (c.def_ 0 (d := dd_DeedError___init__) rfl)
  obtain ⟨f_init, F_init⟩ := (c.def_ 1 (d := dd_Diagram___init__) rfl)
  obtain ⟨f_eq, F_eq⟩ := (c.def_ 2 (d := dd_Diagram___eq__) rfl)
  obtain ⟨f_check_things, F_check_things⟩ := (c.def_ 3 (d := dd_check_things) rfl)
  obtain ⟨f_check_arrows, F_check_arrows⟩ := (c.def_ 4 (d := dd_check_arrows) rfl)
  obtain ⟨f_check_pairs, F_check_pairs⟩ := (c.def_ 5 (d := dd_check_pairs) rfl)
  obtain ⟨f_is_letter, F_is_letter⟩ := (c.def_ 6 (d := dd_is_letter) rfl)
  obtain ⟨f_are_two, F_are_two⟩ := (c.def_ 7 (d := dd_are_two) rfl)
  obtain ⟨f_things_leading, F_things_leading⟩ := (c.def_ 8 (d := dd_things_leading) rfl)
  obtain ⟨f_pool, F_pool⟩ := (c.def_ 9 (d := dd__law_pool) rfl)
  obtain ⟨f_draw, F_draw⟩ := (c.def_ 10 (d := dd__law_draw) rfl)
  obtain ⟨f_chart, F_chart⟩ := (c.def_ 11 (d := dd__law_chart) rfl)
  obtain ⟨f_made, F_made⟩ := (c.def_ 12 (d := dd__law_made) rfl)
  obtain ⟨f_bent, F_bent⟩ := (c.def_ 13 (d := dd__law_bent) rfl)
  obtain ⟨f_right, F_right⟩ := (c.def_ 14 (d := dd__law_right) rfl)
  obtain ⟨f_law, F_law⟩ := (c.def_ 15 (d := dd_law) rfl)
  obtain ⟨gn1, gn2⟩ := gt ⟨"Diagram", "names", dg "names" s_names "Diagram.names"⟩ (by simp [gtL])
  obtain ⟨ga1, ga2⟩ := gt ⟨"Diagram", "arrows", dg "arrows" s_arrows "Diagram.arrows"⟩ (by simp [gtL])
  obtain ⟨gp1, gp2⟩ := gt ⟨"Diagram", "pairs", dg "pairs" s_pairs "Diagram.pairs"⟩ (by simp [gtL])
  obtain ⟨f_names, F_names, P_names⟩ := gtB_ok gn2 gn1
  obtain ⟨f_arrows, F_arrows, P_arrows⟩ := gtB_ok ga2 ga1
  obtain ⟨f_pairs, F_pairs, P_pairs⟩ := gtB_ok gp2 gp1
  have e := hfa.symm.trans (He.glo_ok X G (c.fact 18 (f := .glo "law") rfl))
  cases e
  have DC : DiagC K := ⟨(He.cls_ok (c.fact 19 (f := .cls "Diagram") rfl)), (He.noat_ok (c.fact 20 (f := .noat "Diagram" "_names") rfl)), (He.noat_ok (c.fact 21 (f := .noat "Diagram" "_arrows") rfl)), (He.noat_ok (c.fact 22 (f := .noat "Diagram" "_pairs") rfl))⟩
  have TC : ClsAll K mg := ⟨⟨(He.glo_ok X G (c.fact 23 (f := .glo "Diagram") rfl))⟩⟩
  have b := FunD.bindsA (ps := ["script"]) F_law fun _ _ _ _ _ _ us hl => match us, hl with | [_], _ => rfl
  refine ⟨f_law, fun s v => b s [v] rfl, fun base _ _ => ?_⟩
  have IE : ErrI P w K mg base := ⟨⟨f_einit, ok_einit F_einit, F_einit.bindsN fun _ _ _ _ _ _ us hl => match us, hl with | [_, _], _ => rfl⟩, tyI⟩
  have C_pool : Cal P w K mg base CX0 1 "_law_pool" ["script", "spot"] (spPool K) := mkCal F_pool (He.glo_ok X G (c.fact 24 (f := .glo "_law_pool") rfl)) (ok_pool F_pool T) fun _ _ _ _ _ _ us hl => match us, hl with | [_, _], _ => rfl
  have C_draw : Cal P w K mg base CX0 1 "_law_draw" ["pool", "span"] spDraw := mkCal F_draw (He.glo_ok X G (c.fact 25 (f := .glo "_law_draw") rfl)) (ok_draw F_draw T) fun _ _ _ _ _ _ us hl => match us, hl with | [_, _], _ => rfl
  have C_chart : Cal P w K mg base CX0 2 "_law_chart" ["pool", "widest"] spChart := mkCal F_chart (He.glo_ok X G (c.fact 26 (f := .glo "_law_chart") rfl)) (ok_chart F_chart T C_draw) fun _ _ _ _ _ _ us hl => match us, hl with | [_, _], _ => rfl
  have C_is_letter : Cal P w K mg base CX0 1 "is_letter" ["name"] spLetter := mkCal F_is_letter (He.glo_ok X G (c.fact 27 (f := .glo "is_letter") rfl)) (ok_is_letter F_is_letter T) fun _ _ _ _ _ _ us hl => match us, hl with | [_], _ => rfl
  have C_are_two : Cal P w K mg base CX0 1 "are_two" ["names", "one", "other"] (spTwo K) := mkCal F_are_two (He.glo_ok X G (c.fact 28 (f := .glo "are_two") rfl)) (ok_are_two F_are_two) fun _ _ _ _ _ _ us hl => match us, hl with | [_, _, _], _ => rfl
  have C_things_leading : Cal P w K mg base CX0 1 "things_leading" ["names", "arrows", "name"] (spLeading K) := mkCal F_things_leading (He.glo_ok X G (c.fact 29 (f := .glo "things_leading") rfl)) (ok_things_leading F_things_leading T) fun _ _ _ _ _ _ us hl => match us, hl with | [_, _, _], _ => rfl
  have C_check_things : Cal P w K mg base (L2.CX P w) 3 "check_things" ["names"] (spThings K) := mkCal F_check_things (He.glo_ok X G (c.fact 30 (f := .glo "check_things") rfl)) (ok_check_things F_check_things T (He.int_ok X G (c.fact 31 (f := .int "MOST_THINGS" 6) rfl)) IE T_InvalidName T_InvalidNumber C_is_letter) fun _ _ _ _ _ _ us hl => match us, hl with | [_], _ => rfl
  have C_check_arrows : Cal P w K mg base (L2.CX P w) 3 "check_arrows" ["names", "arrows"] (spArrows K) := mkCal F_check_arrows (He.glo_ok X G (c.fact 32 (f := .glo "check_arrows") rfl)) (ok_check_arrows F_check_arrows T IE T_InvalidArrow C_are_two C_things_leading) fun _ _ _ _ _ _ us hl => match us, hl with | [_, _], _ => rfl
  have C_check_pairs : Cal P w K mg base (L2.CX P w) 3 "check_pairs" ["names", "pairs"] (spPairs K) := mkCal F_check_pairs (He.glo_ok X G (c.fact 33 (f := .glo "check_pairs") rfl)) (ok_check_pairs F_check_pairs T IE T_InvalidPair C_are_two) fun _ _ _ _ _ _ us hl => match us, hl with | [_, _], _ => rfl
  have OI := ok_init (P := P) (w := w) (mg := mg) (base := base) F_init T DC C_check_things C_check_arrows C_check_pairs
  have C_Diagram : CalC P w K mg base (L2.CX P w) 4 "Diagram" (ga K "Diagram") ["self", "names", "arrows", "pairs"] (spInit K) := ⟨(He.glo_ok X G (c.fact 23 (f := .glo "Diagram") rfl)), _, f_init, OI, (He.mkr_ok (c.fact 34 (f := .mkr "Diagram") rfl)), F_init.bindsN fun _ _ _ _ _ _ us hl => match us, hl with | [_, _, _, _], _ => rfl⟩
  have C_Diagram_p_a_n : CalCK P w K mg base (L2.CX P w) 4 "Diagram" (ga K "Diagram") ["self", "names", "arrows", "pairs"] ["pairs", "arrows", "names"] mkG (spInit K) := by
    refine ⟨(He.glo_ok X G (c.fact 23 (f := .glo "Diagram") rfl)), _, f_init, OI, (He.mkr_ok (c.fact 34 (f := .mkr "Diagram") rfl)), fun us ws => us ++ ws.reverse, fun s us ws X l1 l2 => ?_, fun r1 r2 => r1.append (vals_rev r2)⟩
    obtain ⟨oc, od, dV, kV, doc, pm, an, cdv, ct, osl, rfl, lk, hcd, hD, hK⟩ := F_init.ex
    rcases hD with ⟨_, rfl⟩ | ⟨e, _⟩
    · exact BindsTo.of_eq (match us, ws, l1, l2 with | [_], [_, _, _], _, _ => rfl)
    · exact absurd rfl e
  have C_names : CalP P w K mg base 1 (ga K "Diagram") "names" (spNames K) := ⟨DC.cl, _, _, f_names, P_names, ok_names F_names T DC, F_names.bindsN fun _ _ _ _ _ _ us hl => match us, hl with | [_], _ => rfl⟩
  have C_arrows : CalP P w K mg base 1 (ga K "Diagram") "arrows" (spArr K) := ⟨DC.cl, _, _, f_arrows, P_arrows, ok_arrows F_arrows T DC, F_arrows.bindsN fun _ _ _ _ _ _ us hl => match us, hl with | [_], _ => rfl⟩
  have C_pairs : CalP P w K mg base 1 (ga K "Diagram") "pairs" (spVls K) := ⟨DC.cl, _, _, f_pairs, P_pairs, ok_pairs F_pairs T DC, F_pairs.bindsN fun _ _ _ _ _ _ us hl => match us, hl with | [_], _ => rfl⟩
  have ME := (He.meth_ok (c.fact 35 (f := .meth "Diagram" "__eq__") rfl))
  have C_Diagram_eq : CalE P w K mg base CX0 1 (ga K "Diagram") (spEq K) := ⟨_, f_eq, ok_eq F_eq T TC DC, ⟨DC.cl, ME.at_, ME.fn, m3⟩, F_eq.bindsN fun _ _ _ _ _ _ us hl => match us, hl with | [_, _], _ => rfl⟩
  have C_made : Cal P w K mg base CX0 6 "_law_made" ["chart"] (spMade K) := mkCal F_made (He.glo_ok X G (c.fact 36 (f := .glo "_law_made") rfl)) (ok_made F_made T C_Diagram) fun _ _ _ _ _ _ us hl => match us, hl with | [_], _ => rfl
  have C_bent : Cal P w K mg base CX0 2 "_law_bent" ["pool", "chart"] spBent := mkCal F_bent (He.glo_ok X G (c.fact 37 (f := .glo "_law_bent") rfl)) (ok_bent F_bent T C_draw) fun _ _ _ _ _ _ us hl => match us, hl with | [_, _], _ => rfl
  have C_right : CalG P w K mg base CX0 7 "_law_right" ["pool"] spRight := mkCalG F_right (He.glo_ok X G (c.fact 38 (f := .glo "_law_right") rfl)) (ok_right F_right T DC TY C_chart C_draw C_made C_bent C_Diagram C_Diagram_p_a_n C_names C_arrows C_pairs C_Diagram_eq) fun _ _ _ _ _ _ us hl => match us, hl with | [_], _ => rfl
  exact ok_law F_law T C_pool C_right
abbrev R : PySem.W.OpenRow := PySem.W.OpenLaw.row PySem.Challenge.rw_deedshares_k02_diagrams_kept
abbrev hk : PySem.W.Hook := hookP 5 faL fnL exB gtL
def ob (s : PySem.W.SharedT) : AlP := obsP 5 faL fnL exB gtL (HandSHeadRun.getT s)
theorem ob_eq (s : PySem.W.SharedT) : ob s = hk.obs s.abs := obsP_eq (HandSHeadRun.getT_eq s)
end Ds
end F27
section F28
namespace Ds
open PySem PySem.Spec PyProof.Rows L2 He
def looseL : List Str := ["_wall", "DeedError", "InvalidName", "InvalidArrow", "InvalidPair", "InvalidNumber", "MOST_THINGS", "Diagram", "check_things", "check_arrows", "check_pairs", "is_letter", "are_two", "things_leading",
  "_law_pool", "_law_draw", "_law_chart", "_law_made", "_law_bent", "_law_right"]
theorem run (w : World) : HandSHeadRun.RunEq R (PySem.W.view R.prog [23]) hk ob 6000 looseL w := by
  intro os
  kernel_rfl
end Ds
open PySem PySem.W PySem.Calls PyProof.Rows
theorem PySem.Challenge.cw_deedshares_k02_diagrams_kept_holds : PySem.Challenge.rw_deedshares_k02_diagrams_kept.Holds := by
  w_on; o_law
  refine HandSHeadRun.head_any (r := OpenLaw.row PySem.Challenge.rw_deedshares_k02_diagrams_kept) (q := view (OpenLaw.row PySem.Challenge.rw_deedshares_k02_diagrams_kept).prog [23]) (H := Ds.hk) (ob := Ds.ob) (M := 6000) (loose := Ds.looseL) (d := HandSHeadRun.topDef (OpenLaw.row PySem.Challenge.rw_deedshares_k02_diagrams_kept).prog 23) (kwd := []) Ds.ob_eq
    (by kernel_rfl) (fun s => by kernel_rfl) Ds.run (by kernel_rfl) (by kernel_rfl) (by kernel_rfl) (by rfl) (by first | assumption | decide +kernel) (by decide +kernel) ⟨rfl, rfl, rfl, rfl, rfl, by decide +kernel⟩ ?hw ?hc
  case hw => w_witness2
  case hc =>
    refine Ds.walk_G (l := PySem.Challenge.rw_deedshares_k02_diagrams_kept) (n := 63) (k := 8) (x := "script") rfl (by decide) (by kernel_rfl) ⟨rfl, by decide, by decide⟩ ?F
    intro w mg fa h Y G hmg0
    obtain ⟨K, KX, c⟩ := Y
    have hmg : mg ("law" : PySem.Str) = some (.ref fa) := by
      have e : (HandSHeadRun.topDef (OpenLaw.row PySem.Challenge.rw_deedshares_k02_diagrams_kept).prog 23).name = ("law" : PySem.Str) := by kernel_rfl
      rw [← e]
      exact hmg0
    obtain ⟨fd, hb, hF⟩ := Ds.facts (P := (PySem.Challenge.rw_deedshares_k02_diagrams_kept).prog) (w := w) KX G hmg c.x.t.d c.x.more c.g
    exact ⟨K, fd, Ds.spLaw K, KX, hb, fun H a ns hl hS => ⟨a, ns, rfl, hS, hl, fun _ => rfl⟩, hF⟩
end F28
