import PyProof.Rows.All
import Wide.All
import OpenK.AllK
import Wide.FinOn
import HandS.ForExc
import HandS.Comp
import HandS.Dict
import HandS.Iter
import HandS.Text
import HandS.More
import HandS.Deep
import HandS.Wide
import HandS.Defaults
import HandS.Property
import HandS.ExcInit
import HandS.ExcField
import HandS.ExcIs
import HandS.IsInst
import HandS.TupAny
import HandS.Style
import HandS.Flow
import HandS.Evl
import PyProof.ReprRoads
import PyProof.ListStr
import HandS.HeadHook1
import HandS.Ends
import KE.KExcIs
import PyProof.InstNe
import HandS.Head0
import HandS.Head1
import HandS.Head2
import HandS.HeadEnd
import HandS.HeadHook2
import HandS.HeadHook3
import HandS.HeadHook4
import HandS.MakeKwOnly
import PyProof.StrOps2
import KE.KDictCopyH
import PyProof.TupleOfStr
import HandS.Conv
import PyProof.CallFns
import KE.SortData
import HandS.Gcd
import HandS.SetKeys
import HandS.TryOnly
import HandS.HotCalls
import PyProof.ReprLen
import PySem.Challenge.RW_deedshares_k46_whole_barred_lists_go_tog
set_option Elab.async false
set_option linter.all false
set_option maxRecDepth 100000
set_option maxHeartbeats 0
section F0
/-! Own rules and wrappers over the hand layer. -/
namespace Ds
open PySem PySem.Spec PyProof.Rows L2
/-! ### powers of great ints -/
def CPowW (i j : Int) : Prop := 0 ≤ j ∧ (i.natAbs.log2 + 1 : Int) * j ≤ 134217728
theorem op_powW {X : Cx} : OpR X (binaryOp .Pow) (rI CPowW fun i j => .int (i ^ j.toNat)) := opI fun i j _ _ _ _ _ hc q => by
  refine pow_int hc.1 ?_ q
  have e : Builtin.Int.intBits i ≤ i.natAbs.log2 + 1 := by
    unfold Builtin.Int.intBits
    split <;> omega
  have e2 : ((Builtin.Int.intBits i : Nat) : Int) ≤ (i.natAbs.log2 + 1 : Int) := by omega
  have e3 := Int.mul_le_mul_of_nonneg_right e2 hc.1
  have h := hc.2
  have e4 : (2 : Int) ^ 27 = 134217728 := by decide
  omega
/-! ### a def to be called -/
def Cal (P : Program) (w : World) (K : PySem.W.Frag) (mg : Str → Option Value) (base : Heap) (CX : CXT) (k : Nat) (x : Str) (ps : List Str) (sp : Sp) : Prop :=
  ∃ f fd, FnOk P w K mg base CX k f fd ps sp ∧ mg x = some (.ref f) ∧ PySem.W.keepIn K (.ref f) = true ∧ Binds K fd ps []
section
variable {X : Cx} {CX : CXT} {k j : Nat} {x : Str} {ps : List Str} {sp : Sp} {p pos : Pos} {e : Expr} {es : List Expr} {t : TA}
theorem pe_cal (c : Cal X.prog X.w X.K X.mg X.base CX0 k x ps sp) (hr : Room j X.A) (hg : Gl X x) (ha : PA X (e :: es) t) (hj : k ≤ j := by decide) (hdb : (x == ("__debug__" : Str)) = false := by decide)
    (he : starEach (e :: es) X.env = (false, eval e X.env) :: starEach es X.env := by rfl) (hpl : (backTo pos (starEach es X.env)).any (·.1) = false := by rfl) :
    PE X (.Call (.Name x p) (e :: es) [] pos) (tCall sp [] E0 t) := by
  obtain ⟨f, fd, F, hm, kp, b⟩ := c
  exact pe_call F (hr.mono hj) hg hm kp b .nil pass0 ha hdb he hpl
end
/-! ### steps of a reading -/
section
variable {σ : L2.St} {H : Hp} {Q : VK} {D : Ends} {v x y : V} {i : Nat} {m n : Int} {t u : TS} {te tb : TE} {ta tr : TA} {c : TT} {g : TG} {r : R2} {QT : Bool → Hp → Prop} {QA : List V → Hp → Prop} {QS : L2.St → Hp → Prop}
theorem d_seq (h : t { D with nx := u D } σ H) : tSeq t u D σ H := h
theorem d_asg (h : te σ H fun x H1 => g x σ H1 D.nx) : tAsg te g D σ H := h
theorem d_gname (h : QS (σ.set i (some v)) H) : gName i v σ H QS := h
theorem d_if (h : c σ H fun b H1 => if b = true then t D σ H1 else u D σ H1) : tIfS c t u D σ H := h
theorem d_next (h : D.nx σ H) : tNext D σ H := h
theorem d_ret (h : te σ H D.rt) : tRet te D σ H := h
theorem d_test (h : te σ H fun x H1 => ∃ k, x = .bl k ∧ QT k H1) : tTest te σ H QT := h
theorem d_B (h : te σ H fun x H1 => ∃ k, x = .bl k ∧ QT k H1) : tB te σ H QT := h
theorem d_c (h : Q v H) : tC v σ H Q := h
theorem d_var (e : σ[i]? = some (some v)) (h : Q v H) : tVar i σ H Q := ⟨v, e, h⟩
theorem d_op (h : te σ H fun x H1 => tb σ H1 fun y H2 => r x y H2 Q) : tOp r te tb σ H Q := h
theorem d_rI0 {f : Int → Int → V} (h : Q (f m n) H) : rI0 f (.int m) (.int n) H Q := ⟨m, n, rfl, rfl, h⟩
theorem d_rI {C : Int → Int → Prop} {f : Int → Int → V} (hc : C m n) (h : Q (f m n) H) : rI C f (.int m) (.int n) H Q := ⟨m, n, rfl, rfl, hc, h⟩
theorem d_cons (h : te σ H fun x H1 => tr σ H1 fun xs H2 => QA (x :: xs) H2) : tCons te tr σ H QA := h
theorem d_nil (h : QA [] H) : tNil σ H QA := h
theorem d_cb {rc : List V → Hp → VK → Prop} (h : ta σ H fun vs H1 => rc vs H1 Q) : tCB rc ta σ H Q := h
theorem d_bl {b : Bool} {R : Bool → Prop} (h : R b) : ∃ k, V.bl b = .bl k ∧ R k := ⟨b, rfl, h⟩
theorem d_call {sp : Sp} {dvs : List V} {E : XK} (h : ta σ H fun vs H1 => sp (vs ++ dvs) H1 Q E) : tCall sp dvs E ta σ H Q := h
theorem d_not (h : c σ H fun b H1 => QT (!b) H1) : tNot c σ H QT := h
theorem d_ix1 {K : PySem.W.Frag} {p : Addr} {xs : List V} (hS : SqL K H p xs) (ha : atI xs m = some v) (h : Q v H) : rIxL K (.ref p) (.int m) H Q := ⟨p, xs, m, v, rfl, rfl, hS, ha, h⟩
theorem d_lst (h : ta σ H fun xs H1 => xs.length ≤ sizeLine ∧ ∀ p, H1 p = none → Q (.ref p) (upd H1 p (.lst xs))) : tLst ta σ H Q := h
theorem d_new {xs : List V} {R : Addr → Prop} (hl : xs.length ≤ 100000) (h : ∀ p, H p = none → R p) : xs.length ≤ sizeLine ∧ ∀ p, H p = none → R p := ⟨Nat.le_trans hl (by decide), h⟩
theorem d_cut {M : L2.St → Hp → Prop} (h : t { D with nx := M } σ H) (k : ∀ σ' H', M σ' H' → u D σ' H') : Evl.tCut t u D σ H := ⟨M, h, k⟩
theorem d_i1 {z : Int} {R : Int → Prop} (h : R z) : ∃ i, [V.int z] = [V.int i] ∧ R i := ⟨z, rfl, h⟩
theorem d_i2 {a b : Int} {R : Int → Int → Prop} (h : R a b) : ∃ i j, [V.int a, V.int b] = [V.int i, V.int j] ∧ R i j := ⟨a, b, rfl, h⟩
theorem d_o1 {z : Int} {R : Int → Prop} {O : Prop} (h : R z) : (∃ i, [V.int z] = [V.int i] ∧ R i) ∨ O := .inl ⟨z, rfl, h⟩
end
end Ds
end F0
section F1
namespace Ds
open PySem PySem.Spec PyProof.Rows L2
/-! ### list of a text -/
theorem call_listS {X : Cx} (hc : X.calm = true) : CallR X (.type "list") (fun xs H Q => ∃ z : Str, xs = [.str z] ∧ z.length ≤ sizeLine ∧ ∀ p, H p = none → Q (.ref p) (upd H p (.lst (z.cps.toList.map fun c => V.str ⟨#[c]⟩)))) := by
  intro pins s σ H xs us Q I r h
  obtain ⟨z, rfl, hz, q⟩ := h
  obtain ⟨u, rfl, t, rfl⟩ := vals1 r
  refine PySem.call_list_str (I.ok.hd hc) z t (hn := hz) fun h' tk acc c' hk e hi => ?_
  have len : (z.cps.toList.map fun c => V.str ⟨#[c]⟩).length = z.cps.size := by rw [List.length_map]; exact Array.length_toList
  refine ⟨.ref s.heap.objs.size, _, I.laid (t' := tk) (o := .lst (z.cps.toList.map fun c => V.str ⟨#[c]⟩)) hk (Nat.le_refl _) ⟨by rw [len]; exact hz, acc.toList, c', ?_, by rw [Array.toArray_toList]; exact e⟩, rfl, q _ (I.hok.fresh (Nat.le_refl _))⟩
  refine vals_of_idx _ _ (by rw [len, Array.length_toList]; exact hi.1) fun j u hj => ?_
  obtain ⟨c, t', hc, rfl⟩ := hi.2 j u (by rw [← Array.getElem?_toList]; exact hj)
  refine ⟨.str ⟨#[c]⟩, ?_, ⟨_, rfl⟩⟩
  rw [List.getElem?_map, Array.getElem?_toList, hc]
  rfl
/-! ### a heap beside what a def found: S may have changed, L is known -/
structure Mem (H0 : Hp) (S : List Addr) (L : List (Addr × HO)) (H : Hp) : Prop where
  fr : ∀ b o, H0 b = some o → b ∉ S → H b = some o
  here : ∀ x ∈ L, H x.1 = some x.2
  nd : (L.map (·.1)).Nodup
  ol : ∀ x ∈ L, x.1 ∈ S ∨ H0 x.1 = none
section
variable {H0 H H' : Hp} {S : List Addr} {L L' : List (Addr × HO)} {p q : Addr} {o o' : HO} {i : Nat}
theorem Mem.get (M : Mem H0 S L H) (i : Nat) {p : Addr} {o : HO} (h : L[i]? = some (p, o) := by rfl) : H p = some o := M.here (p, o) (List.mem_of_getElem? h)
theorem Mem.start (H : Hp) : Mem H [] [] H := ⟨fun _ _ e _ => e, fun x h => by simp at h, List.nodup_nil, fun x h => by simp at h⟩
theorem Mem.new (M : Mem H0 S L H) (h : H p = none) (hs : p ∉ S) : Mem H0 S (L ++ [(p, o)]) (upd H p o) := by
  refine ⟨fun b u e hb => ?_, fun x hx => ?_, ?_, fun x hx => ?_⟩
  · have q := M.fr b u e hb
    rw [upd_ne (ne_of_none q h)]
    exact q
  · rcases List.mem_append.mp hx with hx | hx
    · have q := M.here x hx
      rw [upd_ne (ne_of_none q h)]
      exact q
    · have e : x = (p, o) := by simpa using hx
      rw [e]
      exact upd_same
  · rw [List.map_append, List.nodup_append]
    refine ⟨M.nd, by simp, fun a ha b hb => ?_⟩
    have e : b = p := by simpa using hb
    subst e
    obtain ⟨x, hx, rfl⟩ := List.mem_map.mp ha
    exact ne_of_none (M.here x hx) h
  · rcases List.mem_append.mp hx with hx | hx
    · exact M.ol x hx
    · have e : x = (p, o) := by simpa using hx
      rw [e]
      refine .inr ?_
      cases e2 : H0 p with
      | none => rfl
      | some u =>
        have z := M.fr p u e2 hs
        rw [h] at z
        cases z
/-- the objects that are not known may be of S only if they stand in L -/
theorem Mem.fresh (M : Mem H0 S L H) (hS : ∀ s ∈ S, ∃ o, (s, o) ∈ L) (h : H p = none) : p ∉ S := fun hp => by
  obtain ⟨u, hu⟩ := hS p hp
  have z := M.here _ hu
  rw [show ((p, u) : Addr × HO).1 = p from rfl, h] at z
  cases z
theorem mem_set {α : Type} {l : List α} {i : Nat} {a x : α} (h : x ∈ l.set i a) : x = a ∨ ∃ j, j ≠ i ∧ l[j]? = some x := by
  obtain ⟨j, hj⟩ := List.mem_iff_getElem?.mp h
  rw [List.getElem?_set] at hj
  by_cases e : i = j
  · rw [if_pos e] at hj
    by_cases e2 : i < l.length
    · rw [if_pos e2] at hj
      exact .inl (Option.some.inj hj).symm
    · rw [if_neg e2] at hj
      cases hj
  · rw [if_neg e] at hj
    exact .inr ⟨j, fun z => e z.symm, hj⟩
theorem nodup_ne {l : List Addr} (nd : l.Nodup) {i j : Nat} {a b : Addr} (hi : l[i]? = some a) (hj : l[j]? = some b) (h : j ≠ i) : b ≠ a := fun e => by
  subst e
  obtain ⟨h1, e1⟩ := List.getElem?_eq_some_iff.mp hi
  obtain ⟨h2, e2⟩ := List.getElem?_eq_some_iff.mp hj
  exact h ((List.getElem_inj nd).mp (e2.trans e1.symm))
theorem Mem.call (M : Mem H0 S L H) (i : Nat) (h : L[i]? = some (p, o)) (k : ∀ b u, H b = some u → b ≠ p → H' b = some u) (e : H' p = some o') : Mem H0 S (L.set i (p, o')) H' := by
  have hp := M.ol (p, o) (List.mem_of_getElem? h)
  have hmap : (L.map (·.1))[i]? = some p := by rw [List.getElem?_map, h]; rfl
  refine ⟨fun b u eb hb => ?_, fun x hx => ?_, ?_, fun x hx => ?_⟩
  · refine k b u (M.fr b u eb hb) fun z => ?_
    subst z
    rcases hp with hp | hp
    · exact hb hp
    · have hp' : H0 b = none := hp
      rw [hp'] at eb
      cases eb
  · rcases mem_set hx with rfl | ⟨j, hj, hx⟩
    · exact e
    · exact k _ _ (M.here x (List.mem_of_getElem? hx)) (nodup_ne M.nd hmap (show (L.map (·.1))[j]? = some x.1 by rw [List.getElem?_map, hx]; rfl) hj)
  · have e : (L.set i (p, o')).map (·.1) = L.map (·.1) := by
      rw [List.map_set]
      refine List.ext_getElem? fun j => ?_
      rw [List.getElem?_set]
      by_cases z : i = j
      · subst z
        rw [if_pos rfl, hmap]
        obtain ⟨h1, _⟩ := List.getElem?_eq_some_iff.mp hmap
        rw [if_pos h1]
      · rw [if_neg z]
    rw [e]
    exact M.nd
  · rcases mem_set hx with rfl | ⟨j, _, hx⟩
    · exact hp
    · exact M.ol x (List.mem_of_getElem? hx)
theorem Mem.set (M : Mem H0 S L H) (i : Nat) (h : L[i]? = some (p, o)) : Mem H0 S (L.set i (p, o')) (upd H p o') :=
  M.call i h (fun b u e hb => by rw [upd_ne hb]; exact e) upd_same
theorem Mem.sub (M : Mem H0 S L H) (h : L'.Sublist L) : Mem H0 S L' H :=
  ⟨M.fr, fun x hx => M.here x (h.subset hx), M.nd.sublist (h.map _), fun x hx => M.ol x (h.subset hx)⟩
theorem Mem.ne (M : Mem H0 S L H) (i j : Nat) (hi : L[i]? = some (p, o)) (hj : L[j]? = some (q, o')) (h : j ≠ i) : q ≠ p :=
  nodup_ne M.nd (i := i) (j := j) (by rw [List.getElem?_map, hi]; rfl) (by rw [List.getElem?_map, hj]; rfl) h
/-- nothing that was known has changed -/
theorem Mem.same (M : Mem H0 [] L H) : Same H0 H := fun b o e => M.fr b o e (by simp)
end
/-! ### tuples stay -/
def TupS (H H' : Hp) : Prop := ∀ a xs, H a = some (.tup xs) → H' a = some (.tup xs)
theorem TupS.refl (H : Hp) : TupS H H := fun _ _ e => e
theorem TupS.trans {H H1 H2 : Hp} (a : TupS H H1) (b : TupS H1 H2) : TupS H H2 := fun x xs e => b x xs (a x xs e)
theorem TupS.lst {H : Hp} {p : Addr} {xs : List V} {o : HO} (h : H p = some (.lst xs)) : TupS H (upd H p o) := fun a ys e => by
  rw [upd_ne (ne_of e h (by intro z; cases z))]
  exact e
theorem TupS.new {H : Hp} {p : Addr} {o : HO} (h : H p = none) : TupS H (upd H p o) := fun a ys e => by
  rw [upd_ne (ne_of_none e h)]
  exact e
theorem TupS.same {H H' : Hp} (h : Same H H') : TupS H H' := fun a xs e => h a _ e
theorem TupS.mem {H H' : Hp} {p : Addr} {L : List (Addr × HO)} {xs : List V} (M : Mem H [p] L H') (h : H p = some (.lst xs)) : TupS H H' := fun a ys e =>
  M.fr a _ e (by
    intro z
    have e2 : a = p := by simpa using z
    rw [e2, h] at e
    cases e)
/-! ### lists of pairs of texts -/
abbrev Pr := Str × Str
def PrsAt (H : Hp) : List Addr → List Pr → Prop := Paired fun a p => H a = some (.tup [.str p.1, .str p.2])
theorem PrsAt.ts {H H' : Hp} (t : TupS H H') {as : List Addr} {ps : List Pr} (h : PrsAt H as ps) : PrsAt H' as ps := Paired.mapP h fun a p e => t a _ e
theorem PrsAt.get : ∀ {as : List Addr} {ps : List Pr} {H : Hp} {i : Nat} {a : Addr}, PrsAt H as ps → as[i]? = some a → ∃ p, ps[i]? = some p ∧ H a = some (.tup [.str p.1, .str p.2])
  | _, _, _, _, _, .nil, e => by simp at e
  | _, _, _, 0, _, .cons h _, e => by
    simp at e
    subst e
    exact ⟨_, rfl, h⟩
  | _, _, _, i + 1, _, .cons _ t, e => by
    obtain ⟨p, e1, e2⟩ := PrsAt.get t (i := i) (by simpa using e)
    exact ⟨p, by simpa using e1, e2⟩
theorem PrsAt.append : ∀ {as bs : List Addr} {ps qs : List Pr} {H : Hp}, PrsAt H as ps → PrsAt H bs qs → PrsAt H (as ++ bs) (ps ++ qs)
  | _, _, _, _, _, .nil, s => s
  | _, _, _, _, _, .cons h t, s => .cons h (PrsAt.append t s)
theorem PrsAt.take : ∀ {as : List Addr} {ps : List Pr} {H : Hp} (n : Nat), PrsAt H as ps → PrsAt H (as.take n) (ps.take n)
  | _, _, _, 0, _ => .nil
  | _, _, _, _ + 1, .nil => .nil
  | _, _, _, n + 1, .cons h t => .cons h (PrsAt.take n t)
theorem PrsAt.drop : ∀ {as : List Addr} {ps : List Pr} {H : Hp} (n : Nat), PrsAt H as ps → PrsAt H (as.drop n) (ps.drop n)
  | _, _, _, 0, h => h
  | _, _, _, _ + 1, .nil => .nil
  | _, _, _, n + 1, .cons _ t => PrsAt.drop n t
theorem PrsAt.length {as : List Addr} {ps : List Pr} {H : Hp} (h : PrsAt H as ps) : as.length = ps.length := Paired.length h
/-- as data -/
abbrev dStr (xs : List Str) : PyData := .list (xs.map .str)
abbrev dPr (p : Pr) : PyData := .tuple [.str p.1, .str p.2]
end Ds
end F1
section F2
namespace Ds
open PySem PySem.Spec PyProof.Rows L2
/-! ### t[::s] of a tuple of two, s 1 or -1 -/
section
variable {prog : Program} {w : World} {A : Around} {E : Value → Shared → Prop} {s : Shared}
theorem applied_step {sl : Addr} {vs : Value} {k : Int} {Q : Int × Int × Nat → Shared → Prop} (hs : s.heap.IsSliceOf sl .none .none vs) (ps : PySem.IsPart vs (some k)) (hk : k = 1 ∨ k = -1)
    (h : Q (if k = 1 then (0, 1, 2) else (1, -1, 2)) s) : wpAny (model prog w) A (Builtin.Slice.sliceApplied (.ref sl) (pure (2 : Int))) Q E s := by
  obtain ⟨ob, e1, e2, e3⟩ := id hs
  unfold Builtin.Slice.sliceApplied Builtin.Slice.sliceFields
  refine wpAny_bind (wpAny_bind (wpAny_field e1 e3 (x := .none) rfl ?_))
  refine wpAny_bind (wpAny_field e1 e3 (x := .none) rfl (wpAny_bind (wpAny_field e1 e3 (x := vs) rfl (wpAny_pure ?_))))
  dsimp only
  refine wpAny_bind (HT.slicePart_ ps ?_)
  rcases hk with rfl | rfl
  · show wpAny _ _ (if ((1 : Int) == 0) = true then _ else _) _ _ s
    rw [if_neg (by decide)]
    refine wpAny_bind (HT.slicePart_ .none (wpAny_bind (HT.slicePart_ .none (wpAny_bind (wpAny_pure ?_)))))
    exact wpAny_pure h
  · show wpAny _ _ (if ((-1 : Int) == 0) = true then _ else _) _ _ s
    rw [if_neg (by decide)]
    refine wpAny_bind (HT.slicePart_ .none (wpAny_bind (HT.slicePart_ .none (wpAny_bind (wpAny_pure ?_)))))
    exact wpAny_pure h
theorem item_step {t sl : Addr} {x y : Value} {vs : Value} {k : Int} {Q : Value → Shared → Prop} (ht : IsTup s.heap t #[x, y]) (hs : s.heap.IsSliceOf sl .none .none vs) (ps : PySem.IsPart vs (some k))
    (h : (k = 1 ∧ Q (.ref t) s) ∨ (k = -1 ∧ Q (.ref s.heap.objs.size) { s with heap := s.heap.push { cls := .type "tuple", data := .seq #[y, x] } })) : wpAny (model prog w) A (getItem (.ref t) (.ref sl)) Q E s := by
  obtain ⟨ob, e1, e2, e3⟩ := id hs
  have hTs : s.TypeIs (.ref sl) "slice" := ⟨ob, e1, e2⟩
  unfold getItem
  try with_reducible refine wpAny_holding ?_
  first | refine wpAny_bind (wpAny_pure ?_) | skip
  refine wpAny_bind (wpAny_sequenceKey ht.typeIs (by decide) ?_)
  refine wpAny_bind (wpAny_callSpecial?_slot (name := Str.ofString "__getitem__") ht.typeIs PyProof.Rows.slot_tuple_getitem
      (wpAny_call_entry PyProof.Rows.slot_tuple_getitem ht.typeIs entry_tuple_getitem ?_ (args_tuple_getitem _ _)) )
  show wpAny _ _ (Builtin.Tuple.tupleItemsOf (.ref t) >>= _)  _ _ s
  refine wpAny_bind (tupleItemsOf_ ht (wpAny_bind (wpAny_typeOf hTs ?_)))
  rw [if_pos (by decide)]
  refine wpAny_bind (applied_step hs ps (by rcases h with h | h <;> omega) ?_)
  rcases h with ⟨rfl, h⟩ | ⟨rfl, h⟩
  · have hex : s.TypeIs (.ref t) "tuple" := ht.typeIs
    show wpAny _ _ (Builtin.Tuple.tupleIsExact (.ref t) >>= _) _ _ s
    refine wpAny_bind ?_
    show wpAny _ _ (typeOf (.ref t) >>= fun T => pure (T == .type "tuple")) _ _ s
    refine wpAny_bind (wpAny_typeOf hex (wpAny_pure ?_))
    rw [if_pos (by decide)]
    exact wpAny_bind (wpAny_rule (wpAny_pure ⟨_, rfl, wpAny_pure h⟩))
  · show wpAny _ _ (Builtin.Tuple.tupleExact #[y, x] >>= _) _ _ s
    exact wpAny_bind (m := Builtin.Tuple.tupleExact _) (wpAny_newObj_type (wpAny_pure ⟨_, rfl, wpAny_pure h⟩) (by show 2 ≤ sizeLine; decide))
end
/-- t[::s] -/
def tStep2 (K : PySem.W.Frag) (te ts : TE) : TE := fun σ H Q => te σ H fun x H1 => ts σ H1 fun y H2 => ∃ i : Int, y = .int i ∧ ∃ (a : Addr) (u v : V), x = .ref a ∧ SqT K H2 a [u, v] ∧
  ((some i = some 1 ∧ Q (.ref a) H2) ∨ (some i = some (-1) ∧ ∀ p, H2 p = none → Q (.ref p) (upd H2 p (.tup [v, u]))))
theorem pe_sliceStep {X : Cx} {e st : Expr} {te ts : TE} {p3 pos : Pos} (he : PE X e te) (hs : PE X st ts) : PE X (.Subscript e (.Slice none none (some st) p3) pos) (tStep2 X.K te ts) := by
  refine ⟨fun pins s σ H Q I h => Subscript_ (thn (he.run pins s σ H _ I h) fun v s1 ⟨x, H1, I1, r1, q1⟩ => ?_)⟩
  refine wpAny_Slice (thn (po_none.run pins s1 σ H1 (fun o H2 => o = none ∧ H2 = H1) I1 ⟨rfl, rfl⟩) fun vl s2 ⟨l, H2, I2, pl, el, e2⟩ => ?_)
  subst el e2
  refine thn (po_none.run pins s2 σ H2 (fun o H3 => o = none ∧ H3 = H2) I2 ⟨rfl, rfl⟩) fun vu s3 ⟨u, H3, I3, pu, eu, e3⟩ => ?_
  subst eu e3
  have hst : PO X (some st) (tPart ts) := po_some hs
  refine thn (hst.run pins s3 σ H3 (fun o H4 => ∃ (a : Addr) (u v : V), x = .ref a ∧ SqT X.K H4 a [u, v] ∧ ((o = some 1 ∧ Q (.ref a) H4) ∨ (o = some (-1) ∧ ∀ p, H4 p = none → Q (.ref p) (upd H4 p (.tup [v, u]))))) I3 q1) fun vs s4 ⟨o, H4, I4, ps, a, y1, y2, ex, hx, q⟩ => ?_
  subst ex
  cases r1
  have I5 : Inv X pins σ H4 { s4 with heap := s4.heap.push { cls := .type "slice", data := .fields #[vl, vu, vs] } } := I4.kept (t' := s4.toks) fun b ob z => Heap.get?_push_of_some _ z
  obtain ⟨its, r, ht, hz⟩ := I5.tuple hx
  obtain ⟨w1, w2, rfl, rw1, rw2⟩ : ∃ w1 w2, its = [w1, w2] ∧ RelV y1 w1 ∧ RelV y2 w2 := by
    cases r with
    | cons p1 p2 => cases p2 with
      | cons p3 p4 =>
        cases p4
        exact ⟨_, _, rfl, p1, p3⟩
  cases pl
  cases pu
  show wpAny (model X.prog X.w) X.A (subscriptTail e (.Slice none none (some st) p3) (.ref a) (.ref s4.heap.objs.size)) (EP X pins σ Q) X.xe { s4 with heap := s4.heap.push { cls := .type "slice", data := .fields #[.none, .none, vs] } }
  refine tail_any (ops := [.ref a, .ref s4.heap.objs.size]) ht.typeIs (PyProof.Rows.slot_tuple_getitem.lookup) ?_ (by with_unfolding_all rfl)
  rcases q with ⟨ek, q⟩ | ⟨ek, q⟩
  · subst ek
    exact item_step ht (Heap.IsSliceOf.new _ .none .none vs) ps (.inl ⟨rfl, .ref a, H4, I5, rfl, q⟩)
  · subst ek
    refine item_step ht (Heap.IsSliceOf.new _ .none .none vs) ps (.inr ⟨rfl, .ref _, _, I5.laid (t' := s4.toks) (o := .tup [y2, y1]) (fun b ob z => Heap.get?_push_of_some _ z) (Nat.le_refl _) ?_, rfl, q _ (I5.hok.fresh (Nat.le_refl _))⟩)
    exact ⟨by show 2 ≤ sizeLine; decide, [w2, w1], .cons rw2 (.cons rw1 .nil), IsTup.new _ _⟩
/-! ### the rules with the written part said -/
section
variable {X : Cx} {K : PySem.W.Frag} {e o : Expr} {es : List Expr} {te to : TE} {t : TA} {pos p pos' apos cpos : Pos} {f : Str} {tg : Expr}
theorem pe_fldK (he : PE X e te) (hb : attributeBase e f X.env (eval e X.env) = eval e X.env := by rfl) (hK : X.K = K := by rfl) : PE X (.Attribute e f pos) (tFld K te f) := hK ▸ pe_fld he hb
theorem ps_fldK {value : Expr} {tv : TE} (ha : PE X o to) (hv : PE X value tv) (hK : X.K = K := by rfl) (hs : swapsWith value (some (.Attribute o f pos')) pos.line X.env = pure false := by rfl) : PS X (.Assign [.Attribute o f pos'] value pos) (sFld K to tv f) := hK ▸ ps_fld ha hv hs
theorem pg_tupK {k : Nat} {tt : TGs} {n : Nat} (h : PGs X es tt) (hc : X.calm = true := by rfl) (hK : X.K = K := by rfl) (hn : (assignEach es X.env).length = n := by rfl) (hst : (assignEach es X.env).findIdx? (·.1) = none := by rfl) :
    PG X (.Tuple es k pos) (gTup K n tt) := hK ▸ pg_tup hc h hn hst
theorem pi_listK (h : PE X e te) (hK : X.K = K := by rfl) : PI X tg e (iList K te) := hK ▸ pi_list h
theorem pi_tupK (h : PE X e te) (hK : X.K = K := by rfl) : PI X tg e (iTup K te) := hK ▸ pi_tup h
theorem pi_enumK {elts : List Expr} {kk : Nat} {tpos : Pos} (hg : Gl X "enumerate") (hm : X.mg "enumerate" = none) (ha : PA X [e] t) (hK : X.K = K := by rfl) (hs : starEach [e] X.env = [(false, eval e X.env)] := by rfl) :
    PI X (.Tuple elts kk tpos) (.Call (.Name "enumerate" p) [e] [] pos) (iEnum K t) := hK ▸ pi_enum hg hm ha hs
theorem pe_sliceStepK {st : Expr} {ts : TE} {p3 : Pos} (he : PE X e te) (hs : PE X st ts) (hK : X.K = K := by rfl) : PE X (.Subscript e (.Slice none none (some st) p3) pos) (tStep2 K te ts) := hK ▸ pe_sliceStep he hs
theorem pe_bm0K {name : Str} {T id : String} {r : V → List V → Hp → VK → Prop} (pa : PlainAttrs T) (slot : Slot T name id) (hty : typeOf (.builtin id) = pure (.type "method_descriptor")) (hm : MtR X id r) (ho : PE X o to) (hK : X.K = K := by rfl)
    (hbase : attributeBase o name X.env (eval o X.env) = eval o X.env := by rfl) (hline : (apos.endLine == cpos.line) = true := by rfl) : PE X (.Call (.Attribute o name apos) [] [] cpos) (tBM0 K T r to) := hK ▸ pe_bm0 pa slot hty hm ho hbase hline
theorem pe_bmK {name : Str} {T id : String} {r : V → List V → Hp → VK → Prop} (pa : PlainAttrs T) (slot : Slot T name id) (hty : typeOf (.builtin id) = pure (.type "method_descriptor")) (hm : MtR X id r) (ho : PE X o to) (ha : PA X (e :: es) t) (hK : X.K = K := by rfl)
    (hbase : attributeBase o name X.env (eval o X.env) = eval o X.env := by rfl)
    (hfew : ((backTo cpos (starEach (e :: es) X.env)).all (fun x => !x.1) && (backToKw cpos (keywordEach [] X.env)).all (fun x => x.1.isSome) && decide ((e :: es).length + ([] : List Keyword).length + (if ([] : List Keyword).isEmpty then 0 else 1) < 30)) = true := by rfl)
    (hline : (apos.endLine == cpos.line) = true := by rfl) (hs : starEach (e :: es) X.env = (false, eval e X.env) :: starEach es X.env := by rfl) (hplain : (backTo cpos (starEach es X.env)).any (·.1) = false := by rfl) :
    PE X (.Call (.Attribute o name apos) (e :: es) [] cpos) (tBM K T r to t) := hK ▸ pe_bm pa slot hty hm ho ha hbase hfew hline hs hplain
theorem _root_.L2.Room.units5 {k : Nat} {A : Around} (r : Room k A) : A.units + 65 < cLine := by have := r.un; omega
end
end Ds
end F2
section F3
namespace Ds
open PySem PySem.Spec PyProof.Rows L2
/-! ### the letters -/
def letter (c : Nat) : Str := ⟨#[c]⟩
def abc : List Str := ("abcdefghijklmnopqrstuvwxyz" : Str).cps.toList.map letter
theorem abc_eq : abc = (List.range 26).map (fun i => letter (97 + i)) := by decide +kernel
theorem letter_inj {a b : Nat} (h : letter a = letter b) : a = b := by
  have e : (letter a).cps = (letter b).cps := congrArg Str.cps h
  have e2 : #[a] = #[b] := e
  simpa using e2
theorem abc_nodup : abc.Nodup := by
  rw [abc_eq, List.nodup_iff_pairwise_ne, List.pairwise_map]
  refine (List.nodup_range (n := 26)).imp ?_
  intro a b h e
  exact h (by have := letter_inj e; omega)
theorem abc_len : abc.length = 26 := by rw [abc_eq]; simp
def IsLet (x : Str) : Prop := ∃ c, 97 ≤ c ∧ c ≤ 122 ∧ x = letter c
theorem abc_let {x : Str} (h : x ∈ abc) : IsLet x := by
  rw [abc_eq, List.mem_map] at h
  obtain ⟨i, hi, rfl⟩ := h
  have := List.mem_range.mp hi
  exact ⟨97 + i, by omega, by omega, rfl⟩
/-! ### what a drawn chart is -/
structure ChartOk (W : Nat) (ns : List Str) (ls vs : List Pr) : Prop where
  lo : 1 ≤ ns.length
  hi : ns.length ≤ W
  lets : ∀ x ∈ ns, IsLet x
  nd : ns.Nodup
  ord : ∃ order : List Str, order.Perm ns ∧ ∀ p ∈ ls, ∃ i j : Nat, i < j ∧ order[i]? = some p.1 ∧ order[j]? = some p.2
  lnd : ls.Nodup
  vin : ∀ p ∈ vs, p.1 ∈ ns ∧ p.2 ∈ ns ∧ p.1 ≠ p.2
  vnd : vs.Pairwise fun p q => p ≠ q ∧ p ≠ (q.2, q.1)
  vlen : vs.length ≤ 5
/-! ### the pairs of an order -/
def tiesAt (order : List Str) (j : Nat) : List Pr := (List.range j).map fun e => (order.getD e Str.empty, order.getD j Str.empty)
def ties (order : List Str) : Nat → List Pr
  | 0 => []
  | n + 1 => ties order n ++ tiesAt order n
theorem mem_ties {order : List Str} {p : Pr} : ∀ {n : Nat}, p ∈ ties order n ↔ ∃ i j : Nat, i < j ∧ j < n ∧ p = (order.getD i Str.empty, order.getD j Str.empty)
  | 0 => by simp [ties]
  | n + 1 => by
    rw [ties, List.mem_append, mem_ties (n := n)]
    constructor
    · rintro (⟨i, j, h1, h2, e⟩ | h)
      · exact ⟨i, j, h1, by omega, e⟩
      · obtain ⟨i, hi, rfl⟩ := List.mem_map.mp h
        exact ⟨i, n, List.mem_range.mp hi, by omega, rfl⟩
    · rintro ⟨i, j, h1, h2, e⟩
      by_cases hj : j < n
      · exact .inl ⟨i, j, h1, hj, e⟩
      · have ej : j = n := by omega
        subst ej
        exact .inr (List.mem_map.mpr ⟨i, List.mem_range.mpr h1, e.symm⟩)
theorem ties_len (order : List Str) : ∀ n : Nat, (ties order n).length ≤ n * n
  | 0 => by simp [ties]
  | n + 1 => by
    have := ties_len order n
    rw [ties, List.length_append]
    have e : (tiesAt order n).length = n := by simp [tiesAt]
    rw [e]
    have e2 : (n + 1) * (n + 1) = n * n + 2 * n + 1 := by rw [Nat.add_mul, Nat.mul_add]; omega
    omega
theorem getD_some {order : List Str} {i : Nat} (h : i < order.length) : order[i]? = some (order.getD i Str.empty) := by
  rw [List.getD_eq_getElem?_getD, List.getElem?_eq_getElem h]; rfl
theorem getD_inj {order : List Str} (nd : order.Nodup) {i j : Nat} (hi : i < order.length) (hj : j < order.length) (e : order.getD i Str.empty = order.getD j Str.empty) : i = j := by
  have h1 := getD_some hi
  have h2 := getD_some hj
  rw [e] at h1
  obtain ⟨a1, e1⟩ := List.getElem?_eq_some_iff.mp h1
  obtain ⟨a2, e2⟩ := List.getElem?_eq_some_iff.mp h2
  exact (List.getElem_inj nd).mp (e1.trans e2.symm)
theorem ties_nodup {order : List Str} (nd : order.Nodup) : ∀ {n : Nat}, n ≤ order.length → (ties order n).Nodup
  | 0, _ => List.nodup_nil
  | n + 1, h => by
    rw [ties, List.nodup_append]
    refine ⟨ties_nodup nd (by omega), ?_, ?_⟩
    · unfold tiesAt
      rw [List.nodup_iff_pairwise_ne, List.pairwise_map]
      refine List.Pairwise.imp_of_mem ?_ (List.nodup_range (n := n))
      intro a b ha hb hab e
      have e1 : order.getD a Str.empty = order.getD b Str.empty := congrArg Prod.fst e
      exact hab (getD_inj nd (by have := List.mem_range.mp ha; omega) (by have := List.mem_range.mp hb; omega) e1)
    · intro a ha b hb e
      subst e
      obtain ⟨i, j, h1, h2, e1⟩ := mem_ties.mp ha
      obtain ⟨k, hk, e2⟩ := List.mem_map.mp hb
      rw [e1] at e2
      have e3 : order.getD n Str.empty = order.getD j Str.empty := congrArg Prod.snd e2
      have := getD_inj nd (by omega) (by omega) e3
      omega
theorem ties_swap {order : List Str} (nd : order.Nodup) {n : Nat} (h : n ≤ order.length) {p : Pr} (hp : p ∈ ties order n) : (p.2, p.1) ∉ ties order n := by
  intro hq
  obtain ⟨i, j, h1, h2, e1⟩ := mem_ties.mp hp
  obtain ⟨k, l, h3, h4, e2⟩ := mem_ties.mp hq
  subst e1
  have a1 : order.getD j Str.empty = order.getD k Str.empty := congrArg Prod.fst e2
  have a2 : order.getD i Str.empty = order.getD l Str.empty := congrArg Prod.snd e2
  have := getD_inj nd (by omega) (by omega) a1
  have := getD_inj nd (by omega) (by omega) a2
  omega
theorem ties_ne {order : List Str} (nd : order.Nodup) {n : Nat} (h : n ≤ order.length) {p : Pr} (hp : p ∈ ties order n) : p.1 ∈ order ∧ p.2 ∈ order ∧ p.1 ≠ p.2 := by
  obtain ⟨i, j, h1, h2, rfl⟩ := mem_ties.mp hp
  refine ⟨List.mem_of_getElem? (getD_some (by omega)), List.mem_of_getElem? (getD_some (by omega)), fun e => ?_⟩
  have := getD_inj nd (by omega) (by omega) e
  omega
theorem eraseIdx_mapS {α β : Type} (f : α → β) : ∀ (l : List α) (i : Nat), (l.map f).eraseIdx i = (l.eraseIdx i).map f
  | [], _ => rfl
  | _ :: _, 0 => rfl
  | x :: l, i + 1 => by
    rw [List.map_cons, List.eraseIdx_cons_succ, List.eraseIdx_cons_succ, List.map_cons, eraseIdx_mapS f l i]
theorem cons_erase {α : Type} : ∀ {l : List α} {i : Nat} {x : α}, l[i]? = some x → (x :: l.eraseIdx i).Perm l
  | [], _, _, h => by simp at h
  | y :: l, 0, x, h => by
    have e : y = x := by simpa using h
    subst e
    exact List.Perm.refl _
  | y :: l, i + 1, x, h => by
    rw [List.eraseIdx_cons_succ]
    exact (List.Perm.swap y x _).trans ((cons_erase (l := l) (i := i) (by simpa using h)).cons y)
theorem map_get {α β : Type} {f : α → β} {l : List α} {i : Nat} {y : β} (h : (l.map f)[i]? = some y) : ∃ z, l[i]? = some z ∧ y = f z := by
  rw [List.getElem?_map] at h
  cases q : l[i]? with
  | none => rw [q] at h; cases h
  | some z => rw [q] at h; exact ⟨z, rfl, (Option.some.inj h).symm⟩
/-! ### what lies in the lists behind k ties -/
structure Laid (T : List Pr) (k : Nat) (ls vs : List Pr) : Prop where
  lsub : ∀ p ∈ ls, p ∈ T.take k
  lnd : ls.Nodup
  vsub : ∀ p ∈ vs, p ∈ T.take k ∨ (p.2, p.1) ∈ T.take k
  vnd : vs.Pairwise fun p q => p ≠ q ∧ p ≠ (q.2, q.1)
  vlen : vs.length ≤ 5
def ins {α : Type} (xs : List α) (i : Nat) (y : α) : List α := xs.take i ++ [y] ++ xs.drop i
theorem ins_perm {α : Type} (xs : List α) (i : Nat) (y : α) : (ins xs i y).Perm (y :: xs) := by
  unfold ins
  rw [List.append_assoc]
  refine (List.perm_append_comm_assoc _ _ _).trans ?_
  rw [List.take_append_drop]
  exact List.Perm.refl _
theorem ins_len {α : Type} (xs : List α) (i : Nat) (y : α) : (ins xs i y).length = xs.length + 1 := (ins_perm xs i y).length_eq
theorem take_succ_of {α : Type} {T : List α} {k : Nat} {t : α} (h : T[k]? = some t) : T.take (k + 1) = T.take k ++ [t] := by
  rw [List.take_succ, h]; rfl
theorem not_take {T : List Pr} (nd : T.Nodup) {k : Nat} {t : Pr} (h : T[k]? = some t) : t ∉ T.take k := by
  intro hm
  obtain ⟨j, hj⟩ := List.mem_iff_getElem?.mp hm
  rw [List.getElem?_take] at hj
  by_cases hk : j < k
  · rw [if_pos hk] at hj
    obtain ⟨a1, e1⟩ := List.getElem?_eq_some_iff.mp hj
    obtain ⟨a2, e2⟩ := List.getElem?_eq_some_iff.mp h
    have := (List.getElem_inj nd).mp (e1.trans e2.symm)
    omega
  · rw [if_neg hk] at hj
    cases hj
theorem Laid.skip {T : List Pr} {k : Nat} {ls vs : List Pr} (L : Laid T k ls vs) : Laid T (k + 1) ls vs := by
  have m : ∀ {p : Pr}, p ∈ T.take k → p ∈ T.take (k + 1) := fun {p} h => by
    rw [List.take_succ]
    exact List.mem_append_left _ h
  exact ⟨fun p h => m (L.lsub p h), L.lnd, fun p h => (L.vsub p h).imp m m, L.vnd, L.vlen⟩
theorem Laid.line {T : List Pr} (nd : T.Nodup) {k : Nat} {t : Pr} (h : T[k]? = some t) {ls vs : List Pr} (L : Laid T k ls vs) (i : Nat) : (∀ p ∈ ins ls i t, p ∈ T.take (k + 1)) ∧ (ins ls i t).Nodup := by
  refine ⟨fun p hp => ?_, ?_⟩
  · rw [take_succ_of h]
    rcases List.mem_cons.mp ((ins_perm ls i t).mem_iff.mp hp) with rfl | hp
    · simp
    · exact List.mem_append_left _ (L.lsub p hp)
  · rw [(ins_perm ls i t).nodup_iff]
    exact List.nodup_cons.mpr ⟨fun hm => not_take nd h (L.lsub t hm), L.lnd⟩
theorem vsym {p q : Pr} (h : p ≠ q ∧ p ≠ (q.2, q.1)) : q ≠ p ∧ q ≠ (p.2, p.1) := by
  refine ⟨fun e => h.1 e.symm, fun e => h.2 ?_⟩
  rw [e]
theorem Laid.veil {T : List Pr} (nd : T.Nodup) (sw : ∀ p ∈ T, (p.2, p.1) ∉ T) {k : Nat} {t v : Pr} (h : T[k]? = some t) (hv : v = t ∨ v = (t.2, t.1)) {ls vs : List Pr} (L : Laid T k ls vs) (h5 : vs.length < 5) (i : Nat) :
    (∀ p ∈ ins vs i v, p ∈ T.take (k + 1) ∨ (p.2, p.1) ∈ T.take (k + 1)) ∧ (ins vs i v).Pairwise (fun p q => p ≠ q ∧ p ≠ (q.2, q.1)) ∧ (ins vs i v).length ≤ 5 := by
  have hT : t ∈ T := List.mem_of_getElem? h
  have nt : t ∉ T.take k := not_take nd h
  have ns : (t.2, t.1) ∉ T.take k := fun z => sw t hT (List.mem_of_mem_take z)
  refine ⟨fun p hp => ?_, ?_, by rw [ins_len]; omega⟩
  · rw [take_succ_of h]
    rcases List.mem_cons.mp ((ins_perm vs i v).mem_iff.mp hp) with rfl | hp
    · rcases hv with rfl | rfl
      · exact .inl (by simp)
      · exact .inr (by simp)
    · exact (L.vsub p hp).imp (fun z => List.mem_append_left _ z) fun z => List.mem_append_left _ z
  · rw [(ins_perm vs i v).pairwise_iff vsym]
    refine List.pairwise_cons.mpr ⟨fun q hq => ?_, L.vnd⟩
    have hq' := L.vsub q hq
    rcases hv with rfl | rfl
    · refine ⟨fun e => ?_, fun e => ?_⟩
      · subst e
        exact hq'.elim nt ns
      · rw [e] at nt ns
        exact hq'.elim (fun z => ns z) fun z => nt z
    · refine ⟨fun e => ?_, fun e => ?_⟩
      · rw [← e] at hq'
        exact hq'.elim ns nt
      · have e1 : t = q := by
          have a1 : t.2 = q.2 := congrArg Prod.fst e
          have a2 : t.1 = q.1 := congrArg Prod.snd e
          exact Prod.ext a2 a1
        rw [e1] at nt ns
        exact hq'.elim nt ns
theorem Laid.ok {ns order ls vs : _} {W : Nat} (h1 : 1 ≤ ns.length) (h2 : ns.length ≤ W) (hl : ∀ x ∈ ns, IsLet x) (nd : ns.Nodup) (pm : order.Perm ns) {k : Nat} (L : Laid (ties order order.length) k ls vs) : ChartOk W ns ls vs := by
  have nd' : order.Nodup := pm.nodup_iff.mpr nd
  refine ⟨h1, h2, hl, nd, ⟨order, pm, fun p hp => ?_⟩, L.lnd, fun p hp => ?_, L.vnd, L.vlen⟩
  · obtain ⟨i, j, a1, a2, rfl⟩ := mem_ties.mp (List.mem_of_mem_take (L.lsub p hp))
    exact ⟨i, j, a1, getD_some (by omega), getD_some a2⟩
  · rcases L.vsub p hp with z | z
    · obtain ⟨a, b, c⟩ := ties_ne nd' (Nat.le_refl _) (List.mem_of_mem_take z)
      exact ⟨pm.mem_iff.mp a, pm.mem_iff.mp b, c⟩
    · obtain ⟨a, b, c⟩ := ties_ne nd' (Nat.le_refl _) (List.mem_of_mem_take z)
      exact ⟨pm.mem_iff.mp b, pm.mem_iff.mp a, fun e => c e.symm⟩
end Ds
end F3
section F4
namespace Ds
open PySem PySem.Spec PyProof.Rows L2
section
variable {K : PySem.W.Frag} {σ : L2.St} {H : Hp} {Q : VK} {D : Ends} {v x y : V} {p a : Addr} {xs ys : List V} {d : Int} {QS : L2.St → Hp → Prop}
theorem d_lenS (hS : SqL K H p xs) (h : Q (.int xs.length) H) : Evl.rLenS K [V.ref p] H Q := ⟨p, xs, rfl, .inl hS, h⟩
theorem d_rng1 {ta : TA} {R : It → Hp → Prop} (h : ta σ H fun vs H1 => ∃ j : Int, vs = [.int j] ∧ -(2 ^ 62) ≤ j ∧ j < 2 ^ 62 ∧ R (Itr 0 j.toNat) H1) : iRng1 ta σ H R := h
theorem d_for {wi : TI} {g : TG} {tb : TS} (h : wi σ H fun J H1 => ∃ W : Nat → Nat → L2.St → Hp → Prop, (∃ m, W 0 m σ H1) ∧ ∀ i m σ H, W i m σ H → ((J.stop i H ∧ D.nx σ H) ∨
    (J.go i H ∧ ∃ N : L2.St → Hp → Prop, (∀ σ' H', N σ' H' → ∃ m', m' < m ∧ W (i + 1) m' σ' H') ∧ ∀ x H', J.yld i H x H' → g x σ H' fun σ2 H2 => tb { D with nx := N, ct := N, bk := D.nx } σ2 H2))) : tFor wi g tb D σ H := h
theorem ixN_nat {n : Nat} {d : Int} (h0 : 0 ≤ d) (h1 : d < n) : ixN n d = some d.toNat := by
  unfold ixN
  rw [if_pos h0, if_pos h1]
theorem flat_strs (xs : List Str) : (xs.map V.str).all flatV = true := by
  induction xs with
  | nil => rfl
  | cons y ys ih => rw [List.map_cons, List.all_cons, ih]; rfl
end
end Ds
end F4
section F5
namespace Ds
open PySem PySem.Spec PyProof.Rows L2
/-- a text of code points -/
abbrev SOk (x : Str) : Prop := PyData.strOk x = true
theorem depth_strs : ∀ xs : List Str, PyData.depthAll (xs.map PyData.str) ≤ 1
  | [] => by simp [PyData.depthAll]
  | x :: xs => by
    have := depth_strs xs
    rw [List.map_cons]
    simp only [PyData.depthAll, PyData.depth]
    omega
theorem depth_prs : ∀ xs : List Pr, PyData.depthAll (xs.map dPr) ≤ 3
  | [] => by simp [PyData.depthAll]
  | x :: xs => by
    have := depth_prs xs
    rw [List.map_cons]
    simp only [PyData.depthAll, PyData.depth]
    omega
theorem eqvAll_strs : ∀ xs ys : List Str, PyData.eqvAll (xs.map PyData.str) (ys.map PyData.str) = decide (xs = ys)
  | [], [] => by simp [PyData.eqvAll]
  | [], y :: ys => by simp [PyData.eqvAll]
  | x :: xs, [] => by simp [PyData.eqvAll]
  | x :: xs, y :: ys => by
    rw [List.map_cons, List.map_cons, PyData.eqvAll, eqvAll_strs xs ys]
    by_cases h : x = y
    · subst h
      simp [PyData.eqv]
    · simp [PyData.eqv, h]
theorem eqv_strs (xs ys : List Str) : PyData.eqv (dStr xs) (dStr ys) = decide (xs = ys) := by
  rw [PyData.eqv, eqvAll_strs]
theorem eqv_pr (p q : Pr) : PyData.eqv (dPr p) (dPr q) = decide (p = q) := by
  obtain ⟨a, b⟩ := p
  obtain ⟨c, d⟩ := q
  simp only [PyData.eqv, PyData.eqvAll, Bool.and_true, Prod.mk.injEq, Bool.decide_and]
  have e : ∀ x y : Str, (x == y) = decide (x = y) := fun x y => by
    by_cases h : x = y
    · subst h
      simp
    · simp [h]
  rw [e, e]
theorem any_prs (p : Pr) (ps : List Pr) : ((ps.map dPr).any fun z => PyData.eqv z (dPr p)) = decide (p ∈ ps) := by
  induction ps with
  | nil => rfl
  | cons q ps ih =>
    rw [List.map_cons, List.any_cons, ih, eqv_pr]
    by_cases h : p = q
    · subst h
      simp
    · have h2 : q ≠ p := fun z => h z.symm
      simp [h, h2]
end Ds
end F5
section F6
namespace Ds
open PySem PySem.Spec PyProof.Rows L2 He
/-! ### the package's error classes: all of them have the first one's __init__ -/
def errI (K : PySem.W.Frag) : Addr := ma K (ga K "DeedError") "__init__"
structure ErrC (K : PySem.W.Frag) (mg : Str → Option Value) (x : Str) : Prop where
  cl : OexC K (ga K x)
  ini : PySem.W.findIn K (.ref (ga K x)) "__init__" = some (some (.ref (errI K)))
  noV : PySem.W.findIn K (.ref (ga K x)) "value" = some none
  gl : mg x = some (.ref (ga K x))
  xf : XfC K (ga K x)
/-- self.value = value of an exception that is being made -/
def spErrI (K : PySem.W.Frag) : Sp := fun vs H Q _ => ∃ (a C : Addr) (v : V), vs = [.ref a, v] ∧ OexC K C ∧ PySem.W.findIn K (.ref C) "value" = some none ∧ H a = some (exo a C none) ∧
  ∀ dx, H dx = none → dx ≠ a → Q .non (upd (upd H dx (exd dx [("value", v)])) a (exo a C (some dx)))
structure ErrI (P : Program) (w : World) (K : PySem.W.Frag) (mg : Str → Option Value) (base : Heap) : Prop where
  ok : ∃ fd, FnOk P w K mg base CX0 1 (errI K) fd ["self", "value"] (spErrI K) ∧ Binds K fd ["self", "value"] []
  ty : PySem.W.typeIn K (.ref (errI K)) = some (.type "function")
section
variable {X : Cx} {x : Str} {e : Expr} {ta : TA} {p pos : Pos} {k : Nat}
theorem pmk_x (I : ErrI X.prog X.w X.K X.mg X.base) (T : ErrC X.K X.mg x) (hr : Room k X.A) (hg : Gl X x) (ha : PA X [e] ta) (hk : 2 ≤ k := by decide) (hdb : (x == ("__debug__" : Str)) = false := by decide)
    (he : starEach [e] X.env = (false, eval e X.env) :: starEach [] X.env := by rfl) (hpl : (backTo pos (starEach [] X.env)).any (·.1) = false := by rfl) :
    PMk X (.Call (.Name x p) [e] [] pos) (tMkO (ga X.K x) (spErrI X.K) [] ta) := by
  obtain ⟨fd, F, b⟩ := I.ok
  exact pmk_oex T.cl T.ini I.ty F (hr.mono hk) b .nil pass0 hg T.gl ha hdb he hpl
end
section
variable {K : PySem.W.Frag} {mg : Str → Option Value} {σ : L2.St} {H : Hp} {Q : XK} {v : V} {x : Str} {D : Ends}
theorem heap_made {a dx C : Addr} {fs : List (Str × V)} (ha : H a = none) (hd : H dx = none) (hn : dx ≠ a) : upd (del (upd (upd (upd H a (exo a C none)) dx (exd dx fs)) a (exo a C (some dx))) a) dx (.xd fs) = upd H dx (.xd fs) := by
  funext b
  by_cases hb : b = dx
  · subst hb
    rw [upd_same, upd_same]
  · rw [upd_ne hb, upd_ne hb]
    by_cases hc : b = a
    · subst hc
      rw [del_same, ha]
    · rw [del_ne hc, upd_ne hc, upd_ne hb, upd_ne hc]
/-- what is left of C(v), to be raised -/
theorem d_made (T : ErrC K mg x) (h : ∀ d, H d = none → Q (.ref (ga K x)) (some d) (upd H d (.xd [("value", v)]))) :
    [v].length ≤ 1000 ∧ ∀ a, H a = none → spErrI K (.ref a :: ([v] ++ [])) (upd H a (exo a (ga K x) none))
      (fun u H2 => u = .non ∧ ∃ (d : Addr) (fs : List (Str × V)), H2 a = some (exo a (ga K x) (some d)) ∧ H2 d = some (exd d fs) ∧ H d = none ∧ Q (.ref (ga K x)) (some d) (upd (del H2 a) d (.xd fs))) (fun _ _ _ => False) := by
  refine ⟨by show 1 ≤ 1000; decide, fun a ha => ⟨a, ga K x, v, rfl, T.cl, T.noV, upd_same, fun dx hd hn => ⟨rfl, dx, [("value", v)], upd_same, ?_, ?_, ?_⟩⟩⟩
  · rw [upd_ne hn, upd_same]
  · rw [upd_ne hn] at hd
    exact hd
  · rw [upd_ne hn] at hd
    rw [heap_made ha hd hn]
    exact h dx hd
end
section
variable {X : Cx} {CX : CXT} {k j : Nat} {x : Str} {ps : List Str} {sp : Sp} {p pos : Pos} {e : Expr} {es : List Expr} {t : TA} {W : WX}
theorem pe_calX (c : Cal X.prog X.w X.K X.mg X.base (L2.CX X.prog X.w) k x ps sp) (hr : Room j X.A) (hg : Gl X x) (tk : Takes X W) (ha : PA X (e :: es) t) (hj : k ≤ j := by decide) (hdb : (x == ("__debug__" : Str)) = false := by decide)
    (he : starEach (e :: es) X.env = (false, eval e X.env) :: starEach es X.env := by rfl) (hpl : (backTo pos (starEach es X.env)).any (·.1) = false := by rfl) :
    PE X (.Call (.Name x p) (e :: es) [] pos) (tCallS sp (WE W) t) := by
  obtain ⟨f, fd, F, hm, kp, b⟩ := c
  exact pe_callS F (hr.mono hj) hg hm kp b (fun σ => passAt tk σ) ha hdb he hpl
/-- the same where the promise is asked for without an error -/
theorem pe_calN (c : Cal X.prog X.w X.K X.mg X.base (L2.CX X.prog X.w) k x ps sp) (hr : Room j X.A) (hg : Gl X x) (ha : PA X (e :: es) t) (hj : k ≤ j := by decide) (hdb : (x == ("__debug__" : Str)) = false := by decide)
    (he : starEach (e :: es) X.env = (false, eval e X.env) :: starEach es X.env := by rfl) (hpl : (backTo pos (starEach es X.env)).any (·.1) = false := by rfl) :
    PE X (.Call (.Name x p) (e :: es) [] pos) (tCall sp [] E0 t) := by
  obtain ⟨f, fd, F, hm, kp, b⟩ := c
  exact pe_call F (hr.mono hj) hg hm kp b .nil passL ha hdb he hpl
end
end Ds
end F6
section F7
namespace Ds
open PySem PySem.Spec PyProof.Rows L2 He
/-! ### what leads to what -/
inductive Leads (ps : List Pr) : Str → Str → Prop where
  | refl (a : Str) : Leads ps a a
  | step {a b c : Str} : (a, b) ∈ ps → Leads ps b c → Leads ps a c
theorem Leads.mono {ps qs : List Pr} (h : ∀ p ∈ ps, p ∈ qs) {a b : Str} (l : Leads ps a b) : Leads qs a b := by
  induction l with
  | refl a => exact .refl a
  | step e _ ih => exact .step (h _ e) ih
theorem Leads.trans {ps : List Pr} {a b c : Str} (l : Leads ps a b) (m : Leads ps b c) : Leads ps a c := by
  induction l with
  | refl a => exact m
  | step e _ ih => exact .step e (ih m)
/-- a set that holds x and is closed holds all that leads to x -/
theorem Leads.closed {ps : List Pr} {F : List Str} {x : Str} (hx : x ∈ F) (hc : ∀ a b, (a, b) ∈ ps → b ∈ F → a ∈ F) {a : Str} (l : Leads ps a x) : a ∈ F := by
  induction l with
  | refl a => exact hx
  | step e _ ih => exact hc _ _ e (ih hx)
theorem nodup_le : ∀ {l m : List Str}, l.Nodup → (∀ x ∈ l, x ∈ m) → l.length ≤ m.length
  | [], _, _, _ => Nat.zero_le _
  | x :: l, m, nd, h => by
    have hx : x ∈ m := h x (by simp)
    obtain ⟨nx, nd'⟩ := List.nodup_cons.mp nd
    have h2 : ∀ y ∈ l, y ∈ m.erase x := fun y hy => by
      have hne : y ≠ x := fun e => nx (e ▸ hy)
      exact (List.mem_erase_of_ne hne).mpr (h y (by simp [hy]))
    have := nodup_le nd' h2
    rw [List.length_erase_of_mem hx] at this
    have hp : 0 < m.length := List.length_pos_of_mem hx
    rw [List.length_cons]
    omega
open Classical in
/-- the things of ns that lead to x, in their sequence -/
noncomputable def leading (ns : List Str) (ps : List Pr) (x : Str) : List Str := ns.filter fun t => decide (Leads ps t x)
open Classical in
theorem leading_mem {ns : List Str} {ps : List Pr} {x t : Str} : t ∈ leading ns ps x ↔ t ∈ ns ∧ Leads ps t x := by
  unfold leading
  rw [List.mem_filter, decide_eq_true_eq]
open Classical in
theorem leading_eq {ns : List Str} {ps : List Pr} {x : Str} {F : List Str} (h : ∀ t ∈ ns, t ∈ F ↔ Leads ps t x) : ns.filter (fun t => decide (t ∈ F)) = leading ns ps x := by
  unfold leading
  refine List.filter_congr fun t ht => ?_
  by_cases c : t ∈ F
  · rw [decide_eq_true c, decide_eq_true ((h t ht).mp c)]
  · rw [decide_eq_false c, decide_eq_false fun z => c ((h t ht).mpr z)]
/-! ### the first that can't be had -/
def FirstBad {α : Type} (B : List α → α → Prop) (xs : List α) (x : α) : Prop := ∃ i : Nat, xs[i]? = some x ∧ B (xs.take i) x ∧ ∀ (j : Nat) (y : α), j < i → xs[j]? = some y → ¬ B (xs.take j) y
def NoBad {α : Type} (B : List α → α → Prop) (xs : List α) : Prop := ∀ (j : Nat) (y : α), xs[j]? = some y → ¬ B (xs.take j) y
theorem FirstBad.not {α : Type} {B : List α → α → Prop} {xs : List α} {x : α} (h : FirstBad B xs x) : ¬ NoBad B xs := fun n => by
  obtain ⟨i, e1, b1, _⟩ := h
  exact n i x e1 b1
def NameBad (pre : List Str) (x : Str) : Prop := ¬ IsLet x ∨ x ∈ pre
def Two (ns : List Str) (p : Pr) : Prop := p.1 ∈ ns ∧ p.2 ∈ ns ∧ p.1 ≠ p.2
def ArrowBad (ns : List Str) (pre : List Pr) (p : Pr) : Prop := ¬ Two ns p ∨ p ∈ pre ∨ Leads pre p.2 p.1
def PairBad (ns : List Str) (pre : List Pr) (p : Pr) : Prop := ¬ Two ns p ∨ p ∈ pre ∨ (p.2, p.1) ∈ pre
/-! ### a dict of texts -/
theorem letter_cps {x : Str} (h : x.length = 1) : ∃ c, x = letter c := by
  obtain ⟨a⟩ := x
  have h' : a.size = 1 := h
  obtain ⟨l⟩ := a
  match l, h' with
  | [c], _ => exact ⟨c, rfl⟩
theorem lt1 (a b : Nat) : ([a] < [b]) ↔ a < b := by
  rw [List.cons_lt_cons_iff]
  constructor
  · rintro (h | ⟨_, h⟩)
    · exact h
    · exact absurd h (List.lt_irrefl [])
  · exact .inl
theorem isLet_iff (x : Str) : IsLet x ↔ x.length = 1 ∧ ¬ (x.cps.toList < ("a" : Str).cps.toList) ∧ ¬ (("z" : Str).cps.toList < x.cps.toList) := by
  constructor
  · rintro ⟨c, h1, h2, rfl⟩
    refine ⟨rfl, ?_, ?_⟩
    · show ¬ ([c] < [97])
      rw [lt1]
      omega
    · show ¬ ([122] < [c])
      rw [lt1]
      omega
  · rintro ⟨h1, h2, h3⟩
    obtain ⟨c, rfl⟩ := letter_cps h1
    have h2' : ¬ ([c] < [97]) := h2
    have h3' : ¬ ([122] < [c]) := h3
    rw [lt1] at h2' h3'
    exact ⟨c, by omega, by omega, rfl⟩
/-! ### walks over enumerate -/
end Ds
end F7
section F8
namespace Ds
open PySem PySem.Spec PyProof.Rows L2 He
/-! ### a method of an own class, to be called by place or by name -/
structure CalM (P : Program) (w : World) (K : PySem.W.Frag) (mg : Str → Option Value) (base : Heap) (CX : CXT) (k : Nat) (C : Addr) (m : Str) (ps : List Str) (sp : Sp) : Prop where
  cl : Cls K C
  ex : ∃ f fd, FnOk P w K mg base CX k f fd ps sp ∧ Meth K C m f ∧ Binds K fd ps [] ∧ KBn K fd ps 1 ps.tail (fun us ws => us ++ ws) (fun vs zs => vs ++ zs)
def tDM (C : Addr) (m : Str) (sp : Sp) (E : L2.St → XK) (ta : TE) (t : TA) : TE := fun σ H Q => ta σ H fun x H1 => ∃ a dx fs, x = .ref a ∧ H1 a = some (.ins C dx fs) ∧ fs.lookup m = none ∧
  t σ H1 fun vs H2 => sp (x :: vs) H2 Q (E σ)
section
variable {X : Cx} {CX : CXT} {k j : Nat} {C : Addr} {ps : List Str} {sp : Sp} {E : L2.St → XK} {W : WX} {m : Str} {p pos apos : Pos} {e o : Expr} {es : List Expr} {kws : List Keyword} {ta : TE} {t tk : TA} {pl : Sem Bool}
theorem pe_methG (c : CalM X.prog X.w X.K X.mg X.base CX k C m ps sp) (hr : Room j X.A) (hx : ∀ σ, PassesAt CX X σ (E σ)) (he : PE X o ta) (ha : PA X (e :: es) t) (hj : k ≤ j)
    (hst : starEach (e :: es) X.env = (false, eval e X.env) :: starEach es X.env) (hpl : (backTo pos (starEach es X.env)).any (·.1) = false)
    (ht : eval (.Call (.Attribute o m apos) (e :: es) [] pos) X.env = (do
      let ov ← eval o X.env
      standAt apos.atName
      let (f, first) ← holding [ov] (getMethod ov m pl)
      callWith pos f first (backTo pos (starEach (e :: es) X.env)) (backToKw pos (keywordEach [] X.env)))) :
    PE X (.Call (.Attribute o m apos) (e :: es) [] pos) (tDM C m sp E ta t) := by
  obtain ⟨f, fd, F, hm, b, _⟩ := c.ex
  refine ⟨fun pins s σ H Q I h => ?_⟩
  refine PySem.W.methodCall_KW (pl := pl) (thn (he.run pins s σ H _ I h) fun u s1 ⟨x, H1, I1, rx, a, dx, fs, ex, ea, l, q⟩ => ?_) ht
  subst ex
  obtain rfl : u = Value.ref a := rx
  refine getmeth_ok I1 ea c.cl hm l ?_
  refine PySem.W.callWith_K (first := [.ref a]) (h₀ := X.base) I.ok.mod.kin hm.kp (thn (ha.run pos pins s1 σ H1 _ I1 q) fun us s2 ⟨vs, H2, I2, r, q2⟩ => ⟨I2.kIn, ?_⟩) hst hpl
  exact run_fnS (us := .ref a :: us) (vs := .ref a :: vs) F (hr.mono hj) b (hx σ) I2 (.cons rfl r) q2
/-- the same where the promise is asked for without an error -/
theorem pe_methN (c : CalM X.prog X.w X.K X.mg X.base (L2.CX X.prog X.w) k C m ps sp) (hr : Room j X.A) (he : PE X o ta) (ha : PA X (e :: es) t) (hj : k ≤ j := by decide)
    (hst : starEach (e :: es) X.env = (false, eval e X.env) :: starEach es X.env := by rfl) (hpl : (backTo pos (starEach es X.env)).any (·.1) = false := by rfl)
    (ht : eval (.Call (.Attribute o m apos) (e :: es) [] pos) X.env = (do
      let ov ← eval o X.env
      standAt apos.atName
      let (f, first) ← holding [ov] (getMethod ov m pl)
      callWith pos f first (backTo pos (starEach (e :: es) X.env)) (backToKw pos (keywordEach [] X.env))) := by rfl) :
    PE X (.Call (.Attribute o m apos) (e :: es) [] pos) (tDM C m sp (fun _ => E0) ta t) := pe_methG c hr (fun σ pins H s e s' I h => passL pins σ H s e s' I h) he ha hj hst hpl ht
end
/-! ### a new instance of an own class -/
structure CalC (P : Program) (w : World) (K : PySem.W.Frag) (mg : Str → Option Value) (base : Heap) (CX : CXT) (k : Nat) (x : Str) (C : Addr) (ps : List Str) (sp : Sp) : Prop where
  gl : mg x = some (.ref C)
  ex : ∃ f fd, FnOk P w K mg base CX k f fd ps sp ∧ Mk K C f ∧ Binds K fd ps []
section
variable {X : Cx} {CX : CXT} {k j : Nat} {C : Addr} {ps : List Str} {sp : Sp} {x : Str} {p pos : Pos} {e : Expr} {es : List Expr} {t : TA}
theorem pe_mkN (c : CalC X.prog X.w X.K X.mg X.base (L2.CX X.prog X.w) k x C ps sp) (hr : Room j X.A) (hg : Gl X x) (ha : PA X (e :: es) t) (hj : k + 1 ≤ j := by decide) (hdb : (x == ("__debug__" : Str)) = false := by decide)
    (he : starEach (e :: es) X.env = (false, eval e X.env) :: starEach es X.env := by rfl) (hpl : (backTo pos (starEach es X.env)).any (·.1) = false := by rfl) :
    PE X (.Call (.Name x p) (e :: es) [] pos) (tMake C sp [] E0 t) := by
  obtain ⟨f, fd, F, M, b⟩ := c.ex
  exact pe_make M F (hr.mono hj) hg c.gl b .nil passL ha hdb he hpl
end
section
variable {σ : L2.St} {H : Hp} {Q : VK} {C : Addr} {m : Str} {sp : Sp} {E : L2.St → XK} {ta : TE} {t : TA}
end
end Ds
end F8
section F9
namespace Ds
open PySem PySem.Spec PyProof.Rows L2 He
/-! ### a def that shows data: nothing is being shown around its call -/
structure FnG (P : Program) (w : World) (K : PySem.W.Frag) (mg : Str → Option Value) (base : Heap) (CX : CXT) (k : Nat) (f : Addr) (fd : FuncData) (ps : List Str) (sp : Sp) : Prop where
  many : ∀ vs H Q E, sp vs H Q E → vs.length = ps.length
  does : ∀ (A : Around) (outer : List Env) (s : Shared) (H : Hp) (args : Args) (us : List Value) (vs : List V) (Q : VK) (E : XK), A.guards = some [] → Room k A → Env0 P w K mg base A outer s H → BindsTo s fd args (ps.zip us) → Vals vs us → sp vs H Q E →
    codeAny (model P w) A (.call (.ref f) args) (CR CX outer P w H s Q E) s
theorem FnG.mono {P : Program} {w : World} {K : PySem.W.Frag} {mg : Str → Option Value} {base : Heap} {CX : CXT} {j k : Nat} {f : Addr} {fd : FuncData} {ps : List Str} {sp : Sp} (F : FnG P w K mg base CX j f fd ps sp) (h : j ≤ k) : FnG P w K mg base CX k f fd ps sp :=
  ⟨F.many, fun A o s H a us vs Q E g r => F.does A o s H a us vs Q E g (r.mono h)⟩
/-- what a run of the body comes to -/
theorem ended {CX : CXT} {P : Program} {w : World} {K : PySem.W.Frag} {mg : Str → Option Value} {base : Heap} {N : List Str} {qual : Str} {sc : Scope} {f : Addr} {cd : Value} {A : Around} {outer : List Env} {s s' : Shared} {H : Hp} {Q : VK} {E : XK} {fl : Flow}
    (h : SP (cxOf CX P w K mg base N qual sc f cd A outer s H E) [] { nx := fun _ H' => Q .non H', rt := Q } fl s') :
    match fl with | .ret u => CE outer P w H s Q u s' | .next => CE outer P w H s Q Value.none s' | .brk => False | .cont => False := by
  match fl, h with
  | .ret u, ⟨v, σ', H', J, rv, q⟩ => exact ⟨v, H', J.os, J.bare, J.base, J.hok, rv, q⟩
  | .next, ⟨σ', H', J, q⟩ => exact ⟨V.non, H', J.os, J.bare, J.base, J.hok, rfl, q⟩
  | .brk, ⟨_, _, _, q⟩ => exact q.elim
  | .cont, ⟨_, _, _, q⟩ => exact q.elim
section
variable {P : Program} {w : World} {K : PySem.W.Frag} {mg : Str → Option Value} {base : Heap} {x qual : Str} {prm : Arguments} {body : List Stmt} {sc : Scope} {f : Addr} {fd : FuncData}
theorem okG {CX : CXT} {N ps : List Str} {k : Nat} {sp : Sp} (F : FunD K x qual prm body sc [] [] f fd) (S : FnScope N ps sc) (len : ∀ vs H Q E, sp vs H Q E → vs.length = ps.length)
    (hbody : ∀ (cdv : Value) (A : Around) (outer : List Env) (s : Shared) (H : Hp) (vs : List V) (Q : VK) (E : XK), (A.deeper (envOfC qual sc s.heap.objs.size f cdv)).guards = some [] → Room k (A.deeper (envOfC qual sc s.heap.objs.size f cdv)) → sp vs H Q E →
      ∃ t, PSs (cxOf CX P w K mg base N qual sc f cdv A outer s H E) body t ∧ t { nx := fun _ H' => Q .non H', rt := Q } (start N vs) H) : FnG P w K mg base CX (k + 1) f fd ps sp := by
  obtain ⟨oc, od, dV, kV, doc, pm, an, cdv, ct, osl, e, lk, hcd, _⟩ := F.ex
  subst e
  refine ⟨len, ?_⟩
  intro A outer s H args us vs Q E hg hr e0 hb r hsp
  have inK : K.In s.heap := e0.mod.kin.keeps (fun b o z => (e0.bs b o z).1)
  have nolim : s.heap.NoLimit := e0.mod.nolimit.keeps (fun b o z => (e0.bs b o z).1)
  refine codeAny_call_function hr.depth (inK _ _ lk) rfl S.co S.gen rfl (PySem.W.codeRec_of inK hcd) (hb _ _ _ _ (wpAny_newFunctionEnv_cells S.kind (fun y hy => ?_) (fun env he s1 z => ?_)))
  · rcases S.par y.1 (List.of_mem_zip (a := y.1) (b := y.2) hy).1 with q | q
    · exact Or.inl q
    · exact Or.inr ⟨q, PySem.W.cellsFrom_some _ _ _ (Or.inl q)⟩
  · cases he
    obtain ⟨t, ht, hq⟩ := hbody cdv A outer s H vs Q E hg (hr.deeper _) hsp
    have I := inv_start (CX := CX) (E := E) S hr.hd e0 (len _ _ _ _ hsp) r z
    refine ⟨nolim.keeps z.toInCall.keep, codeAny_func (wpAny_mono (ht.run [] s1 (start N vs) H _ I hq) (fun fl s' hs => ?_) (fun _ _ q => q))⟩
    have q := ended hs
    cases fl with
    | ret u => exact q
    | next => exact q
    | brk => exact (show False from q).elim
    | cont => exact (show False from q).elim
end
section
variable {X : Cx} {CX : CXT} {k j : Nat} {x : Str} {ps : List Str} {sp : Sp} {p pos : Pos} {e : Expr} {es : List Expr} {t : TA}
end
/-! ### repr of data -/
end Ds
end F9
section F10
namespace Ds
open PySem PySem.Spec PyProof.Rows L2 He
theorem same_new {H H' : Hp} {a : Addr} {o : HO} (s : Same H H') (n : H' a = none) : Same H (upd H' a o) := fun b u e => by rw [upd_ne (ne_of_none (s b u e) n)]; exact s b u e
/-! ### isinstance of the caught error that has a dict -/
section
variable {X : Cx} {a C : Addr} {oe : Obj} {cls : Value} {d : Option Addr} {pn : List (Addr × Obj)}
end
/-- what isinstance asks of a class, to be decided -/
def excB (K : PySem.W.Frag) (C : Addr) : Bool := decide (PySem.W.findIn K (.ref C) "__getattribute__" = some (some (.builtin "BaseException.__getattribute__"))) && (decide (PySem.W.findIn K (.ref C) "__getattr__" = some none) && (decide (PySem.W.subIn K (.ref C) (.type "BaseException") = some true) &&
  (PySem.W.hasDictIn K C && (decide (PySem.W.findIn K (.ref C) "__class__" = some (some (.builtin "object.__class__"))) && (decide (PySem.W.specialIn K (.builtin "object.__class__") "__get__" = some (some (.builtin "getset_descriptor.__get__"))) && (decide (PySem.W.takesIn K (.builtin "object.__class__") = some true) && decide (PySem.W.mroIn K C (.type "object") = some true)))))))
/-- the package's error classes, all of them, and what isinstance and except say of them -/
def errNames : List Str := ["DeedError", "InvalidName", "InvalidArrow", "InvalidPair", "InvalidNumber", "InvalidWeights", "InvalidDeed", "NotTold", "NothingToUndo", "TooMany", "Unreadable"]
def kitB1 (K : PySem.W.Frag) (x y : Str) : Bool := decide (PySem.W.kitOne K (.ref (ga K x)) (.ref (ga K y)) = some (x == y || y == "DeedError"))
def kitB2 (K : PySem.W.Frag) (x : Str) : Bool := decide (PySem.W.kitOne K (.ref (ga K x)) (.type "ValueError") = some true) && (decide (PySem.W.exmOne K (.ref (ga K x)) (.ref (ga K "DeedError")) = some true) && excB K (ga K x))
structure ErrAll (K : PySem.W.Frag) (mg : Str → Option Value) : Prop where
  DeedError : ErrC K mg "DeedError"
  InvalidName : ErrC K mg "InvalidName"
  InvalidArrow : ErrC K mg "InvalidArrow"
  InvalidPair : ErrC K mg "InvalidPair"
  InvalidNumber : ErrC K mg "InvalidNumber"
  InvalidWeights : ErrC K mg "InvalidWeights"
  InvalidDeed : ErrC K mg "InvalidDeed"
  NotTold : ErrC K mg "NotTold"
  NothingToUndo : ErrC K mg "NothingToUndo"
  TooMany : ErrC K mg "TooMany"
  Unreadable : ErrC K mg "Unreadable"
  k1 : ∀ x ∈ errNames, ∀ y ∈ errNames, kitB1 K x y = true
  k2 : ∀ x ∈ errNames, kitB2 K x = true
section
variable {K : PySem.W.Frag} {mg : Str → Option Value}
theorem ErrAll.is (T : ErrAll K mg) {x y : Str} (hx : x ∈ errNames) (hy : y ∈ errNames) {b : Bool} (e : (x == y || y == "DeedError") = b) : PySem.W.kitOne K (.ref (ga K x)) (.ref (ga K y)) = some b := by
  rw [← e]
  exact of_decide_eq_true (T.k1 x hx y hy)
theorem ErrAll.none (T : ErrAll K mg) {x : Str} (hx : x ∈ errNames) : ∀ ys : List Str, (∀ y ∈ ys, y ∈ errNames) → (∀ y ∈ ys, (x == y || y == "DeedError") = false) → PySem.W.kitAny K (.ref (ga K x)) (ys.map fun y => Value.ref (ga K y)) = some false
  | [], _, _ => kitAny_nil
  | y :: ys, h1, h2 => kitAny_cons (T.is hx (h1 y (by simp)) (h2 y (by simp))) (fun _ => ErrAll.none T hx ys (fun z hz => h1 z (by simp [hz])) (fun z hz => h2 z (by simp [hz]))) (fun z => nomatch z)
end
section
variable {K : PySem.W.Frag} {σ : L2.St} {H : Hp} {Q : VK} {a C dd : Addr} {fs : List (Str × V)} {c : V} {u : Value} {b : Bool}
end
end Ds
end F10
section F11
namespace Ds
open PySem PySem.Spec PyProof.Rows L2 He
/-! ### == and != by an own __eq__ -/
/-- what the class must say: an __eq__ of its own at g, no __ne__, object alone above it -/
def eqB (K : PySem.W.Frag) (C g : Addr) : Bool := match K.lookup C with
  | some ⟨.type "type", _, .cls ⟨_, _, .ref C' :: bm, ns, _, _, _, _, _, _, del⟩, sl⟩ => (match sl.toList with
    | [_, _, _, _, some (.builtin _), _] => decide (C' = C) && (decide (bm = [.type "object"]) && (!del && (PySem.W.nsOkIn K ns && (decide (PySem.W.nsIn K ns "__eq__" = some (some (.ref g))) && decide (PySem.W.nsIn K ns "__ne__" = some none)))))
    | _ => false)
  | _ => false
structure EqC (K : PySem.W.Frag) (C g : Addr) : Prop where
  cl : Cls K C
  at_ : PySem.W.findIn K (.ref C) "__eq__" = some (some (.ref g))
  fn : PySem.W.isFn K (.ref g) = true
  b : eqB K C g = true
section
variable {X : Cx} {CX : CXT} {k j : Nat} {C : Addr} {sp : Sp}
end
end Ds
end F11
section F12
namespace Ds
open PySem PySem.Spec PyProof.Rows L2 He
/-! ### what the written part says of the error classes, to be decided -/
def oexB (K : PySem.W.Frag) (C : Addr) : Bool := match K.lookup C with
  | some ⟨.type "type", _, .cls ⟨_, _, .ref C' :: bm, _, _, hd, _, _, _, _, del⟩, sl⟩ => (match sl.toList with
    | [_, _, _, _, some (.builtin n), _] => decide (C' = C) && (decide (n = "ValueError.__new__") && (!del && (hd && PySem.HandSPX.refsVE bm)))
    | _ => false)
  | _ => false
theorem oexB_ok {K : PySem.W.Frag} {C : Addr} (h : oexB K C = true) : ∃ nm q N bs bm sn sub ab col dd k0 k1 k2 k3 k5, K.lookup C = some (excClassObj nm q C N bs bm true sn sub ab col dd k0 k1 k2 k3 k5 "ValueError.__new__") ∧ PySem.HandSPX.refsVE bm = true := by
  unfold oexB at h
  split at h
  · rename_i dd a1 a2 C' bm a3 a4 hd a5 a6 a7 a8 del sl ho
    split at h
    · rename_i k0 k1 k2 k3 n k5 hs
      simp only [Bool.and_eq_true, decide_eq_true_eq, Bool.not_eq_true'] at h
      obtain ⟨rfl, rfl, rfl, rfl, hv⟩ := h
      have hsl : sl = #[k0, k1, k2, k3, some (.builtin "ValueError.__new__"), k5] := by
        obtain ⟨l⟩ := sl
        simp only at hs
        rw [hs]
      subst hsl
      exact ⟨_, _, _, _, bm, _, _, _, _, dd, k0, k1, k2, k3, k5, ho, hv⟩
    · cases h
  · cases h
def errB (K : PySem.W.Frag) (x : Str) : Bool := oexB K (ga K x) && (decide (PySem.W.findIn K (.ref (ga K x)) "__setattr__" = some (some (.builtin "object.__setattr__"))) && (decide (PySem.W.subIn K (.ref (ga K x)) (.type "BaseException") = some true) &&
  (decide (PySem.W.typeIn K (.ref (ga K x)) = some (.type "type")) && (PySem.W.keepIn K (.ref (ga K x)) && (decide (PySem.W.findIn K (.ref (ga K x)) "__init__" = some (some (.ref (errI K)))) && (decide (PySem.W.findIn K (.ref (ga K x)) "value" = some none) && xfB K (ga K x)))))))
theorem errB_ok {K : PySem.W.Frag} {mg : Str → Option Value} {x : Str} (h : errB K x = true) (g : mg x = some (.ref (ga K x))) : ErrC K mg x := by
  unfold errB at h
  simp only [Bool.and_eq_true, decide_eq_true_eq] at h
  obtain ⟨h1, h2, h3, h4, h5, h6, h7, h8⟩ := h
  exact ⟨⟨oexB_ok h1, h2, h3, h4, h5⟩, h6, h7, g, xfB_ok h8⟩
end Ds
end F12
section F13
namespace Ds
open PySem PySem.Spec PyProof.Rows L2 He
/-! ### the top: the law's guarded promise, behind the claim's caller -/
section
variable {P : Program} {w : World} {K : PySem.W.Frag} {mg mb : Str → Option Value} {k : Nat} {fa a : Addr} {fd : FuncData} {x : Str} {sp : Sp} {s₁ : Shared} {vs : List Value} {ns : List Int}
/-- the tracked heap at the top holds the script alone, or nothing -/
structure Lone (K : PySem.W.Frag) (P : Program) (w : World) (a : Addr) (h : Heap) (H : Hp) : Prop where
  at_ : ∀ b u, H b = some u → b = a ∧ K.lookup a = none ∧ ∃ ob xs, u = .frz ob (.lst xs)
  ok : HOk P w H h
theorem Lone.only {h : Heap} {H : Hp} (L : Lone K P w a h H) : Only H := by
  intro b
  match e : H b with
  | none => exact .inl rfl
  | some u =>
    obtain ⟨_, _, ob, xs, rfl⟩ := L.at_ b u e
    exact .inr ⟨ob, xs, rfl⟩
/-- what is no list stays in the base -/
theorem Lone.base {h : Heap} {H : Hp} (L : Lone K P w a h H) (ha : h.get? a = some { cls := .type "list", data := .seq vs.toArray }) {b : Addr} {m : Str → Option Value} (n : h.Ns b m) : (hidT h H).Ns b m := by
  obtain ⟨o, es, ep, e, d, r⟩ := n
  refine ⟨o, es, ep, hidT_get e ?_, d, r⟩
  match q : H b with
  | none => rfl
  | some u =>
    obtain ⟨rfl, _⟩ := L.at_ b u q
    have z : o = _ := Option.some.inj (e.symm.trans ha)
    rw [z] at d
    exact nomatch d
theorem Lone.kin {h : Heap} {H : Hp} (L : Lone K P w a h H) (X : K.In h) : K.In (hidT h H) := by
  intro b o e
  refine hidT_get (X b o e) ?_
  match q : H b with
  | none => rfl
  | some u =>
    obtain ⟨rfl, n, _⟩ := L.at_ b u q
    exact nomatch n.symm.trans e
theorem top_run {H : Hp} (L : Lone K P w a s₁.heap H) (KX : K.In s₁.heap) (hns : s₁.heap.Ns mainGlobals mg) (hb : s₁.heap.Ns builtinsNs mb) (hbb : ∀ x : Str, x ≠ "__name__" → mb x = bootBuiltins x) (hlim : s₁.heap.NoLimit) (hg : s₁.gens = #[])
    (ha : s₁.heap.get? a = some { cls := .type "list", data := .seq vs.toArray }) (hr : Room k callerA)
    (F : FnG P w K mg (hidT s₁.heap H) CX0 k fa fd [x] sp) (hbind : ∀ (s : Shared) (u : Value), BindsTo s fd ⟨[u], []⟩ [(x, u)]) (hsp : sp [.ref a] H (fun v _ => v = .bl true) fun _ _ _ => False) :
    codeAny (model P w) callerA (.call (.ref fa) ⟨[.ref a], []⟩) (fun r s' => r = .ok (.ret (.bool true)) ∧ OldK s₁.heap s'.heap ∧ s'.os = s₁.os ∧ AllBare s'.gens) s₁ := by
  obtain ⟨mc, m1, m2⟩ := hlim
  have e0 : Env0 P w K mg (hidT s₁.heap H) callerA [] s₁ H := by
    refine ⟨rfl, ⟨L.kin KX, L.base ha hns, ⟨mb, L.base ha hb, hbb⟩, ⟨mc, L.base ha m1, m2⟩⟩, fun b o => of_hidT, Nat.le_of_eq (hidT_size ..), trivial, ?_, L.ok, AllBare.of_eq hg⟩
    exact fun b q => nomatch (show b ∈ ([] : List Addr) from q)
  refine codeAny_mono (F.does callerA [] s₁ H ⟨[.ref a], []⟩ [.ref a] [.ref a] _ _ rfl hr e0 (hbind s₁ _) (Paired.cons rfl Paired.nil) hsp) ?_
  intro r s' q
  match r, q with
  | .error e, q => exact (show False from q).elim
  | .ok (.ret u), ⟨v, H', os, bare, un, hok', rv, q⟩ =>
    have ev : v = V.bl true := q
    subst ev
    cases (show u = Value.bool true from rv)
    refine ⟨rfl, OldK.of_keep ?_, os, bare⟩
    intro b o e
    match z : H b with
    | none => exact un.keep b o e z (fun q => nomatch (show b ∈ ([] : List Addr) from q)) (fun q => nomatch q)
    | some u =>
      obtain ⟨_, _, ob, xs, rfl⟩ := L.at_ b u z
      have h1 := (L.ok b _ z).1
      have h2 := (hok' b _ (un.frzs b ob _ z)).1
      rw [← Option.some.inj (h1.symm.trans e)]
      exact h2
  | .ok .next, q => exact (show False from q).elim
  | .ok .brk, q => exact (show False from q).elim
  | .ok .cont, q => exact (show False from q).elim
theorem top_law (KX : K.In s₁.heap) (hns : s₁.heap.Ns mainGlobals mg) (hb : s₁.heap.Ns builtinsNs mb) (hbb : ∀ x : Str, x ≠ "__name__" → mb x = bootBuiltins x) (hlim : s₁.heap.NoLimit) (hg : s₁.gens = #[])
    (ha : s₁.heap.get? a = some { cls := .type "list", data := .seq vs.toArray }) (hi : IntsAre vs ns) (hl : ns.length ≤ sizeLine) (hr : Room k callerA)
    (F : ∀ base : Heap, K.In base → base.Ns mainGlobals mg → FnG P w K mg base CX0 k fa fd [x] sp) (hbind : ∀ (s : Shared) (u : Value), BindsTo s fd ⟨[u], []⟩ [(x, u)])
    (hsp : ∀ H : Hp, Only H → SqL K H a (ns.map V.int) → sp [.ref a] H (fun v _ => v = .bl true) fun _ _ _ => False) :
    codeAny (model P w) callerA (.call (.ref fa) ⟨[.ref a], []⟩) (fun r s' => r = .ok (.ret (.bool true)) ∧ OldK s₁.heap s'.heap ∧ s'.os = s₁.os ∧ AllBare s'.gens) s₁ := by
  have go : ∀ H, Lone K P w a s₁.heap H → SqL K H a (ns.map V.int) → codeAny (model P w) callerA (.call (.ref fa) ⟨[.ref a], []⟩) (fun r s' => r = .ok (.ret (.bool true)) ∧ OldK s₁.heap s'.heap ∧ s'.os = s₁.os ∧ AllBare s'.gens) s₁ := fun H L S =>
    top_run L KX hns hb hbb hlim hg ha hr (F _ (L.kin KX) (L.base ha hns)) hbind (hsp H L.only S)
  have rv := vals_ints hi
  have lv := hi.length
  match q : K.lookup a with
  | some o =>
    have eo : o = _ := Option.some.inj ((KX a o q).symm.trans ha)
    rw [eo] at q
    refine go (fun _ => none) ⟨fun _ _ e => (nomatch e), fun _ _ e => (nomatch e)⟩ (.inr ⟨_, vs.toArray, _, q, rfl, rfl, rfl, ?_, ?_⟩)
    · rw [List.size_toArray, lv]
      exact hl
    · simpa using rv
  | none =>
    have sel : ∀ b u, (if b = a then some (HO.frz { cls := .type "list", data := .seq vs.toArray } (.lst (ns.map V.int))) else none) = some u → b = a ∧ u = HO.frz { cls := .type "list", data := .seq vs.toArray } (.lst (ns.map V.int)) := fun b u e => by
      by_cases c : b = a
      · rw [if_pos c] at e
        exact ⟨c, (Option.some.inj e).symm⟩
      · rw [if_neg c] at e
        exact nomatch e
    refine go (fun b => if b = a then some (.frz { cls := .type "list", data := .seq vs.toArray } (.lst (ns.map V.int))) else none) ⟨fun b u e => ?_, fun b u e => ?_⟩ (.inl (.inr ⟨_, if_pos rfl⟩))
    · obtain ⟨h1, h2⟩ := sel b u e
      exact ⟨h1, q, _, _, h2⟩
    · obtain ⟨h1, h2⟩ := sel b u e
      subst h1
      rw [h2]
      refine ⟨ha, ?_, vs, _, rv, ha⟩
      rw [List.length_map]
      exact hl
end
theorem walk_G {l : PySem.W.OpenLaw} {n k : Nat} {q : Program} {loose : List Str} {XP : (Str → Option Value) → Heap → Prop} {YP : World → Heap → Prop} {d : DefRec} {x : Str} (hn : l.most = some n) (hn2 : n ≤ sizeLine) (hdf : d.params.defaults = []) (hr : Room k callerA)
    (F : ∀ (w : World) (mg : Str → Option Value) (fa : Addr) (h : Heap), YP w h → h.Ns mainGlobals mg → mg d.name = some (.ref fa) → ∃ (K : PySem.W.Frag) (fd : FuncData) (sp : Sp), K.In h ∧ (∀ (s : Shared) (u : Value), BindsTo s fd ⟨[u], []⟩ [(x, u)]) ∧
      (∀ (H : Hp) (a : Addr) (ns : List Int), ns.length ≤ n → SqL K H a (ns.map V.int) → sp [.ref a] H (fun v _ => v = .bl true) fun _ _ _ => False) ∧ ∀ base : Heap, K.In base → base.Ns mainGlobals mg → FnG l.prog w K mg base CX0 k fa fd [x] sp) :
    PySem.W.WalkO q loose XP YP l.row.toRowW d [] (fun f vs => PySem.call f vs) :=
  Att.attach_call hn hdf fun w s₀ s₁ mg mb fa o pm cd doc a vs ns G Y _ _ _ hmg hobj hints hlen hg => by
    obtain ⟨K, fd, sp, KX, hb, hsp, hF⟩ := F w mg fa _ Y G.T.g hmg
    exact top_law KX G.T.g G.T.b G.T.builtins G.T.nolimit hg hobj hints (Nat.le_trans hlen hn2) hr hF hb fun H _ S => hsp H a ns hlen S
end Ds
end F13
section F14
namespace Ds
open PySem PySem.Spec PyProof.Rows L2 He
/-! ### a property of an own class -/
def CalP (P : Program) (w : World) (K : PySem.W.Frag) (mg : Str → Option Value) (base : Heap) (k : Nat) (C : Addr) (x : Str) (sp : Sp) : Prop :=
  Cls K C ∧ ∃ p g fd, PropOf K C x p g ∧ FnOk P w K mg base CX0 k g fd ["self"] sp ∧ Binds K fd ["self"] []
section
variable {X : Cx} {CX : CXT} {k j n : Nat} {C : Addr} {ps ks : List Str} {sp : Sp} {x : Str} {p pos : Pos} {e : Expr} {ta t tk : TE} {kws : List Keyword} {gV : List V → List V → List V}
theorem pe_propC (c : CalP X.prog X.w X.K X.mg X.base k C x sp) (hr : Room j X.A) (he : PE X e ta) (hj : k + 1 ≤ j := by decide) (hab : attributeBase e x X.env (eval e X.env) = eval e X.env := by rfl) : PE X (.Attribute e x pos) (tProp C sp [] E0 ta) := by
  obtain ⟨cl, q, g, fd, hp, F, b⟩ := c
  exact pe_prop he cl hp F (hr.mono hj) b .nil (fun _ _ _ _ _ _ _ z => z) hab
end
/-! ### a new instance by keywords alone -/
section
variable {X : Cx} {CX : CXT} {k j : Nat} {C : Addr} {ps ks : List Str} {sp : Sp} {x : Str} {p pos : Pos} {tk : TA} {kws : List Keyword} {gV : List V → List V → List V}
end
/-! ### the head: getters too -/
/-- the function of the property x of the class at C -/
def gtA (C x : Str) (K : PySem.W.Frag) : Addr := match PySem.W.recIn K (ma K (ga K C) x) "property" with
  | some (.ref g :: _) => g
  | _ => 0
def fnV (K : PySem.W.Frag) (a : Addr) : FnW := match K.lookup a with
  | some ⟨_, _, .func fd, _⟩ => some (fd.name, fd.qualname, fd.params, fd.body, fd.scope, fd.globals, fd.closure, fd.builtins)
  | _ => none
def gtB (K : PySem.W.Frag) (C x qual : Str) : Bool := PySem.W.keepIn K (.ref (gtA C x K)) && ((match K.lookup (gtA C x K) with
  | some ⟨_, _, .func fd, _⟩ => PySem.W.codeIn K fd.code qual && (dflB K fd.defaults [] && kwdB K fd.kwdefaults [])
  | _ => false) && (decide (PySem.W.findIn K (.ref (ga K C)) x = some (some (.ref (ma K (ga K C) x)))) && (decide (PySem.W.specialIn K (.ref (ma K (ga K C) x)) "__get__" = some (some (.builtin "property.__get__"))) &&
  (decide (PySem.W.takesIn K (.ref (ma K (ga K C) x)) = some true) && (match PySem.W.recIn K (ma K (ga K C) x) "property" with
  | some (.ref _ :: _) => true
  | _ => false)))))
theorem gtB_ok {K : PySem.W.Frag} {C x : Str} {d : DefD} (hb : gtB K C x d.qual = true) (e : fnV K (gtA C x K) = d.val) : ∃ fd, FunD K d.name d.qual d.params d.body d.scope [] [] (gtA C x K) fd ∧ PropOf K (ga K C) x (ma K (ga K C) x) (gtA C x K) := by
  unfold gtB at hb
  obtain ⟨kp, hb⟩ := ba hb
  obtain ⟨hc, hb⟩ := ba hb
  obtain ⟨h1, hb⟩ := ba hb
  obtain ⟨h2, hb⟩ := ba hb
  obtain ⟨h3, h4⟩ := ba hb
  have hp : PropOf K (ga K C) x (ma K (ga K C) x) (gtA C x K) := by
    refine ⟨of_decide_eq_true h1, of_decide_eq_true h2, of_decide_eq_true h3, ?_⟩
    unfold gtA
    cases q : PySem.W.recIn K (ma K (ga K C) x) "property" with
    | none => rw [q] at h4; cases h4
    | some l =>
      rw [q] at h4
      match l, h4 with
      | .ref g :: rest, _ => exact ⟨rest, rfl⟩
  unfold fnV at e
  cases q : K.lookup (gtA C x K) with
  | none => rw [q] at hc; cases hc
  | some o =>
    obtain ⟨oc, od, dt, osl⟩ := o
    rw [q] at hc e
    cases dt with
    | func fd =>
      obtain ⟨n1, n2, n3, n4, n5, n6, n7, n8, n9, n10, n11, n12, n13, n14, n15⟩ := fd
      have e2 : (some (n1, n2, n3, n4, n5, n6, n7, n15) : FnW) = some (d.name, d.qual, d.params, .stmts d.body, d.scope, mainGlobals, [], builtinsNs) := e
      simp only [Option.some.injEq, Prod.mk.injEq] at e2
      obtain ⟨g1, g2, g3, g4, g5, g6, g7, g8⟩ := e2
      subst g1 g2 g3 g4 g5 g6 g7 g8
      obtain ⟨k1, k2⟩ := ba hc
      obtain ⟨k3, k4⟩ := ba k2
      exact ⟨_, ⟨⟨oc, od, n8, n9, n10, n11, n12, n13, n14, osl, rfl, q, k1, dflB_ok k3, kwdB_ok k4⟩, kp⟩, hp⟩
    | _ => cases hc
/-- a getter: class, name, its def -/
structure GtD where
  C : Str
  x : Str
  d : DefD
abbrev AlP : Type := AlX × (List FnW × Bool)
def obsP (n : Nat) (fa : List Fa) (fn : List DefD) (ex : PySem.W.Frag → Bool) (gt : List GtD) (g : Addr → Option Obj) : AlP :=
  (obsX n fa fn [] [] ex g, (gt.map fun q => fnV (frT g (asD g n)) (gtA q.C q.x (frT g (asD g n))), gt.all fun q => gtB (frT g (asD g n)) q.C q.x q.d.qual))
def valP (fn : List DefD) (gt : List GtD) (w : World) : AlP := (valX fn [] w, (gt.map fun q => q.d.val, true))
structure SaysP (fa : List Fa) (fn : List DefD) (ex : PySem.W.Frag → Bool) (gt : List GtD) (w : World) (h : Heap) (K : PySem.W.Frag) : Prop where
  x : SaysX fa fn [] [] ex w h K
  g : ∀ q ∈ gt, fnV K (gtA q.C q.x K) = q.d.val ∧ gtB K q.C q.x q.d.qual = true
theorem map_eq_on {α β : Type} {f g : α → β} : ∀ {l : List α}, l.map f = l.map g → ∀ x ∈ l, f x = g x
  | [], _, _, h => nomatch h
  | a :: l, e, x, h => by
    rw [List.map_cons, List.map_cons] at e
    injection e with e1 e2
    rcases List.mem_cons.mp h with rfl | h
    · exact e1
    · exact map_eq_on e2 x h
def hookP (n : Nat) (fa : List Fa) (fn : List DefD) (ex : PySem.W.Frag → Bool) (gt : List GtD) : PySem.W.Hook where
  α := AlP
  obs := fun s => obsP n fa fn ex gt s.heap.get?
  val := fun w => valP fn gt w
  says := fun w h => ∃ K : PySem.W.Frag, K.In h ∧ SaysP fa fn ex gt w h K
  of := fun w s e => ⟨_, frT_in, saysX_of (congrArg (fun z : AlP => z.1) e), fun q hq => ⟨map_eq_on (congrArg (fun z : AlP => z.2.1) e) q hq, List.all_eq_true.mp (congrArg (fun z : AlP => z.2.2) e) q hq⟩⟩
  keeps := fun _ _ _ ⟨K, hK, c⟩ k => ⟨K, PySem.W.Frag.In.keeps hK k, ⟨⟨c.x.t, c.x.more, c.x.hd, c.x.out, fun p hp => k _ _ (c.x.empty p hp)⟩, c.g⟩⟩
theorem obsP_eq {n : Nat} {fa : List Fa} {fn : List DefD} {ex : PySem.W.Frag → Bool} {gt : List GtD} {g : Addr → Option Obj} {s : Shared} (h : ∀ a, g a = s.heap.get? a) : obsP n fa fn ex gt g = (hookP n fa fn ex gt).obs s := by
  have e : g = s.heap.get? := funext h
  rw [e] <;> rfl
end Ds
end F14
section F15
namespace Ds
open PySem PySem.Spec PyProof.Rows L2 He
/-! ### a text nought times or once -/
end Ds
end F15
section F16
namespace Ds
open PySem PySem.Spec PyProof.Rows L2 He
/-! ### a new instance within a try: what its __init__ raises is wished for at the slots as they stand -/
section
variable {X : Cx} {CX : CXT} {k j : Nat} {f C : Addr} {fd : FuncData} {ps ks : List Str} {sp : Sp} {E : XK} {W : WX} {x : Str} {p pos : Pos} {e : Expr} {es : List Expr} {kws : List Keyword} {t tk : TA} {gV : List V → List V → List V}
/-- by keywords alone: the values in the parameters' order -/
structure CalCX (P : Program) (w : World) (K : PySem.W.Frag) (mg : Str → Option Value) (base : Heap) (CX : CXT) (k : Nat) (x : Str) (C : Addr) (ps ks : List Str) (g : {α : Type} → List α → List α) (sp : Sp) : Prop where
  gl : mg x = some (.ref C)
  ex : ∃ f fd, FnOk P w K mg base CX k f fd ps sp ∧ Mk K C f ∧ ∀ (s : Shared) (o : Addr) (ws : List Value), K.In s.heap → ws.length = ks.length → BindsTo s fd ⟨[.ref o], ks.zip ws⟩ (ps.zip (.ref o :: g ws))
  rel : ∀ {vs : List V} {us : List Value}, Vals vs us → Vals (g vs) (g us)
end
section
variable {σ : L2.St} {H : Hp} {Q : VK} {C : Addr} {sp : Sp} {E : L2.St → XK} {t : TA}
end
theorem ErrAll.cls {K : PySem.W.Frag} {mg : Str → Option Value} (T : ErrAll K mg) (x : Str) (hx : x ∈ errNames) : ErrC K mg x := by
  simp only [errNames, List.mem_cons, List.mem_nil_iff, or_false] at hx
  rcases hx with rfl | rfl | rfl | rfl | rfl | rfl | rfl | rfl | rfl | rfl | rfl
  · exact T.DeedError
  · exact T.InvalidName
  · exact T.InvalidArrow
  · exact T.InvalidPair
  · exact T.InvalidNumber
  · exact T.InvalidWeights
  · exact T.InvalidDeed
  · exact T.NotTold
  · exact T.NothingToUndo
  · exact T.TooMany
  · exact T.Unreadable
end Ds
end F16
section F17
/-! Dicts whose keys are pairs of a text and a bool, whose values are bools. -/
namespace Da
open PySem PySem.Spec PyProof.Rows L2 He Ds
abbrev BKey := Str × Bool
abbrev BRow := BKey × Addr × Bool
def bLf (k : BKey) : List Leaf := [.text k.1, .num (if k.2 = true then 1 else 0)]
def bV (k : BKey) : List V := [.str k.1, .bl k.2]
theorem bLf_inj {k j : BKey} (h : bLf k = bLf j) : k = j := by
  obtain ⟨x, b⟩ := k
  obtain ⟨y, c⟩ := j
  injection h with h1 h2
  injection h1 with h1
  injection h2 with h2 _
  injection h2 with h2
  subst h1
  cases b <;> cases c <;> first | rfl | (simp at h2)
def bRow (r : BRow) : List Leaf × Addr × Value := (bLf r.1, r.2.1, .bool r.2.2)
def bEnt (w : World) (r : BRow) : DictEntry := ⟨reduceHash (Builtin.Tuple.tupleHashOf ((bLf r.1).map fun k => k.key.hash w)), .ref r.2.1, .bool r.2.2⟩
def dbO (w : World) (a : Addr) (rows : List BRow) : HO := .ext fun h => rows.length ≤ sizeLine ∧ (a == sysModules) = false ∧
  ∃ o es ep, h.get? a = some o ∧ o.ExactDict ∧ o.data = .dict es ep ∧ es.toList = rows.map (bEnt w) ∧ (rows.map (·.1)).Nodup
/-- the keys of the rows stand in the heap -/
def BKeys (H : Hp) (rows : List BRow) : Prop := ∀ r ∈ rows, H r.2.1 = some (.tup (bV r.1))
theorem BKeys.up {H H' : Hp} {rows : List BRow} (h : BKeys H rows) (s : Same H H') : BKeys H' rows := fun r hr => s _ _ (h r hr)
section
variable {P : Program} {w : World} {H : Hp} {h : Heap} {a : Addr}
theorem bkey_of {k : BKey} {b : Addr} (ok : HOk P w H h) (e : H b = some (.tup (bV k))) : (tupleKind (leafKind P w)).is h (bLf k) b := by
  obtain ⟨_, its, r, o, h1, h2, n, h3⟩ := (show ObjOk P w H h b (.tup (bV k)) from ok b _ e)
  obtain ⟨x, c⟩ := k
  refine ⟨o, its.toArray, n, h1, h2, h3, ?_⟩
  cases r with
  | cons r1 r2 => cases r2 with
    | cons r2 r3 => cases r3 with
      | nil =>
        obtain ⟨t, e1⟩ := (show ∃ t, _ = Value.str x t from r1)
        have e2 := (show _ = Value.bool c from r2)
        subst e1 e2
        have l1 : (leafKind P w).is (.text x) (.str x t) = true := by show (x == x) = true; simp
        have l2 : (leafKind P w).is (.num (if c = true then 1 else 0)) (.bool c) = true := by cases c <;> rfl
        exact .cons l1 (.cons l2 .nil)
theorem nodup_inj {α β : Type} {f : α → β} (hf : ∀ x y, f x = f y → x = y) : ∀ {l : List α}, l.Nodup → (l.map f).Nodup
  | [], _ => List.nodup_nil
  | x :: l, h => by
    rw [List.map_cons]
    obtain ⟨h1, h2⟩ := List.nodup_cons.mp h
    refine List.nodup_cons.mpr ⟨fun hm => ?_, nodup_inj hf h2⟩
    obtain ⟨y, hy, e⟩ := List.mem_map.mp hm
    exact h1 (hf _ _ e ▸ hy)
theorem bdict_of {rows : List BRow} (ok : HOk P w H h) (e : H a = some (dbO w a rows)) (hk : BKeys H rows) : rows.length ≤ sizeLine ∧ (a == sysModules) = false ∧ h.DictOfH (tupleKind (leafKind P w)) a (rows.map bRow) := by
  obtain ⟨⟨h1, h2, o, es, ep, h3, h4, h5, h6, h7⟩, _, _⟩ := (show ObjOk P w H h a (dbO w a rows) from ok a _ e)
  refine ⟨h1, h2, o, es, ep, h3, h4, h5, ?_, fun x hx => ?_, ?_⟩
  · rw [h6, List.map_map]
    exact List.map_congr_left fun r _ => rfl
  · obtain ⟨r, hr, rfl⟩ := List.mem_map.mp hx
    exact bkey_of ok (hk r hr)
  · rw [List.map_map]
    have := nodup_inj (f := bLf) (fun _ _ => bLf_inj) h7
    rwa [List.map_map] at this
theorem bok_of {rows : List BRow} {H' : Hp} {h' : Heap} {o : Obj} {es : Array DictEntry} {ep : Nat} (h1 : rows.length ≤ sizeLine) (h2 : (a == sysModules) = false) (h3 : h'.get? a = some o) (h4 : o.ExactDict) (h5 : o.data = .dict es ep) (h6 : es.toList = rows.map (bEnt w)) (h7 : (rows.map (·.1)).Nodup) : ObjOk P w H' h' a (dbO w a rows) :=
  ⟨⟨h1, h2, o, es, ep, h3, h4, h5, h6, h7⟩, ⟨o, h3⟩, fun _ _ ⟨g1, g2, o, es, ep, g3, g4⟩ k => ⟨g1, g2, o, es, ep, k _ g3, g4⟩⟩
def bAt (rows : List BRow) (k : BKey) : Option Bool := (rows.find? fun r => decide (r.1 = k)).map (·.2.2)
theorem bAt_row {k : BKey} : ∀ {rows : List BRow}, (atKey (rows.map bRow) (bLf k)).map (·.2) = (bAt rows k).map Value.bool
  | [] => rfl
  | r :: rows => by
    have ih := bAt_row (k := k) (rows := rows)
    by_cases c : r.1 = k
    · have c' : (bRow r).1 = bLf k := by show bLf r.1 = _; rw [c]
      simp [atKey, bAt, List.find?_cons, c, c', bRow]
    · have c' : ¬ (bRow r).1 = bLf k := fun z => c (bLf_inj z)
      have e1 : atKey ((r :: rows).map bRow) (bLf k) = atKey (rows.map bRow) (bLf k) := by simp [atKey, List.find?_cons, c']
      have e2 : bAt (r :: rows) k = bAt rows k := by simp [bAt, List.find?_cons, c]
      rw [e1, e2, ih]
end
/-- {}, to be such a dict -/
def tDNewB (w : World) : TE := fun _ H Q => ∀ p, H p = none → Q (.ref p) (upd H p (dbO w p []))
def tDGetB (w : World) (td ty : TE) : TE := fun σ H Q => td σ H fun x H1 => ty σ H1 fun y H2 => ∃ a rows k b c, x = .ref a ∧ H2 a = some (dbO w a rows) ∧ BKeys H2 rows ∧ y = .ref b ∧ H2 b = some (.tup (bV k)) ∧ bAt rows k = some c ∧ Q (.bl c) H2
def sDPutB (w : World) (td ty tv : TE) : TS := fun D σ H => tv σ H fun v H1 => td σ H1 fun x H2 => ty σ H2 fun y H3 => ∃ a rows k b c, x = .ref a ∧ v = .bl c ∧ H3 a = some (dbO w a rows) ∧ BKeys H3 rows ∧ y = .ref b ∧ H3 b = some (.tup (bV k)) ∧ k ∉ rows.map (·.1) ∧ rows.length < sizeLine ∧
  D.nx σ (upd H3 a (dbO w a (rows ++ [(k, b, c)])))
section
variable {X : Cx} {o i value : Expr} {pos pos' : Pos} {td ty tv : TE} {w : World}
theorem pe_dnewB (hw : X.w = w) : PE X (.Dict [] [] pos) (tDNewB w) := ⟨fun pins s σ H Q I h => by
  have big := I.big
  have ok0 : ObjOk X.prog X.w (upd H s.heap.objs.size (dbO w s.heap.objs.size [])) (s.heap.push { cls := .type "dict", data := .dict #[] }) s.heap.objs.size (dbO w s.heap.objs.size []) := by
    subst hw
    exact bok_of (Nat.zero_le _) (beq_eq_false_iff_ne.mpr fun z => absurd big (by rw [← z]; exact Nat.lt_irrefl _)) (Heap.get?_push_size _ rfl) ⟨rfl, rfl, rfl⟩ rfl rfl List.nodup_nil
  have I2 := I.laid (t' := s.toks) (o := dbO w s.heap.objs.size []) (a := s.heap.objs.size) (fun _ _ q => Heap.get?_push_of_some _ q) (Nat.le_refl _) ok0
  exact wpAny_Dict_empty ⟨.ref s.heap.objs.size, _, I2, rfl, h _ (I.hok.fresh (Nat.le_refl _))⟩⟩
theorem pe_dgetB (hw : X.w = w) (hu : X.A.units + 1 < cLine) (ho : PE X o td) (hi : PE X i ty) (hs : NoSl i) : PE X (.Subscript o i pos) (tDGetB w td ty) := by
  subst hw
  constructor
  intro pins s σ H Q I h
  refine subD_of PySem.F.slot_dict_getitem.lookup hs (thn (ho.run pins s σ H _ I h) fun u s1 ⟨x, H1, I1, rx, q1⟩ => thn (hi.run pins s1 σ H1 _ I1 q1) fun iv s2 hq => ?_)
  obtain ⟨y, H2, I2, ry, a, rows, k, b, c, ex, e, hk, ey, eb, hc, q2⟩ := hq
  subst ex ey
  have e1 : u = Value.ref a := rx
  have e2 : iv = Value.ref b := ry
  subst e1 e2
  obtain ⟨z, hd, dd⟩ := bdict_of I2.hok e hk
  have hat := bAt_row (rows := rows) (k := k)
  rw [hc] at hat
  obtain ⟨p, hp, hp2⟩ := Option.map_eq_some_iff.mp hat
  refine ⟨dd.typeIs, wpAny_getItem_heap (tupleKind_room_in1 hu) (bkey_of I2.hok eb) dd hp ?_⟩
  rw [hp2]
  exact ⟨.bl c, H2, I2.tok _, rfl, q2⟩
theorem ps_dputB (hw : X.w = w) (hu : X.A.units + 1 < cLine) (ho : PE X o td) (hi : PE X i ty) (hv : PE X value tv) (hs : swapsWith value (some (.Subscript o i pos')) pos.line X.env = pure false) :
    PS X (.Assign [.Subscript o i pos'] value pos) (sDPutB w td ty tv) := by
  subst hw
  constructor
  intro pins s σ H D I h
  refine wpAny_Assign_Subscript (thn (hv.run pins s σ H _ I h) fun r s1 ⟨v, H1, I1, rv, q1⟩ => thn (ho.run pins s1 σ H1 _ I1 q1) fun u s2 ⟨x, H2, I2, rx, q2⟩ => thn (hi.run pins s2 σ H2 _ I2 q2) fun iv s3 hq => ?_) hs
  obtain ⟨y, H3, I3, ry, a, rows, k, b, c, ex, ev, e, hk, ey, eb, hn, hl, q3⟩ := hq
  subst ex ev ey
  have e1 : u = Value.ref a := rx
  have e2 : iv = Value.ref b := ry
  have e3 : r = Value.bool c := rv
  subst e1 e2 e3
  obtain ⟨z, hd, dd⟩ := bdict_of I3.hok e hk
  have hz : (rows.map bRow).length ≤ sizeLine := by rw [List.length_map]; exact z
  have hat : atKey (rows.map bRow) (bLf k) = none := by
    have h0 : bAt rows k = none := by
      unfold bAt
      have : (rows.find? fun r => decide (r.1 = k)) = none := List.find?_eq_none.mpr fun r hr hd => hn (of_decide_eq_true hd ▸ List.mem_map_of_mem hr)
      rw [this]; rfl
    have h1 := bAt_row (rows := rows) (k := k)
    rw [h0] at h1
    exact Option.map_eq_none_iff.mp h1
  refine wpAny_setItem_heap (hsz := hz) (tupleKind_room_in1 hu) (bkey_of I3.hok eb) dd fun h' dd' hsb => ?_
  obtain ⟨o', es, ep, g3, g4, g5, g6, _, g7⟩ := dd'
  rw [storedH_new hat] at g6 g7
  have nd : ((rows ++ [(k, b, c)]).map (·.1)).Nodup := by
    obtain ⟨⟨_, _, _, _, _, _, _, _, _, h7⟩, _, _⟩ := (show ObjOk X.prog X.w H3 s3.heap a (dbO X.w a rows) from I3.hok a _ e)
    rw [List.map_append, List.nodup_append]
    refine ⟨h7, by simp, fun x hx y hy exy => hn ?_⟩
    have hy' : y = k := by simpa using hy
    rw [← hy', ← exy]
    exact hx
  have new : ObjOk X.prog X.w (upd H3 a (dbO X.w a (rows ++ [(k, b, c)]))) h' a (dbO X.w a (rows ++ [(k, b, c)])) := by
    refine bok_of (by rw [List.length_append, List.length_singleton]; omega) hd g3 g4 g5 ?_ nd
    rw [g6, List.map_append, List.map_map, List.map_append]
    rfl
  exact ⟨σ, _, d_write (ob := dbO X.w a (rows ++ [(k, b, c)])) I3 (by rw [e]; exact True.intro) hsb ⟨o', g3⟩ new, q3⟩
end
end Da
end F17
section F18
/-! Data without a heap: what a value stands for, and what a program's parts do with it. -/
namespace Da
open PySem PySem.Spec PyProof.Rows L2 He Ds
/-- what a value stands for -/
inductive D where
  | non | bl (b : Bool) | int (i : Int) | str (s : Str) | lst (xs : List D) | tup (xs : List D) | dic (ks : List Key) (xs : List D) | obj (C : Str) (ns : List Str) (xs : List D) | rep (e : PyData) | dicT (ks : List (List Key)) (xs : List D) | dicB (w : World) (t : List (BKey × Bool)) | exc (a : Addr) (k : Str) (x : Addr) (d : D)
mutual
def toPy : D → Option PyData
  | .non => some .none
  | .bl b => some (.bool b)
  | .int i => some (.int i)
  | .str s => some (.str s)
  | .lst xs => (toPys xs).map .list
  | .tup xs => (toPys xs).map .tuple
  | .dic _ _ => none
  | .obj _ _ _ => none
  | .rep _ => none
  | .dicT _ _ => none
  | .dicB _ _ => none
  | .exc _ _ _ _ => none
def toPys : List D → Option (List PyData)
  | [] => some []
  | x :: xs => (toPy x).bind fun y => (toPys xs).map fun ys => y :: ys
end
/- v stands for d in the heap G; F: where its lists may lie -/
mutual
inductive Dr (K : PySem.W.Frag) (G : Hp) : (Addr → Prop) → V → D → Prop
  | non {F : Addr → Prop} : Dr K G F .non .non
  | bl {F : Addr → Prop} (b : Bool) : Dr K G F (.bl b) (.bl b)
  | int {F : Addr → Prop} (i : Int) : Dr K G F (.int i) (.int i)
  | str {F : Addr → Prop} (x : Str) (h : SOk x) : Dr K G F (.str x) (.str x)
  | lst {F : Addr → Prop} {a : Addr} {xs : List V} {ds : List D} : G a = some (.lst xs) → F a → DrA K G F xs ds → Dr K G F (.ref a) (.lst ds)
  | tup {F : Addr → Prop} {a : Addr} {xs : List V} {ds : List D} : G a = some (.tup xs) → DrA K G F xs ds → Dr K G F (.ref a) (.tup ds)
  | dic {F : Addr → Prop} {a : Addr} {ks : List Key} {xs : List V} {ds : List D} : G a = some (.dK (ks.zip xs)) → ks.length = xs.length → F a → DrA K G F xs ds → Dr K G F (.ref a) (.dic ks ds)
  | obj {F : Addr → Prop} {a dx : Addr} {C : Str} {ns : List Str} {xs : List V} {ds : List D} : G a = some (.ins (ga K C) dx (ns.zip xs)) → ns.length = xs.length → DrA K G (fun _ => True) xs ds → Dr K G F (.ref a) (.obj C ns ds)
  | rep {F : Addr → Prop} (e : PyData) : Dr K G F (.str e.shown) (.rep e)
  | dicT {F : Addr → Prop} {a : Addr} {ks : List (List Key)} {xs : List V} {ds : List D} : G a = some (.dT (ks.zip xs)) → ks.length = xs.length → F a → DrA K G F xs ds → Dr K G F (.ref a) (.dicT ks ds)
  | dicB {F : Addr → Prop} {a : Addr} {w : World} {rows : List BRow} {t : List (BKey × Bool)} : G a = some (dbO w a rows) → BKeys G rows → F a → t = rows.map (fun r => (r.1, r.2.2)) → Dr K G F (.ref a) (.dicB w t)
  | exc {F : Addr → Prop} {a x : Addr} {k : Str} {v : V} {d : D} : G x = some (.xd [("value", v)]) → Dr K G (fun _ => True) v d → Dr K G F (.ref a) (.exc a k x d)
inductive DrA (K : PySem.W.Frag) (G : Hp) : (Addr → Prop) → List V → List D → Prop
  | nil {F : Addr → Prop} : DrA K G F [] []
  | cons {F : Addr → Prop} {v : V} {vs : List V} {d : D} {ds : List D} : Dr K G F v d → DrA K G F vs ds → DrA K G F (v :: vs) (d :: ds)
end
section
variable {K : PySem.W.Frag} {G G' : Hp} {F F' : Addr → Prop}
theorem seqT_same (s : Same G G') {a : Addr} {xs : List V} (h : SqT K G a xs) : SqT K G' a xs := by
  rcases h with (h | ⟨o, h⟩) | h
  · exact .inl (.inl (s _ _ h))
  · exact .inl (.inr ⟨o, s _ _ h⟩)
  · exact .inr h
mutual
theorem Dr.mono (s : Same G G') : ∀ {F F' : Addr → Prop} {v : V} {d : D}, (∀ a, F a → F' a) → Dr K G F v d → Dr K G' F' v d
  | _, _, _, _, _, .non => .non
  | _, _, _, _, _, .bl b => .bl b
  | _, _, _, _, _, .int i => .int i
  | _, _, _, _, _, .str x h => .str x h
  | _, _, _, _, f, .lst e h t => .lst (s _ _ e) (f _ h) (DrA.mono s f t)
  | _, _, _, _, f, .tup e t => .tup (s _ _ e) (DrA.mono s f t)
  | _, _, _, _, f, .dic e l h t => .dic (s _ _ e) l (f _ h) (DrA.mono s f t)
  | _, _, _, _, _, .obj e l t => .obj (s _ _ e) l (DrA.mono s (fun _ x => x) t)
  | _, _, _, _, _, .rep e => .rep e
  | _, _, _, _, f, .dicT e l h t => .dicT (s _ _ e) l (f _ h) (DrA.mono s f t)
  | _, _, _, _, f, .dicB e k h t => .dicB (s _ _ e) (k.up s) (f _ h) t
  | _, _, _, _, _, .exc e h => .exc (s _ _ e) (Dr.mono s (fun _ x => x) h)
theorem DrA.mono (s : Same G G') : ∀ {F F' : Addr → Prop} {vs : List V} {ds : List D}, (∀ a, F a → F' a) → DrA K G F vs ds → DrA K G' F' vs ds
  | _, _, _, _, _, .nil => .nil
  | _, _, _, _, f, .cons h t => .cons (Dr.mono s f h) (DrA.mono s f t)
end
theorem Dr.top {v : V} {d : D} (h : Dr K G F v d) : Dr K G (fun _ => True) v d := h.mono (Same.refl G) fun _ _ => trivial
theorem DrA.top {v : List V} {d : List D} (h : DrA K G F v d) : DrA K G (fun _ => True) v d := h.mono (Same.refl G) fun _ _ => trivial
theorem Dr.up {v : V} {d : D} (h : Dr K G F v d) (s : Same G G') : Dr K G' F v d := h.mono s fun _ x => x
theorem DrA.up {v : List V} {d : List D} (h : DrA K G F v d) (s : Same G G') : DrA K G' F v d := h.mono s fun _ x => x
theorem DrA.len : ∀ {F : Addr → Prop} {vs : List V} {ds : List D}, DrA K G F vs ds → vs.length = ds.length
  | _, _, _, .nil => rfl
  | _, _, _, .cons _ t => by rw [List.length_cons, List.length_cons, DrA.len t]
theorem DrA.get : ∀ {F : Addr → Prop} {vs : List V} {ds : List D} {i : Nat} {v : V}, DrA K G F vs ds → vs[i]? = some v → ∃ d, ds[i]? = some d ∧ Dr K G F v d
  | _, _, _, _, _, .nil, e => by simp at e
  | _, _, _, 0, _, .cons h _, e => by
    simp at e
    subst e
    exact ⟨_, rfl, h⟩
  | _, _, _, i + 1, _, .cons _ t, e => by
    obtain ⟨d, e1, e2⟩ := DrA.get t (i := i) (by simpa using e)
    exact ⟨d, by simpa using e1, e2⟩
theorem DrA.get' {F : Addr → Prop} {vs : List V} {ds : List D} {i : Nat} {d : D} (h : DrA K G F vs ds) (e : ds[i]? = some d) : ∃ v, vs[i]? = some v ∧ Dr K G F v d := by
  have l := h.len
  obtain ⟨h1, _⟩ := List.getElem?_eq_some_iff.mp e
  have h2 : vs[i]? = some vs[i] := List.getElem?_eq_getElem (by omega)
  obtain ⟨d', e1, e2⟩ := h.get h2
  rw [e] at e1
  cases e1
  exact ⟨_, h2, e2⟩
theorem DrA.append : ∀ {F : Addr → Prop} {vs ws : List V} {ds es : List D}, DrA K G F vs ds → DrA K G F ws es → DrA K G F (vs ++ ws) (ds ++ es)
  | _, _, _, _, _, .nil, s => s
  | _, _, _, _, _, .cons h t, s => .cons h (DrA.append t s)
theorem DrA.take : ∀ {F : Addr → Prop} {vs : List V} {ds : List D} (n : Nat), DrA K G F vs ds → DrA K G F (vs.take n) (ds.take n)
  | _, _, _, 0, _ => .nil
  | _, _, _, _ + 1, .nil => .nil
  | _, _, _, n + 1, .cons h t => .cons h (DrA.take n t)
theorem DrA.drop : ∀ {F : Addr → Prop} {vs : List V} {ds : List D} (n : Nat), DrA K G F vs ds → DrA K G F (vs.drop n) (ds.drop n)
  | _, _, _, 0, h => h
  | _, _, _, _ + 1, .nil => .nil
  | _, _, _, n + 1, .cons _ t => DrA.drop n t
theorem DrA.set : ∀ {F : Addr → Prop} {vs : List V} {ds : List D} {v : V} {d : D} (n : Nat), DrA K G F vs ds → Dr K G F v d → DrA K G F (vs.set n v) (ds.set n d)
  | _, _, _, _, _, _, .nil, _ => .nil
  | _, _, _, _, _, 0, .cons _ t, h => .cons h t
  | _, _, _, _, _, n + 1, .cons k t, h => .cons k (DrA.set n t h)
theorem DrA.erase : ∀ {F : Addr → Prop} {vs : List V} {ds : List D} (n : Nat), DrA K G F vs ds → DrA K G F (vs.eraseIdx n) (ds.eraseIdx n)
  | _, _, _, _, .nil => .nil
  | _, _, _, 0, .cons _ t => t
  | _, _, _, n + 1, .cons h t => .cons h (DrA.erase n t)
theorem DrA.rev {F : Addr → Prop} : ∀ {vs : List V} {ds : List D}, DrA K G F vs ds → DrA K G F vs.reverse ds.reverse
  | _, _, .nil => .nil
  | _, _, .cons h t => by
    rw [List.reverse_cons, List.reverse_cons]
    exact DrA.append (DrA.rev t) (.cons h .nil)
theorem DrA.ints {F : Addr → Prop} : ∀ {xs : List Int}, DrA K G F (xs.map V.int) (xs.map D.int)
  | [] => .nil
  | x :: xs => .cons (.int x) DrA.ints
theorem DrA.bls_of {F : Addr → Prop} : ∀ {vs : List V} {xs : List Bool}, DrA K G F vs (xs.map D.bl) → vs = xs.map V.bl
  | _, [], h => by cases h; rfl
  | _, x :: xs, h => by
    cases h with
    | cons h t =>
      cases h with
      | bl _ => rw [DrA.bls_of t]; rfl
theorem omap {α β : Type} {f : α → β} {o : Option α} {b : β} (h : o.map f = some b) : ∃ a, o = some a ∧ b = f a := by
  cases o with
  | none => cases h
  | some a => exact ⟨a, rfl, (Option.some.inj h).symm⟩
mutual
/-- plain data may be asked for == and shown -/
theorem Dr.py : ∀ {F : Addr → Prop} {v : V} {d : D} {e : PyData}, Dr K G F v d → toPy d = some e → Dp K G v e ∧ e.canLay0 = true
  | _, _, _, _, .non, h => by cases h; exact ⟨.non, by simp [PyData.canLay0]⟩
  | _, _, _, _, .bl b, h => by cases h; exact ⟨.bl b, by simp [PyData.canLay0]⟩
  | _, _, _, _, .int i, h => by cases h; exact ⟨.int i, by simp [PyData.canLay0]⟩
  | _, _, _, _, .str x k, h => by cases h; exact ⟨.str x, by simpa [PyData.canLay0] using k⟩
  | _, _, _, _, .lst g _ t, h => by
    rw [toPy] at h
    obtain ⟨ys, e1, rfl⟩ := omap h
    obtain ⟨h1, h2⟩ := DrA.py t e1
    exact ⟨.lst (SqL.of g) h1, by simpa [PyData.canLay0] using h2⟩
  | _, _, _, _, .tup g t, h => by
    rw [toPy] at h
    obtain ⟨ys, e1, rfl⟩ := omap h
    obtain ⟨h1, h2⟩ := DrA.py t e1
    exact ⟨.tup (SqT.of g) h1, by simpa [PyData.canLay0] using h2⟩
  | _, _, _, _, .dic _ _ _ _, h => by rw [toPy] at h; cases h
  | _, _, _, _, .obj _ _ _, h => by rw [toPy] at h; cases h
  | _, _, _, _, .rep _, h => by rw [toPy] at h; cases h
  | _, _, _, _, .dicT _ _ _ _, h => by rw [toPy] at h; cases h
  | _, _, _, _, .dicB _ _ _ _, h => by rw [toPy] at h; cases h
  | _, _, _, _, .exc _ _, h => by rw [toPy] at h; cases h
theorem DrA.py : ∀ {F : Addr → Prop} {v : List V} {d : List D} {e : List PyData}, DrA K G F v d → toPys d = some e → DpAll K G v e ∧ PyData.canLayAll0 e = true
  | _, _, _, _, .nil, h => by cases h; exact ⟨.nil, by simp [PyData.canLayAll0]⟩
  | _, _, _, _, .cons a t, h => by
    rw [toPys] at h
    obtain ⟨y, e1, h⟩ := Option.bind_eq_some_iff.mp h
    obtain ⟨ys, e2, rfl⟩ := omap h
    obtain ⟨h1, h2⟩ := Dr.py a e1
    obtain ⟨h3, h4⟩ := DrA.py t e2
    exact ⟨.cons h1 h3, by simp [PyData.canLayAll0, h2, h4]⟩
end
end
/-! ### slots -/
/-- what is known of a name: nothing; a datum (fr: its lists are the call's own); a list, a dict that the call has for itself, its items; the drawn ints, which the call changes; the instance that is being made -/
inductive Slot where
  | no | dat (fr : Bool) (d : D) | own (fr : Bool) (ds : List D) | dct (fr : Bool) (ks : List Key) (ds : List D) | dcT (fr : Bool) (ks : List (List Key)) (ds : List D) | dcB (w : World) (t : List (BKey × Bool)) | own2 (fr : Bool) (k : Option (List (List Key))) (dss : List (List D)) | pool (ns : List Int) | slf (C : Str) (ns : List Str) (ds : List D)
/-- one call: the written part, the heap that it met, what of it is data, what it may change -/
structure Cc where
  K : PySem.W.Frag
  H0 : Hp
  G0 : Hp
  IO : Addr → Prop
  io0 : ∀ p, IO p → H0 p ≠ none
def Fl (c : Cc) (fr : Bool) : Addr → Prop := fun a => fr = true → c.G0 a = none
abbrev En := Option V × Slot
/-- the lists of the call's own that stand in one -/
inductive InL (c : Cc) (G H : Hp) (fr : Bool) : List Addr → List (List D) → Prop
  | nil : InL c G H fr [] []
  | cons {a : Addr} {as : List Addr} {vs : List V} {ds : List D} {dss : List (List D)} : c.H0 a = none → G a = none → H a = some (.lst vs) → DrA c.K G (Fl c fr) vs ds → InL c G H fr as dss → InL c G H fr (a :: as) (ds :: dss)
def refs (as : List Addr) : List V := as.map V.ref
def o2 (k : Option (List (List Key))) (as : List Addr) : HO := match k with
  | none => .lst (refs as)
  | some ks => .dT (ks.zip (refs as))
def o2len (k : Option (List (List Key))) (n : Nat) : Prop := match k with
  | none => True
  | some ks => ks.length = n
/-- what stands at the address of a thing that may change -/
def Held (c : Cc) (G H : Hp) (p : Addr) : Slot → Prop
  | .own fr ds => c.H0 p = none ∧ ∃ vs, H p = some (.lst vs) ∧ DrA c.K G (Fl c fr) vs ds
  | .dct fr ks ds => c.H0 p = none ∧ ∃ vs, H p = some (.dK (ks.zip vs)) ∧ ks.length = vs.length ∧ DrA c.K G (Fl c fr) vs ds
  | .dcT fr ks ds => c.H0 p = none ∧ ∃ vs, H p = some (.dT (ks.zip vs)) ∧ ks.length = vs.length ∧ DrA c.K G (Fl c fr) vs ds
  | .dcB w t => c.H0 p = none ∧ ∃ rows, H p = some (dbO w p rows) ∧ BKeys G rows ∧ t = rows.map (fun r => (r.1, r.2.2))
  | .own2 fr k dss => c.H0 p = none ∧ ∃ as, H p = some (o2 k as) ∧ o2len k as.length ∧ InL c G H fr as dss
  | .pool ns => c.IO p ∧ H p = some (.lst (ns.map V.int))
  | .slf C ns ds => c.IO p ∧ ∃ dx vs, H p = some (.ins (ga c.K C) dx (ns.zip vs)) ∧ ns.length = vs.length ∧ DrA c.K G (fun _ => True) vs ds
  | _ => False
def isOwn : Slot → Bool
  | .no => false
  | .dat _ _ => false
  | _ => true
def SlotOk (c : Cc) (G H : Hp) (x : En) : Prop :=
  match x.2 with
  | .no => True
  | .dat fr d => ∃ v, x.1 = some v ∧ Dr c.K G (Fl c fr) v d
  | s => ∃ p, x.1 = some (.ref p) ∧ G p = none ∧ H p ≠ none ∧ Held c G H p s
def refOf : V → Option Addr
  | .ref a => some a
  | _ => none
def subs : Option HO → List Addr
  | some (.lst vs) => vs.filterMap refOf
  | some (.dT kvs) => kvs.filterMap fun kv => refOf kv.2
  | _ => []
def isNest : Slot → Bool
  | .own2 _ _ _ => true
  | _ => false
/-- the addresses that an entry has for itself -/
def ownL (H : Hp) (x : En) : List Addr :=
  if isOwn x.2 = true then (match x.1 with | some (.ref p) => p :: (if isNest x.2 = true then subs (H p) else []) | _ => []) else []
abbrev ownE (H : Hp) (E : List En) : List Addr := E.flatMap (ownL H)
theorem subs_refs : ∀ {as : List Addr}, (refs as).filterMap refOf = as
  | [] => rfl
  | a :: as => by
    show (V.ref a :: refs as).filterMap refOf = _
    rw [List.filterMap_cons]
    exact congrArg (a :: ·) subs_refs
theorem subs_zip : ∀ {ks : List (List Key)} {as : List Addr}, ks.length = as.length → (ks.zip (refs as)).filterMap (fun kv => refOf kv.2) = as
  | [], [], _ => rfl
  | k :: ks, a :: as, h => by
    show ((k, V.ref a) :: ks.zip (refs as)).filterMap (fun kv => refOf kv.2) = _
    rw [List.filterMap_cons]
    exact congrArg (a :: ·) (subs_zip (by simpa using h))
  | [], _ :: _, h => by simp at h
  | _ :: _, [], h => by simp at h
theorem subs_o2 {k : Option (List (List Key))} {as : List Addr} (h : o2len k as.length) : subs (some (o2 k as)) = as := by
  cases k with
  | none => exact subs_refs
  | some ks => exact subs_zip h
theorem ownL_self {H : Hp} {p : Addr} {s : Slot} (hs : isOwn s = true) : p ∈ ownL H (some (.ref p), s) := by unfold ownL; rw [if_pos hs]; exact List.mem_cons_self
theorem ownL_one {H : Hp} {p : Addr} {s : Slot} (hs : isOwn s = true) (hn : isNest s = false) : ownL H (some (.ref p), s) = [p] := by unfold ownL; rw [if_pos hs]; show p :: (if isNest s = true then _ else []) = _; rw [hn]; rfl
theorem ownL_none {H : Hp} {x : En} (hs : isOwn x.2 = false) : ownL H x = [] := by unfold ownL; rw [hs]; rfl
structure Rel (c : Cc) (G H : Hp) (E : List En) : Prop where
  fr : ∀ b o, c.H0 b = some o → ¬ c.IO b → H b = some o
  al : ∀ b, c.H0 b ≠ none → H b ≠ none
  gs : Same G H
  g0 : Same c.G0 G
  gg : ∀ b, c.H0 b ≠ none → G b = c.G0 b
  sl : ∀ x ∈ E, SlotOk c G H x
  nd : (ownE H E).Nodup
theorem slot_own {c : Cc} {G H : Hp} {o : Option V} {s : Slot} (hs : isOwn s = true) : SlotOk c G H (o, s) ↔ ∃ p, o = some (.ref p) ∧ G p = none ∧ H p ≠ none ∧ Held c G H p s := by
  cases s with
  | no => cases hs
  | dat _ _ => cases hs
  | _ => exact Iff.rfl
theorem InL.mem {c : Cc} {G H : Hp} {fr : Bool} {p : Addr} : ∀ {as : List Addr} {dss : List (List D)}, InL c G H fr as dss → p ∈ as → c.H0 p = none ∧ G p = none ∧ H p ≠ none
  | _, _, .nil, h => by simp at h
  | _, _, .cons h0 g h d t, hm => by
    rcases List.mem_cons.mp hm with rfl | hm
    · exact ⟨h0, g, by rw [h]; intro z; cases z⟩
    · exact t.mem hm
theorem SlotOk.own {c : Cc} {G H : Hp} {x : En} {p : Addr} (h : SlotOk c G H x) (e : p ∈ ownL H x) : H p ≠ none ∧ G p = none := by
  obtain ⟨o, s⟩ := x
  by_cases hs : isOwn s = true
  · obtain ⟨q, rfl, h1, h2, h3⟩ := (slot_own hs).mp h
    unfold ownL at e
    rw [if_pos hs] at e
    rcases List.mem_cons.mp e with rfl | e
    · exact ⟨h2, h1⟩
    · cases s with
      | own2 fr k dss =>
        obtain ⟨_, as, h4, h5, h6⟩ := h3
        have e' : p ∈ subs (H q) := e
        rw [h4, subs_o2 h5] at e'
        exact ⟨(h6.mem e').2.2, (h6.mem e').2.1⟩
      | _ => exact absurd e (by simp [isNest])
  · rw [ownL_none (by simpa using hs)] at e
    simp at e
theorem InL.keep {c : Cc} {G H G' H' : Hp} {fr : Bool} (sg : Same G G') : ∀ {as : List Addr} {dss : List (List D)}, InL c G H fr as dss → (∀ a ∈ as, H' a = H a ∧ G' a = G a) → InL c G' H' fr as dss
  | _, _, .nil, _ => .nil
  | _, _, .cons h0 g h d t, k => .cons h0 (by rw [(k _ List.mem_cons_self).2, g]) (by rw [(k _ List.mem_cons_self).1, h]) (d.up sg) (t.keep sg fun a ha => k a (List.mem_cons_of_mem _ ha))
theorem Held.keep {c : Cc} {G H G' H' : Hp} {p : Addr} {s : Slot} (h : Held c G H p s) (sg : Same G G') (e : H' p = H p) (n : isNest s = true → ∀ a ∈ subs (H p), H' a = H a ∧ G' a = G a) : Held c G' H' p s := by
  cases s with
  | own2 fr k dss =>
    obtain ⟨h1, as, h2, h3, h4⟩ := h
    refine ⟨h1, as, by rw [e, h2], h3, h4.keep sg ?_⟩
    have := n rfl
    rwa [h2, subs_o2 h3] at this
  | no => exact h
  | dat _ _ => exact h
  | own fr ds =>
    obtain ⟨h1, vs, h2, h3⟩ := h
    exact ⟨h1, vs, by rw [e, h2], h3.up sg⟩
  | dct fr ks ds =>
    obtain ⟨h1, vs, h2, hl, h3⟩ := h
    exact ⟨h1, vs, by rw [e, h2], hl, h3.up sg⟩
  | dcT fr ks ds =>
    obtain ⟨h1, vs, h2, hl, h3⟩ := h
    exact ⟨h1, vs, by rw [e, h2], hl, h3.up sg⟩
  | dcB w t =>
    obtain ⟨h1, rows, h2, hk, h3⟩ := h
    exact ⟨h1, rows, by rw [e, h2], hk.up sg, h3⟩
  | pool ns => exact ⟨h.1, by rw [e]; exact h.2⟩
  | slf C ns ds =>
    obtain ⟨h1, dx, vs, h2, hl, h3⟩ := h
    exact ⟨h1, dx, vs, by rw [e, h2], hl, h3.up sg⟩
/-- a slot stays what it is while what it stands on stays -/
theorem SlotOk.keep {c : Cc} {G H G' H' : Hp} {x : En} (h : SlotOk c G H x) (s : Same G G') (k : ∀ p ∈ ownL H x, H' p = H p ∧ G' p = G p) : SlotOk c G' H' x := by
  obtain ⟨o, t⟩ := x
  by_cases ht : isOwn t = true
  · obtain ⟨p, rfl, h1, h2, h3⟩ := (slot_own ht).mp h
    obtain ⟨k1, k2⟩ := k p (ownL_self ht)
    refine (slot_own ht).mpr ⟨p, rfl, by rw [k2, h1], by rw [k1]; exact h2, h3.keep s k1 fun hn a ha => k a ?_⟩
    unfold ownL
    rw [if_pos ht]
    refine List.mem_cons_of_mem _ ?_
    show a ∈ (if isNest t = true then _ else [])
    rw [if_pos hn]
    exact ha
  · cases t with
    | no => exact trivial
    | dat fr d =>
      obtain ⟨v, e, r⟩ := h
      exact ⟨v, e, r.up s⟩
    | _ => exact absurd rfl ht
/-- .. and what it has for itself -/
theorem ownL_keep {H H' : Hp} {x : En} (k : ∀ p ∈ ownL H x, H' p = H p) : ownL H' x = ownL H x := by
  obtain ⟨o, t⟩ := x
  by_cases ht : isOwn t = true
  · cases o with
    | none => unfold ownL; rw [if_pos ht]
    | some v => cases v with
      | ref p =>
        have e := k p (ownL_self ht)
        unfold ownL
        rw [if_pos ht, if_pos ht]
        dsimp only
        rw [e]
      | _ => unfold ownL; rw [if_pos ht]
  · rw [ownL_none (by simpa using ht), ownL_none (by simpa using ht)]
theorem ownE_keep {H H' : Hp} : ∀ {E : List En}, (∀ x ∈ E, ∀ p ∈ ownL H x, H' p = H p) → ownE H' E = ownE H E
  | [], _ => rfl
  | x :: E, k => by
    unfold ownE
    rw [List.flatMap_cons, List.flatMap_cons, ownL_keep (k x List.mem_cons_self)]
    exact congrArg _ (ownE_keep fun y hy => k y (List.mem_cons_of_mem _ hy))
section
variable {c : Cc} {G H G' H' : Hp} {E E' : List En}
theorem mem_own {x : En} {p : Addr} (hx : x ∈ E) (e : p ∈ ownL H x) : p ∈ ownE H E := List.mem_flatMap.mpr ⟨x, hx, e⟩
theorem Rel.sub (R : Rel c G H E) (h : ∀ x ∈ E', x ∈ E) (nd : (ownE H E').Nodup) : Rel c G H E' :=
  ⟨R.fr, R.al, R.gs, R.g0, R.gg, fun x hx => R.sl x (h x hx), nd⟩
theorem flatMap_sub {α β : Type} {f : α → List β} {l m : List α} (h : l.Sublist m) : (l.flatMap f).Sublist (m.flatMap f) := by
  induction h with
  | slnil => exact .slnil
  | cons a _ ih => rw [List.flatMap_cons]; exact ih.trans (List.sublist_append_right _ _)
  | cons_cons a _ ih => rw [List.flatMap_cons, List.flatMap_cons]; exact (List.Sublist.refl _).append ih
theorem Rel.subl (R : Rel c G H E) (h : E'.Sublist E) : Rel c G H E' := R.sub (fun x hx => h.subset hx) (R.nd.sublist (flatMap_sub h))
theorem Rel.perm (R : Rel c G H E) (h : E'.Perm E) : Rel c G H E' := R.sub (fun x hx => h.mem_iff.mp hx) ((h.flatMap_right _).nodup_iff.mpr R.nd)
theorem Rel.tail {x : En} (R : Rel c G H (x :: E)) : Rel c G H E := R.subl (List.sublist_cons_self _ _)
/-- what others have done: more data, more objects -/
theorem Rel.grow (R : Rel c G H E) (sH : Same H H') (sG : Same G G') (gs : Same G' H') (gg : ∀ b, H b ≠ none → G' b = G b) : Rel c G' H' E := by
  have kk : ∀ x ∈ E, ∀ p ∈ ownL H x, H' p = H p ∧ G' p = G p := fun x hx p e => by
    obtain ⟨h1, _⟩ := (R.sl x hx).own e
    refine ⟨?_, gg p h1⟩
    cases q : H p with
    | none => exact absurd q h1
    | some o => exact sH _ _ q
  refine ⟨fun b o e hb => sH _ _ (R.fr b o e hb), fun b h z => ?_, gs, R.g0.trans sG, fun b h => ?_, fun x hx => ?_, ?_⟩
  · cases q : H b with
    | none => exact R.al b h q
    | some o => rw [sH _ _ q] at z; cases z
  · rw [gg b (R.al b h), R.gg b h]
  · exact (R.sl x hx).keep sG (kk x hx)
  · rw [ownE_keep fun x hx p e => (kk x hx p e).1]
    exact R.nd
theorem Rel.h0 (R : Rel c G H E) {p : Addr} (h : H p = none) : c.H0 p = none := by
  cases q : c.H0 p with
  | none => rfl
  | some o => exact absurd h (R.al p (by rw [q]; intro z; cases z))
theorem Rel.gn (R : Rel c G H E) {p : Addr} (h : H p = none) : G p = none := R.gs.free h
theorem Rel.g0n (R : Rel c G H E) {p : Addr} (h : G p = none) : c.G0 p = none := R.g0.free h
theorem Rel.cons (R : Rel c G H E) {x : En} (h : SlotOk c G H x) (nx : (ownL H x).Nodup) (n : ∀ p ∈ ownL H x, p ∉ ownE H E) : Rel c G H (x :: E) := by
  refine ⟨R.fr, R.al, R.gs, R.g0, R.gg, fun y hy => ?_, ?_⟩
  · rcases List.mem_cons.mp hy with rfl | hy
    · exact h
    · exact R.sl y hy
  · unfold ownE
    rw [List.flatMap_cons]
    exact List.nodup_append.mpr ⟨nx, R.nd, fun a ha b hb e => n a ha (e ▸ hb)⟩
theorem Rel.cons0 (R : Rel c G H E) {x : En} (h : SlotOk c G H x) (hs : isOwn x.2 = false) : Rel c G H (x :: E) :=
  R.cons h (by rw [ownL_none hs]; exact List.nodup_nil) fun p e => by rw [ownL_none hs] at e; simp at e
theorem Rel.dat (R : Rel c G H E) {v : V} {fr : Bool} {d : D} (h : Dr c.K G (Fl c fr) v d) : Rel c G H ((some v, .dat fr d) :: E) :=
  R.cons0 ⟨v, rfl, h⟩ rfl
theorem Rel.no (R : Rel c G H E) {o : Option V} : Rel c G H ((o, .no) :: E) := R.cons0 trivial rfl
/-- a new object that is data -/
theorem Rel.new (R : Rel c G H E) {p : Addr} {o : HO} (h : H p = none) : Rel c (upd G p o) (upd H p o) E := by
  have sG : Same G (upd G p o) := same_new (Same.refl G) (R.gn h)
  refine R.grow (same_new (Same.refl H) h) sG (fun b u e => ?_) (fun b hb => upd_ne (fun e => hb (e ▸ h)))
  by_cases hb : b = p
  · subst hb
    rw [upd_same] at e ⊢
    exact e
  · rw [upd_ne hb] at e ⊢
    exact R.gs b u e
/-- a new object that is nobody's yet -/
theorem Rel.new0 (R : Rel c G H E) {p : Addr} {o : HO} (h : H p = none) : Rel c G (upd H p o) E :=
  R.grow (same_new (Same.refl H) h) (Same.refl G) (R.gs.trans (same_new (Same.refl H) h)) fun _ _ => rfl
theorem Rel.notin (R : Rel c G H E) {p : Addr} (h : H p = none) : p ∉ ownE H E := fun hm => by
  obtain ⟨x, hx, e⟩ := List.mem_flatMap.mp hm
  exact ((R.sl x hx).own e).1 h
/-- .. the call's own -/
theorem Rel.newHeld (R : Rel c G H E) {p : Addr} {o : HO} {s : Slot} (h : H p = none) (hs : isOwn s = true) (hd : Held c G (upd H p o) p s) (hn : subs (some o) = [] ∨ isNest s = false := by exact Or.inr rfl) : Rel c G (upd H p o) ((some (.ref p), s) :: E) := by
  have R0 : Rel c G (upd H p o) E := R.new0 h
  have hp : ownL (upd H p o) (some (.ref p), s) = [p] := by
    unfold ownL
    rw [if_pos hs]
    dsimp only
    rw [upd_same]
    rcases hn with hn | hn
    · rw [hn]; simp
    · rw [hn]; rfl
  refine R0.cons ((slot_own hs).mpr ⟨p, rfl, R.gn h, (by rw [upd_same]; intro z; cases z), hd⟩) (by rw [hp]; simp) fun q e => ?_
  rw [hp, List.mem_singleton] at e
  subst e
  have e2 : ownE (upd H q o) E = ownE H E := ownE_keep fun x hx p e => upd_ne fun z => by
    subst z
    exact ((R.sl x hx).own e).1 h
  rw [e2]
  exact R.notin h
theorem Rel.newOwn (R : Rel c G H E) {p : Addr} {vs : List V} {fr : Bool} {ds : List D} (h : H p = none) (hd : DrA c.K G (Fl c fr) vs ds) : Rel c G (upd H p (.lst vs)) ((some (.ref p), .own fr ds) :: E) :=
  R.newHeld h rfl ⟨R.h0 h, vs, upd_same, hd⟩
/-- one that may change, ahead of the others -/
theorem Rel.head {o : Option V} {s : Slot} (R : Rel c G H ((o, s) :: E)) (hs : isOwn s = true) : ∃ p, o = some (.ref p) ∧ G p = none ∧ H p ≠ none ∧ Held c G H p s ∧ ∀ q ∈ ownL H (o, s), q ∉ ownE H E := by
  obtain ⟨p, rfl, h1, h2, h3⟩ := (slot_own hs).mp (R.sl _ List.mem_cons_self)
  have nd := R.nd
  unfold ownE at nd
  rw [List.flatMap_cons] at nd
  exact ⟨p, rfl, h1, h2, h3, fun q hq hm => (List.nodup_append.mp nd).2.2 q hq q hm rfl⟩
/-- own things become data -/
def updA (G H : Hp) (as : List Addr) : Hp := fun b => if b ∈ as then H b else G b
theorem Rel.freezeA {as : List Addr} {x : En} (R : Rel c G H (x :: E)) (ha : ∀ a ∈ as, c.H0 a = none ∧ a ∈ ownL H x) : Rel c (updA G H as) H E ∧ Same G (updA G H as) := by
  have own : ∀ a ∈ as, G a = none := fun a h => ((R.sl x List.mem_cons_self).own (ha a h).2).2
  have sG : Same G (updA G H as) := fun b o e => by
    unfold updA
    by_cases h : b ∈ as
    · rw [own b h] at e; cases e
    · rw [if_neg h]; exact e
  have nd := R.nd
  unfold ownE at nd
  rw [List.flatMap_cons] at nd
  refine ⟨⟨R.fr, R.al, fun b o z => ?_, R.g0.trans sG, fun b hb => ?_, fun y hy => ?_, R.tail.nd⟩, sG⟩
  · unfold updA at z
    by_cases h : b ∈ as
    · rw [if_pos h] at z; exact z
    · rw [if_neg h] at z; exact R.gs b o z
  · have h : b ∉ as := fun h => hb (ha b h).1
    show (if b ∈ as then _ else _) = _
    rw [if_neg h, R.gg b hb]
  · refine (R.sl y (List.mem_cons_of_mem _ hy)).keep sG fun q eq => ⟨rfl, ?_⟩
    have h : q ∉ as := fun h => (List.nodup_append.mp nd).2.2 q (ha q h).2 q (mem_own hy eq) rfl
    show (if q ∈ as then _ else _) = _
    rw [if_neg h]
theorem Rel.freezeO {p : Addr} {s : Slot} {u : HO} (R : Rel c G H ((some (.ref p), s) :: E)) (hs : isOwn s = true) (e : H p = some u) (h0 : c.H0 p = none) : Rel c (upd G p u) H E ∧ Same G (upd G p u) := by
  have h := R.freezeA (as := [p]) fun a ha => by
    rw [List.mem_singleton] at ha
    subst ha
    exact ⟨h0, ownL_self hs⟩
  have eq : updA G H [p] = upd G p u := by
    funext b
    unfold updA upd
    by_cases hb : b = p
    · subst hb; rw [if_pos List.mem_cons_self, if_pos rfl, e]
    · rw [if_neg (by simpa using hb), if_neg hb]
  rw [eq] at h
  exact h
theorem Rel.freeze {p : Addr} {vs : List V} {fr : Bool} {ds : List D} (R : Rel c G H ((some (.ref p), .own fr ds) :: E)) (e : H p = some (.lst vs)) : Rel c (upd G p (.lst vs)) H E ∧ Same G (upd G p (.lst vs)) ∧ Dr c.K (upd G p (.lst vs)) (Fl c fr) (.ref p) (.lst ds) := by
  obtain ⟨q, eq, h1, h2, ⟨h3, vs', h4, h5⟩, h6⟩ := R.head rfl
  cases eq
  rw [e] at h4
  cases h4
  obtain ⟨R', sG⟩ := R.freezeO rfl e h3
  exact ⟨R', sG, .lst upd_same (fun _ => R.g0n h1) (h5.up sG)⟩
/-- own things change: those of one entry alone -/
theorem Rel.mutA {x x' : En} {H' : Hp} (R : Rel c G H (x :: E)) (k : ∀ b, H' b ≠ H b → b ∈ ownL H x ∨ H b = none) (al : ∀ b, H b ≠ none → H' b ≠ none) (hio : ∀ b ∈ ownL H x, H' b ≠ H b → c.IO b ∨ c.H0 b = none) (ok : SlotOk c G H' x') (nx : (ownL H' x').Nodup) (nn : ∀ p ∈ ownL H' x', p ∈ ownL H x ∨ H p = none) : Rel c G H' (x' :: E) := by
  have nd := R.nd
  unfold ownE at nd
  rw [List.flatMap_cons] at nd
  have dis : ∀ y ∈ E, ∀ p ∈ ownL H y, H' p = H p := fun y hy p hp => Classical.byContradiction fun z => by
    rcases k p z with h | h
    · exact (List.nodup_append.mp nd).2.2 p h p (mem_own hy hp) rfl
    · exact ((R.sl y (List.mem_cons_of_mem _ hy)).own hp).1 h
  have hx : ∀ b, H b ≠ none → H' b ≠ H b → b ∈ ownL H x := fun b h z => (k b z).elim id fun y => absurd y h
  refine ⟨fun b o e hb => ?_, fun b hb => al b (R.al b hb), fun b u z => ?_, R.g0, R.gg, fun y hy => ?_, ?_⟩
  · have h1 := R.fr b o e hb
    by_cases q : H' b = H b
    · rw [q]; exact h1
    · rcases hio b (hx b (by rw [h1]; intro z; cases z) q) q with h | h
      · exact absurd h hb
      · rw [h] at e; cases e
  · have h1 := R.gs b u z
    by_cases q : H' b = H b
    · rw [q]; exact h1
    · have := ((R.sl x List.mem_cons_self).own (hx b (by rw [h1]; intro z; cases z) q)).2
      rw [this] at z; cases z
  · rcases List.mem_cons.mp hy with rfl | hy
    · exact ok
    · exact (R.sl y (List.mem_cons_of_mem _ hy)).keep (Same.refl G) fun p hp => ⟨dis y hy p hp, rfl⟩
  · unfold ownE
    rw [List.flatMap_cons]
    have e2 : E.flatMap (ownL H') = ownE H E := ownE_keep dis
    rw [e2]
    refine List.nodup_append.mpr ⟨nx, R.tail.nd, fun a ha b hb e => ?_⟩
    subst e
    rcases nn a ha with h | h
    · exact (List.nodup_append.mp nd).2.2 a h a hb rfl
    · exact R.tail.notin h hb
/-- an own thing changes -/
theorem Rel.mutO {p : Addr} {s s' : Slot} {u : HO} (R : Rel c G H ((some (.ref p), s) :: E)) (hs : isOwn s = true) (hs' : isOwn s' = true) (hio : c.IO p ∨ c.H0 p = none) (h : Held c G (upd H p u) p s') (hn : isNest s' = false := by rfl) : Rel c G (upd H p u) ((some (.ref p), s') :: E) := by
  obtain ⟨q, eq, h1, h2, h3, h4⟩ := R.head hs
  cases eq
  refine R.mutA (fun b z => ?_) (fun b z => ?_) (fun b _ z => ?_) ((slot_own hs').mpr ⟨p, rfl, h1, (by rw [upd_same]; intro z; cases z), h⟩) (by rw [ownL_one hs' hn]; simp) fun b hb => ?_
  · by_cases e : b = p
    · subst e; exact .inl (ownL_self hs)
    · exact absurd (upd_ne e) z
  · by_cases e : b = p
    · subst e; rw [upd_same]; intro y; cases y
    · rw [upd_ne e]; exact z
  · by_cases e : b = p
    · subst e; exact hio
    · exact absurd (upd_ne e) z
  · rw [ownL_one hs' hn, List.mem_singleton] at hb
    subst hb
    exact .inl (ownL_self hs)
theorem Rel.mut {p : Addr} {vs : List V} {fr fr' : Bool} {ds ds' : List D} (R : Rel c G H ((some (.ref p), .own fr ds) :: E)) (h : DrA c.K G (Fl c fr') vs ds') : Rel c G (upd H p (.lst vs)) ((some (.ref p), .own fr' ds') :: E) := by
  obtain ⟨q, eq, h1, h2, ⟨h3, h5⟩, h4⟩ := R.head rfl
  cases eq
  exact R.mutO rfl rfl (.inr h3) ⟨h3, vs, upd_same, h⟩
end
end Da
end F18
section F19
namespace Da
open PySem PySem.Spec PyProof.Rows L2 He Ds
/-! ### what a part comes to -/
inductive Res (α : Type) where
  | no | er (k : Str) (d : D) (ρ : List Slot) | ok (a : α) (ρ : List Slot)
abbrev M (α : Type) := List Slot → Res α
def mb {α β : Type} (m : M α) (f : α → M β) : M β := fun ρ => match m ρ with
  | .no => .no
  | .er k d ρ' => .er k d ρ'
  | .ok a ρ' => f a ρ'
def mp {α : Type} (a : α) : M α := fun ρ => .ok a ρ
def mno {α : Type} : M α := fun _ => .no
def mo {α : Type} (o : Option α) : M α := match o with
  | none => mno
  | some a => mp a
section
variable {α β : Type} {c : Cc} {G G' H H' : Hp} {σ : L2.St} {T : List En} {W : WX} {P P' : α → List Slot → Hp → Hp → Prop}
def Post (c : Cc) (G : Hp) (T : List En) (σ : L2.St) (W : WX) (P : α → List Slot → Hp → Hp → Prop) : Res α → Prop
  | .no => False
  | .er k d ρ' => σ.length = ρ'.length → ∀ v x G' H', Rel c G' H' (σ.zip ρ' ++ T) → Same G G' → Dr c.K G' (fun _ => True) v d → G' x = some (.xd [("value", v)]) → W (.ref (ga c.K k)) (some x) σ H'
  | .ok a ρ' => σ.length = ρ'.length → ∀ G' H', Rel c G' H' (σ.zip ρ' ++ T) → Same G G' → P a ρ' G' H'
theorem Post.later {r : Res α} (h : Post c G T σ W P r) (s : Same G G') : Post c G' T σ W P r := by
  cases r with
  | no => exact h
  | er k d ρ' => exact fun hl v x G2 H2 R s2 => h hl v x G2 H2 R (s.trans s2)
  | ok a ρ' => exact fun hl G2 H2 R s2 => h hl G2 H2 R (s.trans s2)
theorem Post.imp {r : Res α} (h : Post c G T σ W P r) (f : ∀ a ρ' G' H', σ.length = ρ'.length → Rel c G' H' (σ.zip ρ' ++ T) → Same G G' → P a ρ' G' H' → P' a ρ' G' H') : Post c G T σ W P' r := by
  cases r with
  | no => exact h
  | er k d ρ' => exact h
  | ok a ρ' => exact fun hl G2 H2 R s2 => f _ _ _ _ hl R s2 (h hl G2 H2 R s2)
theorem Post.bind {m : M α} {f : α → M β} {P : β → List Slot → Hp → Hp → Prop} {ρ : List Slot} (h : Post c G T σ W P (mb m f ρ)) : Post c G T σ W (fun a ρ' G' H' => Post c G' T σ W P (f a ρ')) (m ρ) := by
  unfold mb at h
  cases e : m ρ with
  | no => rw [e] at h; exact h
  | er k d ρ' => rw [e] at h; exact h
  | ok a ρ' => rw [e] at h; exact fun hl G2 H2 R s2 => h.later s2
/-- the same place, other things beside -/
theorem Post.beside {r : Res α} {T' : List En} (h : Post c G T σ W P r) (t : ∀ ρ', (σ.zip ρ' ++ T).Sublist (σ.zip ρ' ++ T')) : Post c G T' σ W P r := by
  cases r with
  | no => exact h
  | er k d ρ' => exact fun hl v x G2 H2 R s2 => h hl v x G2 H2 (R.subl (t ρ')) s2
  | ok a ρ' => exact fun hl G2 H2 R s2 => h hl G2 H2 (R.subl (t ρ')) s2
end
/-! ### judgements -/
/-- an expression whose value is kept -/
def DE (K : PySem.W.Frag) (W : WX) (te : TE) (m : M (Bool × D)) : Prop :=
  ∀ (c : Cc) (G H : Hp) (σ : L2.St) (ρ : List Slot) (T : List En) (Q : VK), c.K = K → σ.length = ρ.length → Rel c G H (σ.zip ρ ++ T) →
    Post c G T σ W (fun a _ G' H' => ∀ v, Dr c.K G' (Fl c a.1) v a.2 → Q v H') (m ρ) → te σ H Q
/-- what a value is that is only looked at: its items are data -/
def Itm (c : Cc) (G H : Hp) (fr : Bool) (v : V) (d : D) : Prop :=
  Dr c.K H (fun _ => True) v d ∧ match d with
    | .lst ds => ∃ p vs, v = .ref p ∧ H p = some (.lst vs) ∧ DrA c.K G (Fl c fr) vs ds
    | .tup ds => ∃ p vs, v = .ref p ∧ SqT c.K H p vs ∧ DrA c.K G (Fl c fr) vs ds
    | .dic ks ds => ∃ p vs, v = .ref p ∧ H p = some (.dK (ks.zip vs)) ∧ ks.length = vs.length ∧ DrA c.K G (Fl c fr) vs ds
    | .dicT ks ds => ∃ p vs, v = .ref p ∧ H p = some (.dT (ks.zip vs)) ∧ ks.length = vs.length ∧ DrA c.K G (Fl c fr) vs ds
    | .dicB w t => ∃ p rows, v = .ref p ∧ H p = some (dbO w p rows) ∧ BKeys G rows ∧ t = rows.map (fun r => (r.1, r.2.2))
    | .obj C ns ds => ∃ p dx vs, v = .ref p ∧ H p = some (.ins (ga c.K C) dx (ns.zip vs)) ∧ ns.length = vs.length ∧ DrA c.K G (fun _ => True) vs ds
    | _ => True
abbrev Look := List Slot → Option (Bool × D)
def Lk (c : Cc) (T : List En) (σ : L2.St) (G' : Hp) (f : Look) (v : V) : Prop :=
  ∀ G'' H'' ρ'' fr d, Rel c G'' H'' (σ.zip ρ'' ++ T) → σ.length = ρ''.length → Same G' G'' → f ρ'' = some (fr, d) → Itm c G'' H'' fr v d
/-- an expression whose value is only looked at -/
def DB (K : PySem.W.Frag) (W : WX) (te : TE) (m : M Look) : Prop :=
  ∀ (c : Cc) (G H : Hp) (σ : L2.St) (ρ : List Slot) (T : List En) (Q : VK), c.K = K → σ.length = ρ.length → Rel c G H (σ.zip ρ ++ T) →
    Post c G T σ W (fun f _ G' H' => ∀ v, Lk c T σ G' f v → Q v H') (m ρ) → te σ H Q
/-- an expression that makes a list -/
def DL (K : PySem.W.Frag) (W : WX) (te : TE) (m : M (Bool × List D)) : Prop :=
  ∀ (c : Cc) (G H : Hp) (σ : L2.St) (ρ : List Slot) (T : List En) (Q : VK), c.K = K → σ.length = ρ.length → Rel c G H (σ.zip ρ ++ T) →
    Post c G T σ W (fun a ρ' G' H' => ∀ p vs H2, Rel c G' H2 ((some (.ref p), .own a.1 a.2) :: (σ.zip ρ' ++ T)) → H2 p = some (.lst vs) → Q (.ref p) H2) (m ρ) → te σ H Q
/-- a test -/
def DT (K : PySem.W.Frag) (W : WX) (tt : TT) (m : M Bool) : Prop :=
  ∀ (c : Cc) (G H : Hp) (σ : L2.St) (ρ : List Slot) (T : List En) (Q : Bool → Hp → Prop), c.K = K → σ.length = ρ.length → Rel c G H (σ.zip ρ ++ T) →
    Post c G T σ W (fun b _ _ H' => Q b H') (m ρ) → tt σ H Q
/-- arguments: each a datum, or a thing of the call's own -/
def DA (K : PySem.W.Frag) (W : WX) (ta : TA) (m : M (List Slot)) : Prop :=
  ∀ (c : Cc) (G H : Hp) (σ : L2.St) (ρ : List Slot) (T : List En) (Q : List V → Hp → Prop), c.K = K → σ.length = ρ.length → Rel c G H (σ.zip ρ ++ T) →
    Post c G T σ W (fun ss ρ' G' H' => ∀ vs, vs.length = ss.length → Rel c G' H' ((vs.map some).zip ss ++ (σ.zip ρ' ++ T)) → Q vs H') (m ρ) → ta σ H Q
section
variable {K : PySem.W.Frag} {W : WX} {c : Cc} {G H : Hp} {σ : L2.St} {ρ : List Slot} {T : List En}
/-! ### slots by their place -/
theorem zip_get {i : Nat} {s : Slot} (hl : σ.length = ρ.length) (e : ρ[i]? = some s) : ∃ o, σ[i]? = some o ∧ (σ.zip ρ)[i]? = some (o, s) := by
  obtain ⟨h1, h2⟩ := List.getElem?_eq_some_iff.mp e
  have h3 : σ[i]? = some σ[i] := List.getElem?_eq_getElem (by omega)
  exact ⟨_, h3, by rw [List.getElem?_zip_eq_some]; exact ⟨h3, e⟩⟩
theorem zip_mem {i : Nat} {s : Slot} {o : Option V} (e : (σ.zip ρ)[i]? = some (o, s)) : (o, s) ∈ σ.zip ρ ++ T := List.mem_append_left _ (List.mem_of_getElem? e)
/-- the rest, when the i-th is taken out -/
def rest (σ : L2.St) (ρ : List Slot) (T : List En) (i : Nat) : List En := (σ.zip ρ).eraseIdx i ++ T
theorem Rel.out {i : Nat} {s : Slot} {o : Option V} (R : Rel c G H (σ.zip ρ ++ T)) (e : (σ.zip ρ)[i]? = some (o, s)) : Rel c G H ((o, s) :: rest σ ρ T i) :=
  R.perm ((cons_erase e).append_right T)
theorem set_perm {α : Type} : ∀ {l : List α} {i : Nat} {x : α}, i < l.length → (l.set i x).Perm (x :: l.eraseIdx i)
  | [], _, _, h => by simp at h
  | y :: l, 0, x, _ => by exact List.Perm.refl _
  | y :: l, i + 1, x, h => by
    rw [List.set_cons_succ, List.eraseIdx_cons_succ]
    exact ((set_perm (l := l) (i := i) (x := x) (by simpa using h)).cons y).trans (List.Perm.swap x y _)
theorem zip_set {α β : Type} : ∀ {l : List α} {m : List β} {i : Nat} {a : α} {b : β}, (l.set i a).zip (m.set i b) = (l.zip m).set i (a, b)
  | [], m, i, a, b => by simp
  | x :: l, [], i, a, b => by simp
  | x :: l, y :: m, 0, a, b => by simp
  | x :: l, y :: m, i + 1, a, b => by simp [zip_set]
theorem Rel.back {i : Nat} {s : Slot} {o : Option V} (hl : σ.length = ρ.length) (hi : i < σ.length) (R : Rel c G H ((o, s) :: rest σ ρ T i)) : Rel c G H ((σ.set i o).zip (ρ.set i s) ++ T) := by
  rw [zip_set]
  refine R.perm ((set_perm ?_).append_right T)
  rw [List.length_zip]
  omega
theorem set_self {α : Type} : ∀ {l : List α} {i : Nat} {x : α}, l[i]? = some x → l.set i x = l
  | [], _, _, h => by simp at h
  | y :: l, 0, x, h => by
    have e : y = x := by simpa using h
    rw [e]; rfl
  | y :: l, i + 1, x, h => by
    rw [List.set_cons_succ, set_self (by simpa using h)]
theorem Rel.back' {i : Nat} {s : Slot} {o : Option V} (hl : σ.length = ρ.length) (e : σ[i]? = some o) (R : Rel c G H ((o, s) :: rest σ ρ T i)) : Rel c G H (σ.zip (ρ.set i s) ++ T) := by
  have h := Rel.back hl (List.getElem?_eq_some_iff.mp e).1 R
  rwa [set_self e] at h
/-! ### names and constants -/
def mVar (i : Nat) : M (Bool × D) := fun ρ => match ρ[i]? with
  | some (.dat fr d) => .ok (fr, d) ρ
  | _ => .no
theorem de_var (i : Nat) : DE K W (tVar i) (mVar i) := by
  intro c G H σ ρ T Q hK hl R h
  unfold mVar at h
  cases e : ρ[i]? with
  | none => rw [e] at h; exact h.elim
  | some s =>
    rw [e] at h
    cases s with
    | dat fr d =>
      obtain ⟨o, e1, e2⟩ := zip_get hl e
      obtain ⟨v, ev, r⟩ := R.sl _ (zip_mem (T := T) e2)
      cases ev
      exact ⟨v, e1, h hl G H R (Same.refl G) v r⟩
    | _ => exact h.elim
theorem itm_dat {c : Cc} {G H : Hp} {fr : Bool} {v : V} {d : D} (s : Same G H) (r : Dr c.K G (Fl c fr) v d) : Itm c G H fr v d := by
  refine ⟨r.top.up s, ?_⟩
  cases r with
  | lst h _ t => exact ⟨_, _, rfl, s _ _ h, t⟩
  | tup h t => exact ⟨_, _, rfl, seqT_same s (SqT.of h), t⟩
  | dic h l _ t => exact ⟨_, _, rfl, s _ _ h, l, t⟩
  | obj h l t => exact ⟨_, _, _, rfl, s _ _ h, l, t⟩
  | dicT h l _ t => exact ⟨_, _, rfl, s _ _ h, l, t⟩
  | dicB h k _ t => exact ⟨_, _, rfl, s _ _ h, k, t⟩
  | _ => exact trivial
/-- what is kept may be looked at -/
def mE (m : M (Bool × D)) : M Look := mb m fun a => mp fun _ => some a
theorem DE.b {te : TE} {m : M (Bool × D)} (h : DE K W te m) : DB K W te (mE m) := by
  intro c G H σ ρ T Q hK hl R p
  refine h c G H σ ρ T Q hK hl R (Post.imp (Post.bind p) fun a ρ' G' H' hl' R' s q v r => ?_)
  refine q hl' G' H' R' (Same.refl G') v fun G'' H'' ρ'' fr d R'' _ s'' e => ?_
  cases e
  exact itm_dat R''.gs (r.up s'')
def lookV (i : Nat) : Look := fun ρ => match ρ[i]? with
  | some (.dat fr d) => some (fr, d)
  | some (.own fr ds) => some (fr, .lst ds)
  | some (.dct fr ks ds) => some (fr, .dic ks ds)
  | some (.dcT fr ks ds) => some (fr, .dicT ks ds)
  | some (.dcB w t) => some (true, .dicB w t)
  | some (.pool ns) => some (true, .lst (ns.map D.int))
  | _ => none
def isSet : Slot → Bool
  | .no => false
  | _ => true
def mLook (i : Nat) : M Look := fun ρ => if (match ρ[i]? with | some s => isSet s | none => false) = true then .ok (lookV i) ρ else .no
theorem db_var (i : Nat) : DB K W (tVar i) (mLook i) := by
  intro c G H σ ρ T Q hK hl R h
  unfold mLook at h
  cases e : ρ[i]? with
  | none => rw [e, if_neg (by decide)] at h; exact h.elim
  | some s =>
    rw [e] at h
    dsimp only at h
    obtain ⟨o, e1, e2⟩ := zip_get hl e
    by_cases hs : isSet s = true
    · rw [if_pos hs] at h
      have hv : ∃ v, o = some v := by
        have k := R.sl _ (zip_mem (T := T) e2)
        cases s with
        | no => cases hs
        | dat fr d => obtain ⟨v, ev, _⟩ := k; exact ⟨v, ev⟩
        | _ => obtain ⟨p, ev, _⟩ := k; exact ⟨_, ev⟩
      obtain ⟨v, rfl⟩ := hv
      refine ⟨v, e1, h hl G H R (Same.refl G) v fun G'' H'' ρ'' fr d R'' hl'' _ ef => ?_⟩
      unfold lookV at ef
      cases e' : ρ''[i]? with
      | none => rw [e'] at ef; cases ef
      | some s' =>
        rw [e'] at ef
        obtain ⟨o', e1', e2'⟩ := zip_get hl'' e'
        have eo : o' = some v := Option.some.inj (e1'.symm.trans e1)
        subst eo
        have k := R''.sl _ (zip_mem (T := T) e2')
        cases s' with
        | dat fr d =>
          cases ef
          obtain ⟨v', ev, r⟩ := k
          cases ev
          exact itm_dat R''.gs r
        | own fr ds =>
          cases ef
          obtain ⟨p, ev, _, _, _, vs, h1, h2⟩ := k
          cases ev
          exact ⟨.lst h1 trivial (h2.top.up R''.gs), p, vs, rfl, h1, h2⟩
        | dct fr ks ds =>
          cases ef
          obtain ⟨p, ev, _, _, _, vs, h1, hl, h2⟩ := k
          cases ev
          exact ⟨.dic h1 hl trivial (h2.top.up R''.gs), p, vs, rfl, h1, hl, h2⟩
        | dcT fr ks ds =>
          cases ef
          obtain ⟨p, ev, _, _, _, vs, h1, hl, h2⟩ := k
          cases ev
          exact ⟨.dicT h1 hl trivial (h2.top.up R''.gs), p, vs, rfl, h1, hl, h2⟩
        | dcB w t =>
          cases ef
          obtain ⟨p, ev, _, _, _, rows, h1, hk, h2⟩ := k
          cases ev
          exact ⟨.dicB h1 (hk.up R''.gs) trivial h2, p, rows, rfl, h1, hk, h2⟩
        | pool ns =>
          cases ef
          obtain ⟨p, ev, _, _, _, h1⟩ := k
          cases ev
          exact ⟨.lst h1 trivial DrA.ints, p, _, rfl, h1, DrA.ints⟩
        | _ => cases ef
    · rw [if_neg hs] at h
      exact h.elim
theorem de_c {v : V} {d : D} (h : ∀ K G F, Dr K G F v d) : DE K W (tC v) (mp (true, d)) := by
  intro c G H σ ρ T Q hK hl R p
  exact p hl G H R (Same.refl G) v (h _ _ _)
theorem de_int {i : Int} : DE K W (tC (.int i)) (mp (true, .int i)) := de_c fun _ _ _ => .int i
theorem de_bl {b : Bool} : DE K W (tC (.bl b)) (mp (true, .bl b)) := de_c fun _ _ _ => .bl b
theorem de_non : DE K W (tC .non) (mp (true, .non)) := de_c fun _ _ _ => .non
theorem de_str {x : Str} (h : PyData.strOk x = true := by decide +kernel) : DE K W (tC (.str x)) (mp (true, .str x)) := de_c fun _ _ _ => .str x h
/-! ### operators whose answer is no object -/
def Scal (v : V) (d : D) : Prop := ∀ K G F, Dr K G F v d
theorem Scal.int (i : Int) : Scal (.int i) (.int i) := fun _ _ _ => .int i
theorem Scal.bl (b : Bool) : Scal (.bl b) (.bl b) := fun _ _ _ => .bl b
def OpS (K : PySem.W.Frag) (r : R2) (f : D → D → Option D) : Prop :=
  ∀ (c : Cc) (G H : Hp) (f1 f2 : Bool) (x y : V) (a b d : D) (Q : VK), c.K = K → Itm c G H f1 x a → Itm c G H f2 y b → f a b = some d → (∀ v, Scal v d → Q v H) → r x y H Q
def mOp (f : D → D → Option D) (ma mc : M Look) : M (Bool × D) := mb ma fun fa => mb mc fun fb => fun ρ => match fa ρ, fb ρ with
  | some a, some b => (match f a.2 b.2 with | some d => .ok (true, d) ρ | none => .no)
  | _, _ => .no
theorem de_op {r : R2} {f : D → D → Option D} {ta tb : TE} {ma mc : M Look} (hr : OpS K r f) (ha : DB K W ta ma) (hb : DB K W tb mc) : DE K W (tOp r ta tb) (mOp f ma mc) := by
  intro c G H σ ρ T Q hK hl R p
  refine ha c G H σ ρ T _ hK hl R (Post.imp (Post.bind p) fun fa ρ1 G1 H1 hl1 R1 s1 q1 x lx => ?_)
  refine hb c G1 H1 σ ρ1 T _ hK hl1 R1 (Post.imp (Post.bind q1) fun fb ρ2 G2 H2 hl2 R2 s2 q2 y ly => ?_)
  cases e1 : fa ρ2 with
  | none => rw [e1] at q2; exact q2.elim
  | some a => cases e2 : fb ρ2 with
    | none => rw [e1, e2] at q2; exact q2.elim
    | some b => cases e3 : f a.2 b.2 with
      | none =>
        rw [e1, e2] at q2
        dsimp only at q2
        rw [e3] at q2
        exact q2.elim
      | some d =>
        rw [e1, e2] at q2
        dsimp only at q2
        rw [e3] at q2
        exact hr c G2 H2 a.1 b.1 x y a.2 b.2 d Q hK (lx G2 H2 ρ2 _ _ R2 hl2 s2 e1) (ly G2 H2 ρ2 _ _ R2 hl2 (Same.refl G2) e2) e3 fun v hv => q2 hl2 G2 H2 R2 (Same.refl G2) v (hv _ _ _)
/-- one argument -/
def UnS (K : PySem.W.Frag) (r : V → Hp → VK → Prop) (f : D → Option D) : Prop :=
  ∀ (c : Cc) (G H : Hp) (f1 : Bool) (x : V) (a d : D) (Q : VK), c.K = K → Itm c G H f1 x a → f a = some d → (∀ v, Scal v d → Q v H) → r x H Q
def mUn (f : D → Option D) (ma : M Look) : M (Bool × D) := mb ma fun fa => fun ρ => match fa ρ with
  | some a => (match f a.2 with | some d => .ok (true, d) ρ | none => .no)
  | none => .no
theorem un_core {r : V → Hp → VK → Prop} {f : D → Option D} {ta te : TE} {ma : M Look} (hr : UnS K r f) (ha : DB K W ta ma) (he : ∀ σ H Q, ta σ H (fun x H1 => r x H1 Q) → te σ H Q) : DE K W te (mUn f ma) := by
  intro c G H σ ρ T Q hK hl R p
  refine he _ _ _ (ha c G H σ ρ T _ hK hl R (Post.imp (Post.bind p) fun fa ρ1 G1 H1 hl1 R1 s1 q1 x lx => ?_))
  cases e1 : fa ρ1 with
  | none => rw [e1] at q1; exact q1.elim
  | some a => cases e3 : f a.2 with
    | none =>
      rw [e1] at q1
      dsimp only at q1
      rw [e3] at q1
      exact q1.elim
    | some d =>
      rw [e1] at q1
      dsimp only at q1
      rw [e3] at q1
      exact hr c G1 H1 a.1 x a.2 d Q hK (lx G1 H1 ρ1 _ _ R1 hl1 (Same.refl G1) e1) e3 fun v hv => q1 hl1 G1 H1 R1 (Same.refl G1) v (hv _ _ _)
theorem de_un {r : V → Hp → VK → Prop} {f : D → Option D} {ta : TE} {ma : M Look} (hr : UnS K r f) (ha : DB K W ta ma) : DE K W (tUn r ta) (mUn f ma) := un_core hr ha fun _ _ _ h => h
/-- a built-in of one argument -/
theorem de_b1 {rc : List V → Hp → VK → Prop} {f : D → Option D} {ta : TE} {ma : M Look} (hr : UnS K (fun x H Q => rc [x] H Q) f) (ha : DB K W ta ma) : DE K W (tCB rc (tCons ta tNil)) (mUn f ma) :=
  un_core hr ha fun σ H Q h => h
end
end Da
end F19
section F20
namespace Da
open PySem PySem.Spec PyProof.Rows L2 He Ds
/-! ### operands -/
def mBin {β : Type} (k : Bool × D → Bool × D → M β) (ma mc : M Look) : M β := mb ma fun fa => mb mc fun fb => fun ρ => match fa ρ, fb ρ with
  | some a, some b => k a b ρ
  | _, _ => .no
def mOne {β : Type} (k : Bool × D → M β) (ma : M Look) : M β := mb ma fun fa => fun ρ => match fa ρ with
  | some a => k a ρ
  | none => .no
section
variable {K : PySem.W.Frag} {W : WX} {c : Cc} {G H : Hp} {σ : L2.St} {ρ : List Slot} {T : List En}
theorem bin_core {β : Type} {k : Bool × D → Bool × D → M β} {P : β → List Slot → Hp → Hp → Prop} {r' : V → V → Hp → Prop} {ta tb : TE} {ma mc : M Look} (ha : DB K W ta ma) (hb : DB K W tb mc) (hK : c.K = K) (hl : σ.length = ρ.length) (R : Rel c G H (σ.zip ρ ++ T))
    (p : Post c G T σ W P (mBin k ma mc ρ)) (fin : ∀ a b x y G2 H2 ρ2, σ.length = ρ2.length → Rel c G2 H2 (σ.zip ρ2 ++ T) → Same G G2 → Itm c G2 H2 a.1 x a.2 → Itm c G2 H2 b.1 y b.2 → Post c G2 T σ W P (k a b ρ2) → r' x y H2) : ta σ H fun x H1 => tb σ H1 fun y H2 => r' x y H2 := by
  refine ha c G H σ ρ T _ hK hl R (Post.imp (Post.bind p) fun fa ρ1 G1 H1 hl1 R1 s1 q1 x lx => ?_)
  refine hb c G1 H1 σ ρ1 T _ hK hl1 R1 (Post.imp (Post.bind q1) fun fb ρ2 G2 H2 hl2 R2 s2 q2 y ly => ?_)
  cases e1 : fa ρ2 with
  | none => rw [e1] at q2; exact q2.elim
  | some a => cases e2 : fb ρ2 with
    | none => rw [e1, e2] at q2; exact q2.elim
    | some b =>
      rw [e1, e2] at q2
      exact fin a b x y G2 H2 ρ2 hl2 R2 (s1.trans s2) (lx G2 H2 ρ2 _ _ R2 hl2 s2 e1) (ly G2 H2 ρ2 _ _ R2 hl2 (Same.refl G2) e2) q2
theorem one_core {β : Type} {k : Bool × D → M β} {P : β → List Slot → Hp → Hp → Prop} {r' : V → Hp → Prop} {ta : TE} {ma : M Look} (ha : DB K W ta ma) (hK : c.K = K) (hl : σ.length = ρ.length) (R : Rel c G H (σ.zip ρ ++ T))
    (p : Post c G T σ W P (mOne k ma ρ)) (fin : ∀ a x G2 H2 ρ2, σ.length = ρ2.length → Rel c G2 H2 (σ.zip ρ2 ++ T) → Same G G2 → Itm c G2 H2 a.1 x a.2 → Post c G2 T σ W P (k a ρ2) → r' x H2) : ta σ H fun x H1 => r' x H1 := by
  refine ha c G H σ ρ T _ hK hl R (Post.imp (Post.bind p) fun fa ρ1 G1 H1 hl1 R1 s1 q1 x lx => ?_)
  cases e1 : fa ρ1 with
  | none => rw [e1] at q1; exact q1.elim
  | some a =>
    rw [e1] at q1
    exact fin a x G1 H1 ρ1 hl1 R1 s1 (lx G1 H1 ρ1 _ _ R1 hl1 (Same.refl G1) e1) q1
end
/-! ### what has no list in it is everybody's -/
mutual
def flatD : D → Bool
  | .non => true
  | .bl _ => true
  | .int _ => true
  | .str _ => true
  | .tup xs => flatDs xs
  | .lst _ => false
  | .dic _ _ => false
  | .obj _ _ _ => true
  | .rep _ => true
  | .dicT _ _ => false
  | .dicB _ _ => false
  | .exc _ _ _ _ => false
def flatDs : List D → Bool
  | [] => true
  | x :: xs => flatD x && flatDs xs
end
section
variable {K : PySem.W.Frag} {G : Hp}
mutual
theorem Dr.flat : ∀ {F F' : Addr → Prop} {v : V} {d : D}, flatD d = true → Dr K G F v d → Dr K G F' v d
  | _, _, _, _, _, .non => .non
  | _, _, _, _, _, .bl b => .bl b
  | _, _, _, _, _, .int i => .int i
  | _, _, _, _, _, .str x h => .str x h
  | _, _, _, _, h, .lst _ _ _ => by simp [flatD] at h
  | _, _, _, _, h, .tup e t => .tup e (DrA.flat (by simpa [flatD] using h) t)
  | _, _, _, _, h, .dic _ _ _ _ => by simp [flatD] at h
  | _, _, _, _, _, .obj e l t => .obj e l t
  | _, _, _, _, _, .rep e => .rep e
  | _, _, _, _, h, .dicT _ _ _ _ => by simp [flatD] at h
  | _, _, _, _, h, .dicB _ _ _ _ => by simp [flatD] at h
  | _, _, _, _, h, .exc _ _ => by simp [flatD] at h
theorem DrA.flat : ∀ {F F' : Addr → Prop} {v : List V} {d : List D}, flatDs d = true → DrA K G F v d → DrA K G F' v d
  | _, _, _, _, _, .nil => .nil
  | _, _, _ :: _, d :: ds, h, .cons a t => by
    have h' : (flatD d && flatDs ds) = true := by simpa [flatDs] using h
    rw [Bool.and_eq_true] at h'
    exact .cons (Dr.flat h'.1 a) (DrA.flat h'.2 t)
end
theorem Dr.fl {c : Cc} {fr : Bool} {v : V} {d : D} (h : Dr K G (Fl c fr) v d) : Dr K G (Fl c (fr || flatD d)) v d := by
  cases fr with
  | true => exact h
  | false => cases e : flatD d with
    | true => exact h.flat e
    | false => exact h
theorem DrA.fl {c : Cc} {fr : Bool} {v : List V} {d : List D} (h : DrA K G (Fl c fr) v d) : DrA K G (Fl c (fr || flatDs d)) v d := by
  cases fr with
  | true => exact h
  | false => cases e : flatDs d with
    | true => exact h.flat e
    | false => exact h
theorem Dr.tr {c : Cc} {v : V} {d : D} (h : Dr K G (fun _ => True) v d) : Dr K G (Fl c (flatD d)) v d := by
  cases e : flatD d with
  | true => exact h.flat e
  | false => exact h.mono (Same.refl G) fun _ _ z => nomatch z
theorem DrA.low {c : Cc} {f g : Bool} {v : List V} {d : List D} (h : DrA K G (Fl c f) v d) : DrA K G (Fl c (f && g)) v d := h.mono (Same.refl G) fun a k z => k (by rw [Bool.and_eq_true] at z; exact z.1)
theorem DrA.low' {c : Cc} {f g : Bool} {v : List V} {d : List D} (h : DrA K G (Fl c g) v d) : DrA K G (Fl c (f && g)) v d := h.mono (Same.refl G) fun a k z => k (by rw [Bool.and_eq_true] at z; exact z.2)
theorem Dr.low {c : Cc} {f g : Bool} {v : V} {d : D} (h : Dr K G (Fl c f) v d) : Dr K G (Fl c (f && g)) v d := h.mono (Same.refl G) fun a k z => k (by rw [Bool.and_eq_true] at z; exact z.1)
theorem Dr.low' {c : Cc} {f g : Bool} {v : V} {d : D} (h : Dr K G (Fl c g) v d) : Dr K G (Fl c (f && g)) v d := h.mono (Same.refl G) fun a k z => k (by rw [Bool.and_eq_true] at z; exact z.2)
end
/-! ### ints and texts -/
section
variable {K : PySem.W.Frag}
def dI (C : Int → Int → Bool) (g : Int → Int → D) (a b : D) : Option D := match a, b with
  | .int i, .int j => if C i j = true then some (g i j) else none
  | _, _ => none
theorem ops_int {C : Int → Int → Prop} {Cb : Int → Int → Bool} {f : Int → Int → V} {g : Int → Int → D} (hc : ∀ i j, Cb i j = true → C i j) (hs : ∀ i j, Scal (f i j) (g i j)) : OpS K (rI C f) (dI Cb g) := by
  intro c G H f1 f2 x y a b d Q hK ia ib e q
  unfold dI at e
  split at e
  · rename_i i j
    split at e
    · rename_i h
      cases e
      cases ia.1
      cases ib.1
      exact ⟨i, j, rfl, rfl, hc i j h, q _ (hs i j)⟩
    · cases e
  · cases e
def dI0 (g : Int → Int → D) : D → D → Option D := dI (fun _ _ => true) g
theorem ops_int0 {f : Int → Int → V} {g : Int → Int → D} (hs : ∀ i j, Scal (f i j) (g i j)) : OpS K (rI0 f) (dI0 g) := by
  intro c G H f1 f2 x y a b d Q hK ia ib e q
  obtain ⟨i, j, h1, h2, _, h3⟩ := ops_int (C := fun _ _ => True) (f := f) (fun _ _ _ => trivial) hs c G H f1 f2 x y a b d Q hK ia ib e q
  exact ⟨i, j, h1, h2, h3⟩
def dAdd := dI0 fun i j => .int (i + j)
def dMul := dI (fun i j => decide (i.natAbs.log2 + j.natAbs.log2 < 1000000)) fun i j => .int (i * j)
def dFdiv := dI (fun _ j => decide (0 < j) && decide (j.natAbs.log2 < 9000)) fun i j => .int (i / j)
def dMod := dI (fun _ j => decide (0 < j)) fun i j => .int (i % j)
def dPow := dI (fun i j => decide (0 ≤ j) && decide ((i.natAbs.log2 + 1 : Int) * j ≤ 134217728)) fun i j => .int (i ^ j.toNat)
def dLt := dI0 fun i j => .bl (decide (i < j))
def dLe := dI0 fun i j => .bl (decide (i ≤ j))
def dGt := dI0 fun i j => .bl (decide (j < i))
theorem s_add : OpS K (rI0 fun i j => .int (i + j)) dAdd := ops_int0 fun _ _ => .int _
theorem s_mul : OpS K (rI CMulW fun i j => .int (i * j)) dMul := ops_int (fun i j h => (show i.natAbs.log2 + j.natAbs.log2 < 1000000 from of_decide_eq_true h)) fun _ _ => .int _
theorem s_fdiv : OpS K (rI CDivW fun i j => .int (i / j)) dFdiv := ops_int (fun _ _ h => by
  rw [Bool.and_eq_true] at h
  exact ⟨of_decide_eq_true h.1, of_decide_eq_true h.2⟩) fun _ _ => .int _
theorem s_mod : OpS K (rI (fun _ j => 0 < j) fun i j => .int (i % j)) dMod := ops_int (fun _ _ h => of_decide_eq_true h) fun _ _ => .int _
theorem s_pow : OpS K (rI CPowW fun i j => .int (i ^ j.toNat)) dPow := ops_int (fun _ _ h => by
  rw [Bool.and_eq_true] at h
  exact ⟨of_decide_eq_true h.1, of_decide_eq_true h.2⟩) fun _ _ => .int _
theorem s_lt : OpS K (rI0 fun i j => .bl (decide (i < j))) dLt := ops_int0 fun _ _ => .bl _
theorem s_le : OpS K (rI0 fun i j => .bl (decide (i ≤ j))) dLe := ops_int0 fun _ _ => .bl _
theorem s_gt : OpS K (rI0 fun i j => .bl (decide (j < i))) dGt := ops_int0 fun _ _ => .bl _
def dNeg (a : D) : Option D := match a with
  | .int i => some (.int (-i))
  | _ => none
theorem s_neg : UnS K (rU fun i => .int (-i)) dNeg := by
  intro c G H f1 x a d Q hK ia e q
  unfold dNeg at e
  split at e
  · cases e
    cases ia.1
    exact ⟨_, rfl, q _ (.int _)⟩
  · cases e
def dStrO (g : Str → Str → D) (a b : D) : Option D := match a, b with
  | .str i, .str j => some (g i j)
  | _, _ => none
theorem ops_str {f : Str → Str → V} {g : Str → Str → D} (hs : ∀ i j, Scal (f i j) (g i j)) : OpS K (fun x y H Q => ∃ i j, x = .str i ∧ y = .str j ∧ Q (f i j) H) (dStrO g) := by
  intro c G H f1 f2 x y a b d Q hK ia ib e q
  unfold dStrO at e
  split at e
  · cases e
    cases ia.1
    cases ib.1
    exact ⟨_, _, rfl, rfl, q _ (hs _ _)⟩
  · cases e
def dLeS := dStrO fun i j => .bl (!decide (j.cps.toList < i.cps.toList))
theorem s_leS : OpS K (fun x y H Q => ∃ i j, x = .str i ∧ y = .str j ∧ Q (.bl (!decide (j.cps.toList < i.cps.toList))) H) dLeS := ops_str fun _ _ => .bl _
/-! ### == of data -/
def dEqv (a b : D) : Option Bool := match toPy a, toPy b with
  | some x, some y => if x.depth ≤ 60 ∧ y.depth ≤ 60 then some (PyData.eqv x y) else none
  | _, _ => none
def dEq (a b : D) : Option D := (dEqv a b).map .bl
def dNe (a b : D) : Option D := (dEqv a b).map fun z => .bl (!z)
theorem dEqv_of {a b : D} {z : Bool} (h : dEqv a b = some z) : ∃ x y, toPy a = some x ∧ toPy b = some y ∧ x.depth ≤ 60 ∧ y.depth ≤ 60 ∧ z = PyData.eqv x y := by
  unfold dEqv at h
  split at h
  · rename_i x y e1 e2
    split at h
    · rename_i hd
      exact ⟨x, y, e1, e2, hd.1, hd.2, (Option.some.inj h).symm⟩
    · cases h
  · cases h
theorem shaped_of {x : PyData} (h1 : x.canLay0 = true) (h2 : x.depth ≤ 60) : SeqAt.shaped x = true := by
  unfold SeqAt.shaped
  rw [h1, decide_eq_true (by omega)]
  rfl
theorem s_eq : OpS K (rEqD K) dEq := by
  intro c G H f1 f2 x y a b d Q hK ia ib e q
  subst hK
  obtain ⟨z, hz, rfl⟩ := omap e
  obtain ⟨p1, p2, e1, e2, h1, h2, rfl⟩ := dEqv_of hz
  obtain ⟨r1, l1⟩ := ia.1.py e1
  obtain ⟨r2, l2⟩ := ib.1.py e2
  exact ⟨p1, p2, r1, r2, shaped_of l1 h1, shaped_of l2 h2, q _ (.bl _)⟩
theorem s_ne : OpS K (rNeD K) dNe := by
  intro c G H f1 f2 x y a b d Q hK ia ib e q
  subst hK
  obtain ⟨z, hz, rfl⟩ := omap e
  obtain ⟨p1, p2, e1, e2, h1, h2, rfl⟩ := dEqv_of hz
  obtain ⟨r1, l1⟩ := ia.1.py e1
  obtain ⟨r2, l2⟩ := ib.1.py e2
  exact ⟨p1, p2, r1, r2, shaped_of l1 h1, shaped_of l2 h2, q _ (.bl _)⟩
/-- x in a list -/
def dAny (a b : D) : Option Bool := match a, b with
  | a, .lst bs => (match toPy a, toPys bs with
    | some x, some ys => if x.depth ≤ 60 ∧ (PyData.list ys).depth ≤ 60 then some (ys.any fun z => PyData.eqv z x) else none
    | _, _ => none)
  | _, _ => none
def dIn (a b : D) : Option D := (dAny a b).map .bl
def dNotIn (a b : D) : Option D := (dAny a b).map fun z => .bl (!z)
theorem dAny_of {a b : D} {z : Bool} (h : dAny a b = some z) : ∃ x ys, toPy a = some x ∧ toPy b = some (.list ys) ∧ x.depth ≤ 60 ∧ (PyData.list ys).depth ≤ 60 ∧ z = ys.any fun z => PyData.eqv z x := by
  unfold dAny at h
  split at h
  · rename_i bs
    split at h
    · rename_i x ys e1 e2
      split at h
      · rename_i hd
        exact ⟨x, ys, e1, by rw [toPy, e2]; rfl, hd.1, hd.2, (Option.some.inj h).symm⟩
      · cases h
    · cases h
  · cases h
theorem s_in : OpS K (rInD K) dIn := by
  intro c G H f1 f2 x y a b d Q hK ia ib e q
  subst hK
  obtain ⟨z, hz, rfl⟩ := omap e
  obtain ⟨p1, p2, e1, e2, h1, h2, rfl⟩ := dAny_of hz
  obtain ⟨r1, l1⟩ := ia.1.py e1
  obtain ⟨r2, l2⟩ := ib.1.py e2
  exact ⟨p1, p2, r1, r2, shaped_of l1 h1, shaped_of l2 h2, q _ (.bl _)⟩
theorem s_notIn : OpS K (rNotInD K) dNotIn := by
  intro c G H f1 f2 x y a b d Q hK ia ib e q
  subst hK
  obtain ⟨z, hz, rfl⟩ := omap e
  obtain ⟨p1, p2, e1, e2, h1, h2, rfl⟩ := dAny_of hz
  obtain ⟨r1, l1⟩ := ia.1.py e1
  obtain ⟨r2, l2⟩ := ib.1.py e2
  exact ⟨p1, p2, r1, r2, shaped_of l1 h1, shaped_of l2 h2, q _ (.bl _)⟩
/-- scalars as values -/
def toV : D → Option V
  | .non => some .non
  | .bl b => some (.bl b)
  | .int i => some (.int i)
  | .str s => some (.str s)
  | _ => none
def toVs : List D → Option (List V)
  | [] => some []
  | x :: xs => (toV x).bind fun v => (toVs xs).map fun vs => v :: vs
theorem toV_eq {G : Hp} {F : Addr → Prop} {v u : V} {d : D} (h : Dr K G F v d) (e : toV d = some u) : v = u ∧ flatV v = true := by
  cases h <;> first | (cases e; exact ⟨rfl, rfl⟩) | cases e
theorem toVs_eq {G : Hp} {F : Addr → Prop} : ∀ {v u : List V} {d : List D}, DrA K G F v d → toVs d = some u → v = u ∧ v.all flatV = true
  | _, _, _, .nil, e => by cases e; exact ⟨rfl, rfl⟩
  | _, _, _, .cons h t, e => by
    rw [toVs] at e
    obtain ⟨y, e1, e⟩ := Option.bind_eq_some_iff.mp e
    obtain ⟨ys, e2, rfl⟩ := omap e
    obtain ⟨rfl, h2⟩ := toV_eq h e1
    obtain ⟨rfl, h3⟩ := toVs_eq t e2
    exact ⟨rfl, by rw [List.all_cons, h2, h3]; rfl⟩
def dAnyT (a b : D) : Option Bool := match a, b with
  | a, .tup bs => (match toV a, toVs bs with
    | some x, some ys => some (inV x ys)
    | _, _ => none)
  | _, _ => none
def dInT (a b : D) : Option D := (dAnyT a b).map .bl
def dNotInT (a b : D) : Option D := (dAnyT a b).map fun z => .bl (!z)
theorem s_anyT {neg : Bool} : OpS K (rIn K neg) fun a b => (dAnyT a b).map fun z => .bl (if neg then !z else z) := by
  intro c G H f1 f2 x y a b d Q hK ia ib e q
  subst hK
  obtain ⟨z, hz, rfl⟩ := omap e
  unfold dAnyT at hz
  split at hz
  · rename_i bs
    split at hz
    · rename_i u us e1 e2
      cases hz
      obtain ⟨rfl, h1⟩ := toV_eq ia.1 e1
      obtain ⟨p, vs, rfl, h2, h3⟩ := ib.2
      obtain ⟨rfl, h4⟩ := toVs_eq h3 e2
      exact ⟨p, vs, rfl, .inr h2, h1, h4, q _ (.bl _)⟩
    · cases hz
  · cases hz
theorem s_inT : OpS K (rIn K false) dInT := s_anyT (neg := false)
theorem s_notInT : OpS K (rIn K true) dNotInT := s_anyT (neg := true)
/-- x is None -/
def isNon : D → Bool
  | .non => true
  | _ => false
def dIsN (a b : D) : Option D := match b with
  | .non => some (.bl (isNon a))
  | _ => none
theorem non_dec {G : Hp} {F : Addr → Prop} {v : V} {d : D} (h : Dr K G F v d) : decide (v = .non) = isNon d := by cases h <;> rfl
theorem s_isN : OpS K (fun x y H Q => y = .non ∧ Q (.bl (decide (x = .non))) H) dIsN := by
  intro c G H f1 f2 x y a b d Q hK ia ib e q
  unfold dIsN at e
  split at e
  · cases e
    cases ib.1
    refine ⟨rfl, ?_⟩
    rw [non_dec ia.1]
    exact q _ (.bl _)
  · cases e
/-! ### built-ins of one argument -/
def dLen (a : D) : Option D := match a with
  | .lst xs => some (.int (xs.length : Nat))
  | .tup xs => some (.int (xs.length : Nat))
  | _ => none
theorem s_len : UnS K (fun x H Q => Evl.rLenS K [x] H Q) dLen := by
  intro c G H f1 x a d Q hK ia e q
  subst hK
  unfold dLen at e
  split at e
  · cases e
    obtain ⟨p, vs, rfl, h, t⟩ := ia.2
    exact ⟨p, vs, rfl, .inl (SqL.of h), by rw [t.len]; exact q _ (.int _)⟩
  · cases e
    obtain ⟨p, vs, rfl, h, t⟩ := ia.2
    exact ⟨p, vs, rfl, .inr h, by rw [t.len]; exact q _ (.int _)⟩
  · cases e
def dLenS (a : D) : Option D := match a with
  | .str x => if x.length ≤ 1000000 then some (.int (x.length : Nat)) else none
  | _ => none
theorem s_lenS : UnS K (fun x H Q => (fun xs (H : Hp) (Q : VK) => ∃ z : Str, xs = [V.str z] ∧ z.length ≤ sizeLine ∧ Q (.int z.length) H) [x] H Q) dLenS := by
  intro c G H f1 x a d Q hK ia e q
  unfold dLenS at e
  split at e
  · split at e
    · rename_i h
      cases e
      cases ia.1
      exact ⟨_, rfl, Nat.le_trans h (by decide), q _ (.int _)⟩
    · cases e
  · cases e
def toBls : List D → Option (List Bool)
  | [] => some []
  | .bl b :: xs => (toBls xs).map fun bs => b :: bs
  | _ :: _ => none
theorem toBls_eq : ∀ {ds : List D} {bs : List Bool}, toBls ds = some bs → ds = bs.map D.bl
  | [], _, h => by cases h; rfl
  | .bl b :: xs, _, h => by
    rw [toBls] at h
    obtain ⟨ys, e, rfl⟩ := omap h
    rw [toBls_eq e]; rfl
  | .non :: _, _, h => by cases h
  | .int _ :: _, _, h => by cases h
  | .str _ :: _, _, h => by cases h
  | .lst _ :: _, _, h => by cases h
  | .tup _ :: _, _, h => by cases h
  | .dic _ _ :: _, _, h => by cases h
  | .obj _ _ _ :: _, _, h => by cases h
  | .rep _ :: _, _, h => by cases h
def dAnyB (a : D) : Option D := match a with
  | .lst xs => (toBls xs).map fun bs => .bl (bs.any id)
  | _ => none
def dAllB (a : D) : Option D := match a with
  | .lst xs => (toBls xs).map fun bs => .bl (bs.all id)
  | _ => none
theorem s_any : UnS K (fun x H Q => rAny K [x] H Q) dAnyB := by
  intro c G H f1 x a d Q hK ia e q
  subst hK
  unfold dAnyB at e
  split at e
  · obtain ⟨bs, e1, rfl⟩ := omap e
    obtain ⟨p, vs, rfl, h, t⟩ := ia.2
    rw [toBls_eq e1] at t
    rw [t.bls_of] at h
    exact ⟨p, bs, rfl, SqL.of h, q _ (.bl _)⟩
  · cases e
theorem s_all : UnS K (fun x H Q => rAll K [x] H Q) dAllB := by
  intro c G H f1 x a d Q hK ia e q
  subst hK
  unfold dAllB at e
  split at e
  · obtain ⟨bs, e1, rfl⟩ := omap e
    obtain ⟨p, vs, rfl, h, t⟩ := ia.2
    rw [toBls_eq e1] at t
    rw [t.bls_of] at h
    exact ⟨p, bs, rfl, SqL.of h, q _ (.bl _)⟩
  · cases e
def dInt (a : D) : Option D := match a with
  | .int i => some (.int i)
  | .bl b => some (.int (if b then 1 else 0))
  | _ => none
theorem s_int : UnS K (fun x H Q => (fun xs (H : Hp) (Q : VK) => (∃ i, xs = [V.int i] ∧ Q (.int i) H) ∨ ∃ k, xs = [V.bl k] ∧ Q (.int (if k then 1 else 0)) H) [x] H Q) dInt := by
  intro c G H f1 x a d Q hK ia e q
  unfold dInt at e
  split at e
  · cases e
    cases ia.1
    exact .inl ⟨_, rfl, q _ (.int _)⟩
  · cases e
    cases ia.1
    exact .inr ⟨_, rfl, q _ (.int _)⟩
  · cases e
end
end Da
end F20
section F21
namespace Da
open PySem PySem.Spec PyProof.Rows L2 He Ds
section
variable {K : PySem.W.Frag} {W : WX} {c : Cc} {G H : Hp} {σ : L2.St} {ρ : List Slot} {T : List En}
/-! ### arguments -/
theorem mid_in {A B : List En} {x : En} (R : Rel c G H (x :: (A ++ B))) : Rel c G H (A ++ x :: B) := R.perm List.perm_middle
theorem mid_out {A B : List En} {x : En} (R : Rel c G H (A ++ x :: B)) : Rel c G H (x :: (A ++ B)) := R.perm List.perm_middle.symm
theorem Post.more {α : Type} {P : α → List Slot → Hp → Hp → Prop} {r : Res α} {x : En} (h : Post c G T σ W P r) : Post c G (x :: T) σ W P r :=
  h.beside fun ρ' => (List.sublist_cons_self x T).append_left _
def maCons (me : M Slot) (ma : M (List Slot)) : M (List Slot) := mb me fun s => mb ma fun ss => mp (s :: ss)
def mDat (m : M (Bool × D)) : M Slot := mb m fun a => mp (.dat a.1 a.2)
def mOwn (m : M (Bool × List D)) : M Slot := mb m fun a => mp (.own a.1 a.2)
/-- one argument -/
def DS1 (K : PySem.W.Frag) (W : WX) (te : TE) (m : M Slot) : Prop :=
  ∀ (c : Cc) (G H : Hp) (σ : L2.St) (ρ : List Slot) (T : List En) (Q : VK), c.K = K → σ.length = ρ.length → Rel c G H (σ.zip ρ ++ T) →
    Post c G T σ W (fun s ρ' G' H' => ∀ v H2, Rel c G' H2 ((some v, s) :: (σ.zip ρ' ++ T)) → Q v H2) (m ρ) → te σ H Q
theorem DE.s {te : TE} {m : M (Bool × D)} (h : DE K W te m) : DS1 K W te (mDat m) := by
  intro c G H σ ρ T Q hK hl R p
  refine h c G H σ ρ T Q hK hl R (Post.imp (Post.bind p) fun a ρ' G' H' hl' R' s q v r => ?_)
  subst hK
  exact q hl' G' H' R' (Same.refl G') v H' (R'.dat r)
theorem DL.s {te : TE} {m : M (Bool × List D)} (h : DL K W te m) : DS1 K W te (mOwn m) := by
  intro c G H σ ρ T Q hK hl R p
  refine h c G H σ ρ T Q hK hl R (Post.imp (Post.bind p) fun a ρ' G' H' hl' R' s q p vs H2 R2 _ => ?_)
  exact q hl' G' H' R' (Same.refl G') (.ref p) H2 R2
theorem da_nil : DA K W tNil (mp []) := fun c G H σ ρ T Q hK hl R p => p hl G H R (Same.refl G) [] rfl R
theorem da_cons {te : TE} {ta : TA} {me : M Slot} {ma : M (List Slot)} (he : DS1 K W te me) (ha : DA K W ta ma) : DA K W (tCons te ta) (maCons me ma) := by
  intro c G H σ ρ T Q hK hl R p
  refine he c G H σ ρ T _ hK hl R (Post.imp (Post.bind p) fun s ρ1 G1 H1 hl1 R1 s1 q1 v H2 R2 => ?_)
  refine ha c G1 H2 σ ρ1 ((some v, s) :: T) _ hK hl1 (mid_in R2) (Post.imp (Post.bind q1).more fun ss ρ2 G2 H3 hl2 R3 s2 q2 vs hv R4 => ?_)
  refine q2 hl2 G2 H3 (R3.subl ((List.sublist_cons_self _ T).append_left _)) (Same.refl G2) (v :: vs) (by rw [List.length_cons, List.length_cons, hv]) ?_
  show Rel c G2 H3 ((some v, s) :: ((vs.map some).zip ss ++ (σ.zip ρ2 ++ T)))
  rw [← List.append_assoc] at R4 ⊢
  exact mid_out R4
/-- arguments that are data, all of them -/
def dats : List Slot → Option (Bool × List D)
  | [] => some (true, [])
  | .dat fr d :: ss => (dats ss).map fun r => ((fr || flatD d) && r.1, d :: r.2)
  | _ :: _ => none
theorem dats_ok : ∀ {vs : List V} {ss : List Slot} {E : List En} {fr : Bool} {ds : List D}, Rel c G H ((vs.map some).zip ss ++ E) → vs.length = ss.length → dats ss = some (fr, ds) → DrA c.K G (Fl c fr) vs ds ∧ ds.length = vs.length
  | [], [], _, _, _, _, _, e => by cases e; exact ⟨.nil, rfl⟩
  | v :: vs, .dat f d :: ss, E, fr, ds, R, hl, e => by
    rw [dats] at e
    obtain ⟨r, e1, e2⟩ := omap e
    cases e2
    obtain ⟨v', ev, h1⟩ := R.sl (some v, .dat f d) List.mem_cons_self
    cases ev
    obtain ⟨h2, h3⟩ := dats_ok (R.subl (List.sublist_cons_self _ _)) (by simpa using hl) (show dats ss = some (r.1, r.2) from e1)
    exact ⟨.cons h1.fl.low h2.low', by simp [h3]⟩
  | [], _ :: _, _, _, _, _, hl, _ => by simp at hl
  | _ :: _, [], _, _, _, _, hl, _ => by simp at hl
  | _ :: _, .no :: _, _, _, _, _, _, e => by cases e
  | _ :: _, .own _ _ :: _, _, _, _, _, _, e => by cases e
  | _ :: _, .dct _ _ _ :: _, _, _, _, _, _, e => by cases e
  | _ :: _, .dcT _ _ _ :: _, _, _, _, _, _, e => by cases e
  | _ :: _, .pool _ :: _, _, _, _, _, _, e => by cases e
  | _ :: _, .slf _ _ _ :: _, _, _, _, _, _, e => by cases e
theorem Rel.drop {A E : List En} (R : Rel c G H (A ++ E)) : Rel c G H E := R.subl (List.sublist_append_right A E)
def mDats {β : Type} (ma : M (List Slot)) (k : Bool × List D → M β) : M β := mb ma fun ss => match dats ss with
  | some r => k r
  | none => mno
theorem dats_core {β : Type} {P : β → List Slot → Hp → Hp → Prop} {ta : TA} {ma : M (List Slot)} {k : Bool × List D → M β} {r' : List V → Hp → Prop} (ha : DA K W ta ma) (hK : c.K = K) (hl : σ.length = ρ.length) (R : Rel c G H (σ.zip ρ ++ T))
    (p : Post c G T σ W P (mDats ma k ρ)) (fin : ∀ fr ds vs G2 H2 ρ2, σ.length = ρ2.length → Rel c G2 H2 (σ.zip ρ2 ++ T) → Same G G2 → DrA c.K G2 (Fl c fr) vs ds → ds.length = vs.length → Post c G2 T σ W P (k (fr, ds) ρ2) → r' vs H2) : ta σ H r' := by
  refine ha c G H σ ρ T _ hK hl R (Post.imp (Post.bind p) fun ss ρ1 G1 H1 hl1 R1 s1 q1 vs hv R2 => ?_)
  cases e : dats ss with
  | none => rw [e] at q1; exact q1.elim
  | some r =>
    rw [e] at q1
    obtain ⟨h1, h2⟩ := dats_ok R2 hv (show dats ss = some (r.1, r.2) from e)
    exact fin r.1 r.2 vs G1 H1 ρ1 hl1 R1 s1 h1 h2 q1
/-! ### new tuples and lists -/
def mTup (ma : M (List Slot)) : M (Bool × D) := mDats ma fun r => if r.2.length ≤ 1000 then mp (r.1, .tup r.2) else mno
theorem de_tup {ta : TA} {ma : M (List Slot)} (ha : DA K W ta ma) : DE K W (tTup ta) (mTup ma) := by
  intro c G H σ ρ T Q hK hl R p
  refine dats_core ha hK hl R p fun fr ds vs G2 H2 ρ2 hl2 R2 s2 hd hn q => ?_
  dsimp only at q
  split at q
  · rename_i h
    refine ⟨by rw [← hn]; exact Nat.le_trans h (by decide), fun p np => ?_⟩
    subst hK
    have sG : Same G2 (upd G2 p (.tup vs)) := same_new (Same.refl G2) (R2.gn np)
    exact q hl2 _ _ (R2.new np) sG _ (.tup upd_same (hd.up sG))
  · exact q.elim
def mLst (ma : M (List Slot)) : M (Bool × List D) := mDats ma fun r => if r.2.length ≤ 1000 then mp r else mno
theorem Rel.lst {fr : Bool} {ds : List D} {vs : List V} {Q : VK} {E : List En} (R : Rel c G H E) (hd : DrA c.K G (Fl c fr) vs ds) (q : ∀ p vs H2, Rel c G H2 ((some (.ref p), .own fr ds) :: E) → H2 p = some (.lst vs) → Q (.ref p) H2) : ∀ p, H p = none → Q (.ref p) (upd H p (.lst vs)) :=
  fun p np => q p vs _ (R.newOwn np hd) upd_same
theorem dl_lst {ta : TA} {ma : M (List Slot)} (ha : DA K W ta ma) : DL K W (tLst ta) (mLst ma) := by
  intro c G H σ ρ T Q hK hl R p
  refine dats_core ha hK hl R p fun fr ds vs G2 H2 ρ2 hl2 R2 s2 hd hn q => ?_
  dsimp only at q
  split at q
  · rename_i h
    exact ⟨by rw [← hn]; exact Nat.le_trans h (by decide), R2.lst hd (q hl2 G2 H2 R2 (Same.refl G2))⟩
  · exact q.elim
/-- a list that is made and not changed any more -/
def mKeep (m : M (Bool × List D)) : M (Bool × D) := mb m fun a => mp (a.1, .lst a.2)
theorem DL.e {te : TE} {m : M (Bool × List D)} (h : DL K W te m) : DE K W te (mKeep m) := by
  intro c G H σ ρ T Q hK hl R p
  refine h c G H σ ρ T Q hK hl R (Post.imp (Post.bind p) fun a ρ' G' H' hl' R' s q p vs H2 R2 e => ?_)
  subst hK
  obtain ⟨R3, sG, hd⟩ := R2.freeze e
  exact q hl' _ _ R3 sG _ hd
def mCatK (a b : Bool × D) : M (Bool × List D) := match a, b with
  | (f, .lst xs), (g, .lst ys) => if xs.length + ys.length ≤ 1000000 then mp ((f || flatDs xs) && (g || flatDs ys), xs ++ ys) else mno
  | _, _ => mno
theorem dl_cat {ta tb : TE} {ma mc : M Look} (ha : DB K W ta ma) (hb : DB K W tb mc) : DL K W (tOp rCat ta tb) (mBin mCatK ma mc) := by
  intro c G H σ ρ T Q hK hl R p
  refine bin_core ha hb hK hl R p fun a b x y G2 H2 ρ2 hl2 R2 s2 ia ib q => ?_
  obtain ⟨f, a⟩ := a
  obtain ⟨g, b⟩ := b
  cases a with
  | lst xs => cases b with
    | lst ys =>
      unfold mCatK at q
      dsimp only at q
      by_cases h : xs.length + ys.length ≤ 1000000
      · rw [if_pos h] at q
        obtain ⟨l, vs, rfl, e1, t1⟩ := ia.2
        obtain ⟨m, ws, rfl, e2, t2⟩ := ib.2
        exact ⟨l, m, vs, ws, rfl, rfl, e1, e2, by rw [t1.len, t2.len]; exact Nat.le_trans h (by decide), R2.lst (t1.fl.low.append t2.fl.low') (q hl2 G2 H2 R2 (Same.refl G2))⟩
      · rw [if_neg h] at q
        exact q.elim
    | _ => exact False.elim q
  | _ => exact False.elim q
def mListK (a : Bool × D) : M (Bool × List D) := match a with
  | (f, .lst xs) => mp (f || flatDs xs, xs)
  | (f, .tup xs) => mp (f || flatDs xs, xs)
  | _ => mno
theorem dl_list {ta : TE} {ma : M Look} (ha : DB K W ta ma) : DL K W (tCB (Evl.rListS K) (tCons ta tNil)) (mOne mListK ma) := by
  intro c G H σ ρ T Q hK hl R p
  refine one_core (ta := ta) ha hK hl R p fun a x G2 H2 ρ2 hl2 R2 s2 ia q => ?_
  subst hK
  obtain ⟨f, a⟩ := a
  cases a with
  | lst xs =>
    obtain ⟨l, vs, rfl, e1, t1⟩ := ia.2
    exact ⟨l, vs, rfl, .inl (SqL.of e1), R2.lst t1.fl (q hl2 G2 H2 R2 (Same.refl G2))⟩
  | tup xs =>
    obtain ⟨l, vs, rfl, e1, t1⟩ := ia.2
    exact ⟨l, vs, rfl, .inr e1, R2.lst t1.fl (q hl2 G2 H2 R2 (Same.refl G2))⟩
  | _ => exact False.elim q
/-- list of a text -/
def signs (z : Str) : List D := z.cps.toList.map fun c => .str ⟨#[c]⟩
def mListSK (a : Bool × D) : M (Bool × List D) := match a with
  | (_, .str z) => if z.length ≤ 100000 then mp (true, signs z) else mno
  | _ => mno
theorem signs_ok {F : Addr → Prop} {z : Str} (h : SOk z) : DrA K G F (z.cps.toList.map fun c => V.str ⟨#[c]⟩) (signs z) := by
  have h1 : z.cps.all (· < 0x110000) = true := h
  have h2 : ∀ x ∈ z.cps.toList, x < 0x110000 := fun x hx => by
    have := Array.all_eq_true_iff_forall_mem.mp h1 x (Array.mem_toList_iff.mp hx)
    exact of_decide_eq_true this
  unfold signs
  generalize z.cps.toList = l at h2
  induction l with
  | nil => exact .nil
  | cons x xs ih => exact .cons (.str _ (by
      show (#[x] : Array Nat).all (· < 0x110000) = true
      have := h2 x (by simp)
      simpa using this)) (ih fun y hy => h2 y (by simp [hy]))
theorem dl_listS {ta : TE} {ma : M Look} (ha : DB K W ta ma) : DL K W (tCB (fun xs H Q => ∃ z : Str, xs = [.str z] ∧ z.length ≤ sizeLine ∧ ∀ p, H p = none → Q (.ref p) (upd H p (.lst (z.cps.toList.map fun c => V.str ⟨#[c]⟩)))) (tCons ta tNil)) (mOne mListSK ma) := by
  intro c G H σ ρ T Q hK hl R p
  refine one_core (ta := ta) ha hK hl R p fun a x G2 H2 ρ2 hl2 R2 s2 ia q => ?_
  obtain ⟨f, a⟩ := a
  cases a with
  | str z =>
    unfold mListSK at q
    dsimp only at q
    by_cases h : z.length ≤ 100000
    · rw [if_pos h] at q
      cases ia.1 with
      | str _ hz => exact ⟨z, rfl, Nat.le_trans h (by decide), R2.lst (signs_ok hz) (q hl2 G2 H2 R2 (Same.refl G2))⟩
    · rw [if_neg h] at q
      exact q.elim
  | _ => exact False.elim q
/-- [::-1] of a list -/
def mRevK (a : Bool × D) : M (Bool × List D) := match a with
  | (f, .lst xs) => mp (f || flatDs xs, xs.reverse)
  | _ => mno
/-! ### subscripts -/
theorem atI_dr {F : Addr → Prop} {vs : List V} {ds : List D} {i : Int} {d : D} (t : DrA K G F vs ds) (e : atI ds i = some d) : ∃ v, atI vs i = some v ∧ Dr K G F v d := by
  unfold atI at e ⊢
  rw [t.len]
  cases q : ixN ds.length i with
  | none => rw [q] at e; cases e
  | some j =>
    rw [q] at e
    obtain ⟨v, h1, h2⟩ := t.get' (show ds[j]? = some d from e)
    exact ⟨v, h1, h2⟩
def mIxL (a b : Bool × D) : M (Bool × D) := match a, b with
  | (f, .lst xs), (_, .int i) => (match atI xs i with | some d => mp (f || flatD d, d) | none => mno)
  | _, _ => mno
def mIxT (a b : Bool × D) : M (Bool × D) := match a, b with
  | (f, .tup xs), (_, .int i) => (match atI xs i with | some d => mp (f || flatD d, d) | none => mno)
  | _, _ => mno
theorem de_ixL {ta tb : TE} {ma mc : M Look} (ha : DB K W ta ma) (hb : DB K W tb mc) : DE K W (tOp (rIxL K) ta tb) (mBin mIxL ma mc) := by
  intro c G H σ ρ T Q hK hl R p
  refine bin_core ha hb hK hl R p fun a b x y G2 H2 ρ2 hl2 R2 s2 ia ib q => ?_
  subst hK
  obtain ⟨f, a⟩ := a
  obtain ⟨g, b⟩ := b
  cases a with
  | lst xs => cases b with
    | int i =>
      unfold mIxL at q
      dsimp only at q
      cases e : atI xs i with
      | none => rw [e] at q; exact q.elim
      | some d =>
        rw [e] at q
        obtain ⟨l, vs, rfl, e1, t1⟩ := ia.2
        cases ib.1
        obtain ⟨v, h3, h4⟩ := atI_dr t1 e
        exact ⟨l, vs, i, v, rfl, rfl, SqL.of e1, h3, q hl2 G2 H2 R2 (Same.refl G2) v h4.fl⟩
    | _ => exact False.elim q
  | _ => exact False.elim q
theorem de_ixT {ta tb : TE} {ma mc : M Look} (ha : DB K W ta ma) (hb : DB K W tb mc) : DE K W (tOp (rIxT K) ta tb) (mBin mIxT ma mc) := by
  intro c G H σ ρ T Q hK hl R p
  refine bin_core ha hb hK hl R p fun a b x y G2 H2 ρ2 hl2 R2 s2 ia ib q => ?_
  subst hK
  obtain ⟨f, a⟩ := a
  obtain ⟨g, b⟩ := b
  cases a with
  | tup xs => cases b with
    | int i =>
      unfold mIxT at q
      dsimp only at q
      cases e : atI xs i with
      | none => rw [e] at q; exact q.elim
      | some d =>
        rw [e] at q
        obtain ⟨l, vs, rfl, e1, t1⟩ := ia.2
        cases ib.1
        obtain ⟨v, h3, h4⟩ := atI_dr t1 e
        exact ⟨l, vs, i, v, rfl, rfl, e1, h3, q hl2 G2 H2 R2 (Same.refl G2) v h4.fl⟩
    | _ => exact False.elim q
  | _ => exact False.elim q
/-- slices -/
def DO (K : PySem.W.Frag) (W : WX) (t : TO) (m : M (Option Int)) : Prop :=
  ∀ (c : Cc) (G H : Hp) (σ : L2.St) (ρ : List Slot) (T : List En) (Q : Option Int → Hp → Prop), c.K = K → σ.length = ρ.length → Rel c G H (σ.zip ρ ++ T) →
    Post c G T σ W (fun o _ _ H' => Q o H') (m ρ) → t σ H Q
theorem do_none : DO K W tNoPart (mp none) := fun c G H σ ρ T Q hK hl R p => p hl G H R (Same.refl G)
def mPart (m : M (Bool × D)) : M (Option Int) := mb m fun a => match a.2 with
  | .int i => mp (some i)
  | _ => mno
theorem do_some {te : TE} {m : M (Bool × D)} (h : DE K W te m) : DO K W (tPart te) (mPart m) := by
  intro c G H σ ρ T Q hK hl R p
  refine h c G H σ ρ T _ hK hl R (Post.imp (Post.bind p) fun a ρ' G' H' hl' R' s q v r => ?_)
  obtain ⟨f, d⟩ := a
  dsimp only at q r
  cases r <;> first | exact ⟨_, rfl, q hl' G' H' R' (Same.refl G')⟩ | exact q.elim
def mSl {β : Type} (k : Bool × D → Option Int → Option Int → M β) (ma : M Look) (ml mh : M (Option Int)) : M β := mb ma fun fa => mb ml fun lo => mb mh fun hi => fun ρ => match fa ρ with
  | some a => k a lo hi ρ
  | none => .no
theorem sl_core {β : Type} {k : Bool × D → Option Int → Option Int → M β} {P : β → List Slot → Hp → Hp → Prop} {r' : V → Option Int → Option Int → Hp → Prop} {ta : TE} {tl th : TO} {ma : M Look} {ml mh : M (Option Int)} (ha : DB K W ta ma) (h1 : DO K W tl ml) (h2 : DO K W th mh) (hK : c.K = K) (hl : σ.length = ρ.length) (R : Rel c G H (σ.zip ρ ++ T))
    (p : Post c G T σ W P (mSl k ma ml mh ρ)) (fin : ∀ a x lo hi G2 H2 ρ2, σ.length = ρ2.length → Rel c G2 H2 (σ.zip ρ2 ++ T) → Same G G2 → Itm c G2 H2 a.1 x a.2 → Post c G2 T σ W P (k a lo hi ρ2) → r' x lo hi H2) : ta σ H fun x H1 => tl σ H1 fun lo H2 => th σ H2 fun hi H3 => r' x lo hi H3 := by
  refine ha c G H σ ρ T _ hK hl R (Post.imp (Post.bind p) fun fa ρ1 G1 H1 hl1 R1 s1 q1 x lx => ?_)
  refine h1 c G1 H1 σ ρ1 T _ hK hl1 R1 (Post.imp (Post.bind q1) fun lo ρ2 G2 H2 hl2 R2 s2 q2 => ?_)
  refine h2 c G2 H2 σ ρ2 T _ hK hl2 R2 (Post.imp (Post.bind q2) fun hi ρ3 G3 H3 hl3 R3 s3 q3 => ?_)
  cases e1 : fa ρ3 with
  | none => rw [e1] at q3; exact q3.elim
  | some a =>
    rw [e1] at q3
    exact fin a x lo hi G3 H3 ρ3 hl3 R3 ((s1.trans s2).trans s3) (lx G3 H3 ρ3 _ _ R3 hl3 (s2.trans s3) e1) q3
def cutD (xs : List D) (lo hi : Option Int) : List D := (xs.drop (HT.sIx xs.length 0 lo)).take (HT.sIx xs.length xs.length hi - HT.sIx xs.length 0 lo)
theorem cut_dr {F : Addr → Prop} {vs : List V} {ds : List D} {lo hi : Option Int} (t : DrA K G F vs ds) : DrA K G F (cutV vs lo hi) (cutD ds lo hi) := by
  unfold cutV cutD
  rw [t.len]
  exact (t.drop _).take _
def mSlL (a : Bool × D) (lo hi : Option Int) : M (Bool × List D) := match a with
  | (f, .lst xs) => mp (f || flatDs xs, cutD xs lo hi)
  | _ => mno
theorem dl_slice {ta : TE} {tl th : TO} {ma : M Look} {ml mh : M (Option Int)} (ha : DB K W ta ma) (h1 : DO K W tl ml) (h2 : DO K W th mh) : DL K W (tSl (rSlL K) ta tl th) (mSl mSlL ma ml mh) := by
  intro c G H σ ρ T Q hK hl R p
  refine sl_core ha h1 h2 hK hl R p fun a x lo hi G2 H2 ρ2 hl2 R2 s2 ia q => ?_
  subst hK
  obtain ⟨f, a⟩ := a
  cases a with
  | lst xs =>
    obtain ⟨l, vs, rfl, e1, t1⟩ := ia.2
    exact ⟨l, vs, rfl, SqL.of e1, R2.lst (cut_dr t1.fl) (q hl2 G2 H2 R2 (Same.refl G2))⟩
  | _ => exact False.elim q
end
end Da
end F21
section F22
namespace Da
open PySem PySem.Spec PyProof.Rows L2 He Ds
section
variable {K : PySem.W.Frag} {W : WX} {c : Cc} {G H : Hp} {σ : L2.St} {ρ : List Slot} {T : List En}
/-! ### t[::s] of a tuple of two -/
def step2 (a : Bool × D) (s : D) : Option (Bool × D) := match a.2, s with
  | .tup [x, y], .int i => if i = 1 then some a else if i = -1 then some (a.1, .tup [y, x]) else none
  | _, _ => none
theorem step2_inv {a r : Bool × D} {s : D} (h : step2 a s = some r) : ∃ x y i, a.2 = .tup [x, y] ∧ s = .int i ∧ ((i = 1 ∧ r = a) ∨ (i = -1 ∧ r = (a.1, .tup [y, x]))) := by
  unfold step2 at h
  split at h
  · rename_i x y i e
    refine ⟨x, y, i, e, rfl, ?_⟩
    by_cases e1 : i = 1
    · rw [if_pos e1] at h
      exact .inl ⟨e1, (Option.some.inj h).symm⟩
    · rw [if_neg e1] at h
      by_cases e2 : i = -1
      · rw [if_pos e2] at h
        exact .inr ⟨e2, (Option.some.inj h).symm⟩
      · rw [if_neg e2] at h
        cases h
  · cases h
def mStep2 (me ms : M (Bool × D)) : M (Bool × D) := mb me fun a => mb ms fun s => mo (step2 a s.2)
theorem de_step2 {te ts : TE} {me ms : M (Bool × D)} (he : DE K W te me) (hs : DE K W ts ms) : DE K W (tStep2 K te ts) (mStep2 me ms) := by
  intro c G H σ ρ T Q hK hl R p
  refine he c G H σ ρ T _ hK hl R (Post.imp (Post.bind p) fun a ρ1 G1 H1 hl1 R1 s1 q1 v r => ?_)
  refine hs c G1 H1 σ ρ1 T _ hK hl1 R1 (Post.imp (Post.bind q1) fun s ρ2 G2 H2 hl2 R2 s2 q2 w r2 => ?_)
  subst hK
  cases e : step2 a s.2 with
  | none => rw [e] at q2; exact q2.elim
  | some z =>
    rw [e] at q2
    obtain ⟨x, y, i, e1, e2, e3⟩ := step2_inv e
    obtain ⟨f, a⟩ := a
    obtain ⟨g, b⟩ := s
    dsimp only at e1 e2
    subst e1 e2
    have r' := r.up s2
    cases r2
    cases r with
    | tup ht t => cases t with
      | cons h1 t => cases t with
        | cons h2 t =>
          cases t
          refine ⟨i, rfl, _, _, _, rfl, seqT_same (s2.trans R2.gs) (SqT.of ht), ?_⟩
          rcases e3 with ⟨rfl, rfl⟩ | ⟨rfl, rfl⟩
          · exact .inl ⟨rfl, q2 hl2 G2 H2 R2 (Same.refl G2) _ r'⟩
          · refine .inr ⟨rfl, fun p np => ?_⟩
            have sG : ∀ o, Same G2 (upd G2 p o) := fun o => same_new (Same.refl G2) (R2.gn np)
            exact q2 hl2 _ _ (R2.new np) (sG _) _ (.tup upd_same (.cons ((h2.up s2).up (sG _)) (.cons ((h1.up s2).up (sG _)) .nil)))
/-! ### truth -/
def truD : D → Option Bool
  | .non => some false
  | .bl b => some b
  | .int i => some (i != 0)
  | .str s => if s.length ≤ 1000000 then some ((s.length : Int) != 0) else none
  | .lst xs => some (!xs.isEmpty)
  | .tup xs => some (!xs.isEmpty)
  | .dic ks _ => some (!ks.isEmpty)
  | .obj _ _ _ => none
  | .rep _ => none
  | .dicT _ _ => none
  | .dicB _ _ => none
  | .exc _ _ _ _ => none
theorem empty_of {F : Addr → Prop} {vs : List V} {ds : List D} (t : DrA K G F vs ds) : (!vs.isEmpty) = !ds.isEmpty := by cases t <;> rfl
theorem tru_of {v : V} {f : Bool} {d : D} {k : Bool} (h : Itm c G H f v d) (e : truD d = some k) : TruV c.K v H k := by
  cases d with
  | non => cases h.1; cases e; exact rfl
  | bl b => cases h.1; cases e; exact rfl
  | int i => cases h.1; cases e; exact rfl
  | str s =>
    cases h.1
    by_cases hs : s.length ≤ 1000000
    · have e' : some ((s.length : Int) != 0) = some k := by rw [← e]; exact (if_pos hs).symm
      cases e'
      exact ⟨Nat.le_trans hs (by decide), rfl⟩
    · have e' : (none : Option Bool) = some k := by rw [← e]; exact (if_neg hs).symm
      cases e'
  | lst xs =>
    cases e
    obtain ⟨p, vs, rfl, h1, t⟩ := h.2
    exact .inl ⟨vs, SqL.of h1, (empty_of t).symm⟩
  | tup xs =>
    cases e
    obtain ⟨p, vs, rfl, h1, t⟩ := h.2
    exact .inr (.inl ⟨vs, h1, (empty_of t).symm⟩)
  | dic ks xs =>
    cases e
    obtain ⟨p, vs, rfl, h1, hl, t⟩ := h.2
    refine .inr (.inr ⟨_, h1, ?_⟩)
    cases ks with
    | nil => rfl
    | cons k ks => cases vs with
      | nil => simp at hl
      | cons v vs => rfl
  | obj _ _ _ => cases e
  | rep _ => cases e
  | dicT _ _ => cases e
  | dicB _ _ => cases e
  | exc _ _ _ _ => cases e
def mBl (a : Bool × D) : M Bool := match a.2 with
  | .bl b => mp b
  | _ => mno
theorem bl_core {Q : Bool → Hp → Prop} {f : Bool} {d : D} {v : V} {F : Addr → Prop} (hl : σ.length = ρ.length) (R : Rel c G H (σ.zip ρ ++ T)) (r : Dr c.K G F v d) (q : Post c G T σ W (fun b _ _ H' => Q b H') (mBl (f, d) ρ)) : ∃ k, v = .bl k ∧ Q k H := by
  cases d with
  | bl b =>
    cases r
    exact ⟨b, rfl, q hl G H R (Same.refl G)⟩
  | _ => exact False.elim q
def mT (m : M (Bool × D)) : M Bool := mb m mBl
theorem dt_b {te : TE} {m : M (Bool × D)} (h : DE K W te m) : DT K W (tB te) (mT m) := by
  intro c G H σ ρ T Q hK hl R p
  exact h c G H σ ρ T _ hK hl R (Post.imp (Post.bind p) fun a ρ' G' H' hl' R' s q v r => bl_core hl' R' r q)
theorem dt_t {te : TE} {m : M (Bool × D)} (h : DE K W te m) : DT K W (tTest te) (mT m) := by
  intro c G H σ ρ T Q hK hl R p
  exact h c G H σ ρ T _ hK hl R (Post.imp (Post.bind p) fun a ρ' G' H' hl' R' s q v r => bl_core hl' R' r q)
def mTru (m : M Look) : M Bool := mOne (fun a => mo (truD a.2)) m
theorem dt_tru {te : TE} {m : M Look} (h : DB K W te m) : DT K W (fun σ H Q => te σ H fun x H' => ∃ k, TruV K x H' k ∧ Q k H') (mTru m) := by
  intro c G H σ ρ T Q hK hl R p
  refine one_core (ta := te) h hK hl R p fun a x G2 H2 ρ2 hl2 R2 s2 ia q => ?_
  subst hK
  cases e : truD a.2 with
  | none => rw [e] at q; exact q.elim
  | some k =>
    rw [e] at q
    exact ⟨k, tru_of ia e, q hl2 G2 H2 R2 (Same.refl G2)⟩
def mAnd (a b : M Bool) : M Bool := mb a fun k => if k = true then b else mp false
def mOr (a b : M Bool) : M Bool := mb a fun k => if k = true then mp true else b
def mNot (a : M Bool) : M Bool := mb a fun k => mp (!k)
theorem dt_and {t u : TT} {a b : M Bool} (ha : DT K W t a) (hb : DT K W u b) : DT K W (tAnd t u) (mAnd a b) := by
  intro c G H σ ρ T Q hK hl R p
  refine ha c G H σ ρ T _ hK hl R (Post.imp (Post.bind p) fun k ρ1 G1 H1 hl1 R1 s1 q => ?_)
  cases k with
  | true => exact iteT (hb c G1 H1 σ ρ1 T Q hK hl1 R1 q)
  | false => exact iteF (q hl1 G1 H1 R1 (Same.refl G1))
theorem dt_or {t u : TT} {a b : M Bool} (ha : DT K W t a) (hb : DT K W u b) : DT K W (tOr t u) (mOr a b) := by
  intro c G H σ ρ T Q hK hl R p
  refine ha c G H σ ρ T _ hK hl R (Post.imp (Post.bind p) fun k ρ1 G1 H1 hl1 R1 s1 q => ?_)
  cases k with
  | true => exact iteT (q hl1 G1 H1 R1 (Same.refl G1))
  | false => exact iteF (hb c G1 H1 σ ρ1 T Q hK hl1 R1 q)
theorem dt_not {t : TT} {a : M Bool} (ha : DT K W t a) : DT K W (tNot t) (mNot a) := by
  intro c G H σ ρ T Q hK hl R p
  exact ha c G H σ ρ T _ hK hl R (Post.imp (Post.bind p) fun k ρ1 G1 H1 hl1 R1 s1 q => q hl1 G1 H1 R1 (Same.refl G1))
theorem dt_yes : DT K W tYes (mp true) := fun c G H σ ρ T Q hK hl R p => p hl G H R (Same.refl G)
/-! ### and, or, not, if-else as values -/
def mAndV (a b : M (Bool × D)) : M (Bool × D) := mb a fun x => match x.2 with
  | .bl true => b
  | .bl false => mp (true, .bl false)
  | _ => mno
def mOrV (a b : M (Bool × D)) : M (Bool × D) := mb a fun x => match x.2 with
  | .bl true => mp (true, .bl true)
  | .bl false => b
  | _ => mno
def mNotV (a : M (Bool × D)) : M (Bool × D) := mb a fun x => match x.2 with
  | .bl k => mp (true, .bl (!k))
  | _ => mno
theorem de_and {ta tb : TE} {a b : M (Bool × D)} (ha : DE K W ta a) (hb : DE K W tb b) : DE K W (tAndV ta tb) (mAndV a b) := by
  intro c G H σ ρ T Q hK hl R p
  refine ha c G H σ ρ T _ hK hl R (Post.imp (Post.bind p) fun x ρ1 G1 H1 hl1 R1 s1 q v r => ?_)
  obtain ⟨f, x⟩ := x
  cases x with
  | bl k =>
    cases r
    cases k with
    | true => exact ⟨true, rfl, iteT (hb c G1 H1 σ ρ1 T Q hK hl1 R1 q)⟩
    | false => exact ⟨false, rfl, iteF (q hl1 G1 H1 R1 (Same.refl G1) _ (.bl _))⟩
  | _ => exact False.elim q
def mNotT (m : M Look) : M (Bool × D) := mOne (fun a => mo ((truD a.2).map fun k => (true, .bl (!k)))) m
def mIf {α : Type} (t : M Bool) (a b : M α) : M α := mb t fun k => if k = true then a else b
theorem de_if {t : TT} {ta tb : TE} {m : M Bool} {a b : M (Bool × D)} (ht : DT K W t m) (ha : DE K W ta a) (hb : DE K W tb b) : DE K W (tIf t ta tb) (mIf m a b) := by
  intro c G H σ ρ T Q hK hl R p
  refine ht c G H σ ρ T _ hK hl R (Post.imp (Post.bind p) fun k ρ1 G1 H1 hl1 R1 s1 q => ?_)
  cases k with
  | true => exact iteT (ha c G1 H1 σ ρ1 T Q hK hl1 R1 q)
  | false => exact iteF (hb c G1 H1 σ ρ1 T Q hK hl1 R1 q)
theorem scal_bl (K : PySem.W.Frag) {v : V} {k : Bool} (h : Scal v (.bl k)) : v = .bl k := by
  cases h K (fun _ => none) (fun _ => True)
  rfl
/-- a < b < c -/
def chK (f g : D → D → Option D) (fb : Look) (md : M Look) (a b : Bool × D) : M (Bool × D) := match f a.2 b.2 with
  | some (.bl true) => mb md fun fd => fun ρ => match fb ρ, fd ρ with
    | some b', some d => (match g b'.2 d.2 with | some z => .ok (true, z) ρ | none => .no)
    | _, _ => .no
  | some (.bl false) => mp (true, .bl false)
  | _ => mno
def mChain (f g : D → D → Option D) (ma mc md : M Look) : M (Bool × D) := mb ma fun fa => mb mc fun fb => fun ρ => match fa ρ, fb ρ with
  | some a, some b => chK f g fb md a b ρ
  | _, _ => .no
theorem de_chain {r r' : R2} {f g : D → D → Option D} {ta tb tc : TE} {ma mc md : M Look} (hr : OpS K r f) (hr' : OpS K r' g) (ha : DB K W ta ma) (hb : DB K W tb mc) (hd : DB K W tc md) : DE K W (tChain r r' ta tb tc) (mChain f g ma mc md) := by
  intro c G H σ ρ T Q hK hl R p
  refine ha c G H σ ρ T _ hK hl R (Post.imp (Post.bind p) fun fa ρ1 G1 H1 hl1 R1 s1 q1 x lx => ?_)
  refine hb c G1 H1 σ ρ1 T _ hK hl1 R1 (Post.imp (Post.bind q1) fun fb ρ2 G2 H2 hl2 R2 s2 q2 y ly => ?_)
  cases e1 : fa ρ2 with
  | none => rw [e1] at q2; exact q2.elim
  | some a => cases e2 : fb ρ2 with
    | none => rw [e1, e2] at q2; exact q2.elim
    | some b =>
      rw [e1, e2] at q2
      have q3 : Post c G2 T σ W (fun a _ G' H' => ∀ v, Dr c.K G' (Fl c a.1) v a.2 → Q v H') (chK f g fb md a b ρ2) := q2
      cases e3 : f a.2 b.2 with
      | none => unfold chK at q3; rw [e3] at q3; exact q3.elim
      | some d =>
        refine hr c G2 H2 a.1 b.1 x y a.2 b.2 d _ hK (lx G2 H2 ρ2 _ _ R2 hl2 s2 e1) (ly G2 H2 ρ2 _ _ R2 hl2 (Same.refl G2) e2) e3 fun v hv => ?_
        unfold chK at q3
        rw [e3] at q3
        cases d with
        | bl k =>
          cases scal_bl K hv
          cases k with
          | true =>
            refine ⟨true, rfl, iteT ?_⟩
            refine hd c G2 H2 σ ρ2 T _ hK hl2 R2 (Post.imp (Post.bind q3) fun fd ρ3 G3 H3 hl3 R3 s3 q4 w lw => ?_)
            cases e4 : fb ρ3 with
            | none => rw [e4] at q4; exact q4.elim
            | some b' => cases e5 : fd ρ3 with
              | none => rw [e4, e5] at q4; exact q4.elim
              | some d' =>
                rw [e4, e5] at q4
                dsimp only at q4
                cases e6 : g b'.2 d'.2 with
                | none => rw [e6] at q4; exact q4.elim
                | some z =>
                  rw [e6] at q4
                  exact hr' c G3 H3 b'.1 d'.1 y w b'.2 d'.2 z Q hK (ly G3 H3 ρ3 _ _ R3 hl3 s3 e4) (lw G3 H3 ρ3 _ _ R3 hl3 (Same.refl G3) e5) e6 fun v hv => q4 hl3 G3 H3 R3 (Same.refl G3) v (hv _ _ _)
          | false => exact ⟨false, rfl, iteF (q3 hl2 G2 H2 R2 (Same.refl G2) _ (.bl _))⟩
        | _ => exact False.elim q3
end
end Da
end F22
section F23
namespace Da
open PySem PySem.Spec PyProof.Rows L2 He Ds
/-! ### what a def comes to -/
inductive Out where
  | no | er (k : Str) (d : D) | ok (fr : Bool) (d : D)
/-- .. one that changes the drawn ints, which it is passed first -/
inductive OutP where
  | no | ok (fr : Bool) (d : D) (ns : List Int)
/-- .. an __init__ -/
inductive OutI where
  | no | er (k : Str) (d : D) | ok (ns : List Str) (ds : List D)
def OkAt (K : PySem.W.Frag) (G H : Hp) (E : XK) (k : Str) (d : D) (hh : Hp → Prop) : Prop :=
  ∀ v x G' H', hh H' → Same G G' → Same G' H' → (∀ b, H b ≠ none → G' b = G b) → Dr K G' (fun _ => True) v d → G' x = some (.xd [("value", v)]) → E (.ref (ga K k)) (some x) H'
/-- the promise of a def that changes nothing -/
def spD (K : PySem.W.Frag) (f : List D → Out) : Sp := fun us H Q E => ∃ G ds, Same G H ∧ DrA K G (fun _ => True) us ds ∧ match f ds with
  | .no => False
  | .ok fr d => ∀ v G' H', Same H H' → Same G G' → Same G' H' → (∀ b, H b ≠ none → G' b = G b) → Dr K G' (fun a => fr = true → G a = none) v d → Q v H'
  | .er k d => OkAt K G H E k d (Same H)
def spP (K : PySem.W.Frag) (f : List Int → List D → OutP) : Sp := fun us H Q _ => ∃ p vs ns G ds, us = .ref p :: vs ∧ H p = some (.lst (ns.map V.int)) ∧ G p = none ∧ Same G H ∧ DrA K G (fun _ => True) vs ds ∧ match f ns ds with
  | .no => False
  | .ok fr d ns' => ∀ v G' H', (∀ b o, H b = some o → b ≠ p → H' b = some o) → H' p = some (.lst (ns'.map V.int)) → Same G G' → Same G' H' → (∀ b, H b ≠ none → G' b = G b) → Dr K G' (fun a => fr = true → G a = none) v d → Q v H'
def spI (K : PySem.W.Frag) (C : Str) (f : List D → OutI) : Sp := fun us H Q E => ∃ o dx vs G ds, us = .ref o :: vs ∧ H o = some (.ins (ga K C) dx []) ∧ G o = none ∧ Same G H ∧ DrA K G (fun _ => True) vs ds ∧ match f ds with
  | .no => False
  | .ok ns es => ∀ G' H' dx' ws, (∀ b u, H b = some u → b ≠ o → H' b = some u) → H' o = some (.ins (ga K C) dx' (ns.zip ws)) → ns.length = ws.length → Same G G' → Same G' H' → (∀ b, H b ≠ none → G' b = G b) → DrA K G' (fun _ => True) ws es → Q .non H'
  | .er k d => OkAt K G H E k d fun H' => ∀ b u, H b = some u → b ≠ o → H' b = some u
theorem tcall_nil {sp : Sp} {E : XK} {t : TA} {σ : L2.St} {H : Hp} {Q : VK} (h : t σ H fun vs H1 => sp vs H1 Q E) : tCall sp [] E t σ H Q := by
  show t σ H fun vs H1 => sp (vs ++ []) H1 Q E
  have e : (fun (vs : List V) (H1 : Hp) => sp (vs ++ []) H1 Q E) = fun vs H1 => sp vs H1 Q E := by
    funext vs H1
    rw [List.append_nil]
  rw [e]
  exact h
section
variable {K : PySem.W.Frag} {W : WX} {c : Cc} {G H : Hp} {σ : L2.St} {ρ : List Slot} {T : List En}
def mCallX (f : List D → Out) (ma : M (List Slot)) : M (Bool × D) := mDats ma fun r => fun ρ => match f r.2 with
  | .ok fr d => .ok (fr || flatD d, d) ρ
  | .er k d => .er k d ρ
  | .no => .no
def mCall (f : List D → Out) (ma : M (List Slot)) : M (Bool × D) := mDats ma fun r => fun ρ => match f r.2 with
  | .ok fr d => .ok (fr || flatD d, d) ρ
  | _ => .no
theorem fresh_in {E : List En} {fr : Bool} {v : V} {d : D} {G' : Hp} (R : Rel c G H E) (h : Dr c.K G' (fun a => fr = true → G a = none) v d) : Dr c.K G' (Fl c (fr || flatD d)) v d :=
  Dr.fl (h.mono (Same.refl G') fun a k z => R.g0n (k z))
theorem spd_of {f : List D → Out} {F0 : Addr → Prop} {ds : List D} {vs : List V} {Q : VK} {E' : XK} {E : List En} (R : Rel c G H E) (hd : DrA c.K G F0 vs ds) (q : match f ds with
    | .no => False
    | .ok fr d => ∀ v G' H', Rel c G' H' E → Same G G' → Dr c.K G' (Fl c (fr || flatD d)) v d → Q v H'
    | .er k d => ∀ v x G' H', Rel c G' H' E → Same G G' → Dr c.K G' (fun _ => True) v d → G' x = some (.xd [("value", v)]) → E' (.ref (ga c.K k)) (some x) H') : spD c.K f vs H Q E' := by
  refine ⟨G, ds, R.gs, hd.top, ?_⟩
  cases e : f ds with
  | no => rw [e] at q; exact q
  | ok fr d =>
    rw [e] at q
    exact fun v G' H' sH sG gs gg h => q v G' H' (R.grow sH sG gs gg) sG (fresh_in R h)
  | er k d =>
    rw [e] at q
    exact fun v x G' H' sH sG gs gg h hx => q v x G' H' (R.grow sH sG gs gg) sG h hx
theorem de_callX {f : List D → Out} {ta : TA} {ma : M (List Slot)} (ha : DA K W ta ma) : DE K W (tCallS (spD K f) (WE W) ta) (mCallX f ma) := by
  intro c G H σ ρ T Q hK hl R p
  refine dats_core ha hK hl R p fun fr ds vs G2 H2 ρ2 hl2 R2 s2 hd hn q => ?_
  subst hK
  refine spd_of R2 hd ?_
  cases e : f ds with
  | no => dsimp only at q; rw [e] at q; exact q.elim
  | ok fr' d =>
    dsimp only at q
    rw [e] at q
    exact fun v G' H' R' sG h => q hl2 G' H' R' sG v h
  | er k d =>
    dsimp only at q
    rw [e] at q
    exact fun v x G' H' R' sG h hx => q hl2 v x G' H' R' sG h hx
theorem de_call {f : List D → Out} {ta : TA} {ma : M (List Slot)} (ha : DA K W ta ma) : DE K W (tCall (spD K f) [] E0 ta) (mCall f ma) := by
  intro c G H σ ρ T Q hK hl R p
  refine dats_core ha hK hl R p fun fr ds vs G2 H2 ρ2 hl2 R2 s2 hd hn q => ?_
  subst hK
  rw [List.append_nil]
  refine spd_of R2 hd ?_
  cases e : f ds with
  | no => dsimp only at q; rw [e] at q; exact q.elim
  | ok fr' d =>
    dsimp only at q
    rw [e] at q
    exact fun v G' H' R' sG h => q hl2 G' H' R' sG v h
  | er k d =>
    dsimp only at q
    rw [e] at q
    exact q.elim
/-! ### calls that change the drawn ints -/
theorem Rel.callMut {p : Addr} {s s' : Slot} {u : HO} {E : List En} {G' H' : Hp} (R : Rel c G H ((some (.ref p), s) :: E)) (hs : isOwn s = true) (hs' : isOwn s' = true) (hio : c.IO p ∨ c.H0 p = none) (k : ∀ b o, H b = some o → b ≠ p → H' b = some o) (e : H' p = some u)
    (sG : Same G G') (gs : Same G' H') (gg : ∀ b, H b ≠ none → G' b = G b) (h : Held c G (upd H p u) p s') (hn : isNest s' = false := by rfl) : Rel c G' H' ((some (.ref p), s') :: E) := by
  refine (R.mutO hs hs' hio h hn).grow (fun b o eb => ?_) sG gs fun b hb => ?_
  · by_cases z : b = p
    · subst z
      rw [upd_same] at eb
      rw [e]
      exact eb
    · rw [upd_ne z] at eb
      exact k b o eb z
  · by_cases z : b = p
    · subst z
      obtain ⟨q, eq, _, h2, _, _⟩ := R.head hs
      cases eq
      exact gg b h2
    · rw [upd_ne z] at hb
      exact gg b hb
def mCallP (i : Nat) (f : List Int → List D → OutP) (ma : M (List Slot)) : M (Bool × D) := mDats ma fun r => fun ρ => match ρ[i]? with
  | some (.pool ns) => (match f ns r.2 with
    | .ok fr d ns' => .ok (fr || flatD d, d) (ρ.set i (.pool ns'))
    | .no => .no)
  | _ => .no
theorem callP_core {i : Nat} {f : List Int → List D → OutP} {ta : TA} {ma : M (List Slot)} {Q : VK} (ha : DA K W ta ma) (hK : c.K = K) (hl : σ.length = ρ.length) (R : Rel c G H (σ.zip ρ ++ T)) (hi : ∃ p ns, σ[i]? = some (some (V.ref p)) ∧ ρ[i]? = some (.pool ns))
    (p : Post c G T σ W (fun a _ G' H' => ∀ v, Dr c.K G' (Fl c a.1) v a.2 → Q v H') (mCallP i f ma ρ)) (E : XK) : (tCons (tVar i) ta) σ H fun vs H1 => spP K f vs H1 Q E := by
  obtain ⟨p0, ns0, e1, e2⟩ := hi
  refine ⟨.ref p0, e1, ?_⟩
  refine dats_core ha hK hl R p fun fr ds vs G2 H2 ρ2 hl2 R2 s2 hd hn q => ?_
  subst hK
  dsimp only at q
  cases e : ρ2[i]? with
  | none => rw [e] at q; exact q.elim
  | some s => cases s with
    | pool ns =>
      rw [e] at q
      dsimp only at q
      obtain ⟨o, e3, e4⟩ := zip_get hl2 e
      have eo : o = some (.ref p0) := Option.some.inj (e3.symm.trans e1)
      subst eo
      have R3 := R2.out e4
      obtain ⟨p1, eq, g1, h1, ⟨hio, h2⟩, _⟩ := R3.head rfl
      cases eq
      refine ⟨p0, vs, ns, G2, ds, rfl, h2, g1, R2.gs, hd.top, ?_⟩
      cases ef : f ns ds with
      | no => rw [ef] at q; exact q.elim
      | ok fr' d ns' =>
        rw [ef] at q
        dsimp only at q
        intro v G' H' k e' sG gs gg hv
        have R4 := R3.callMut (s' := .pool ns') rfl rfl (.inl hio) k e' sG gs gg ⟨hio, upd_same⟩
        have R5 := R4.back' hl2 e3
        refine q (by rw [List.length_set]; exact hl2) G' H' R5 sG v ?_
        exact fresh_in R2 hv
    | _ => rw [e] at q; exact q.elim
/-- the drawn ints are where they are said to be -/
def hasPool (i : Nat) (ρ : List Slot) : Bool := match ρ[i]? with
  | some (.pool _) => true
  | _ => false
theorem hasPool_of {i : Nat} (hl : σ.length = ρ.length) (R : Rel c G H (σ.zip ρ ++ T)) (h : hasPool i ρ = true) : ∃ p ns, σ[i]? = some (some (V.ref p)) ∧ ρ[i]? = some (.pool ns) := by
  unfold hasPool at h
  cases e : ρ[i]? with
  | none => rw [e] at h; cases h
  | some s => cases s with
    | pool ns =>
      obtain ⟨o, e1, e2⟩ := zip_get hl e
      obtain ⟨p, eo, _⟩ := R.sl _ (zip_mem (T := T) e2)
      cases eo
      exact ⟨p, ns, e1, rfl⟩
    | _ => rw [e] at h; cases h
def mPool (i : Nat) (f : List Int → List D → OutP) (ma : M (List Slot)) : M (Bool × D) := fun ρ => if hasPool i ρ = true then mCallP i f ma ρ else .no
theorem de_callP {i : Nat} {f : List Int → List D → OutP} {ta : TA} {ma : M (List Slot)} (ha : DA K W ta ma) : DE K W (tCall (spP K f) [] E0 (tCons (tVar i) ta)) (mPool i f ma) := by
  intro c G H σ ρ T Q hK hl R p
  unfold mPool at p
  by_cases h : hasPool i ρ = true
  · rw [if_pos h] at p
    have z := callP_core (W := W) ha hK hl R (hasPool_of hl R h) p E0
    exact tcall_nil z
  · rw [if_neg h] at p
    exact p.elim
end
end Da
end F23
section F24
namespace Da
open PySem PySem.Spec PyProof.Rows L2 He Ds
section
variable {K : PySem.W.Frag} {W : WX} {c : Cc} {G H : Hp} {σ : L2.St} {ρ : List Slot} {T : List En}
/-! ### fields of an instance -/
theorem lookup_zip {α : Type} : ∀ {ns : List Str} {xs : List α} {f : Str} {i : Nat}, ns.length = xs.length → ns.idxOf? f = some i → ∃ v, xs[i]? = some v ∧ (ns.zip xs).lookup f = some v
  | [], _, f, i, _, h => by simp [List.idxOf?] at h
  | n :: ns, [], f, i, hl, _ => by simp at hl
  | n :: ns, x :: xs, f, i, hl, h => by
    rw [List.idxOf?_cons] at h
    rw [List.zip_cons_cons, List.lookup_cons]
    by_cases e : (n == f) = true
    · rw [if_pos e] at h
      cases h
      have e2 : (f == n) = true := by
        have := eq_of_beq e
        subst this
        exact beq_self_eq_true _
      rw [e2]
      exact ⟨x, rfl, rfl⟩
    · rw [if_neg e] at h
      obtain ⟨j, hj, rfl⟩ := Option.map_eq_some_iff.mp h
      obtain ⟨v, h1, h2⟩ := lookup_zip (f := f) (by simpa using hl) hj
      have e2 : (f == n) = false := by
        cases q : f == n with
        | false => rfl
        | true => exact absurd (by rw [eq_of_beq q]; exact beq_self_eq_true _) e
      rw [e2]
      exact ⟨v, by simpa using h1, h2⟩
def fldD (C f : Str) (a : D) : Option D := match a with
  | .obj C' ns ds => if C' = C then (ns.idxOf? f).bind fun i => ds[i]? else none
  | _ => none
def mFld (C f : Str) (m : M Look) : M (Bool × D) := mOne (fun a => mo ((fldD C f a.2).map fun d => (flatD d, d))) m
theorem de_fld {C f : Str} {te : TE} {m : M Look} (hC : Cls K (ga K C)) (hA : NoAttr K (ga K C) f) (h : DB K W te m) : DE K W (tFld K te f) (mFld C f m) := by
  intro c G H σ ρ T Q hK hl R p
  refine one_core (ta := te) h hK hl R p fun a x G2 H2 ρ2 hl2 R2 s2 ia q => ?_
  subst hK
  obtain ⟨fr, a⟩ := a
  dsimp only at q
  cases a with
  | obj C' ns ds =>
    unfold fldD at q
    dsimp only at q
    by_cases e : C' = C
    · subst e
      rw [if_pos rfl] at q
      cases e1 : ns.idxOf? f with
      | none => rw [e1] at q; exact q.elim
      | some i =>
        rw [e1] at q
        dsimp only [Option.bind_some] at q
        cases e2 : ds[i]? with
        | none => rw [e2] at q; exact q.elim
        | some d =>
          rw [e2] at q
          obtain ⟨p, dx, vs, rfl, h1, h2, h3⟩ := ia.2
          obtain ⟨v, h4, h5⟩ := h3.get' e2
          obtain ⟨v', h6, h7⟩ := lookup_zip h2 e1
          rw [h4] at h6
          cases h6
          exact ⟨p, _, dx, _, v, rfl, h1, hC, hA, h7, q hl2 G2 H2 R2 (Same.refl G2) v h5.tr⟩
    · rw [if_neg e] at q
      exact q.elim
  | _ => exact False.elim q
/-! ### properties and methods -/
def isObj (C : Str) : D → Bool
  | .obj C' _ _ => decide (C' = C)
  | _ => false
def outM (o : Out) : M (Bool × D) := match o with
  | .ok fr d => mp (fr || flatD d, d)
  | .er k d => fun ρ => .er k d ρ
  | .no => mno
def outN (o : Out) : M (Bool × D) := match o with
  | .ok fr d => mp (fr || flatD d, d)
  | _ => mno
theorem outN_spd {f : List D → Out} {F0 : Addr → Prop} {ds : List D} {vs : List V} {Q : VK} (E : XK) (hl : σ.length = ρ.length) (R : Rel c G H (σ.zip ρ ++ T)) (hd : DrA c.K G F0 vs ds) (q : Post c G T σ W (fun a _ G' H' => ∀ v, Dr c.K G' (Fl c a.1) v a.2 → Q v H') (outN (f ds) ρ)) :
    spD c.K f vs H Q E := by
  refine spd_of R hd ?_
  cases e : f ds with
  | no => rw [e] at q; exact q.elim
  | ok fr d => rw [e] at q; exact fun v G' H' R' sG h => q hl G' H' R' sG v h
  | er k d => rw [e] at q; exact q.elim
def mProp (C : Str) (f : List D → Out) (m : M (Bool × D)) : M (Bool × D) := mb m fun a => if isObj C a.2 = true then outN (f [a.2]) else mno
theorem obj_at {F : Addr → Prop} {v : V} {d : D} {C : Str} (s : Same G H) (h : Dr K G F v d) (e : isObj C d = true) : ∃ p dx ns xs ds, v = .ref p ∧ d = .obj C ns ds ∧ H p = some (.ins (ga K C) dx (ns.zip xs)) ∧ ns.length = xs.length := by
  cases h with
  | obj h1 h2 h3 =>
    unfold isObj at e
    have e' := of_decide_eq_true e
    subst e'
    exact ⟨_, _, _, _, _, rfl, rfl, s _ _ h1, h2⟩
  | _ => cases e
theorem de_prop {C : Str} {f : List D → Out} {te : TE} {m : M (Bool × D)} (h : DE K W te m) : DE K W (tProp (ga K C) (spD K f) [] E0 te) (mProp C f m) := by
  intro c G H σ ρ T Q hK hl R p
  refine h c G H σ ρ T _ hK hl R (Post.imp (Post.bind p) fun a ρ1 G1 H1 hl1 R1 s1 q v r => ?_)
  subst hK
  by_cases e : isObj C a.2 = true
  · rw [if_pos e] at q
    obtain ⟨pp, dx, ns, xs, ds, rfl, e2, h1, _⟩ := obj_at R1.gs r e
    exact ⟨pp, dx, _, rfl, h1, outN_spd E0 hl1 R1 (.cons r .nil) q⟩
  · rw [if_neg e] at q
    exact q.elim
theorem lookup_no {α : Type} : ∀ {ns : List Str} {xs : List α} {m : Str}, ns.contains m = false → (ns.zip xs).lookup m = none
  | [], _, _, _ => by simp
  | n :: ns, [], _, _ => by simp
  | n :: ns, x :: xs, m, h => by
    rw [List.contains_cons, Bool.or_eq_false_iff] at h
    rw [List.zip_cons_cons, List.lookup_cons, h.1]
    exact lookup_no h.2
def isObjM (C m : Str) : D → Bool
  | .obj C' ns _ => decide (C' = C) && !ns.contains m
  | _ => false
def mMeth (C m : Str) (f : List D → Out) (mo : M (Bool × D)) (ma : M (List Slot)) : M (Bool × D) := mb mo fun a => if isObjM C m a.2 = true then mDats ma fun r => outM (f (a.2 :: r.2)) else mno
def mMethN (C m : Str) (f : List D → Out) (mo : M (Bool × D)) (ma : M (List Slot)) : M (Bool × D) := mb mo fun a => if isObjM C m a.2 = true then mDats ma fun r => outN (f (a.2 :: r.2)) else mno
theorem objM_at {F : Addr → Prop} {v : V} {d : D} {C m : Str} (s : Same G H) (h : Dr K G F v d) (e : isObjM C m d = true) : ∃ p dx fs, v = .ref p ∧ H p = some (.ins (ga K C) dx fs) ∧ fs.lookup m = none := by
  cases h with
  | obj h1 h2 h3 =>
    unfold isObjM at e
    rw [Bool.and_eq_true] at e
    have e' := of_decide_eq_true e.1
    subst e'
    exact ⟨_, _, _, rfl, s _ _ h1, lookup_no (by simpa using e.2)⟩
  | _ => cases e
theorem de_methN {C m : Str} {f : List D → Out} {te : TE} {ta : TA} {mo : M (Bool × D)} {ma : M (List Slot)} (h : DE K W te mo) (ha : DA K W ta ma) : DE K W (tDM (ga K C) m (spD K f) (fun _ => E0) te ta) (mMethN C m f mo ma) := by
  intro c G H σ ρ T Q hK hl R p
  refine h c G H σ ρ T _ hK hl R (Post.imp (Post.bind p) fun a ρ1 G1 H1 hl1 R1 s1 q v r => ?_)
  by_cases e : isObjM C m a.2 = true
  · rw [if_pos e] at q
    subst hK
    obtain ⟨pp, dx, fs, rfl, h1, h2⟩ := objM_at R1.gs r e
    refine ⟨pp, dx, fs, rfl, h1, h2, dats_core ha rfl hl1 R1 q fun fr ds vs G2 H2 ρ2 hl2 R2 s2 hd hn q2 => ?_⟩
    exact outN_spd (f := f) E0 hl2 R2 (DrA.cons (r.up s2).top hd.top) q2
  · rw [if_neg e] at q
    exact q.elim
/-! ### a new instance -/
def outI (C : Str) (o : OutI) : M (Bool × D) := match o with
  | .ok ns ds => mp (true, .obj C ns ds)
  | .er k d => fun ρ => .er k d ρ
  | .no => mno
def outIN (C : Str) (o : OutI) : M (Bool × D) := match o with
  | .ok ns ds => mp (true, .obj C ns ds)
  | _ => mno
theorem make_core {C : Str} {f : List D → OutI} {fr0 : Bool} {ds : List D} {vs : List V} {Q : VK} {E' : XK} {E : List En} (R : Rel c G H E) (hd : DrA c.K G (Fl c fr0) vs ds) (q : match f ds with
    | .no => False
    | .ok ns es => ∀ v G' H', Rel c G' H' E → Same G G' → Dr c.K G' (Fl c true) v (.obj C ns es) → Q v H'
    | .er k d => ∀ v x G' H', Rel c G' H' E → Same G G' → Dr c.K G' (fun _ => True) v d → G' x = some (.xd [("value", v)]) → E' (.ref (ga c.K k)) (some x) H') :
    ∀ x dx, H x = none → H dx = none → dx ≠ x → spI c.K C f (.ref x :: vs) (upd (upd H dx (.own x)) x (.ins (ga c.K C) dx [])) (fun v H2 => v = .non ∧ Q (.ref x) H2) E' := by
  intro x dx nx ndx hne
  have n1 : upd H dx (.own x) x = none := by rw [upd_ne (fun e => hne e.symm)]; exact nx
  have R1 := (R.new0 (o := .own x) ndx).new0 (o := .ins (ga c.K C) dx []) n1
  have sH : ∀ b u, H b = some u → upd (upd H dx (.own x)) x (.ins (ga c.K C) dx []) b = some u := fun b u e => by
    rw [upd_ne (ne_of_none e nx), upd_ne (ne_of_none e ndx)]
    exact e
  have nn : ∀ b, H b ≠ none → upd (upd H dx (.own x)) x (.ins (ga c.K C) dx []) b ≠ none := fun b hb => by
    cases e : H b with
    | none => exact absurd e hb
    | some u => rw [sH b u e]; intro z; cases z
  refine ⟨x, dx, vs, G, ds, rfl, upd_same, R.gn nx, R1.gs, hd.top, ?_⟩
  cases e : f ds with
  | no => rw [e] at q; exact q
  | ok ns es =>
    rw [e] at q
    intro G' H' dx' ws k hx hlw sG gs gg hw
    refine ⟨rfl, ?_⟩
    have hG : G' x = none := by rw [gg x (by rw [upd_same]; intro z; cases z)]; exact R.gn nx
    have sG' : Same G' (upd G' x (.ins (ga c.K C) dx' (ns.zip ws))) := same_new (Same.refl G') hG
    refine q (.ref x) (upd G' x (.ins (ga c.K C) dx' (ns.zip ws))) H' (R.grow (fun b u eb => k b u (sH b u eb) (ne_of_none eb nx)) (sG.trans sG') (fun b u eb => ?_) fun b hb => ?_) (sG.trans sG') (.obj upd_same hlw (hw.up sG'))
    · by_cases z : b = x
      · subst z
        rw [upd_same] at eb
        rw [hx]
        exact eb
      · rw [upd_ne z] at eb
        exact gs b u eb
    · rw [upd_ne (fun z => hb (by rw [z]; exact nx)), gg b (nn b hb)]
  | er k d =>
    rw [e] at q
    intro v y G' H' kk sG gs gg hv hy
    exact q v y G' H' (R.grow (fun b u eb => kk b u (sH b u eb) (ne_of_none eb nx)) sG gs fun b hb => gg b (nn b hb)) sG hv hy
def mMake (C : Str) (f : List D → OutI) (ma : M (List Slot)) : M (Bool × D) := mDats ma fun r => outIN C (f r.2)
def mMakeX (C : Str) (f : List D → OutI) (ma : M (List Slot)) : M (Bool × D) := mDats ma fun r => outI C (f r.2)
theorem de_make {C : Str} {f : List D → OutI} {ta : TA} {ma : M (List Slot)} (ha : DA K W ta ma) : DE K W (tMake (ga K C) (spI K C f) [] E0 ta) (mMake C f ma) := by
  intro c G H σ ρ T Q hK hl R p
  subst hK
  have z : ta σ H fun vs H1 => ∀ x dx, H1 x = none → H1 dx = none → dx ≠ x → spI c.K C f (.ref x :: vs) (upd (upd H1 dx (.own x)) x (.ins (ga c.K C) dx [])) (fun v H2 => v = .non ∧ Q (.ref x) H2) E0 := by
    refine dats_core ha rfl hl R p fun fr ds vs G2 H2 ρ2 hl2 R2 s2 hd hn q => make_core R2 hd ?_
    dsimp only at q
    cases e : f ds with
    | no => rw [e] at q; exact q.elim
    | ok ns es => rw [e] at q; exact fun v G' H' R' sG h => q hl2 G' H' R' sG v h
    | er k d => rw [e] at q; exact q.elim
  have e : (fun (vs : List V) (H1 : Hp) => ∀ x dx, H1 x = none → H1 dx = none → dx ≠ x → spI c.K C f (.ref x :: (vs ++ [])) (upd (upd H1 dx (.own x)) x (.ins (ga c.K C) dx [])) (fun v H2 => v = .non ∧ Q (.ref x) H2) E0) =
      fun vs H1 => ∀ x dx, H1 x = none → H1 dx = none → dx ≠ x → spI c.K C f (.ref x :: vs) (upd (upd H1 dx (.own x)) x (.ins (ga c.K C) dx [])) (fun v H2 => v = .non ∧ Q (.ref x) H2) E0 := by
    funext vs H1
    rw [List.append_nil]
  show ta σ H _
  rw [e]
  exact z
end
end Da
end F24
section F25
namespace Da
open PySem PySem.Spec PyProof.Rows L2 He Ds
/-! ### what a loop walks -/
/-- need: things of the call's own that must stand while it is walked -/
def ItsN (c : Cc) (need : List En) (G' : Hp) (items : List (Bool × D)) (J : It) : Prop := ∀ i Gc Hc Ec, Rel c Gc Hc Ec → (∀ x ∈ need, x ∈ Ec) → Same G' Gc →
  (∀ a, items[i]? = some a → J.go i Hc ∧ ∀ x H', J.yld i Hc x H' → ∃ Gn, Same Hc H' ∧ Same Gc Gn ∧ Same Gn H' ∧ (∀ b, Hc b ≠ none → Gn b = Gc b) ∧ Dr c.K Gn (Fl c a.1) x a.2) ∧ (items.length ≤ i → J.stop i Hc)
abbrev Its (c : Cc) (G' : Hp) (items : List (Bool × D)) (J : It) : Prop := ItsN c [] G' items J
def DI (K : PySem.W.Frag) (W : WX) (wi : TI) (m : M (List (Bool × D))) : Prop :=
  ∀ (c : Cc) (G H : Hp) (σ : L2.St) (ρ : List Slot) (T : List En) (R : It → Hp → Prop), c.K = K → σ.length = ρ.length → Rel c G H (σ.zip ρ ++ T) →
    Post c G T σ W (fun its _ G' H' => ∀ J, Its c G' its J → R J H') (m ρ) → wi σ H R
def tagL (f : Bool) (ds : List D) : List (Bool × D) := ds.map fun d => (f || flatD d, d)
section
variable {K : PySem.W.Frag} {W : WX} {c : Cc} {G H : Hp} {σ : L2.St} {ρ : List Slot} {T : List En}
theorem tagL_get {f : Bool} {ds : List D} {i : Nat} {a : Bool × D} (h : (tagL f ds)[i]? = some a) : ds[i]? = some a.2 ∧ a.1 = (f || flatD a.2) := by
  unfold tagL at h
  rw [List.getElem?_map] at h
  cases e : ds[i]? with
  | none => rw [e] at h; cases h
  | some d => rw [e] at h; cases h; exact ⟨rfl, rfl⟩
theorem dr_at {f : Bool} {vs : List V} {ds : List D} {i : Nat} {a : Bool × D} (t : DrA K G (Fl c f) vs ds) (h : (tagL f ds)[i]? = some a) : ∃ v, vs[i]? = some v ∧ Dr K G (Fl c a.1) v a.2 := by
  obtain ⟨h1, h2⟩ := tagL_get h
  obtain ⟨v, h3, h4⟩ := t.get' h1
  exact ⟨v, h3, by rw [h2]; exact h4.fl⟩
def itList (a : Bool × D) : Option (List (Bool × D)) := match a.2 with
  | .lst ds => some (tagL a.1 ds)
  | _ => none
def mIt (k : Bool × D → Option (List (Bool × D))) (m : M (Bool × D)) : M (List (Bool × D)) := mb m fun a => mo (k a)
theorem it_core {P : List (Bool × D) → List Slot → Hp → Hp → Prop} {k : Bool × D → Option (List (Bool × D))} {te : TE} {m : M (Bool × D)} {r' : V → Hp → Prop} (h : DE K W te m) (hK : c.K = K) (hl : σ.length = ρ.length) (R : Rel c G H (σ.zip ρ ++ T)) (p : Post c G T σ W P (mIt k m ρ))
    (fin : ∀ a v its G2 H2 ρ2, σ.length = ρ2.length → Rel c G2 H2 (σ.zip ρ2 ++ T) → Same G G2 → Dr c.K G2 (Fl c a.1) v a.2 → k a = some its → P its ρ2 G2 H2 → r' v H2) : te σ H r' := by
  refine h c G H σ ρ T _ hK hl R (Post.imp (Post.bind p) fun a ρ1 G1 H1 hl1 R1 s1 q v r => ?_)
  cases e : k a with
  | none => rw [e] at q; exact q.elim
  | some its =>
    rw [e] at q
    exact fin a v its G1 H1 ρ1 hl1 R1 s1 r e (q hl1 G1 H1 R1 (Same.refl G1))
theorem same_seq {a : Addr} {xs : List V} {G' : Hp} (e : G a = some (.lst xs)) (s1 : Same G G') (s2 : Same G' H) : SqL K H a xs := SqL.of (s2 _ _ (s1 _ _ e))
theorem di_list {te : TE} {m : M (Bool × D)} (h : DE K W te m) : DI K W (iList K te) (mIt itList m) := by
  intro c G H σ ρ T R' hK hl R p
  refine it_core (te := te) h hK hl R p fun a v its G2 H2 ρ2 hl2 R2 s2 r e q => ?_
  subst hK
  obtain ⟨f, a⟩ := a
  cases r with
  | lst e1 _ t =>
    cases e
    refine ⟨_, rfl, ⟨_, SqL.of (R2.gs _ _ e1)⟩, q _ fun i Gc Hc Ec RR _ s1 => (fun s3 => ⟨fun a ha => ?_, fun hi => ?_⟩) RR.gs⟩
    · obtain ⟨v, h1, h2⟩ := dr_at t ha
      refine ⟨⟨_, v, same_seq e1 s1 s3, h1⟩, fun x H' hy => ?_⟩
      obtain ⟨rfl, hx⟩ := hy
      have hx' := hx _ (same_seq e1 s1 s3)
      rw [h1] at hx'
      cases hx'
      exact ⟨Gc, Same.refl _, Same.refl _, s3, fun _ _ => rfl, h2.up s1⟩
    · refine ⟨_, same_seq e1 s1 s3, ?_⟩
      rw [t.len]
      unfold tagL at hi
      rwa [List.length_map] at hi
  | _ => cases e
def itTup (a : Bool × D) : Option (List (Bool × D)) := match a.2 with
  | .tup ds => some (tagL a.1 ds)
  | _ => none
theorem di_tup {te : TE} {m : M (Bool × D)} (h : DE K W te m) : DI K W (iTup K te) (mIt itTup m) := by
  intro c G H σ ρ T R' hK hl R p
  refine it_core (te := te) h hK hl R p fun a v its G2 H2 ρ2 hl2 R2 s2 r e q => ?_
  subst hK
  obtain ⟨f, a⟩ := a
  cases r with
  | tup e1 t =>
    cases e
    refine ⟨_, rfl, ⟨_, seqT_same R2.gs (SqT.of e1)⟩, q _ fun i Gc Hc Ec RR _ s1 => (fun s3 => ⟨fun a ha => ?_, fun hi => ?_⟩) RR.gs⟩
    · obtain ⟨v, h1, h2⟩ := dr_at t ha
      refine ⟨⟨_, v, seqT_same (s1.trans s3) (SqT.of e1), h1⟩, fun x H' hy => ?_⟩
      obtain ⟨rfl, hx⟩ := hy
      have hx' := hx _ (seqT_same (s1.trans s3) (SqT.of e1))
      rw [h1] at hx'
      cases hx'
      exact ⟨Gc, Same.refl _, Same.refl _, s3, fun _ _ => rfl, h2.up s1⟩
    · refine ⟨_, seqT_same (s1.trans s3) (SqT.of e1), ?_⟩
      rw [t.len]
      unfold tagL at hi
      rwa [List.length_map] at hi
  | _ => cases e
def rngD (lo : Int) (n : Nat) : List (Bool × D) := (List.range n).map fun i : Nat => (true, D.int (lo + (i : Int)))
theorem its_range {lo : Int} {n : Nat} {G' : Hp} : Its c G' (rngD lo n) (Itr lo n) := by
  intro i Gc Hc Ec RR _ s1
  have s3 := RR.gs
  refine ⟨fun a ha => ?_, fun hi => ?_⟩
  · unfold rngD at ha
    rw [List.getElem?_map] at ha
    by_cases h : i < n
    · rw [List.getElem?_range h] at ha
      cases ha
      refine ⟨h, fun x H' hy => ?_⟩
      obtain ⟨rfl, rfl⟩ := hy
      exact ⟨Gc, Same.refl _, Same.refl _, s3, fun _ _ => rfl, .int _⟩
    · rw [List.getElem?_eq_none (by simp; omega)] at ha
      cases ha
  · unfold rngD at hi
    simp at hi
    exact hi
def smallI (i : Int) : Bool := decide (-1000000 ≤ i) && decide (i ≤ 1000000)
theorem smallI_of {i : Int} (h : smallI i = true) : -(2 ^ 62) ≤ i ∧ i < 2 ^ 62 := by
  unfold smallI at h
  rw [Bool.and_eq_true] at h
  have h1 := of_decide_eq_true h.1
  have h2 := of_decide_eq_true h.2
  omega
def rng1 (ds : List D) : Option (List (Bool × D)) := match ds with
  | [.int j] => if smallI j = true then some (rngD 0 j.toNat) else none
  | _ => none
def mRng (k : List D → Option (List (Bool × D))) (ma : M (List Slot)) : M (List (Bool × D)) := mDats ma fun r => mo (k r.2)
theorem di_rng1 {ta : TA} {ma : M (List Slot)} (ha : DA K W ta ma) : DI K W (iRng1 ta) (mRng rng1 ma) := by
  intro c G H σ ρ T R' hK hl R p
  refine dats_core ha hK hl R p fun fr ds vs G2 H2 ρ2 hl2 R2 s2 hd hn q => ?_
  dsimp only at q
  cases e : rng1 ds with
  | none => rw [e] at q; exact q.elim
  | some its =>
    rw [e] at q
    unfold rng1 at e
    split at e
    · rename_i j
      split at e
      · rename_i hj
        cases e
        cases hd with
        | cons h t =>
          cases h
          cases t
          obtain ⟨h1, h2⟩ := smallI_of hj
          exact ⟨j, rfl, h1, h2, q hl2 G2 H2 R2 (Same.refl G2) _ its_range⟩
      · cases e
    · cases e
/-- enumerate -/
def enD (f : Bool) : Nat → List D → List (Bool × D)
  | _, [] => []
  | i, d :: ds => (f || flatD d, .tup [.int (i : Nat), d]) :: enD f (i + 1) ds
theorem enD_get {f : Bool} : ∀ {ds : List D} {k i : Nat} {a : Bool × D}, (enD f k ds)[i]? = some a → ∃ d, ds[i]? = some d ∧ a = (f || flatD d, .tup [.int ((k + i : Nat) : Int), d])
  | [], _, _, _, h => by simp [enD] at h
  | d :: ds, k, 0, a, h => by
    simp [enD] at h
    exact ⟨d, rfl, h.symm⟩
  | d :: ds, k, i + 1, a, h => by
    simp only [enD, List.getElem?_cons_succ] at h
    obtain ⟨d', h1, h2⟩ := enD_get h
    refine ⟨d', by simpa using h1, ?_⟩
    rw [h2, show k + 1 + i = k + (i + 1) by omega]
theorem enD_len {f : Bool} : ∀ {ds : List D} {k : Nat}, (enD f k ds).length = ds.length
  | [], _ => rfl
  | d :: ds, k => by simp [enD, enD_len]
def itEnum (ds : List D) (f : Bool) : Option (List (Bool × D)) := match ds with
  | [.lst xs] => some (enD f 0 xs)
  | _ => none
def mEnum (ma : M (List Slot)) : M (List (Bool × D)) := mDats ma fun r => mo (itEnum r.2 r.1)
theorem di_enum {ta : TA} {ma : M (List Slot)} (ha : DA K W ta ma) : DI K W (iEnum K ta) (mEnum ma) := by
  intro c G H σ ρ T R' hK hl R p
  refine dats_core ha hK hl R p fun fr ds vs G2 H2 ρ2 hl2 R2 s2 hd hn q => ?_
  subst hK
  dsimp only at q
  cases e : itEnum ds fr with
  | none => rw [e] at q; exact q.elim
  | some its =>
    rw [e] at q
    unfold itEnum at e
    split at e
    · rename_i xs
      cases e
      cases hd with
      | cons h t =>
        cases t
        cases h with
        | lst e1 _ t =>
          refine ⟨_, _, rfl, SqL.of (R2.gs _ _ e1), q hl2 G2 H2 R2 (Same.refl G2) _ fun i Gc Hc Ec RR _ s1 => (fun s3 => ⟨fun a ha => ?_, fun hi => ?_⟩) RR.gs⟩
          · obtain ⟨d, h1, rfl⟩ := enD_get ha
            obtain ⟨v, h2, h3⟩ := t.get' h1
            refine ⟨⟨_, v, same_seq e1 s1 s3, h2⟩, fun x H' hy => ?_⟩
            obtain ⟨P, x', rfl, hP, rfl, hx⟩ := hy
            have hx' := hx _ (same_seq e1 s1 s3)
            rw [h2] at hx'
            cases hx'
            have gP : Gc P = none := s3.free hP
            have sG : ∀ o, Same Gc (upd Gc P o) := fun o => same_new (Same.refl Gc) gP
            refine ⟨upd Gc P (.tup [.int (i : Nat), v]), same_new (Same.refl Hc) hP, sG _, fun b u e => ?_, fun b hb => upd_ne fun e => hb (e ▸ hP), ?_⟩
            · by_cases hb : b = P
              · subst hb
                rw [upd_same] at e ⊢
                exact e
              · rw [upd_ne hb] at e ⊢
                exact s3 b u e
            · rw [Nat.zero_add]
              exact .tup upd_same (.cons (.int _) (.cons ((h3.fl.up s1).up (sG _)) .nil))
          · refine ⟨_, same_seq e1 s1 s3, ?_⟩
            rw [t.len]
            rwa [enD_len] at hi
    · cases e
/-! ### targets -/
abbrev Tgt := Bool × D → List Slot → Option (List Slot)
/-- g stores data: only the slots tv may change -/
def DG (K : PySem.W.Frag) (tv : List Nat) (g : TG) (t : Tgt) : Prop :=
  ∀ (c : Cc) (G H : Hp) (σ : L2.St) (ρ ρ' : List Slot) (T : List En) (v : V) (a : Bool × D) (Q : L2.St → Hp → Prop), c.K = K → σ.length = ρ.length → Rel c G H (σ.zip ρ ++ T) → Dr c.K G (Fl c a.1) v a.2 → t a ρ = some ρ' →
    (∀ σ', σ'.length = ρ'.length → σ'.length = σ.length → (∀ i, i ∉ tv → σ'[i]? = σ[i]?) → Rel c G H (σ'.zip ρ' ++ T) → Q σ' H) → g v σ H Q
def tgName (i : Nat) : Tgt := fun a ρ => if i < ρ.length then some (ρ.set i (.dat a.1 a.2)) else none
theorem Rel.put {i : Nat} {v : V} {s : Slot} (hl : σ.length = ρ.length) (hi : i < ρ.length) (R : Rel c G H ((some v, s) :: (σ.zip ρ ++ T))) : Rel c G H ((σ.set i (some v)).zip (ρ.set i s) ++ T) := by
  refine Rel.back hl (by omega) (R.subl ?_)
  refine (List.Sublist.cons₂ _ ?_)
  unfold rest
  exact (List.eraseIdx_sublist _ _).append_right T
theorem dg_name (i : Nat) : DG K [i] (gName i) (tgName i) := by
  intro c G H σ ρ ρ' T v a Q hK hl R r e q
  subst hK
  unfold tgName at e
  split at e
  · rename_i hi
    cases e
    refine q (σ.set i (some v)) (by rw [List.length_set, List.length_set]; exact hl) (List.length_set ..) (fun j hj => ?_) (Rel.put hl hi (R.dat r))
    rw [List.getElem?_set_ne (fun e => hj (by rw [e]; simp))]
  · cases e
def DGs (K : PySem.W.Frag) (tv : List Nat) (g : TGs) (t : Bool → List D → List Slot → Option (List Slot)) : Prop :=
  ∀ (c : Cc) (G H : Hp) (σ : L2.St) (ρ ρ' : List Slot) (T : List En) (vs : List V) (f : Bool) (ds : List D) (Q : L2.St → Hp → Prop), c.K = K → σ.length = ρ.length → Rel c G H (σ.zip ρ ++ T) → DrA c.K G (Fl c f) vs ds → t f ds ρ = some ρ' →
    (∀ σ', σ'.length = ρ'.length → σ'.length = σ.length → (∀ i, i ∉ tv → σ'[i]? = σ[i]?) → Rel c G H (σ'.zip ρ' ++ T) → Q σ' H) → g vs σ H Q
def tgsNil : Bool → List D → List Slot → Option (List Slot) := fun _ ds ρ => match ds with
  | [] => some ρ
  | _ :: _ => none
def tgsCons (t : Tgt) (u : Bool → List D → List Slot → Option (List Slot)) : Bool → List D → List Slot → Option (List Slot) := fun f ds ρ => match ds with
  | [] => none
  | d :: ds => (t (f || flatD d, d) ρ).bind fun ρ' => u f ds ρ'
theorem dgs_nil : DGs K [] gNil tgsNil := by
  intro c G H σ ρ ρ' T vs f ds Q hK hl R r e q
  cases r with
  | nil => cases e; exact ⟨rfl, q σ hl rfl (fun _ _ => rfl) R⟩
  | cons _ _ => cases e
theorem dgs_cons {tv tw : List Nat} {g : TG} {gs : TGs} {t : Tgt} {u : Bool → List D → List Slot → Option (List Slot)} (h : DG K tv g t) (hs : DGs K tw gs u) : DGs K (tv ++ tw) (gCons g gs) (tgsCons t u) := by
  intro c G H σ ρ ρ' T vs f ds Q hK hl R r e q
  cases r with
  | nil => cases e
  | cons r1 r2 =>
    obtain ⟨ρ1, e1, e2⟩ := Option.bind_eq_some_iff.mp (show (t _ ρ).bind _ = some ρ' from e)
    refine ⟨_, _, rfl, h c G H σ ρ ρ1 T _ _ _ hK hl R r1.fl e1 fun σ1 l1 l1' k1 R1 => ?_⟩
    refine hs c G H σ1 ρ1 ρ' T _ f _ _ hK l1 R1 r2 e2 fun σ2 l2 l2' k2 R2 => q σ2 l2 (l2'.trans l1') (fun i hi => ?_) R2
    rw [List.mem_append] at hi
    rw [k2 i (fun z => hi (.inr z)), k1 i (fun z => hi (.inl z))]
def tgTup (n : Nat) (u : Bool → List D → List Slot → Option (List Slot)) : Tgt := fun a ρ => match a.2 with
  | .tup ds => if ds.length = n then u a.1 ds ρ else none
  | _ => none
theorem dg_tup {tv : List Nat} {n : Nat} {gs : TGs} {u : Bool → List D → List Slot → Option (List Slot)} (h : DGs K tv gs u) : DG K tv (gTup K n gs) (tgTup n u) := by
  intro c G H σ ρ ρ' T v a Q hK hl R r e q
  obtain ⟨f, d⟩ := a
  cases r with
  | tup e1 t =>
    subst hK
    unfold tgTup at e
    dsimp only at e
    split at e
    · rename_i hn
      exact ⟨_, _, rfl, seqT_same R.gs (SqT.of e1), by rw [t.len]; exact hn, h c G H σ ρ ρ' T _ f _ Q rfl hl R t e q⟩
    · cases e
  | _ => cases e
end
end Da
end F25
section F26
namespace Da
open PySem PySem.Spec PyProof.Rows L2 He Ds
section
variable {K : PySem.W.Frag} {W : WX} {c : Cc} {G H : Hp} {σ : L2.St} {ρ : List Slot} {T : List En}
/-! ### the names of a comprehension are its own -/
def wipeS : List Slot → List Nat → List Slot
  | ρ, [] => ρ
  | ρ, v :: vs => (wipeS ρ vs).set v .no
theorem wipeS_len (ρ : List Slot) : ∀ vs, (wipeS ρ vs).length = ρ.length
  | [] => rfl
  | v :: vs => by rw [wipeS, List.length_set, wipeS_len]
def savedE (σ : L2.St) (ρ : List Slot) : List Nat → List En
  | [] => []
  | v :: vs => ((wipe σ vs).zip (wipeS ρ vs))[v]?.toList ++ savedE σ ρ vs
def unw (ρ : List Slot) : List Nat → List Slot → List Slot
  | [], ρ' => ρ'
  | v :: vs, ρ' => unw ρ vs (ρ'.set v ((wipeS ρ vs)[v]?.getD .no))
theorem unw_len (ρ : List Slot) : ∀ vs ρ', (unw ρ vs ρ').length = ρ'.length
  | [], _ => rfl
  | v :: vs, ρ' => by rw [unw, unw_len, List.length_set]
theorem set_out {α : Type} {l : List α} {i : Nat} {x : α} (h : l.length ≤ i) : l.set i x = l := List.set_eq_of_length_le h
theorem Rel.wipe (hl : σ.length = ρ.length) : ∀ vs, Rel c G H (σ.zip ρ ++ T) → Rel c G H ((L2.wipe σ vs).zip (wipeS ρ vs) ++ (savedE σ ρ vs ++ T))
  | [], R => R
  | v :: vs, R => by
    have R1 := Rel.wipe hl vs R
    have hl1 : (L2.wipe σ vs).length = (wipeS ρ vs).length := by rw [wipe_length, wipeS_len, hl]
    unfold L2.wipe wipeS savedE
    cases e : ((L2.wipe σ vs).zip (wipeS ρ vs))[v]? with
    | none =>
      have h1 : (wipeS ρ vs).length ≤ v := by
        have := List.getElem?_eq_none_iff.mp e
        rw [List.length_zip, hl1, Nat.min_self] at this
        exact this
      rw [set_out h1, set_out (by omega)]
      exact R1
    | some x =>
      obtain ⟨o, s⟩ := x
      have R2 := R1.out e
      have hv : v < (L2.wipe σ vs).length := by
        have h := (List.getElem?_eq_some_iff.mp e).1
        rw [List.length_zip] at h
        omega
      refine Rel.back hl1 hv ((R2.no (o := none)).perm (E' := (none, Slot.no) :: rest (L2.wipe σ vs) (wipeS ρ vs) ((some (o, s)).toList ++ savedE σ ρ vs ++ T) v) ?_)
      refine List.Perm.cons _ ?_
      unfold rest
      rw [Option.toList_some]
      exact List.perm_middle
theorem Rel.unwipe (hl : σ.length = ρ.length) : ∀ vs ρ', ρ'.length = ρ.length → Rel c G H ((L2.wipe σ vs).zip ρ' ++ (savedE σ ρ vs ++ T)) → Rel c G H (σ.zip (unw ρ vs ρ') ++ T)
  | [], _, _, R => R
  | v :: vs, ρ', hr, R => by
    have hl1 : (L2.wipe σ vs).length = (wipeS ρ vs).length := by rw [wipe_length, wipeS_len, hl]
    unfold unw
    refine Rel.unwipe hl vs _ (by rw [List.length_set, hr]) ?_
    unfold L2.wipe savedE at R
    cases e : ((L2.wipe σ vs).zip (wipeS ρ vs))[v]? with
    | none =>
      have h1 : (wipeS ρ vs).length ≤ v := by
        have := List.getElem?_eq_none_iff.mp e
        rw [List.length_zip, hl1, Nat.min_self] at this
        exact this
      rw [e, set_out (by omega)] at R
      rw [set_out (by rw [wipeS_len] at h1; omega)]
      exact R
    | some x =>
      obtain ⟨o, s⟩ := x
      obtain ⟨h1, h2⟩ := List.getElem?_zip_eq_some.mp e
      rw [e, Option.toList_some] at R
      have hv : v < (L2.wipe σ vs).length := (List.getElem?_eq_some_iff.mp h1).1
      rw [h2]
      have hl2 : ((L2.wipe σ vs).set v none).length = ρ'.length := by rw [List.length_set, wipe_length, hl, hr]
      have e2 : ((L2.wipe σ vs).set v none).set v o = L2.wipe σ vs := by
        rw [List.set_set]
        exact set_self h1
      have R1 : Rel c G H ((o, s) :: rest ((L2.wipe σ vs).set v none) ρ' (savedE σ ρ vs ++ T) v) := by
        unfold rest
        have R2 : Rel c G H (((L2.wipe σ vs).set v none).zip ρ' ++ ((o, s) :: (savedE σ ρ vs ++ T))) := R
        have R3 := mid_out R2
        exact R3.subl (((List.eraseIdx_sublist _ _).append_right _).cons₂ _)
      have R4 := Rel.back hl2 (by rw [List.length_set]; exact hv) R1
      rw [e2] at R4
      exact R4
/-- one turn after another: acc what was made so far -/
def compD (vs : List Nat) (t : Tgt) (tt : M Bool) (te : M (Bool × D)) (ρ0 : List Slot) : List (Bool × D) → Bool → List D → List Slot → Res (Bool × List D)
  | [], f, acc, ρ => .ok (f, acc) (unw ρ0 vs ρ)
  | a :: as, f, acc, ρ => match t a ρ with
    | none => .no
    | some ρ1 => match tt ρ1 with
      | .ok true ρ2 => (match te ρ2 with
        | .ok b ρ3 => if acc.length < 100000 then compD vs t tt te ρ0 as (f && (b.1 || flatD b.2)) (acc ++ [b.2]) (wipeS ρ3 vs) else .no
        | _ => .no)
      | .ok false ρ2 => compD vs t tt te ρ0 as f acc (wipeS ρ2 vs)
      | _ => .no
def mComp (vs : List Nat) (mi : M (List (Bool × D))) (t : Tgt) (tt : M Bool) (te : M (Bool × D)) : M (Bool × List D) := mb mi fun its => fun ρ => compD vs t tt te ρ its true [] (wipeS ρ vs)
theorem wipe_get (σ : L2.St) : ∀ (vs : List Nat) (i : Nat), i ∉ vs → (L2.wipe σ vs)[i]? = σ[i]?
  | [], _, _ => rfl
  | v :: vs, i, h => by
    rw [L2.wipe, List.getElem?_set_ne (fun e => h (by rw [e]; simp)), wipe_get σ vs i (fun z => h (List.mem_cons_of_mem _ z))]
theorem wipe_in (σ : L2.St) : ∀ (vs : List Nat) (i : Nat), i ∈ vs → (L2.wipe σ vs)[i]? = if i < σ.length then some none else none
  | v :: vs, i, h => by
    rw [L2.wipe]
    by_cases e : v = i
    · subst e
      rw [List.getElem?_set, if_pos rfl, wipe_length]
    · rw [List.getElem?_set_ne e]
      exact wipe_in σ vs i ((List.mem_cons.mp h).resolve_left fun z => e z.symm)
theorem wipe_eq {σ σ2 : L2.St} {vs : List Nat} (hl : σ2.length = σ.length) (k : ∀ i, i ∉ vs → σ2[i]? = (L2.wipe σ vs)[i]?) : L2.wipe σ2 vs = L2.wipe σ vs := by
  refine List.ext_getElem? fun i => ?_
  by_cases h : i ∈ vs
  · rw [wipe_in _ _ _ h, wipe_in _ _ _ h, hl]
  · rw [wipe_get _ _ _ h, k i h]
theorem comp_core {g : TG} {tt : TT} {te : TE} {vs tv : List Nat} {t : Tgt} {mt : M Bool} {me : M (Bool × D)} {its : List (Bool × D)} {ρ1 : List Slot} {G1 H1 : Hp} {J : It} {need : List En} {Q : VK} (hg : DG K tv g t) (hv : ∀ i ∈ tv, i ∈ vs) (ht : DT K W tt mt) (he : DE K W te me)
    (hK : c.K = K) (hl1 : σ.length = ρ1.length) (R1 : Rel c G1 H1 (σ.zip ρ1 ++ T)) (hn : ∀ x ∈ need, x ∈ T) (hJ : ItsN c need G1 its J)
    (q : Post c G1 T σ W (fun a ρ' G' H' => ∀ p vs H2, Rel c G' H2 ((some (.ref p), .own a.1 a.2) :: (σ.zip ρ' ++ T)) → H2 p = some (.lst vs) → Q (.ref p) H2) (compD vs t mt me ρ1 its true [] (wipeS ρ1 vs))) :
    ∀ D, H1 D = none → ∃ W : Nat → Nat → Hp → Prop, (∃ m, W 0 m (upd H1 D (.lst []))) ∧ ∀ i m H, W i m H → ((J.stop i H ∧ Q (.ref D) H) ∨
    (J.go i H ∧ ∃ Nx : Hp → Prop, (∀ H', Nx H' → ∃ m', m' < m ∧ W (i + 1) m' H') ∧ ∀ x H', J.yld i H x H' → g x (L2.wipe σ vs) H' fun σ2 H2 => L2.wipe σ2 vs = L2.wipe σ vs ∧ tt σ2 H2 fun b H3 =>
    if b = true then te σ2 H3 fun y H4 => ∃ acc, H4 D = some (.lst acc) ∧ acc.length < sizeLine ∧ Nx (upd H4 D (.lst (acc ++ [y]))) else Nx H3)) := by
  intro D nD
  subst hK
  -- the state ahead of a turn
  let E0 : List En := savedE σ ρ1 vs ++ T
  obtain ⟨Wv, hW⟩ : ∃ Wv : Nat → Nat → Hp → Prop, Wv = fun i m Hc => m = its.length - i ∧ i ≤ its.length ∧ ∃ (Gc : Hp) (f : Bool) (acc : List Da.D) (ρc : List Slot) (xs : List V), Same G1 Gc ∧ ρc.length = ρ1.length ∧
    Rel c Gc Hc ((some (.ref D), .own f acc) :: ((L2.wipe σ vs).zip ρc ++ E0)) ∧ Hc D = some (.lst xs) ∧
    Post c Gc T σ W (fun a ρ' G' H' => ∀ p vs H2, Rel c G' H2 ((some (.ref p), .own a.1 a.2) :: (σ.zip ρ' ++ T)) → H2 p = some (.lst vs) → Q (.ref p) H2) (compD vs t mt me ρ1 (its.drop i) f acc ρc) := ⟨_, rfl⟩
  refine ⟨Wv, ⟨its.length, ?_⟩, fun i m Hc hw => ?_⟩
  · rw [hW]
    refine ⟨rfl, Nat.zero_le _, G1, true, [], wipeS ρ1 vs, [], Same.refl _, wipeS_len _ _, ?_, upd_same, q⟩
    exact Rel.newOwn (R1.wipe hl1 vs) nD .nil
  · rw [hW] at hw
    obtain ⟨em, hin, Gc, f, acc, ρc, xs, sG, hlc, Rc, hD, P⟩ := hw
    obtain ⟨h1, h2⟩ := hJ i Gc Hc _ Rc (fun x hx => List.mem_cons_of_mem _ (List.mem_append_right _ (List.mem_append_right _ (hn x hx)))) sG
    by_cases hlt : i < its.length
    · have ea : its[i]? = some its[i] := List.getElem?_eq_getElem hlt
      obtain ⟨hgo, hy⟩ := h1 _ ea
      rw [List.drop_eq_getElem_cons hlt] at P
      generalize its[i] = a at ea hy P
      refine .inr ⟨hgo, Wv (i + 1) (its.length - (i + 1)), fun H' w => ⟨_, by omega, w⟩, fun x H' yl => ?_⟩
      obtain ⟨Gn, k1, k2, k3, k4, hx⟩ := hy x H' yl
      have Rn := Rc.grow k1 k2 k3 k4
      unfold compD at P
      cases e1 : t a ρc with
      | none => rw [e1] at P; exact P.elim
      | some ρd =>
        rw [e1] at P
        dsimp only at P
        have hwl : (L2.wipe σ vs).length = ρc.length := by rw [wipe_length, hl1, hlc]
        refine hg c Gn H' (L2.wipe σ vs) ρc ρd _ x a _ rfl hwl (mid_in Rn) hx e1 fun σ2 l1 l2 k5 R2 => ⟨wipe_eq (by rw [l2, wipe_length]) fun j hj => k5 j fun z => hj (hv j z), ?_⟩
        have ew : L2.wipe σ2 vs = L2.wipe σ vs := wipe_eq (by rw [l2, wipe_length]) fun j hj => k5 j fun z => hj (hv j z)
        -- the end of a turn
        have fin : ∀ (G3 H3 : Hp) (f' : Bool) (acc' : List Da.D) (ρ3 : List Slot) (ys : List V), Same Gn G3 → σ2.length = ρ3.length → Rel c G3 H3 ((some (.ref D), .own f' acc') :: (σ2.zip ρ3 ++ E0)) → H3 D = some (.lst ys) →
            Post c Gc T σ W (fun a ρ' G' H' => ∀ p vs H2, Rel c G' H2 ((some (.ref p), .own a.1 a.2) :: (σ.zip ρ' ++ T)) → H2 p = some (.lst vs) → Q (.ref p) H2) (compD vs t mt me ρ1 (its.drop (i + 1)) f' acc' (wipeS ρ3 vs)) → Wv (i + 1) (its.length - (i + 1)) H3 := by
          intro G3 H3 f' acc' ρ3 ys s3 l3 R3 hD3 P3
          rw [hW]
          refine ⟨rfl, hlt, G3, f', acc', wipeS ρ3 vs, ys, (sG.trans k2).trans s3, by rw [wipeS_len, ← l3, l2, wipe_length, hl1], ?_, hD3, P3.later (k2.trans s3)⟩
          have R4 := Rel.wipe l3 vs (mid_in R3)
          rw [ew] at R4
          exact mid_out (R4.subl ((List.sublist_append_right _ _).append_left _))
        have step : Post c Gn ((some (.ref D), .own f acc) :: E0) σ2 W (fun b ρ2 G3 H3 => if b = true then te σ2 H3 (fun y H4 => ∃ acc, H4 D = some (.lst acc) ∧ acc.length < sizeLine ∧ Wv (i + 1) (its.length - (i + 1)) (upd H4 D (.lst (acc ++ [y])))) else Wv (i + 1) (its.length - (i + 1)) H3) (mt ρd) := by
          cases e2 : mt ρd with
          | no => rw [e2] at P; exact P.elim
          | er _ _ _ => rw [e2] at P; exact P.elim
          | ok b ρ2 =>
            rw [e2] at P
            intro l3 G3 H3 R3 s3
            cases b with
            | false =>
              refine iteF ?_
              obtain ⟨pq, eq, _, _, ⟨_, ys, hys, _⟩, _⟩ := (mid_out R3).head rfl
              cases eq
              exact fin G3 H3 f acc ρ2 ys s3 l3 (mid_out R3) hys P
            | true =>
              refine iteT ?_
              dsimp only at P
              refine he c G3 H3 σ2 ρ2 _ _ rfl l3 R3 ?_
              cases e3 : me ρ2 with
              | no => rw [e3] at P; exact P.elim
              | er _ _ _ => rw [e3] at P; exact P.elim
              | ok b ρ3 =>
                rw [e3] at P
                dsimp only at P
                by_cases hz : acc.length < 100000
                · rw [if_pos hz] at P
                  intro l4 G4 H4 R4 s4 y hy
                  obtain ⟨pq, eq, _, _, ⟨_, ys, hys, hda⟩, _⟩ := (mid_out R4).head rfl
                  cases eq
                  refine ⟨ys, hys, by rw [hda.len]; exact Nat.lt_of_lt_of_le hz (by decide), ?_⟩
                  refine fin G4 _ (f && (b.1 || flatD b.2)) (acc ++ [b.2]) ρ3 (ys ++ [y]) (s3.trans s4) l4 ((mid_out R4).mut ?_) upd_same P
                  exact (hda.low).append (.cons hy.fl.low' .nil)
                · rw [if_neg hz] at P
                  exact P.elim
        exact ht c Gn H' σ2 ρd _ _ rfl l1.symm.symm R2 step
    · have ei : i = its.length := by omega
      refine .inl ⟨h2 (by omega), ?_⟩
      rw [List.drop_eq_nil_of_le (by omega)] at P
      unfold compD at P
      obtain ⟨pq, eq, _, _, ⟨_, ys, hys, hda⟩, _⟩ := Rc.head rfl
      cases eq
      have hlu : σ.length = (unw ρ1 vs ρc).length := by rw [unw_len, hlc, hl1]
      have R5 : Rel c Gc Hc (σ.zip (unw ρ1 vs ρc) ++ ((some (.ref D), .own f acc) :: T)) := by
        refine Rel.unwipe hl1 vs ρc hlc ?_
        refine (mid_in Rc).perm ?_
        refine List.Perm.append_left _ ?_
        exact List.perm_middle
      exact P hlu Gc Hc (R5.subl ((List.sublist_cons_self _ _).append_left _)) (Same.refl _) D ys Hc (mid_out R5) hys
theorem dl_lc {wi : TI} {g : TG} {tt : TT} {te : TE} {vs tv : List Nat} {mi : M (List (Bool × D))} {t : Tgt} {mt : M Bool} {me : M (Bool × D)} (hi : DI K W wi mi) (hg : DG K tv g t) (hv : ∀ i ∈ tv, i ∈ vs) (ht : DT K W tt mt) (he : DE K W te me) : DL K W (tLc wi g tt te vs) (mComp vs mi t mt me) := by
  intro c G H σ ρ T Q hK hl R p
  exact hi c G H σ ρ T _ hK hl R (Post.imp (Post.bind p) fun its ρ1 G1 H1 hl1 R1 s1 q J hJ => comp_core hg hv ht he hK hl1 R1 (fun _ z => absurd z List.not_mem_nil) hJ q)
end
end Da
end F26
section F27
namespace Da
open PySem PySem.Spec PyProof.Rows L2 He Ds
inductive SRes where
  | no | er (k : Str) (d : D) (ρ : List Slot) | nx (ρ : List Slot) | rt (fr : Bool) (d : D) (ρ : List Slot) | bk (ρ : List Slot) | ct (ρ : List Slot)
abbrev S := List Slot → SRes
section
variable {K : PySem.W.Frag} {W : WX} {c : Cc} {G G' H : Hp} {σ : L2.St} {ρ : List Slot}
def SPo (c : Cc) (G : Hp) (n : Nat) (W : WX) (E : Ends) : SRes → Prop
  | .no => False
  | .er k d ρ' => ∀ (v : V) (x : Addr) (σ' : L2.St) (G' H' : Hp), σ'.length = n → σ'.length = ρ'.length → Rel c G' H' (σ'.zip ρ' ++ []) → Same G G' → Dr c.K G' (fun _ => True) v d → G' x = some (.xd [("value", v)]) → W (.ref (ga c.K k)) (some x) σ' H'
  | .nx ρ' => ∀ (σ' : L2.St) (G' H' : Hp), σ'.length = n → σ'.length = ρ'.length → Rel c G' H' (σ'.zip ρ' ++ []) → Same G G' → E.nx σ' H'
  | .rt fr d ρ' => ∀ (v : V) (σ' : L2.St) (G' H' : Hp), σ'.length = n → σ'.length = ρ'.length → Rel c G' H' (σ'.zip ρ' ++ []) → Same G G' → Dr c.K G' (Fl c fr) v d → E.rt v H'
  | .bk ρ' => ∀ (σ' : L2.St) (G' H' : Hp), σ'.length = n → σ'.length = ρ'.length → Rel c G' H' (σ'.zip ρ' ++ []) → Same G G' → E.bk σ' H'
  | .ct ρ' => ∀ (σ' : L2.St) (G' H' : Hp), σ'.length = n → σ'.length = ρ'.length → Rel c G' H' (σ'.zip ρ' ++ []) → Same G G' → E.ct σ' H'
theorem SPo.later {n : Nat} {E : Ends} {r : SRes} (h : SPo c G n W E r) (s : Same G G') : SPo c G' n W E r := by
  cases r with
  | no => exact h
  | er k d ρ' => exact fun v x σ' G2 H2 hn hl R s2 => h v x σ' G2 H2 hn hl R (s.trans s2)
  | nx ρ' => exact fun σ' G2 H2 hn hl R s2 => h σ' G2 H2 hn hl R (s.trans s2)
  | rt fr d ρ' => exact fun v σ' G2 H2 hn hl R s2 => h v σ' G2 H2 hn hl R (s.trans s2)
  | bk ρ' => exact fun σ' G2 H2 hn hl R s2 => h σ' G2 H2 hn hl R (s.trans s2)
  | ct ρ' => exact fun σ' G2 H2 hn hl R s2 => h σ' G2 H2 hn hl R (s.trans s2)
def DS (K : PySem.W.Frag) (W : WX) (ts : L2.TS) (s : S) : Prop :=
  ∀ (c : Cc) (G H : Hp) (σ : L2.St) (ρ : List Slot) (E : Ends), c.K = K → σ.length = ρ.length → Rel c G H (σ.zip ρ ++ []) → SPo c G σ.length W E (s ρ) → ts E σ H
/-- an expression within a statement -/
def sE {α : Type} (m : M α) (k : α → S) : S := fun ρ => match m ρ with
  | .no => .no
  | .er n d ρ' => .er n d ρ'
  | .ok a ρ' => k a ρ'
theorem sE_post {α : Type} {P : α → List Slot → Hp → Hp → Prop} {m : M α} {k : α → S} {E : Ends} (p : SPo c G σ.length W E (sE m k ρ)) (f : ∀ a ρ' G' H', σ.length = ρ'.length → Rel c G' H' (σ.zip ρ' ++ []) → Same G G' → SPo c G' σ.length W E (k a ρ') → P a ρ' G' H') : Post c G [] σ W P (m ρ) := by
  unfold sE at p
  cases e : m ρ with
  | no => rw [e] at p; exact p
  | er n d ρ' => rw [e] at p; exact fun hl v x G' H' R s r hx => p v x σ G' H' rfl hl R s r hx
  | ok a ρ' => rw [e] at p; exact fun hl G' H' R s => f a ρ' G' H' hl R s (p.later s)
def sSeq (a b : S) : S := fun ρ => match a ρ with
  | .nx ρ' => b ρ'
  | r => r
theorem ds_seq {t u : L2.TS} {a b : S} (ha : DS K W t a) (hb : DS K W u b) : DS K W (tSeq t u) (sSeq a b) := by
  intro c G H σ ρ E hK hl R p
  refine ha c G H σ ρ _ hK hl R ?_
  unfold sSeq at p
  cases e : a ρ with
  | no => rw [e] at p; exact p
  | er n d ρ' => rw [e] at p; exact p
  | nx ρ' =>
    rw [e] at p
    intro σ' G' H' hn hl' R' s
    refine hb c G' H' σ' ρ' E hK hl' R' ?_
    rw [hn]
    exact SPo.later p s
  | rt fr d ρ' => rw [e] at p; exact p
  | bk ρ' => rw [e] at p; exact p
  | ct ρ' => rw [e] at p; exact p
/-- statements behind an if that goes on -/
theorem ds_cut {t u : L2.TS} {a b : S} (ha : DS K W t a) (hb : DS K W u b) : DS K W (Evl.tCut t u) (sSeq a b) := by
  intro c G H σ ρ E hK hl R p
  exact ⟨u E, ds_seq ha hb c G H σ ρ E hK hl R p, fun _ _ h => h⟩
def sNil : S := fun ρ => .nx ρ
theorem ds_nil : DS K W tNext sNil := fun c G H σ ρ E hK hl R p => p σ G H rfl hl R (Same.refl G)
def sSet (i : Nat) (m : M (Bool × D)) : S := sE m fun a => fun ρ => if i < ρ.length then .nx (ρ.set i (.dat a.1 a.2)) else .no
def sSetO (i : Nat) (m : M (Bool × List D)) : S := sE m fun a => fun ρ => if i < ρ.length then .nx (ρ.set i (.own a.1 a.2)) else .no
theorem nx_put {i : Nat} {v : V} {s : Slot} {E : Ends} (hl : σ.length = ρ.length) (hi : i < ρ.length) (R : Rel c G H ((some v, s) :: (σ.zip ρ ++ []))) (p : SPo c G σ.length W E (.nx (ρ.set i s))) : E.nx (σ.set i (some v)) H :=
  p _ G H (List.length_set ..) (by rw [List.length_set, List.length_set]; exact hl) (Rel.put hl hi R) (Same.refl G)
theorem ds_set {te : TE} {i : Nat} {m : M (Bool × D)} (h : DE K W te m) : DS K W (tAsg te (gName i)) (sSet i m) := by
  intro c G H σ ρ E hK hl R p
  refine h c G H σ ρ [] _ hK hl R (sE_post p fun a ρ' G' H' hl' R' s q v r => ?_)
  subst hK
  split at q
  · rename_i hi
    exact nx_put hl' hi (R'.dat r) q
  · exact q.elim
theorem ds_setO {te : TE} {i : Nat} {m : M (Bool × List D)} (h : DL K W te m) : DS K W (tAsg te (gName i)) (sSetO i m) := by
  intro c G H σ ρ E hK hl R p
  refine h c G H σ ρ [] _ hK hl R (sE_post p fun a ρ' G' H' hl' R' s q pp vs H2 R2 _ => ?_)
  split at q
  · rename_i hi
    exact nx_put hl' hi R2 q
  · exact q.elim
/-- a target that is no lone name -/
def sAsg (t : Tgt) (m : M (Bool × D)) : S := sE m fun a => fun ρ => match t a ρ with
  | some ρ' => .nx ρ'
  | none => .no
theorem ds_asg {te : TE} {g : TG} {tv : List Nat} {t : Tgt} {m : M (Bool × D)} (hg : DG K tv g t) (h : DE K W te m) : DS K W (tAsg te g) (sAsg t m) := by
  intro c G H σ ρ E hK hl R p
  refine h c G H σ ρ [] _ hK hl R (sE_post p fun a ρ' G' H' hl' R' s q v r => ?_)
  cases e : t a ρ' with
  | none => rw [e] at q; exact q.elim
  | some ρ2 =>
    rw [e] at q
    refine hg c G' H' σ ρ' ρ2 [] v a _ hK hl' R' ?_ e fun σ' l1 l2 _ R2 => q σ' G' H' l2 l1 R2 (Same.refl G')
    subst hK
    exact r
/-- i, j = a, b -/
def setAll : List Nat → List Slot → List Slot → Option (List Slot)
  | [], [], ρ => some ρ
  | i :: is, s :: ss, ρ => if i < ρ.length then setAll is ss (ρ.set i s) else none
  | _, _, _ => none
def sPar (is : List Nat) (ma : M (List Slot)) : S := sE ma fun ss => fun ρ => match setAll is ss ρ with
  | some ρ' => .nx ρ'
  | none => .no
def setV : List Nat → List V → L2.St → L2.St
  | i :: is, v :: vs, σ => setV is vs (σ.set i (some v))
  | _, _, σ => σ
theorem setAll_ok : ∀ {is : List Nat} {ss : List Slot} {vs : List V} {σ : L2.St} {ρ ρ' : List Slot}, vs.length = ss.length → σ.length = ρ.length → Rel c G H ((vs.map some).zip ss ++ (σ.zip ρ ++ [])) → setAll is ss ρ = some ρ' → Rel c G H ((setV is vs σ).zip ρ' ++ []) ∧ (setV is vs σ).length = σ.length ∧ ρ'.length = ρ.length ∧ is.length = vs.length
  | [], [], vs, σ, ρ, ρ', hv, hl, R, e => by
    cases e
    have : vs = [] := List.eq_nil_of_length_eq_zero hv
    subst this
    exact ⟨R, rfl, rfl, rfl⟩
  | i :: is, s :: ss, [], _, _, _, hv, _, _, _ => by simp at hv
  | i :: is, s :: ss, v :: vs, σ, ρ, ρ', hv, hl, R, e => by
    unfold setAll at e
    split at e
    · rename_i hi
      have R1 : Rel c G H ((some v, s) :: (σ.zip ρ ++ (vs.map some).zip ss)) := R.perm (by
        show List.Perm _ ((some v, s) :: ((vs.map some).zip ss ++ (σ.zip ρ ++ [])))
        rw [List.append_nil]
        exact List.Perm.cons _ List.perm_append_comm)
      have R2 := Rel.put hl hi R1
      have R3 : Rel c G H ((vs.map some).zip ss ++ ((σ.set i (some v)).zip (ρ.set i s) ++ [])) := R2.perm (by
        rw [List.append_nil]
        exact List.perm_append_comm)
      obtain ⟨h1, h2, h3, h4⟩ := setAll_ok (by simpa using hv) (by rw [List.length_set, List.length_set]; exact hl) R3 e
      exact ⟨h1, by rw [show setV (i :: is) (v :: vs) σ = setV is vs (σ.set i (some v)) from rfl, h2, List.length_set], by rw [h3, List.length_set], by simp [h4]⟩
    · cases e
  | [], _ :: _, _, _, _, _, _, _, _, e => by cases e
  | _ :: _, [], _, _, _, _, _, _, _, e => by cases e
theorem ds_par {i j : Nat} {ta : TA} {ma : M (List Slot)} (ha : DA K W ta ma) : DS K W (tPar i j ta) (sPar [i, j] ma) := by
  intro c G H σ ρ E hK hl R p
  refine ha c G H σ ρ [] _ hK hl R (sE_post p fun ss ρ' G' H' hl' R' s q vs hv R2 => ?_)
  cases e : setAll [i, j] ss ρ' with
  | none => rw [e] at q; exact q.elim
  | some ρ2 =>
    rw [e] at q
    obtain ⟨h1, h2, h3, h4⟩ := setAll_ok hv hl' R2 e
    match vs, h4 with
    | [v, w], _ => exact ⟨v, w, rfl, q _ G' H' h2 (h2.trans (hl'.trans h3.symm)) h1 (Same.refl G')⟩
def sDrop (m : M (Bool × D)) : S := sE m fun _ => fun ρ => .nx ρ
theorem ds_drop {te : TE} {m : M (Bool × D)} (h : DE K W te m) : DS K W (tDrop te) (sDrop m) := by
  intro c G H σ ρ E hK hl R p
  exact h c G H σ ρ [] _ hK hl R (sE_post p fun a ρ' G' H' hl' R' s q v r => q σ G' H' rfl hl' R' (Same.refl G'))
def sRet (m : M (Bool × D)) : S := sE m fun a => fun ρ => .rt a.1 a.2 ρ
theorem ds_ret {te : TE} {m : M (Bool × D)} (h : DE K W te m) : DS K W (tRet te) (sRet m) := by
  intro c G H σ ρ E hK hl R p
  refine h c G H σ ρ [] _ hK hl R (sE_post p fun a ρ' G' H' hl' R' s q v r => ?_)
  subst hK
  exact q v σ G' H' rfl hl' R' (Same.refl G') r
/-- return of a list of the call's own -/
def mRetV (i : Nat) : M (Bool × D) := fun ρ => match ρ[i]? with
  | some (.dat fr d) => .ok (fr, d) ρ
  | some (.own fr ds) => .ok (fr || flatDs ds, .lst ds) (ρ.set i (.dat (fr || flatDs ds) (.lst ds)))
  | some (.dct fr ks ds) => .ok (fr || flatDs ds, .dic ks ds) (ρ.set i (.dat (fr || flatDs ds) (.dic ks ds)))
  | some (.dcT fr ks ds) => .ok (fr || flatDs ds, .dicT ks ds) (ρ.set i (.dat (fr || flatDs ds) (.dicT ks ds)))
  | some (.dcB w t) => .ok (true, .dicB w t) (ρ.set i (.dat true (.dicB w t)))
  | _ => .no
/-- a name whose list will not change any more -/
theorem de_varF (i : Nat) : DE K W (tVar i) (mRetV i) := by
  intro c G H σ ρ T Q hK hl R h
  unfold mRetV at h
  cases e : ρ[i]? with
  | none => rw [e] at h; exact h.elim
  | some s =>
    rw [e] at h
    obtain ⟨o, e1, e2⟩ := zip_get hl e
    cases s with
    | dat fr d =>
      obtain ⟨v, ev, r⟩ := R.sl _ (zip_mem (T := T) e2)
      cases ev
      exact ⟨v, e1, h hl G H R (Same.refl G) v r⟩
    | own fr ds =>
      have R1 := R.out e2
      obtain ⟨p, eq, h1, h2, ⟨h3, vs, h4, h5⟩, h6⟩ := R1.head rfl
      subst eq
      obtain ⟨R2, sG, hd⟩ := R1.freeze h4
      have hd2 : Dr c.K (upd G p (.lst vs)) (Fl c (fr || flatDs ds)) (.ref p) (.lst ds) := by
        cases hd with
        | lst g1 g2 g3 => exact .lst g1 (fun _ => R1.g0n h1) g3.fl
      have R3 := Rel.back' hl e1 (R2.dat hd2)
      subst hK
      exact ⟨.ref p, e1, h (by rw [List.length_set]; exact hl) _ H R3 sG _ hd2⟩
    | dct fr ks ds =>
      have R1 := R.out e2
      obtain ⟨p, eq, h1, h2, ⟨h3, vs, h4, hl2, h5⟩, h6⟩ := R1.head rfl
      subst eq
      obtain ⟨R2, sG⟩ := R1.freezeO rfl h4 h3
      have hd2 : Dr c.K (upd G p (.dK (ks.zip vs))) (Fl c (fr || flatDs ds)) (.ref p) (.dic ks ds) := .dic upd_same hl2 (fun _ => R1.g0n h1) (h5.fl.up sG)
      have R3 := Rel.back' hl e1 (R2.dat hd2)
      subst hK
      exact ⟨.ref p, e1, h (by rw [List.length_set]; exact hl) _ H R3 sG _ hd2⟩
    | dcT fr ks ds =>
      have R1 := R.out e2
      obtain ⟨p, eq, h1, h2, ⟨h3, vs, h4, hl2, h5⟩, h6⟩ := R1.head rfl
      subst eq
      obtain ⟨R2, sG⟩ := R1.freezeO rfl h4 h3
      have hd2 : Dr c.K (upd G p (.dT (ks.zip vs))) (Fl c (fr || flatDs ds)) (.ref p) (.dicT ks ds) := .dicT upd_same hl2 (fun _ => R1.g0n h1) (h5.fl.up sG)
      have R3 := Rel.back' hl e1 (R2.dat hd2)
      subst hK
      exact ⟨.ref p, e1, h (by rw [List.length_set]; exact hl) _ H R3 sG _ hd2⟩
    | dcB w t =>
      have R1 := R.out e2
      obtain ⟨p, eq, h1, h2, ⟨h3, rows, h4, hk, h5⟩, h6⟩ := R1.head rfl
      subst eq
      obtain ⟨R2, sG⟩ := R1.freezeO rfl h4 h3
      have hd2 : Dr c.K (upd G p (dbO w p rows)) (Fl c true) (.ref p) (.dicB w t) := .dicB upd_same (hk.up sG) (fun _ => R1.g0n h1) h5
      have R3 := Rel.back' hl e1 (R2.dat hd2)
      subst hK
      exact ⟨.ref p, e1, h (by rw [List.length_set]; exact hl) _ H R3 sG _ hd2⟩
    | _ => exact h.elim
def sRetN : S := fun ρ => .rt true .non ρ
def sIf (t : M Bool) (a b : S) : S := sE t fun k => if k = true then a else b
theorem ds_if {t : TT} {u w : L2.TS} {m : M Bool} {a b : S} (ht : DT K W t m) (ha : DS K W u a) (hb : DS K W w b) : DS K W (tIfS t u w) (sIf m a b) := by
  intro c G H σ ρ E hK hl R p
  refine ht c G H σ ρ [] _ hK hl R (sE_post p fun k ρ' G' H' hl' R' s q => ?_)
  cases k with
  | true => exact iteT (ha c G' H' σ ρ' E hK hl' R' q)
  | false => exact iteF (hb c G' H' σ ρ' E hK hl' R' q)
def sRaise (k : Str) (m : M (List Slot)) : S := sE m fun ss => match dats ss with
  | some (_, [d]) => fun ρ => .er k d ρ
  | _ => fun _ => .no
/-! ### loops -/
def forD (t : Tgt) (b : S) : List (Bool × D) → List Slot → SRes
  | [], ρ => .nx ρ
  | a :: as, ρ => match t a ρ with
    | none => .no
    | some ρ1 => match b ρ1 with
      | .nx ρ2 => forD t b as ρ2
      | .ct ρ2 => forD t b as ρ2
      | .bk ρ2 => .nx ρ2
      | r => r
def sFor (mi : M (List (Bool × D))) (t : Tgt) (b : S) : S := sE mi fun its => forD t b its
theorem ds_for {wi : TI} {g : TG} {tb : L2.TS} {tv : List Nat} {mi : M (List (Bool × D))} {t : Tgt} {b : S} (hi : DI K W wi mi) (hg : DG K tv g t) (hb : DS K W tb b) : DS K W (tFor wi g tb) (sFor mi t b) := by
  intro c G H σ ρ E hK hl R p
  refine hi c G H σ ρ [] _ hK hl R (sE_post p fun its ρ1 G1 H1 hl1 R1 s1 q J hJ => ?_)
  obtain ⟨Wv, hW⟩ : ∃ Wv : Nat → Nat → L2.St → Hp → Prop, Wv = fun i m σc Hc => m = its.length - i ∧ i ≤ its.length ∧ ∃ (Gc : Hp) (ρc : List Slot), Same G1 Gc ∧ σc.length = σ.length ∧ σc.length = ρc.length ∧
    Rel c Gc Hc (σc.zip ρc ++ []) ∧ SPo c Gc σ.length W E (forD t b (its.drop i) ρc) := ⟨_, rfl⟩
  refine ⟨Wv, ⟨its.length, ?_⟩, fun i m σc Hc hw => ?_⟩
  · rw [hW]
    exact ⟨rfl, Nat.zero_le _, G1, ρ1, Same.refl _, rfl, hl1, R1, q⟩
  · rw [hW] at hw
    obtain ⟨em, hin, Gc, ρc, sG, hn, hlc, Rc, P⟩ := hw
    obtain ⟨h1, h2⟩ := hJ i Gc Hc _ Rc (fun _ z => absurd z List.not_mem_nil) sG
    by_cases hlt : i < its.length
    · have ea : its[i]? = some its[i] := List.getElem?_eq_getElem hlt
      obtain ⟨hgo, hy⟩ := h1 _ ea
      rw [List.drop_eq_getElem_cons hlt] at P
      generalize its[i] = a at ea hy P
      refine .inr ⟨hgo, Wv (i + 1) (its.length - (i + 1)), fun σ' H' w => ⟨_, by omega, w⟩, fun x H' yl => ?_⟩
      obtain ⟨Gn, k1, k2, k3, k4, hx⟩ := hy x H' yl
      have Rn := Rc.grow k1 k2 k3 k4
      unfold forD at P
      cases e1 : t a ρc with
      | none => rw [e1] at P; exact P.elim
      | some ρd =>
        rw [e1] at P
        dsimp only at P
        refine hg c Gn H' σc ρc ρd [] x a _ hK hlc Rn (by subst hK; exact hx) e1 fun σ2 l1 l2 _ R2 => ?_
        refine hb c Gn H' σ2 ρd _ hK l1 R2 ?_
        have hn2 : σ2.length = σ.length := l2.trans hn
        have go : ∀ ρ2, SPo c Gc σ.length W E (forD t b (its.drop (i + 1)) ρ2) → ∀ σ' G' H', σ'.length = σ2.length → σ'.length = ρ2.length → Rel c G' H' (σ'.zip ρ2 ++ []) → Same Gn G' → Wv (i + 1) (its.length - (i + 1)) σ' H' := fun ρ2 P2 σ' G' H' hn3 hl3 R3 s3 => by
          rw [hW]
          exact ⟨rfl, hlt, G', ρ2, (sG.trans k2).trans s3, hn3.trans hn2, hl3, R3, P2.later (k2.trans s3)⟩
        cases e2 : b ρd with
        | no => rw [e2] at P; exact P
        | er k d ρ2 =>
          rw [e2] at P
          exact fun v y σ' G' H' hn3 hl3 R3 s3 => P v y σ' G' H' (hn3.trans hn2) hl3 R3 (k2.trans s3)
        | nx ρ2 => rw [e2] at P; exact go ρ2 P
        | ct ρ2 => rw [e2] at P; exact go ρ2 P
        | rt fr d ρ2 =>
          rw [e2] at P
          exact fun v σ' G' H' hn3 hl3 R3 s3 => P v σ' G' H' (hn3.trans hn2) hl3 R3 (k2.trans s3)
        | bk ρ2 =>
          rw [e2] at P
          exact fun σ' G' H' hn3 hl3 R3 s3 => P σ' G' H' (hn3.trans hn2) hl3 R3 (k2.trans s3)
    · have ei : i = its.length := by omega
      refine .inl ⟨h2 (by omega), ?_⟩
      rw [List.drop_eq_nil_of_le (by omega)] at P
      exact P σc Gc Hc hn hlc Rc (Same.refl _)
def whileD (t : M Bool) (b : S) : Nat → List Slot → SRes
  | 0, _ => .no
  | n + 1, ρ => match t ρ with
    | .ok true ρ1 => (match b ρ1 with
      | .nx ρ2 => whileD t b n ρ2
      | .ct ρ2 => whileD t b n ρ2
      | .bk ρ2 => .nx ρ2
      | r => r)
    | .ok false ρ1 => .nx ρ1
    | .er k d ρ1 => .er k d ρ1
    | .no => .no
def sWhile (n : Nat) (t : M Bool) (b : S) : S := whileD t b n
theorem ds_while {tt : TT} {tb : L2.TS} {n : Nat} {t : M Bool} {b : S} (ht : DT K W tt t) (hb : DS K W tb b) : DS K W (tWhile tt tb) (sWhile n t b) := by
  intro c G H σ ρ E hK hl R p
  obtain ⟨Wv, hW⟩ : ∃ Wv : Nat → L2.St → Hp → Prop, Wv = fun m σc Hc => ∃ (Gc : Hp) (ρc : List Slot), Same G Gc ∧ σc.length = σ.length ∧ σc.length = ρc.length ∧
    Rel c Gc Hc (σc.zip ρc ++ []) ∧ SPo c Gc σ.length W E (whileD t b m ρc) := ⟨_, rfl⟩
  refine ⟨Wv, ⟨n, ?_⟩, fun m σc Hc hw => ?_⟩
  · rw [hW]
    exact ⟨G, ρ, Same.refl _, rfl, hl, R, p⟩
  · rw [hW] at hw
    obtain ⟨Gc, ρc, sG, hn, hlc, Rc, P⟩ := hw
    cases m with
    | zero => exact P.elim
    | succ m =>
      unfold whileD at P
      refine ht c Gc Hc σc ρc [] _ hK hlc Rc ?_
      cases e : t ρc with
      | no => rw [e] at P; exact P
      | er k d ρ1 =>
        rw [e] at P
        exact fun hl' v x G' H' R' s r hx => P v x σc G' H' hn hl' R' s r hx
      | ok k ρ1 =>
        rw [e] at P
        intro hl1 G1 H1 R1 s1
        cases k with
        | false => exact iteF (P σc G1 H1 hn hl1 R1 s1)
        | true =>
          refine iteT ⟨Wv m, fun σ' H' w => ⟨m, Nat.lt_succ_self m, w⟩, ?_⟩
          refine hb c G1 H1 σc ρ1 _ hK hl1 R1 ?_
          dsimp only at P
          have go : ∀ ρ2, SPo c Gc σ.length W E (whileD t b m ρ2) → ∀ σ' G' H', σ'.length = σc.length → σ'.length = ρ2.length → Rel c G' H' (σ'.zip ρ2 ++ []) → Same G1 G' → Wv m σ' H' := fun ρ2 P2 σ' G' H' hn3 hl3 R3 s3 => by
            rw [hW]
            exact ⟨G', ρ2, (sG.trans s1).trans s3, hn3.trans hn, hl3, R3, P2.later (s1.trans s3)⟩
          cases e2 : b ρ1 with
          | no => rw [e2] at P; exact P
          | er k d ρ2 =>
            rw [e2] at P
            exact fun v y σ' G' H' hn3 hl3 R3 s3 => P v y σ' G' H' (hn3.trans hn) hl3 R3 (s1.trans s3)
          | nx ρ2 => rw [e2] at P; exact go ρ2 P
          | ct ρ2 => rw [e2] at P; exact go ρ2 P
          | rt fr d ρ2 =>
            rw [e2] at P
            exact fun v σ' G' H' hn3 hl3 R3 s3 => P v σ' G' H' (hn3.trans hn) hl3 R3 (s1.trans s3)
          | bk ρ2 =>
            rw [e2] at P
            exact fun σ' G' H' hn3 hl3 R3 s3 => P σ' G' H' (hn3.trans hn) hl3 R3 (s1.trans s3)
end
end Da
end F27
section F28
namespace Da
open PySem PySem.Spec PyProof.Rows L2 He Ds
section
variable {K : PySem.W.Frag} {W : WX} {c : Cc} {G G' H : Hp} {σ : L2.St} {ρ : List Slot} {T : List En}
/-! ### methods that change a list of the call's own -/
def getOwn (i : Nat) (ρ : List Slot) : Option (Bool × List D) := match ρ[i]? with
  | some (.own fr ds) => some (fr, ds)
  | _ => none
theorem getOwn_of {i : Nat} {fr : Bool} {ds : List D} (hl : σ.length = ρ.length) (R : Rel c G H (σ.zip ρ ++ T)) (h : getOwn i ρ = some (fr, ds)) :
    ∃ p vs, σ[i]? = some (some (V.ref p)) ∧ H p = some (.lst vs) ∧ DrA c.K G (Fl c fr) vs ds ∧ Rel c G H ((some (.ref p), .own fr ds) :: rest σ ρ T i) := by
  unfold getOwn at h
  cases e : ρ[i]? with
  | none => rw [e] at h; cases h
  | some s =>
    rw [e] at h
    cases s with
    | own f d =>
      cases h
      obtain ⟨o, e1, e2⟩ := zip_get hl e
      have R1 := R.out e2
      obtain ⟨p, rfl, _, _, ⟨_, vs, h4, h5⟩, _⟩ := R1.head rfl
      exact ⟨p, vs, e1, h4, h5, R1⟩
    | _ => cases h
/-- x.append(e): the change -/
def onOwn {β : Type} (i : Nat) (k : Bool → List D → Option ((Bool × D) × (Bool × List D))) : M (Bool × D) := fun ρ => match getOwn i ρ with
  | some (fr, ds) => (match k fr ds with
    | some r => .ok r.1 (ρ.set i (.own r.2.1 r.2.2))
    | none => .no)
  | none => .no
/-- a method of one argument: k of the argument, the list -/
def mMut (i : Nat) (ma : M (List Slot)) (k : Bool → List D → Bool → List D → Option ((Bool × D) × (Bool × List D))) : M (Bool × D) := fun ρ => if (getOwn i ρ).isSome = true then mDats ma (fun r => onOwn (β := Unit) i (k r.1 r.2)) ρ else .no
theorem mut_core {i : Nat} {ta : TA} {ma : M (List Slot)} {k : Bool → List D → Bool → List D → Option ((Bool × D) × (Bool × List D))} {rm : V → List V → Hp → VK → Prop} {Q : VK} (ha : DA K W ta ma) (hK : c.K = K) (hl : σ.length = ρ.length) (R : Rel c G H (σ.zip ρ ++ T))
    (p : Post c G T σ W (fun a _ G' H' => ∀ v, Dr c.K G' (Fl c a.1) v a.2 → Q v H') (mMut i ma k ρ))
    (fin : ∀ (G2 H2 : Hp) (fa : Bool) (as : List D) (us : List V) (fr : Bool) (ds : List D) (q : Addr) (vs : List V) (r : (Bool × D) × (Bool × List D)), Same G2 H2 → DrA c.K G2 (Fl c fa) us as → H2 q = some (.lst vs) → DrA c.K G2 (Fl c fr) vs ds → k fa as fr ds = some r →
      (∀ v ws, Dr c.K G2 (Fl c r.1.1) v r.1.2 → DrA c.K G2 (Fl c r.2.1) ws r.2.2 → Q v (upd H2 q (.lst ws))) → rm (.ref q) us H2 Q) : tBM K "list" rm (tVar i) ta σ H Q := by
  unfold mMut at p
  by_cases h : (getOwn i ρ).isSome = true
  · rw [if_pos h] at p
    obtain ⟨⟨fr0, ds0⟩, e0⟩ := Option.isSome_iff_exists.mp h
    obtain ⟨q0, vs0, e1, e2, e3, _⟩ := getOwn_of hl R e0
    refine ⟨.ref q0, e1, .inl ⟨rfl, vs0, SqL.of e2⟩, ?_⟩
    refine dats_core ha hK hl R p fun fa as us G2 H2 ρ2 hl2 R2 s2 hd hn q => ?_
    unfold onOwn at q
    dsimp only at q
    cases e4 : getOwn i ρ2 with
    | none => rw [e4] at q; exact q.elim
    | some z =>
      obtain ⟨fr, ds⟩ := z
      rw [e4] at q
      dsimp only at q
      obtain ⟨q1, vs, e5, e6, e7, R3⟩ := getOwn_of hl2 R2 e4
      have eq : q1 = q0 := by
        have := e5.symm.trans e1
        cases this
        rfl
      subst eq
      cases e8 : k fa as fr ds with
      | none => rw [e8] at q; exact q.elim
      | some r =>
        rw [e8] at q
        refine fin G2 H2 fa as us fr ds q1 vs r R2.gs hd e6 e7 e8 fun v ws hv hw => ?_
        have R4 := R3.mut (vs := ws) (fr' := r.2.1) (ds' := r.2.2) hw
        exact q (by rw [List.length_set]; exact hl2) G2 _ (Rel.back' hl2 e5 R4) (Same.refl G2) v hv
  · rw [if_neg h] at p
    exact p.elim
def kAppend (fa : Bool) (as : List D) (fr : Bool) (ds : List D) : Option ((Bool × D) × (Bool × List D)) := match as with
  | [a] => if ds.length < 100000 then some ((true, .non), ((fr || flatDs ds) && fa, ds ++ [a])) else none
  | _ => none
theorem de_append {i : Nat} {ta : TA} {ma : M (List Slot)} (ha : DA K W ta ma) : DE K W (tBM K "list" rAppend (tVar i) ta) (mMut i ma kAppend) := by
  intro c G H σ ρ T Q hK hl R p
  refine mut_core ha hK hl R p fun G2 H2 fa as us fr ds q vs r sg hu hq hd e k => ?_
  unfold kAppend at e
  split at e
  · rename_i a
    split at e
    · rename_i hz
      cases e
      cases hu with
      | cons h t =>
        cases t
        exact ⟨q, vs, _, rfl, rfl, hq, by rw [hd.len]; exact Nat.lt_of_lt_of_le hz (by decide), k .non _ .non (hd.fl.low.append (.cons h.low' .nil))⟩
    · cases e
  · cases e
def kInsert (fa : Bool) (as : List D) (fr : Bool) (ds : List D) : Option ((Bool × D) × (Bool × List D)) := match as with
  | [.int i, a] => if ds.length < 100000 ∧ 0 ≤ i ∧ i ≤ 1000000 then some ((true, .non), ((fr || flatDs ds) && fa, ds.take i.toNat ++ [a] ++ ds.drop i.toNat)) else none
  | _ => none
theorem de_insert {i : Nat} {ta : TA} {ma : M (List Slot)} (ha : DA K W ta ma) : DE K W (tBM K "list" (fun x vs H Q => ∃ (l : Addr) (xs : List V) (i : Int) (y : V), x = .ref l ∧ vs = [.int i, y] ∧ H l = some (.lst xs) ∧ xs.length < sizeLine ∧ 0 ≤ i ∧ i < 2 ^ 63 ∧ Q .non (upd H l (.lst (xs.take i.toNat ++ [y] ++ xs.drop i.toNat)))) (tVar i) ta) (mMut i ma kInsert) := by
  intro c G H σ ρ T Q hK hl R p
  refine mut_core ha hK hl R p fun G2 H2 fa as us fr ds q vs r sg hu hq hd e k => ?_
  unfold kInsert at e
  split at e
  · rename_i j a
    split at e
    · rename_i hz
      cases e
      cases hu with
      | cons h0 t => cases t with
        | cons h t =>
          cases t
          cases h0
          exact ⟨q, vs, j, _, rfl, rfl, hq, by rw [hd.len]; exact Nat.lt_of_lt_of_le hz.1 (by decide), hz.2.1, by have := hz.2.2; omega, k .non _ .non (((hd.fl.low.take _).append (.cons h.low' .nil)).append (hd.fl.low.drop _))⟩
    · cases e
  · cases e
/-- x.pop(i) -/
def kPopAt (fa : Bool) (as : List D) (fr : Bool) (ds : List D) : Option ((Bool × D) × (Bool × List D)) := match as with
  | [.int i] => if 0 ≤ i ∧ i < ds.length ∧ ds.length ≤ 1000000 then (ds[i.toNat]?).map fun d => ((fr || flatD d, d), (fr, ds.eraseIdx i.toNat)) else none
  | _ => none
theorem de_popAt {i : Nat} {ta : TA} {ma : M (List Slot)} (ha : DA K W ta ma) : DE K W (tBM K "list" rPopAt (tVar i) ta) (mMut i ma kPopAt) := by
  intro c G H σ ρ T Q hK hl R p
  refine mut_core ha hK hl R p fun G2 H2 fa as us fr ds q vs r sg hu hq hd e k => ?_
  unfold kPopAt at e
  split at e
  · rename_i j
    split at e
    · rename_i hz
      obtain ⟨d, e1, rfl⟩ := omap e
      cases hu with
      | cons h0 t =>
        cases t
        cases h0
        obtain ⟨v, h1, h2⟩ := hd.get' e1
        have hv : vs.length = ds.length := hd.len
        have en := (ixN_seq (ixN_nat hz.1 (by rw [hv]; exact hz.2.1) : ixN vs.length j = some j.toNat)).1
        exact ⟨q, vs, j, j.toNat, v, rfl, rfl, hq, by omega, by have := hz.2; omega, en, h1, k v _ h2.fl (hd.erase _)⟩
    · cases e
  · cases e
def kExtend (fa : Bool) (as : List D) (fr : Bool) (ds : List D) : Option ((Bool × D) × (Bool × List D)) := match as with
  | [.lst es] => if ds.length + es.length ≤ 100000 then some ((true, .non), ((fr || flatDs ds) && (fa || flatDs es), ds ++ es)) else none
  | _ => none
theorem de_extend {i : Nat} {ta : TA} {ma : M (List Slot)} (ha : DA K W ta ma) : DE K W (tBM K "list" rExtend (tVar i) ta) (mMut i ma kExtend) := by
  intro c G H σ ρ T Q hK hl R p
  refine mut_core ha hK hl R p fun G2 H2 fa as us fr ds q vs r sg hu hq hd e k => ?_
  unfold kExtend at e
  split at e
  · rename_i es
    split at e
    · rename_i hz
      cases e
      cases hu with
      | cons h t =>
        cases t
        cases h with
        | lst h1 _ t =>
          refine ⟨q, _, vs, _, rfl, rfl, hq, sg _ _ h1, by rw [hd.len, t.len]; exact Nat.le_trans hz (by decide), k .non _ .non (hd.fl.low.append (t.fl.low'))⟩
    · cases e
  · cases e
/-- x.pop() -/
def mPop (i : Nat) : M (Bool × D) := fun ρ => match getOwn i ρ with
  | some (fr, ds) => (match ds.getLast? with
    | some d => .ok (fr || flatD d, d) (ρ.set i (.own fr ds.dropLast))
    | none => .no)
  | none => .no
theorem DrA.dropLast {F : Addr → Prop} {vs : List V} {ds : List D} (h : DrA K G F vs ds) : DrA K G F vs.dropLast ds.dropLast := by
  rw [List.dropLast_eq_take, List.dropLast_eq_take, h.len]
  exact h.take _
theorem de_pop {i : Nat} : DE K W (tBM0 K "list" rPop (tVar i)) (mPop i) := by
  intro c G H σ ρ T Q hK hl R p
  subst hK
  unfold mPop at p
  cases e0 : getOwn i ρ with
  | none => rw [e0] at p; exact p.elim
  | some z =>
    obtain ⟨fr, ds⟩ := z
    rw [e0] at p
    dsimp only at p
    obtain ⟨q, vs, e1, e2, hd, R1⟩ := getOwn_of hl R e0
    cases e3 : ds.getLast? with
    | none => rw [e3] at p; exact p.elim
    | some d =>
      rw [e3] at p
      rw [List.getLast?_eq_getElem?] at e3
      obtain ⟨v, h1, h2⟩ := hd.get' e3
      rw [← hd.len] at h1
      refine ⟨.ref q, e1, .inl ⟨rfl, vs, SqL.of e2⟩, q, vs, v, rfl, rfl, e2, h1, ?_⟩
      have R4 := R1.mut (vs := vs.dropLast) (fr' := fr) (ds' := ds.dropLast) hd.dropLast
      exact p (by rw [List.length_set]; exact hl) G _ (Rel.back' hl e1 R4) (Same.refl G) v h2.fl
/-! ### dicts of the call's own -/
def DD (K : PySem.W.Frag) (W : WX) (te : TE) (m : M (Bool × (List Key × List D))) : Prop :=
  ∀ (c : Cc) (G H : Hp) (σ : L2.St) (ρ : List Slot) (T : List En) (Q : VK), c.K = K → σ.length = ρ.length → Rel c G H (σ.zip ρ ++ T) →
    Post c G T σ W (fun a ρ' G' H' => ∀ p H2, Rel c G' H2 ((some (.ref p), .dct a.1 a.2.1 a.2.2) :: (σ.zip ρ' ++ T)) → Q (.ref p) H2) (m ρ) → te σ H Q
def keyOf : D → Option Key
  | .int i => some (.inl i)
  | .str s => some (.inr s)
  | _ => none
theorem keyOf_eq {F : Addr → Prop} {v : V} {d : D} {k : Key} (h : Dr K G F v d) (e : keyOf d = some k) : v = kV k := by
  cases h <;> first | (cases e; rfl) | cases e
/-- {k: v} -/
def mDisp1 (mk mv : M (Bool × D)) : M (Bool × (List Key × List D)) := mb mk fun k => mb mv fun v => match keyOf k.2 with
  | some k => mp (v.1 || flatD v.2, [k], [v.2])
  | none => mno
def sSetD (i : Nat) (m : M (Bool × (List Key × List D))) : S := sE m fun a => fun ρ => if i < ρ.length then .nx (ρ.set i (.dct a.1 a.2.1 a.2.2)) else .no
theorem ds_setD {te : TE} {i : Nat} {m : M (Bool × (List Key × List D))} (h : DD K W te m) : DS K W (tAsg te (gName i)) (sSetD i m) := by
  intro c G H σ ρ E hK hl R p
  refine h c G H σ ρ [] _ hK hl R (sE_post p fun a ρ' G' H' hl' R' s q pp H2 R2 => ?_)
  split at q
  · rename_i hi
    exact nx_put hl' hi R2 q
  · exact q.elim
end
end Da
end F28
section F29
namespace Da
open PySem PySem.Spec PyProof.Rows L2 He Ds
section
variable {K : PySem.W.Frag} {W : WX} {c : Cc} {G G' H : Hp} {σ : L2.St} {ρ : List Slot} {T : List En}
/-! ### raise -/
theorem ds_raise {mg : Str → Option Value} {x : Str} {ta : TA} {ma : M (List Slot)} (X : ErrC K mg x) (ha : DA K W ta ma) : DS K W (fun _ σ H => tMkO (ga K x) (spErrI K) [] ta σ H fun cls d H' => W cls d σ H') (sRaise x ma) := by
  intro c G H σ ρ E hK hl R p
  refine ha c G H σ ρ [] _ hK hl R (sE_post p fun ss ρ' G' H' hl' R' s q vs hv R2 => ?_)
  cases e : dats ss with
  | none => rw [e] at q; exact q.elim
  | some r =>
    obtain ⟨f, ds⟩ := r
    rw [e] at q
    match ds, e, q with
    | [d], e, q =>
      obtain ⟨h1, h2⟩ := dats_ok R2 hv e
      cases h1 with
      | cons h t =>
        cases t
        subst hK
        refine d_made (Q := fun cls d H' => W cls d σ H') X fun dd ndd => ?_
        exact q _ dd σ _ _ rfl hl' (R'.new ndd) (same_new (Same.refl G') (R'.gn ndd)) ((h.up (same_new (Same.refl G') (R'.gn ndd))).top) upd_same
    | [], _, q => exact q.elim
    | _ :: _ :: _, _, q => exact q.elim
/-! ### self.f = e -/
def sSelf (i : Nat) (f : Str) (m : M (Bool × D)) : S := sE m fun a => fun ρ => match ρ[i]? with
  | some (.slf C ns ds) => if ns.contains f = false ∧ ns.length < 100 then .nx (ρ.set i (.slf C (ns ++ [f]) (ds ++ [a.2]))) else .no
  | _ => .no
theorem putF_new {f : Str} {v : V} : ∀ {ns : List Str} {vs : List V}, ns.contains f = false → ns.length = vs.length → putF f v (ns.zip vs) = (ns ++ [f]).zip (vs ++ [v])
  | [], [], _, _ => rfl
  | n :: ns, v' :: vs, h, hl => by
    rw [List.contains_cons, Bool.or_eq_false_iff] at h
    have hne : n ≠ f := fun e => by
      have h1 := h.1
      rw [e] at h1
      simp at h1
    show putF f v ((n, v') :: ns.zip vs) = _
    unfold putF
    rw [if_neg hne, putF_new h.2 (by simpa using hl)]
    rfl
  | [], _ :: _, _, hl => by simp at hl
  | _ :: _, [], _, hl => by simp at hl
theorem ds_self {C f : Str} {te : TE} {i : Nat} {m : M (Bool × D)} (hC : Cls K (ga K C)) (hA : NoAttr K (ga K C) f) (h : DE K W te m) : DS K W (sFld K (tVar i) te f) (sE m fun a => fun ρ => match ρ[i]? with
  | some (.slf C' ns ds) => if C' = C ∧ ns.contains f = false ∧ ns.length < 100 then .nx (ρ.set i (.slf C' (ns ++ [f]) (ds ++ [a.2]))) else .no
  | _ => .no) := by
  intro c G H σ ρ E hK hl R p
  refine h c G H σ ρ [] _ hK hl R (sE_post p fun a ρ' G' H' hl' R' s q v r => ?_)
  cases e : ρ'[i]? with
  | none => rw [e] at q; exact q.elim
  | some t => cases t with
    | slf C' ns ds =>
      rw [e] at q
      dsimp only at q
      by_cases hc : C' = C ∧ ns.contains f = false ∧ ns.length < 100
      · rw [if_pos hc] at q
        obtain ⟨rfl, hc1, hc2⟩ := hc
        obtain ⟨o, e1, e2⟩ := zip_get hl' e
        have R1 := R'.out e2
        obtain ⟨p1, rfl, g1, h1, ⟨hio, dx, vs, h2, hl2, hd⟩, _⟩ := R1.head rfl
        subst hK
        refine ⟨.ref p1, e1, p1, _, dx, _, rfl, h2, hC, hA, ?_, ?_⟩
        · rw [List.length_zip]
          omega
        · rw [putF_new hc1 hl2]
          have R2 := R1.mutO (s' := .slf C' (ns ++ [f]) (ds ++ [a.2])) (u := .ins (ga c.K C') dx ((ns ++ [f]).zip (vs ++ [v]))) rfl rfl (.inl hio) ⟨hio, dx, vs ++ [v], upd_same, by simp [hl2], hd.append (.cons r.top .nil)⟩
          exact q σ G' _ rfl (by rw [List.length_set]; exact hl') (Rel.back' hl' e1 R2) (Same.refl G')
      · rw [if_neg hc] at q
        exact q.elim
    | _ => rw [e] at q; exact q.elim
def sSelfC (C : Str) (i : Nat) (f : Str) (m : M (Bool × D)) : S := sE m fun a => fun ρ => match ρ[i]? with
  | some (.slf C' ns ds) => if C' = C ∧ ns.contains f = false ∧ ns.length < 100 then .nx (ρ.set i (.slf C' (ns ++ [f]) (ds ++ [a.2]))) else .no
  | _ => .no
/-! ### a def's body -/
def initS (N : Nat) (ss : List Slot) : List Slot := ss ++ List.replicate (N - ss.length) .no
def runD (N n : Nat) (s : S) : List D → Out := fun ds => if ds.length = n then (match s (initS N (ds.map (.dat false))) with
  | .nx _ => .ok true .non
  | .rt fr d _ => .ok (fr || flatD d) d
  | .er k d _ => .er k d
  | _ => .no) else .no
def runP (N n : Nat) (s : S) : List Int → List D → OutP := fun ns ds => if ds.length + 1 = n then (match s (initS N (.pool ns :: ds.map (.dat false))) with
  | .nx (.pool ns' :: _) => .ok true .non ns'
  | .rt fr d (.pool ns' :: _) => .ok (fr || flatD d) d ns'
  | _ => .no) else .no
def runI (C : Str) (N n : Nat) (s : S) : List D → OutI := fun ds => if ds.length + 1 = n then (match s (initS N (.slf C [] [] :: ds.map (.dat false))) with
  | .nx (.slf C' ns' ds' :: _) => if C' = C then .ok ns' ds' else .no
  | .er k d _ => .er k d
  | _ => .no) else .no
theorem start_len {N : List Str} {vs : List V} {ss : List Slot} (h : vs.length = ss.length) : (L2.start N vs).length = (initS N.length ss).length := by
  unfold L2.start initS
  simp [h]
theorem zip_rep {n : Nat} : ∀ x ∈ (List.replicate n (none : Option V)).zip (List.replicate n Slot.no), x.2 = Slot.no := by
  intro x hx
  rw [List.zip_replicate, Nat.min_self] at hx
  rw [(List.mem_replicate.mp hx).2]
theorem start_zip {N : List Str} {vs : List V} {ss : List Slot} (h : vs.length = ss.length) : (L2.start N vs).zip (initS N.length ss) = (vs.map some).zip ss ++ (List.replicate (N.length - ss.length) none).zip (List.replicate (N.length - ss.length) Slot.no) := by
  unfold L2.start initS
  rw [List.zip_append (by simp [h]), h]
theorem Rel.addNo {E : List En} {l : List En} (R : Rel c G H E) (h : ∀ x ∈ l, x.2 = Slot.no) : Rel c G H (E ++ l) := by
  refine ⟨R.fr, R.al, R.gs, R.g0, R.gg, fun x hx => ?_, ?_⟩
  · rcases List.mem_append.mp hx with hx | hx
    · exact R.sl x hx
    · obtain ⟨o, s⟩ := x
      have := h _ hx
      cases this
      exact trivial
  · unfold ownE
    rw [List.flatMap_append]
    have e : l.flatMap (ownL H) = [] := List.flatMap_eq_nil_iff.mpr fun x hx => ownL_none (by rw [h x hx]; rfl)
    rw [e, List.append_nil]
    exact R.nd
theorem args_rel {E : List En} : ∀ {vs : List V} {ds : List D}, DrA c.K G (fun _ => True) vs ds → Rel c G H E → Rel c G H ((vs.map some).zip (ds.map (Slot.dat false)) ++ E)
  | _, _, .nil, R => R
  | _, _, .cons h t, R => (args_rel t R).dat (h.mono (Same.refl G) fun _ _ z => nomatch z)
/-- the start of a call that changes nothing -/
theorem start_rel {N : List Str} {vs : List V} {ds : List D} (gs : Same G H) (hd : DrA K G (fun _ => True) vs ds) : Rel ⟨K, H, G, fun _ => False, fun _ z => z.elim⟩ G H ((L2.start N vs).zip (initS N.length (ds.map (.dat false))) ++ []) := by
  have hl : vs.length = (ds.map (Slot.dat false)).length := by rw [List.length_map]; exact hd.len
  rw [start_zip hl, List.append_nil]
  refine Rel.addNo ?_ zip_rep
  have R0 : Rel ⟨K, H, G, fun _ => False, fun _ z => z.elim⟩ G H [] := ⟨fun _ _ e _ => e, fun _ h => h, gs, Same.refl G, fun _ _ => rfl, fun x hx => by simp at hx, by simp⟩
  have := args_rel (c := ⟨K, H, G, fun _ => False, fun _ z => z.elim⟩) hd R0
  rwa [List.append_nil] at this
theorem body_d {N : List Str} {n : Nat} {s : S} {ts : L2.TS} {vs : List V} {Q : VK} {E : XK} (hs : DS K (fun cls d _ H => E cls d H) ts s) (h : spD K (runD N.length n s) vs H Q E) : ts { nx := fun _ H' => Q .non H', rt := Q } (L2.start N vs) H := by
  obtain ⟨G, ds, gs, hd, q⟩ := h
  unfold runD at q
  by_cases hn : ds.length = n
  · rw [if_pos hn] at q
    have hl : (L2.start N vs).length = (initS N.length (ds.map (Slot.dat false))).length := start_len (by rw [List.length_map]; exact hd.len)
    refine hs ⟨K, H, G, fun _ => False, fun _ z => z.elim⟩ G H _ _ _ rfl hl (start_rel gs hd) ?_
    have up : ∀ {G' H' E}, Rel ⟨K, H, G, fun _ => False, fun _ z => z.elim⟩ G' H' E → Same H H' ∧ Same G G' ∧ Same G' H' ∧ ∀ b, H b ≠ none → G' b = G b := fun R => ⟨fun b o e => R.fr b o e (fun z => z.elim), R.g0, R.gs, R.gg⟩
    cases e : s (initS N.length (ds.map (Slot.dat false))) with
    | no => rw [e] at q; exact q
    | er k d ρ' =>
      rw [e] at q
      intro v x σ' G' H' _ _ R' _ hv hx
      obtain ⟨h1, h2, h3, h4⟩ := up R'
      exact q v x G' H' h1 h2 h3 h4 hv hx
    | nx ρ' =>
      rw [e] at q
      intro σ' G' H' _ _ R' _
      obtain ⟨h1, h2, h3, h4⟩ := up R'
      exact q .non G' H' h1 h2 h3 h4 .non
    | rt fr d ρ' =>
      rw [e] at q
      intro v σ' G' H' _ _ R' _ hv
      obtain ⟨h1, h2, h3, h4⟩ := up R'
      exact q v G' H' h1 h2 h3 h4 hv.fl
    | bk ρ' => rw [e] at q; exact q.elim
    | ct ρ' => rw [e] at q; exact q.elim
  · rw [if_neg hn] at q
    exact q.elim
theorem len_d {N : List Str} {n : Nat} {s : S} {vs : List V} {Q : VK} {E : XK} (h : spD K (runD N.length n s) vs H Q E) : vs.length = n := by
  obtain ⟨G, ds, gs, hd, q⟩ := h
  unfold runD at q
  by_cases hn : ds.length = n
  · rw [hd.len, hn]
  · rw [if_neg hn] at q
    exact q.elim
theorem Post.zz : True := trivial
/-- .. of one that changes the drawn ints -/
theorem body_p {N : List Str} {n : Nat} {s : S} {ts : L2.TS} {vs : List V} {Q : VK} {E : XK} (hs : DS K (fun cls d _ H => E cls d H) ts s) (h : spP K (runP N.length n s) vs H Q E) : ts { nx := fun _ H' => Q .non H', rt := Q } (L2.start N vs) H := by
  obtain ⟨p, us, ns, G, ds, rfl, hp, gp, gs, hd, q⟩ := h
  unfold runP at q
  by_cases hn : ds.length + 1 = n
  · rw [if_pos hn] at q
    have hl0 : (V.ref p :: us).length = (Slot.pool ns :: ds.map (Slot.dat false)).length := by rw [List.length_cons, List.length_cons, List.length_map, hd.len]
    have hl : (L2.start N (V.ref p :: us)).length = (initS N.length (Slot.pool ns :: ds.map (Slot.dat false))).length := start_len hl0
    have io0 : ∀ b, b = p → H b ≠ none := fun b e => by rw [e, hp]; intro z; cases z
    have R0 : Rel ⟨K, H, G, fun b => b = p, io0⟩ G H [(some (.ref p), .pool ns)] := by
      have R00 : Rel ⟨K, H, G, fun b => b = p, io0⟩ G H [] := ⟨fun _ _ e _ => e, fun _ h => h, gs, Same.refl G, fun _ _ => rfl, fun x hx => by simp at hx, by simp⟩
      exact R00.cons ((slot_own rfl).mpr ⟨p, rfl, gp, (by rw [hp]; intro z; cases z), rfl, hp⟩) (by rw [ownL_one rfl rfl]; simp) fun q _ => by simp
    have R1 : Rel ⟨K, H, G, fun b => b = p, io0⟩ G H ((L2.start N (V.ref p :: us)).zip (initS N.length (Slot.pool ns :: ds.map (Slot.dat false))) ++ []) := by
      rw [start_zip hl0, List.append_nil]
      refine Rel.addNo ?_ zip_rep
      have := args_rel (c := ⟨K, H, G, fun b => b = p, io0⟩) hd R0
      exact this.perm (List.perm_append_comm (l₁ := [(some (V.ref p), Slot.pool ns)]))
    refine hs ⟨K, H, G, fun b => b = p, io0⟩ G H _ _ _ rfl hl R1 ?_
    have up : ∀ {G' H' E}, Rel ⟨K, H, G, fun b => b = p, io0⟩ G' H' E → (∀ b o, H b = some o → b ≠ p → H' b = some o) ∧ Same G G' ∧ Same G' H' ∧ ∀ b, H b ≠ none → G' b = G b := fun R => ⟨fun b o e hb => R.fr b o e hb, R.g0, R.gs, R.gg⟩
    have at0 : ∀ {σ' : L2.St} {ns' : List Int} {ρ' : List Slot} {G' H' : Hp}, Rel ⟨K, H, G, fun b => b = p, io0⟩ G' H' (σ'.zip (Slot.pool ns' :: ρ') ++ []) → σ'.length = (Slot.pool ns' :: ρ').length → H' p = some (.lst (ns'.map V.int)) := by
      intro σ' ns' ρ' G' H' R' hl'
      cases σ' with
      | nil => simp at hl'
      | cons o σ' =>
        obtain ⟨q, eq, _, _, hio, hq⟩ := R'.sl (o, .pool ns') (by simp)
        have hio' : q = p := hio
        subst hio'
        exact hq
    cases e : s (initS N.length (Slot.pool ns :: ds.map (Slot.dat false))) with
    | no => rw [e] at q; exact q
    | er k d ρ' => rw [e] at q; exact q.elim
    | nx ρ' =>
      rw [e] at q
      cases ρ' with
      | nil => exact q.elim
      | cons t ρ' => cases t with
        | pool ns' =>
          intro σ' G' H' _ hl' R' _
          obtain ⟨h1, h2, h3, h4⟩ := up R'
          exact q .non G' H' h1 (at0 R' hl') h2 h3 h4 .non
        | _ => exact q.elim
    | rt fr d ρ' =>
      rw [e] at q
      cases ρ' with
      | nil => exact q.elim
      | cons t ρ' => cases t with
        | pool ns' =>
          intro v σ' G' H' _ hl' R' _ hv
          obtain ⟨h1, h2, h3, h4⟩ := up R'
          exact q v G' H' h1 (at0 R' hl') h2 h3 h4 hv.fl
        | _ => exact q.elim
    | bk ρ' => rw [e] at q; exact q.elim
    | ct ρ' => rw [e] at q; exact q.elim
  · rw [if_neg hn] at q
    exact q.elim
theorem len_p {N : List Str} {n : Nat} {s : S} {vs : List V} {Q : VK} {E : XK} (h : spP K (runP N.length n s) vs H Q E) : vs.length = n := by
  obtain ⟨p, us, ns, G, ds, rfl, hp, gp, gs, hd, q⟩ := h
  unfold runP at q
  by_cases hn : ds.length + 1 = n
  · rw [List.length_cons, hd.len, hn]
  · rw [if_neg hn] at q
    exact q.elim
/-- .. of an __init__ -/
theorem body_i {C : Str} {N : List Str} {n : Nat} {s : S} {ts : L2.TS} {vs : List V} {Q : VK} {E : XK} (hs : DS K (fun cls d _ H => E cls d H) ts s) (h : spI K C (runI C N.length n s) vs H Q E) : ts { nx := fun _ H' => Q .non H', rt := Q } (L2.start N vs) H := by
  obtain ⟨p, dx, us, G, ds, rfl, hp, gp, gs, hd, q⟩ := h
  unfold runI at q
  by_cases hn : ds.length + 1 = n
  · rw [if_pos hn] at q
    have hl0 : (V.ref p :: us).length = (Slot.slf C [] [] :: ds.map (Slot.dat false)).length := by rw [List.length_cons, List.length_cons, List.length_map, hd.len]
    have hl : (L2.start N (V.ref p :: us)).length = (initS N.length (Slot.slf C [] [] :: ds.map (Slot.dat false))).length := start_len hl0
    have io0 : ∀ b, b = p → H b ≠ none := fun b e => by rw [e, hp]; intro z; cases z
    have R0 : Rel ⟨K, H, G, fun b => b = p, io0⟩ G H [(some (.ref p), .slf C [] [])] := by
      have R00 : Rel ⟨K, H, G, fun b => b = p, io0⟩ G H [] := ⟨fun _ _ e _ => e, fun _ h => h, gs, Same.refl G, fun _ _ => rfl, fun x hx => by simp at hx, by simp⟩
      exact R00.cons ((slot_own rfl).mpr ⟨p, rfl, gp, (by rw [hp]; intro z; cases z), rfl, dx, [], hp, rfl, .nil⟩) (by rw [ownL_one rfl rfl]; simp) fun q _ => by simp
    have R1 : Rel ⟨K, H, G, fun b => b = p, io0⟩ G H ((L2.start N (V.ref p :: us)).zip (initS N.length (Slot.slf C [] [] :: ds.map (Slot.dat false))) ++ []) := by
      rw [start_zip hl0, List.append_nil]
      refine Rel.addNo ?_ zip_rep
      have := args_rel (c := ⟨K, H, G, fun b => b = p, io0⟩) hd R0
      exact this.perm (List.perm_append_comm (l₁ := [(some (V.ref p), Slot.slf C [] [])]))
    refine hs ⟨K, H, G, fun b => b = p, io0⟩ G H _ _ _ rfl hl R1 ?_
    have up : ∀ {G' H' E}, Rel ⟨K, H, G, fun b => b = p, io0⟩ G' H' E → (∀ b o, H b = some o → b ≠ p → H' b = some o) ∧ Same G G' ∧ Same G' H' ∧ ∀ b, H b ≠ none → G' b = G b := fun R => ⟨fun b o e hb => R.fr b o e hb, R.g0, R.gs, R.gg⟩
    cases e : s (initS N.length (Slot.slf C [] [] :: ds.map (Slot.dat false))) with
    | no => rw [e] at q; exact q
    | er k d ρ' =>
      rw [e] at q
      intro v x σ' G' H' _ _ R' _ hv hx
      obtain ⟨h1, h2, h3, h4⟩ := up R'
      exact q v x G' H' h1 h2 h3 h4 hv hx
    | nx ρ' =>
      rw [e] at q
      cases ρ' with
      | nil => exact q.elim
      | cons t ρ' => cases t with
        | slf C' ns' ds' =>
          intro σ' G' H' _ hl' R' _
          dsimp only at q
          by_cases hC : C' = C
          · rw [if_pos hC] at q
            subst hC
            obtain ⟨h1, h2, h3, h4⟩ := up R'
            cases σ' with
            | nil => simp at hl'
            | cons o σ' =>
              obtain ⟨q1, eq, _, _, hio, dx', ws, hq, hlw, hw⟩ := R'.sl (o, .slf C' ns' ds') (by simp)
              have hio' : q1 = p := hio
              subst hio'
              exact q G' H' dx' ws h1 hq hlw h2 h3 h4 hw
          · rw [if_neg hC] at q
            exact q.elim
        | _ => exact q.elim
    | rt fr d ρ' => rw [e] at q; exact q.elim
    | bk ρ' => rw [e] at q; exact q.elim
    | ct ρ' => rw [e] at q; exact q.elim
  · rw [if_neg hn] at q
    exact q.elim
theorem len_i {C : Str} {N : List Str} {n : Nat} {s : S} {vs : List V} {Q : VK} {E : XK} (h : spI K C (runI C N.length n s) vs H Q E) : vs.length = n := by
  obtain ⟨p, dx, us, G, ds, rfl, hp, gp, gs, hd, q⟩ := h
  unfold runI at q
  by_cases hn : ds.length + 1 = n
  · rw [List.length_cons, hd.len, hn]
  · rw [if_neg hn] at q
    exact q.elim
end
end Da
end F29
section F30
namespace Da
open PySem PySem.Spec PyProof.Rows L2 He Ds
section
variable {K : PySem.W.Frag} {W : WX} {c : Cc} {G G' H : Hp} {σ : L2.St} {ρ : List Slot} {T : List En}
/-! ### dicts -/
def getD (ks : List Key) (ds : List D) (k : Key) : Option D := ((ks.zip ds).find? fun p => decide (p.1 = k)).map (·.2)
theorem valV_dr {F : Addr → Prop} {k : Key} : ∀ {ks : List Key} {vs : List V} {ds : List D}, ks.length = vs.length → DrA K G F vs ds → (∀ d, getD ks ds k = some d → ∃ v, valV (ks.zip vs) k = some v ∧ Dr K G F v d) ∧ (getD ks ds k = none → valV (ks.zip vs) k = none)
  | [], [], _, _, .nil => ⟨fun d h => by simp [getD] at h, fun _ => by simp [valV]⟩
  | k0 :: ks, v0 :: vs, _, hl, .cons h t => by
    obtain ⟨h1, h2⟩ := valV_dr (k := k) (show ks.length = vs.length by simpa using hl) t
    by_cases e : k0 = k
    · subst e
      refine ⟨fun d hd => ?_, fun hd => ?_⟩
      · simp [getD] at hd
        subst hd
        exact ⟨v0, by simp [valV], h⟩
      · simp [getD] at hd
    · have e1 : ∀ (ds : List D) (d0 : D), getD (k0 :: ks) (d0 :: ds) k = getD ks ds k := fun ds d0 => by simp [getD, e]
      have e2 : valV ((k0 :: ks).zip (v0 :: vs)) k = valV (ks.zip vs) k := by simp [valV, e]
      rw [e2]
      exact ⟨fun d hd => h1 d (by rw [e1] at hd; exact hd), fun hd => h2 (by rw [e1] at hd; exact hd)⟩
  | [], _ :: _, _, hl, _ => by simp at hl
  | _ :: _, [], _, hl, _ => by simp at hl
def dinK (neg : Bool) (a b : Bool × D) : Option (Bool × D) := match b.2 with
  | .dic ks ds => (keyOf a.2).map fun k => (true, .bl (if neg then !(getD ks ds k).isSome else (getD ks ds k).isSome))
  | _ => none
def mDin (neg : Bool) (ma : M (Bool × D)) (mc : M Look) : M (Bool × D) := mBin (fun a b => mo (dinK neg a b)) (mE ma) mc
theorem din_core {neg : Bool} {a b : Bool × D} {x y : V} {z : Bool × D} (ia : Itm c G H a.1 x a.2) (ib : Itm c G H b.1 y b.2) (e : dinK neg a b = some z) : ∃ p o, y = .ref p ∧ DGet H p x o ∧ z = (true, .bl (if neg then !o.isSome else o.isSome)) := by
  obtain ⟨f, a⟩ := a
  obtain ⟨g, b⟩ := b
  cases b with
  | dic ks ds =>
    unfold dinK at e
    dsimp only at e
    obtain ⟨k, ek, rfl⟩ := omap e
    obtain ⟨p, vs, rfl, h1, hl, h2⟩ := ib.2
    have hk := keyOf_eq ia.1 ek
    subst hk
    refine ⟨p, _, rfl, DGet.k h1, ?_⟩
    obtain ⟨h3, h4⟩ := valV_dr (k := k) hl h2
    cases q : getD ks ds k with
    | none => rw [h4 q]; rfl
    | some d =>
      obtain ⟨v, h5, _⟩ := h3 d q
      rw [h5]; rfl
  | _ => cases e
theorem de_din {ty td : TE} {ma : M (Bool × D)} {mc : M Look} (ha : DE K W ty ma) (hb : DB K W td mc) : DE K W (tDIn ty td) (mDin false ma mc) := by
  intro c G H σ ρ T Q hK hl R p
  refine bin_core (ta := ty) (tb := td) ha.b hb hK hl R p fun a b x y G2 H2 ρ2 hl2 R2 s2 ia ib q => ?_
  cases e : dinK false a b with
  | none => rw [e] at q; exact q.elim
  | some z =>
    rw [e] at q
    obtain ⟨p, o, h1, h2, rfl⟩ := din_core ia ib e
    exact ⟨p, o, h1, h2, q hl2 G2 H2 R2 (Same.refl G2) _ (.bl _)⟩
theorem de_dnotin {ty td : TE} {ma : M (Bool × D)} {mc : M Look} (ha : DE K W ty ma) (hb : DB K W td mc) : DE K W (tDNotIn ty td) (mDin true ma mc) := by
  intro c G H σ ρ T Q hK hl R p
  refine bin_core (ta := ty) (tb := td) ha.b hb hK hl R p fun a b x y G2 H2 ρ2 hl2 R2 s2 ia ib q => ?_
  cases e : dinK true a b with
  | none => rw [e] at q; exact q.elim
  | some z =>
    rw [e] at q
    obtain ⟨p, o, h1, h2, rfl⟩ := din_core ia ib e
    exact ⟨p, o, h1, h2, q hl2 G2 H2 R2 (Same.refl G2) _ (.bl _)⟩
/-- d[k] = v of a dict of the call's own: where k stands it is set, else it comes last -/
def putD (ks : List Key) (ds : List D) (k : Key) (d : D) : List Key × List D :=
  if (ks.any fun k0 => decide (k0 = k)) = true then (ks, (ks.zip ds).map fun p => if p.1 = k then d else p.2) else (ks ++ [k], ds ++ [d])
theorem any_zip {k : Key} : ∀ {ks : List Key} {vs : List V}, ks.length = vs.length → ((ks.zip vs).any fun kv => decide (kv.1 = k)) = ks.any fun k0 => decide (k0 = k)
  | [], [], _ => rfl
  | a :: ks, v :: vs, h => by
    rw [List.zip_cons_cons, List.any_cons, List.any_cons, any_zip (by simpa using h)]
  | [], _ :: _, hl => by simp at hl
  | _ :: _, [], hl => by simp at hl
theorem set_dr {F : Addr → Prop} {k : Key} {v : V} {d : D} (hv : Dr K G F v d) : ∀ {ks : List Key} {vs : List V} {ds : List D}, ks.length = vs.length → DrA K G F vs ds →
    ∃ ws, (ks.zip vs).map (fun kv => if kv.1 = k then (kv.1, v) else kv) = ks.zip ws ∧ ks.length = ws.length ∧ DrA K G F ws ((ks.zip ds).map fun p => if p.1 = k then d else p.2)
  | [], [], _, _, .nil => ⟨[], rfl, rfl, .nil⟩
  | k0 :: ks, v0 :: vs, _, hl, .cons h t => by
    obtain ⟨ws, h1, h2, h3⟩ := set_dr (k := k) hv (show ks.length = vs.length by simpa using hl) t
    by_cases e : k0 = k
    · refine ⟨v :: ws, ?_, by simp [h2], ?_⟩
      · simp [e, h1]
      · simp only [List.zip_cons_cons, List.map_cons, e, if_true]
        exact .cons hv h3
    · refine ⟨v0 :: ws, ?_, by simp [h2], ?_⟩
      · simp [e, h1]
      · simp only [List.zip_cons_cons, List.map_cons, e, if_false]
        exact .cons h h3
  | [], _ :: _, _, hl, _ => by simp at hl
  | _ :: _, [], _, hl, _ => by simp at hl
theorem putK_dr {F : Addr → Prop} {k : Key} {v : V} {d : D} (hv : Dr K G F v d) {ks : List Key} {vs : List V} {ds : List D} (hl : ks.length = vs.length) (t : DrA K G F vs ds) :
    ∃ ws, putK (ks.zip vs) k v = (putD ks ds k d).1.zip ws ∧ (putD ks ds k d).1.length = ws.length ∧ DrA K G F ws (putD ks ds k d).2 := by
  unfold putD
  by_cases h : (ks.any fun k0 => decide (k0 = k)) = true
  · rw [if_pos h]
    obtain ⟨ws, h1, h2, h3⟩ := set_dr (k := k) hv hl t
    refine ⟨ws, ?_, h2, h3⟩
    unfold putK
    rw [any_zip hl, if_pos h]
    exact h1
  · rw [if_neg h]
    refine ⟨vs ++ [v], ?_, by simp [hl], t.append (.cons hv .nil)⟩
    unfold putK
    rw [any_zip hl, if_neg h, List.zip_append hl]
    rfl
def hasDct (i : Nat) (ρ : List Slot) : Bool := match ρ[i]? with
  | some (.dct _ _ _) => true
  | _ => false
def sGuard (b : List Slot → Bool) (s : S) : S := fun ρ => if b ρ = true then s ρ else .no
def putS (i : Nat) (v k : Bool × D) : S := fun ρ => match ρ[i]? with
  | some (.dct f ks ds) => (match keyOf k.2 with
    | some k => if ks.length < 100000 then .nx (ρ.set i (.dct ((f || flatDs ds) && (v.1 || flatD v.2)) (putD ks ds k v.2).1 (putD ks ds k v.2).2)) else .no
    | none => .no)
  | _ => .no
def sPut (i : Nat) (mk mv : M (Bool × D)) : S := sE mv fun v => sGuard (hasDct i) (sE mk (putS i v))
theorem hasDct_of {i : Nat} (hl : σ.length = ρ.length) (R : Rel c G H (σ.zip ρ ++ T)) (h : hasDct i ρ = true) : ∃ p, σ[i]? = some (some (V.ref p)) := by
  unfold hasDct at h
  cases e : ρ[i]? with
  | none => rw [e] at h; cases h
  | some s => cases s with
    | dct f ks ds =>
      obtain ⟨o, e1, e2⟩ := zip_get hl e
      obtain ⟨p, eo, _⟩ := R.sl _ (zip_mem (T := T) e2)
      cases eo
      exact ⟨p, e1⟩
    | _ => rw [e] at h; cases h
theorem ds_put (i : Nat) {ty tv : TE} {mk mv : M (Bool × D)} (hk : DE K W ty mk) (hv : DE K W tv mv) : DS K W (sDPut (tVar i) ty tv) (sPut i mk mv) := by
  intro c G H σ ρ E hK hl R p
  refine hv c G H σ ρ [] _ hK hl R (sE_post p fun a ρ1 G1 H1 hl1 R1 s1 q1 v r => ?_)
  unfold sGuard at q1
  by_cases hd : hasDct i ρ1 = true
  · rw [if_pos hd] at q1
    obtain ⟨p0, e1⟩ := hasDct_of hl1 R1 hd
    refine ⟨.ref p0, e1, ?_⟩
    refine hk c G1 H1 σ ρ1 [] _ hK hl1 R1 (sE_post q1 fun b ρ2 G2 H2 hl2 R2 s2 q2 y ry => ?_)
    unfold putS at q2
    cases e3 : ρ2[i]? with
    | none => rw [e3] at q2; exact q2.elim
    | some s => cases s with
      | dct f ks ds =>
        rw [e3] at q2
        dsimp only at q2
        cases e4 : keyOf b.2 with
        | none => rw [e4] at q2; exact q2.elim
        | some k =>
          rw [e4] at q2
          dsimp only at q2
          by_cases hz : ks.length < 100000
          · rw [if_pos hz] at q2
            obtain ⟨o', e5, e6⟩ := zip_get hl2 e3
            have eo : o' = some (.ref p0) := Option.some.inj (e5.symm.trans e1)
            subst eo
            have R3 := R2.out e6
            obtain ⟨p1, eq, g1, h1, ⟨h0, vs, h2, hl3, hda⟩, _⟩ := R3.head rfl
            cases eq
            subst hK
            have ey := keyOf_eq ry e4
            subst ey
            obtain ⟨ws, w1, w2, w3⟩ := putK_dr (k := k) (F := Fl c ((f || flatDs ds) && (a.1 || flatD a.2))) ((r.up s2).fl.low') hl3 (hda.fl.low)
            refine ⟨p0, _, rfl, DPut.k h2 (by rw [List.length_zip]; exact Nat.lt_of_le_of_lt (Nat.min_le_left _ _) (Nat.lt_of_lt_of_le hz (by decide))), ?_⟩
            rw [w1]
            have R4 := R3.mutO (s' := .dct ((f || flatDs ds) && (a.1 || flatD a.2)) (putD ks ds k a.2).1 (putD ks ds k a.2).2) rfl rfl (.inr h0) ⟨h0, ws, upd_same, w2, w3⟩
            exact q2 σ G2 _ rfl (by rw [List.length_set]; exact hl2) (Rel.back' hl2 e5 R4) (Same.refl G2)
          · rw [if_neg hz] at q2
            exact q2.elim
      | _ => rw [e3] at q2; exact q2.elim
  · rw [if_neg hd] at q1
    exact q1.elim
theorem dd_disp1 {tk tv : TE} {mk mv : M (Bool × D)} (hk : DE K W tk mk) (hv : DE K W tv mv) : DD K W (tDisp [(tk, tv)]) (mDisp1 mk mv) := by
  intro c G H σ ρ T Q hK hl R p q nq
  have R0 := R.new0 (o := .dK []) nq
  have P : Post c G ((some (V.ref q), Slot.dct true [] []) :: T) σ W _ (mDisp1 mk mv ρ) := p.more
  have R1 : Rel c G (upd H q (.dK [])) ((some (.ref q), .dct true [] []) :: (σ.zip ρ ++ T)) := R.newHeld nq rfl ⟨R.h0 nq, [], by rw [upd_same]; rfl, rfl, .nil⟩
  refine hk c G _ σ ρ ((some (V.ref q), Slot.dct true [] []) :: T) _ hK hl (mid_in R1) (Post.imp (Post.bind P) fun a ρ1 G1 H1 hl1 R2 s1 q1 v r => ?_)
  refine hv c G1 H1 σ ρ1 _ _ hK hl1 R2 (Post.imp (Post.bind q1) fun b ρ2 G2 H2 hl2 R3 s2 q2 w r2 => ?_)
  obtain ⟨q', eq, g1, h1, ⟨h0, vs, h2, hl3, hda⟩, _⟩ := (mid_out R3).head rfl
  cases eq
  cases hda
  show tPairs [] σ H2 _
  refine ⟨h2, ?_⟩
  cases e : keyOf a.2 with
  | none => rw [e] at q2; exact q2.elim
  | some k =>
    rw [e] at q2
    subst hK
    have ek := keyOf_eq r e
    subst ek
    refine ⟨[(k, w)], rfl, by show 1 ≤ 15; decide, ?_⟩
    have R4 := (mid_out R3).mutO (s' := .dct (b.1 || flatD b.2) [k] [b.2]) (u := .dK (mergeK [] [(k, w)])) rfl rfl (.inr h0) ⟨h0, [w], by rw [upd_same]; rfl, rfl, .cons r2.fl .nil⟩
    exact q2 hl2 G2 H2 R3 (Same.refl G2) q _ R4
/-! ### repr, and == of what it gives -/
def shownOk (e : PyData) : Prop := e.showable = true ∧ e.hasDict = false ∧ e.depth ≤ 20 ∧ e.shown.length ≤ 1000000
instance (e : PyData) : Decidable (shownOk e) := inferInstanceAs (Decidable (_ ∧ _ ∧ _ ∧ _))
/-! ### max, min of two -/
/-! ### x = [.. for ..] at once -/
theorem ds_setLc {te : TE} {i : Nat} {m : M (Bool × List D)} (h : DL K W te m) : DS K W (tAsg te (gName i)) (sSet i (mKeep m)) := ds_set h.e
/-! ### pool[i] = v -/
def poolS (i : Nat) (v k : Bool × D) : S := fun ρ => match ρ[i]? with
  | some (.pool ns) => (match k.2, v.2 with
    | .int j, .int z => (match ixN ns.length j with
      | some j => .nx (ρ.set i (.pool (ns.set j z)))
      | none => .no)
    | _, _ => .no)
  | _ => .no
def sPoolSet (i : Nat) (mi mv : M (Bool × D)) : S := sE mv fun v => sGuard (hasPool i) (sE mi (poolS i v))
theorem ds_poolSet {i : Nat} {ti tv : TE} {mi mv : M (Bool × D)} (hi : DE K W ti mi) (hv : DE K W tv mv) : DS K W (tAsg tv (gSub (tVar i) ti rSetL)) (sPoolSet i mi mv) := by
  intro c G H σ ρ E hK hl R p
  refine hv c G H σ ρ [] _ hK hl R (sE_post p fun a ρ1 G1 H1 hl1 R1 s1 q1 v r => ?_)
  unfold sGuard at q1
  by_cases hd : hasPool i ρ1 = true
  · rw [if_pos hd] at q1
    obtain ⟨p0, ns0, e1, e2⟩ := hasPool_of hl1 R1 hd
    refine ⟨.ref p0, e1, ?_⟩
    refine hi c G1 H1 σ ρ1 [] _ hK hl1 R1 (sE_post q1 fun b ρ2 G2 H2 hl2 R2 s2 q2 y ry => ?_)
    unfold poolS at q2
    cases e3 : ρ2[i]? with
    | none => rw [e3] at q2; exact q2.elim
    | some s => cases s with
      | pool ns =>
        rw [e3] at q2
        dsimp only at q2
        obtain ⟨o', e5, e6⟩ := zip_get hl2 e3
        have eo : o' = some (.ref p0) := Option.some.inj (e5.symm.trans e1)
        subst eo
        have R3 := R2.out e6
        obtain ⟨p1, eq, g1, h1, ⟨hio, h2⟩, _⟩ := R3.head rfl
        cases eq
        obtain ⟨fa, a⟩ := a
        obtain ⟨fb, b⟩ := b
        dsimp only at q2 r ry
        cases b with
        | int j => cases a with
          | int z =>
            cases r
            cases ry
            dsimp only at q2
            cases e7 : ixN ns.length j with
            | none => rw [e7] at q2; exact q2.elim
            | some j' =>
              rw [e7] at q2
              refine ⟨p0, _, j, j', rfl, rfl, h2, by rw [List.length_map]; exact e7, ?_⟩
              have R4 := R3.mutO (s' := .pool (ns.set j' z)) (u := .lst ((ns.map V.int).set j' (.int z))) rfl rfl (.inl hio) ⟨hio, by rw [upd_same, List.map_set]⟩
              exact q2 σ G2 _ rfl (by rw [List.length_set]; exact hl2) (Rel.back' hl2 e5 R4) (Same.refl G2)
          | _ => exact q2.elim
        | _ => cases a <;> exact q2.elim
      | _ => rw [e3] at q2; exact q2.elim
  · rw [if_neg hd] at q1
    exact q1.elim
end
end Da
end F30
section F31
namespace Da
open PySem PySem.Spec PyProof.Rows L2 He Ds
/-! ### a def called by names alone -/
section
variable {X : Cx} {CX : CXT} {k j : Nat} {x : Str} {ps ks : List Str} {ix : List Nat} {sp : Sp} {E : L2.St → XK} {W : WX} {p pos : Pos} {kws : List Keyword} {t : TA}
end
section
variable {K : PySem.W.Frag} {W : WX}
end
end Da
end F31
section F32
namespace Da
open PySem PySem.Spec PyProof.Rows L2 He Ds
section
variable {K : PySem.W.Frag} {W : WX} {c : Cc} {G H : Hp} {σ : L2.St} {ρ : List Slot} {T : List En}
/-! ### [.. for .. in .. for .. in ..] -/
def innerD (vs1 : List Nat) (t1 : Tgt) (tt1 : M Bool) (te : M (Bool × D)) : List (Bool × D) → Bool → List D → List Slot → Res (Bool × List D)
  | [], f, acc, ρ => .ok (f, acc) ρ
  | a :: as, f, acc, ρ => match t1 a ρ with
    | none => .no
    | some ρ1 => match tt1 ρ1 with
      | .ok true ρ2 => (match te ρ2 with
        | .ok b ρ3 => if acc.length < 100000 then innerD vs1 t1 tt1 te as (f && (b.1 || flatD b.2)) (acc ++ [b.2]) (wipeS ρ3 vs1) else .no
        | _ => .no)
      | .ok false ρ2 => innerD vs1 t1 tt1 te as f acc (wipeS ρ2 vs1)
      | _ => .no
def comp2D (vs : List Nat) (t : Tgt) (tt : M Bool) (vs1 : List Nat) (mi1 : M (List (Bool × D))) (t1 : Tgt) (tt1 : M Bool) (te : M (Bool × D)) (ρ0 : List Slot) : List (Bool × D) → Bool → List D → List Slot → Res (Bool × List D)
  | [], f, acc, ρ => .ok (f, acc) (unw ρ0 vs ρ)
  | a :: as, f, acc, ρ => match t a ρ with
    | none => .no
    | some ρ1 => match tt ρ1 with
      | .ok true ρ2 => (match mi1 ρ2 with
        | .ok its1 ρ3 => (match innerD vs1 t1 tt1 te its1 f acc (wipeS ρ3 vs1) with
          | .ok b ρ4 => comp2D vs t tt vs1 mi1 t1 tt1 te ρ0 as b.1 b.2 (wipeS ρ4 vs)
          | _ => .no)
        | _ => .no)
      | .ok false ρ2 => comp2D vs t tt vs1 mi1 t1 tt1 te ρ0 as f acc (wipeS ρ2 vs)
      | _ => .no
def mComp2 (vs : List Nat) (mi : M (List (Bool × D))) (t : Tgt) (tt : M Bool) (vs1 : List Nat) (mi1 : M (List (Bool × D))) (t1 : Tgt) (tt1 : M Bool) (te : M (Bool × D)) : M (Bool × List D) := mb mi fun its => fun ρ => comp2D vs t tt vs1 mi1 t1 tt1 te ρ its true [] (wipeS ρ vs)
theorem wipeS_rel {σ2 σw : L2.St} {ρ3 : List Slot} {vs : List Nat} (l3 : σ2.length = ρ3.length) (ew : L2.wipe σ2 vs = σw) (R : Rel c G H (σ2.zip ρ3 ++ T)) : Rel c G H (σw.zip (wipeS ρ3 vs) ++ T) := by
  have R4 := Rel.wipe l3 vs R
  rw [ew] at R4
  exact R4.subl ((List.sublist_append_right _ _).append_left _)
theorem dl_lc2 {wi wi1 : TI} {g g1 : TG} {tt tt1 : TT} {te : TE} {vs tv vs1 tv1 : List Nat} {mi mi1 : M (List (Bool × D))} {t t1 : Tgt} {mt mt1 : M Bool} {me : M (Bool × D)} (hi : DI K W wi mi) (hg : DG K tv g t) (hv : ∀ i ∈ tv, i ∈ vs) (ht : DT K W tt mt)
    (hi1 : DI K W wi1 mi1) (hg1 : DG K tv1 g1 t1) (hv1 : ∀ i ∈ tv1, i ∈ vs1) (hs : ∀ i ∈ vs1, i ∈ vs) (ht1 : DT K W tt1 mt1) (he : DE K W te me) : DL K W (tLc2 wi g tt wi1 g1 tt1 te vs vs1) (mComp2 vs mi t mt vs1 mi1 t1 mt1 me) := by
  intro c G H σ ρ T Q hK hl R p
  refine hi c G H σ ρ T _ hK hl R (Post.imp (Post.bind p) fun its ρ1 G1 H1 hl1 R1 s1 q J hJ => ?_)
  intro D nD
  subst hK
  let PP : Hp → Res (Bool × List Da.D) → Prop := fun Gc r => Post c Gc T σ W (fun a ρ' G' H' => ∀ p vs H2, Rel c G' H2 ((some (.ref p), .own a.1 a.2) :: (σ.zip ρ' ++ T)) → H2 p = some (.lst vs) → Q (.ref p) H2) r
  let E0 : List En := savedE σ ρ1 vs ++ T
  obtain ⟨Wv, hW⟩ : ∃ Wv : Nat → Nat → Hp → Prop, Wv = fun i m Hc => m = its.length - i ∧ i ≤ its.length ∧ ∃ (Gc : Hp) (f : Bool) (acc : List Da.D) (ρc : List Slot), Same G1 Gc ∧ ρc.length = ρ1.length ∧
    Rel c Gc Hc ((some (.ref D), .own f acc) :: ((L2.wipe σ vs).zip ρc ++ E0)) ∧ PP Gc (comp2D vs t mt vs1 mi1 t1 mt1 me ρ1 (its.drop i) f acc ρc) := ⟨_, rfl⟩
  refine ⟨Wv, ⟨its.length, ?_⟩, fun i m Hc hw => ?_⟩
  · rw [hW]
    refine ⟨rfl, Nat.zero_le _, G1, true, [], wipeS ρ1 vs, Same.refl _, wipeS_len _ _, ?_, q⟩
    exact Rel.newOwn (R1.wipe hl1 vs) nD .nil
  · rw [hW] at hw
    obtain ⟨em, hin, Gc, f, acc, ρc, sG, hlc, Rc, P⟩ := hw
    obtain ⟨h1, h2⟩ := hJ i Gc Hc _ Rc (fun _ z => absurd z List.not_mem_nil) sG
    by_cases hlt : i < its.length
    · have ea : its[i]? = some its[i] := List.getElem?_eq_getElem hlt
      obtain ⟨hgo, hy⟩ := h1 _ ea
      rw [List.drop_eq_getElem_cons hlt] at P
      generalize its[i] = a at ea hy P
      refine .inr ⟨hgo, Wv (i + 1) (its.length - (i + 1)), fun H' w => ⟨_, by omega, w⟩, fun x H' yl => ?_⟩
      obtain ⟨Gn, k1, k2, k3, k4, hx⟩ := hy x H' yl
      have Rn := Rc.grow k1 k2 k3 k4
      unfold comp2D at P
      cases e1 : t a ρc with
      | none => rw [e1] at P; exact P.elim
      | some ρd =>
        rw [e1] at P
        dsimp only at P
        have hwl : (L2.wipe σ vs).length = ρc.length := by rw [wipe_length, hl1, hlc]
        refine hg c Gn H' (L2.wipe σ vs) ρc ρd _ x a _ rfl hwl (mid_in Rn) hx e1 fun σ2 l1 l2 k5 R2 => ⟨wipe_eq (by rw [l2, wipe_length]) fun j hj => k5 j fun z => hj (hv j z), ?_⟩
        have l2' : σ2.length = σ.length := by rw [l2, wipe_length]
        have ew : L2.wipe σ2 vs = L2.wipe σ vs := wipe_eq l2' fun j hj => k5 j fun z => hj (hv j z)
        have fin : ∀ (G3 H3 : Hp) (f' : Bool) (acc' : List Da.D) (σ3 : L2.St) (ρ3 : List Slot), Same Gn G3 → σ3.length = ρ3.length → σ3.length = σ.length → L2.wipe σ3 vs = L2.wipe σ vs → Rel c G3 H3 (σ3.zip ρ3 ++ ((some (.ref D), .own f' acc') :: E0)) →
            PP Gc (comp2D vs t mt vs1 mi1 t1 mt1 me ρ1 (its.drop (i + 1)) f' acc' (wipeS ρ3 vs)) → Wv (i + 1) (its.length - (i + 1)) H3 := by
          intro G3 H3 f' acc' σ3 ρ3 s3 l3 l3' ew3 R3 P3
          rw [hW]
          exact ⟨rfl, hlt, G3, f', acc', wipeS ρ3 vs, (sG.trans k2).trans s3, by rw [wipeS_len, ← l3, l3', hl1], mid_out (wipeS_rel l3 ew3 R3), P3.later (k2.trans s3)⟩
        have step : Post c Gn ((some (.ref D), .own f acc) :: E0) σ2 W (fun b ρ2 G3 H3 => if b = true then wi1 σ2 H3 (fun J1 H4 => ∃ W1 : Nat → Nat → Hp → Prop, (∃ m, W1 0 m H4) ∧ ∀ j k H, W1 j k H →
            (J1.stop j H ∧ Wv (i + 1) (its.length - (i + 1)) H) ∨ (J1.go j H ∧ ∃ Nx1 : Hp → Prop, (∀ H', Nx1 H' → ∃ k', k' < k ∧ W1 (j + 1) k' H') ∧ ∀ x H', J1.yld j H x H' → g1 x (L2.wipe σ2 vs1) H' fun σ3 H5 => L2.wipe σ3 vs1 = L2.wipe σ2 vs1 ∧ tt1 σ3 H5 fun b H6 =>
              if b = true then te σ3 H6 fun y H7 => ∃ acc, H7 D = some (.lst acc) ∧ acc.length < sizeLine ∧ Nx1 (upd H7 D (.lst (acc ++ [y]))) else Nx1 H6)) else Wv (i + 1) (its.length - (i + 1)) H3) (mt ρd) := by
          cases e2 : mt ρd with
          | no => rw [e2] at P; exact P.elim
          | er _ _ _ => rw [e2] at P; exact P.elim
          | ok b ρ2 =>
            rw [e2] at P
            intro l3 G3 H3 R3 s3
            cases b with
            | false => exact iteF (fin G3 H3 f acc σ2 ρ2 s3 l3 l2' ew R3 P)
            | true =>
              refine iteT ?_
              dsimp only at P
              refine hi1 c G3 H3 σ2 ρ2 _ _ rfl l3 R3 ?_
              cases e3 : mi1 ρ2 with
              | no => rw [e3] at P; exact P.elim
              | er _ _ _ => rw [e3] at P; exact P.elim
              | ok its1 ρ3 =>
                rw [e3] at P
                dsimp only at P
                intro l4 G4 H4 R4 s4 J1 hJ1
                -- the inner loop
                let sq : Res (Bool × List Da.D) → Res (Bool × List Da.D) := fun r => match r with
                  | .ok b ρ4 => comp2D vs t mt vs1 mi1 t1 mt1 me ρ1 (its.drop (i + 1)) b.1 b.2 (wipeS ρ4 vs)
                  | _ => .no
                obtain ⟨W1, hW1⟩ : ∃ W1 : Nat → Nat → Hp → Prop, W1 = fun j m Hj => m = its1.length - j ∧ j ≤ its1.length ∧ ∃ (Gj : Hp) (f' : Bool) (acc' : List Da.D) (ρj : List Slot), Same G4 Gj ∧ ρj.length = ρ1.length ∧
                  Rel c Gj Hj ((L2.wipe σ2 vs1).zip ρj ++ ((some (.ref D), .own f' acc') :: E0)) ∧ PP Gc (sq (innerD vs1 t1 mt1 me (its1.drop j) f' acc' ρj)) := ⟨_, rfl⟩
                refine ⟨W1, ⟨its1.length, ?_⟩, fun j m Hj hw1 => ?_⟩
                · rw [hW1]
                  exact ⟨rfl, Nat.zero_le _, G4, f, acc, wipeS ρ3 vs1, Same.refl _, by rw [wipeS_len, ← l4, l2', hl1], wipeS_rel l4 rfl R4, P⟩
                · rw [hW1] at hw1
                  obtain ⟨em1, hin1, Gj, f', acc', ρj, sj, hlj, Rj, Pj⟩ := hw1
                  obtain ⟨i1, i2⟩ := hJ1 j Gj Hj _ Rj (fun _ z => absurd z List.not_mem_nil) sj
                  have gG : Same Gn Gj := (s3.trans s4).trans sj
                  have wl1 : (L2.wipe σ2 vs1).length = ρj.length := by rw [wipe_length, l2', hl1, hlj]
                  by_cases hlt1 : j < its1.length
                  · have eb : its1[j]? = some its1[j] := List.getElem?_eq_getElem hlt1
                    obtain ⟨hgo1, hy1⟩ := i1 _ eb
                    rw [List.drop_eq_getElem_cons hlt1] at Pj
                    generalize its1[j] = a1 at eb hy1 Pj
                    refine .inr ⟨hgo1, W1 (j + 1) (its1.length - (j + 1)), fun H' w => ⟨_, by omega, w⟩, fun x1 H5 yl1 => ?_⟩
                    obtain ⟨Gm, m1, m2, m3, m4, hx1⟩ := hy1 x1 H5 yl1
                    have Rm := Rj.grow m1 m2 m3 m4
                    unfold innerD at Pj
                    cases e4 : t1 a1 ρj with
                    | none => rw [e4] at Pj; exact Pj.elim
                    | some ρk =>
                      rw [e4] at Pj
                      dsimp only at Pj
                      refine hg1 c Gm H5 (L2.wipe σ2 vs1) ρj ρk _ x1 a1 _ rfl wl1 Rm hx1 e4 fun σ3 n1 n2 n5 R5 => ?_
                      have n2' : σ3.length = σ2.length := by rw [n2, wipe_length]
                      have ew1 : L2.wipe σ3 vs1 = L2.wipe σ2 vs1 := wipe_eq n2' fun z hz => n5 z fun y => hz (hv1 z y)
                      refine ⟨ew1, ?_⟩
                      have fin1 : ∀ (G6 H6 : Hp) (f6 : Bool) (acc6 : List Da.D) (ρ6 : List Slot), Same Gm G6 → σ3.length = ρ6.length → Rel c G6 H6 (σ3.zip ρ6 ++ ((some (.ref D), .own f6 acc6) :: E0)) →
                          PP Gc (sq (innerD vs1 t1 mt1 me (its1.drop (j + 1)) f6 acc6 (wipeS ρ6 vs1))) → W1 (j + 1) (its1.length - (j + 1)) H6 := by
                        intro G6 H6 f6 acc6 ρ6 s6 l6 R6 P6
                        rw [hW1]
                        exact ⟨rfl, hlt1, G6, f6, acc6, wipeS ρ6 vs1, (sj.trans m2).trans s6, by rw [wipeS_len, ← l6, n2', l2', hl1], wipeS_rel l6 ew1 R6, P6⟩
                      refine ht1 c Gm H5 σ3 ρk _ _ rfl n1 R5 ?_
                      cases e5 : mt1 ρk with
                      | no => rw [e5] at Pj; exact Pj.elim
                      | er _ _ _ => rw [e5] at Pj; exact Pj.elim
                      | ok b1 ρ5 =>
                        rw [e5] at Pj
                        intro l7 G7 H7 R7 s7
                        cases b1 with
                        | false => exact iteF (fin1 G7 H7 f' acc' ρ5 s7 l7 R7 Pj)
                        | true =>
                          refine iteT ?_
                          dsimp only at Pj
                          refine he c G7 H7 σ3 ρ5 _ _ rfl l7 R7 ?_
                          cases e6 : me ρ5 with
                          | no => rw [e6] at Pj; exact Pj.elim
                          | er _ _ _ => rw [e6] at Pj; exact Pj.elim
                          | ok b2 ρ6 =>
                            rw [e6] at Pj
                            dsimp only at Pj
                            by_cases hz : acc'.length < 100000
                            · rw [if_pos hz] at Pj
                              intro l8 G8 H8 R8 s8 y hy8
                              obtain ⟨pq, eq, _, _, ⟨_, ys, hys, hda⟩, _⟩ := (mid_out R8).head rfl
                              cases eq
                              refine ⟨ys, hys, by rw [hda.len]; exact Nat.lt_of_lt_of_le hz (by decide), ?_⟩
                              refine fin1 G8 _ (f' && (b2.1 || flatD b2.2)) (acc' ++ [b2.2]) ρ6 (s7.trans s8) l8 (mid_in ((mid_out R8).mut ?_)) Pj
                              exact (hda.low).append (.cons hy8.fl.low' .nil)
                            · rw [if_neg hz] at Pj
                              exact Pj.elim
                  · refine .inl ⟨i2 (by omega), ?_⟩
                    rw [List.drop_eq_nil_of_le (by omega)] at Pj
                    unfold innerD at Pj
                    refine fin Gj Hj f' acc' (L2.wipe σ2 vs1) ρj gG wl1 (by rw [wipe_length, l2']) (wipe_eq (by rw [wipe_length, l2']) fun z hz => ?_) Rj Pj
                    rw [wipe_get _ _ _ (fun y => hz (hs z y)), k5 z (fun y => hz (hv z y))]
        exact ht c Gn H' σ2 ρd _ _ rfl l1 R2 step
    · refine .inl ⟨h2 (by omega), ?_⟩
      rw [List.drop_eq_nil_of_le (by omega)] at P
      unfold comp2D at P
      obtain ⟨pq, eq, _, _, ⟨_, ys, hys, hda⟩, _⟩ := Rc.head rfl
      cases eq
      have hlu : σ.length = (unw ρ1 vs ρc).length := by rw [unw_len, hlc, hl1]
      have R5 : Rel c Gc Hc (σ.zip (unw ρ1 vs ρc) ++ ((some (.ref D), .own f acc) :: T)) := by
        refine Rel.unwipe hl1 vs ρc hlc ?_
        refine (mid_in Rc).perm ?_
        refine List.Perm.append_left _ ?_
        exact List.perm_middle
      exact P hlu Gc Hc (R5.subl ((List.sublist_cons_self _ _).append_left _)) (Same.refl _) D ys Hc (mid_out R5) hys
/-! ### a, b = e, f by a tuple that is made and taken apart -/
def gNames : List Nat → TGs
  | [] => gNil
  | i :: is => gCons (gName i) (gNames is)
theorem gNames_ok : ∀ {is : List Nat} {vs : List V} {σ : L2.St} {H : Hp} {Q : L2.St → Hp → Prop}, is.length = vs.length → Q (setV is vs σ) H → gNames is vs σ H Q
  | [], [], σ, H, Q, _, h => ⟨rfl, h⟩
  | i :: is, v :: vs, σ, H, Q, hl, h => ⟨v, vs, rfl, gNames_ok (by simpa using hl) h⟩
  | [], _ :: _, _, _, _, hl, _ => by simp at hl
  | _ :: _, [], _, _, _, hl, _ => by simp at hl
theorem ds_tupPar {is : List Nat} {n : Nat} {ta : TA} {ma : M (List Slot)} (ha : DA K W ta ma) (hn : is.length = n := by rfl) (hs : n ≤ 1000 := by decide) : DS K W (tAsg (tTup ta) (gTup K n (gNames is))) (sPar is ma) := by
  intro c G H σ ρ E hK hl R p
  refine ha c G H σ ρ [] _ hK hl R (sE_post p fun ss ρ' G' H' hl' R' s q vs hv R2 => ?_)
  cases e : setAll is ss ρ' with
  | none => rw [e] at q; exact q.elim
  | some ρ2 =>
    rw [e] at q
    have hlen : is.length = vs.length := (setAll_ok hv hl' R2 e).2.2.2
    refine ⟨by rw [← hlen, hn]; exact Nat.le_trans hs (by decide), fun a na => ?_⟩
    have R3 := R2.new0 (o := .tup vs) na
    obtain ⟨h1, h2, h3, h4⟩ := setAll_ok hv hl' R3 e
    subst hK
    exact ⟨a, vs, rfl, SqT.of upd_same, by rw [← hlen, hn], gNames_ok hlen (q _ G' _ h2 (h2.trans (hl'.trans h3.symm)) h1 (Same.refl G'))⟩
end
end Da
end F32
section F33
namespace Da
open PySem PySem.Spec PyProof.Rows L2 He Ds
/-! ### data of texts -/
abbrev sL (xs : List Str) : D := .lst (xs.map D.str)
abbrev prD (p : Pr) : D := .tup [.str p.1, .str p.2]
abbrev pL (ps : List Pr) : D := .lst (ps.map prD)
abbrev sLL (xss : List (List Str)) : D := .lst (xss.map sL)
theorem toPys_strs : ∀ xs : List Str, toPys (xs.map D.str) = some (xs.map PyData.str)
  | [] => rfl
  | x :: xs => by simp [toPys, toPy, toPys_strs xs]
theorem toPy_strs (xs : List Str) : toPy (sL xs) = some (dStr xs) := by simp [toPy, toPys_strs]
theorem toPy_pr (p : Pr) : toPy (prD p) = some (dPr p) := by simp [toPy, toPys]
theorem toPys_prs : ∀ xs : List Pr, toPys (xs.map prD) = some (xs.map dPr)
  | [] => rfl
  | x :: xs => by
    rw [List.map_cons, toPys, toPy_pr, toPys_prs xs]; rfl
theorem toPys_strss : ∀ xs : List (List Str), toPys (xs.map sL) = some (xs.map dStr)
  | [] => rfl
  | x :: xs => by
    rw [List.map_cons, toPys, toPy_strs, toPys_strss xs]; rfl
theorem toPy_strss (xs : List (List Str)) : toPy (sLL xs) = some (.list (xs.map dStr)) := by
  show (toPys _).map _ = _
  rw [toPys_strss]; rfl
theorem depth_strss : ∀ xs : List (List Str), PyData.depthAll (xs.map dStr) ≤ 2
  | [] => by simp [PyData.depthAll]
  | x :: xs => by
    have h1 := depth_strss xs
    have h2 := depth_strs x
    rw [List.map_cons]
    simp only [PyData.depthAll, PyData.depth]
    omega
theorem dAny_strs (x : Str) (xs : List Str) : dAny (.str x) (sL xs) = some (decide (x ∈ xs)) := by
  unfold dAny
  simp only [toPy, toPys_strs]
  have h := depth_strs xs
  rw [if_pos ⟨by simp [PyData.depth], by simp only [PyData.depth]; omega⟩]
  congr 1
  induction xs with
  | nil => rfl
  | cons y ys ih =>
    rw [List.map_cons, List.any_cons, ih (by have := depth_strs ys; omega)]
    by_cases e : x = y
    · subst e; simp [PyData.eqv]
    · have e2 : ¬ y = x := fun z => e z.symm
      simp [PyData.eqv, e, e2]
theorem in_strs (x : Str) (xs : List Str) : dIn (.str x) (sL xs) = some (.bl (decide (x ∈ xs))) := by
  unfold dIn; rw [dAny_strs]; rfl
theorem notIn_strs (x : Str) (xs : List Str) : dNotIn (.str x) (sL xs) = some (.bl (!decide (x ∈ xs))) := by
  unfold dNotIn; rw [dAny_strs]; rfl
theorem dAny_prs (p : Pr) (ps : List Pr) : dAny (prD p) (pL ps) = some (decide (p ∈ ps)) := by
  unfold dAny
  dsimp only
  rw [toPy_pr, toPys_prs]
  dsimp only
  have h := depth_prs ps
  rw [if_pos ⟨by simp [PyData.depth, PyData.depthAll], by simp only [PyData.depth]; omega⟩, any_prs]
theorem in_prs (p : Pr) (ps : List Pr) : dIn (prD p) (pL ps) = some (.bl (decide (p ∈ ps))) := by
  unfold dIn; rw [dAny_prs]; rfl
theorem eqv_str (x y : Str) : PyData.eqv (.str x) (.str y) = decide (x = y) := by
  by_cases h : x = y
  · subst h; simp [PyData.eqv]
  · simp [PyData.eqv, h]
theorem eqv_int (x y : Int) : PyData.eqv (.int x) (.int y) = decide (x = y) := by
  by_cases h : x = y
  · subst h; simp [PyData.eqv]
  · simp [PyData.eqv, h]
theorem eqv_bool (x y : Bool) : PyData.eqv (.bool x) (.bool y) = (x == y) := by simp [PyData.eqv]
theorem dEqv_str (x y : Str) : dEqv (.str x) (.str y) = some (decide (x = y)) := by
  unfold dEqv; simp only [toPy, PyData.depth]; rw [eqv_str]; rfl
theorem dEqv_int (x y : Int) : dEqv (.int x) (.int y) = some (decide (x = y)) := by
  unfold dEqv; simp only [toPy, PyData.depth]; rw [eqv_int]; rfl
theorem dEqv_bl (x y : Bool) : dEqv (.bl x) (.bl y) = some (x == y) := by
  unfold dEqv; simp only [toPy, PyData.depth]; rw [eqv_bool]; rfl
theorem eq_str (x y : Str) : dEq (.str x) (.str y) = some (.bl (decide (x = y))) := by unfold dEq; rw [dEqv_str]; rfl
theorem ne_str (x y : Str) : dNe (.str x) (.str y) = some (.bl (!decide (x = y))) := by unfold dNe; rw [dEqv_str]; rfl
theorem eq_int (x y : Int) : dEq (.int x) (.int y) = some (.bl (decide (x = y))) := by unfold dEq; rw [dEqv_int]; rfl
theorem ne_int (x y : Int) : dNe (.int x) (.int y) = some (.bl (!decide (x = y))) := by unfold dNe; rw [dEqv_int]; rfl
theorem eq_bl (x y : Bool) : dEq (.bl x) (.bl y) = some (.bl (x == y)) := by unfold dEq; rw [dEqv_bl]; rfl
theorem ne_bl (x y : Bool) : dNe (.bl x) (.bl y) = some (.bl (!(x == y))) := by unfold dNe; rw [dEqv_bl]; rfl
theorem dEqv_mk {a b : D} {x y : PyData} (h1 : toPy a = some x) (h2 : toPy b = some y) (d1 : x.depth ≤ 60) (d2 : y.depth ≤ 60) : dEqv a b = some (PyData.eqv x y) := by
  unfold dEqv
  rw [h1, h2]
  exact if_pos ⟨d1, d2⟩
theorem depth_sL (xs : List Str) : (Ds.dStr xs).depth ≤ 60 := by
  have h1 := depth_strs xs
  simp only [PyData.depth]
  omega
theorem depth_sLL (xs : List (List Str)) : (PyData.list (xs.map Ds.dStr)).depth ≤ 60 := by
  have h1 := depth_strss xs
  simp only [PyData.depth]
  omega
theorem dEqv_strs (xs ys : List Str) : dEqv (sL xs) (sL ys) = some (decide (xs = ys)) := by
  rw [dEqv_mk (toPy_strs xs) (toPy_strs ys) (depth_sL xs) (depth_sL ys), eqv_strs]
theorem eq_strs (xs ys : List Str) : dEq (sL xs) (sL ys) = some (.bl (decide (xs = ys))) := by unfold dEq; rw [dEqv_strs]; rfl
theorem ne_strs (xs ys : List Str) : dNe (sL xs) (sL ys) = some (.bl (!decide (xs = ys))) := by unfold dNe; rw [dEqv_strs]; rfl
theorem eqvAll_strss : ∀ xs ys : List (List Str), PyData.eqvAll (xs.map dStr) (ys.map dStr) = decide (xs = ys)
  | [], [] => by simp [PyData.eqvAll]
  | [], y :: ys => by simp [PyData.eqvAll]
  | x :: xs, [] => by simp [PyData.eqvAll]
  | x :: xs, y :: ys => by
    rw [List.map_cons, List.map_cons, PyData.eqvAll, eqvAll_strss xs ys, eqv_strs]
    by_cases h : x = y
    · subst h; simp
    · simp [h]
theorem dEqv_strss (xs ys : List (List Str)) : dEqv (sLL xs) (sLL ys) = some (decide (xs = ys)) := by
  rw [dEqv_mk (toPy_strss xs) (toPy_strss ys) (depth_sLL xs) (depth_sLL ys), PyData.eqv, eqvAll_strss]
theorem eq_strss (xs ys : List (List Str)) : dEq (sLL xs) (sLL ys) = some (.bl (decide (xs = ys))) := by unfold dEq; rw [dEqv_strss]; rfl
theorem flat_strs : ∀ xs : List Str, flatDs (xs.map D.str) = true
  | [] => rfl
  | x :: xs => by rw [List.map_cons, flatDs, flat_strs xs]; rfl
theorem flat_prs : ∀ xs : List Pr, flatDs (xs.map prD) = true
  | [] => rfl
  | x :: xs => by rw [List.map_cons, flatDs, flat_prs xs]; rfl
/-! ### comprehensions without a change of anything -/
/-! ### loops by an invariant -/
theorem for_inv {t : Tgt} {b : S} (I : Nat → List Slot → Prop) : ∀ {its : List (Bool × D)} {k : Nat} {ρ : List Slot}, I k ρ → (∀ i a ρ, its[i]? = some a → I (k + i) ρ → ∃ ρ1 ρ2, t a ρ = some ρ1 ∧ b ρ1 = .nx ρ2 ∧ I (k + i + 1) ρ2) →
    ∃ ρ', forD t b its ρ = .nx ρ' ∧ I (k + its.length) ρ'
  | [], k, ρ, h, _ => ⟨ρ, rfl, h⟩
  | a :: its, k, ρ, h, hs => by
    obtain ⟨ρ1, ρ2, h1, h2, h3⟩ := hs 0 a ρ rfl h
    obtain ⟨ρ', h4, h5⟩ := for_inv I (its := its) (k := k + 1) (ρ := ρ2) h3 fun i b ρ hi hI => by
      have := hs (i + 1) b ρ (by simpa using hi) (by rw [show k + (i + 1) = k + 1 + i by omega]; exact hI)
      rw [show k + (i + 1) + 1 = k + 1 + i + 1 by omega] at this
      exact this
    refine ⟨ρ', ?_, by rw [List.length_cons, show k + (its.length + 1) = k + 1 + its.length by omega]; exact h5⟩
    unfold forD
    rw [h1]
    dsimp only
    rw [h2]
    exact h4
/-- .. or it is left at the first item that is not well -/
theorem for_exit {t : Tgt} {b : S} (I : Nat → List Slot → Prop) (X : SRes → Prop) (nb : ∀ ρ, ¬ X (.nx ρ)) (nc : ∀ ρ, ¬ X (.ct ρ)) (nk : ∀ ρ, ¬ X (.bk ρ)) : ∀ {its : List (Bool × D)} {k : Nat} {ρ : List Slot} {n : Nat} {a0 : Bool × D}, its[n]? = some a0 → I k ρ →
    (∀ i a ρ, i < n → its[i]? = some a → I (k + i) ρ → ∃ ρ1 ρ2, t a ρ = some ρ1 ∧ b ρ1 = .nx ρ2 ∧ I (k + i + 1) ρ2) → (∀ ρ, I (k + n) ρ → ∃ ρ1, t a0 ρ = some ρ1 ∧ X (b ρ1)) → X (forD t b its ρ)
  | [], k, ρ, n, a0, e, _, _, _ => by simp at e
  | a :: its, k, ρ, 0, a0, e, h, _, hx => by
    have ea : a = a0 := by simpa using e
    subst ea
    obtain ⟨ρ1, h1, h2⟩ := hx ρ h
    unfold forD
    rw [h1]
    dsimp only
    cases q : b ρ1 with
    | nx r => rw [q] at h2; exact absurd h2 (nb r)
    | ct r => rw [q] at h2; exact absurd h2 (nc r)
    | bk r => rw [q] at h2; exact absurd h2 (nk r)
    | _ => rw [q] at h2; exact h2
  | a :: its, k, ρ, n + 1, a0, e, h, hs, hx => by
    obtain ⟨ρ1, ρ2, h1, h2, h3⟩ := hs 0 a ρ (by omega) rfl h
    unfold forD
    rw [h1]
    dsimp only
    rw [h2]
    refine for_exit I X nb nc nk (its := its) (k := k + 1) (n := n) (a0 := a0) (by simpa using e) h3 (fun i b ρ hi he hI => ?_) fun ρ hI => ?_
    · have := hs (i + 1) b ρ (by omega) (by simpa using he) (by rw [show k + (i + 1) = k + 1 + i by omega]; exact hI)
      rw [show k + (i + 1) + 1 = k + 1 + i + 1 by omega] at this
      exact this
    · exact hx ρ (by rw [show k + (n + 1) = k + 1 + n by omega]; exact hI)
theorem while_inv {t : M Bool} {b : S} (I : Nat → List Slot → Prop) (J : List Slot → Prop) (h : ∀ m ρ, I m ρ → (t ρ = .ok false ρ ∧ J ρ) ∨ ∃ ρ2 m', t ρ = .ok true ρ ∧ b ρ = .nx ρ2 ∧ m' < m ∧ I m' ρ2) : ∀ {n m : Nat} {ρ : List Slot}, I m ρ → m < n → ∃ ρ', whileD t b n ρ = .nx ρ' ∧ J ρ'
  | 0, m, ρ, _, hn => absurd hn (Nat.not_lt_zero m)
  | n + 1, m, ρ, hI, hn => by
    rcases h m ρ hI with ⟨h1, h2⟩ | ⟨ρ2, m', h1, h2, h3, h4⟩
    · exact ⟨ρ, by unfold whileD; rw [h1], h2⟩
    · obtain ⟨ρ', h5, h6⟩ := while_inv I J h (n := n) h4 (by omega)
      exact ⟨ρ', by unfold whileD; rw [h1]; dsimp only; rw [h2]; exact h5, h6⟩
end Da
end F33
section F34
namespace Da
open PySem PySem.Spec PyProof.Rows L2 He Ds
/-! The program's own defs as functions of data (printed by tools/prog.py). -/
def D_law_draw : List Int → List D → OutP := runP 4 2 (sSeq (sIf (mT (mOp dGt (mE (mBin mIxL (mLook 0) (mE (mp (true, D.int 0))))) (mE (mp (true, D.int 0)))))
 (sSeq (sSet 2 (mOp dMod (mE (mUn dInt (mE (mBin mIxL (mLook 0) (mE (mp (true, D.int 0))))))) (mLook 1)))
 (sSeq (sPoolSet 0 (mp (true, D.int 0)) (mOp dFdiv (mE (mBin mIxL (mLook 0) (mE (mp (true, D.int 0))))) (mLook 1)))
 (sRet (mVar 2))))
 sNil)
 (sSeq (sPoolSet 0 (mp (true, D.int 2)) (mOp dAdd (mE (mBin mIxL (mLook 0) (mE (mp (true, D.int 2))))) (mE (mp (true, D.int 1)))))
 (sSeq (sSet 3 (mOp dMod (mE (mUn dInt (mE (mOp dPow (mE (mOp dAdd (mE (mBin mIxL (mLook 0) (mE (mp (true, D.int 1))))) (mE (mOp dMul (mE (mp (true, D.int 15485863))) (mE (mBin mIxL (mLook 0) (mE (mp (true, D.int 2))))))))) (mE (mp (true, D.int 3))))))) (mE (mp (true, D.int 162259276829213363391578010288127)))))
 (sSeq (sSet 3 (mOp dMod (mE (mUn dInt (mE (mOp dPow (mE (mOp dAdd (mLook 3) (mE (mOp dMul (mE (mp (true, D.int 32452843))) (mE (mBin mIxL (mLook 0) (mE (mp (true, D.int 2))))))))) (mE (mp (true, D.int 3))))))) (mE (mp (true, D.int 170141183460469231731687303715884105727)))))
 (sRet (mOp dMod (mE (mUn dInt (mE (mOp dFdiv (mLook 3) (mE (mp (true, D.int 1048576))))))) (mLook 1)))))))
def B_law_chart_1 : S := (sDrop (mMut 2 (maCons (mDat (mMut 3 (maCons (mDat (mPool 0 D_law_draw (maCons (mDat (mUn dLen (mLook 3))) (mp [])))) (mp [])) kPopAt)) (mp [])) kAppend))
def B_law_chart_2 : S := (sDrop (mMut 5 (maCons (mDat (mMut 6 (maCons (mDat (mPool 0 D_law_draw (maCons (mDat (mUn dLen (mLook 6))) (mp [])))) (mp [])) kPopAt)) (mp [])) kAppend))
def B_law_chart_3 : S := (sDrop (mMut 7 (maCons (mDat (mKeep (mComp [13] (mRng rng1 (maCons (mDat (mVar 8)) (mp []))) (tgName 13) (mp true) (mTup (maCons (mDat (mBin mIxL (mLook 5) (mLook 13))) (maCons (mDat (mBin mIxL (mLook 5) (mLook 8))) (mp []))))))) (mp [])) kExtend))
def B_law_chart_4 : S := (sSeq (sSet 12 (mPool 0 D_law_draw (maCons (mDat (mp (true, D.int 5))) (mp []))))
 (sSeq (sIf (mT (mOp dInT (mLook 12) (mE (mTup (maCons (mDat (mp (true, D.int 1))) (maCons (mDat (mp (true, D.int 2))) (maCons (mDat (mp (true, D.int 4))) (mp []))))))))
 (sDrop (mMut 9 (maCons (mDat (mPool 0 D_law_draw (maCons (mDat (mOp dAdd (mE (mUn dLen (mLook 9))) (mE (mp (true, D.int 1))))) (mp [])))) (maCons (mDat (mVar 11)) (mp []))) kInsert))
 sNil)
 (sIf (mAnd (mT (mOp dInT (mLook 12) (mE (mTup (maCons (mDat (mp (true, D.int 3))) (maCons (mDat (mp (true, D.int 4))) (mp []))))))) (mT (mOp dLt (mE (mUn dLen (mLook 10))) (mE (mp (true, D.int 5))))))
 (sDrop (mMut 10 (maCons (mDat (mPool 0 D_law_draw (maCons (mDat (mOp dAdd (mE (mUn dLen (mLook 10))) (mE (mp (true, D.int 1))))) (mp [])))) (maCons (mDat (mStep2 (mVar 11) (mBin mIxL (mE (mKeep (mLst (maCons (mDat (mp (true, D.int 1))) (maCons (mDat (mUn dNeg (mE (mp (true, D.int 1))))) (mp [])))))) (mE (mPool 0 D_law_draw (maCons (mDat (mp (true, D.int 2))) (mp []))))))) (mp []))) kInsert))
 sNil)))
def D_law_chart : List Int → List D → OutP := runP 14 2 (sSeq (sPar [2, 3] (maCons (mOwn (mLst (mp []))) (maCons (mOwn (mOne mListSK (mE (mp (true, D.str "abcdefghijklmnopqrstuvwxyz"))))) (mp []))))
 (sSeq (sFor (mRng rng1 (maCons (mDat (mOp dAdd (mE (mp (true, D.int 1))) (mE (mPool 0 D_law_draw (maCons (mDat (mVar 1)) (mp [])))))) (mp []))) (tgName 4)
 B_law_chart_1)
 (sSeq (sPar [5, 6, 7] (maCons (mOwn (mLst (mp []))) (maCons (mOwn (mOne mListK (mLook 2))) (maCons (mOwn (mLst (mp []))) (mp [])))))
 (sSeq (sWhile 100000 (mT (mOp dNe (mLook 6) (mE (mKeep (mLst (mp []))))))
 B_law_chart_2)
 (sSeq (sFor (mRng rng1 (maCons (mDat (mUn dLen (mLook 5))) (mp []))) (tgName 8)
 B_law_chart_3)
 (sSeq (sPar [9, 10] (maCons (mOwn (mLst (mp []))) (maCons (mOwn (mLst (mp []))) (mp []))))
 (sSeq (sFor (mIt itList (mRetV 7)) (tgName 11)
 B_law_chart_4)
 (sRet (mTup (maCons (mDat (mRetV 2)) (maCons (mDat (mRetV 9)) (maCons (mDat (mRetV 10)) (mp [])))))))))))))
def D_is_letter : List D → Out := runD 1 1 (sRet (mAndV (mOp dEq (mE (mUn dLenS (mLook 0))) (mE (mp (true, D.int 1)))) (mChain dLeS dLeS (mE (mp (true, D.str "a"))) (mLook 0) (mE (mp (true, D.str "z"))))))
def B_check_things_1 : S := (sIf (mOr (mNot (mT (mCall D_is_letter (maCons (mDat (mVar 2)) (mp []))))) (mT (mOp dIn (mLook 2) (mE (mKeep (mSl mSlL (mLook 0) (mp none) (mPart (mVar 1))))))))
 (sRaise "InvalidName" (maCons (mDat (mVar 2)) (mp [])))
 sNil)
def D_check_things : List D → Out := runD 3 1 (sSeq (sFor (mEnum (maCons (mDat (mVar 0)) (mp []))) (tgTup 2 (tgsCons (tgName 1) (tgsCons (tgName 2) tgsNil)))
 B_check_things_1)
 (sIf (mNot (mT (mChain dLe dLe (mE (mp (true, D.int 1))) (mE (mUn dLen (mLook 0))) (mE (mp (true, D.int 6))))))
 (sRaise "InvalidNumber" (maCons (mDat (mUn dLen (mLook 0))) (mp [])))
 sNil))
def B_things_leading_1 : S := (sIf (mAnd (mT (mOp dEq (mLook 7) (mLook 5))) (mT (mDin true (mVar 6) (mLook 3))))
 (sSeq (sPut 3 (mVar 6) (mp (true, D.bl true)))
 (sDrop (mMut 4 (maCons (mDat (mVar 6)) (mp [])) kAppend)))
 sNil)
def B_things_leading_2 : S := (sSeq (sSet 5 (mPop 4))
 (sFor (mIt itList (mVar 1)) (tgTup 2 (tgsCons (tgName 6) (tgsCons (tgName 7) tgsNil)))
 B_things_leading_1))
def D_things_leading : List D → Out := runD 8 3 (sSeq (sSetD 3 (mDisp1 (mVar 2) (mp (true, D.bl true))))
 (sSeq (sSetO 4 (mLst (maCons (mDat (mVar 2)) (mp []))))
 (sSeq (sWhile 100000 (mTru (mLook 4))
 B_things_leading_2)
 (sRet (mKeep (mComp [5] (mIt itList (mVar 0)) (tgName 5) (mT (mDin false (mVar 5) (mLook 3))) (mVar 5)))))))
def D_are_two : List D → Out := runD 3 3 (sRet (mAndV (mOp dIn (mLook 1) (mLook 0)) (mAndV (mOp dIn (mLook 2) (mLook 0)) (mOp dNe (mLook 1) (mLook 2)))))
def B_check_arrows_1 : S := (sSeq (sSet 5 (mKeep (mSl mSlL (mLook 1) (mp none) (mPart (mVar 2)))))
 (sSeq (sIf (mOr (mNot (mT (mCall D_are_two (maCons (mDat (mVar 0)) (maCons (mDat (mVar 3)) (maCons (mDat (mVar 4)) (mp []))))))) (mT (mOp dIn (mE (mTup (maCons (mDat (mVar 3)) (maCons (mDat (mVar 4)) (mp []))))) (mLook 5))))
 (sRaise "InvalidArrow" (maCons (mDat (mTup (maCons (mDat (mVar 3)) (maCons (mDat (mVar 4)) (mp []))))) (mp [])))
 sNil)
 (sIf (mT (mOp dIn (mLook 4) (mE (mCall D_things_leading (maCons (mDat (mVar 0)) (maCons (mDat (mVar 5)) (maCons (mDat (mVar 3)) (mp []))))))))
 (sRaise "InvalidArrow" (maCons (mDat (mTup (maCons (mDat (mVar 3)) (maCons (mDat (mVar 4)) (mp []))))) (mp [])))
 sNil)))
def D_check_arrows : List D → Out := runD 6 2 (sFor (mEnum (maCons (mDat (mVar 1)) (mp []))) (tgTup 2 (tgsCons (tgName 2) (tgsCons (tgTup 2 (tgsCons (tgName 3) (tgsCons (tgName 4) tgsNil))) tgsNil)))
 B_check_arrows_1)
def B_check_pairs_1 : S := (sSeq (sSet 5 (mKeep (mSl mSlL (mLook 1) (mp none) (mPart (mVar 2)))))
 (sIf (mOr (mNot (mT (mCall D_are_two (maCons (mDat (mVar 0)) (maCons (mDat (mVar 3)) (maCons (mDat (mVar 4)) (mp []))))))) (mOr (mT (mOp dIn (mE (mTup (maCons (mDat (mVar 3)) (maCons (mDat (mVar 4)) (mp []))))) (mLook 5))) (mT (mOp dIn (mE (mTup (maCons (mDat (mVar 4)) (maCons (mDat (mVar 3)) (mp []))))) (mLook 5)))))
 (sRaise "InvalidPair" (maCons (mDat (mTup (maCons (mDat (mVar 3)) (maCons (mDat (mVar 4)) (mp []))))) (mp [])))
 sNil))
def D_check_pairs : List D → Out := runD 6 2 (sFor (mEnum (maCons (mDat (mVar 1)) (mp []))) (tgTup 2 (tgsCons (tgName 2) (tgsCons (tgTup 2 (tgsCons (tgName 3) (tgsCons (tgName 4) tgsNil))) tgsNil)))
 B_check_pairs_1)
def D_Diagram_init : List D → OutI := runI "Diagram" 4 4 (sSeq (sDrop (mCallX D_check_things (maCons (mDat (mVar 1)) (mp []))))
 (sSeq (sDrop (mCallX D_check_arrows (maCons (mDat (mVar 1)) (maCons (mDat (mVar 2)) (mp [])))))
 (sSeq (sDrop (mCallX D_check_pairs (maCons (mDat (mVar 1)) (maCons (mDat (mVar 3)) (mp [])))))
 (sSeq (sSelfC "Diagram" 0 "_names" (mKeep (mOne mListK (mLook 1))))
 (sSeq (sSelfC "Diagram" 0 "_arrows" (mKeep (mOne mListK (mLook 2))))
 (sSelfC "Diagram" 0 "_pairs" (mKeep (mOne mListK (mLook 3)))))))))
def D_law_made : List D → Out := runD 1 1 (sRet (mMake "Diagram" D_Diagram_init (maCons (mDat (mKeep (mOne mListK (mE (mBin mIxT (mLook 0) (mE (mp (true, D.int 0)))))))) (maCons (mDat (mKeep (mOne mListK (mE (mBin mIxT (mLook 0) (mE (mp (true, D.int 1)))))))) (maCons (mDat (mKeep (mOne mListK (mE (mBin mIxT (mLook 0) (mE (mp (true, D.int 2)))))))) (mp []))))))
def D_Diagram_names : List D → Out := runD 1 1 (sRet (mKeep (mOne mListK (mE (mFld "Diagram" "_names" (mLook 0))))))
def D_Diagram_arrows : List D → Out := runD 1 1 (sRet (mKeep (mOne mListK (mE (mFld "Diagram" "_arrows" (mLook 0))))))
def D_Diagram_pairs : List D → Out := runD 1 1 (sRet (mKeep (mOne mListK (mE (mFld "Diagram" "_pairs" (mLook 0))))))
def D_check_known : List D → Out := runD 2 2 (sIf (mT (mOp dNotIn (mLook 1) (mLook 0)))
 (sRaise "InvalidName" (maCons (mDat (mVar 1)) (mp [])))
 sNil)
def D_Diagram_leading_to : List D → Out := runD 2 2 (sSeq (sDrop (mCallX D_check_known (maCons (mDat (mFld "Diagram" "_names" (mLook 0))) (maCons (mDat (mVar 1)) (mp [])))))
 (sRet (mCall D_things_leading (maCons (mDat (mFld "Diagram" "_names" (mLook 0))) (maCons (mDat (mFld "Diagram" "_arrows" (mLook 0))) (maCons (mDat (mVar 1)) (mp [])))))))
def B_check_names_1 : S := (sIf (mOr (mT (mOp dNotIn (mLook 4) (mLook 2))) (mT (mOp dIn (mLook 4) (mE (mKeep (mSl mSlL (mLook 1) (mp none) (mPart (mVar 3))))))))
 (sRaise "InvalidName" (maCons (mDat (mVar 4)) (mp [])))
 sNil)
def D_check_names : List D → Out := runD 5 2 (sSeq (sSet 2 (mProp "Diagram" D_Diagram_names (mVar 0)))
 (sFor (mEnum (maCons (mDat (mVar 1)) (mp []))) (tgTup 2 (tgsCons (tgName 3) (tgsCons (tgName 4) tgsNil)))
 B_check_names_1))
def B_check_apart_1 : S := (sIf (mT (mOp dIn (mLook 2) (mLook 1)))
 (sRaise "InvalidDeed" (maCons (mDat (mVar 2)) (mp [])))
 sNil)
def D_check_apart : List D → Out := runD 3 2 (sFor (mIt itList (mVar 0)) (tgName 2)
 B_check_apart_1)
end Da
end F34
section F35
namespace Da
open PySem PySem.Spec PyProof.Rows L2 He Ds
/-! ### a result that is looked at, changed, and not looked at any more -/
section
variable {K : PySem.W.Frag} {W : WX}
end
end Da
end F35
section F36
namespace Da
open PySem PySem.Spec PyProof.Rows L2 He Ds
/-! ### a result that is looked at more than once, changed at several places, and not looked at any more -/
inductive RRes where
  | no | stay | out (r : SRes)
abbrev RD := List Slot → RRes
section
variable {K : PySem.W.Frag} {W : WX}
/-! reading -/
/-! ### what changes -/
mutual
/-- v stands for d, but its lists may have grown by n items at most -/
inductive Dg (K : PySem.W.Frag) (H : Hp) (Fr : Addr → Prop) (n : Nat) : V → D → Prop
  | lst {a : Addr} {xs ex : List V} {ds : List D} : H a = some (.lst (xs ++ ex)) → ex.length ≤ n → Fr a → DgA K H Fr n xs ds → Dg K H Fr n (.ref a) (.lst ds)
  | tup {a : Addr} {xs : List V} {ds : List D} : SqT K H a xs → DgA K H Fr n xs ds → Dg K H Fr n (.ref a) (.tup ds)
  | oth {v : V} {d : D} (h : (∀ ds, d ≠ .lst ds) ∧ ∀ ds, d ≠ .tup ds) : Dg K H Fr n v d
inductive DgA (K : PySem.W.Frag) (H : Hp) (Fr : Addr → Prop) (n : Nat) : List V → List D → Prop
  | nil : DgA K H Fr n [] []
  | cons {v : V} {vs : List V} {d : D} {ds : List D} : Dg K H Fr n v d → DgA K H Fr n vs ds → DgA K H Fr n (v :: vs) (d :: ds)
end
mutual
theorem Dg.of {G H : Hp} {Fr : Addr → Prop} (s : Same G H) : ∀ {v : V} {d : D}, Dr K G Fr v d → Dg K H Fr 0 v d
  | _, _, .lst (a := a) (xs := xs) e f t => Dg.lst (ex := []) (by rw [List.append_nil]; exact s _ _ e) (Nat.le_refl _) f (DgA.of s t)
  | _, _, .tup e t => Dg.tup (seqT_same s (SqT.of e)) (DgA.of s t)
  | _, _, .non => Dg.oth ⟨fun _ z => (nomatch z), fun _ z => (nomatch z)⟩
  | _, _, .bl b => Dg.oth ⟨fun _ z => (nomatch z), fun _ z => (nomatch z)⟩
  | _, _, .int i => Dg.oth ⟨fun _ z => (nomatch z), fun _ z => (nomatch z)⟩
  | _, _, .str x h => Dg.oth ⟨fun _ z => (nomatch z), fun _ z => (nomatch z)⟩
  | _, _, .dic _ _ _ _ => Dg.oth ⟨fun _ z => (nomatch z), fun _ z => (nomatch z)⟩
  | _, _, .obj _ _ _ => Dg.oth ⟨fun _ z => (nomatch z), fun _ z => (nomatch z)⟩
  | _, _, .rep _ => Dg.oth ⟨fun _ z => (nomatch z), fun _ z => (nomatch z)⟩
  | _, _, .dicT _ _ _ _ => Dg.oth ⟨fun _ z => (nomatch z), fun _ z => (nomatch z)⟩
  | _, _, .dicB _ _ _ _ => Dg.oth ⟨fun _ z => (nomatch z), fun _ z => (nomatch z)⟩
  | _, _, .exc _ _ => Dg.oth ⟨fun _ z => (nomatch z), fun _ z => (nomatch z)⟩
theorem DgA.of {G H : Hp} {Fr : Addr → Prop} (s : Same G H) : ∀ {v : List V} {d : List D}, DrA K G Fr v d → DgA K H Fr 0 v d
  | _, _, .nil => DgA.nil
  | _, _, .cons a t => DgA.cons (Dg.of s a) (DgA.of s t)
end
theorem seqT_upd {H : Hp} {a b : Addr} {xs ys zs : List V} (hb : H b = some (.lst ys)) (h : SqT K H a xs) : SqT K (upd H b (.lst zs)) a xs := by
  rcases h with (h | ⟨o, h⟩) | h
  · exact .inl (.inl (by rw [upd_ne (fun e => by subst e; rw [h] at hb; cases hb)]; exact h))
  · exact .inl (.inr ⟨o, by rw [upd_ne (fun e => by subst e; rw [h] at hb; cases hb)]; exact h⟩)
  · exact .inr h
mutual
/-- a list grows -/
theorem Dg.grow {H : Hp} {Fr : Addr → Prop} {n : Nat} {b : Addr} {ys : List V} {z : V} (hb : H b = some (.lst ys)) : ∀ {v : V} {d : D}, Dg K H Fr n v d → Dg K (upd H b (.lst (ys ++ [z]))) Fr (n + 1) v d
  | _, _, .lst (a := a) (xs := xs) (ex := ex) e l f t => by
    by_cases c : a = b
    · subst c
      rw [e] at hb
      cases hb
      exact Dg.lst (ex := ex ++ [z]) (by rw [upd_same, List.append_assoc]) (by simp; omega) f (DgA.grow e t)
    · exact Dg.lst (ex := ex) (by rw [upd_ne c]; exact e) (Nat.le_succ_of_le l) f (DgA.grow hb t)
  | _, _, .tup e t => Dg.tup (seqT_upd hb e) (DgA.grow hb t)
  | _, _, .oth h => Dg.oth h
theorem DgA.grow {H : Hp} {Fr : Addr → Prop} {n : Nat} {b : Addr} {ys : List V} {z : V} (hb : H b = some (.lst ys)) : ∀ {v : List V} {d : List D}, DgA K H Fr n v d → DgA K (upd H b (.lst (ys ++ [z]))) Fr (n + 1) v d
  | _, _, .nil => DgA.nil
  | _, _, .cons a t => DgA.cons (Dg.grow hb a) (DgA.grow hb t)
end
mutual
theorem Dg.same {H H' : Hp} {Fr : Addr → Prop} {n : Nat} (s : Same H H') : ∀ {v : V} {d : D}, Dg K H Fr n v d → Dg K H' Fr n v d
  | _, _, .lst e l f t => Dg.lst (s _ _ e) l f (DgA.same s t)
  | _, _, .tup e t => Dg.tup (seqT_same s e) (DgA.same s t)
  | _, _, .oth h => Dg.oth h
theorem DgA.same {H H' : Hp} {Fr : Addr → Prop} {n : Nat} (s : Same H H') : ∀ {v : List V} {d : List D}, DgA K H Fr n v d → DgA K H' Fr n v d
  | _, _, .nil => DgA.nil
  | _, _, .cons a t => DgA.cons (Dg.same s a) (DgA.same s t)
end
theorem DgA.len {H : Hp} {Fr : Addr → Prop} {n : Nat} : ∀ {v : List V} {d : List D}, DgA K H Fr n v d → v.length = d.length
  | _, _, .nil => rfl
  | _, _, .cons _ t => by rw [List.length_cons, List.length_cons, DgA.len t]
theorem DgA.get {H : Hp} {Fr : Addr → Prop} {n : Nat} : ∀ {v : List V} {d : List D} {j : Nat} {x : D}, DgA K H Fr n v d → d[j]? = some x → ∃ u, v[j]? = some u ∧ Dg K H Fr n u x
  | _, _, _, _, .nil, e => by simp at e
  | _, _, 0, _, .cons a t, e => by
    simp at e; subst e
    exact ⟨_, rfl, a⟩
  | _, _, j + 1, _, .cons a t, e => by
    obtain ⟨u, h1, h2⟩ := DgA.get t (j := j) (by simpa using e)
    exact ⟨u, by simpa using h1, h2⟩
section
variable {i : Nat} {f : List D → Out} {ta : TA} {ma : M (List Slot)} {u1 u2 u3 w tm : L2.TS} {r1 r2 r3 : RD} {rest : S} {mu : D → Bool}
end
end
end Da
end F36
section F37
namespace Ds
open PySem PySem.Spec PyProof.Rows L2
/-! ### tuple of a text -/
theorem call_tupleS {X : Cx} (hc : X.calm = true) : CallR X (.type "tuple") (fun xs H Q => ∃ z : Str, xs = [.str z] ∧ z.length ≤ sizeLine ∧ ∀ p, H p = none → Q (.ref p) (upd H p (.tup (z.cps.toList.map fun c => V.str ⟨#[c]⟩)))) := by
  intro pins s σ H xs us Q I r h
  obtain ⟨z, rfl, hz, q⟩ := h
  obtain ⟨u, rfl, t, rfl⟩ := vals1 r
  refine PySem.call_tuple_str (hsz := hz) (I.ok.hd hc) z t fun h' tk acc hk hi => ?_
  have len : (z.cps.toList.map fun c => V.str ⟨#[c]⟩).length = z.cps.size := by rw [List.length_map]; exact Array.length_toList
  have I1 : Inv X pins σ H { s with heap := h', toks := tk } := I.kept (t' := tk) hk
  have rv : Vals (z.cps.toList.map fun c => V.str ⟨#[c]⟩) acc.toList := by
    refine vals_of_idx _ _ (by rw [len, Array.length_toList]; exact hi.1) fun j u hj => ?_
    obtain ⟨c, t', hc, rfl⟩ := hi.2 j u (by rw [← Array.getElem?_toList]; exact hj)
    refine ⟨.str ⟨#[c]⟩, ?_, ⟨_, rfl⟩⟩
    rw [List.getElem?_map, Array.getElem?_toList, hc]
    rfl
  have I2 : Inv X pins σ (upd H h'.objs.size (.tup (z.cps.toList.map fun c => V.str ⟨#[c]⟩))) { s with heap := h'.push { cls := .type "tuple", data := .seq acc }, toks := tk } :=
    I1.laid (t' := tk) (fun b o e => Heap.get?_push_of_some _ e) (Nat.le_refl _) (show ObjOk X.prog X.w _ _ _ (.tup _) from ⟨by rw [len]; exact hz, acc.toList, rv, by
      rw [Array.toArray_toList]; exact IsTup.new h' acc⟩)
  exact ⟨.ref h'.objs.size, _, I2, rfl, q _ (I1.hok.fresh (Nat.le_refl _))⟩
end Ds
namespace Da
open PySem PySem.Spec PyProof.Rows L2 He Ds
variable {K : PySem.W.Frag} {W : WX}
def mTupSK (a : Bool × D) : M (Bool × D) := match a with
  | (_, .str z) => if z.length ≤ 100000 then mp (true, .tup (signs z)) else mno
  | _ => mno
theorem de_tupS {ta : TE} {ma : M Look} (ha : DB K W ta ma) : DE K W (tCB (fun xs H Q => ∃ z : Str, xs = [.str z] ∧ z.length ≤ sizeLine ∧ ∀ p, H p = none → Q (.ref p) (upd H p (.tup (z.cps.toList.map fun c => V.str ⟨#[c]⟩)))) (tCons ta tNil)) (mOne mTupSK ma) := by
  intro c G H σ ρ T Q hK hl R p
  refine one_core (ta := ta) ha hK hl R p fun a x G2 H2 ρ2 hl2 R2 s2 ia q => ?_
  obtain ⟨f, a⟩ := a
  cases a with
  | str z =>
    unfold mTupSK at q
    dsimp only at q
    by_cases h : z.length ≤ 100000
    · rw [if_pos h] at q
      cases ia.1 with
      | str _ hz =>
        refine ⟨z, rfl, Nat.le_trans h (by decide), fun p np => ?_⟩
        subst hK
        have sG : Same G2 (upd G2 p (.tup (z.cps.toList.map fun c => V.str ⟨#[c]⟩))) := same_new (Same.refl G2) (R2.gn np)
        exact q hl2 _ _ (R2.new np) sG _ (.tup upd_same (signs_ok hz))
    · rw [if_neg h] at q
      exact q.elim
  | _ => exact False.elim q
end Da
end F37
section F38
namespace Ds
open PySem PySem.Spec PyProof.Rows L2
/-! ### repr of any plain value -/
end Ds
namespace Da
open PySem PySem.Spec PyProof.Rows L2 He Ds
variable {K : PySem.W.Frag}
end Da
end F38
section F39
namespace Da
open PySem PySem.Spec PyProof.Rows L2 He Ds
/-! ### == by an own __eq__, isinstance of an own class: objects of that class -/
structure OwnF (K : PySem.W.Frag) (C : Addr) : Prop where
  cl : Cls K C
  ha : PySem.W.findIn K (.ref C) "__class__" = some (some (.builtin "object.__class__"))
  hn : PySem.W.specialIn K (.builtin "object.__class__") "__get__" = some (some (.builtin "getset_descriptor.__get__"))
  ht : PySem.W.takesIn K (.builtin "object.__class__") = some true
  hm : PySem.W.mroIn K C (.type "object") = some true
section
variable {K : PySem.W.Frag} {W : WX}
/-! reading -/
end
end Da
end F39
section F40
namespace Da
open PySem PySem.Spec PyProof.Rows L2 He Ds
/-! ### sorted of a list of data -/
variable {K : PySem.W.Frag} {W : WX}
theorem DrA.zip {G : Hp} {F : Addr → Prop} : ∀ {vs : List V} {ds : List D}, DrA K G F vs ds → ∀ b ∈ vs.zip ds, Dr K G F b.1 b.2
  | _, _, .nil, b, h => by cases h
  | _, _, .cons h t, b, hb => by
    rw [List.zip_cons_cons] at hb
    rcases List.mem_cons.mp hb with rfl | hb
    · exact h
    · exact DrA.zip t b hb
end Da
end F40
section F41
namespace Da
open PySem PySem.Spec PyProof.Rows L2 He Ds
section
variable {K : PySem.W.Frag} {W : WX} {c : Cc} {G G' H : Hp} {σ : L2.St} {ρ : List Slot} {T : List En}
/-! ### a dict of the call's own, among several values -/
def mDctS (m : M (Bool × (List Key × List D))) : M Slot := mb m fun a => mp (.dct a.1 a.2.1 a.2.2)
theorem DD.s {te : TE} {m : M (Bool × (List Key × List D))} (h : DD K W te m) : DS1 K W te (mDctS m) := by
  intro c G H σ ρ T Q hK hl R p
  refine h c G H σ ρ T Q hK hl R (Post.imp (Post.bind p) fun a ρ' G' H' hl' R' s q p H2 R2 => ?_)
  exact q hl' G' H' R' (Same.refl G') (.ref p) H2 R2
/-! ### d[k] -/
/-! ### xs * k -/
/-! ### s[i] -/
/-! ### 1 << n, a & b -/
/-! ### dict of a list of pairs -/
end
end Da
end F41
section F42
namespace Ds
open PySem PySem.Spec PyProof.Rows L2
end Ds
namespace Da
open PySem PySem.Spec PyProof.Rows L2 He Ds
section
variable {K : PySem.W.Frag} {W : WX} {c : Cc} {G G' H : Hp} {σ : L2.St} {ρ : List Slot} {T : List En}
/-! ### for c in a text -/
/-! ### zip of two lists -/
end
end Da
end F42
section F43
/-! math.gcd, x.index(y). -/
namespace Da
open PySem PySem.Spec PyProof.Rows L2 He Ds
section
variable {K : PySem.W.Frag} {W : WX} {c : Cc} {G H : Hp} {σ : L2.St} {ρ : List Slot} {T : List En}
/-- a dict of one's own handed on as a datum -/
theorem _root_.Da.Rel.freezeD {E : List En} {p : Addr} {fr : Bool} {ks : List Key} {ds : List D} (R : Rel c G H ((some (.ref p), .dct fr ks ds) :: E)) : ∃ u, Rel c (upd G p u) H E ∧ Same G (upd G p u) ∧ Dr c.K (upd G p u) (Fl c fr) (.ref p) (.dic ks ds) := by
  obtain ⟨q, eq, h1, h2, ⟨h3, vs', h4, h5, h7⟩, h6⟩ := R.head rfl
  cases eq
  obtain ⟨R', sG⟩ := R.freezeO rfl h4 h3
  exact ⟨_, R', sG, .dic upd_same h5 (fun _ => R.g0n h1) (h7.up sG)⟩
def mKeepD (m : M (Bool × (List Key × List D))) : M (Bool × D) := mb m fun a => mp (a.1, .dic a.2.1 a.2.2)
theorem DD.e {te : TE} {m : M (Bool × (List Key × List D))} (h : DD K W te m) : DE K W te (mKeepD m) := by
  intro c G H σ ρ T Q hK hl R p
  refine h c G H σ ρ T Q hK hl R (Post.imp (Post.bind p) fun a ρ' G' H' hl' R' s q p H2 R2 => ?_)
  subst hK
  obtain ⟨u, R3, sG, hd⟩ := R2.freezeD
  exact q hl' _ _ R3 sG _ hd
end
end Da
end F43
section F44
namespace Da
open PySem PySem.Spec PyProof.Rows L2 He Ds
/-! What the laws of told shares have in common (printed by tools/prog.py). -/
def D_law_known : List Int → List D → OutP := runP 6 1 (sSeq (sSet 1 (mKeep (mLst (maCons (mDat (mTup (maCons (mDat (mp (true, D.str "xy"))) (maCons (mDat (mKeep (mLst (maCons (mDat (mp (true, D.str "xy"))) (mp []))))) (maCons (mDat (mKeep (mLst (maCons (mDat (mp (true, D.str "xy"))) (mp []))))) (mp [])))))) (maCons (mDat (mTup (maCons (mDat (mp (true, D.str "xzy"))) (maCons (mDat (mKeep (mLst (maCons (mDat (mp (true, D.str "xz"))) (maCons (mDat (mp (true, D.str "zy"))) (mp [])))))) (maCons (mDat (mKeep (mLst (maCons (mDat (mp (true, D.str "xy"))) (mp []))))) (mp [])))))) (maCons (mDat (mTup (maCons (mDat (mp (true, D.str "wzxy"))) (maCons (mDat (mKeep (mLst (maCons (mDat (mp (true, D.str "wz"))) (maCons (mDat (mp (true, D.str "zx"))) (maCons (mDat (mp (true, D.str "xy"))) (mp []))))))) (maCons (mDat (mKeep (mLst (maCons (mDat (mp (true, D.str "wx"))) (maCons (mDat (mp (true, D.str "wy"))) (mp [])))))) (mp [])))))) (mp [])))))))
 (sSeq (sSet 1 (mKeep (mBin mCatK (mLook 1) (mE (mKeep (mLst (maCons (mDat (mTup (maCons (mDat (mp (true, D.str "xzy"))) (maCons (mDat (mKeep (mLst (maCons (mDat (mp (true, D.str "xz"))) (maCons (mDat (mp (true, D.str "zy"))) (mp [])))))) (maCons (mDat (mKeep (mLst (maCons (mDat (mp (true, D.str "xz"))) (mp []))))) (mp [])))))) (maCons (mDat (mTup (maCons (mDat (mp (true, D.str "zxy"))) (maCons (mDat (mKeep (mLst (maCons (mDat (mp (true, D.str "zx"))) (maCons (mDat (mp (true, D.str "zy"))) (maCons (mDat (mp (true, D.str "xy"))) (mp []))))))) (maCons (mDat (mKeep (mLst (mp [])))) (mp [])))))) (maCons (mDat (mTup (maCons (mDat (mp (true, D.str "zxy"))) (maCons (mDat (mKeep (mLst (maCons (mDat (mp (true, D.str "zx"))) (maCons (mDat (mp (true, D.str "xy"))) (mp [])))))) (maCons (mDat (mKeep (mLst (maCons (mDat (mp (true, D.str "xy"))) (mp []))))) (mp [])))))) (mp []))))))))))
 (sSeq (sSet 1 (mKeep (mBin mCatK (mLook 1) (mE (mKeep (mLst (maCons (mDat (mTup (maCons (mDat (mp (true, D.str "xazby"))) (maCons (mDat (mKeep (mLst (maCons (mDat (mp (true, D.str "xa"))) (maCons (mDat (mp (true, D.str "az"))) (maCons (mDat (mp (true, D.str "zb"))) (maCons (mDat (mp (true, D.str "by"))) (mp [])))))))) (maCons (mDat (mKeep (mLst (maCons (mDat (mp (true, D.str "xz"))) (maCons (mDat (mp (true, D.str "az"))) (mp [])))))) (mp [])))))) (maCons (mDat (mTup (maCons (mDat (mp (true, D.str "xzwy"))) (maCons (mDat (mKeep (mLst (maCons (mDat (mp (true, D.str "xz"))) (maCons (mDat (mp (true, D.str "zw"))) (maCons (mDat (mp (true, D.str "wy"))) (mp []))))))) (maCons (mDat (mKeep (mLst (maCons (mDat (mp (true, D.str "xw"))) (maCons (mDat (mp (true, D.str "zy"))) (mp [])))))) (mp [])))))) (mp [])))))))))
 (sSeq (sSet 1 (mKeep (mBin mCatK (mLook 1) (mE (mKeep (mLst (maCons (mDat (mTup (maCons (mDat (mp (true, D.str "xzy"))) (maCons (mDat (mKeep (mLst (maCons (mDat (mp (true, D.str "xz"))) (maCons (mDat (mp (true, D.str "zy"))) (maCons (mDat (mp (true, D.str "xy"))) (mp []))))))) (maCons (mDat (mKeep (mLst (maCons (mDat (mp (true, D.str "xz"))) (maCons (mDat (mp (true, D.str "zy"))) (mp [])))))) (mp [])))))) (maCons (mDat (mTup (maCons (mDat (mp (true, D.str "wxzy"))) (maCons (mDat (mKeep (mLst (maCons (mDat (mp (true, D.str "wx"))) (maCons (mDat (mp (true, D.str "xz"))) (maCons (mDat (mp (true, D.str "zy"))) (maCons (mDat (mp (true, D.str "wy"))) (mp [])))))))) (maCons (mDat (mKeep (mLst (maCons (mDat (mp (true, D.str "xy"))) (maCons (mDat (mp (true, D.str "wx"))) (mp [])))))) (mp [])))))) (mp [])))))))))
 (sSeq (sAsg (tgTup 3 (tgsCons (tgName 2) (tgsCons (tgName 3) (tgsCons (tgName 4) tgsNil)))) (mBin mIxL (mLook 1) (mE (mPool 0 D_law_draw (maCons (mDat (mp (true, D.int 10))) (mp []))))))
 (sRet (mTup (maCons (mDat (mTup (maCons (mDat (mKeep (mOne mListSK (mLook 2)))) (maCons (mDat (mKeep (mComp [5] (mIt itList (mVar 3)) (tgName 5) (mp true) (mOne mTupSK (mLook 5))))) (maCons (mDat (mKeep (mComp [5] (mIt itList (mVar 4)) (tgName 5) (mp true) (mOne mTupSK (mLook 5))))) (mp [])))))) (maCons (mDat (mKeep (mLst (maCons (mDat (mp (true, D.str "x"))) (mp []))))) (maCons (mDat (mKeep (mLst (maCons (mDat (mp (true, D.str "y"))) (mp []))))) (mp [])))))))))))
end Da
end F44
section F45
namespace Da
open PySem PySem.Spec PyProof.Rows L2 He Ds
/-! What the laws of worlds have in common (printed by tools/gen2.py). -/
end Da
end F45
section F46
/-! Dicts of the call's own whose keys are tuples of ints and texts. -/
namespace Da
open PySem PySem.Spec PyProof.Rows L2 He Ds
section
variable {K : PySem.W.Frag} {W : WX} {c : Cc} {G G' H : Hp} {σ : L2.St} {ρ : List Slot} {T : List En}
def getT (ks : List (List Key)) (ds : List D) (k : List Key) : Option D := ((ks.zip ds).find? fun p => decide (p.1 = k)).map (·.2)
theorem valT_dr {F : Addr → Prop} {k : List Key} : ∀ {ks : List (List Key)} {vs : List V} {ds : List D}, ks.length = vs.length → DrA K G F vs ds → (∀ d, getT ks ds k = some d → ∃ v, valV (ks.zip vs) k = some v ∧ Dr K G F v d) ∧ (getT ks ds k = none → valV (ks.zip vs) k = none)
  | [], [], _, _, .nil => ⟨fun d h => by simp [getT] at h, fun _ => by simp [valV]⟩
  | k0 :: ks, v0 :: vs, _, hl, .cons h t => by
    obtain ⟨h1, h2⟩ := valT_dr (k := k) (show ks.length = vs.length by simpa using hl) t
    by_cases e : k0 = k
    · subst e
      refine ⟨fun d hd => ?_, fun hd => ?_⟩
      · simp [getT] at hd
        subst hd
        exact ⟨v0, by simp [valV], h⟩
      · simp [getT] at hd
    · have e1 : ∀ (ds : List D) (d0 : D), getT (k0 :: ks) (d0 :: ds) k = getT ks ds k := fun ds d0 => by simp [getT, e]
      have e2 : valV ((k0 :: ks).zip (v0 :: vs)) k = valV (ks.zip vs) k := by simp [valV, e]
      rw [e2]
      exact ⟨fun d hd => h1 d (by rw [e1] at hd; exact hd), fun hd => h2 (by rw [e1] at hd; exact hd)⟩
  | [], _ :: _, _, hl, _ => by simp at hl
  | _ :: _, [], _, hl, _ => by simp at hl
/-- a tuple of ints and texts as a key -/
def keysOf : List D → Option (List Key)
  | [] => some []
  | d :: ds => (keyOf d).bind fun k => (keysOf ds).map fun ks => k :: ks
def tkeyOf : D → Option (List Key)
  | .tup ds => keysOf ds
  | _ => none
theorem keysOf_eq {F : Addr → Prop} : ∀ {vs : List V} {ds : List D} {ks : List Key}, DrA K G F vs ds → keysOf ds = some ks → vs = ks.map kV
  | _, _, _, .nil, e => by cases e; rfl
  | _, _, _, .cons h t, e => by
    rw [keysOf] at e
    obtain ⟨k, e1, e2⟩ := Option.bind_eq_some_iff.mp e
    obtain ⟨ks, e3, rfl⟩ := omap e2
    rw [keyOf_eq h e1, keysOf_eq t e3]
    rfl
theorem tkeyOf_eq {F : Addr → Prop} {v : V} {d : D} {k : List Key} (h : Dr K G F v d) (e : tkeyOf d = some k) : ∃ b, v = .ref b ∧ G b = some (.tup (k.map kV)) := by
  cases h with
  | tup e1 t =>
    have := keysOf_eq t e
    subst this
    exact ⟨_, rfl, e1⟩
  | _ => cases e
end
end Da
end F46
section F47
/-! Dicts with tuples as keys, looked at; dicts of own lists (setdefault .. append); dicts by pairs of a text and a bool. -/
namespace Da
open PySem PySem.Spec PyProof.Rows L2 He Ds
/-! ### d.setdefault(k, e), k a tuple -/
section
variable {X : Cx} {pins : List (Addr × Obj)} {σ : L2.St} {H : Hp} {s : Shared} {a b : Addr} {r : Value} {d : V} {k : List Key} {A : Around} {E : Value → Shared → Prop}
theorem dt_setd {kvs : List (List Key × V)} {Q : Value → Shared → Prop} (hu : A.units + 1 < cLine) (I : L2.Inv X pins σ H s) (e : H a = some (.dT kvs)) (eb : H b = some (.tup (k.map kV))) (rd : RelV d r) (hl : kvs.length < sizeLine)
    (h1 : ∀ v, valV kvs k = some v → ∀ (w' : Value) (s' : Shared), L2.Inv X pins σ H s' → RelV v w' → Q w' s')
    (h2 : valV kvs k = none → ∀ s', L2.Inv X pins σ (upd H a (.dT (putK kvs k d))) s' → Q r s') :
    wpAny (model X.prog X.w) A (call (.builtin "dict.setdefault") [.ref a, .ref b, r]) Q E s := by
  obtain ⟨z, hd, xs, rel, dd⟩ := dt_of I.hok e
  have hz : xs.length ≤ sizeLine := by
    rw [← Paired.length rel]
    exact z
  refine call_setdefault_heap (hsz := hz) (tupleKind_room_in1 hu) (key_of I.hok eb) hd dd (fun p hp => ?_) fun hn h' dd' hs => ?_
  · have q := rel.val k
    rw [hp] at q
    cases q0 : valV kvs k with
    | none => rw [q0] at q; exact (show False from q).elim
    | some v0 => rw [q0] at q; exact h1 v0 q0 _ _ (I.tok _) q
  · have q := rel.val k
    rw [hn] at q
    cases q0 : valV kvs k with
    | some v0 => rw [q0] at q; exact (show False from q).elim
    | none =>
      refine h2 q0 _ ?_
      have hl2 : (putK kvs k d).length ≤ sizeLine := by have := length_putK kvs k d; omega
      obtain ⟨q, es, ep, hq, g2, g3, g4, _, g5⟩ := dd'
      refine d_write I (by rw [e]; exact True.intro) hs ⟨q, hq⟩ ⟨hl2, hd, _, (rel.put k eb rd).keeps fun c ys ec => ?_, q, es, ep, hq, g2, g3, g4, g5⟩
      rw [upd_ne (ne_of ec e (fun z => nomatch z))]
      exact ec
end
def tDSetdT (td ty tx : TE) : TE := fun σ H Q => td σ H fun x H1 => ∃ a, x = .ref a ∧ IsD H1 a ∧ ty σ H1 fun y H2 => tx σ H2 fun z H3 => ∃ (kvs : List (List Key × V)) (k : List Key) (b : Addr), H3 a = some (.dT kvs) ∧ y = .ref b ∧ H3 b = some (.tup (k.map kV)) ∧ kvs.length < sizeLine ∧
  (∀ v, valV kvs k = some v → Q v H3) ∧ (valV kvs k = none → Q z (upd H3 a (.dT (putK kvs k z))))
section
variable {X : Cx} {o e f : Expr} {td ty tx : TE} {apos cpos : Pos}
theorem pe_dsetdT (hu : X.A.units + 1 < cLine) (ho : PE X o td) (he : PE X e ty) (hf : PE X f tx) (m : M2 X o "setdefault" apos e f cpos) : PE X (.Call (.Attribute o "setdefault" apos) [e, f] [] cpos) (tDSetdT td ty tx) := by
  constructor
  intro pins s σ H Q I h
  refine wpAny_Call_method m.base m.few m.line PySem.F.plainAttrs_dict PySem.F.slot_dict_setdefault PySem.F.type_dict_setdefault (thn (ho.run pins s σ H _ I h) fun u s1 hq1 => ?_)
  obtain ⟨x, H1, I1, rx, a, ex, d, q1⟩ := hq1
  subst ex
  have eu : u = Value.ref a := rx
  subst eu
  obtain ⟨t1, t2, _⟩ := isD_at I1 d
  refine ⟨t1, t2, ?_⟩
  rw [m.trees]
  refine Calls.callWith_builtin rfl (Calls.evalArgs_plain (Calls.spliced_cons (thn (he.run pins s1 σ H1 _ I1 q1) fun iv s2 hq2 => ?_)))
  obtain ⟨y, H2, I2, ry, q2⟩ := hq2
  refine Calls.spliced_cons (thn (hf.run pins s2 σ H2 _ I2 q2) fun fv s3 hq3 => Calls.spliced_nil ?_)
  obtain ⟨z, H3, I3, rz, kvs, k, b, ea, ey, eb, hl, q3, q4⟩ := hq3
  subst ey
  have ei : iv = Value.ref b := ry
  subst ei
  exact dt_setd hu I3 ea eb rz hl (fun v hv w' s4 I4 rw' => ⟨v, _, I4, rw', q3 v hv⟩) fun hn s4 I4 => ⟨z, _, I4, rz, q4 hn⟩
end
section
variable {K : PySem.W.Frag} {W : WX} {c : Cc} {G G' H H' : Hp} {σ : L2.St} {ρ ρ1 ρ2 ρ3 : List Slot} {T : List En}
/-! ### d[k], d.get(k, e) of what is only looked at -/
def dgetT (a b : Bool × D) : M (Bool × D) := match a.2 with
  | .dicT ks ds => (match tkeyOf b.2 with
    | some k => (match getT ks ds k with
      | some d => mp (a.1 || flatD d, d)
      | none => mno)
    | none => mno)
  | _ => mno
def isTb : Option (Bool × D) → Bool
  | some (_, .dicT _ _) => true
  | _ => false
def getTL (f : Look) : Bool × List D → M (Bool × D) := fun r => fun ρ => match f ρ with
  | some (fr, .dicT ks ds) => (match r.2 with
    | [k, z] => (match tkeyOf k with
      | some k => (match getT ks ds k with
        | some d => .ok (fr || flatD d, d) ρ
        | none => .ok (r.1 || flatD z, z) ρ)
      | none => .no)
    | _ => .no)
  | _ => .no
def mGetTL (mc : M Look) (ma : M (List Slot)) : M (Bool × D) := mb mc fun f => fun ρ => if isTb (f ρ) = true then mDats ma (getTL f) ρ else .no
theorem de_getTL {td ty tx : TE} {mc : M Look} {ma : M (List Slot)} (hc : DB K W td mc) (ha : DA K W (tCons ty (tCons tx tNil)) ma) : DE K W (tDGet2 td ty tx) (mGetTL mc ma) := by
  intro c G H σ ρ T Q hK hl R p
  refine hc c G H σ ρ T _ hK hl R (Post.imp (Post.bind p) fun f ρ1 G1 H1 hl1 R1 s1 p1 x lx => ?_)
  by_cases hd : isTb (f ρ1) = true
  · rw [if_pos hd] at p1
    have h0 : ∃ p0 kvs, x = .ref p0 ∧ H1 p0 = some (.dT kvs) := by
      cases e : f ρ1 with
      | none => rw [e] at hd; cases hd
      | some z =>
        obtain ⟨fr, d⟩ := z
        rw [e] at hd
        cases d with
        | dicT ks ds =>
          obtain ⟨_, p0, vs, ev, h1, _⟩ := lx G1 H1 ρ1 fr _ R1 hl1 (Same.refl G1) e
          exact ⟨p0, _, ev, h1⟩
        | _ => cases hd
    obtain ⟨p0, kvs, rfl, hp⟩ := h0
    refine ⟨p0, rfl, .inr ⟨kvs, .inl hp⟩, ?_⟩
    have z : (tCons ty (tCons tx tNil)) σ H1 fun vs H3 => match vs with
      | [y, w] => ∃ o, DGet H3 p0 y o ∧ Q (o.getD w) H3
      | _ => False := by
      refine dats_core ha hK hl1 R1 p1 fun fr ds vs G2 H2 ρ2 hl2 R2 s2 hda hn q => ?_
      subst hK
      unfold getTL at q
      cases e3 : f ρ2 with
      | none => rw [e3] at q; exact q.elim
      | some z =>
        obtain ⟨f3, d3⟩ := z
        cases d3 with
        | dicT ks es =>
          rw [e3] at q
          dsimp only at q
          obtain ⟨_, p1, ws, ev, h2, hl3, hde⟩ := lx G2 H2 ρ2 f3 _ R2 hl2 s2 e3
          cases ev
          cases hda with
          | nil => exact q.elim
          | cons hk hda =>
            cases hda with
            | nil => exact q.elim
            | cons hz hda =>
              cases hda with
              | cons _ _ => exact q.elim
              | nil =>
                rename_i vk dk vz dz
                dsimp only at q
                cases e4 : tkeyOf dk with
                | none => rw [e4] at q; exact q.elim
                | some k =>
                  rw [e4] at q
                  dsimp only at q
                  obtain ⟨kb, rfl, ek⟩ := tkeyOf_eq hk e4
                  refine ⟨valV (ks.zip ws) k, DGet.t h2 (R2.gs _ _ ek), ?_⟩
                  obtain ⟨k1, k2⟩ := valT_dr (k := k) hl3 hde
                  cases eg : getT ks es k with
                  | some d =>
                    rw [eg] at q
                    obtain ⟨v, e7, hv⟩ := k1 d eg
                    rw [e7]
                    exact q hl2 G2 H2 R2 (Same.refl _) v hv.fl
                  | none =>
                    rw [eg] at q
                    rw [k2 eg]
                    exact q hl2 G2 H2 R2 (Same.refl _) _ hz.fl
        | _ => rw [e3] at q; exact q.elim
    exact z
  · rw [if_neg hd] at p1
    exact p1.elim
/-! ### pairs of a text and a bool as keys -/
def bkeyOf : D → Option BKey
  | .tup [.str x, .bl b] => some (x, b)
  | _ => none
theorem bkeyOf_eq {F : Addr → Prop} {v : V} {d : D} {k : BKey} (h : Dr K G F v d) (e : bkeyOf d = some k) : ∃ b, v = .ref b ∧ G b = some (.tup (bV k)) := by
  unfold bkeyOf at e
  split at e
  · cases e
    cases h with
    | tup e1 t => cases t with
      | cons h1 t => cases t with
        | cons h2 t =>
          cases t
          cases h1
          cases h2
          exact ⟨_, rfl, e1⟩
  · cases e
def getB (t : List (BKey × Bool)) (k : BKey) : Option Bool := (t.find? fun p => decide (p.1 = k)).map (·.2)
theorem bAt_get {k : BKey} : ∀ {rows : List BRow}, bAt rows k = getB (rows.map fun r => (r.1, r.2.2)) k
  | [] => rfl
  | r :: rows => by
    have ih := bAt_get (k := k) (rows := rows)
    unfold bAt getB at ih ⊢
    by_cases c : r.1 = k
    · simp [List.find?_cons, c]
    · simp [List.find?_cons, c]
      simpa using ih
open Classical in
noncomputable def dgetB (w : World) (a b : Bool × D) : M (Bool × D) := match a.2 with
  | .dicB w' t => if w' = w then (match bkeyOf b.2 with
    | some k => (match getB t k with
      | some z => mp (true, .bl z)
      | none => mno)
    | none => mno) else mno
  | _ => mno
noncomputable def mDgetB (w : World) (md : M Look) (mk : M (Bool × D)) : M (Bool × D) := mBin (dgetB w) md (mE mk)
theorem de_dgetB {w : World} {td ty : TE} {md : M Look} {mk : M (Bool × D)} (ha : DB K W td md) (hb : DE K W ty mk) : DE K W (tDGetB w td ty) (mDgetB w md mk) := by
  intro c G H σ ρ T Q hK hl R p
  refine bin_core (ta := td) (tb := ty) ha hb.b hK hl R p fun a b x y G2 H2 ρ2 hl2 R2 s2 ia ib q => ?_
  obtain ⟨f, a⟩ := a
  obtain ⟨g, b⟩ := b
  cases a with
  | dicB w' t =>
    unfold dgetB at q
    dsimp only at q
    by_cases hw : w' = w
    · rw [if_pos hw] at q
      subst hw
      cases ek : bkeyOf b with
      | none => rw [ek] at q; exact q.elim
      | some k =>
        rw [ek] at q
        dsimp only at q
        cases e : getB t k with
        | none => rw [e] at q; exact q.elim
        | some z =>
          rw [e] at q
          obtain ⟨p, rows, rfl, h1, h2, h3⟩ := ia.2
          obtain ⟨kb, rfl, hkb⟩ := bkeyOf_eq ib.1 ek
          exact ⟨p, rows, k, kb, z, rfl, h1, h2.up R2.gs, rfl, hkb, by rw [bAt_get, ← h3, e], q hl2 G2 H2 R2 (Same.refl G2) _ (.bl z)⟩
    · rw [if_neg hw] at q
      exact q.elim
  | _ => exact False.elim q
def sNewB (w : World) (i : Nat) : S := fun ρ => if i < ρ.length then .nx (ρ.set i (.dcB w [])) else .no
theorem ds_newB {w : World} {i : Nat} : DS K W (tAsg (tDNewB w) (gName i)) (sNewB w i) := by
  intro c G H σ ρ E hK hl R p
  unfold sNewB at p
  split at p
  · rename_i hi
    intro q nq
    have R2 : Rel c G (upd H q (dbO w q [])) ((some (.ref q), .dcB w []) :: (σ.zip ρ ++ [])) := R.newHeld nq rfl ⟨R.h0 nq, [], by rw [upd_same], fun _ h => by simp at h, rfl⟩
    exact nx_put hl hi R2 p
  · exact p.elim
def hasDcB (i : Nat) (ρ : List Slot) : Bool := match ρ[i]? with
  | some (.dcB _ _) => true
  | _ => false
open Classical in
noncomputable def putSB (w : World) (i : Nat) (v k : Bool × D) : S := fun ρ => match ρ[i]? with
  | some (.dcB w' t) => if w' = w then (match bkeyOf k.2, v.2 with
    | some k, .bl z => if (t.all fun p => !decide (p.1 = k)) = true ∧ t.length < 100000 then .nx (ρ.set i (.dcB w (t ++ [(k, z)]))) else .no
    | _, _ => .no) else .no
  | _ => .no
noncomputable def sPutB (w : World) (i : Nat) (mk mv : M (Bool × D)) : S := sE mv fun v => sGuard (hasDcB i) (sE mk (putSB w i v))
theorem ds_putB {w : World} (i : Nat) {ty tv : TE} {mk mv : M (Bool × D)} (hk : DE K W ty mk) (hv : DE K W tv mv) : DS K W (sDPutB w (tVar i) ty tv) (sPutB w i mk mv) := by
  intro c G H σ ρ E hK hl R p
  refine hv c G H σ ρ [] _ hK hl R (sE_post p fun a ρ1 G1 H1 hl1 R1 s1 q1 v r => ?_)
  unfold sGuard at q1
  by_cases hd : hasDcB i ρ1 = true
  · rw [if_pos hd] at q1
    have h0 : ∃ p0, σ[i]? = some (some (V.ref p0)) := by
      unfold hasDcB at hd
      cases e : ρ1[i]? with
      | none => rw [e] at hd; cases hd
      | some s => cases s with
        | dcB w' t =>
          obtain ⟨o, e1, e2⟩ := zip_get hl1 e
          obtain ⟨p, eo, _⟩ := R1.sl _ (zip_mem (T := []) e2)
          cases eo
          exact ⟨p, e1⟩
        | _ => rw [e] at hd; cases hd
    obtain ⟨p0, e1⟩ := h0
    refine ⟨.ref p0, e1, ?_⟩
    refine hk c G1 H1 σ ρ1 [] _ hK hl1 R1 (sE_post q1 fun b ρ2 G2 H2 hl2 R2 s2 q2 y ry => ?_)
    unfold putSB at q2
    cases e3 : ρ2[i]? with
    | none => rw [e3] at q2; exact q2.elim
    | some s => cases s with
      | dcB w' t =>
        rw [e3] at q2
        dsimp only at q2
        by_cases hw : w' = w
        · rw [if_pos hw] at q2
          subst hw
          cases e4 : bkeyOf b.2 with
          | none => rw [e4] at q2; exact q2.elim
          | some k =>
            rw [e4] at q2
            obtain ⟨fa, da⟩ := a
            cases da with
            | bl z =>
              dsimp only at q2
              by_cases hz : (t.all fun p => !decide (p.1 = k)) = true ∧ t.length < 100000
              · rw [if_pos hz] at q2
                obtain ⟨o', e5, e6⟩ := zip_get hl2 e3
                have eo : o' = some (.ref p0) := Option.some.inj (e5.symm.trans e1)
                subst eo
                have R3 := R2.out e6
                obtain ⟨p1, eq, g1, h1, ⟨h0, rows, h2, hks, hts⟩, _⟩ := R3.head rfl
                cases eq
                subst hK
                obtain ⟨kb, rfl, ek⟩ := bkeyOf_eq ry e4
                cases r
                have hn : k ∉ rows.map (·.1) := fun hm => by
                  obtain ⟨x, hx, hxe⟩ := List.mem_map.mp hm
                  have := List.all_eq_true.mp hz.1 (x.1, x.2.2) (by rw [hts]; exact List.mem_map.mpr ⟨x, hx, rfl⟩)
                  dsimp only at this
                  rw [decide_eq_true hxe] at this
                  cases this
                have hlen : rows.length = t.length := by rw [hts, List.length_map]
                refine ⟨p0, rows, k, kb, z, rfl, rfl, h2, hks.up R2.gs, rfl, R2.gs _ _ ek, hn, by rw [hlen]; exact Nat.lt_of_lt_of_le hz.2 (by decide), ?_⟩
                have R4 := R3.mutO (s' := .dcB w' (t ++ [(k, z)])) (u := dbO w' p0 (rows ++ [(k, kb, z)])) rfl rfl (.inr h0) ⟨h0, rows ++ [(k, kb, z)], upd_same, fun x hx => by
                  rcases List.mem_append.mp hx with hx | hx
                  · exact hks x hx
                  · rw [List.mem_singleton] at hx
                    subst hx
                    exact ek, by rw [hts, List.map_append]; rfl⟩
                exact q2 σ G2 _ rfl (by rw [List.length_set]; exact hl2) (Rel.back' hl2 e5 R4) (Same.refl G2)
              · rw [if_neg hz] at q2
                exact q2.elim
            | _ => exact q2.elim
        · rw [if_neg hw] at q2
          exact q2.elim
      | _ => rw [e3] at q2; exact q2.elim
  · rw [if_neg hd] at q1
    exact q1.elim
end
end Da
end F47
section F48
/-! Own lists that stand in a dict of the call's own: d.setdefault(k, []).append(v). -/
namespace Da
open PySem PySem.Spec PyProof.Rows L2 He Ds
section
variable {K : PySem.W.Frag} {W : WX} {c : Cc} {G G' H H' : Hp} {σ : L2.St} {ρ ρ1 ρ2 ρ3 : List Slot} {T : List En}
def sNewL (i : Nat) : S := fun ρ => if i < ρ.length then .nx (ρ.set i (.own2 true (some []) [])) else .no
theorem ds_newL {i : Nat} : DS K W (tAsg tDNewT (gName i)) (sNewL i) := by
  intro c G H σ ρ E hK hl R p
  unfold sNewL at p
  split at p
  · rename_i hi
    intro q nq
    have R2 : Rel c G (upd H q (.dT [])) ((some (.ref q), .own2 true (some []) []) :: (σ.zip ρ ++ [])) := R.newHeld nq rfl ⟨R.h0 nq, [], by rw [upd_same]; rfl, rfl, .nil⟩ (.inl rfl)
    exact nx_put hl hi R2 p
  · exact p.elim
theorem InL.len {fr : Bool} : ∀ {as : List Addr} {dss : List (List D)}, InL c G H fr as dss → as.length = dss.length
  | _, _, .nil => rfl
  | _, _, .cons _ _ _ _ t => by rw [List.length_cons, List.length_cons, t.len]
theorem InL.get {fr : Bool} : ∀ {as : List Addr} {dss : List (List D)} {j : Nat} {a : Addr}, InL c G H fr as dss → as[j]? = some a → ∃ vs ds, dss[j]? = some ds ∧ c.H0 a = none ∧ G a = none ∧ H a = some (.lst vs) ∧ DrA c.K G (Fl c fr) vs ds
  | _, _, _, _, .nil, e => by simp at e
  | _, _, 0, _, .cons h0 g h d _, e => by
    simp at e
    subst e
    exact ⟨_, _, rfl, h0, g, h, d⟩
  | _, _, j + 1, _, .cons _ _ _ _ t, e => by
    obtain ⟨vs, ds, h1, h2⟩ := t.get (j := j) (by simpa using e)
    exact ⟨vs, ds, by simpa using h1, h2⟩
theorem InL.set {fr : Bool} {a : Addr} {vs : List V} {ds : List D} (ha : H' a = some (.lst vs)) (hd : DrA c.K G (Fl c fr) vs ds) (k : ∀ b, b ≠ a → (H b ≠ none) → H' b = H b) : ∀ {as : List Addr} {dss : List (List D)} {j : Nat}, InL c G H fr as dss → as.Nodup → as[j]? = some a → InL c G H' fr as (dss.set j ds)
  | _, _, _, .nil, _, e => by simp at e
  | _, _, 0, .cons h0 g h d t, n, e => by
    simp at e
    subst e
    have n' := (List.nodup_cons.mp n).1
    exact .cons h0 g ha hd (t.keep (Same.refl G) fun b hb => ⟨k b (fun z => n' (z ▸ hb)) (t.mem hb).2.2, rfl⟩)
  | _, _, j + 1, .cons (a := a0) (as := as0) h0 g h d t, n, e => by
    have e' : as0[j]? = some a := by simpa using e
    have n' := List.nodup_cons.mp n
    have : a0 ≠ a := fun z => n'.1 (z ▸ List.mem_of_getElem? e')
    exact .cons h0 g (by rw [k a0 this (by rw [h]; intro z; cases z), h]) d (t.set ha hd k n'.2 e')
theorem InL.append {fr : Bool} : ∀ {as bs : List Addr} {dss ess : List (List D)}, InL c G H fr as dss → InL c G H fr bs ess → InL c G H fr (as ++ bs) (dss ++ ess)
  | _, _, _, _, .nil, t => t
  | _, _, _, _, .cons h0 g h d s, t => .cons h0 g h d (s.append t)
/-- where the key stands, or at the end -/
def setdK : List (List Key) → List (List D) → List Key → D → List (List Key) × List (List D)
  | k0 :: ks, ds :: dss, k, d => if k0 = k then (k0 :: ks, (ds ++ [d]) :: dss) else (k0 :: (setdK ks dss k d).1, ds :: (setdK ks dss k d).2)
  | _, _, k, d => ([k], [[d]])
theorem setd_cases {k : List Key} {d : D} : ∀ {ks : List (List Key)} {dss : List (List D)} {as : List Addr}, ks.length = dss.length → as.length = dss.length →
    (∃ j a ds, ks[j]? = some k ∧ as[j]? = some a ∧ dss[j]? = some ds ∧ valV (ks.zip (refs as)) k = some (.ref a) ∧ setdK ks dss k d = (ks, dss.set j (ds ++ [d]))) ∨ (valV (ks.zip (refs as)) k = none ∧ putK (ks.zip (refs as)) k = (fun v => ks.zip (refs as) ++ [(k, v)]) ∧ setdK ks dss k d = (ks ++ [k], dss ++ [[d]]))
  | [], [], [], _, _ => .inr ⟨rfl, by funext v; rfl, rfl⟩
  | k0 :: ks, ds :: dss, a :: as, h1, h2 => by
    have e0 : ((k0 :: ks).zip (refs (a :: as))) = (k0, V.ref a) :: ks.zip (refs as) := rfl
    by_cases e : k0 = k
    · subst e
      refine .inl ⟨0, a, ds, rfl, rfl, rfl, by rw [e0, valV_pos rfl], ?_⟩
      unfold setdK
      rw [if_pos rfl]
      rfl
    · have u : setdK (k0 :: ks) (ds :: dss) k d = (k0 :: (setdK ks dss k d).1, ds :: (setdK ks dss k d).2) := by
        conv => lhs; unfold setdK
        rw [if_neg e]
      rcases setd_cases (k := k) (d := d) (show ks.length = dss.length by simpa using h1) (show as.length = dss.length by simpa using h2) with ⟨j, a', ds', g1, g2, g3, g4, g5⟩ | ⟨g1, g2, g3⟩
      · refine .inl ⟨j + 1, a', ds', by simpa using g1, by simpa using g2, by simpa using g3, by rw [e0, valV_neg e]; exact g4, ?_⟩
        rw [u, g5]
        rfl
      · refine .inr ⟨by rw [e0, valV_neg e]; exact g1, ?_, by rw [u, g3]; rfl⟩
        funext v
        have : ((k0, V.ref a) :: ks.zip (refs as)).any (fun kv => decide (kv.1 = k)) = false := by
          rw [valV_any, valV_neg e, g1]; rfl
        rw [e0]
        unfold putK
        rw [this, if_neg (by decide)]
  | [], _ :: _, _, h, _ => by simp at h
  | _ :: _, [], _, h, _ => by simp at h
  | [], [], _ :: _, _, h => by simp at h
  | _ :: _, _ :: _, [], _, h => by simp at h
def hasO2 (i : Nat) (ρ : List Slot) : Bool := match ρ[i]? with
  | some (.own2 _ (some _) _) => true
  | _ => false
def setdS (i : Nat) (b1 b2 : Bool) (k : Bool × D) : M (Bool × D) := fun ρ => match ρ[i]? with
  | some (.own2 fr (some ks) dss) => (match tkeyOf k.2 with
    | some k => if ks.length < 100000 ∧ (dss.all fun ds => decide (ds.length < 100000)) = true ∧ ks.length = dss.length then .ok (true, .non) (ρ.set i (.own2 fr (some (setdK ks dss k (.tup [.bl b1, .bl b2])).1) (setdK ks dss k (.tup [.bl b1, .bl b2])).2)) else .no
    | none => .no)
  | _ => .no
def mSetd (i : Nat) (b1 b2 : Bool) (mk : M (Bool × D)) : M (Bool × D) := fun ρ => if hasO2 i ρ = true then mb mk (setdS i b1 b2) ρ else .no
theorem zip_append_one {ks : List (List Key)} {k : List Key} {vs : List V} {v : V} (h : ks.length = vs.length) : ks.zip vs ++ [(k, v)] = (ks ++ [k]).zip (vs ++ [v]) := by
  rw [List.zip_append h]; rfl
theorem ownL_o2 {p : Addr} {fr : Bool} {k : Option (List (List Key))} {dss : List (List D)} {as : List Addr} (e : H p = some (o2 k as)) (h : o2len k as.length) : ownL H (some (V.ref p), Slot.own2 fr k dss) = p :: as := by
  unfold ownL
  rw [if_pos (show isOwn (some (V.ref p), Slot.own2 fr k dss).2 = true from rfl)]
  show p :: (if isNest (Slot.own2 fr k dss) = true then subs (H p) else []) = p :: as
  rw [if_pos (show isNest (Slot.own2 fr k dss) = true from rfl), e, subs_o2 h]
theorem setd_core {i : Nat} {b1 b2 : Bool} {ty : TE} {mk : M (Bool × D)} (hk : DE K W ty mk) : DE K W (tBM K "list" rAppend (tDSetdT (tVar i) ty (tLst tNil)) (tCons (tTup (tCons (tC (.bl b1)) (tCons (tC (.bl b2)) tNil))) tNil)) (mSetd i b1 b2 mk) := by
  intro c G H σ ρ T Q hK hl R p
  unfold mSetd at p
  by_cases hd : hasO2 i ρ = true
  · rw [if_pos hd] at p
    have h0 : ∃ p0 kvs, σ[i]? = some (some (V.ref p0)) ∧ H p0 = some (.dT kvs) := by
      unfold hasO2 at hd
      cases e : ρ[i]? with
      | none => rw [e] at hd; cases hd
      | some s => cases s with
        | own2 fr k dss => cases k with
          | none => rw [e] at hd; cases hd
          | some ks =>
            obtain ⟨o, e1, e2⟩ := zip_get hl e
            obtain ⟨p, eo, _, _, _, as, h2, _⟩ := R.sl _ (zip_mem (T := T) e2)
            cases eo
            exact ⟨p, _, e1, h2⟩
        | _ => rw [e] at hd; cases hd
    obtain ⟨p0, kvs0, e1, hp0⟩ := h0
    refine ⟨.ref p0, e1, p0, rfl, .inr ⟨kvs0, .inl hp0⟩, ?_⟩
    refine hk c G H σ ρ T _ hK hl R (Post.imp (Post.bind p) fun b ρ2 G2 H2 hl2 R2 s2 q2 y ry => ?_)
    unfold setdS at q2
    cases e3 : ρ2[i]? with
    | none => rw [e3] at q2; exact q2.elim
    | some s => cases s with
      | own2 fr kk dss => cases kk with
        | none => rw [e3] at q2; exact q2.elim
        | some ks =>
          rw [e3] at q2
          dsimp only at q2
          cases e4 : tkeyOf b.2 with
          | none => rw [e4] at q2; exact q2.elim
          | some k =>
            rw [e4] at q2
            dsimp only at q2
            by_cases hz : ks.length < 100000 ∧ (dss.all fun ds => decide (ds.length < 100000)) = true ∧ ks.length = dss.length
            · rw [if_pos hz] at q2
              obtain ⟨o', e5, e6⟩ := zip_get hl2 e3
              have eo : o' = some (.ref p0) := Option.some.inj (e5.symm.trans e1)
              subst eo
              have R3 := R2.out e6
              obtain ⟨p1, eq, g1, h1, ⟨h0, as, h2, hln, hin⟩, _⟩ := R3.head rfl
              cases eq
              subst hK
              obtain ⟨kb, rfl, ek⟩ := tkeyOf_eq ry e4
              have hla : as.length = dss.length := hin.len
              have nd : (p0 :: as).Nodup := by
                have := R3.nd
                unfold ownE at this
                rw [List.flatMap_cons, ownL_o2 h2 hln] at this
                exact (List.nodup_append.mp this).1
              have oL : ownL H2 (some (V.ref p0), Slot.own2 fr (some ks) dss) = p0 :: as := ownL_o2 h2 hln
              show _ ∧ _
              refine ⟨by decide, fun q nq => ?_⟩
              have qp : q ≠ p0 := fun z => by subst z; exact h1 nq
              refine ⟨ks.zip (refs as), k, kb, by rw [upd_ne (Ne.symm qp)]; exact h2, rfl, ?_, ?_, fun v hv => ?_, fun hv => ?_⟩
              · rw [upd_ne fun z => ?_]
                · exact R2.gs _ _ ek
                · subst z
                  rw [R2.gs _ _ ek] at nq
                  cases nq
              · rw [List.length_zip]
                exact Nat.lt_of_le_of_lt (Nat.min_le_left _ _) (Nat.lt_of_lt_of_le hz.1 (by decide))
              · -- there
                rcases setd_cases (k := k) (d := .tup [.bl b1, .bl b2]) (as := as) hz.2.2 hla with ⟨j, a, ds, g2, g3, g4, g5, g6⟩ | ⟨g2, _, _⟩
                · rw [g5] at hv
                  cases hv
                  obtain ⟨vs, ds', i1, i2, i3, i4, i5⟩ := hin.get g3
                  rw [g4] at i1
                  cases i1
                  have am : a ∈ as := List.mem_of_getElem? g3
                  have aq : a ≠ q := fun z => by subst z; rw [i4] at nq; cases nq
                  have ap : a ≠ p0 := fun z => (List.nodup_cons.mp nd).1 (z ▸ am)
                  have hads : ds.length < 100000 := of_decide_eq_true (List.all_eq_true.mp hz.2.1 ds (List.mem_of_getElem? g4))
                  refine ⟨.inl ⟨rfl, vs, SqL.of (by rw [upd_ne aq]; exact i4)⟩, ?_⟩
                  show _ ∧ _
                  refine ⟨(by show 2 ≤ sizeLine; decide), fun q2' nq2 => ?_⟩
                  have q2q : q2' ≠ q := fun z => by subst z; rw [upd_same] at nq2; cases nq2
                  rw [upd_ne q2q] at nq2
                  have aq2 : a ≠ q2' := fun z => by subst z; rw [i4] at nq2; cases nq2
                  show rAppend _ _ _ _
                  refine ⟨a, vs, .ref q2', rfl, rfl, by rw [upd_ne aq2, upd_ne aq]; exact i4, by rw [i5.len]; exact Nat.lt_of_lt_of_le hads (by decide), ?_⟩
                  -- the tuple is data
                  have R4 := R3.new (o := .tup [V.bl b1, V.bl b2]) nq2
                  have R5 : Rel c (upd G2 q2' (.tup [V.bl b1, V.bl b2])) (upd (upd (upd H2 q (.lst [])) q2' (.tup [V.bl b1, V.bl b2])) a (.lst (vs ++ [V.ref q2']))) ((some (V.ref p0), Slot.own2 fr (some (setdK ks dss k (.tup [.bl b1, .bl b2])).1) (setdK ks dss k (.tup [.bl b1, .bl b2])).2) :: rest σ ρ2 T i) := by
                    have hg4 : ∀ b', upd H2 q2' (.tup [V.bl b1, V.bl b2]) b' ≠ none → b' ≠ a → (upd (upd (upd H2 q (.lst [])) q2' (.tup [V.bl b1, V.bl b2])) a (.lst (vs ++ [V.ref q2']))) b' = upd H2 q2' (.tup [V.bl b1, V.bl b2]) b' := fun b' hb' hba => by
                      rw [upd_ne hba]
                      by_cases z : b' = q2'
                      · subst z; rw [upd_same, upd_same]
                      · rw [upd_ne z, upd_ne z]
                        rw [upd_ne z] at hb'
                        rw [upd_ne fun z' => by subst z'; exact hb' nq]
                    have oL4 : ownL (upd H2 q2' (.tup [V.bl b1, V.bl b2])) (some (V.ref p0), Slot.own2 fr (some ks) dss) = p0 :: as := ownL_o2 (by rw [upd_ne fun z => by subst z; exact h1 nq2]; exact h2) hln
                    have e0' : (upd (upd (upd H2 q (.lst [])) q2' (.tup [V.bl b1, V.bl b2])) a (.lst (vs ++ [V.ref q2']))) p0 = some (o2 (some ks) as) := by
                      rw [upd_ne (Ne.symm ap), upd_ne (fun z => by subst z; exact h1 nq2), upd_ne (Ne.symm qp)]
                      exact h2
                    have sG : Same G2 (upd G2 q2' (.tup [V.bl b1, V.bl b2])) := same_new (Same.refl G2) (R2.gn nq2)
                    have hin4 : InL c (upd G2 q2' (.tup [V.bl b1, V.bl b2])) (upd H2 q2' (.tup [V.bl b1, V.bl b2])) fr as dss := hin.keep sG fun b' hb' => by
                      have : b' ≠ q2' := fun z => by subst z; exact (hin.mem hb').2.2 nq2
                      exact ⟨upd_ne this, upd_ne this⟩
                    have tupd : Dr c.K (upd G2 q2' (.tup [V.bl b1, V.bl b2])) (Fl c fr) (.ref q2') (.tup [.bl b1, .bl b2]) := .tup upd_same (.cons (.bl b1) (.cons (.bl b2) .nil))
                    have hin5 := hin4.set (H' := upd (upd (upd H2 q (.lst [])) q2' (.tup [V.bl b1, V.bl b2])) a (.lst (vs ++ [V.ref q2']))) (ds := ds ++ [.tup [.bl b1, .bl b2]]) upd_same ((i5.up sG).append (.cons tupd .nil)) (fun b' hb' hn => hg4 b' hn hb') (List.nodup_cons.mp nd).2 g3
                    rw [g6]
                    refine R4.mutA (fun b' z => ?_) (fun b' hb' => ?_) (fun b' hb' z => ?_) ((slot_own rfl).mpr ⟨p0, rfl, by rw [upd_ne fun z => by subst z; exact h1 nq2]; exact g1, (by rw [e0']; intro z; cases z), h0, as, e0', hln, hin5⟩) (by rw [ownL_o2 e0' hln]; exact nd) (fun b' hb' => .inl (by rw [oL4, ← ownL_o2 (fr := fr) (dss := dss.set j (ds ++ [.tup [.bl b1, .bl b2]])) e0' hln]; exact hb'))
                    · by_cases hn : upd H2 q2' (.tup [V.bl b1, V.bl b2]) b' = none
                      · exact .inr hn
                      · by_cases hba : b' = a
                        · subst hba; exact .inl (by rw [oL4]; exact List.mem_cons_of_mem _ am)
                        · exact absurd (hg4 b' hn hba) z
                    · by_cases hba : b' = a
                      · subst hba; rw [upd_same]; intro z; cases z
                      · rw [hg4 b' hb' hba]; exact hb'
                    · right
                      rw [oL4] at hb'
                      rcases List.mem_cons.mp hb' with rfl | hb'
                      · exact h0
                      · exact (hin.mem hb').1
                  have R6 := Rel.back' hl2 e5 R5
                  exact q2 (by rw [List.length_set]; exact hl2) _ _ R6 (same_new (Same.refl G2) (R2.gn nq2)) .non .non
                · rw [g2] at hv; cases hv
              · -- new
                rcases setd_cases (k := k) (d := .tup [.bl b1, .bl b2]) (as := as) hz.2.2 hla with ⟨j, a, ds, _, _, _, g5, _⟩ | ⟨_, g2, g3⟩
                · rw [g5] at hv; cases hv
                · rw [g2]
                  refine ⟨.inl ⟨rfl, [], SqL.of (by rw [upd_ne qp, upd_same])⟩, ?_⟩
                  show _ ∧ _
                  refine ⟨(by show 2 ≤ sizeLine; decide), fun q2' nq2 => ?_⟩
                  have q2p : q2' ≠ p0 := fun z => by subst z; rw [upd_same] at nq2; cases nq2
                  rw [upd_ne q2p] at nq2
                  have q2q : q2' ≠ q := fun z => by subst z; rw [upd_same] at nq2; cases nq2
                  rw [upd_ne q2q] at nq2
                  show rAppend _ _ _ _
                  refine ⟨q, [], .ref q2', rfl, rfl, by rw [upd_ne (Ne.symm q2q), upd_ne qp, upd_same], by decide, ?_⟩
                  have R4 := R3.new (o := .tup [V.bl b1, V.bl b2]) nq2
                  have sG : Same G2 (upd G2 q2' (.tup [V.bl b1, V.bl b2])) := same_new (Same.refl G2) (R2.gn nq2)
                  have gq : G2 q = none := R2.gn nq
                  have hq0 : c.H0 q = none := R2.h0 nq
                  have ezip : ks.zip (refs as) ++ [(k, V.ref q)] = (ks ++ [k]).zip (refs (as ++ [q])) := by
                    rw [zip_append_one (by show ks.length = (as.map V.ref).length; rw [List.length_map]; exact hln)]
                    show _ = (ks ++ [k]).zip ((as ++ [q]).map V.ref)
                    rw [List.map_append]; rfl
                  have hln' : o2len (some (ks ++ [k])) (as ++ [q]).length := by
                    show (ks ++ [k]).length = (as ++ [q]).length
                    rw [List.length_append, List.length_append]
                    exact congrArg (· + 1) (show ks.length = as.length from hln)
                  have R5 : Rel c (upd G2 q2' (.tup [V.bl b1, V.bl b2])) (upd (upd (upd (upd H2 q (.lst [])) p0 (.dT (ks.zip (refs as) ++ [(k, V.ref q)]))) q2' (.tup [V.bl b1, V.bl b2])) q (.lst ([] ++ [V.ref q2']))) ((some (V.ref p0), Slot.own2 fr (some (setdK ks dss k (.tup [.bl b1, .bl b2])).1) (setdK ks dss k (.tup [.bl b1, .bl b2])).2) :: rest σ ρ2 T i) := by
                    have hg4 : ∀ b', b' ≠ q → b' ≠ p0 → (upd (upd (upd (upd H2 q (.lst [])) p0 (.dT (ks.zip (refs as) ++ [(k, V.ref q)]))) q2' (.tup [V.bl b1, V.bl b2])) q (.lst ([] ++ [V.ref q2']))) b' = upd H2 q2' (.tup [V.bl b1, V.bl b2]) b' := fun b' hbq hbp => by
                      rw [upd_ne hbq]
                      by_cases z : b' = q2'
                      · subst z; rw [upd_same, upd_same]
                      · rw [upd_ne z, upd_ne z, upd_ne hbp, upd_ne hbq]
                    have oL4 : ownL (upd H2 q2' (.tup [V.bl b1, V.bl b2])) (some (V.ref p0), Slot.own2 fr (some ks) dss) = p0 :: as := ownL_o2 (by rw [upd_ne (Ne.symm q2p)]; exact h2) hln
                    have e0' : (upd (upd (upd (upd H2 q (.lst [])) p0 (.dT (ks.zip (refs as) ++ [(k, V.ref q)]))) q2' (.tup [V.bl b1, V.bl b2])) q (.lst ([] ++ [V.ref q2']))) p0 = some (o2 (some (ks ++ [k])) (as ++ [q])) := by
                      rw [upd_ne (Ne.symm qp), upd_ne (Ne.symm q2p), upd_same, ezip]
                      rfl
                    have qa : q ∉ as := fun hm => (hin.mem hm).2.2 nq
                    have hin4 : InL c (upd G2 q2' (.tup [V.bl b1, V.bl b2])) (upd (upd (upd (upd H2 q (.lst [])) p0 (.dT (ks.zip (refs as) ++ [(k, V.ref q)]))) q2' (.tup [V.bl b1, V.bl b2])) q (.lst ([] ++ [V.ref q2']))) fr as dss := hin.keep sG fun b' hb' => by
                      have z1 : b' ≠ q2' := fun z => by subst z; exact (hin.mem hb').2.2 nq2
                      have z2 : b' ≠ q := fun z => qa (z ▸ hb')
                      have z3 : b' ≠ p0 := fun z => (List.nodup_cons.mp nd).1 (z ▸ hb')
                      exact ⟨by rw [hg4 b' z2 z3, upd_ne z1], upd_ne z1⟩
                    have tupd : Dr c.K (upd G2 q2' (.tup [V.bl b1, V.bl b2])) (Fl c fr) (.ref q2') (.tup [.bl b1, .bl b2]) := .tup upd_same (.cons (.bl b1) (.cons (.bl b2) .nil))
                    have hin5 := hin4.append (InL.cons (as := []) (dss := []) hq0 (by rw [upd_ne (Ne.symm q2q)]; exact gq) upd_same (DrA.cons tupd .nil) .nil)
                    rw [g3]
                    have nd' : (p0 :: (as ++ [q])).Nodup := by
                      have n1 := List.nodup_cons.mp nd
                      refine List.nodup_cons.mpr ⟨fun hm => ?_, List.nodup_append.mpr ⟨n1.2, by simp, fun x hx y hy e => qa (by rw [List.mem_singleton] at hy; rw [← hy, ← e]; exact hx)⟩⟩
                      rcases List.mem_append.mp hm with hm | hm
                      · exact n1.1 hm
                      · rw [List.mem_singleton] at hm; exact qp hm.symm
                    refine R4.mutA (fun b' z => ?_) (fun b' hb' => ?_) (fun b' hb' z => ?_) ((slot_own rfl).mpr ⟨p0, rfl, by rw [upd_ne (Ne.symm q2p)]; exact g1, (by rw [e0']; intro z; cases z), h0, as ++ [q], e0', hln', hin5⟩) (by rw [ownL_o2 e0' hln']; exact nd') (fun b' hb' => ?_)
                    · by_cases z1 : b' = q
                      · subst z1; exact .inr (by rw [upd_ne (Ne.symm q2q)]; exact nq)
                      · by_cases z2 : b' = p0
                        · subst z2; exact .inl (by rw [oL4]; exact List.mem_cons_self)
                        · exact absurd (hg4 b' z1 z2) z
                    · by_cases z1 : b' = q
                      · subst z1; rw [upd_same]; intro z; cases z
                      · by_cases z2 : b' = p0
                        · subst z2; rw [e0']; intro z; cases z
                        · rw [hg4 b' z1 z2]; exact hb'
                    · right
                      rw [oL4] at hb'
                      rcases List.mem_cons.mp hb' with rfl | hb'
                      · exact h0
                      · exact (hin.mem hb').1
                    · rw [ownL_o2 e0' hln'] at hb'
                      rcases List.mem_cons.mp hb' with rfl | hb'
                      · exact .inl (by rw [oL4]; exact List.mem_cons_self)
                      · rcases List.mem_append.mp hb' with hb' | hb'
                        · exact .inl (by rw [oL4]; exact List.mem_cons_of_mem _ hb')
                        · rw [List.mem_singleton] at hb'
                          subst hb'
                          exact .inr (by rw [upd_ne (Ne.symm q2q)]; exact nq)
                  have R6 := Rel.back' hl2 e5 R5
                  exact q2 (by rw [List.length_set]; exact hl2) _ _ R6 sG .non .non
            · rw [if_neg hz] at q2
              exact q2.elim
      | _ => rw [e3] at q2; exact q2.elim
  · rw [if_neg hd] at p
    exact p.elim
/-! ### such a thing is not changed any more -/
def o2D (k : Option (List (List Key))) (ds : List D) : D := match k with
  | none => .lst ds
  | some ks => .dicT ks ds
def mRetL (i : Nat) : M (Bool × D) := fun ρ => match ρ[i]? with
  | some (.own2 fr k dss) => .ok (fr, o2D k (dss.map D.lst)) (ρ.set i (.dat fr (o2D k (dss.map D.lst))))
  | _ => .no
theorem InL.frozen {fr : Bool} {G' : Hp} (sG : Same G G') : ∀ {as : List Addr} {dss : List (List D)}, InL c G H fr as dss → (∀ a ∈ as, G' a = H a) → (∀ a, G a = none → c.G0 a = none) → DrA c.K G' (Fl c fr) (refs as) (dss.map D.lst)
  | _, _, .nil, _, _ => .nil
  | _, _, .cons h0 g h d t, e, z => .cons (.lst (by rw [e _ List.mem_cons_self, h]) (fun _ => z _ g) (d.up sG)) (t.frozen sG (fun a ha => e a (List.mem_cons_of_mem _ ha)) z)
theorem de_varL (i : Nat) : DE K W (tVar i) (mRetL i) := by
  intro c G H σ ρ T Q hK hl R h
  unfold mRetL at h
  cases e : ρ[i]? with
  | none => rw [e] at h; exact h.elim
  | some s =>
    rw [e] at h
    obtain ⟨o, e1, e2⟩ := zip_get hl e
    cases s with
    | own2 fr k dss =>
      have R1 := R.out e2
      obtain ⟨p, eq, h1, h2, ⟨h3, as, h4, hl2, h5⟩, h6⟩ := R1.head rfl
      subst eq
      have oL : ownL H (some (V.ref p), Slot.own2 fr k dss) = p :: as := ownL_o2 h4 hl2
      obtain ⟨R2, sG⟩ := R1.freezeA (as := p :: as) fun a ha => ⟨by
        rcases List.mem_cons.mp ha with rfl | ha
        · exact h3
        · exact (h5.mem ha).1, by rw [oL]; exact ha⟩
      have fz := h5.frozen sG (fun a ha => by show (if a ∈ p :: as then _ else _) = _; rw [if_pos (List.mem_cons_of_mem _ ha)]) fun a ha => R1.g0n ha
      have ep : updA G H (p :: as) p = some (o2 k as) := by show (if p ∈ p :: as then _ else _) = _; rw [if_pos List.mem_cons_self, h4]
      have hd2 : Dr c.K (updA G H (p :: as)) (Fl c fr) (.ref p) (o2D k (dss.map D.lst)) := by
        cases k with
        | none => exact .lst ep (fun _ => R1.g0n h1) fz
        | some ks => exact .dicT ep (by show ks.length = (as.map V.ref).length; rw [List.length_map]; exact hl2) (fun _ => R1.g0n h1) fz
      have R3 := Rel.back' hl e1 (R2.dat hd2)
      subst hK
      exact ⟨.ref p, e1, h (by rw [List.length_set]; exact hl) _ H R3 sG _ hd2⟩
    | _ => exact h.elim
end
end Da
end F48
section F49
namespace Da
open PySem PySem.Spec PyProof.Rows L2 He Ds
/-! What the laws of barred things have in common (printed by tools/gen2.py). -/
def B_joins_of_1 : S := (sSeq (sDrop (mSetd 1 false true (mTup (maCons (mDat (mVar 2)) (maCons (mDat (mVar 3)) (mp []))))))
 (sDrop (mSetd 1 true false (mTup (maCons (mDat (mVar 3)) (maCons (mDat (mVar 2)) (mp [])))))))
def B_joins_of_2 : S := (sSeq (sDrop (mSetd 1 true true (mTup (maCons (mDat (mVar 2)) (maCons (mDat (mVar 3)) (mp []))))))
 (sDrop (mSetd 1 true true (mTup (maCons (mDat (mVar 3)) (maCons (mDat (mVar 2)) (mp [])))))))
def D_joins_of : List D → Out := runD 4 1 (sSeq (sNewL 1)
 (sSeq (sFor (mIt itList (mProp "Diagram" D_Diagram_arrows (mVar 0))) (tgTup 2 (tgsCons (tgName 2) (tgsCons (tgName 3) tgsNil)))
 B_joins_of_1)
 (sSeq (sFor (mIt itList (mProp "Diagram" D_Diagram_pairs (mVar 0))) (tgTup 2 (tgsCons (tgName 2) (tgsCons (tgName 3) tgsNil)))
 B_joins_of_2)
 (sRet (mRetL 1)))))
noncomputable def B_passes_of_1 (w : World) : S := (sSeq (sPutB w 2 (mTup (maCons (mDat (mVar 3)) (maCons (mDat (mp (true, D.bl false))) (mp [])))) (mOp dNotIn (mLook 3) (mLook 1)))
 (sPutB w 2 (mTup (maCons (mDat (mVar 3)) (maCons (mDat (mp (true, D.bl true))) (mp [])))) (mUn dAnyB (mE (mKeep (mComp [4] (mIt itList (mVar 1)) (tgName 4) (mp true) (mOp dIn (mLook 3) (mE (mMethN "Diagram" "leading_to" D_Diagram_leading_to (mVar 0) (maCons (mDat (mVar 4)) (mp [])))))))))))
noncomputable def D_passes_of (w : World) : List D → Out := runD 5 2 (sSeq (sNewB w 2)
 (sSeq (sFor (mIt itList (mProp "Diagram" D_Diagram_names (mVar 0))) (tgName 3)
 (B_passes_of_1 w))
 (sRet (mRetV 2))))
noncomputable def D_marks_onward (w : World) : List D → Out := runD 10 4 (sSeq (sAsg (tgTup 2 (tgsCons (tgName 4) (tgsCons (tgName 5) tgsNil))) (mVar 2))
 (sSeq (sSet 6 (mBin mIxL (mLook 4) (mE (mUn dNeg (mE (mp (true, D.int 1)))))))
 (sRet (mKeep (mComp [7, 8] (mIt itList (mGetTL (mLook 0) (maCons (mDat (mTup (maCons (mDat (mVar 6)) (maCons (mDat (mVar 3)) (mp []))))) (maCons (mDat (mKeep (mLst (mp [])))) (mp []))))) (tgTup 2 (tgsCons (tgName 7) (tgsCons (tgName 8) tgsNil))) (mT (mUn dAnyB (mE (mKeep (mComp [9] (mIt itList (mVar 5)) (tgName 9) (mp true) (mDgetB w (mLook 1) (mTup (maCons (mDat (mVar 6)) (maCons (mDat (mAndV (mVar 9) (mVar 7))) (mp [])))))))))) (mVar 8))))))
noncomputable def B_longer_trails_1 (w : World) : S := (sIf (mT (mOp dNotIn (mLook 7) (mLook 4)))
 (sSeq (sSet 8 (mCall (D_marks_onward w) (maCons (mDat (mVar 1)) (maCons (mDat (mVar 2)) (maCons (mDat (mVar 3)) (maCons (mDat (mVar 7)) (mp [])))))))
 (sIf (mTru (mLook 8))
 (sDrop (mMut 6 (maCons (mDat (mTup (maCons (mDat (mKeep (mBin mCatK (mLook 4) (mE (mKeep (mLst (maCons (mDat (mVar 7)) (mp [])))))))) (maCons (mDat (mVar 8)) (mp []))))) (mp [])) kAppend))
 sNil))
 sNil)
noncomputable def D_longer_trails (w : World) : List D → Out := runD 9 4 (sSeq (sAsg (tgTup 2 (tgsCons (tgName 4) (tgsCons (tgName 5) tgsNil))) (mVar 3))
 (sSeq (sSetO 6 (mLst (mp [])))
 (sSeq (sFor (mIt itList (mVar 0)) (tgName 7)
 (B_longer_trails_1 w))
 (sRet (mRetV 6)))))
def B_find_way_1 (w : World) : S := (sIf (mT (mOp dEq (mE (mBin mIxL (mLook 7) (mE (mUn dNeg (mE (mp (true, D.int 1))))))) (mLook 2)))
 (sRet (mVar 7))
 sNil)
noncomputable def B_find_way_2 (w : World) : S := (sSeq (sFor (mIt itList (mVar 6)) (tgTup 2 (tgsCons (tgName 7) (tgsCons (tgName 8) tgsNil)))
 (B_find_way_1 w))
 (sSet 6 (mKeep (mComp2 [9, 10] (mIt itList (mVar 6)) (tgName 9) (mp true) [10] (mIt itList (mCall (D_longer_trails w) (maCons (mDat (mProp "Diagram" D_Diagram_names (mVar 0))) (maCons (mDat (mVar 4)) (maCons (mDat (mVar 5)) (maCons (mDat (mVar 9)) (mp []))))))) (tgName 10) (mp true) (mVar 10)))))
noncomputable def D_find_way (w : World) : List D → Out := runD 11 4 (sSeq (sSet 4 (mCall D_joins_of (maCons (mDat (mVar 0)) (mp []))))
 (sSeq (sSet 5 (mCallX (D_passes_of w) (maCons (mDat (mVar 0)) (maCons (mDat (mVar 3)) (mp [])))))
 (sSeq (sSet 6 (mKeep (mLst (maCons (mDat (mTup (maCons (mDat (mKeep (mLst (maCons (mDat (mVar 1)) (mp []))))) (maCons (mDat (mKeep (mLst (maCons (mDat (mp (true, D.bl false))) (mp []))))) (mp []))))) (mp [])))))
 (sSeq (sWhile 100000 (mTru (mLook 6))
 (B_find_way_2 w))
 (sRet (mp (true, D.non)))))))
def B_barred_1 (w : World) : S := (sDrop (mCallX D_check_names (maCons (mDat (mVar 0)) (maCons (mDat (mVar 4)) (mp [])))))
noncomputable def D_barred (w : World) : List D → Out := runD 9 4 (sSeq (sFor (mIt itTup (mTup (maCons (mDat (mVar 1)) (maCons (mDat (mVar 2)) (maCons (mDat (mVar 3)) (mp [])))))) (tgName 4)
 (B_barred_1 w))
 (sSeq (sDrop (mCallX D_check_apart (maCons (mDat (mVar 2)) (maCons (mDat (mVar 1)) (mp [])))))
 (sSeq (sDrop (mCallX D_check_apart (maCons (mDat (mVar 3)) (maCons (mDat (mKeep (mBin mCatK (mLook 1) (mLook 2)))) (mp [])))))
 (sSeq (sSet 5 (mKeep (mComp2 [6, 7] (mIt itList (mVar 1)) (tgName 6) (mp true) [7] (mIt itList (mVar 2)) (tgName 7) (mp true) (mCall (D_find_way w) (maCons (mDat (mVar 0)) (maCons (mDat (mVar 6)) (maCons (mDat (mVar 7)) (maCons (mDat (mVar 3)) (mp [])))))))))
 (sRet (mUn dAllB (mE (mKeep (mComp [8] (mIt itList (mVar 5)) (tgName 8) (mp true) (mOp dIsN (mLook 8) (mE (mp (true, D.non)))))))))))))
def B_open_way_1 (w : World) : S := (sDrop (mCallX D_check_names (maCons (mDat (mVar 0)) (maCons (mDat (mVar 4)) (mp [])))))
noncomputable def D_open_way (w : World) : List D → Out := runD 5 4 (sSeq (sFor (mIt itTup (mTup (maCons (mDat (mKeep (mLst (maCons (mDat (mVar 1)) (mp []))))) (maCons (mDat (mKeep (mLst (maCons (mDat (mVar 2)) (mp []))))) (maCons (mDat (mVar 3)) (mp [])))))) (tgName 4)
 (B_open_way_1 w))
 (sSeq (sDrop (mCallX D_check_apart (maCons (mDat (mVar 3)) (maCons (mDat (mKeep (mLst (maCons (mDat (mVar 1)) (maCons (mDat (mVar 2)) (mp [])))))) (mp [])))))
 (sRet (mCallX (D_find_way w) (maCons (mDat (mVar 0)) (maCons (mDat (mVar 1)) (maCons (mDat (mVar 2)) (maCons (mDat (mVar 3)) (mp [])))))))))
end Da
end F49
section F50
/-! A list taken apart: a, b, c = some. -/
namespace Da
open PySem PySem.Spec PyProof.Rows L2 He Ds
section
variable {X : Cx} {K : PySem.W.Frag} {es : List Expr} {pos : Pos}
theorem pg_lstK {k : Nat} {tt : TGs} {n : Nat} (h : PGs X es tt) (hc : X.calm = true := by rfl) (hK : X.K = K := by rfl) (hn : (assignEach es X.env).length = n := by rfl) (hst : (assignEach es X.env).findIdx? (·.1) = none := by rfl) :
    PG X (.Tuple es k pos) (gLst K n tt) := hK ▸ pg_lst hc h hn hst
def tgLst (n : Nat) (u : Bool → List D → List Slot → Option (List Slot)) : Tgt := fun a ρ => match a.2 with
  | .lst ds => if ds.length = n then u a.1 ds ρ else none
  | _ => none
theorem dg_lst {tv : List Nat} {n : Nat} {gs : TGs} {u : Bool → List D → List Slot → Option (List Slot)} (h : DGs K tv gs u) : DG K tv (gLst K n gs) (tgLst n u) := by
  intro c G H σ ρ ρ' T v a Q hK hl R r e q
  obtain ⟨f, d⟩ := a
  cases r with
  | lst e1 hF t =>
    subst hK
    unfold tgLst at e
    dsimp only at e
    split at e
    · rename_i hn
      exact ⟨_, _, rfl, SqL.of (R.gs _ _ e1), by rw [t.len]; exact hn, h c G H σ ρ ρ' T _ f _ Q rfl hl R t e q⟩
    · cases e
  | _ => cases e
end
end Da
end F50
namespace Da
open PySem PySem.Spec PyProof.Rows L2 He Ds
local macro_rules | `(tactic| walk_at "a1ev") => `(tactic| try simp only [runD, runP, runI, initS, sSeq, sE, sSet, sSetO, sSetD, sRet, sRetN, sNil, sIf, sDrop, sAsg, sPar, sRaise, setAll, mb, mp, mo, mno, mVar, mLook, lookV, isSet, mE, mOp, mUn, mBin, mOne, mT, mBl, mTru, truD, mAnd, mOr, mNot, mAndV, mOrV, mNotV, mNotT, mIf, mTup, mLst, mKeep, mDats, dats, mDat, mOwn, maCons, mCall, mCallX, mRetV, mFld, fldD, mProp, outN, outM, isObj, flatD, flatDs, mMut, onOwn, getOwn, kAppend, kInsert, kPopAt, kExtend, mPop, sPut, sGuard, hasDct, putS, mDisp1, keyOf, mListK, mCatK, mIxL, mIxT, mSl, mSlL, mPart, sSelfC, outI, outIN, mMake, mMakeX, mMeth, mMethN, isObjM, tgName, tgTup, tgsCons, tgsNil,
  List.map_cons, List.map_nil, List.length_cons, List.length_nil, List.cons_append, List.nil_append, List.replicate, List.getElem?_cons_zero, List.getElem?_cons_succ, List.set_cons_zero, List.set_cons_succ, if_true, if_false, ite_true, ite_false, Bool.true_and, Bool.and_true, Bool.or_true, Bool.true_or, Bool.false_or, Bool.or_false, Bool.false_and, Bool.and_false, Option.map_some, Option.bind_some, Nat.add_eq, Nat.reduceAdd, Nat.reduceSub, Nat.reduceLeDiff, Nat.reduceLT, Nat.reduceEqDiff, Option.isSome_some, reduceCtorEq, decide_true, decide_false, Bool.not_true, Bool.not_false, not_true_eq_false, not_false_eq_true, Bool.not_eq_true, in_strs, notIn_strs, in_prs, eq_str, ne_str, eq_int, ne_int, eq_bl, ne_bl, eq_strs, ne_strs, eq_strss])
local macro_rules | `(tactic| walk_at "a1evh") => `(tactic| try simp only [runD, runP, runI, initS, sSeq, sE, sSet, sSetO, sSetD, sRet, sRetN, sNil, sIf, sDrop, sAsg, sPar, sRaise, setAll, mb, mp, mo, mno, mVar, mLook, lookV, isSet, mE, mOp, mUn, mBin, mOne, mT, mBl, mTru, truD, mAnd, mOr, mNot, mAndV, mOrV, mNotV, mNotT, mIf, mTup, mLst, mKeep, mDats, dats, mDat, mOwn, maCons, mCall, mCallX, mRetV, mFld, fldD, mProp, outN, outM, isObj, flatD, flatDs, mMut, onOwn, getOwn, kAppend, kInsert, kPopAt, kExtend, mPop, sPut, sGuard, hasDct, putS, mDisp1, keyOf, mListK, mCatK, mIxL, mIxT, mSl, mSlL, mPart, sSelfC, outI, outIN, mMake, mMakeX, mMeth, mMethN, isObjM, tgName, tgTup, tgsCons, tgsNil,
  List.map_cons, List.map_nil, List.length_cons, List.length_nil, List.cons_append, List.nil_append, List.replicate, List.getElem?_cons_zero, List.getElem?_cons_succ, List.set_cons_zero, List.set_cons_succ, if_true, if_false, ite_true, ite_false, Bool.true_and, Bool.and_true, Bool.or_true, Bool.true_or, Bool.false_or, Bool.or_false, Bool.false_and, Bool.and_false, Option.map_some, Option.bind_some, Nat.add_eq, Nat.reduceAdd, Nat.reduceSub, Nat.reduceLeDiff, Nat.reduceLT, Nat.reduceEqDiff, Option.isSome_some, reduceCtorEq, decide_true, decide_false, Bool.not_true, Bool.not_false, not_true_eq_false, not_false_eq_true, Bool.not_eq_true, in_strs, notIn_strs, in_prs, eq_str, ne_str, eq_int, ne_int, eq_bl, ne_bl, eq_strs, ne_strs, eq_strss, *])
section F51
open PySem PySem.Spec PyProof.Rows L2 He Ds
theorem runD_ok {N n : Nat} {s : S} {ds : List D} {fr : Bool} {d : D} (hn : ds.length = n) (h : ∃ ρ, s (initS N (ds.map (.dat false))) = .rt fr d ρ) : runD N n s ds = .ok (fr || flatD d) d := by
  obtain ⟨ρ, h⟩ := h
  unfold runD
  rw [if_pos hn, h]
theorem runD_nx {N n : Nat} {s : S} {ds : List D} (hn : ds.length = n) (h : ∃ ρ, s (initS N (ds.map (.dat false))) = .nx ρ) : runD N n s ds = .ok true .non := by
  obtain ⟨ρ, h⟩ := h
  unfold runD
  rw [if_pos hn, h]
theorem runD_er {N n : Nat} {s : S} {ds : List D} {k : Str} {d : D} (hn : ds.length = n) (h : ∃ ρ, s (initS N (ds.map (.dat false))) = .er k d ρ) : runD N n s ds = .er k d := by
  obtain ⟨ρ, h⟩ := h
  unfold runD
  rw [if_pos hn, h]
/-! ### dicts as marks -/
abbrev dF (F : List Str) : Slot := .dct true (F.map Sum.inr) (F.map fun _ => D.bl true)
theorem getD_F (F : List Str) (s : Str) : (getD (F.map Sum.inr) (F.map fun _ => D.bl true) (Sum.inr s)).isSome = decide (s ∈ F) := by
  unfold getD
  induction F with
  | nil => rfl
  | cons x F ih =>
    rw [List.map_cons, List.map_cons, List.zip_cons_cons, List.find?_cons]
    by_cases h : x = s
    · subst h; simp
    · have h2 : ¬ (Sum.inr x : Key) = Sum.inr s := fun e => h (Sum.inr.inj e)
      have h3 : ¬ s = x := fun e => h e.symm
      simp only [h2, decide_false]
      rw [ih]
      simp [h3]
theorem putD_F {F : List Str} {s : Str} (h : s ∉ F) : putD (F.map Sum.inr) (F.map fun _ => D.bl true) (Sum.inr s) (.bl true) = ((F ++ [s]).map Sum.inr, (F ++ [s]).map fun _ => D.bl true) := by
  unfold putD
  rw [if_neg]
  · simp
  · simp only [List.any_map, Function.comp_def, Bool.not_eq_true]
    rw [List.any_eq_false]
    intro x hx
    have : ¬ (Sum.inr x : Key) = Sum.inr s := fun e => h (Sum.inr.inj e ▸ hx)
    simp [this]
theorem tagL_map {α : Type} {f : Bool} {e : α → D} {xs : List α} (h : ∀ x ∈ xs, flatD (e x) = true) : tagL f (xs.map e) = xs.map fun x => (true, e x) := by
  unfold tagL
  rw [List.map_map]
  refine List.map_congr_left fun x hx => ?_
  simp [h x hx]
theorem tag_sL (f : Bool) (xs : List Str) : tagL f (xs.map D.str) = xs.map fun x => (true, D.str x) := tagL_map fun _ _ => rfl
theorem tag_pL (f : Bool) (xs : List Pr) : tagL f (xs.map prD) = xs.map fun x => (true, prD x) := tagL_map fun _ _ => rfl
/-- a comprehension over plain items -/
theorem comp_map {α : Type} {e : α → Bool × D} {vs : List Nat} {t : Tgt} {tt : M Bool} {te : M (Bool × D)} {ρ0 ρ : List Slot} {p : α → Bool} {g : α → D} {xs : List α}
    (h : ∀ a ∈ xs, ∃ ρ1, t (e a) ρ = some ρ1 ∧ tt ρ1 = .ok (p a) ρ1 ∧ (p a = true → te ρ1 = .ok (true, g a) ρ1) ∧ wipeS ρ1 vs = ρ) (hl : xs.length ≤ 100000) :
    compD vs t tt te ρ0 (xs.map e) true [] ρ = .ok (true, (xs.filter p).map g) (unw ρ0 vs ρ) := by
  have gen : ∀ {ys : List α} {acc : List D}, (∀ a ∈ ys, a ∈ xs) → acc.length + ys.length ≤ 100000 → compD vs t tt te ρ0 (ys.map e) true acc ρ = .ok (true, acc ++ (ys.filter p).map g) (unw ρ0 vs ρ) := by
    intro ys
    induction ys with
    | nil => intro acc _ _; simp [compD]
    | cons a ys ih =>
      intro acc hm hz
      obtain ⟨ρ1, h1, h2, h3, h4⟩ := h a (hm a (by simp))
      rw [List.length_cons] at hz
      rw [List.map_cons]
      unfold compD
      rw [h1]
      dsimp only
      rw [h2]
      cases q : p a with
      | false =>
        dsimp only
        rw [h4, ih (fun b hb => hm b (by simp [hb])) (by omega)]
        simp [q]
      | true =>
        dsimp only
        rw [h3 q]
        dsimp only
        rw [if_pos (by omega), h4]
        have := ih (acc := acc ++ [g a]) (fun b hb => hm b (by simp [hb])) (by rw [List.length_append]; simp; omega)
        simp only [Bool.true_or, Bool.and_true] at this ⊢
        rw [this]
        simp [q]
  have := gen (ys := xs) (acc := []) (fun _ h => h) (by simpa using hl)
  simpa using this
theorem nodup_snoc {F : List Str} {s : Str} (h : F.Nodup) (n : s ∉ F) : (F ++ [s]).Nodup := by
  rw [List.nodup_append]
  exact ⟨h, by simp, fun u hu v hv e => by
    have e2 : v = s := by simpa using hv
    exact n (by rw [← e2, ← e]; exact hu)⟩
/-! ### things_leading -/
structure TLI (ps : List Pr) (x : Str) (F wl : List Str) : Prop where
  nd : F.Nodup
  hx : x ∈ F
  ld : ∀ f ∈ F, Leads ps f x
  sb : ∀ f ∈ F, f ∈ x :: ps.map (·.1)
  wf : ∀ y ∈ wl, y ∈ F
  cl : ∀ u v, (u, v) ∈ ps → v ∈ F → v ∉ wl → u ∈ F
theorem TLI.len {ps : List Pr} {x : Str} {F wl : List Str} (h : TLI ps x F wl) : F.length ≤ 1 + ps.length := by
  have := nodup_le h.nd h.sb
  rw [List.length_cons, List.length_map] at this
  omega
theorem ev_things_leading (ns : List Str) (ps : List Pr) (x : Str) (h1 : ns.length ≤ 10000) (h2 : ps.length ≤ 10000) : D_things_leading [sL ns, pL ps, .str x] = .ok true (sL (leading ns ps x)) := by
  unfold D_things_leading
  obtain ⟨I, hI⟩ : ∃ I : Nat → List Slot → Prop, I = fun m ρ => ∃ (F wl : List Str) (v5 v6 v7 : Slot), ρ = [.dat false (sL ns), .dat false (pL ps), .dat false (.str x), dF F, .own true (wl.map D.str), v5, v6, v7] ∧ TLI ps x F wl ∧ wl.length ≤ F.length ∧ m = 2 * (1 + ps.length - F.length) + wl.length := ⟨_, rfl⟩
  obtain ⟨J, hJ⟩ : ∃ J : List Slot → Prop, J = fun ρ => ∃ (F : List Str) (v5 v6 v7 : Slot), ρ = [.dat false (sL ns), .dat false (pL ps), .dat false (.str x), dF F, .own true [], v5, v6, v7] ∧ TLI ps x F [] := ⟨_, rfl⟩
  have start : I (2 * ps.length + 1) [.dat false (sL ns), .dat false (pL ps), .dat false (.str x), dF [x], .own true ([x].map D.str), .no, .no, .no] := by
    rw [hI]
    refine ⟨[x], [x], .no, .no, .no, rfl, ⟨by simp, by simp, fun f hf => ?_, fun f hf => ?_, fun y hy => hy, fun u v _ h1 h2 => absurd h1 h2⟩, Nat.le_refl _, ?_⟩
    · simp at hf; rw [hf]; exact .refl x
    · simp at hf; simp [hf]
    · show 2 * ps.length + 1 = 2 * (1 + ps.length - 1) + 1; omega
  obtain ⟨ρ', w1, w2⟩ := while_inv (t := mTru (mLook 4)) (b := B_things_leading_2) I J
    (fun m ρ h => by
      rw [hI] at h
      obtain ⟨F, wl, v5, v6, v7, rfl, T, wF, hm⟩ := h
      rcases List.eq_nil_or_concat wl with e | ⟨wi, t, e⟩
      · subst e
        refine .inl ⟨by walk_at "a1ev"; rfl, ?_⟩
        rw [hJ]
        exact ⟨F, v5, v6, v7, rfl, T⟩
      · rw [List.concat_eq_append] at e
        subst e
        rw [List.length_append, List.length_singleton] at wF hm
        have tF : t ∈ F := T.wf t (by simp)
        -- the inner loop
        obtain ⟨B, hB⟩ : ∃ B : Nat → List Slot → Prop, B = fun i ρ => ∃ (G wl : List Str) (v6 v7 : Slot), ρ = [.dat false (sL ns), .dat false (pL ps), .dat false (.str x), dF G, .own true (wl.map D.str), .dat true (.str t), v6, v7] ∧
            G.Nodup ∧ x ∈ G ∧ (∀ f ∈ G, Leads ps f x) ∧ (∀ f ∈ G, f ∈ x :: ps.map (·.1)) ∧ (∀ y ∈ wl, y ∈ G) ∧ (∀ u v, (u, v) ∈ ps → v ∈ G → v ∉ wl → u ∈ G ∨ (v = t ∧ (u, v) ∉ ps.take i)) ∧
            F.length ≤ G.length ∧ wl.length + F.length = wi.length + G.length ∧ t ∈ G := ⟨_, rfl⟩
        obtain ⟨ρ2, f1, f2⟩ := for_inv (t := tgTup 2 (tgsCons (tgName 6) (tgsCons (tgName 7) tgsNil))) (b := B_things_leading_1) B
          (its := ps.map fun p => (true, prD p)) (k := 0) (ρ := [.dat false (sL ns), .dat false (pL ps), .dat false (.str x), dF F, .own true (wi.map D.str), .dat true (.str t), v6, v7])
          (by
            rw [hB]
            refine ⟨F, wi, v6, v7, rfl, T.nd, T.hx, T.ld, T.sb, fun y hy => T.wf y (by simp [hy]), fun u v h1 h2 h3 => ?_, Nat.le_refl _, rfl, tF⟩
            by_cases e : v = t
            · exact .inr ⟨e, by simp⟩
            · exact .inl (T.cl u v h1 h2 (by simp [h3, e])))
          (fun i a ρ ha hb => by
            rw [Nat.zero_add] at hb ⊢
            rw [hB] at hb
            obtain ⟨G, wl, v6, v7, rfl, gnd, gx, gl, gs, gw, gc, gF, gW, gt⟩ := hb
            obtain ⟨⟨po, pu⟩, hpp, rfl⟩ := map_get ha
            have hGl : G.length ≤ 1 + ps.length := by
              have := nodup_le gnd gs
              rw [List.length_cons, List.length_map] at this
              omega
            have hps : (po, pu) ∈ ps := List.mem_of_getElem? hpp
            have tk := take_succ_of hpp
            have keep : ¬ (pu = t ∧ po ∉ G) → ∀ u v, (u, v) ∈ ps → v ∈ G → v ∉ wl → u ∈ G ∨ (v = t ∧ (u, v) ∉ ps.take (i + 1)) := fun hn u v h1 h2 h3 => by
              rcases gc u v h1 h2 h3 with z | ⟨z1, z2⟩
              · exact .inl z
              · by_cases e : (u, v) = (po, pu)
                · have e1 : u = po := congrArg Prod.fst e
                  have e2 : v = pu := congrArg Prod.snd e
                  subst e1 e2
                  refine .inl (Classical.byContradiction fun z => hn ⟨z1, z⟩)
                · refine .inr ⟨z1, ?_⟩
                  rw [tk]
                  simp only [List.mem_append, List.mem_singleton, not_or]
                  exact ⟨z2, e⟩
            refine ⟨[.dat false (sL ns), .dat false (pL ps), .dat false (.str x), dF G, .own true (wl.map D.str), .dat true (.str t), .dat true (.str po), .dat true (.str pu)], ?_⟩
            by_cases c1 : pu = t
            · by_cases c2 : po ∈ G
              · refine ⟨[.dat false (sL ns), .dat false (pL ps), .dat false (.str x), dF G, .own true (wl.map D.str), .dat true (.str t), .dat true (.str po), .dat true (.str pu)], rfl, ?_, ?_⟩
                · have e1 : dinK true (true, D.str po) (true, D.dic (G.map Sum.inr) (G.map fun _ => D.bl true)) = some (true, .bl false) := by
                    unfold dinK; walk_at "a1ev"; rw [getD_F, decide_eq_true c2]; rfl
                  subst c1
                  unfold B_things_leading_1
                  walk_at "a1ev"
                  simp only [mDin, mBin, mb, mE, mp, mVar, mLook, lookV, isSet]
                  walk_at "a1ev"
                  rw [e1]
                  rfl
                · rw [hB]
                  exact ⟨G, wl, _, _, rfl, gnd, gx, gl, gs, gw, keep fun z => z.2 c2, gF, gW, gt⟩
              · refine ⟨[.dat false (sL ns), .dat false (pL ps), .dat false (.str x), dF (G ++ [po]), .own true ((wl ++ [po]).map D.str), .dat true (.str t), .dat true (.str po), .dat true (.str pu)], rfl, ?_, ?_⟩
                · have e1 : dinK true (true, D.str po) (true, D.dic (G.map Sum.inr) (G.map fun _ => D.bl true)) = some (true, .bl true) := by
                    unfold dinK; walk_at "a1ev"; rw [getD_F, decide_eq_false c2]; rfl
                  have hz : (G.map (Sum.inr : Str → Key)).length < 100000 := by rw [List.length_map]; omega
                  have hw : (wl.map D.str).length < 100000 := by rw [List.length_map]; omega
                  subst c1
                  unfold B_things_leading_1
                  walk_at "a1ev"
                  simp only [mDin, mBin, mb, mE, mp, mVar, mLook, lookV, isSet]
                  walk_at "a1ev"
                  rw [e1]
                  walk_at "a1ev"
                  rw [if_pos hz, putD_F c2]
                  walk_at "a1ev"
                  rw [if_pos hw]
                  simp
                · rw [hB]
                  refine ⟨G ++ [po], wl ++ [po], _, _, rfl, nodup_snoc gnd c2, List.mem_append_left _ gx, fun f hf => ?_, fun f hf => ?_, fun y hy => ?_, fun u v h1 h2 h3 => ?_, by rw [List.length_append]; omega, by rw [List.length_append, List.length_append]; simp; omega, List.mem_append_left _ gt⟩
                  · rcases List.mem_append.mp hf with hf | hf
                    · exact gl f hf
                    · have e2 : f = po := by simpa using hf
                      rw [e2]
                      exact .step hps (gl _ (by rw [c1]; exact gt))
                  · rcases List.mem_append.mp hf with hf | hf
                    · exact gs f hf
                    · have e2 : f = po := by simpa using hf
                      rw [e2]
                      exact List.mem_cons_of_mem _ (List.mem_map.mpr ⟨_, hps, rfl⟩)
                  · rcases List.mem_append.mp hy with hy | hy
                    · exact List.mem_append_left _ (gw y hy)
                    · exact List.mem_append_right _ hy
                  · simp only [List.mem_append, List.mem_singleton, not_or] at h2 h3 ⊢
                    rcases h2 with h2 | h2
                    · rcases gc u v h1 h2 h3.1 with z | ⟨z1, z2⟩
                      · exact .inl (.inl z)
                      · by_cases e : (u, v) = (po, pu)
                        · exact .inl (.inr (congrArg Prod.fst e))
                        · refine .inr ⟨z1, ?_⟩
                          rw [tk]
                          simp only [List.mem_append, List.mem_singleton, not_or]
                          exact ⟨z2, e⟩
                    · exact absurd h2 h3.2
            · refine ⟨[.dat false (sL ns), .dat false (pL ps), .dat false (.str x), dF G, .own true (wl.map D.str), .dat true (.str t), .dat true (.str po), .dat true (.str pu)], rfl, ?_, ?_⟩
              · unfold B_things_leading_1
                walk_at "a1evh"
              · rw [hB]
                exact ⟨G, wl, _, _, rfl, gnd, gx, gl, gs, gw, keep fun z => c1 z.1, gF, gW, gt⟩)
        rw [hB] at f2
        obtain ⟨G, wl, v6', v7', rfl, gnd, gx, gl, gs, gw, gc, gF, gW, gt⟩ := f2
        refine .inr ⟨[.dat false (sL ns), .dat false (pL ps), .dat false (.str x), dF G, .own true (wl.map D.str), .dat true (.str t), v6', v7'], 2 * (1 + ps.length - G.length) + wl.length, ?_, ?_, ?_, ?_⟩
        · walk_at "a1ev"
          simp
        · have e1 : sSet 5 (mPop 4) [.dat false (sL ns), .dat false (pL ps), .dat false (.str x), dF F, .own true ((wi ++ [t]).map D.str), v5, v6, v7] = .nx [.dat false (sL ns), .dat false (pL ps), .dat false (.str x), dF F, .own true (wi.map D.str), .dat true (.str t), v6, v7] := by
            rw [List.map_append]
            walk_at "a1ev"
            simp [flatD]
          unfold B_things_leading_2
          rw [sSeq, e1]
          dsimp only
          rw [sFor, sE, mIt, mb]
          simp only [mVar, List.getElem?_cons_succ, List.getElem?_cons_zero, itList, mo, mp, tag_pL]
          exact f1
        · have := (show G.length ≤ 1 + ps.length by
            have := nodup_le gnd gs
            rw [List.length_cons, List.length_map] at this
            omega)
          omega
        · rw [hI]
          refine ⟨G, wl, _, _, _, rfl, ⟨gnd, gx, gl, gs, gw, fun u v h1 h2 h3 => ?_⟩, ?_, rfl⟩
          · rcases gc u v h1 h2 h3 with z | ⟨_, z2⟩
            · exact z
            · exact absurd (by rw [List.length_map, Nat.zero_add, List.take_length]; exact h1) z2
          · omega) start (show 2 * ps.length + 1 < 100000 by omega)
  rw [hJ] at w2
  obtain ⟨F, v5, v6, v7, rfl, T⟩ := w2
  have hF : ∀ t ∈ ns, t ∈ F ↔ Leads ps t x := fun t _ => ⟨T.ld t, fun l => l.closed T.hx fun u v h1 h2 => T.cl u v h1 h2 (by simp)⟩
  have e0 : ∀ ρ, sSeq (sSetD 3 (mDisp1 (mVar 2) (mp (true, D.bl true)))) ρ [.dat false (sL ns), .dat false (pL ps), .dat false (.str x), .no, .no, .no, .no, .no] = ρ [.dat false (sL ns), .dat false (pL ps), .dat false (.str x), dF [x], .no, .no, .no, .no] := fun ρ => by walk_at "a1ev"; rfl
  have e1 : ∀ ρ, sSeq (sSetO 4 (mLst (maCons (mDat (mVar 2)) (mp [])))) ρ [.dat false (sL ns), .dat false (pL ps), .dat false (.str x), dF [x], .no, .no, .no, .no] = ρ [.dat false (sL ns), .dat false (pL ps), .dat false (.str x), dF [x], .own true ([x].map D.str), .no, .no, .no] := fun ρ => by walk_at "a1ev"; try rfl
  have ec : compD [5] (tgName 5) (mT (mDin false (mVar 5) (mLook 3))) (mVar 5) [.dat false (sL ns), .dat false (pL ps), .dat false (.str x), dF F, .own true [], v5, v6, v7] (ns.map fun s => (true, D.str s)) true [] [.dat false (sL ns), .dat false (pL ps), .dat false (.str x), dF F, .own true [], .no, v6, v7] =
      .ok (true, (ns.filter fun t => decide (t ∈ F)).map D.str) _ := comp_map (fun s hs => ⟨[.dat false (sL ns), .dat false (pL ps), .dat false (.str x), dF F, .own true [], .dat true (.str s), v6, v7], rfl, by
        have e1 : dinK false (true, D.str s) (true, D.dic (F.map Sum.inr) (F.map fun _ => D.bl true)) = some (true, .bl (decide (s ∈ F))) := by
          unfold dinK; walk_at "a1ev"; rw [getD_F]
        simp only [mDin, mBin, mT, mb, mE, mp, mVar, mLook, lookV, isSet]
        walk_at "a1ev"
        rw [e1]
        rfl, fun _ => rfl, rfl⟩) (by omega)
  refine runD_ok (fr := true) rfl ?_
  show ∃ ρ, sSeq _ _ [.dat false (sL ns), .dat false (pL ps), .dat false (.str x), .no, .no, .no, .no, .no] = _
  rw [e0, e1, sSeq, sWhile, w1]
  dsimp only
  simp only [sRet, sE, mKeep, mComp, mIt, mb, mVar, List.getElem?_cons_zero, itList, mo, mp, tag_sL, wipeS, List.set_cons_succ, List.set_cons_zero]
  rw [ec, leading_eq hF]
  exact ⟨_, rfl⟩
end F51
section F52
open PySem PySem.Spec PyProof.Rows L2 He Ds
theorem enD_get' {α : Type} {f : Bool} {e : α → D} {xs : List α} (hf : ∀ x ∈ xs, flatD (e x) = true) {i : Nat} {a : Bool × D} (h : (enD f 0 (xs.map e))[i]? = some a) : ∃ x, xs[i]? = some x ∧ a = (true, .tup [.int (i : Nat), e x]) := by
  obtain ⟨d, h1, rfl⟩ := enD_get h
  obtain ⟨x, hx, rfl⟩ := map_get h1
  refine ⟨x, hx, ?_⟩
  rw [hf x (List.mem_of_getElem? hx), Bool.or_true, Nat.zero_add]
/-- a walk over enumerate that raises at the first item that can't be had -/
theorem check_loop {α : Type} {e : α → D} {f : Bool} {t : Tgt} {b : S} {xs : List α} {k : Str} {ed : α → D} (I : List Slot → Prop) (B : List α → α → Prop) (hf : ∀ x ∈ xs, flatD (e x) = true)
    (hs : ∀ i x ρ, xs[i]? = some x → I ρ → ∃ ρ1, t (true, .tup [.int (i : Nat), e x]) ρ = some ρ1 ∧ (¬ B (xs.take i) x → ∃ ρ2, b ρ1 = .nx ρ2 ∧ I ρ2) ∧ (B (xs.take i) x → ∃ ρ2, b ρ1 = .er k (ed x) ρ2)) {ρ : List Slot} (h0 : I ρ) :
    (NoBad B xs → ∃ ρ', forD t b (enD f 0 (xs.map e)) ρ = .nx ρ' ∧ I ρ') ∧ ∀ x, FirstBad B xs x → ∃ ρ', forD t b (enD f 0 (xs.map e)) ρ = .er k (ed x) ρ' := by
  refine ⟨fun nb => ?_, fun x hx => ?_⟩
  · obtain ⟨ρ', h1, h2⟩ := for_inv (t := t) (b := b) (fun _ ρ => I ρ) (its := enD f 0 (xs.map e)) (k := 0) (ρ := ρ) h0 fun i a ρ ha hI => by
      obtain ⟨x, hx, rfl⟩ := enD_get' hf ha
      obtain ⟨ρ1, h1, h2, _⟩ := hs i x ρ hx hI
      obtain ⟨ρ2, h3, h4⟩ := h2 (nb i x hx)
      exact ⟨ρ1, ρ2, h1, h3, h4⟩
    exact ⟨ρ', h1, h2⟩
  · obtain ⟨n, hn, hb, hnb⟩ := hx
    have hlen : n < (enD f 0 (xs.map e)).length := by
      rw [enD_len, List.length_map]
      exact (List.getElem?_eq_some_iff.mp hn).1
    have e0 := List.getElem?_eq_getElem hlen
    obtain ⟨x', hx', ea⟩ := enD_get' hf e0
    have ex : x' = x := Option.some.inj (hx'.symm.trans hn)
    subst ex
    exact for_exit (fun _ ρ => I ρ) (fun r => ∃ ρ', r = .er k (ed x') ρ') (fun _ ⟨_, z⟩ => nomatch z) (fun _ ⟨_, z⟩ => nomatch z) (fun _ ⟨_, z⟩ => nomatch z) (k := 0) e0 h0
      (fun i a ρ hi ha hI => by
        obtain ⟨x, hx, rfl⟩ := enD_get' hf ha
        obtain ⟨ρ1, h1, h2, _⟩ := hs i x ρ hx hI
        obtain ⟨ρ2, h3, h4⟩ := h2 (hnb i x hi hx)
        exact ⟨ρ1, ρ2, h1, h3, h4⟩)
      (fun ρ hI => by
        obtain ⟨ρ1, h1, _, h3⟩ := hs n x' ρ hn hI
        rw [ea]
        exact ⟨ρ1, h1, h3 hb⟩)
theorem cutD_take (xs : List D) (i : Nat) : cutD xs none (some (i : Int)) = xs.take i := by
  unfold cutD
  have e1 : HT.sIx xs.length 0 none = 0 := rfl
  have e2 : HT.sIx xs.length xs.length (some (i : Int)) = min i xs.length := by
    show (if (i : Int) < 0 then ((i : Int) + (xs.length : Int)).toNat else min (i : Int).toNat xs.length) = _
    rw [if_neg (by omega)]
    rfl
  rw [e1, e2, List.drop_zero, Nat.sub_zero, ← List.take_eq_take_min]
open Classical in
theorem ev_are_two (ns : List Str) (x y : Str) : D_are_two [sL ns, .str x, .str y] = .ok true (.bl (decide (Two ns (x, y)))) := by
  unfold D_are_two Two
  by_cases h1 : x ∈ ns <;> by_cases h2 : y ∈ ns <;> by_cases h3 : x = y <;> (walk_at "a1evh"; try simp [h1, h2, h3])
open Classical in
theorem ev_is_letter (x : Str) (hl : x.length ≤ 1000) : D_is_letter [.str x] = .ok true (.bl (decide (IsLet x))) := by
  unfold D_is_letter
  have hi := isLet_iff x
  have hl' : x.length ≤ 1000000 := by omega
  by_cases c1 : x.length = 1
  · have c1' : (x.length : Int) = 1 := by omega
    by_cases c2 : x.cps.toList < ("a" : Str).cps.toList
    · have : ¬ IsLet x := fun z => (hi.mp z).2.1 c2
      walk_at "a1ev"
      simp only [dLenS, hl', if_true]
      walk_at "a1ev"
      simp only [c1', decide_true, mChain, chK, dLeS, dStrO]
      walk_at "a1ev"
      simp only [c2, decide_true, this, decide_false]
      rfl
    · by_cases c3 : ("z" : Str).cps.toList < x.cps.toList
      · have : ¬ IsLet x := fun z => (hi.mp z).2.2 c3
        walk_at "a1ev"
        simp only [dLenS, hl', if_true]
        walk_at "a1ev"
        simp only [c1', decide_true, mChain, chK, dLeS, dStrO]
        walk_at "a1ev"
        simp only [c2, c3, decide_true, this, decide_false]
        walk_at "a1ev"
        simp only [c3, decide_true, decide_false]
        try rfl
      · have : IsLet x := hi.mpr ⟨c1, c2, c3⟩
        walk_at "a1ev"
        simp only [dLenS, hl', if_true]
        walk_at "a1ev"
        simp only [c1', decide_true, mChain, chK, dLeS, dStrO]
        walk_at "a1ev"
        simp only [c2, c3, decide_true, this, decide_false]
        walk_at "a1ev"
        simp only [c3, decide_true, decide_false]
        try rfl
  · have c1' : ¬ (x.length : Int) = 1 := by omega
    have : ¬ IsLet x := fun z => c1 (hi.mp z).1
    walk_at "a1ev"
    simp only [dLenS, hl', if_true]
    walk_at "a1ev"
    simp only [c1', decide_true, decide_false, this]
    rfl
open Classical in
theorem ev_check_things {ns : List Str} (hl : ns.length ≤ 1000) (hx : ∀ x ∈ ns, x.length ≤ 1000) : (NoBad NameBad ns → 1 ≤ ns.length ∧ ns.length ≤ 6 → D_check_things [sL ns] = .ok true .non) ∧
    (∀ x, FirstBad NameBad ns x → D_check_things [sL ns] = .er "InvalidName" (.str x)) ∧ (NoBad NameBad ns → ¬ (1 ≤ ns.length ∧ ns.length ≤ 6) → D_check_things [sL ns] = .er "InvalidNumber" (.int (ns.length : Nat))) := by
  unfold D_check_things
  have loop := check_loop (t := tgTup 2 (tgsCons (tgName 1) (tgsCons (tgName 2) tgsNil))) (f := false)
    (b := B_check_things_1)
    (k := "InvalidName") (ed := D.str) (xs := ns) (e := D.str) (fun ρ => ∃ v1 v2, ρ = [.dat false (sL ns), v1, v2]) NameBad (fun _ _ => rfl)
    (fun i x ρ hi hI => by
      obtain ⟨v1, v2, rfl⟩ := hI
      refine ⟨[.dat false (sL ns), .dat true (.int (i : Nat)), .dat true (.str x)], rfl, fun nb => ⟨[.dat false (sL ns), .dat true (.int (i : Nat)), .dat true (.str x)], ?_, _, _, rfl⟩, fun hb => ⟨[.dat false (sL ns), .dat true (.int (i : Nat)), .dat true (.str x)], ?_⟩⟩
      · have n1 : IsLet x := Classical.byContradiction fun z => nb (.inl z)
        have n2 : x ∉ ns.take i := fun z => nb (.inr z)
        unfold B_check_things_1
        walk_at "a1ev"
        rw [ev_is_letter x (hx x (List.mem_of_getElem? hi)), decide_eq_true n1]
        walk_at "a1ev"
        rw [cutD_take, ← List.map_take]
        walk_at "a1ev"
        rw [decide_eq_false n2]
        rfl
      · unfold B_check_things_1
        walk_at "a1ev"
        rw [ev_is_letter x (hx x (List.mem_of_getElem? hi))]
        by_cases n1 : IsLet x
        · have n2 : x ∈ ns.take i := hb.resolve_left fun z => z n1
          rw [decide_eq_true n1]
          walk_at "a1ev"
          rw [cutD_take, ← List.map_take]
          walk_at "a1ev"
          rw [decide_eq_true n2]
          rfl
        · rw [decide_eq_false n1]
          rfl) (ρ := [.dat false (sL ns), .no, .no]) ⟨_, _, rfl⟩
  refine ⟨fun nb hn => runD_nx rfl ?_, fun x hb => runD_er rfl ?_, fun nb hn => runD_er rfl ?_⟩
  · obtain ⟨ρ', h1, v1, v2, rfl⟩ := loop.1 nb
    refine ⟨[.dat false (sL ns), v1, v2], ?_⟩
    show sSeq (sE (mEnum (maCons (mDat (mVar 0)) (mp []))) fun its => forD _ _ its) _ [.dat false (sL ns), .no, .no] = _
    have e1 : mEnum (maCons (mDat (mVar 0)) (mp [])) [.dat false (sL ns), .no, .no] = .ok (enD false 0 (ns.map D.str)) [.dat false (sL ns), .no, .no] := rfl
    have l1 : (1 : Int) ≤ ((ns.map D.str).length : Nat) := by rw [List.length_map]; omega
    have l2 : ((ns.map D.str).length : Int) ≤ 6 := by rw [List.length_map]; omega
    unfold sSeq sE
    rw [e1]
    dsimp only
    rw [h1]
    dsimp only
    simp only [mChain, chK, dLe, dI0, dI, dLen]
    walk_at "a1ev"
    simp only [dLen, l1, l2, decide_true]
    walk_at "a1ev"
    simp only [dLen, l1, l2, decide_true]
    walk_at "a1ev"
  · obtain ⟨ρ', h1⟩ := loop.2 x hb
    refine ⟨ρ', ?_⟩
    show sSeq (sE (mEnum (maCons (mDat (mVar 0)) (mp []))) fun its => forD _ _ its) _ [.dat false (sL ns), .no, .no] = _
    have e1 : mEnum (maCons (mDat (mVar 0)) (mp [])) [.dat false (sL ns), .no, .no] = .ok (enD false 0 (ns.map D.str)) [.dat false (sL ns), .no, .no] := rfl
    unfold sSeq sE
    rw [e1]
    dsimp only
    rw [h1]
  · obtain ⟨ρ', h1, v1, v2, rfl⟩ := loop.1 nb
    refine ⟨[.dat false (sL ns), v1, v2], ?_⟩
    show sSeq (sE (mEnum (maCons (mDat (mVar 0)) (mp []))) fun its => forD _ _ its) _ [.dat false (sL ns), .no, .no] = _
    have e1 : mEnum (maCons (mDat (mVar 0)) (mp [])) [.dat false (sL ns), .no, .no] = .ok (enD false 0 (ns.map D.str)) [.dat false (sL ns), .no, .no] := rfl
    unfold sSeq sE
    rw [e1]
    dsimp only
    rw [h1]
    dsimp only
    by_cases l1 : (1 : Int) ≤ ((ns.map D.str).length : Nat)
    · have l2 : ¬ ((ns.map D.str).length : Int) ≤ 6 := fun z => by rw [List.length_map] at z l1; omega
      simp only [mChain, chK, dLe, dI0, dI, dLen]
      walk_at "a1ev"
      simp only [dLen, l1, l2, decide_true, decide_false]
      walk_at "a1ev"
      simp only [dLen, l1, l2, decide_true, decide_false]
      walk_at "a1ev"
      simp only [dLen, List.length_map]
    · simp only [mChain, chK, dLe, dI0, dI, dLen]
      walk_at "a1ev"
      simp only [dLen, l1, decide_true, decide_false]
      walk_at "a1ev"
      simp only [dLen, List.length_map]
end F52
section F53
open PySem PySem.Spec PyProof.Rows L2 He Ds
/-- what a diagram may be made of -/
structure Good (ns : List Str) (ls vs : List Pr) : Prop where
  n : NoBad NameBad ns
  lo : 1 ≤ ns.length
  hi : ns.length ≤ 6
  l : NoBad (ArrowBad ns) ls
  v : NoBad (PairBad ns) vs
open Classical in
theorem ev_check_arrows {ns : List Str} {ls : List Pr} (h1 : ns.length ≤ 1000) (h2 : ls.length ≤ 1000) : (NoBad (ArrowBad ns) ls → D_check_arrows [sL ns, pL ls] = .ok true .non) ∧ (∀ p, FirstBad (ArrowBad ns) ls p → D_check_arrows [sL ns, pL ls] = .er "InvalidArrow" (prD p)) := by
  unfold D_check_arrows
  have loop := check_loop (t := tgTup 2 (tgsCons (tgName 2) (tgsCons (tgTup 2 (tgsCons (tgName 3) (tgsCons (tgName 4) tgsNil))) tgsNil))) (f := false) (b := B_check_arrows_1)
    (k := "InvalidArrow") (ed := prD) (xs := ls) (e := prD) (fun ρ => ∃ v2 v3 v4 v5, ρ = [.dat false (sL ns), .dat false (pL ls), v2, v3, v4, v5]) (ArrowBad ns) (fun _ _ => rfl)
    (fun i p ρ hi hI => by
      obtain ⟨v2, v3, v4, v5, rfl⟩ := hI
      obtain ⟨a, b⟩ := p
      have hlen : (ls.take i).length ≤ 10000 := by rw [List.length_take]; omega
      have tl := ev_things_leading ns (ls.take i) a (by omega) hlen
      refine ⟨[.dat false (sL ns), .dat false (pL ls), .dat true (.int (i : Nat)), .dat true (.str a), .dat true (.str b), v5], rfl, fun nb => ⟨[.dat false (sL ns), .dat false (pL ls), .dat true (.int (i : Nat)), .dat true (.str a), .dat true (.str b), .dat true (pL (ls.take i))], ?_, _, _, _, _, rfl⟩,
        fun hb => ⟨[.dat false (sL ns), .dat false (pL ls), .dat true (.int (i : Nat)), .dat true (.str a), .dat true (.str b), .dat true (pL (ls.take i))], ?_⟩⟩
      · have n1 : Two ns (a, b) := Classical.byContradiction fun z => nb (.inl z)
        have n2 : (a, b) ∉ ls.take i := fun z => nb (.inr (.inl z))
        have n3 : b ∉ leading ns (ls.take i) a := fun z => nb (.inr (.inr (leading_mem.mp z).2))
        unfold B_check_arrows_1
        walk_at "a1ev"
        rw [cutD_take, ← List.map_take, flat_prs]
        walk_at "a1ev"
        rw [ev_are_two, decide_eq_true n1]
        walk_at "a1ev"
        rw [show (D.tup [D.str a, D.str b]) = prD (a, b) from rfl, in_prs, decide_eq_false n2]
        walk_at "a1ev"
        rw [tl]
        walk_at "a1ev"
        rw [decide_eq_false n3]
        rfl
      · unfold B_check_arrows_1
        walk_at "a1ev"
        rw [cutD_take, ← List.map_take, flat_prs]
        walk_at "a1ev"
        rw [ev_are_two]
        by_cases n1 : Two ns (a, b)
        · rw [decide_eq_true n1]
          walk_at "a1ev"
          rw [show (D.tup [D.str a, D.str b]) = prD (a, b) from rfl, in_prs]
          by_cases n2 : (a, b) ∈ ls.take i
          · rw [decide_eq_true n2]
            rfl
          · rw [decide_eq_false n2]
            have n3 : b ∈ leading ns (ls.take i) a := leading_mem.mpr ⟨n1.2.1, (hb.resolve_left fun z => z n1).resolve_left n2⟩
            walk_at "a1ev"
            rw [tl]
            walk_at "a1ev"
            rw [decide_eq_true n3]
            rfl
        · rw [decide_eq_false n1]
          rfl) (ρ := [.dat false (sL ns), .dat false (pL ls), .no, .no, .no, .no]) ⟨_, _, _, _, rfl⟩
  have e1 : mEnum (maCons (mDat (mVar 1)) (mp [])) [.dat false (sL ns), .dat false (pL ls), .no, .no, .no, .no] = .ok (enD false 0 (ls.map prD)) [.dat false (sL ns), .dat false (pL ls), .no, .no, .no, .no] := rfl
  refine ⟨fun nb => runD_nx rfl ?_, fun x hb => runD_er rfl ?_⟩
  · obtain ⟨ρ', h1, _⟩ := loop.1 nb
    refine ⟨ρ', ?_⟩
    show sE (mEnum (maCons (mDat (mVar 1)) (mp []))) (fun its => forD _ _ its) [.dat false (sL ns), .dat false (pL ls), .no, .no, .no, .no] = _
    unfold sE
    rw [e1]
    exact h1
  · obtain ⟨ρ', h1⟩ := loop.2 x hb
    refine ⟨ρ', ?_⟩
    show sE (mEnum (maCons (mDat (mVar 1)) (mp []))) (fun its => forD _ _ its) [.dat false (sL ns), .dat false (pL ls), .no, .no, .no, .no] = _
    unfold sE
    rw [e1]
    exact h1
open Classical in
theorem ev_check_pairs {ns : List Str} {vs : List Pr} (h1 : ns.length ≤ 1000) (h2 : vs.length ≤ 1000) : (NoBad (PairBad ns) vs → D_check_pairs [sL ns, pL vs] = .ok true .non) ∧ (∀ p, FirstBad (PairBad ns) vs p → D_check_pairs [sL ns, pL vs] = .er "InvalidPair" (prD p)) := by
  unfold D_check_pairs
  have loop := check_loop (t := tgTup 2 (tgsCons (tgName 2) (tgsCons (tgTup 2 (tgsCons (tgName 3) (tgsCons (tgName 4) tgsNil))) tgsNil))) (f := false) (b := B_check_pairs_1)
    (k := "InvalidPair") (ed := prD) (xs := vs) (e := prD) (fun ρ => ∃ v2 v3 v4 v5, ρ = [.dat false (sL ns), .dat false (pL vs), v2, v3, v4, v5]) (PairBad ns) (fun _ _ => rfl)
    (fun i p ρ hi hI => by
      obtain ⟨v2, v3, v4, v5, rfl⟩ := hI
      obtain ⟨a, b⟩ := p
      refine ⟨[.dat false (sL ns), .dat false (pL vs), .dat true (.int (i : Nat)), .dat true (.str a), .dat true (.str b), v5], rfl, fun nb => ⟨[.dat false (sL ns), .dat false (pL vs), .dat true (.int (i : Nat)), .dat true (.str a), .dat true (.str b), .dat true (pL (vs.take i))], ?_, _, _, _, _, rfl⟩,
        fun hb => ⟨[.dat false (sL ns), .dat false (pL vs), .dat true (.int (i : Nat)), .dat true (.str a), .dat true (.str b), .dat true (pL (vs.take i))], ?_⟩⟩
      · have n1 : Two ns (a, b) := Classical.byContradiction fun z => nb (.inl z)
        have n2 : (a, b) ∉ vs.take i := fun z => nb (.inr (.inl z))
        have n3 : (b, a) ∉ vs.take i := fun z => nb (.inr (.inr z))
        unfold B_check_pairs_1
        walk_at "a1ev"
        rw [cutD_take, ← List.map_take, flat_prs]
        walk_at "a1ev"
        rw [ev_are_two, decide_eq_true n1]
        walk_at "a1ev"
        rw [show (D.tup [D.str a, D.str b]) = prD (a, b) from rfl, in_prs, decide_eq_false n2]
        walk_at "a1ev"
        rw [show (D.tup [D.str b, D.str a]) = prD (b, a) from rfl, in_prs, decide_eq_false n3]
        rfl
      · unfold B_check_pairs_1
        walk_at "a1ev"
        rw [cutD_take, ← List.map_take, flat_prs]
        walk_at "a1ev"
        rw [ev_are_two]
        by_cases n1 : Two ns (a, b)
        · rw [decide_eq_true n1]
          walk_at "a1ev"
          rw [show (D.tup [D.str a, D.str b]) = prD (a, b) from rfl, in_prs]
          by_cases n2 : (a, b) ∈ vs.take i
          · rw [decide_eq_true n2]
            rfl
          · have n3 : (b, a) ∈ vs.take i := (hb.resolve_left fun z => z n1).resolve_left n2
            rw [decide_eq_false n2]
            walk_at "a1ev"
            rw [show (D.tup [D.str b, D.str a]) = prD (b, a) from rfl, in_prs, decide_eq_true n3]
            rfl
        · rw [decide_eq_false n1]
          rfl) (ρ := [.dat false (sL ns), .dat false (pL vs), .no, .no, .no, .no]) ⟨_, _, _, _, rfl⟩
  have e1 : mEnum (maCons (mDat (mVar 1)) (mp [])) [.dat false (sL ns), .dat false (pL vs), .no, .no, .no, .no] = .ok (enD false 0 (vs.map prD)) [.dat false (sL ns), .dat false (pL vs), .no, .no, .no, .no] := rfl
  refine ⟨fun nb => runD_nx rfl ?_, fun x hb => runD_er rfl ?_⟩
  · obtain ⟨ρ', h1, _⟩ := loop.1 nb
    refine ⟨ρ', ?_⟩
    show sE (mEnum (maCons (mDat (mVar 1)) (mp []))) (fun its => forD _ _ its) [.dat false (sL ns), .dat false (pL vs), .no, .no, .no, .no] = _
    unfold sE
    rw [e1]
    exact h1
  · obtain ⟨ρ', h1⟩ := loop.2 x hb
    refine ⟨ρ', ?_⟩
    show sE (mEnum (maCons (mDat (mVar 1)) (mp []))) (fun its => forD _ _ its) [.dat false (sL ns), .dat false (pL vs), .no, .no, .no, .no] = _
    unfold sE
    rw [e1]
    exact h1
theorem atI_0 {α : Type} {a : α} {l : List α} : atI (a :: l) 0 = some a := by
  unfold atI ixN
  rw [if_pos (by decide), if_pos (by simp only [List.length_cons]; omega)]
  rfl
theorem atI_1 {α : Type} {a b : α} {l : List α} : atI (a :: b :: l) 1 = some b := by
  unfold atI ixN
  rw [if_pos (by decide), if_pos (by simp only [List.length_cons]; omega)]
  rfl
theorem atI_2 {α : Type} {a b c : α} {l : List α} : atI (a :: b :: c :: l) 2 = some c := by
  unfold atI ixN
  rw [if_pos (by decide), if_pos (by simp only [List.length_cons]; omega)]
  rfl
/-- a diagram -/
def diagN : List Str := ["_names", "_arrows", "_pairs"]
abbrev diag (ns : List Str) (ls vs : List Pr) : D := .obj "Diagram" diagN [sL ns, pL ls, pL vs]
theorem ev_init {ns : List Str} {ls vs : List Pr} (g : Good ns ls vs) (hx : ∀ x ∈ ns, x.length ≤ 1000) (h2 : ls.length ≤ 1000) (h3 : vs.length ≤ 1000) : D_Diagram_init [sL ns, pL ls, pL vs] = .ok diagN [sL ns, pL ls, pL vs] := by
  have hi := g.hi
  have e1 := (ev_check_things (by omega) hx).1 g.n ⟨g.lo, g.hi⟩
  have e2 := (ev_check_arrows (ns := ns) (by omega) h2).1 g.l
  have e3 := (ev_check_pairs (ns := ns) (by omega) h3).1 g.v
  unfold D_Diagram_init runI
  rw [if_pos (show [sL ns, pL ls, pL vs].length + 1 = 4 from rfl)]
  walk_at "a1ev"
  rw [e1]
  walk_at "a1ev"
  rw [e2]
  walk_at "a1ev"
  rw [e3]
  walk_at "a1ev"
  rfl
theorem fld_names {ns : List Str} {ls vs : List Pr} : fldD "Diagram" "_names" (diag ns ls vs) = some (sL ns) := rfl
theorem fld_arrows {ns : List Str} {ls vs : List Pr} : fldD "Diagram" "_arrows" (diag ns ls vs) = some (pL ls) := rfl
theorem fld_pairs {ns : List Str} {ls vs : List Pr} : fldD "Diagram" "_pairs" (diag ns ls vs) = some (pL vs) := rfl
theorem ev_made {ns : List Str} {ls vs : List Pr} (g : Good ns ls vs) (hx : ∀ x ∈ ns, x.length ≤ 1000) (h2 : ls.length ≤ 1000) (h3 : vs.length ≤ 1000) : D_law_made [.tup [sL ns, pL ls, pL vs]] = .ok true (diag ns ls vs) := by
  unfold D_law_made
  refine runD_ok (fr := true) rfl ?_
  have e := ev_init g hx h2 h3
  refine ⟨[.dat false (.tup [sL ns, pL ls, pL vs])], ?_⟩
  walk_at "a1ev"
  rw [atI_0]
  walk_at "a1ev"
  rw [atI_1]
  walk_at "a1ev"
  rw [atI_2]
  walk_at "a1ev"
  rw [e]
  rfl
theorem ev_names {ns : List Str} {ls vs : List Pr} : D_Diagram_names [diag ns ls vs] = .ok true (sL ns) := by
  have h := flat_strs ns
  unfold D_Diagram_names
  refine runD_ok (fr := true) rfl ⟨[.dat false (diag ns ls vs)], ?_⟩
  show sRet _ [.dat false (diag ns ls vs)] = _
  simp only [sRet, sE, mKeep, mOne, mListK, mE, mb, mFld, mLook, lookV, isSet, mp, mo, List.getElem?_cons_zero, if_true, fld_names, Option.map_some, flatD, Bool.false_or, h]
theorem ev_arrows {ns : List Str} {ls vs : List Pr} : D_Diagram_arrows [diag ns ls vs] = .ok true (pL ls) := by
  have h := flat_prs ls
  unfold D_Diagram_arrows
  refine runD_ok (fr := true) rfl ⟨[.dat false (diag ns ls vs)], ?_⟩
  show sRet _ [.dat false (diag ns ls vs)] = _
  simp only [sRet, sE, mKeep, mOne, mListK, mE, mb, mFld, mLook, lookV, isSet, mp, mo, List.getElem?_cons_zero, if_true, fld_arrows, Option.map_some, flatD, Bool.false_or, h]
theorem ev_pairs {ns : List Str} {ls vs : List Pr} : D_Diagram_pairs [diag ns ls vs] = .ok true (pL vs) := by
  have h := flat_prs vs
  unfold D_Diagram_pairs
  refine runD_ok (fr := true) rfl ⟨[.dat false (diag ns ls vs)], ?_⟩
  show sRet _ [.dat false (diag ns ls vs)] = _
  simp only [sRet, sE, mKeep, mOne, mListK, mE, mb, mFld, mLook, lookV, isSet, mp, mo, List.getElem?_cons_zero, if_true, fld_pairs, Option.map_some, flatD, Bool.false_or, h]
end F53
section F54
open PySem PySem.Spec PyProof.Rows L2 He Ds
/-! ### rules of reading, step by step -/
section
variable {ρ ρ1 ρ2 ρ3 : List Slot}
theorem k_mp {α : Type} {a : α} : mp a ρ = .ok a ρ := rfl
theorem k_E {m : M (Bool × D)} {a : Bool × D} (h : m ρ = .ok a ρ1) : mE m ρ = .ok (fun _ => some a) ρ1 := by
  unfold mE mb; rw [h]; rfl
theorem k_look {i : Nat} (h : (match ρ[i]? with | some s => isSet s | none => false) = true) : mLook i ρ = .ok (lookV i) ρ := by
  unfold mLook; exact if_pos h
theorem k_op {f : D → D → Option D} {ma mc : M Look} {fa fb : Look} {a b : Bool × D} {z : D} (h1 : ma ρ = .ok fa ρ1) (h2 : mc ρ1 = .ok fb ρ2) (h3 : fa ρ2 = some a) (h4 : fb ρ2 = some b) (h5 : f a.2 b.2 = some z) : mOp f ma mc ρ = .ok (true, z) ρ2 := by
  unfold mOp mb; rw [h1]; dsimp only; rw [h2]; dsimp only; rw [h3, h4]; dsimp only; rw [h5]
theorem k_un {f : D → Option D} {ma : M Look} {fa : Look} {a : Bool × D} {z : D} (h1 : ma ρ = .ok fa ρ1) (h3 : fa ρ1 = some a) (h5 : f a.2 = some z) : mUn f ma ρ = .ok (true, z) ρ1 := by
  unfold mUn mb; rw [h1]; dsimp only; rw [h3]; dsimp only; rw [h5]
theorem k_bin {β : Type} {f : Bool × D → Bool × D → M β} {ma mc : M Look} {fa fb : Look} {a b : Bool × D} {z : β} (h1 : ma ρ = .ok fa ρ1) (h2 : mc ρ1 = .ok fb ρ2) (h3 : fa ρ2 = some a) (h4 : fb ρ2 = some b) (h5 : f a b ρ2 = .ok z ρ3) : mBin f ma mc ρ = .ok z ρ3 := by
  unfold mBin mb; rw [h1]; dsimp only; rw [h2]; dsimp only; rw [h3, h4]; exact h5
theorem k_ixL {f g : Bool} {xs : List D} {i : Int} {d : D} (h : atI xs i = some d) : mIxL (f, .lst xs) (g, .int i) ρ = .ok (f || flatD d, d) ρ := by
  unfold mIxL; dsimp only; rw [h]; rfl
theorem k_one {β : Type} {f : Bool × D → M β} {ma : M Look} {fa : Look} {a : Bool × D} {z : β} (h1 : ma ρ = .ok fa ρ1) (h3 : fa ρ1 = some a) (h5 : f a ρ1 = .ok z ρ3) : mOne f ma ρ = .ok z ρ3 := by
  unfold mOne mb; rw [h1]; dsimp only; rw [h3]; exact h5
theorem k_dat {m : M (Bool × D)} {f : Bool} {d : D} (h : m ρ = .ok (f, d) ρ1) : mDat m ρ = .ok (.dat f d) ρ1 := by
  unfold mDat mb; rw [h]; rfl
theorem k_own {m : M (Bool × List D)} {f : Bool} {d : List D} (h : m ρ = .ok (f, d) ρ1) : mOwn m ρ = .ok (.own f d) ρ1 := by
  unfold mOwn mb; rw [h]; rfl
theorem k_keep {m : M (Bool × List D)} {f : Bool} {d : List D} (h : m ρ = .ok (f, d) ρ1) : mKeep m ρ = .ok (f, .lst d) ρ1 := by
  unfold mKeep mb; rw [h]; rfl
theorem k_cons {me : M Slot} {ma : M (List Slot)} {s : Slot} {ss : List Slot} (h1 : me ρ = .ok s ρ1) (h2 : ma ρ1 = .ok ss ρ2) : maCons me ma ρ = .ok (s :: ss) ρ2 := by
  unfold maCons mb; rw [h1]; dsimp only; rw [h2]; rfl
theorem k_tup {ma : M (List Slot)} {ss : List Slot} {f : Bool} {ds : List D} (h1 : ma ρ = .ok ss ρ1) (h2 : dats ss = some (f, ds)) (h3 : decide (ds.length ≤ 1000) = true) : mTup ma ρ = .ok (f, .tup ds) ρ1 := by
  unfold mTup mDats mb; rw [h1]; dsimp only; rw [h2]; dsimp only; rw [if_pos (of_decide_eq_true h3)]; rfl
theorem k_lst {ma : M (List Slot)} {ss : List Slot} {r : Bool × List D} (h1 : ma ρ = .ok ss ρ1) (h2 : dats ss = some r) (h3 : decide (r.2.length ≤ 1000) = true) : mLst ma ρ = .ok r ρ1 := by
  unfold mLst mDats mb; rw [h1]; dsimp only; rw [h2]; dsimp only; rw [if_pos (of_decide_eq_true h3)]; rfl
theorem k_rng {f : List D → Option (List (Bool × D))} {ma : M (List Slot)} {ss : List Slot} {r : Bool × List D} {its : List (Bool × D)} (h1 : ma ρ = .ok ss ρ1) (h2 : dats ss = some r) (h3 : f r.2 = some its) : mRng f ma ρ = .ok its ρ1 := by
  unfold mRng mDats mb; rw [h1]; dsimp only; rw [h2]; dsimp only; rw [h3]; rfl
theorem k_it {f : Bool × D → Option (List (Bool × D))} {m : M (Bool × D)} {a : Bool × D} {its : List (Bool × D)} (h1 : m ρ = .ok a ρ1) (h3 : f a = some its) : mIt f m ρ = .ok its ρ1 := by
  unfold mIt mb; rw [h1]; dsimp only; rw [h3]; rfl
theorem k_pool {i : Nat} {f : List Int → List D → OutP} {ma : M (List Slot)} {ss : List Slot} {r : Bool × List D} {ns ns' : List Int} {fr : Bool} {d : D} (h0 : hasPool i ρ = true) (h1 : ma ρ = .ok ss ρ1) (h2 : dats ss = some r) {a : Bool × D} (h3 : ρ1[i]? = some (.pool ns)) (h4 : f ns r.2 = .ok fr d ns') (h5 : (fr || flatD d, d) = a) (h6 : ρ1.set i (.pool ns') = ρ2) : mPool i f ma ρ = .ok a ρ2 := by
  subst h5 h6
  unfold mPool; rw [if_pos h0]; unfold mCallP mDats mb; rw [h1]; dsimp only; rw [h2]; dsimp only; rw [h3]; dsimp only; rw [h4]
theorem k_mut {i : Nat} {k : Bool → List D → Bool → List D → Option ((Bool × D) × (Bool × List D))} {ma : M (List Slot)} {ss : List Slot} {r : Bool × List D} {fr : Bool} {ds : List D} {a : Bool × D} {l : Bool × List D} (h0 : (getOwn i ρ).isSome = true) (h1 : ma ρ = .ok ss ρ1) (h2 : dats ss = some r) (h3 : getOwn i ρ1 = some (fr, ds)) (h4 : k r.1 r.2 fr ds = some (a, l)) (h5 : ρ1.set i (.own l.1 l.2) = ρ2) : mMut i ma k ρ = .ok a ρ2 := by
  subst h5
  unfold mMut; rw [if_pos h0]; unfold mDats mb; rw [h1]; dsimp only; rw [h2]; dsimp only; unfold onOwn; rw [h3]; dsimp only; rw [h4]
theorem k_T {m : M (Bool × D)} {a : Bool × D} {k : Bool} (h : m ρ = .ok a ρ1) (h2 : a.2 = .bl k) : mT m ρ = .ok k ρ1 := by
  obtain ⟨f, d⟩ := a
  dsimp only at h2
  subst h2
  unfold mT mb; rw [h]; rfl
theorem k_tru {m : M Look} {fa : Look} {a : Bool × D} {k : Bool} (h : m ρ = .ok fa ρ1) (h1 : fa ρ1 = some a) (h2 : truD a.2 = some k) : mTru m ρ = .ok k ρ1 := by
  unfold mTru
  refine k_one h h1 ?_
  rw [h2]; rfl
theorem k_and {a b : M Bool} {k z : Bool} (h : a ρ = .ok k ρ1) (h2 : (if k = true then b else mp false) ρ1 = .ok z ρ2) : mAnd a b ρ = .ok z ρ2 := by
  unfold mAnd mb; rw [h]; exact h2
theorem k_or {a b : M Bool} {k z : Bool} (h : a ρ = .ok k ρ1) (h2 : (if k = true then mp true else b) ρ1 = .ok z ρ2) : mOr a b ρ = .ok z ρ2 := by
  unfold mOr mb; rw [h]; exact h2
theorem k_not {a : M Bool} {k : Bool} (h : a ρ = .ok k ρ1) : mNot a ρ = .ok (!k) ρ1 := by
  unfold mNot mb; rw [h]; rfl
theorem k_iteT {α : Type} {k : Bool} {a b : List Slot → α} {r : α} (h : k = true) (h2 : a ρ = r) : (if k = true then a else b) ρ = r := by rw [if_pos h]; exact h2
theorem k_iteF {α : Type} {k : Bool} {a b : List Slot → α} {r : α} (h : k = false) (h2 : b ρ = r) : (if k = true then a else b) ρ = r := by rw [if_neg (by rw [h]; decide)]; exact h2
theorem k_step2 {me ms : M (Bool × D)} {a s z : Bool × D} (h : me ρ = .ok a ρ1) (h2 : ms ρ1 = .ok s ρ2) (h3 : step2 a s.2 = some z) : mStep2 me ms ρ = .ok z ρ2 := by
  unfold mStep2 mb; rw [h]; dsimp only; rw [h2]; dsimp only; rw [h3]; rfl
theorem k_call {f : List D → Out} {ma : M (List Slot)} {ss : List Slot} {g : Bool} {ds : List D} {fr : Bool} {d : D} {a : Bool × D} (h1 : ma ρ = .ok ss ρ1) (h2 : dats ss = some (g, ds)) (h4 : f ds = .ok fr d) (h5 : (fr || flatD d, d) = a) : mCall f ma ρ = .ok a ρ1 := by
  subst h5
  unfold mCall mDats mb; rw [h1]; dsimp only; rw [h2]; dsimp only; rw [h4]
theorem k_callX {f : List D → Out} {ma : M (List Slot)} {ss : List Slot} {g : Bool} {ds : List D} {fr : Bool} {d : D} {a : Bool × D} (h1 : ma ρ = .ok ss ρ1) (h2 : dats ss = some (g, ds)) (h4 : f ds = .ok fr d) (h5 : (fr || flatD d, d) = a) : mCallX f ma ρ = .ok a ρ1 := by
  subst h5
  unfold mCallX mDats mb; rw [h1]; dsimp only; rw [h2]; dsimp only; rw [h4]
theorem k_prop {C : Str} {f : List D → Out} {m : M (Bool × D)} {g : Bool} {x : D} {fr : Bool} {d : D} {a : Bool × D} (h1 : m ρ = .ok (g, x) ρ1) (h2 : isObj C x = true) (h4 : f [x] = .ok fr d) (h5 : (fr || flatD d, d) = a) : mProp C f m ρ = .ok a ρ1 := by
  subst h5
  unfold mProp mb; rw [h1]; dsimp only; rw [if_pos h2, h4]; rfl
theorem k_fld {C f : Str} {m : M Look} {fa : Look} {x : Bool × D} {d : D} {a : Bool × D} (h1 : m ρ = .ok fa ρ1) (h2 : fa ρ1 = some x) (h4 : fldD C f x.2 = some d) (h5 : (flatD d, d) = a) : mFld C f m ρ = .ok a ρ1 := by
  subst h5
  unfold mFld
  refine k_one h1 h2 ?_
  rw [h4]; rfl
theorem k_catK {f g : Bool} {xs ys : List D} {z : Bool × List D} (h : decide (xs.length + ys.length ≤ 1000000) = true) (h2 : ((f || flatDs xs) && (g || flatDs ys), xs ++ ys) = z) : mCatK (f, .lst xs) (g, .lst ys) ρ = .ok z ρ := by
  subst h2
  unfold mCatK; dsimp only; rw [if_pos (of_decide_eq_true h)]; rfl
theorem k_run {ρ : List Slot} {N n : Nat} {s : S} {ds : List D} {fr g : Bool} {d : D} (hn : ds.length = n) (h : s (initS N (ds.map (.dat false))) = .rt fr d ρ) (hf : (fr || flatD d) = g) : runD N n s ds = .ok g d := by
  subst hf
  unfold runD; rw [if_pos hn, h]
theorem k_runN {N n : Nat} {s : S} {ds : List D} (hn : ds.length = n) (h : s (initS N (ds.map (.dat false))) = .nx ρ) : runD N n s ds = .ok true .non := by
  unfold runD; rw [if_pos hn, h]
theorem k_runE {N n : Nat} {s : S} {ds : List D} {k : Str} {d : D} (hn : ds.length = n) (h : s (initS N (ds.map (.dat false))) = .er k d ρ) : runD N n s ds = .er k d := by
  unfold runD; rw [if_pos hn, h]
theorem tag_true {α : Type} {e : α → D} {xs : List α} : tagL true (xs.map e) = xs.map fun x => (true, e x) := by
  unfold tagL; rw [List.map_map]; rfl
theorem toBls_map {α : Type} {p : α → Bool} : ∀ xs : List α, toBls (xs.map fun x => D.bl (p x)) = some (xs.map p)
  | [] => rfl
  | x :: xs => by rw [List.map_cons, toBls, toBls_map xs]; rfl
theorem any_bls {α : Type} {p : α → Bool} (xs : List α) : dAnyB (.lst (xs.map fun x => .bl (p x))) = some (.bl (xs.any p)) := by
  unfold dAnyB
  dsimp only
  rw [toBls_map xs, Option.map_some, List.any_map]
  rfl
theorem k_forC {t : Tgt} {b : S} {a : Bool × D} {as : List (Bool × D)} (h : t a ρ = some ρ1) (h2 : b ρ1 = .nx ρ2) : forD t b (a :: as) ρ = forD t b as ρ2 := by
  rw [forD, h]; dsimp only; rw [h2]
theorem k_mif {α : Type} {t : M Bool} {a b : M α} {k : Bool} {r : Res α} (h : t ρ = .ok k ρ1) (h2 : (if k = true then a else b) ρ1 = r) : mIf t a b ρ = r := by
  unfold mIf mb; rw [h]; exact h2
/-! statements -/
theorem k_set {i : Nat} {m : M (Bool × D)} {a : Bool × D} (h : m ρ = .ok a ρ1) (h2 : decide (i < ρ1.length) = true) (h3 : ρ1.set i (.dat a.1 a.2) = ρ2) : sSet i m ρ = .nx ρ2 := by
  subst h3
  unfold sSet sE; rw [h]; exact if_pos (of_decide_eq_true h2)
theorem k_seq {a b : S} {r : SRes} (h : a ρ = .nx ρ1) (h2 : b ρ1 = r) : sSeq a b ρ = r := by
  unfold sSeq; rw [h]; exact h2
theorem k_drop {m : M (Bool × D)} {a : Bool × D} (h : m ρ = .ok a ρ1) : sDrop m ρ = .nx ρ1 := by
  unfold sDrop sE; rw [h]
theorem k_if {t : M Bool} {a b : S} {k : Bool} {r : SRes} (h : t ρ = .ok k ρ1) (h2 : (if k = true then a else b) ρ1 = r) : sIf t a b ρ = r := by
  unfold sIf sE; rw [h]; exact h2
theorem k_ret {m : M (Bool × D)} {f : Bool} {d : D} (h : m ρ = .ok (f, d) ρ1) : sRet m ρ = .rt f d ρ1 := by
  unfold sRet sE; rw [h]
theorem k_par {is : List Nat} {ma : M (List Slot)} {ss : List Slot} (h : ma ρ = .ok ss ρ1) (h2 : setAll is ss ρ1 = some ρ2) : sPar is ma ρ = .nx ρ2 := by
  unfold sPar sE; rw [h]; dsimp only; rw [h2]
theorem k_for {mi : M (List (Bool × D))} {t : Tgt} {b : S} {its : List (Bool × D)} {r : SRes} (h : mi ρ = .ok its ρ1) (h2 : forD t b its ρ1 = r) : sFor mi t b ρ = r := by
  unfold sFor sE; rw [h]; exact h2
theorem k_comp {vs : List Nat} {mi : M (List (Bool × D))} {t : Tgt} {tt : M Bool} {te : M (Bool × D)} {its : List (Bool × D)} {z : Bool × List D} (h : mi ρ = .ok its ρ1) (h2 : compD vs t tt te ρ1 its true [] (wipeS ρ1 vs) = .ok z ρ2) : mComp vs mi t tt te ρ = .ok z ρ2 := by
  unfold mComp mb; rw [h]; exact h2
end
end F54
section F55
open PySem PySem.Spec PyProof.Rows L2 He Ds
/-! ### rules of reading, whose answers are found step by step -/
section
variable {ρ ρ1 ρ2 ρ3 ρ4 : List Slot}
def Args (ma : M (List Slot)) (ρ : List Slot) (g : Bool) (ds : List D) (ρ1 : List Slot) : Prop := ∃ ss, ma ρ = .ok ss ρ1 ∧ dats ss = some (g, ds)
theorem a_nil : Args (mp []) ρ true [] ρ := ⟨[], rfl, rfl⟩
theorem a_cons {m : M (Bool × D)} {ma : M (List Slot)} {f g : Bool} {d : D} {ds : List D} (h : m ρ = .ok (f, d) ρ1) (h2 : Args ma ρ1 g ds ρ2) : Args (maCons (mDat m) ma) ρ ((f || flatD d) && g) (d :: ds) ρ2 := by
  obtain ⟨ss, e1, e2⟩ := h2
  refine ⟨.dat f d :: ss, k_cons (k_dat h) e1, ?_⟩
  rw [dats, e2]; rfl
theorem a_consF {m : M (Bool × D)} {ma : M (List Slot)} {f f' g g' : Bool} {d : D} {ds : List D} (h : m ρ = .ok (f, d) ρ1) (h2 : Args ma ρ1 g ds ρ2) (hf : (f || flatD d) = f') (hg : (f' && g) = g') : Args (maCons (mDat m) ma) ρ g' (d :: ds) ρ2 := by
  subst hf hg
  exact a_cons h h2
theorem j_call {f : List D → Out} {ma : M (List Slot)} {g : Bool} {ds : List D} {d : D} (h : Args ma ρ g ds ρ1) (h4 : f ds = .ok true d) : mCall f ma ρ = .ok (true, d) ρ1 := by
  obtain ⟨ss, e1, e2⟩ := h
  exact k_call e1 e2 h4 rfl
theorem j_callX {f : List D → Out} {ma : M (List Slot)} {g : Bool} {ds : List D} {d : D} (h : Args ma ρ g ds ρ1) (h4 : f ds = .ok true d) : mCallX f ma ρ = .ok (true, d) ρ1 := by
  obtain ⟨ss, e1, e2⟩ := h
  exact k_callX e1 e2 h4 rfl
theorem j_prop {C : Str} {f : List D → Out} {m : M (Bool × D)} {g : Bool} {x d : D} (h1 : m ρ = .ok (g, x) ρ1) (h2 : isObj C x = true) (h4 : f [x] = .ok true d) : mProp C f m ρ = .ok (true, d) ρ1 := k_prop h1 h2 h4 rfl
theorem j_fld {C q : Str} {m : M Look} {fa : Look} {f f' : Bool} {x d : D} (h1 : m ρ = .ok fa ρ1) (h2 : fa ρ1 = some (f, x)) (h4 : fldD C q x = some d) (h5 : flatD d = f') : mFld C q m ρ = .ok (f', d) ρ1 := by
  subst h5; exact k_fld h1 h2 h4 rfl
theorem j_poolC {f : List Int → List D → OutP} {ma : M (List Slot)} {g : Bool} {ds : List D} {d : D} {ns ns' : List Int} (h : Args ma ρ g ds ρ1) (h0 : ρ[0]? = some (.pool ns)) (h3 : ρ1[0]? = some (.pool ns)) (h4 : f ns ds = .ok true d ns') (h5 : ρ1.set 0 (.pool ns') = ρ2) : mPool 0 f ma ρ = .ok (true, d) ρ2 := by
  obtain ⟨ss, e1, e2⟩ := h
  exact k_pool (by unfold hasPool; rw [h0]) e1 e2 h3 h4 rfl h5
theorem j_mp {α : Type} {a : α} : mp a ρ = .ok a ρ := rfl
theorem j_var {i : Nat} {f : Bool} {d : D} (h : ρ[i]? = some (.dat f d)) : mVar i ρ = .ok (f, d) ρ := by unfold mVar; rw [h]
theorem j_E {m : M (Bool × D)} {f : Bool} {d : D} (h : m ρ = .ok (f, d) ρ1) : mE m ρ = .ok (fun _ => some (f, d)) ρ1 := k_E h
theorem j_op {f : D → D → Option D} {ma mc : M Look} {fa fb : Look} {f1 f2 : Bool} {d1 d2 z : D} (h1 : ma ρ = .ok fa ρ1) (h2 : mc ρ1 = .ok fb ρ2) (h3 : fa ρ2 = some (f1, d1)) (h4 : fb ρ2 = some (f2, d2)) (h5 : f d1 d2 = some z) : mOp f ma mc ρ = .ok (true, z) ρ2 := k_op h1 h2 h3 h4 h5
theorem j_un {f : D → Option D} {ma : M Look} {fa : Look} {f1 : Bool} {d1 z : D} (h1 : ma ρ = .ok fa ρ1) (h3 : fa ρ1 = some (f1, d1)) (h5 : f d1 = some z) : mUn f ma ρ = .ok (true, z) ρ1 := k_un h1 h3 h5
theorem j_ixL {ma mc : M Look} {fa fb : Look} {f1 f2 f' : Bool} {xs : List D} {i : Int} {d : D} (h1 : ma ρ = .ok fa ρ1) (h2 : mc ρ1 = .ok fb ρ2) (h3 : fa ρ2 = some (f1, .lst xs)) (h4 : fb ρ2 = some (f2, .int i)) (h5 : atI xs i = some d) (h6 : (f1 || flatD d) = f') : mBin mIxL ma mc ρ = .ok (f', d) ρ2 := by
  have := k_bin h1 h2 h3 h4 (k_ixL (f := f1) (g := f2) (ρ := ρ2) h5)
  rwa [h6] at this
theorem k_ixT {f g : Bool} {xs : List D} {i : Int} {d : D} (h : atI xs i = some d) : mIxT (f, .tup xs) (g, .int i) ρ = .ok (f || flatD d, d) ρ := by
  unfold mIxT; dsimp only; rw [h]; rfl
theorem j_ixT {ma mc : M Look} {fa fb : Look} {f1 f2 f' : Bool} {xs : List D} {i : Int} {d : D} (h1 : ma ρ = .ok fa ρ1) (h2 : mc ρ1 = .ok fb ρ2) (h3 : fa ρ2 = some (f1, .tup xs)) (h4 : fb ρ2 = some (f2, .int i)) (h5 : atI xs i = some d) (h6 : (f1 || flatD d) = f') : mBin mIxT ma mc ρ = .ok (f', d) ρ2 := by
  have := k_bin h1 h2 h3 h4 (k_ixT (f := f1) (g := f2) (ρ := ρ2) h5)
  rwa [h6] at this
theorem j_list {m : M Look} {fa : Look} {f f' : Bool} {xs : List D} (h1 : m ρ = .ok fa ρ1) (h2 : fa ρ1 = some (f, .lst xs)) (h3 : (f || flatDs xs) = f') : mOne mListK m ρ = .ok (f', xs) ρ1 := by
  refine k_one h1 h2 ?_
  unfold mListK; dsimp only; rw [h3]; rfl
theorem j_catM {α : Type} {e : α → D} {xs ys : List α} {ma mc : M Look} {fa fb : Look} {f1 f2 f' g' g'' : Bool} (h1 : ma ρ = .ok fa ρ1) (h2 : mc ρ1 = .ok fb ρ2) (h3 : fa ρ2 = some (f1, .lst (xs.map e))) (h4 : fb ρ2 = some (f2, .lst (ys.map e))) (h5 : (f1 || flatDs (xs.map e)) = f') (h6 : (f2 || flatDs (ys.map e)) = g') (h7 : (f' && g') = g'') (hx : xs.length ≤ 500000) (hy : ys.length ≤ 500000) : mBin mCatK ma mc ρ = .ok (g'', (xs ++ ys).map e) ρ2 := by
  refine k_bin h1 h2 h3 h4 ?_
  rw [List.map_append]
  refine k_catK (decide_eq_true (by simp only [List.length_map]; omega)) ?_
  rw [h5, h6, h7]
theorem m1_str {x : Str} : [D.str x] = [x].map D.str := rfl
theorem j_lst1 {m : M (Bool × D)} {d : D} {f f' : Bool} {ds : List D} (h : m ρ = .ok (f, d) ρ1) (hf : (f || flatD d) = f') (hd : [d] = ds) : mLst (maCons (mDat m) (mp [])) ρ = .ok (f', ds) ρ1 := by
  subst hd hf
  obtain ⟨ss, e1, e2⟩ := a_cons h a_nil
  refine (k_lst e1 e2 rfl).trans ?_
  rw [Bool.and_true]
theorem j_lst {ma : M (List Slot)} {g : Bool} {ds : List D} (h : Args ma ρ g ds ρ1) (h2 : ds.length ≤ 1000) : mLst ma ρ = .ok (g, ds) ρ1 := by
  obtain ⟨ss, e1, e2⟩ := h
  exact k_lst e1 e2 (decide_eq_true h2)
theorem j_tup {ma : M (List Slot)} {g : Bool} {ds : List D} (h : Args ma ρ g ds ρ1) (h2 : ds.length ≤ 1000) : mTup ma ρ = .ok (g, .tup ds) ρ1 := by
  obtain ⟨ss, e1, e2⟩ := h
  exact k_tup e1 e2 (decide_eq_true h2)
theorem j_keep {m : M (Bool × List D)} {f : Bool} {d : List D} (h : m ρ = .ok (f, d) ρ1) : mKeep m ρ = .ok (f, .lst d) ρ1 := k_keep h
theorem j_T {m : M (Bool × D)} {f k : Bool} (h : m ρ = .ok (f, .bl k) ρ1) : mT m ρ = .ok k ρ1 := k_T h rfl
theorem j_tru {m : M Look} {fa : Look} {f k : Bool} {d : D} (h : m ρ = .ok fa ρ1) (h1 : fa ρ1 = some (f, d)) (h2 : truD d = some k) : mTru m ρ = .ok k ρ1 := k_tru h h1 h2
theorem j_and {a b : M Bool} {k z : Bool} (h : a ρ = .ok k ρ) (h2 : b ρ = .ok z ρ) : mAnd a b ρ = .ok (k && z) ρ := by
  refine k_and h ?_
  cases k with
  | true => rw [if_pos rfl, h2]; rfl
  | false => rfl
theorem j_or {a b : M Bool} {k z : Bool} (h : a ρ = .ok k ρ) (h2 : b ρ = .ok z ρ) : mOr a b ρ = .ok (k || z) ρ := by
  refine k_or h ?_
  cases k with
  | false => rw [if_neg (by decide), h2]; rfl
  | true => rfl
theorem j_not {a : M Bool} {k : Bool} (h : a ρ = .ok k ρ1) : mNot a ρ = .ok (!k) ρ1 := k_not h
theorem j_andV {a b : M (Bool × D)} {f k z : Bool} (h : a ρ = .ok (f, .bl k) ρ) (h2 : b ρ = .ok (true, .bl z) ρ) : mAndV a b ρ = .ok (true, .bl (k && z)) ρ := by
  unfold mAndV mb; rw [h]
  cases k with
  | true => exact h2
  | false => rfl
theorem j_mif {α : Type} {t : M Bool} {a b : M α} {k : Bool} {r : Res α} (h : t ρ = .ok k ρ1) (h2 : (if k = true then a else b) ρ1 = r) : mIf t a b ρ = r := k_mif h h2
theorem j_slL {m : M Look} {fa : Look} {ml mh : M (Option Int)} {lo hi : Option Int} {f : Bool} {xs : List D} (h1 : m ρ = .ok fa ρ1) (h2 : ml ρ1 = .ok lo ρ2) (h3 : mh ρ2 = .ok hi ρ3) (h4 : fa ρ3 = some (f, .lst xs)) (h5 : (f || flatDs xs) = true) {ys : List D} (h6 : cutD xs lo hi = ys) : mSl mSlL m ml mh ρ = .ok (true, ys) ρ3 := by
  subst h6
  unfold mSl mb; rw [h1]; dsimp only; rw [h2]; dsimp only; rw [h3]; dsimp only; rw [h4]; dsimp only
  unfold mSlL; dsimp only; rw [h5]; rfl
theorem j_part {m : M (Bool × D)} {f : Bool} {i : Int} (h : m ρ = .ok (f, .int i) ρ1) : mPart m ρ = .ok (some i) ρ1 := by
  unfold mPart mb; rw [h]; rfl
/-! what is walked -/
theorem j_it {k : Bool × D → Option (List (Bool × D))} {m : M (Bool × D)} {f : Bool} {d : D} {its : List (Bool × D)} (h1 : m ρ = .ok (f, d) ρ1) (h3 : k (f, d) = some its) : mIt k m ρ = .ok its ρ1 := k_it h1 h3
theorem it_strs {f : Bool} {xs : List Str} : itList (f, .lst (xs.map D.str)) = some (xs.map fun x => (true, D.str x)) := by
  rw [← tag_sL f]; rfl
theorem it_prs {f : Bool} {xs : List Pr} : itList (f, .lst (xs.map prD)) = some (xs.map fun x => (true, prD x)) := by
  rw [← tag_pL f]; rfl
theorem it_T {α : Type} {e : α → D} {xs : List α} : itList (true, .lst (xs.map e)) = some (xs.map fun x => (true, e x)) := by
  rw [← tag_true]; rfl
/-! comprehensions -/
theorem j_compA {α : Type} {e : α → Bool × D} {xs : List α} {g : α → D} {r : α → List Slot} {vs : List Nat} {mi : M (List (Bool × D))} {t : Tgt} {te : M (Bool × D)} (h1 : mi ρ = .ok (xs.map e) ρ1) (hl : xs.length ≤ 100000) {ρw : List Slot} (hw : wipeS ρ1 vs = ρw) (ht : ∀ a ∈ xs, t (e a) ρw = some (r a)) (hg : ∀ a ∈ xs, te (r a) = .ok (true, g a) (r a)) (hr : ∀ a ∈ xs, wipeS (r a) vs = ρw) (hu : unw ρ1 vs ρw = ρ2) : mComp vs mi t (mp true) te ρ = .ok (true, xs.map g) ρ2 := by
  subst hw hu
  refine k_comp h1 ?_
  refine (comp_map (p := fun _ => true) (g := g) (fun a ha => ⟨r a, ht a ha, rfl, fun _ => hg a ha, hr a ha⟩) hl).trans ?_
  rw [List.filter_eq_self.mpr (fun _ _ => rfl)]
theorem j_comp {α : Type} {e : α → Bool × D} {xs : List α} {p : α → Bool} {g : α → D} {r : α → List Slot} {vs : List Nat} {mi : M (List (Bool × D))} {t : Tgt} {tt : M Bool} {te : M (Bool × D)} (h1 : mi ρ = .ok (xs.map e) ρ1) (hl : xs.length ≤ 100000) {ρw : List Slot} (hw : wipeS ρ1 vs = ρw) (ht : ∀ a ∈ xs, t (e a) ρw = some (r a)) (hp : ∀ a ∈ xs, tt (r a) = .ok (p a) (r a)) (hg : ∀ a ∈ xs, te (r a) = .ok (true, g a) (r a)) (hr : ∀ a ∈ xs, wipeS (r a) vs = ρw) (hu : unw ρ1 vs ρw = ρ2) : mComp vs mi t tt te ρ = .ok (true, (xs.filter p).map g) ρ2 := by
  subst hw hu
  refine k_comp h1 ?_
  exact comp_map (p := p) (g := g) (fun a ha => ⟨r a, ht a ha, hp a ha, fun _ => hg a ha, hr a ha⟩) hl
theorem inner_map {β : Type} {e : β → Bool × D} {vs : List Nat} {t : Tgt} {tt : M Bool} {te : M (Bool × D)} {ρw : List Slot} {p : β → Bool} {g : β → D} {r : β → List Slot} : ∀ {ys : List β} {acc : List D},
    (∀ b ∈ ys, t (e b) ρw = some (r b) ∧ tt (r b) = .ok (p b) (r b) ∧ te (r b) = .ok (true, g b) (r b) ∧ wipeS (r b) vs = ρw) → acc.length + ys.length ≤ 100000 →
    innerD vs t tt te (ys.map e) true acc ρw = .ok (true, acc ++ (ys.filter p).map g) ρw
  | [], acc, _, _ => by simp [innerD]
  | b :: ys, acc, h, hl => by
    obtain ⟨h1, h2, h3, h4⟩ := h b List.mem_cons_self
    rw [List.length_cons] at hl
    rw [List.map_cons, innerD, h1]
    dsimp only
    rw [h2]
    cases q : p b with
    | false =>
      dsimp only
      rw [h4, inner_map (fun c hc => h c (List.mem_cons_of_mem _ hc)) (by omega)]
      simp [q]
    | true =>
      dsimp only
      rw [h3]
      dsimp only
      rw [if_pos (by omega), h4, Bool.true_or, Bool.and_true, inner_map (fun c hc => h c (List.mem_cons_of_mem _ hc)) (by rw [List.length_append]; simp; omega)]
      simp [q]
theorem j_comp2 {α β : Type} {e : α → Bool × D} {xs : List α} {p : α → Bool} {r : α → List Slot} {ys : α → List β} {e1 : α → β → Bool × D} {p1 : α → β → Bool} {g : α → β → D} {rw1 : α → List Slot} {r1 : α → β → List Slot} {vs vs1 : List Nat} {mi mi1 : M (List (Bool × D))} {t t1 : Tgt} {tt tt1 : M Bool} {te : M (Bool × D)}
    (h1 : mi ρ = .ok (xs.map e) ρ1) {ρw : List Slot} (hw : wipeS ρ1 vs = ρw) (ht : ∀ a ∈ xs, t (e a) ρw = some (r a)) (hp : ∀ a ∈ xs, tt (r a) = .ok (p a) (r a)) (hi : ∀ a ∈ xs, mi1 (r a) = .ok ((ys a).map (e1 a)) (r a)) (hw1 : ∀ a ∈ xs, wipeS (r a) vs1 = rw1 a)
    (ht1 : ∀ a ∈ xs, ∀ b ∈ ys a, t1 (e1 a b) (rw1 a) = some (r1 a b)) (hp1 : ∀ a ∈ xs, ∀ b ∈ ys a, tt1 (r1 a b) = .ok (p1 a b) (r1 a b)) (hg : ∀ a ∈ xs, ∀ b ∈ ys a, te (r1 a b) = .ok (true, g a b) (r1 a b)) (hr1 : ∀ a ∈ xs, ∀ b ∈ ys a, wipeS (r1 a b) vs1 = rw1 a) (hr : ∀ a ∈ xs, wipeS (rw1 a) vs = ρw) (hr0 : ∀ a ∈ xs, wipeS (r a) vs = ρw) (hu : unw ρ1 vs ρw = ρ2) (hl : (xs.map fun a => (ys a).length).sum ≤ 100000) :
    mComp2 vs mi t tt vs1 mi1 t1 tt1 te ρ = .ok (true, (xs.filter p).flatMap fun a => ((ys a).filter (p1 a)).map (g a)) ρ2 := by
  subst hw hu
  unfold mComp2 mb
  rw [h1]
  dsimp only
  have gen : ∀ {zs : List α} {acc : List D}, (∀ a ∈ zs, a ∈ xs) → acc.length + (zs.map fun a => (ys a).length).sum ≤ 100000 →
      comp2D vs t tt vs1 mi1 t1 tt1 te ρ1 (zs.map e) true acc (wipeS ρ1 vs) = .ok (true, acc ++ (zs.filter p).flatMap fun a => ((ys a).filter (p1 a)).map (g a)) (unw ρ1 vs (wipeS ρ1 vs)) := by
    intro zs
    induction zs with
    | nil => intro acc _ _; simp [comp2D]
    | cons a zs ih =>
      intro acc hm hz
      have ha := hm a List.mem_cons_self
      rw [List.map_cons, List.sum_cons] at hz
      rw [List.map_cons, comp2D, ht a ha]
      dsimp only
      rw [hp a ha]
      cases q : p a with
      | false =>
        dsimp only
        rw [hr0 a ha, ih (fun b hb => hm b (List.mem_cons_of_mem _ hb)) (by omega)]
        simp [q]
      | true =>
        dsimp only
        rw [hi a ha]
        dsimp only
        rw [hw1 a ha, inner_map (fun b hb => ⟨ht1 a ha b hb, hp1 a ha b hb, hg a ha b hb, hr1 a ha b hb⟩) (by omega)]
        dsimp only
        have hf := List.length_filter_le (p1 a) (ys a)
        rw [hr a ha, ih (fun b hb => hm b (List.mem_cons_of_mem _ hb)) (by rw [List.length_append, List.length_map]; omega)]
        simp [q]
  have := gen (zs := xs) (acc := []) (fun _ h => h) (by simpa using hl)
  simpa using this
/-! statements -/
theorem j_set {i : Nat} {m : M (Bool × D)} {f : Bool} {d : D} (h : m ρ = .ok (f, d) ρ1) (h2 : decide (i < ρ1.length) = true) (h3 : ρ1.set i (.dat f d) = ρ2) : sSet i m ρ = .nx ρ2 := k_set h h2 h3
def seqK (r : SRes) (b : S) : SRes := match r with
  | .nx ρ' => b ρ'
  | r => r
theorem j_seq {a b : S} {r1 r : SRes} (h : a ρ = r1) (h2 : seqK r1 b = r) : sSeq a b ρ = r := by
  subst h h2; rfl
theorem j_seqN {b : S} {r : SRes} (h : b ρ = r) : seqK (.nx ρ) b = r := h
theorem j_drop {m : M (Bool × D)} {a : Bool × D} (h : m ρ = .ok a ρ1) : sDrop m ρ = .nx ρ1 := k_drop h
theorem j_if {t : M Bool} {a b : S} {k : Bool} {r : SRes} (h : t ρ = .ok k ρ1) (h2 : (if k = true then a else b) ρ1 = r) : sIf t a b ρ = r := k_if h h2
theorem j_ret {m : M (Bool × D)} {f : Bool} {d : D} (h : m ρ = .ok (f, d) ρ1) : sRet m ρ = .rt f d ρ1 := k_ret h
theorem j_nil : sNil ρ = .nx ρ := rfl
theorem j_raise {k : Str} {ma : M (List Slot)} {g : Bool} {d : D} (h : Args ma ρ g [d] ρ1) : sRaise k ma ρ = .er k d ρ1 := by
  obtain ⟨ss, e1, e2⟩ := h
  unfold sRaise sE; rw [e1]; dsimp only; rw [e2]
def goInit : List D → Nat → List Slot
  | [], 0 => []
  | [], n + 1 => .no :: goInit [] n
  | d :: ds, 0 => .dat false d :: goInit ds 0
  | d :: ds, n + 1 => .dat false d :: goInit ds n
theorem goInit_nil : ∀ n : Nat, goInit [] n = List.replicate n .no
  | 0 => by rw [goInit]; rfl
  | n + 1 => by rw [goInit, goInit_nil n]; rfl
theorem goInit_eq : ∀ (ds : List D) (N : Nat), goInit ds N = ds.map (.dat false) ++ List.replicate (N - ds.length) .no
  | [], N => by rw [goInit_nil]; simp
  | d :: ds, 0 => by rw [goInit, goInit_eq ds 0]; simp
  | d :: ds, N + 1 => by rw [goInit, goInit_eq ds N]; simp
theorem initS_go {ds : List D} {N : Nat} {r : List Slot} (h : goInit ds N = r) : initS N (ds.map (.dat false)) = r := by
  subst h
  rw [goInit_eq, initS, List.length_map]
theorem initP_go {ds : List D} {N : Nat} {r : List Slot} {ns : List Int} (h : goInit ds N = r) : initS (N + 1) (.pool ns :: ds.map (.dat false)) = .pool ns :: r := by
  subst h
  rw [goInit_eq, initS, List.length_cons, List.length_map, Nat.add_sub_add_right]
  rfl
theorem go_d {d : D} {ds : List D} {n : Nat} : goInit (d :: ds) (n + 1) = .dat false d :: goInit ds n := by rw [goInit]
theorem go_n {n : Nat} : goInit [] (n + 1) = .no :: goInit [] n := by rw [goInit]
theorem go_0 : goInit [] 0 = [] := by rw [goInit]
theorem j_run {N n : Nat} {s : S} {ds : List D} {f : Bool} {d d' : D} {ρ0 : List Slot} (hn : ds.length = n) (h0 : goInit ds N = ρ0) (h : s ρ0 = .rt f d' ρ) (hf : (f || flatD d') = true) (hd : d' = d) : runD N n s ds = .ok true d := by
  subst hd
  exact k_run hn ((congrArg s (initS_go h0)).trans h) hf
theorem j_runN {N n : Nat} {s : S} {ds : List D} {ρ0 : List Slot} (hn : ds.length = n) (h0 : goInit ds N = ρ0) (h : s ρ0 = .nx ρ) : runD N n s ds = .ok true .non :=
  k_runN hn ((congrArg s (initS_go h0)).trans h)
theorem j_runE {N n : Nat} {s : S} {ds : List D} {k : Str} {d d' : D} {ρ0 : List Slot} (hn : ds.length = n) (h0 : goInit ds N = ρ0) (h : s ρ0 = .er k d' ρ) (hd : d' = d) : runD N n s ds = .er k d := by
  subst hd
  exact k_runE hn ((congrArg s (initS_go h0)).trans h)
theorem j_runP {N n : Nat} {s : S} {ds : List D} {f : Bool} {d d' : D} {ρ0 : List Slot} {ns ns' : List Int} (hn : ds.length + 1 = n) (h0 : goInit ds N = ρ0) (h : s (.pool ns :: ρ0) = .rt f d' (.pool ns' :: ρ)) (hf : (f || flatD d') = true) (hd : d' = d) : runP (N + 1) n s ns ds = .ok true d ns' := by
  subst hd
  unfold runP; rw [if_pos hn, initP_go h0, h]; dsimp only; rw [hf]
theorem j_pnil : mp ([] : List Slot) ρ = .ok [] ρ := rfl
theorem j_pcD {m : M (Bool × D)} {ma : M (List Slot)} {f : Bool} {d : D} {ss : List Slot} (h : m ρ = .ok (f, d) ρ1) (h2 : ma ρ1 = .ok ss ρ2) : maCons (mDat m) ma ρ = .ok (.dat f d :: ss) ρ2 := k_cons (k_dat h) h2
theorem j_pcO {m : M (Bool × List D)} {ma : M (List Slot)} {f : Bool} {d : List D} {ss : List Slot} (h : m ρ = .ok (f, d) ρ1) (h2 : ma ρ1 = .ok ss ρ2) : maCons (mOwn m) ma ρ = .ok (.own f d :: ss) ρ2 := k_cons (k_own h) h2
theorem j_par {is : List Nat} {ma : M (List Slot)} {ss : List Slot} (h : ma ρ = .ok ss ρ1) (h2 : setAll is ss ρ1 = some ρ2) : sPar is ma ρ = .nx ρ2 := k_par h h2
theorem j_asg {t : Tgt} {m : M (Bool × D)} {f : Bool} {d : D} (h : m ρ = .ok (f, d) ρ1) (h2 : t (f, d) ρ1 = some ρ2) : sAsg t m ρ = .nx ρ2 := by
  unfold sAsg sE; rw [h]; dsimp only; rw [h2]
theorem map_snoc {α : Type} {e : α → D} {xs : List α} {x : α} : xs.map e ++ [e x] = (xs ++ [x]).map e := by rw [List.map_append]; rfl
theorem j_appM {α : Type} {e : α → D} {xs : List α} {x : α} {i : Nat} {ma : M (List Slot)} {g : Bool} (h0 : ρ[i]? = some (.own true (xs.map e))) (h : Args ma ρ g [e x] ρ1) (h3 : ρ1[i]? = some (.own true (xs.map e))) (hg : g = true) (hl : xs.length < 100000) (h5 : ρ1.set i (.own true ((xs ++ [x]).map e)) = ρ2) : mMut i ma kAppend ρ = .ok (true, .non) ρ2 := by
  subst hg
  obtain ⟨ss, e1, e2⟩ := h
  refine k_mut (fr := true) (ds := xs.map e) (l := (true, (xs ++ [x]).map e)) ?_ e1 e2 ?_ ?_ h5
  · unfold getOwn; rw [h0]; rfl
  · unfold getOwn; rw [h3]
  · unfold kAppend; dsimp only; rw [if_pos (by rw [List.length_map]; exact hl), map_snoc]; rfl
/-! targets, what a comprehension hides -/
theorem tg_name {i : Nat} {f : Bool} {d : D} {r : List Slot} (h : decide (i < ρ.length) = true) (h2 : ρ.set i (.dat f d) = r) : tgName i (f, d) ρ = some r := by
  subst h2; unfold tgName; exact if_pos (of_decide_eq_true h)
theorem o_cut {α : Type} {e : α → D} {xs : List α} {i : Nat} : cutD (xs.map e) none (some (i : Int)) = (xs.take i).map e := by rw [cutD_take, List.map_take]
/-- a walk that ends at the first item that is so -/
theorem for_check {α : Type} {e : α → Bool × D} {t : Tgt} {b : S} {xs : List α} {mk : α → List Slot → SRes} (hm : ∀ x ρ, (∀ s, mk x ρ ≠ .nx s) ∧ (∀ s, mk x ρ ≠ .ct s) ∧ ∀ s, mk x ρ ≠ .bk s) (I : List Slot → Prop) (B : List α → α → Prop)
    (hs : ∀ i x ρ, xs[i]? = some x → I ρ → ∃ ρ1, t (e x) ρ = some ρ1 ∧ (¬ B (xs.take i) x → ∃ ρ2, b ρ1 = .nx ρ2 ∧ I ρ2) ∧ (B (xs.take i) x → ∃ ρ2, b ρ1 = mk x ρ2)) {ρ : List Slot} (h0 : I ρ) :
    (NoBad B xs → ∃ ρ', forD t b (xs.map e) ρ = .nx ρ' ∧ I ρ') ∧ ∀ x, FirstBad B xs x → ∃ ρ', forD t b (xs.map e) ρ = mk x ρ' := by
  refine ⟨fun nb => ?_, fun x hx => ?_⟩
  · obtain ⟨ρ', h1, h2⟩ := for_inv (t := t) (b := b) (fun _ ρ => I ρ) (its := xs.map e) (k := 0) (ρ := ρ) h0 fun i a ρ ha hI => by
      obtain ⟨x, hx, rfl⟩ := map_get ha
      obtain ⟨ρ1, h1, h2, _⟩ := hs i x ρ hx hI
      obtain ⟨ρ2, h3, h4⟩ := h2 (nb i x hx)
      exact ⟨ρ1, ρ2, h1, h3, h4⟩
    exact ⟨ρ', h1, h2⟩
  · obtain ⟨n, hn, hb, hnb⟩ := hx
    have e0 : (xs.map e)[n]? = some (e x) := by rw [List.getElem?_map, hn]; rfl
    exact for_exit (fun _ ρ => I ρ) (fun r => ∃ ρ', r = mk x ρ') (fun s ⟨_, z⟩ => (hm x _).1 s z.symm) (fun s ⟨_, z⟩ => (hm x _).2.1 s z.symm) (fun s ⟨_, z⟩ => (hm x _).2.2 s z.symm) (k := 0) e0 h0
      (fun i a ρ hi ha hI => by
        obtain ⟨y, hy, rfl⟩ := map_get ha
        obtain ⟨ρ1, h1, h2, _⟩ := hs i y ρ hy hI
        obtain ⟨ρ2, h3, h4⟩ := h2 (hnb i y hi hy)
        exact ⟨ρ1, ρ2, h1, h3, h4⟩)
      (fun ρ hI => by
        obtain ⟨ρ1, h1, _, h3⟩ := hs n x ρ hn hI
        exact ⟨ρ1, h1, h3 hb⟩)
theorem mk_er {α : Type} {k : Str} {ed : α → D} (x : α) (ρ : List Slot) : (∀ s, (SRes.er k (ed x) ρ) ≠ .nx s) ∧ (∀ s, (SRes.er k (ed x) ρ) ≠ .ct s) ∧ ∀ s, (SRes.er k (ed x) ρ) ≠ .bk s := ⟨fun _ z => (nomatch z), fun _ z => (nomatch z), fun _ z => (nomatch z)⟩
/-! operators of texts and numbers -/
theorem o_in {x : Str} {xs : List Str} : dIn (.str x) (.lst (xs.map D.str)) = some (.bl (decide (x ∈ xs))) := in_strs x xs
theorem o_nin {x : Str} {xs : List Str} : dNotIn (.str x) (.lst (xs.map D.str)) = some (.bl (!decide (x ∈ xs))) := notIn_strs x xs
theorem o_eqs {x y : Str} : dEq (.str x) (.str y) = some (.bl (decide (x = y))) := eq_str x y
theorem o_eqi {x y : Int} : dEq (.int x) (.int y) = some (.bl (decide (x = y))) := eq_int x y
theorem o_neL {x y : List Str} : dNe (.lst (x.map D.str)) (.lst (y.map D.str)) = some (.bl (!decide (x = y))) := ne_strs x y
theorem o_neL0 {x : List Str} : dNe (.lst (x.map D.str)) (.lst []) = some (.bl (!decide (x = []))) := ne_strs x []
theorem o_len {α : Type} {e : α → D} {xs : List α} : dLen (.lst (xs.map e)) = some (.int (xs.length : Nat)) := by
  show some (D.int ((xs.map e).length : Nat)) = _
  rw [List.length_map]
theorem o_isN {d : D} : dIsN d .non = some (.bl (isNon d)) := rfl
theorem o_lt {x y : Int} : dLt (.int x) (.int y) = some (.bl (decide (x < y))) := rfl
theorem o_neg {i : Int} : dNeg (.int i) = some (.int (-i)) := rfl
theorem o_last {α : Type} {e : α → D} {x : α} {xs : List α} : atI ((xs ++ [x]).map e) (-1) = some (e x) := by
  unfold atI
  have h1 : ixN ((xs ++ [x]).map e).length (-1) = some xs.length := by
    rw [List.length_map, List.length_append, List.length_singleton]
    unfold ixN
    rw [if_neg (by omega), if_pos (by omega)]
    congr 1
    omega
  rw [h1]
  show ((xs ++ [x]).map e)[xs.length]? = _
  rw [List.getElem?_map]
  simp
end
end F55
section F56
/-! The place of a thing in a list that an expression shows. -/
open PySem PySem.Spec PyProof.Rows L2 He Ds
section
variable {K : PySem.W.Frag} {W : WX}
end
end F56
section F57
/-! A result that is changed within an if, the last of a block. -/
open PySem PySem.Spec PyProof.Rows L2 He Ds
section
variable {K : PySem.W.Frag} {W : WX}
end
end F57
section F58
/-! A part of a tuple: t[lo:hi]. -/
open PySem PySem.Spec PyProof.Rows L2 He Ds
section
variable {K : PySem.W.Frag} {W : WX}
end
end F58
section F59
open PySem PySem.Spec PyProof.Rows L2 He Ds
section
variable {K : PySem.W.Frag} {W : WX} {c : Cc} {G G' H : Hp} {σ : L2.St} {ρ : List Slot}
/-! ### a new instance, its values by name -/
/-! ### try: ... except DeedError as e: ... return .. (slot i is e's, N slots in all) -/
end
/-! ### the clause of k03: the class's letter, the value -/
/-! ### a def that lets no error out -/
end F59
section F60
/-! The caught error as a datum, and a def that is given it. -/
open PySem PySem.Spec PyProof.Rows L2 He Ds
/-! ### isinstance and .value of an error that stands pinned -/
section
variable {X : Cx} {a C : Addr} {oe : Obj} {cls : Value} {d : Option Addr}
end
/-! ### a def given the caught error -/
structure FnEx (P : Program) (w : World) (K : PySem.W.Frag) (mg : Str → Option Value) (base : Heap) (CX : CXT) (k : Nat) (f : Addr) (fd : FuncData) (ps : List Str) (sp : Addr → Value → Option Addr → Sp) : Prop where
  many : ∀ a cls d vs H Q E, sp a cls d vs H Q E → vs.length = ps.length
  does : ∀ (A : Around) (outer : List Env) (s : Shared) (H : Hp) (args : PySem.Args) (us : List Value) (vs : List V) (Q : VK) (E : XK) (p : Addr × Obj) (cls : Value) (d : Option Addr), L2H.RoomH k A → L2H.PinOk outer H s p → Zc cls d p.2 → (∃ z, p.2.data = .fields z) →
    Env0 P w K mg base A outer s H → BindsTo s fd args (ps.zip us) → Vals vs us → sp p.1 cls d vs H Q E → codeAny (model P w) A (.call (.ref f) args) (CR CX outer P w H s Q E) s
section
variable {P : Program} {w : World} {K : PySem.W.Frag} {mg : Str → Option Value} {base : Heap} {x qual : Str} {prm : Arguments} {body : List Stmt} {sc : Scope} {f : Addr} {fd : FuncData}
end
section
variable {X : Cx} {CX : CXT} {k j : Nat} {x : Str} {ps : List Str} {sp : Addr → Value → Option Addr → Sp} {p pos : Pos} {e : Expr} {es : List Expr} {t : TA} {a : Addr} {oe : Obj} {cls : Value} {d : Option Addr} {pn : List (Addr × Obj)}
end
/-! ### the caught error among the data: a, k, x are its address, its class, its dict's address -/
section
variable {K : PySem.W.Frag} {mg : Str → Option Value} {W : WX} {a : Addr} {k : Str} {x : Addr}
/-! ### the clause -/
end
end F60
section F61
/-! Own lists within an own list: [[], [], ..], x[a] + x[b], x[i].append(y). -/
open PySem PySem.Spec PyProof.Rows L2 He Ds
section
variable {K : PySem.W.Frag} {W : WX} {c : Cc} {G G' H H' : Hp} {σ : L2.St} {ρ ρ1 ρ2 ρ3 : List Slot} {T : List En}
def tNils : Nat → TA
  | 0 => tNil
  | n + 1 => tCons (tLst tNil) (tNils n)
theorem nils_run {σ : L2.St} : ∀ (n : Nat) (H : Hp) (Q : List V → Hp → Prop), (∀ (as : List Addr) (H' : Hp), as.length = n → as.Nodup → (∀ a ∈ as, H a = none ∧ H' a = some (.lst [])) → (∀ b, b ∉ as → H' b = H b) → Q (refs as) H') → tNils n σ H Q
  | 0, H, Q, h => h [] H rfl List.nodup_nil (fun a ha => by simp at ha) fun _ _ => rfl
  | n + 1, H, Q, h => by
    show ([] : List V).length ≤ sizeLine ∧ ∀ p, H p = none → tNils n σ (upd H p (.lst [])) fun xs H2 => Q (V.ref p :: xs) H2
    refine ⟨by show 0 ≤ sizeLine; decide, fun p np => nils_run n _ _ fun as H' l nd h1 h2 => ?_⟩
    have pa : p ∉ as := fun hm => by have := (h1 p hm).1; rw [upd_same] at this; cases this
    refine h (p :: as) H' (by rw [List.length_cons, l]) (List.nodup_cons.mpr ⟨pa, nd⟩) (fun a ha => ?_) fun b hb => ?_
    · rcases List.mem_cons.mp ha with rfl | ha
      · exact ⟨np, by rw [h2 _ pa, upd_same]⟩
      · have e : a ≠ p := fun z => pa (z ▸ ha)
        refine ⟨?_, (h1 a ha).2⟩
        have := (h1 a ha).1
        rwa [upd_ne e] at this
    · rw [h2 b (fun hm => hb (List.mem_cons_of_mem _ hm)), upd_ne fun z => hb (by rw [z]; exact List.mem_cons_self)]
def mNest (n : Nat) : M Slot := mp (.own2 true none (List.replicate n []))
theorem inl_nils {fr : Bool} : ∀ {as : List Addr}, (∀ a ∈ as, c.H0 a = none ∧ G a = none ∧ H a = some (.lst [])) → InL c G H fr as (List.replicate as.length [])
  | [], _ => .nil
  | a :: as, h => .cons (h a List.mem_cons_self).1 (h a List.mem_cons_self).2.1 (h a List.mem_cons_self).2.2 .nil (inl_nils fun b hb => h b (List.mem_cons_of_mem _ hb))
theorem ds1_nest {n : Nat} (hn : n ≤ 1000) : DS1 K W (tLst (tNils n)) (mNest n) := by
  intro c G H σ ρ T Q hK hl R p
  refine nils_run n H _ fun as H' l nd h1 h2 => ⟨by show (as.map V.ref).length ≤ sizeLine; rw [List.length_map, l]; exact Nat.le_trans hn (by decide), fun q nq => ?_⟩
  have qa : q ∉ as := fun hm => by rw [(h1 q hm).2] at nq; cases nq
  have hq : H q = none := by rw [← h2 q qa]; exact nq
  have sH : Same H H' := fun b o e => by rw [h2 b fun hm => by rw [(h1 b hm).1] at e; cases e]; exact e
  have sH2 : Same H (upd H' q (.lst (refs as))) := fun b o e => by rw [upd_ne fun z => by rw [z, hq] at e; cases e]; exact sH b o e
  have R0 : Rel c G (upd H' q (.lst (refs as))) (σ.zip ρ ++ T) := R.grow sH2 (Same.refl G) (R.gs.trans sH2) fun _ _ => rfl
  have e2 : (upd H' q (.lst (refs as))) q = some (o2 none as) := upd_same
  have hin : InL c G (upd H' q (.lst (refs as))) true as (List.replicate as.length []) := inl_nils fun a ha => ⟨R.h0 (h1 a ha).1, R.gn (h1 a ha).1, by rw [upd_ne (show a ≠ q from fun z => qa (z ▸ ha))]; exact (h1 a ha).2⟩
  have oL : ownL (upd H' q (.lst (refs as))) (some (V.ref q), Slot.own2 true none (List.replicate n [])) = q :: as := ownL_o2 e2 trivial
  refine p hl G H R (Same.refl G) (.ref q) _ (R0.cons ((slot_own rfl).mpr ⟨q, rfl, R.gn hq, (by rw [e2]; intro z; cases z), R.h0 hq, as, e2, trivial, by rw [← l]; exact hin⟩) (by rw [oL]; exact List.nodup_cons.mpr ⟨qa, nd⟩) fun b hb => ?_)
  rw [oL] at hb
  have hb0 : H b = none := by
    rcases List.mem_cons.mp hb with rfl | hb
    · exact hq
    · exact (h1 b hb).1
  have e3 : ownE (upd H' q (.lst (refs as))) (σ.zip ρ ++ T) = ownE H (σ.zip ρ ++ T) := ownE_keep fun x hx z hz => by
    have := ((R.sl x hx).own hz).1
    cases e : H z with
    | none => exact absurd e this
    | some o => exact sH2 z o e
  rw [e3]
  exact R.notin hb0
/-- an own list among own lists -/
theorem InL.at {fr : Bool} {as : List Addr} {dss : List (List D)} {i : Int} {ds : List D} (h : InL c G H fr as dss) (e : atI dss i = some ds) : ∃ j a vs, ixN dss.length i = some j ∧ as[j]? = some a ∧ dss[j]? = some ds ∧ atI (refs as) i = some (.ref a) ∧ H a = some (.lst vs) ∧ DrA c.K G (Fl c fr) vs ds := by
  unfold atI at e
  cases q : ixN dss.length i with
  | none => rw [q] at e; cases e
  | some j =>
    rw [q] at e
    have e' : dss[j]? = some ds := e
    have hj : j < as.length := by rw [h.len]; exact (List.getElem?_eq_some_iff.mp e').1
    have ea : as[j]? = some as[j] := List.getElem?_eq_getElem hj
    obtain ⟨vs, ds', h1, _, _, h2, h3⟩ := h.get ea
    rw [e'] at h1
    cases h1
    refine ⟨j, _, vs, rfl, ea, e', ?_, h2, h3⟩
    unfold atI refs
    rw [List.length_map, h.len, q]
    show (as.map V.ref)[j]? = _
    rw [List.getElem?_map, ea]
    rfl
def mCat2 (i : Nat) (a b : Int) : M (Bool × List D) := fun ρ => match ρ[i]? with
  | some (.own2 fr none dss) => (match atI dss a, atI dss b with
    | some xs, some ys => if xs.length + ys.length ≤ 1000000 then .ok ((fr || flatDs xs) && (fr || flatDs ys), xs ++ ys) ρ else .no
    | _, _ => .no)
  | _ => .no
theorem dl_cat2 {i : Nat} {a b : Int} : DL K W (tOp rCat (tOp (rIxL K) (tVar i) (tC (.int a))) (tOp (rIxL K) (tVar i) (tC (.int b)))) (mCat2 i a b) := by
  intro c G H σ ρ T Q hK hl R p
  unfold mCat2 at p
  cases e : ρ[i]? with
  | none => rw [e] at p; exact p.elim
  | some s => cases s with
    | own2 fr k dss => cases k with
      | some ks => rw [e] at p; exact p.elim
      | none =>
        rw [e] at p
        dsimp only at p
        cases ea : atI dss a with
        | none => rw [ea] at p; exact p.elim
        | some xs => cases eb : atI dss b with
          | none => rw [ea, eb] at p; exact p.elim
          | some ys =>
            rw [ea, eb] at p
            dsimp only at p
            split at p
            · rename_i hz
              obtain ⟨o, e1, e2⟩ := zip_get hl e
              obtain ⟨q, eo, _, _, _, as, h4, _, h5⟩ := R.sl _ (zip_mem (T := T) e2)
              cases eo
              subst hK
              obtain ⟨_, a1, vs, _, _, _, i1, i2, i3⟩ := h5.at ea
              obtain ⟨_, a2, ws, _, _, _, j1, j2, j3⟩ := h5.at eb
              refine ⟨.ref q, e1, q, refs as, a, .ref a1, rfl, rfl, SqL.of h4, i1, ?_⟩
              refine ⟨.ref q, e1, q, refs as, b, .ref a2, rfl, rfl, SqL.of h4, j1, ?_⟩
              exact ⟨a1, a2, vs, ws, rfl, rfl, i2, j2, by rw [i3.len, j3.len]; exact Nat.le_trans hz (by decide), R.lst (i3.fl.low.append j3.fl.low') (p hl G H R (Same.refl G))⟩
            · exact p.elim
    | _ => rw [e] at p; exact p.elim
def mApp2 (i w t : Nat) : M (Bool × D) := fun ρ => match ρ[i]?, ρ[w]?, ρ[t]? with
  | some (.own2 true none dss), some (.dat _ (.int k)), some (.dat ft d) => (match ixN dss.length k with
    | some j => (match dss[j]? with
      | some ds => if ds.length < 100000 ∧ (ft || flatD d) = true then .ok (true, .non) (ρ.set i (.own2 true none (dss.set j (ds ++ [d])))) else .no
      | none => .no)
    | none => .no)
  | _, _, _ => .no
theorem de_app2 {i w t : Nat} : DE K W (tBM K "list" rAppend (tOp (rIxL K) (tVar i) (tVar w)) (tCons (tVar t) tNil)) (mApp2 i w t) := by
  intro c G H σ ρ T Q hK hl R p
  unfold mApp2 at p
  split at p
  · rename_i dss fw k ft d e ew et
    cases ej : ixN dss.length k with
    | none => rw [ej] at p; exact p.elim
    | some j =>
      rw [ej] at p
      dsimp only at p
      cases ed : dss[j]? with
      | none => rw [ed] at p; exact p.elim
      | some ds =>
        rw [ed] at p
        dsimp only at p
        split at p
        · rename_i hz
          obtain ⟨o, e1, e2⟩ := zip_get hl e
          obtain ⟨ow, w1, w2⟩ := zip_get hl ew
          obtain ⟨vw, eow, hw⟩ := R.sl _ (zip_mem (T := T) w2)
          cases eow
          obtain ⟨ot, t1, t2⟩ := zip_get hl et
          obtain ⟨vt, eot, ht⟩ := R.sl _ (zip_mem (T := T) t2)
          cases eot
          subst hK
          cases hw
          have R3 := R.out e2
          obtain ⟨q, eq, g1, h1, ⟨h0, as, h2, hln, hin⟩, _⟩ := R3.head rfl
          cases eq
          have ek : atI dss k = some ds := by unfold atI; rw [ej]; exact ed
          obtain ⟨j', a, vs, i0, i1, i2, i3, i4, i5⟩ := hin.at ek
          rw [ej] at i0
          cases i0
          have am : a ∈ as := List.mem_of_getElem? i1
          have oL : ownL H (some (V.ref q), Slot.own2 true none dss) = q :: as := ownL_o2 h2 hln
          have nd : (q :: as).Nodup := by
            have := R3.nd
            unfold ownE at this
            rw [List.flatMap_cons, oL] at this
            exact (List.nodup_append.mp this).1
          have aq : a ≠ q := fun z => (List.nodup_cons.mp nd).1 (z ▸ am)
          refine ⟨.ref q, e1, .int k, w1, q, refs as, k, .ref a, rfl, rfl, SqL.of h2, i3, .inl ⟨rfl, vs, SqL.of i4⟩, vt, t1, ?_⟩
          show rAppend _ _ _ _
          refine ⟨a, vs, vt, rfl, rfl, i4, by rw [i5.len]; exact Nat.lt_of_lt_of_le hz.1 (by decide), ?_⟩
          have dt : Dr c.K G (Fl c true) vt d := by have := ht.fl; rwa [hz.2] at this
          have e0' : (upd H a (.lst (vs ++ [vt]))) q = some (o2 none as) := by rw [upd_ne (Ne.symm aq)]; exact h2
          have hin' := hin.set (H' := upd H a (.lst (vs ++ [vt]))) (ds := ds ++ [d]) upd_same (i5.append (.cons dt .nil)) (fun b hb _ => upd_ne hb) (List.nodup_cons.mp nd).2 i1
          have R5 : Rel c G (upd H a (.lst (vs ++ [vt]))) ((some (V.ref q), Slot.own2 true none (dss.set j (ds ++ [d]))) :: rest σ ρ T i) := by
            refine R3.mutA (fun b z => ?_) (fun b hb => ?_) (fun b hb z => ?_) ((slot_own rfl).mpr ⟨q, rfl, g1, (by rw [e0']; intro z; cases z), h0, as, e0', trivial, hin'⟩) (by rw [ownL_o2 e0' trivial]; exact nd) (fun b hb => .inl (by rw [oL]; rwa [ownL_o2 e0' trivial] at hb))
            · by_cases hba : b = a
              · subst hba; exact .inl (by rw [oL]; exact List.mem_cons_of_mem _ am)
              · exact absurd (upd_ne hba) z
            · by_cases hba : b = a
              · subst hba; rw [upd_same]; intro z; cases z
              · rw [upd_ne hba]; exact hb
            · right
              rw [oL] at hb
              rcases List.mem_cons.mp hb with rfl | hb
              · exact h0
              · exact (hin.mem hb).1
          exact p (by rw [List.length_set]; exact hl) _ _ (Rel.back' hl e1 R5) (Same.refl G) .non .non
        · exact p.elim
  · exact p.elim
/-! ### reading -/
theorem j_cat2 {i : Nat} {a b : Int} {dss : List (List D)} {xs ys : List D} (h0 : ρ[i]? = some (.own2 true none dss)) (ha : atI dss a = some xs) (hb : atI dss b = some ys) (hz : xs.length + ys.length ≤ 1000000) : mCat2 i a b ρ = .ok (true, xs ++ ys) ρ := by
  unfold mCat2
  rw [h0]
  dsimp only
  rw [ha, hb]
  dsimp only
  rw [if_pos hz]
  rfl
theorem j_app2 {i w t j : Nat} {k : Int} {dss : List (List D)} {ds : List D} {d : D} {fw ft : Bool} (h0 : ρ[i]? = some (.own2 true none dss)) (h1 : ρ[w]? = some (.dat fw (.int k))) (h2 : ρ[t]? = some (.dat ft d)) (hj : ixN dss.length k = some j) (hd : dss[j]? = some ds) (hz : ds.length < 100000) (hf : (ft || flatD d) = true) (h5 : ρ.set i (.own2 true none (dss.set j (ds ++ [d]))) = ρ2) : mApp2 i w t ρ = .ok (true, .non) ρ2 := by
  subst h5
  unfold mApp2
  rw [h0, h1, h2]
  dsimp only
  rw [hj]
  dsimp only
  rw [hd]
  dsimp only
  rw [if_pos ⟨hz, hf⟩]
end
end F61
section F62
open PySem PySem.Spec PyProof.Rows L2 He Ds
def B_law_fits_1 (w : World) : S := (sSeq (sPar [5, 6] (maCons (mDat (mMut 4 (maCons (mDat (mPool 0 D_law_draw (maCons (mDat (mUn dLen (mLook 4))) (mp [])))) (mp [])) kPopAt)) (maCons (mDat (mPool 0 D_law_draw (maCons (mDat (mp (true, D.int 5))) (mp [])))) (mp []))))
 (sIf (mOr (mT (mOp dLt (mLook 6) (mE (mp (true, D.int 2))))) (mT (mOp dLt (mE (mUn dLen (mE (mKeep (mCat2 3 2 3))))) (mE (mp (true, D.int 3))))))
 (sDrop (mApp2 3 6 5))
 sNil))
noncomputable def B_law_fits_2 (w : World) : S := (sSeq (sSet 16 (mKeep (mComp [5] (mIt itList (mVar 10)) (tgName 5) (mT (mOp dNotInT (mLook 5) (mE (mTup (maCons (mDat (mVar 14)) (maCons (mDat (mVar 15)) (mp []))))))) (mVar 5))))
 (sIf (mOr (mT (mCall (D_barred w) (maCons (mDat (mVar 2)) (maCons (mDat (mKeep (mLst (maCons (mDat (mVar 14)) (mp []))))) (maCons (mDat (mKeep (mLst (maCons (mDat (mVar 15)) (mp []))))) (maCons (mDat (mVar 16)) (mp []))))))) (mT (mOp dNe (mE (mCall (D_open_way w) (maCons (mDat (mVar 2)) (maCons (mDat (mVar 14)) (maCons (mDat (mVar 15)) (maCons (mDat (mVar 16)) (mp []))))))) (mE (mKeep (mLst (maCons (mDat (mVar 14)) (maCons (mDat (mVar 15)) (mp [])))))))))
 (sRet (mp (true, D.bl false)))
 sNil))
noncomputable def D_law_fits (w : World) : List Int → List D → OutP := runP 18 1 (sSeq (sSet 1 (mIf (mT (mOp dEq (mE (mPool 0 D_law_draw (maCons (mDat (mp (true, D.int 4))) (mp [])))) (mE (mp (true, D.int 0))))) (mBin mIxT (mE (mPool 0 D_law_known (mp []))) (mE (mp (true, D.int 0)))) (mPool 0 D_law_chart (maCons (mDat (mp (true, D.int 6))) (mp [])))))
 (sSeq (sPar [2, 3, 4] (maCons (mDat (mCall D_law_made (maCons (mDat (mVar 1)) (mp [])))) (maCons (mNest 5) (maCons (mOwn (mOne mListK (mE (mBin mIxT (mLook 1) (mE (mp (true, D.int 0))))))) (mp [])))))
 (sSeq (sWhile 100000 (mT (mOp dNe (mLook 4) (mE (mKeep (mLst (mp []))))))
 (B_law_fits_1 w))
 (sSeq (sAsg (tgLst 4 (tgsCons (tgName 7) (tgsCons (tgName 8) (tgsCons (tgName 9) (tgsCons (tgName 10) tgsNil))))) (mKeep (mSl mSlL (mE (mRetL 3)) (mp none) (mPart (mp (true, D.int 4))))))
 (sSeq (sSet 11 (mCall (D_barred w) (maCons (mDat (mVar 2)) (maCons (mDat (mVar 7)) (maCons (mDat (mKeep (mBin mCatK (mLook 8) (mLook 9)))) (maCons (mDat (mVar 10)) (mp [])))))))
 (sSeq (sSet 12 (mKeep (mComp [17] (mIt itTup (mTup (maCons (mDat (mVar 8)) (maCons (mDat (mVar 9)) (mp []))))) (tgName 17) (mp true) (mCall (D_barred w) (maCons (mDat (mVar 2)) (maCons (mDat (mVar 7)) (maCons (mDat (mVar 17)) (maCons (mDat (mVar 10)) (mp [])))))))))
 (sSeq (sIf (mOr (mT (mOp dNe (mLook 11) (mE (mOp dEq (mLook 12) (mE (mKeep (mLst (maCons (mDat (mp (true, D.bl true))) (maCons (mDat (mp (true, D.bl true))) (mp [])))))))))) (mT (mOp dNe (mE (mCall (D_barred w) (maCons (mDat (mVar 2)) (maCons (mDat (mKeep (mBin mCatK (mLook 8) (mLook 9)))) (maCons (mDat (mVar 7)) (maCons (mDat (mVar 10)) (mp []))))))) (mLook 11))))
 (sRet (mp (true, D.bl false)))
 sNil)
 (sSeq (sSet 13 (mCall (D_barred w) (maCons (mDat (mVar 2)) (maCons (mDat (mVar 7)) (maCons (mDat (mVar 8)) (maCons (mDat (mKeep (mBin mCatK (mLook 10) (mLook 9)))) (mp [])))))))
 (sSeq (sIf (mOr (mAnd (mT (mVar 11)) (mNot (mT (mVar 13)))) (mAnd (mT (mBin mIxL (mLook 12) (mE (mp (true, D.int 1))))) (mAnd (mT (mVar 13)) (mNot (mT (mVar 11))))))
 (sRet (mp (true, D.bl false)))
 sNil)
 (sSeq (sFor (mIt itList (mKeep (mBin mCatK (mE (mBin mIxT (mLook 1) (mE (mp (true, D.int 1))))) (mE (mBin mIxT (mLook 1) (mE (mp (true, D.int 2)))))))) (tgTup 2 (tgsCons (tgName 14) (tgsCons (tgName 15) tgsNil)))
 (B_law_fits_2 w))
 (sRet (mAndV (mCall (D_barred w) (maCons (mDat (mVar 2)) (maCons (mDat (mVar 7)) (maCons (mDat (mKeep (mLst (mp [])))) (maCons (mDat (mVar 10)) (mp [])))))) (mCall (D_barred w) (maCons (mDat (mVar 2)) (maCons (mDat (mKeep (mLst (mp [])))) (maCons (mDat (mVar 8)) (maCons (mDat (mKeep (mLst (mp [])))) (mp []))))))))))))))))))
end F62
local macro_rules | `(tactic| walk_at "b2rdx") => `(tactic| repeat (first | with_reducible apply k_E | with_reducible apply k_op | with_reducible apply k_bin | with_reducible apply k_ixL | with_reducible apply k_un | with_reducible apply k_one | with_reducible apply k_dat | with_reducible apply k_own | with_reducible apply k_keep | with_reducible apply k_cons | with_reducible apply k_tup | with_reducible apply k_lst | with_reducible apply k_rng | with_reducible apply k_it | with_reducible apply k_pool | with_reducible apply k_mut | with_reducible apply k_T | with_reducible apply k_tru | with_reducible apply k_and | with_reducible apply k_or | with_reducible apply k_not | with_reducible apply k_seq | with_reducible apply k_drop | with_reducible apply k_if | with_reducible apply k_ret | with_reducible apply k_par | with_reducible apply k_for | with_reducible apply k_comp | with_reducible apply k_set | with_reducible apply k_setO | with_reducible apply k_step2 | with_reducible apply k_callK | with_reducible apply k_mif | with_reducible apply k_compO | with_reducible apply k_call | with_reducible apply k_callX | with_reducible apply k_prop | with_reducible apply k_fld | with_reducible apply k_make | with_reducible apply k_makeX | with_reducible apply k_catK | with_reducible apply k_enum | with_reducible apply k_look | with_reducible apply k_mp | ((with_reducible apply k_iteT); (first | rfl | assumption)) | ((with_reducible apply k_iteF); (first | rfl | assumption)) | assumption | with_reducible rfl | rfl))
local macro_rules | `(tactic| walk_at "b2rdg") => `(tactic| (apply Eq.trans; walk_at "b2rdx"))
section F63
open PySem PySem.Spec PyProof.Rows L2 He Ds
/-! ### the pool -/
def PoolOk (ns : List Int) (n : Nat) : Prop := ∃ a b c : Int, ns = [a, b, c] ∧ 0 ≤ a ∧ 0 ≤ b ∧ b < 2 ^ 62 ∧ 0 ≤ c ∧ c ≤ n
theorem PoolOk.mono {ns : List Int} {n m : Nat} (h : PoolOk ns n) (l : n ≤ m) : PoolOk ns m := by
  obtain ⟨a, b, c, h1, h2, h3, h4, h5, h6⟩ := h
  exact ⟨a, b, c, h1, h2, h3, h4, h5, by omega⟩
theorem dgt_int (x y : Int) : dGt (.int x) (.int y) = some (.bl (decide (y < x))) := rfl
theorem dadd_int (x y : Int) : dAdd (.int x) (.int y) = some (.int (x + y)) := rfl
theorem dmod_int {x y : Int} (h : 0 < y) : dMod (.int x) (.int y) = some (.int (x % y)) := by
  unfold dMod dI; exact if_pos (decide_eq_true h)
theorem log_lt {x : Int} {n : Nat} (h : x.natAbs < 2 ^ n) (h0 : 0 < n) : x.natAbs.log2 < n := PySem.Flt.log2_lt_of h0 h
theorem dfdiv_int {x y : Int} (h : 0 < y) (h2 : y < 2 ^ 200) : dFdiv (.int x) (.int y) = some (.int (x / y)) := by
  unfold dFdiv dI
  have := log_lt (x := y) (n := 200) (by omega) (by decide)
  exact if_pos (by simp [h]; omega)
theorem dmul_int {x y : Int} (h : x.natAbs < 2 ^ 200) (h2 : y.natAbs < 2 ^ 200) : dMul (.int x) (.int y) = some (.int (x * y)) := by
  unfold dMul dI
  have := log_lt h (by decide)
  have := log_lt h2 (by decide)
  exact if_pos (decide_eq_true (by omega))
theorem dpow3 {x : Int} (h : x.natAbs < 2 ^ 200) : dPow (.int x) (.int 3) = some (.int (x ^ 3)) := by
  unfold dPow dI
  have := log_lt h (by decide)
  exact if_pos (by simp; omega)
theorem dint_int (x : Int) : dInt (.int x) = some (.int x) := rfl
theorem runP_ok {N n : Nat} {s : S} {ns ns' : List Int} {ds : List D} {fr : Bool} {d : D} (hn : ds.length + 1 = n) (h : ∃ ρ, s (initS N (.pool ns :: ds.map (.dat false))) = .rt fr d (.pool ns' :: ρ)) : runP N n s ns ds = .ok (fr || flatD d) d ns' := by
  obtain ⟨ρ, h⟩ := h
  unfold runP
  rw [if_pos hn, h]
theorem seq_nx {a b : S} {ρ ρ1 : List Slot} (h : a ρ = .nx ρ1) : sSeq a b ρ = b ρ1 := by
  unfold sSeq; rw [h]
theorem at3_0 {a b c : D} : atI [a, b, c] 0 = some a := rfl
theorem at3_1 {a b c : D} : atI [a, b, c] 1 = some b := rfl
theorem at3_2 {a b c : D} : atI [a, b, c] 2 = some c := rfl
theorem ixN3_0 : ixN 3 0 = some 0 := rfl
theorem ixN3_2 : ixN 3 2 = some 2 := rfl
theorem ev_draw {ns : List Int} {n : Nat} {m : Int} (h : PoolOk ns n) (hn : n ≤ 1000000000) (hm : 0 < m) (hm2 : m < 2 ^ 200) : ∃ d ns', D_law_draw ns [.int m] = .ok true (.int d) ns' ∧ 0 ≤ d ∧ d < m ∧ PoolOk ns' (n + 1) := by
  obtain ⟨a, b, c, rfl, ha, hb, hb2, hc, hcn⟩ := h
  by_cases c0 : 0 < a
  · refine ⟨a % m, [a / m, b, c], ?_, Int.emod_nonneg _ (by omega), Int.emod_lt_of_pos _ hm, _, _, _, rfl, Int.ediv_nonneg ha (by omega), hb, hb2, hc, by omega⟩
    unfold D_law_draw
    refine (runP_ok (fr := true) rfl ?_).trans rfl
    try simp only [runD, runP, runI, initS, sSeq, sE, sSet, sSetO, sSetD, sRet, sRetN, sNil, sIf, sDrop, sAsg, sPar, sRaise, setAll, mb, mp, mo, mno, mVar, mLook, lookV, isSet, mE, mOp, mUn, mBin, mOne, mT, mBl, mTru, truD, mAnd, mOr, mNot, mAndV, mOrV, mNotV, mNotT, mIf, mTup, mLst, mKeep, mDats, dats, mDat, mOwn, maCons, mCall, mCallX, mRetV, mFld, fldD, mProp, outN, outM, isObj, flatD, flatDs, mMut, onOwn, getOwn, kAppend, kInsert, kPopAt, kExtend, mPop, sPut, sGuard, hasDct, putS, mDisp1, keyOf, mListK, mCatK, mIxL, mIxT, mSl, mSlL, mPart, sSelfC, outI, outIN, mMake, mMakeX, mMeth, mMethN, isObjM, tgName, tgTup, tgsCons, tgsNil, List.map_cons, List.map_nil, List.length_cons, List.length_nil, List.cons_append, List.nil_append, List.replicate, List.getElem?_cons_zero, List.getElem?_cons_succ, List.set_cons_zero, List.set_cons_succ, if_true, if_false, ite_true, ite_false, Bool.true_and, Bool.and_true, Bool.or_true, Bool.true_or, Bool.false_or, Bool.or_false, Bool.false_and, Bool.and_false, Option.map_some, Option.bind_some, Nat.add_eq, Nat.reduceAdd, Nat.reduceSub, Nat.reduceLeDiff, Nat.reduceLT, Nat.reduceEqDiff, Option.isSome_some, reduceCtorEq, decide_true, decide_false, Bool.not_true, Bool.not_false, not_true_eq_false, not_false_eq_true, Bool.not_eq_true, in_strs, notIn_strs, in_prs, eq_str, ne_str, eq_int, ne_int, eq_bl, ne_bl, eq_strs, ne_strs, eq_strss, sPoolSet, poolS, sGuard, hasPool, mPool, mCallP, at3_0, at3_1, at3_2, dgt_int, decide_eq_true c0, dint_int, dmod_int hm, dfdiv_int hm hm2, ixN3_0]
    exact ⟨_, rfl⟩
  · unfold D_law_draw
    have p1 : (0 : Int) < 162259276829213363391578010288127 := by decide
    have p2 : (162259276829213363391578010288127 : Int) < 2 ^ 110 := by decide
    have p3 : (0 : Int) < 170141183460469231731687303715884105727 := by decide
    have p4 : (0 : Int) < 1048576 ∧ (1048576 : Int) < 2 ^ 200 := by decide
    have p5 : (0 : Int) < 15485863 ∧ (15485863 : Int) < 2 ^ 30 := by decide
    have p6 : (0 : Int) < 32452843 ∧ (32452843 : Int) < 2 ^ 30 := by decide
    generalize (162259276829213363391578010288127 : Int) = M1 at p1 p2 ⊢
    generalize (170141183460469231731687303715884105727 : Int) = M2 at p3 ⊢
    generalize (1048576 : Int) = M3 at p4 ⊢
    generalize (15485863 : Int) = M4 at p5 ⊢
    generalize (32452843 : Int) = M5 at p6 ⊢
    have hp3 : ∀ x : Int, x.natAbs < 2 ^ 200 → dPow (.int x) (.int 3) = some (.int (x ^ 3)) := fun x h => dpow3 h
    have hmu : ∀ x y : Int, x.natAbs < 2 ^ 200 → y.natAbs < 2 ^ 200 → dMul (.int x) (.int y) = some (.int (x * y)) := fun x y h h2 => dmul_int h h2
    generalize dPow = P at hp3 ⊢
    generalize dMul = U at hmu ⊢
    have q4 : M4 * (c + 1) ≤ M4 * 2 ^ 40 := Int.mul_le_mul_of_nonneg_left (by omega) (by omega)
    have q5 : M5 * (c + 1) ≤ M5 * 2 ^ 40 := Int.mul_le_mul_of_nonneg_left (by omega) (by omega)
    have r4 : 0 ≤ M4 * (c + 1) := Int.mul_nonneg (by omega) (by omega)
    have r5 : 0 ≤ M5 * (c + 1) := Int.mul_nonneg (by omega) (by omega)
    have hg1 : U (.int M4) (.int (c + 1)) = some (.int (M4 * (c + 1))) := hmu _ _ (by omega) (by omega)
    have hg2 : U (.int M5) (.int (c + 1)) = some (.int (M5 * (c + 1))) := hmu _ _ (by omega) (by omega)
    have hg3 : P (.int (b + M4 * (c + 1))) (.int 3) = some (.int ((b + M4 * (c + 1)) ^ 3)) := hp3 _ (by omega)
    have e1 : 0 ≤ (b + M4 * (c + 1)) ^ 3 % M1 := Int.emod_nonneg _ (by omega)
    have e2 : (b + M4 * (c + 1)) ^ 3 % M1 < M1 := Int.emod_lt_of_pos _ p1
    have g5 : dMod (.int ((b + M4 * (c + 1)) ^ 3)) (.int M1) = some (.int ((b + M4 * (c + 1)) ^ 3 % M1)) := dmod_int p1
    generalize (b + M4 * (c + 1)) ^ 3 % M1 = x at e1 e2 g5
    generalize (b + M4 * (c + 1)) ^ 3 = y at hg3 g5
    have hg4 : P (.int (x + M5 * (c + 1))) (.int 3) = some (.int ((x + M5 * (c + 1)) ^ 3)) := hp3 _ (by omega)
    have g6 : dMod (.int ((x + M5 * (c + 1)) ^ 3)) (.int M2) = some (.int ((x + M5 * (c + 1)) ^ 3 % M2)) := dmod_int p3
    generalize (x + M5 * (c + 1)) ^ 3 = z at hg4 g6
    generalize z % M2 = w at g6
    refine ⟨w / M3 % m, [a, b, c + 1], ?_, Int.emod_nonneg _ (by omega), Int.emod_lt_of_pos _ hm, _, _, _, rfl, ha, hb, hb2, by omega, by omega⟩
    refine (runP_ok (fr := true) rfl ?_).trans rfl
    refine ⟨[.dat false (.int m), .no, .dat true (.int w)], (seq_nx (ρ1 := [.pool [a, b, c], .dat false (.int m), .no, .no]) ?_).trans ((seq_nx (ρ1 := [.pool [a, b, c + 1], .dat false (.int m), .no, .no]) ?_).trans
      ((seq_nx (ρ1 := [.pool [a, b, c + 1], .dat false (.int m), .no, .dat true (.int x)]) ?_).trans ((seq_nx (ρ1 := [.pool [a, b, c + 1], .dat false (.int m), .no, .dat true (.int w)]) ?_).trans ?_)))⟩
    · try simp only [runD, runP, runI, initS, sSeq, sE, sSet, sSetO, sSetD, sRet, sRetN, sNil, sIf, sDrop, sAsg, sPar, sRaise, setAll, mb, mp, mo, mno, mVar, mLook, lookV, isSet, mE, mOp, mUn, mBin, mOne, mT, mBl, mTru, truD, mAnd, mOr, mNot, mAndV, mOrV, mNotV, mNotT, mIf, mTup, mLst, mKeep, mDats, dats, mDat, mOwn, maCons, mCall, mCallX, mRetV, mFld, fldD, mProp, outN, outM, isObj, flatD, flatDs, mMut, onOwn, getOwn, kAppend, kInsert, kPopAt, kExtend, mPop, sPut, sGuard, hasDct, putS, mDisp1, keyOf, mListK, mCatK, mIxL, mIxT, mSl, mSlL, mPart, sSelfC, outI, outIN, mMake, mMakeX, mMeth, mMethN, isObjM, tgName, tgTup, tgsCons, tgsNil, List.map_cons, List.map_nil, List.length_cons, List.length_nil, List.cons_append, List.nil_append, List.replicate, List.getElem?_cons_zero, List.getElem?_cons_succ, List.set_cons_zero, List.set_cons_succ, if_true, if_false, ite_true, ite_false, Bool.true_and, Bool.and_true, Bool.or_true, Bool.true_or, Bool.false_or, Bool.or_false, Bool.false_and, Bool.and_false, Option.map_some, Option.bind_some, Nat.add_eq, Nat.reduceAdd, Nat.reduceSub, Nat.reduceLeDiff, Nat.reduceLT, Nat.reduceEqDiff, Option.isSome_some, reduceCtorEq, decide_true, decide_false, Bool.not_true, Bool.not_false, not_true_eq_false, not_false_eq_true, Bool.not_eq_true, in_strs, notIn_strs, in_prs, eq_str, ne_str, eq_int, ne_int, eq_bl, ne_bl, eq_strs, ne_strs, eq_strss, sPoolSet, poolS, sGuard, hasPool, mPool, mCallP, at3_0, dgt_int, decide_eq_false c0]
    · try simp only [runD, runP, runI, initS, sSeq, sE, sSet, sSetO, sSetD, sRet, sRetN, sNil, sIf, sDrop, sAsg, sPar, sRaise, setAll, mb, mp, mo, mno, mVar, mLook, lookV, isSet, mE, mOp, mUn, mBin, mOne, mT, mBl, mTru, truD, mAnd, mOr, mNot, mAndV, mOrV, mNotV, mNotT, mIf, mTup, mLst, mKeep, mDats, dats, mDat, mOwn, maCons, mCall, mCallX, mRetV, mFld, fldD, mProp, outN, outM, isObj, flatD, flatDs, mMut, onOwn, getOwn, kAppend, kInsert, kPopAt, kExtend, mPop, sPut, sGuard, hasDct, putS, mDisp1, keyOf, mListK, mCatK, mIxL, mIxT, mSl, mSlL, mPart, sSelfC, outI, outIN, mMake, mMakeX, mMeth, mMethN, isObjM, tgName, tgTup, tgsCons, tgsNil, List.map_cons, List.map_nil, List.length_cons, List.length_nil, List.cons_append, List.nil_append, List.replicate, List.getElem?_cons_zero, List.getElem?_cons_succ, List.set_cons_zero, List.set_cons_succ, if_true, if_false, ite_true, ite_false, Bool.true_and, Bool.and_true, Bool.or_true, Bool.true_or, Bool.false_or, Bool.or_false, Bool.false_and, Bool.and_false, Option.map_some, Option.bind_some, Nat.add_eq, Nat.reduceAdd, Nat.reduceSub, Nat.reduceLeDiff, Nat.reduceLT, Nat.reduceEqDiff, Option.isSome_some, reduceCtorEq, decide_true, decide_false, Bool.not_true, Bool.not_false, not_true_eq_false, not_false_eq_true, Bool.not_eq_true, in_strs, notIn_strs, in_prs, eq_str, ne_str, eq_int, ne_int, eq_bl, ne_bl, eq_strs, ne_strs, eq_strss, sPoolSet, poolS, sGuard, hasPool, mPool, mCallP, at3_2, dadd_int, ixN3_2]
    · walk_at "b2rdx"
    · walk_at "b2rdx"
    · try simp only [runD, runP, runI, initS, sSeq, sE, sSet, sSetO, sSetD, sRet, sRetN, sNil, sIf, sDrop, sAsg, sPar, sRaise, setAll, mb, mp, mo, mno, mVar, mLook, lookV, isSet, mE, mOp, mUn, mBin, mOne, mT, mBl, mTru, truD, mAnd, mOr, mNot, mAndV, mOrV, mNotV, mNotT, mIf, mTup, mLst, mKeep, mDats, dats, mDat, mOwn, maCons, mCall, mCallX, mRetV, mFld, fldD, mProp, outN, outM, isObj, flatD, flatDs, mMut, onOwn, getOwn, kAppend, kInsert, kPopAt, kExtend, mPop, sPut, sGuard, hasDct, putS, mDisp1, keyOf, mListK, mCatK, mIxL, mIxT, mSl, mSlL, mPart, sSelfC, outI, outIN, mMake, mMakeX, mMeth, mMethN, isObjM, tgName, tgTup, tgsCons, tgsNil, List.map_cons, List.map_nil, List.length_cons, List.length_nil, List.cons_append, List.nil_append, List.replicate, List.getElem?_cons_zero, List.getElem?_cons_succ, List.set_cons_zero, List.set_cons_succ, if_true, if_false, ite_true, ite_false, Bool.true_and, Bool.and_true, Bool.or_true, Bool.true_or, Bool.false_or, Bool.or_false, Bool.false_and, Bool.and_false, Option.map_some, Option.bind_some, Nat.add_eq, Nat.reduceAdd, Nat.reduceSub, Nat.reduceLeDiff, Nat.reduceLT, Nat.reduceEqDiff, Option.isSome_some, reduceCtorEq, decide_true, decide_false, Bool.not_true, Bool.not_false, not_true_eq_false, not_false_eq_true, Bool.not_eq_true, in_strs, notIn_strs, in_prs, eq_str, ne_str, eq_int, ne_int, eq_bl, ne_bl, eq_strs, ne_strs, eq_strss, sPoolSet, poolS, sGuard, hasPool, mPool, mCallP, dint_int, dfdiv_int p4.1 p4.2, dmod_int hm]
end F63
section F64
open PySem PySem.Spec PyProof.Rows L2 He Ds
/-! ### the chart -/
theorem kPopAt_str {fa : Bool} {d : Int} {ys : List Str} {z : Str} (h0 : 0 ≤ d) (hz : ys[d.toNat]? = some z) (hl : ys.length ≤ 1000000) : kPopAt fa [.int d] true (ys.map D.str) = some ((true, .str z), (true, (ys.eraseIdx d.toNat).map D.str)) := by
  obtain ⟨h1, _⟩ := List.getElem?_eq_some_iff.mp hz
  unfold kPopAt
  dsimp only
  rw [if_pos ⟨h0, by rw [List.length_map]; omega, by rw [List.length_map]; exact hl⟩, List.getElem?_map, hz, eraseIdx_mapS]
  simp
theorem dlen_strs {xs : List Str} : dLen (sL xs) = some (.int (xs.length : Nat)) := by
  show some (D.int _) = _
  simp
theorem kAppend_str {xs : List Str} {z : Str} (hl : xs.length < 100000) : kAppend true [.str z] true (xs.map D.str) = some ((true, .non), (true, (xs ++ [z]).map D.str)) := by
  unfold kAppend
  dsimp only
  rw [if_pos (by rw [List.length_map]; exact hl)]
  simp
theorem ev_letters {n : Nat} {ns : List Int} (h : PoolOk ns n) (hn : n ≤ 999000000) {xs ys : List Str} (hp : (xs ++ ys).Perm abc) (hy : 0 < ys.length) {s0 s4 s5 s6 s7 s8 s9 s10 s11 s12 s13 : Slot} :
    ∃ z i ns', PoolOk ns' (n + 1) ∧ ys[i]? = some z ∧ B_law_chart_1 [.pool ns, s0, .own true (xs.map D.str), .own true (ys.map D.str), s4, s5, s6, s7, s8, s9, s10, s11, s12, s13] =
      .nx [.pool ns', s0, .own true ((xs ++ [z]).map D.str), .own true ((ys.eraseIdx i).map D.str), s4, s5, s6, s7, s8, s9, s10, s11, s12, s13] := by
  have hlen := hp.length_eq
  rw [List.length_append, abc_len] at hlen
  obtain ⟨d, ns', e1, d0, d1, h'⟩ := ev_draw (m := (ys.length : Nat)) h (by omega) (by omega) (by omega)
  obtain ⟨z, hz⟩ : ∃ z, ys[d.toNat]? = some z := ⟨_, List.getElem?_eq_getElem (by omega)⟩
  have p1 := kPopAt_str (fa := true) d0 hz (by omega)
  rw [← List.length_map (as := ys) (f := D.str)] at e1
  have p3 := kAppend_str (xs := xs) (z := z) (by omega)
  refine ⟨z, _, ns', h', hz, ?_⟩
  unfold B_law_chart_1
  walk_at "b2rdx"
theorem ev_order {n : Nat} {ns : List Int} (h : PoolOk ns n) (hn : n ≤ 999000000) {xs ys : List Str} (hx : xs.length ≤ 100) (hy : 0 < ys.length) (hy2 : ys.length ≤ 100) {s0 s2 s3 s4 s7 s8 s9 s10 s11 s12 s13 : Slot} :
    ∃ z i ns', PoolOk ns' (n + 1) ∧ ys[i]? = some z ∧ B_law_chart_2 [.pool ns, s0, s2, s3, s4, .own true (xs.map D.str), .own true (ys.map D.str), s7, s8, s9, s10, s11, s12, s13] =
      .nx [.pool ns', s0, s2, s3, s4, .own true ((xs ++ [z]).map D.str), .own true ((ys.eraseIdx i).map D.str), s7, s8, s9, s10, s11, s12, s13] := by
  obtain ⟨d, ns', e1, d0, d1, h'⟩ := ev_draw (m := (ys.length : Nat)) h (by omega) (by omega) (by omega)
  obtain ⟨z, hz⟩ : ∃ z, ys[d.toNat]? = some z := ⟨_, List.getElem?_eq_getElem (by omega)⟩
  have p1 := kPopAt_str (fa := true) d0 hz (by omega)
  rw [← List.length_map (as := ys) (f := D.str)] at e1
  have p3 := kAppend_str (xs := xs) (z := z) (by omega)
  refine ⟨z, _, ns', h', hz, ?_⟩
  unfold B_law_chart_2
  walk_at "b2rdx"
/-! the ties -/
theorem kExtend_pr {ps qs : List Pr} (hl : ps.length + qs.length ≤ 100000) : kExtend true [pL qs] true (ps.map prD) = some ((true, .non), (true, (ps ++ qs).map prD)) := by
  unfold kExtend
  dsimp only
  rw [if_pos (by rw [List.length_map, List.length_map]; exact hl)]
  simp
theorem ev_ties_at {order : List Str} {j : Nat} (hj : j < order.length) (hl : order.length ≤ 100) {s0 s1 s2 s3 s4 s6 s9 s10 s11 s12 s13 : Slot} {ps : List Pr} (hp : ps.length ≤ 1000) :
    B_law_chart_3 [s0, s1, s2, s3, s4, .own true (order.map D.str), s6, .own true (ps.map prD), .dat true (.int (j : Nat)), s9, s10, s11, s12, s13] =
      .nx [s0, s1, s2, s3, s4, .own true (order.map D.str), s6, .own true ((ps ++ tiesAt order j).map prD), .dat true (.int (j : Nat)), s9, s10, s11, s12, s13] := by
  have hr : rng1 [.int (j : Nat)] = some (rngD 0 j) := by
    unfold rng1
    dsimp only
    rw [if_pos (by unfold smallI; simp; omega)]
    rfl
  have he := kExtend_pr (ps := ps) (qs := tiesAt order j) (by simp [tiesAt]; omega)
  have hc : compD [13] (tgName 13) (mp true) (mTup (maCons (mDat (mBin mIxL (mLook 5) (mLook 13))) (maCons (mDat (mBin mIxL (mLook 5) (mLook 8))) (mp [])))) [s0, s1, s2, s3, s4, .own true (order.map D.str), s6, .own true (ps.map prD), .dat true (.int (j : Nat)), s9, s10, s11, s12, s13] (rngD 0 j) true [] [s0, s1, s2, s3, s4, .own true (order.map D.str), s6, .own true (ps.map prD), .dat true (.int (j : Nat)), s9, s10, s11, s12, .no] = .ok (true, (tiesAt order j).map prD) [s0, s1, s2, s3, s4, .own true (order.map D.str), s6, .own true (ps.map prD), .dat true (.int (j : Nat)), s9, s10, s11, s12, s13] := by
    unfold rngD
    refine (comp_map (p := fun _ => true) (g := fun i : Nat => prD (order.getD i Str.empty, order.getD j Str.empty)) (fun i hi => ?_) (by rw [List.length_range]; omega)).trans ?_
    · have hi2 : i < j := List.mem_range.mp hi
      have a1 : atI (order.map D.str) (0 + (i : Int)) = some (.str (order.getD i Str.empty)) := by
        rw [Int.zero_add]
        exact atI_nat (by rw [List.getElem?_map, getD_some (by omega)]; rfl)
      have a2 : atI (order.map D.str) (j : Nat) = some (.str (order.getD j Str.empty)) := atI_nat (by rw [List.getElem?_map, getD_some (by omega)]; rfl)
      refine ⟨[s0, s1, s2, s3, s4, .own true (order.map D.str), s6, .own true (ps.map prD), .dat true (.int (j : Nat)), s9, s10, s11, s12, .dat true (.int (0 + (i : Int)))], rfl, rfl, fun _ => ?_, rfl⟩
      walk_at "b2rdg"
    · rw [show (List.range j).filter (fun _ => true) = List.range j from List.filter_eq_self.mpr (fun _ _ => rfl)]
      simp [tiesAt, unw, wipeS]
  unfold B_law_chart_3
  walk_at "b2rdx"
end F64
section F65
open PySem PySem.Spec PyProof.Rows L2 He Ds
theorem kInsert_pr {i : Int} {p : Pr} {ps : List Pr} (h0 : 0 ≤ i) (h1 : i ≤ 1000) (hl : ps.length ≤ 1000) : kInsert true [.int i, prD p] true (ps.map prD) = some ((true, .non), (true, (ins ps i.toNat p).map prD)) := by
  unfold kInsert
  dsimp only
  rw [if_pos ⟨by rw [List.length_map]; omega, h0, by omega⟩]
  simp [ins, List.map_take, List.map_drop]
def c124 (d : Int) : Bool := decide (d = 1 ∨ d = 2 ∨ d = 4)
def c34 (d : Int) : Bool := decide (d = 3 ∨ d = 4)
theorem five {d : Int} (h0 : 0 ≤ d) (h1 : d < 5) : d = 0 ∨ d = 1 ∨ d = 2 ∨ d = 3 ∨ d = 4 := by omega
theorem in124 {d : Int} (h0 : 0 ≤ d) (h1 : d < 5) : dInT (.int d) (.tup [.int 1, .int 2, .int 4]) = some (.bl (c124 d)) := by
  rcases five h0 h1 with h | h | h | h | h <;> subst h <;> rfl
theorem in34 {d : Int} (h0 : 0 ≤ d) (h1 : d < 5) : dInT (.int d) (.tup [.int 3, .int 4]) = some (.bl (c34 d)) := by
  rcases five h0 h1 with h | h | h | h | h <;> subst h <;> rfl
abbrev B4a : S := (sIf (mT (mOp dInT (mLook 12) (mE (mTup (maCons (mDat (mp (true, D.int 1))) (maCons (mDat (mp (true, D.int 2))) (maCons (mDat (mp (true, D.int 4))) (mp []))))))))
 (sDrop (mMut 9 (maCons (mDat (mPool 0 D_law_draw (maCons (mDat (mOp dAdd (mE (mUn dLen (mLook 9))) (mE (mp (true, D.int 1))))) (mp [])))) (maCons (mDat (mVar 11)) (mp []))) kInsert))
 sNil)
abbrev B4b : S := (sIf (mAnd (mT (mOp dInT (mLook 12) (mE (mTup (maCons (mDat (mp (true, D.int 3))) (maCons (mDat (mp (true, D.int 4))) (mp []))))))) (mT (mOp dLt (mE (mUn dLen (mLook 10))) (mE (mp (true, D.int 5))))))
 (sDrop (mMut 10 (maCons (mDat (mPool 0 D_law_draw (maCons (mDat (mOp dAdd (mE (mUn dLen (mLook 10))) (mE (mp (true, D.int 1))))) (mp [])))) (maCons (mDat (mStep2 (mVar 11) (mBin mIxL (mE (mKeep (mLst (maCons (mDat (mp (true, D.int 1))) (maCons (mDat (mUn dNeg (mE (mp (true, D.int 1))))) (mp [])))))) (mE (mPool 0 D_law_draw (maCons (mDat (mp (true, D.int 2))) (mp []))))))) (mp []))) kInsert))
 sNil)
theorem ev_4a {n : Nat} {ns : List Int} (h : PoolOk ns n) (hn : n ≤ 999000000) {ls : List Pr} (hl : ls.length ≤ 500) {t : Pr} {d : Int} (d0 : 0 ≤ d) (d1 : d < 5) {s1 s2 s3 s4 s5 s6 s7 s8 s10 s13 : Slot} :
    ∃ ls' ns', PoolOk ns' (n + 1) ∧ (ls' = ls ∨ ∃ i, ls' = ins ls i t) ∧ B4a [.pool ns, s1, s2, s3, s4, s5, s6, s7, s8, .own true (ls.map prD), s10, .dat true (prD t), .dat true (.int d), s13] =
      .nx [.pool ns', s1, s2, s3, s4, s5, s6, s7, s8, .own true (ls'.map prD), s10, .dat true (prD t), .dat true (.int d), s13] := by
  have hi := in124 d0 d1
  obtain ⟨c, hc⟩ : ∃ c, c = c124 d := ⟨_, rfl⟩
  rw [← hc] at hi
  cases c with
  | false =>
    refine ⟨ls, ns, h.mono (by omega), .inl rfl, ?_⟩
    walk_at "b2rdx"
  | true =>
    obtain ⟨e, ns', e1, g0, g1, h'⟩ := ev_draw (m := (ls.length : Nat) + 1) h (by omega) (by omega) (by omega)
    have p1 := kInsert_pr (i := e) (p := t) (ps := ls) g0 (by omega) (by omega)
    rw [← List.length_map (as := ls) (f := prD)] at e1
    refine ⟨_, ns', h', .inr ⟨e.toNat, rfl⟩, ?_⟩
    walk_at "b2rdx"
theorem ev_4b {n : Nat} {ns : List Int} (h : PoolOk ns n) (hn : n ≤ 999000000) {vs : List Pr} (hl : vs.length ≤ 500) {t : Pr} {d : Int} (d0 : 0 ≤ d) (d1 : d < 5) {s1 s2 s3 s4 s5 s6 s7 s8 s9 s13 : Slot} :
    ∃ vs' ns', PoolOk ns' (n + 2) ∧ (vs' = vs ∨ (vs.length < 5 ∧ ∃ i v, (v = t ∨ v = (t.2, t.1)) ∧ vs' = ins vs i v)) ∧ B4b [.pool ns, s1, s2, s3, s4, s5, s6, s7, s8, s9, .own true (vs.map prD), .dat true (prD t), .dat true (.int d), s13] =
      .nx [.pool ns', s1, s2, s3, s4, s5, s6, s7, s8, s9, .own true (vs'.map prD), .dat true (prD t), .dat true (.int d), s13] := by
  have hi := in34 d0 d1
  obtain ⟨c, hc⟩ : ∃ c, c = c34 d := ⟨_, rfl⟩
  rw [← hc] at hi
  cases c with
  | false =>
    refine ⟨vs, ns, h.mono (by omega), .inl rfl, ?_⟩
    walk_at "b2rdx"
  | true =>
    by_cases h5 : vs.length < 5
    · have hk : decide ((((vs.map prD).length : Nat) : Int) < 5) = true := decide_eq_true (by rw [List.length_map]; omega)
      obtain ⟨e, ns1, e1, g0, g1, h1⟩ := ev_draw (m := (vs.length : Nat) + 1) h (by omega) (by omega) (by omega)
      obtain ⟨z, ns2, e2, k0, k1, h2⟩ := ev_draw (m := 2) h1 (by omega) (by omega) (by omega)
      rw [← List.length_map (as := vs) (f := prD)] at e1
      by_cases hz : z = 0
      · subst hz
        have p1 := kInsert_pr (i := e) (p := t) (ps := vs) g0 (by omega) (by omega)
        refine ⟨_, ns2, h2, .inr ⟨h5, e.toNat, t, .inl rfl, rfl⟩, ?_⟩
        walk_at "b2rdx"
      · have hz1 : z = 1 := by omega
        subst hz1
        have p1 := kInsert_pr (i := e) (p := (t.2, t.1)) (ps := vs) g0 (by omega) (by omega)
        refine ⟨_, ns2, h2, .inr ⟨h5, e.toNat, _, .inr rfl, rfl⟩, ?_⟩
        walk_at "b2rdx"
    · have hk : decide ((((vs.map prD).length : Nat) : Int) < 5) = false := decide_eq_false (by rw [List.length_map]; omega)
      refine ⟨vs, ns, h.mono (by omega), .inl rfl, ?_⟩
      walk_at "b2rdx"
theorem nodup_leG {α : Type} [DecidableEq α] : ∀ {xs ys : List α}, xs.Nodup → (∀ x ∈ xs, x ∈ ys) → xs.length ≤ ys.length
  | [], _, _, _ => Nat.zero_le _
  | x :: xs, ys, nd, h => by
    obtain ⟨n1, n2⟩ := List.nodup_cons.mp nd
    have hx := h x (by simp)
    have := nodup_leG (xs := xs) (ys := ys.erase x) n2 fun y hy => (List.mem_erase_of_ne (fun e : y = x => n1 (e ▸ hy))).mpr (h y (by simp [hy]))
    rw [List.length_erase_of_mem hx] at this
    have := List.length_pos_of_mem hx
    rw [List.length_cons]
    omega
theorem ev_tie {n : Nat} {ns : List Int} (h : PoolOk ns n) (hn : n ≤ 998000000) {T : List Pr} (nd : T.Nodup) (sw : ∀ p ∈ T, (p.2, p.1) ∉ T) {k : Nat} (hk : k ≤ 100) {t : Pr} (ht : T[k]? = some t) {ls vs : List Pr} (L : Laid T k ls vs) {s1 s2 s3 s4 s5 s6 s7 s8 s12 s13 : Slot} :
    ∃ ls' vs' ns' s, PoolOk ns' (n + 4) ∧ Laid T (k + 1) ls' vs' ∧ B_law_chart_4 [.pool ns, s1, s2, s3, s4, s5, s6, s7, s8, .own true (ls.map prD), .own true (vs.map prD), .dat true (prD t), s12, s13] =
      .nx [.pool ns', s1, s2, s3, s4, s5, s6, s7, s8, .own true (ls'.map prD), .own true (vs'.map prD), .dat true (prD t), s, s13] := by
  have hll : ls.length ≤ k := by
    have := nodup_leG L.lnd L.lsub
    rw [List.length_take] at this
    omega
  obtain ⟨d, ns1, e1, d0, d1, h1⟩ := ev_draw (m := 5) h (by omega) (by omega) (by omega)
  obtain ⟨ls', ns2, h2, cl, e2⟩ := ev_4a h1 (by omega) (ls := ls) (by omega) (t := t) d0 d1 (s1 := s1) (s2 := s2) (s3 := s3) (s4 := s4) (s5 := s5) (s6 := s6) (s7 := s7) (s8 := s8) (s10 := .own true (vs.map prD)) (s13 := s13)
  obtain ⟨vs', ns3, h3, cv, e3⟩ := ev_4b h2 (by omega) (vs := vs) (by have := L.vlen; omega) (t := t) d0 d1 (s1 := s1) (s2 := s2) (s3 := s3) (s4 := s4) (s5 := s5) (s6 := s6) (s7 := s7) (s8 := s8) (s9 := .own true (ls'.map prD)) (s13 := s13)
  refine ⟨ls', vs', ns3, .dat true (.int d), h3, ?_, ?_⟩
  · have sk := L.skip
    have a1 : (∀ p ∈ ls', p ∈ T.take (k + 1)) ∧ ls'.Nodup := by
      rcases cl with rfl | ⟨i, rfl⟩
      · exact ⟨sk.lsub, sk.lnd⟩
      · exact L.line nd ht i
    have a2 : (∀ p ∈ vs', p ∈ T.take (k + 1) ∨ (p.2, p.1) ∈ T.take (k + 1)) ∧ vs'.Pairwise (fun p q => p ≠ q ∧ p ≠ (q.2, q.1)) ∧ vs'.length ≤ 5 := by
      rcases cv with rfl | ⟨h5, i, v, hv, rfl⟩
      · exact ⟨sk.vsub, sk.vnd, sk.vlen⟩
      · exact L.veil nd sw ht hv h5 i
    exact ⟨a1.1, a1.2, a2.1, a2.2.1, a2.2.2⟩
  · unfold B_law_chart_4
    apply k_seq
    · walk_at "b2rdx"
    apply k_seq
    · exact e2
    · exact e3
end F65
section F66
open PySem PySem.Spec PyProof.Rows L2 He Ds
theorem signs_abc : signs "abcdefghijklmnopqrstuvwxyz" = abc.map D.str := by
  unfold signs abc
  rw [List.map_map]
  rfl
theorem rng1_nat {k : Int} (h0 : 0 ≤ k) (h1 : k ≤ 1000000) : rng1 [.int k] = some (rngD 0 k.toNat) := by
  unfold rng1
  dsimp only
  rw [if_pos (by unfold smallI; simp; omega)]
theorem rngD_len {lo : Int} {n : Nat} : (rngD lo n).length = n := by unfold rngD; simp
theorem ne_emp {xs : List Str} : dNe (sL xs) (.lst []) = some (.bl (!decide (xs = []))) := ne_strs xs []
theorem ev_chart {n : Nat} {ns : List Int} (h : PoolOk ns n) (hn : n ≤ 900000000) {W : Nat} (hW1 : 1 ≤ W) (hW2 : W ≤ 6) :
    ∃ ns' xs ls vs, PoolOk ns' (n + 300) ∧ ChartOk W xs ls vs ∧ D_law_chart ns [.int (W : Nat)] = .ok true (.tup [sL xs, pL ls, pL vs]) ns' := by
  obtain ⟨d, ns1, e1, d0, d1, h1⟩ := ev_draw (m := (W : Nat)) h (by omega) (by omega) (by omega)
  -- the letters
  obtain ⟨I1, hI1⟩ : ∃ I : Nat → List Slot → Prop, I = fun i ρ => ∃ (ms : List Int) (xs ys : List Str) (s4 : Slot), ρ = [.pool ms, .dat false (.int (W : Nat)), .own true (xs.map D.str), .own true (ys.map D.str), s4, .no, .no, .no, .no, .no, .no, .no, .no, .no] ∧ PoolOk ms (n + 1 + i) ∧ xs.length = i ∧ (xs ++ ys).Perm abc := ⟨_, rfl⟩
  obtain ⟨ρ1, f1, g1⟩ := for_inv (t := tgName 4) (b := B_law_chart_1) I1 (its := rngD 0 (1 + d).toNat) (k := 0) (ρ := [.pool ns1, .dat false (.int (W : Nat)), .own true ([].map D.str), .own true (abc.map D.str), .no, .no, .no, .no, .no, .no, .no, .no, .no, .no])
    (by rw [hI1]; exact ⟨ns1, [], abc, .no, rfl, h1, rfl, List.Perm.refl _⟩)
    (fun i a ρ ha hI => by
      rw [hI1, Nat.zero_add] at hI
      obtain ⟨ms, xs, ys, s4, rfl, hm, hx, hp⟩ := hI
      have hi : i < (1 + d).toNat := by
        have := List.getElem?_eq_some_iff.mp ha
        obtain ⟨z, _⟩ := this
        rw [rngD_len] at z
        exact z
      have hlen := hp.length_eq
      rw [List.length_append, abc_len] at hlen
      obtain ⟨z, j, ms', hm', hz, hB⟩ := ev_letters hm (by omega) hp (by omega) (s0 := .dat false (.int (W : Nat))) (s4 := .dat a.1 a.2) (s5 := .no) (s6 := .no) (s7 := .no) (s8 := .no) (s9 := .no) (s10 := .no) (s11 := .no) (s12 := .no) (s13 := .no)
      refine ⟨_, _, rfl, hB, ?_⟩
      rw [hI1]
      refine ⟨ms', _, _, _, rfl, hm'.mono (by omega), by rw [List.length_append, hx]; simp, ?_⟩
      rw [List.append_assoc]
      exact ((cons_erase hz).append_left xs).trans hp)
  rw [hI1, rngD_len, Nat.zero_add] at g1
  obtain ⟨ms1, xs, ys, s4, rfl, hm1, hx, hp⟩ := g1
  have hlen := hp.length_eq
  rw [List.length_append, abc_len] at hlen
  have hnd : xs.Nodup := (List.nodup_append.mp (hp.nodup_iff.mpr abc_nodup)).1
  have hlet : ∀ x ∈ xs, IsLet x := fun x hx => abc_let (hp.mem_iff.mp (List.mem_append_left _ hx))
  have hx1 : 1 ≤ xs.length := by omega
  have hx6 : xs.length ≤ W := by omega
  -- the order
  obtain ⟨I2, hI2⟩ : ∃ I : Nat → List Slot → Prop, I = fun m ρ => ∃ (ms : List Int) (zs ws : List Str), ws.length = m ∧ ρ = [.pool ms, .dat false (.int (W : Nat)), .own true (xs.map D.str), .own true (ys.map D.str), s4, .own true (zs.map D.str), .own true (ws.map D.str), .own true [], .no, .no, .no, .no, .no, .no] ∧ PoolOk ms (n + 20 + zs.length) ∧ (zs ++ ws).Perm xs := ⟨_, rfl⟩
  obtain ⟨J2, hJ2⟩ : ∃ J : List Slot → Prop, J = fun ρ => ∃ (ms : List Int) (zs : List Str), ρ = [.pool ms, .dat false (.int (W : Nat)), .own true (xs.map D.str), .own true (ys.map D.str), s4, .own true (zs.map D.str), .own true [], .own true [], .no, .no, .no, .no, .no, .no] ∧ PoolOk ms (n + 30) ∧ zs.Perm xs := ⟨_, rfl⟩
  obtain ⟨ρ2, f2, g2⟩ := while_inv (t := (mT (mOp dNe (mLook 6) (mE (mKeep (mLst (mp []))))))) (b := B_law_chart_2) I2 J2 (fun m ρ hI => by
      rw [hI2] at hI
      obtain ⟨ms, zs, ws, hw, rfl, hm, hpm⟩ := hI
      have hl2 := hpm.length_eq
      rw [List.length_append] at hl2
      have ev : ∀ b, (!decide (ws = [])) = b → (mT (mOp dNe (mLook 6) (mE (mKeep (mLst (mp [])))))) [.pool ms, .dat false (.int (W : Nat)), .own true (xs.map D.str), .own true (ys.map D.str), s4, .own true (zs.map D.str), .own true (ws.map D.str), .own true [], .no, .no, .no, .no, .no, .no] = .ok b [.pool ms, .dat false (.int (W : Nat)), .own true (xs.map D.str), .own true (ys.map D.str), s4, .own true (zs.map D.str), .own true (ws.map D.str), .own true [], .no, .no, .no, .no, .no, .no] := fun b hb => by
        have hne := ne_emp (xs := ws)
        rw [hb] at hne
        walk_at "b2rdx"
      cases ws with
      | nil =>
        refine .inl ⟨ev false (by simp), ?_⟩
        rw [hJ2]
        rw [List.append_nil] at hpm
        exact ⟨ms, zs, rfl, hm.mono (by omega), hpm⟩
      | cons w ws =>
        rw [List.length_cons] at hl2
        obtain ⟨z, j, ms', hm', hz, hB⟩ := ev_order hm (by omega) (xs := zs) (ys := w :: ws) (by omega) (by simp) (by rw [List.length_cons]; omega) (s0 := .dat false (.int (W : Nat))) (s2 := .own true (xs.map D.str)) (s3 := .own true (ys.map D.str)) (s4 := s4) (s7 := .own true []) (s8 := .no) (s9 := .no) (s10 := .no) (s11 := .no) (s12 := .no) (s13 := .no)
        have pe := cons_erase hz
        have pl := pe.length_eq
        rw [List.length_cons, List.length_cons] at pl
        rw [List.length_cons] at hw
        refine .inr ⟨_, ws.length, ev true (by simp), hB, by omega, ?_⟩
        rw [hI2]
        refine ⟨ms', zs ++ [z], _, by omega, rfl, hm'.mono (by rw [List.length_append]; simp; omega), ?_⟩
        rw [List.append_assoc]
        exact (pe.append_left zs).trans hpm) (n := 100000) (m := xs.length) (ρ := [.pool ms1, .dat false (.int (W : Nat)), .own true (xs.map D.str), .own true (ys.map D.str), s4, .own true ([].map D.str), .own true (xs.map D.str), .own true [], .no, .no, .no, .no, .no, .no])
    (by rw [hI2]; exact ⟨ms1, [], xs, rfl, rfl, hm1.mono (by simp; omega), List.Perm.refl _⟩) (by omega)
  rw [hJ2] at g2
  obtain ⟨ms2, order, rfl, hm2, hpo⟩ := g2
  have hndo : order.Nodup := hpo.nodup_iff.mpr hnd
  have hlo : order.length = xs.length := hpo.length_eq
  -- the ties
  obtain ⟨I3, hI3⟩ : ∃ I : Nat → List Slot → Prop, I = fun i ρ => ∃ s8 : Slot, ρ = [.pool ms2, .dat false (.int (W : Nat)), .own true (xs.map D.str), .own true (ys.map D.str), s4, .own true (order.map D.str), .own true [], .own true ((ties order i).map prD), s8, .no, .no, .no, .no, .no] := ⟨_, rfl⟩
  obtain ⟨ρ3, f3, g3⟩ := for_inv (t := tgName 8) (b := B_law_chart_3) I3 (its := rngD 0 order.length) (k := 0) (ρ := [.pool ms2, .dat false (.int (W : Nat)), .own true (xs.map D.str), .own true (ys.map D.str), s4, .own true (order.map D.str), .own true [], .own true [], .no, .no, .no, .no, .no, .no])
    (by rw [hI3]; exact ⟨.no, rfl⟩)
    (fun i a ρ ha hI => by
      rw [hI3, Nat.zero_add] at hI
      obtain ⟨s8, rfl⟩ := hI
      unfold rngD at ha
      obtain ⟨i2, hi2, rfl⟩ := map_get ha
      obtain ⟨z1, z2⟩ := List.getElem?_eq_some_iff.mp hi2
      rw [List.length_range] at z1
      have z3 : i = i2 := by rw [← z2]; simp
      subst z3
      have := ties_len order i
      have : i * i ≤ 36 := Nat.mul_le_mul (by omega : i ≤ 6) (by omega : i ≤ 6)
      have hB := ev_ties_at (order := order) (j := i) z1 (by omega) (s0 := .pool ms2) (s1 := .dat false (.int (W : Nat))) (s2 := .own true (xs.map D.str)) (s3 := .own true (ys.map D.str)) (s4 := s4) (s6 := .own true []) (s9 := .no) (s10 := .no) (s11 := .no) (s12 := .no) (s13 := .no) (ps := ties order i) (by omega)
      refine ⟨[.pool ms2, .dat false (.int (W : Nat)), .own true (xs.map D.str), .own true (ys.map D.str), s4, .own true (order.map D.str), .own true [], .own true ((ties order i).map prD), .dat true (.int (i : Nat)), .no, .no, .no, .no, .no], _, ?_, hB, ?_⟩
      · show some [_, _, _, _, _, _, _, _, Slot.dat true (D.int (0 + (i : Int))), _, _, _, _, _] = _
        rw [Int.zero_add]
      · rw [hI3]
        exact ⟨_, by rw [Nat.zero_add]; rfl⟩)
  rw [hI3, rngD_len, Nat.zero_add] at g3
  obtain ⟨s8, rfl⟩ := g3
  have tnd := ties_nodup hndo (Nat.le_refl _)
  have tsw : ∀ p ∈ ties order order.length, (p.2, p.1) ∉ ties order order.length := fun p hp => ties_swap hndo (Nat.le_refl _) hp
  have tlen : (ties order order.length).length ≤ 36 := Nat.le_trans (ties_len order _) (Nat.mul_le_mul (by omega : order.length ≤ 6) (by omega : order.length ≤ 6))
  -- the lines and the veils
  obtain ⟨I4, hI4⟩ : ∃ I : Nat → List Slot → Prop, I = fun i ρ => ∃ (ms : List Int) (ls vs : List Pr) (s11 s12 : Slot), ρ = [.pool ms, .dat false (.int (W : Nat)), .own true (xs.map D.str), .own true (ys.map D.str), s4, .own true (order.map D.str), .own true [], .dat true (.lst ((ties order order.length).map prD)), s8, .own true (ls.map prD), .own true (vs.map prD), s11, s12, .no] ∧ PoolOk ms (n + 30 + 4 * i) ∧ Laid (ties order order.length) i ls vs := ⟨_, rfl⟩
  obtain ⟨ρ4, f4, g4⟩ := for_inv (t := tgName 11) (b := B_law_chart_4) I4 (its := tagL true ((ties order order.length).map prD)) (k := 0) (ρ := [.pool ms2, .dat false (.int (W : Nat)), .own true (xs.map D.str), .own true (ys.map D.str), s4, .own true (order.map D.str), .own true [], .dat true (.lst ((ties order order.length).map prD)), s8, .own true ([].map prD), .own true ([].map prD), .no, .no, .no])
    (by rw [hI4]; exact ⟨ms2, [], [], .no, .no, rfl, hm2, ⟨by simp, List.nodup_nil, by simp, List.Pairwise.nil, by simp⟩⟩)
    (fun i a ρ ha hI => by
      rw [hI4, Nat.zero_add] at hI
      obtain ⟨ms, ls, vs, s11, s12, rfl, hm, L⟩ := hI
      rw [tag_pL] at ha
      obtain ⟨t, ht, rfl⟩ := map_get ha
      have hi : i < (ties order order.length).length := (List.getElem?_eq_some_iff.mp ht).1
      obtain ⟨ls', vs', ms', s, hm', L', hB⟩ := ev_tie hm (by omega) tnd tsw (by omega) ht L (s1 := .dat false (.int (W : Nat))) (s2 := .own true (xs.map D.str)) (s3 := .own true (ys.map D.str)) (s4 := s4) (s5 := .own true (order.map D.str)) (s6 := .own true []) (s7 := .dat true (.lst ((ties order order.length).map prD))) (s8 := s8) (s12 := s12) (s13 := .no)
      refine ⟨_, _, rfl, hB, ?_⟩
      rw [hI4]
      exact ⟨ms', ls', vs', _, _, rfl, hm'.mono (by omega), by rw [Nat.zero_add]; exact L'⟩)
  rw [hI4, Nat.zero_add] at g4
  obtain ⟨ms4, ls, vs, s11, s12, rfl, hm4, L⟩ := g4
  rw [tag_pL, List.length_map] at hm4 L
  refine ⟨ms4, xs, ls, vs, hm4.mono (by omega), Laid.ok hx1 hx6 hlet hnd hpo L, ?_⟩
  unfold D_law_chart
  refine (runP_ok (fr := true) rfl ?_).trans rfl
  have hr1 : rng1 [.int (1 + d)] = some (rngD 0 (1 + d).toNat) := rng1_nat (by omega) (by omega)
  have hr3 : rng1 [.int ((order.map D.str).length : Nat)] = some (rngD 0 order.length) := by
    rw [List.length_map]; exact rng1_nat (by omega) (by omega)
  have hs := signs_abc
  refine ⟨[.dat false (.int (W : Nat)), .dat true (sL xs), .own true (ys.map D.str), s4, .own true (order.map D.str), .own true [], .dat true (.lst ((ties order order.length).map prD)), s8, .dat true (pL ls), .dat true (pL vs), s11, s12, .no], ?_⟩
  apply k_seq (ρ1 := [.pool ns, .dat false (.int (W : Nat)), .own true ([].map D.str), .own true (abc.map D.str), .no, .no, .no, .no, .no, .no, .no, .no, .no, .no])
  · rw [← hs]
    walk_at "b2rdx"
  apply k_seq
  · apply k_for
    · walk_at "b2rdx"
    · exact f1
  apply k_seq (ρ1 := [.pool ms1, .dat false (.int (W : Nat)), .own true (xs.map D.str), .own true (ys.map D.str), s4, .own true ([].map D.str), .own true (xs.map D.str), .own true [], .no, .no, .no, .no, .no, .no])
  · walk_at "b2rdx"
  apply k_seq
  · exact f2
  apply k_seq
  · apply k_for
    · walk_at "b2rdx"
    · exact f3
  apply k_seq (ρ1 := [.pool ms2, .dat false (.int (W : Nat)), .own true (xs.map D.str), .own true (ys.map D.str), s4, .own true (order.map D.str), .own true [], .own true ((ties order order.length).map prD), s8, .own true ([].map prD), .own true ([].map prD), .no, .no, .no])
  · walk_at "b2rdx"
  apply k_seq
  · apply k_for
    · walk_at "b2rdx"
    · exact f4
  · walk_at "b2rdx"
end F66
section F67
open PySem PySem.Spec PyProof.Rows L2 He Ds
/-! ### groups -/
def swp (p : Pr) : Pr := (p.2, p.1)
def sym (ps : List Pr) : List Pr := ps ++ ps.map swp
def inn (things : List Str) (p : Pr) : Bool := decide (p.1 ∈ things) && decide (p.2 ∈ things)
noncomputable def grp (vs : List Pr) (things : List Str) (x : Str) : List Str := leading things (sym (vs.filter (inn things))) x
end F67
section F68
open PySem PySem.Spec PyProof.Rows L2 He Ds
end F68
section F69
open PySem PySem.Spec PyProof.Rows L2 He Ds PyProof
theorem ord_inj {order : List Str} (nd : order.Nodup) {i j : Nat} {a : Str} (hi : order[i]? = some a) (hj : order[j]? = some a) : i = j := by
  obtain ⟨a1, e1⟩ := List.getElem?_eq_some_iff.mp hi
  obtain ⟨a2, e2⟩ := List.getElem?_eq_some_iff.mp hj
  exact (List.getElem_inj nd).mp (e1.trans e2.symm)
theorem leads_ord {order : List Str} {ls : List Pr} (nd : order.Nodup) (h : ∀ p ∈ ls, ∃ i j : Nat, i < j ∧ order[i]? = some p.1 ∧ order[j]? = some p.2) {a b : Str} (l : Leads ls a b) : a = b ∨ ∃ i j : Nat, i < j ∧ order[i]? = some a ∧ order[j]? = some b := by
  induction l with
  | refl a => exact .inl rfl
  | step e _ ih =>
    obtain ⟨i, j, h1, h2, h3⟩ := h _ e
    rcases ih with rfl | ⟨k, l, h4, h5, h6⟩
    · exact .inr ⟨i, j, h1, h2, h3⟩
    · have : j = k := ord_inj nd h3 h5
      exact .inr ⟨i, l, by omega, h2, h6⟩
theorem pw_take {α : Type} {R : α → α → Prop} {xs : List α} (h : xs.Pairwise R) {j : Nat} {x y : α} (hx : x ∈ xs.take j) (hy : xs[j]? = some y) : R x y := by
  obtain ⟨hj, e⟩ := List.getElem?_eq_some_iff.mp hy
  rw [List.mem_take_iff_getElem] at hx
  obtain ⟨i, hi, e2⟩ := hx
  rw [List.pairwise_iff_getElem] at h
  have := h i j (by omega) hj (by omega)
  rw [e2, e] at this
  exact this
theorem chart_good {W : Nat} {ns : List Str} {ls vs : List Pr} (c : ChartOk W ns ls vs) (hW : W ≤ 6) : Good ns ls vs := by
  obtain ⟨order, pm, ho⟩ := c.ord
  have ond : order.Nodup := pm.nodup_iff.mpr c.nd
  refine ⟨fun j y hj hb => ?_, c.lo, Nat.le_trans c.hi hW, fun j p hj hb => ?_, fun j p hj hb => ?_⟩
  · rcases hb with hb | hb
    · exact hb (c.lets y (List.mem_of_getElem? hj))
    · exact pw_take (List.nodup_iff_pairwise_ne.mp c.nd) hb hj rfl
  · obtain ⟨i, k, h1, h2, h3⟩ := ho p (List.mem_of_getElem? hj)
    rcases hb with hb | hb | hb
    · refine hb ⟨pm.mem_iff.mp (List.mem_of_getElem? h2), pm.mem_iff.mp (List.mem_of_getElem? h3), fun e => ?_⟩
      rw [← e] at h3
      have := ord_inj ond h2 h3
      omega
    · exact pw_take (List.nodup_iff_pairwise_ne.mp c.lnd) hb hj rfl
    · rcases leads_ord ond ho (hb.mono fun q hq => List.mem_of_mem_take hq) with e | ⟨i2, k2, h4, h5, h6⟩
      · rw [e] at h3
        have := ord_inj ond h2 h3
        omega
      · have := ord_inj ond h2 h6
        have := ord_inj ond h3 h5
        omega
  · rcases hb with hb | hb | hb
    · exact hb (c.vin p (List.mem_of_getElem? hj))
    · exact (pw_take c.vnd hb hj).1 rfl
    · exact (pw_take c.vnd hb hj).2 rfl
/-! ### what may be shown -/
structure Sh (e : PyData) (n m : Nat) : Prop where
  s : e.showable = true
  h : e.hasDict = false
  d : e.depth ≤ n
  l : e.shown.length ≤ m
theorem Sh.mono {e : PyData} {n m n' m' : Nat} (h : Sh e n m) (h1 : n ≤ n') (h2 : m ≤ m') : Sh e n' m' := ⟨h.s, h.h, Nat.le_trans h.d h1, Nat.le_trans h.l h2⟩
theorem Sh.ok {e : PyData} {n m : Nat} (h : Sh e n m) (h1 : n ≤ 20) (h2 : m ≤ 1000000) : shownOk e := ⟨h.s, h.h, Nat.le_trans h.d h1, Nat.le_trans h.l h2⟩
theorem let_len {x : Str} (h : IsLet x) : x.length ≤ 1000 := by
  obtain ⟨c, _, _, rfl⟩ := h
  show (1 : Nat) ≤ 1000
  decide
end F69
local macro_rules | `(tactic| walk_at "c3side") => `(tactic| first | assumption | omega | (simp only [List.length_map, List.length_append, List.length_cons, List.length_nil, List.length_reverse]; omega) | (refine Nat.le_trans (List.length_filter_le _ _) ?_; walk_at "c3side"))
local macro_rules | `(tactic| walk_at "c3fl") => `(tactic| first | exact (show _ = true from rfl) | exact (show _ = false from rfl) | exact flat_strs _ | exact flat_prs _ | assumption | exact rfl)
local macro_rules | `(tactic| walk_at "c3ryM") => `(tactic| first
  | ((with_reducible apply j_var); exact rfl) | ((with_reducible apply k_look); exact rfl) | ((with_reducible apply j_retD); exact rfl) | ((with_reducible apply j_retO); exact rfl) | ((with_reducible apply j_appP); exact rfl) | ((with_reducible apply j_appM); exact rfl) | ((with_reducible apply j_app); exact rfl) | with_reducible apply j_E | with_reducible apply j_op | with_reducible apply j_ixL | with_reducible apply j_ixT | with_reducible apply j_un | with_reducible apply j_list | with_reducible apply j_catM | with_reducible apply j_cat | with_reducible apply j_lst1 | with_reducible apply j_lst | with_reducible apply j_tup | with_reducible apply j_keep | with_reducible apply j_T | with_reducible apply j_tru | with_reducible apply j_and | with_reducible apply j_or | with_reducible apply j_not | with_reducible apply j_andV | with_reducible apply j_orV | with_reducible apply j_notV | with_reducible apply j_chain | with_reducible apply j_slL | with_reducible apply j_part | with_reducible apply j_call | with_reducible apply j_callX | with_reducible apply j_callK | with_reducible apply j_callKX | with_reducible apply j_poolC | with_reducible apply j_prop | with_reducible apply j_meth | with_reducible apply j_fld | with_reducible apply j_make | with_reducible apply j_makeX | with_reducible apply j_it | with_reducible apply j_rng | with_reducible apply j_enum | with_reducible assumption | with_reducible apply j_compA | with_reducible apply j_comp | with_reducible apply j_compO | with_reducible apply j_comp2 | with_reducible apply j_pnil | with_reducible apply j_mp | with_reducible apply j_pcD | with_reducible apply j_pcO
  | ((with_reducible apply k_iteT); (first | rfl | assumption)) | ((with_reducible apply k_iteF); (first | rfl | assumption)) | assumption)
local macro_rules | `(tactic| walk_at "c3ryS") => `(tactic| first
  | with_reducible apply j_seq | with_reducible apply j_seqN | with_reducible apply j_seqR | with_reducible apply j_seqE | with_reducible apply j_setO | with_reducible apply j_set | with_reducible apply j_drop | with_reducible apply j_if | with_reducible apply j_ret | with_reducible apply j_nil | with_reducible apply j_raise | with_reducible apply j_par | with_reducible apply j_asg | ((with_reducible apply k_iteT); (first | rfl | assumption)) | ((with_reducible apply k_iteF); (first | rfl | assumption)) | assumption)
local macro_rules | `(tactic| walk_at "c3ryL") => `(tactic| first | (simp only [wipeS, unw, go_d, go_n, go_0, List.set_cons_zero, List.set_cons_succ, List.getElem?_cons_zero, List.getElem?_cons_succ, Option.getD_some]; done) | (simp only [wipeS, unw, go_d, go_n, go_0, List.set_cons_zero, List.set_cons_succ, List.getElem?_cons_zero, List.getElem?_cons_succ, Option.getD_some]; exact rfl) | exact rfl | assumption)
local macro_rules | `(tactic| walk_at "c3ryB") => `(tactic| first
  | ((change (_ || _) = _); walk_at "c3fl") | ((change flatD _ = _); walk_at "c3fl") | ((change (_ && _) = _); (first | exact Bool.true_and _ | exact rfl)) | exact rfl | assumption)
local macro_rules | `(tactic| walk_at "c3ryO") => `(tactic| first
  | ((change (_ : Option (Bool × D)) = some (_, _)); exact rfl) | ((change (_ : Option D) = _); (first | with_reducible apply o_in | with_reducible apply o_inI | with_reducible apply o_ninI | with_reducible apply o_eqI | with_reducible apply o_neI | with_reducible apply o_nin | with_reducible apply o_inp | with_reducible apply o_eqs | with_reducible apply o_nes | with_reducible apply o_eqi | with_reducible apply o_nei | with_reducible apply o_eqb | with_reducible apply o_neb | with_reducible apply o_eqL | with_reducible apply o_neL | with_reducible apply o_eqLL | with_reducible apply o_eqL0 | with_reducible apply o_neL0 | with_reducible apply o_eqLL0 | with_reducible apply o_len | with_reducible apply o_any | with_reducible apply o_isN | with_reducible apply o_neg | with_reducible apply o_add | with_reducible apply o_sub | with_reducible apply o_lt | with_reducible apply o_le | with_reducible apply o_gt | with_reducible apply o_ge | with_reducible apply o_at0 | with_reducible apply o_last | assumption | exact rfl)) | ((change (_ : Option (List Slot)) = _); (first | with_reducible apply tg_name | with_reducible apply tg_tup2 | with_reducible apply tg_tup3 | with_reducible apply tg_tup1 | with_reducible apply sa_nil | with_reducible apply sa_cons | assumption)) | ((change (_ : Option (List (Bool × D))) = _); (first | with_reducible apply it_strs | with_reducible apply it_prs | with_reducible apply it_T | with_reducible apply it_F | with_reducible apply itT_T | with_reducible apply it_en | assumption | exact rfl)) | assumption | exact rfl)
local macro_rules | `(tactic| walk_at "c3call") => `(tactic| first | assumption | solve_by_elim (maxDepth := 3))
local macro_rules | `(tactic| walk_at "c3ry1") => `(tactic| first
  | (intro _ _) | ((change (_ : Res _) = _); walk_at "c3ryM") | ((change (_ : SRes) = _); walk_at "c3ryS") | ((change (_ : List Slot) = _); walk_at "c3ryL") | ((change (_ : Option _) = _); walk_at "c3ryO") | ((change (_ : Bool) = _); walk_at "c3ryB") | with_reducible apply a_nil | with_reducible apply a_consF
  | ((change (_ : List D) = _); (first | with_reducible apply o_cut | with_reducible apply m1_str | with_reducible apply m1_strs | with_reducible apply m1_pr | with_reducible apply m1_int | assumption | exact rfl)) | ((change (_ : Out) = _); walk_at "c3call") | ((change (_ : OutI) = _); walk_at "c3call") | ((change (_ : OutP) = _); walk_at "c3call")
  | ((change (_ : Nat) ≤ _); walk_at "c3side") | ((change (_ : Nat) < _); walk_at "c3side") | assumption | with_reducible rfl | exact rfl)
local macro_rules | `(tactic| walk_at "c3ry") => `(tactic| repeat walk_at "c3ry1")
local macro_rules | `(tactic| walk_at "c3rzM") => `(tactic| first
  | ((with_reducible apply j_var); exact rfl) | ((with_reducible apply k_look); exact rfl) | ((with_reducible apply j_retD); exact rfl) | ((with_reducible apply j_retO); exact rfl) | ((with_reducible apply j_appP); exact rfl) | ((with_reducible apply j_appM); exact rfl) | ((with_reducible apply j_app); exact rfl) | with_reducible apply j_E | with_reducible apply j_op | with_reducible apply j_ixL | with_reducible apply j_ixT | with_reducible apply j_un | with_reducible apply j_list | with_reducible apply j_catM | with_reducible apply j_cat | with_reducible apply j_lst1 | with_reducible apply j_lst | with_reducible apply j_tup | with_reducible apply j_keep | with_reducible apply j_T | with_reducible apply j_tru | with_reducible apply j_not | with_reducible apply j_notV | with_reducible apply j_chain | with_reducible apply j_slL | with_reducible apply j_part | with_reducible apply j_call | with_reducible apply j_callX | with_reducible apply j_callK | with_reducible apply j_callKX | with_reducible apply j_poolC | with_reducible apply j_prop | with_reducible apply j_meth | with_reducible apply j_fld | with_reducible apply j_make | with_reducible apply j_makeX | with_reducible apply j_it | with_reducible apply j_rng | with_reducible apply j_enum | with_reducible assumption | with_reducible apply j_compA | with_reducible apply j_comp | with_reducible apply j_compO | with_reducible apply j_comp2 | with_reducible apply j_pnil | with_reducible apply j_mp | with_reducible apply j_pcD | with_reducible apply j_pcO
  | ((with_reducible apply k_iteT); (first | rfl | assumption)) | ((with_reducible apply k_iteF); (first | rfl | assumption)) | assumption)
local macro_rules | `(tactic| walk_at "c3rz1") => `(tactic| first
  | (intro _ _) | ((change (_ : Res _) = _); walk_at "c3rzM") | ((change (_ : SRes) = _); walk_at "c3ryS") | ((change (_ : List Slot) = _); walk_at "c3ryL") | ((change (_ : Option _) = _); walk_at "c3ryO") | ((change (_ : Bool) = _); walk_at "c3ryB") | with_reducible apply a_nil | with_reducible apply a_consF
  | ((change (_ : List D) = _); (first | with_reducible apply o_cut | with_reducible apply m1_str | with_reducible apply m1_strs | with_reducible apply m1_pr | with_reducible apply m1_int | assumption | exact rfl)) | ((change (_ : Out) = _); walk_at "c3call") | ((change (_ : OutI) = _); walk_at "c3call") | ((change (_ : OutP) = _); walk_at "c3call")
  | ((change (_ : Nat) ≤ _); walk_at "c3side") | ((change (_ : Nat) < _); walk_at "c3side") | assumption | with_reducible rfl | exact rfl)
local macro_rules | `(tactic| walk_at "c3rz") => `(tactic| repeat walk_at "c3rz1")
section F70
open PySem PySem.Spec PyProof.Rows L2 He Ds
/-! ### what leads to asked things within others -/
noncomputable def lead (ls : List Pr) (things asked : List Str) : List Str := things.filter fun t => decide (t ∈ asked.flatMap fun x => leading things (ls.filter (inn things)) x)
noncomputable def cnt (ns : List Str) (ls : List Pr) (acted asked : List Str) : List Str := lead ls (ns.filter fun x => !decide (x ∈ acted)) asked
end F70
section F71
open PySem PySem.Spec PyProof.Rows L2 He Ds
/-! ### the steps to a group -/
theorem k_whF {t : M Bool} {b : S} {n : Nat} {ρ ρ1 : List Slot} (h : t ρ = .ok false ρ1) : whileD t b (n + 1) ρ = .nx ρ1 := by rw [whileD, h]
theorem k_whT {t : M Bool} {b : S} {n : Nat} {ρ ρ1 ρ2 : List Slot} {r : SRes} (h : t ρ = .ok true ρ1) (h2 : b ρ1 = .nx ρ2) (h3 : whileD t b n ρ2 = r) : whileD t b (n + 1) ρ = r := by rw [whileD, h]; dsimp only; rw [h2]; exact h3
end F71
section F72
open PySem PySem.Spec PyProof.Rows L2 He Ds
/-! ### names that are looked at -/
def NmBad (ns : List Str) (pre : List Str) (x : Str) : Prop := x ∉ ns ∨ x ∈ pre
theorem ev_check_names {ns : List Str} {ls vs : List Pr} {xs : List Str} : (NoBad (NmBad ns) xs → D_check_names [diag ns ls vs, sL xs] = .ok true .non) ∧ ∀ x, FirstBad (NmBad ns) xs x → D_check_names [diag ns ls vs, sL xs] = .er "InvalidName" (.str x) := by
  have e0 := ev_names (ns := ns) (ls := ls) (vs := vs)
  have loop := check_loop (t := tgTup 2 (tgsCons (tgName 3) (tgsCons (tgName 4) tgsNil))) (f := false)
    (b := B_check_names_1)
    (k := "InvalidName") (ed := D.str) (xs := xs) (e := D.str) (fun ρ => ∃ v1 v2, ρ = [.dat false (diag ns ls vs), .dat false (sL xs), .dat true (sL ns), v1, v2]) (NmBad ns) (fun _ _ => rfl)
    (fun i x ρ hi hI => by
      obtain ⟨v1, v2, rfl⟩ := hI
      refine ⟨[.dat false (diag ns ls vs), .dat false (sL xs), .dat true (sL ns), .dat true (.int (i : Nat)), .dat true (.str x)], rfl, fun nb => ⟨[.dat false (diag ns ls vs), .dat false (sL xs), .dat true (sL ns), .dat true (.int (i : Nat)), .dat true (.str x)], ?_, _, _, rfl⟩, fun hb => ?_⟩
      · have b1 : (!decide (x ∈ ns) || decide (x ∈ xs.take i)) = false := by
          unfold NmBad at nb
          rw [not_or, Classical.not_not] at nb
          rw [decide_eq_true nb.1, decide_eq_false nb.2]; rfl
        unfold B_check_names_1
        walk_at "c3ry"
      · have b1 : (!decide (x ∈ ns) || decide (x ∈ xs.take i)) = true := by
          rcases hb with h | h
          · rw [decide_eq_false h]; rfl
          · rw [decide_eq_true h, Bool.or_true]
        apply Exists.intro
        unfold B_check_names_1
        walk_at "c3ry") (ρ := [.dat false (diag ns ls vs), .dat false (sL xs), .dat true (sL ns), .no, .no]) ⟨_, _, rfl⟩
  unfold D_check_names
  refine ⟨fun nb => ?_, fun x hb => ?_⟩
  · obtain ⟨ρ', h1, _⟩ := loop.1 nb
    apply j_runN
    · rfl
    · walk_at "c3ry"
    · apply j_seq
      · walk_at "c3ry"
      · apply j_seqN
        apply k_for (its := enD false 0 (xs.map D.str)) rfl
        exact h1
  · obtain ⟨ρ', h1⟩ := loop.2 x hb
    apply j_runE
    · rfl
    · walk_at "c3ry"
    · apply j_seq
      · walk_at "c3ry"
      · apply j_seqN
        apply k_for (its := enD false 0 (xs.map D.str)) rfl
        exact h1
    · rfl
theorem ev_check_apart {xs ys : List Str} : (NoBad (fun _ x => x ∈ ys) xs → D_check_apart [sL xs, sL ys] = .ok true .non) ∧ ∀ x, FirstBad (fun _ x => x ∈ ys) xs x → D_check_apart [sL xs, sL ys] = .er "InvalidDeed" (.str x) := by
  have loop := for_check (mk := fun x ρ => .er "InvalidDeed" (.str x) ρ) (t := tgName 2) (b := B_check_apart_1) (xs := xs) (e := fun x => (true, D.str x)) (fun x ρ => mk_er (ed := D.str) x ρ) (fun ρ => ∃ v, ρ = [.dat false (sL xs), .dat false (sL ys), v]) (fun _ x => x ∈ ys)
    (fun i x ρ hi hI => by
      obtain ⟨v, rfl⟩ := hI
      refine ⟨[.dat false (sL xs), .dat false (sL ys), .dat true (.str x)], rfl, fun nb => ⟨[.dat false (sL xs), .dat false (sL ys), .dat true (.str x)], ?_, _, rfl⟩, fun hb => ?_⟩
      · have b1 : decide (x ∈ ys) = false := decide_eq_false nb
        unfold B_check_apart_1
        walk_at "c3ry"
      · have b1 : decide (x ∈ ys) = true := decide_eq_true hb
        apply Exists.intro
        unfold B_check_apart_1
        walk_at "c3ry") (ρ := [.dat false (sL xs), .dat false (sL ys), .no]) ⟨_, rfl⟩
  unfold D_check_apart
  refine ⟨fun nb => ?_, fun x hb => ?_⟩
  · obtain ⟨ρ', h1, _⟩ := loop.1 nb
    apply j_runN
    · rfl
    · walk_at "c3ry"
    · apply k_for
      · walk_at "c3ry"
      · exact h1
  · obtain ⟨ρ', h1⟩ := loop.2 x hb
    apply j_runE
    · rfl
    · walk_at "c3ry"
    · apply k_for
      · walk_at "c3ry"
      · exact h1
    · rfl
/-- the lists of what is set and asked are right -/
structure AskOk (ns acted asked : List Str) : Prop where
  a : ∀ x ∈ acted, x ∈ ns
  an : acted.Nodup
  k : ∀ x ∈ asked, x ∈ ns
  kn : asked.Nodup
  d : ∀ x ∈ asked, x ∉ acted
theorem nodup_take {xs : List Str} (h : xs.Nodup) {i : Nat} {x : Str} (e : xs[i]? = some x) : x ∉ xs.take i := fun z => by
  obtain ⟨j, hj⟩ := List.mem_iff_getElem?.mp z
  rw [List.getElem?_take] at hj
  split at hj
  · rename_i hlt
    have := ord_inj h e hj
    omega
  · cases hj
theorem noBad_names {ns xs : List Str} (h : ∀ x ∈ xs, x ∈ ns) (n : xs.Nodup) : NoBad (NmBad ns) xs := fun i x e => by
  unfold NmBad
  rw [not_or, Classical.not_not]
  exact ⟨h x (List.mem_of_getElem? e), nodup_take n e⟩
end F72
section F73
open PySem PySem.Spec PyProof.Rows L2 He Ds
/-! ### what is told -/
/-- a diagram of few things -/
structure Few (ns : List Str) (ls vs : List Pr) : Prop where
  n : ns.length ≤ 50
  l : ls.length ≤ 1000
  v : vs.length ≤ 1000
section
variable {ns : List Str} {ls vs : List Pr} {acted asked : List Str}
end
end F73
section F74
open PySem PySem.Spec PyProof.Rows L2 He Ds
/-! ### the law's own closures -/
abbrev cht (ns : List Str) (ls vs : List Pr) : D := .tup [sL ns, pL ls, pL vs]
/-- what the law's own closure has found -/
structure LLI (qs ls : List Pr) (W S F : List Str) : Prop where
  nd : F.Nodup
  hS : ∀ g ∈ S, g ∈ F
  ld : ∀ f ∈ F, ∃ g ∈ S, Leads qs f g
  sb : ∀ f ∈ F, f ∈ S ++ ls.map (·.1)
  fw : ∀ f ∈ F, f ∈ W
theorem LLI.len {qs ls : List Pr} {W S F : List Str} (h : LLI qs ls W S F) : F.length ≤ S.length + ls.length := by
  have := nodup_le h.nd h.sb
  rw [List.length_append, List.length_map] at this
  exact this
theorem inn_iff {W : List Str} {p : Pr} : inn W p = true ↔ p.1 ∈ W ∧ p.2 ∈ W := by unfold inn; simp
theorem lead_mem {ls : List Pr} {W S : List Str} {t : Str} : t ∈ lead ls W S ↔ t ∈ W ∧ ∃ g ∈ S, Leads (ls.filter (inn W)) t g := by
  unfold lead
  rw [List.mem_filter, decide_eq_true_eq, List.mem_flatMap]
  refine ⟨fun ⟨h1, g, h2, h3⟩ => ⟨h1, g, h2, (leading_mem.mp h3).2⟩, fun ⟨h1, g, h2, h3⟩ => ⟨h1, g, h2, leading_mem.mpr ⟨h1, h3⟩⟩⟩
end F74
section F75
open PySem PySem.Spec PyProof.Rows L2 He Ds
/-- what the law's own closure has found -/
structure LGI (qs : List Pr) (x : Str) (B F : List Str) : Prop where
  nd : F.Nodup
  hx : x ∈ F
  ld : ∀ f ∈ F, Leads qs f x
  sb : ∀ f ∈ F, f ∈ B
def ends (x : Str) (vs : List Pr) : List Str := x :: (vs.map (·.1) ++ vs.map (·.2))
theorem ends_len {x : Str} {vs : List Pr} : (ends x vs).length = 1 + 2 * vs.length := by
  unfold ends; rw [List.length_cons, List.length_append, List.length_map, List.length_map]; omega
theorem LGI.len {qs vs : List Pr} {x : Str} {F : List Str} (h : LGI qs x (ends x vs) F) : F.length ≤ 1 + 2 * vs.length := by
  have := nodup_le h.nd h.sb
  rw [ends_len] at this
  exact this
end F75
section F76
open PySem PySem.Spec PyProof.Rows L2 He Ds
/-! ### the law's own groups, chains, what is stuck -/
theorem sym_swp {ps : List Pr} {p : Pr} (h : p ∈ sym ps) : swp p ∈ sym ps := by
  rcases List.mem_append.mp h with z | z
  · exact List.mem_append_right _ (List.mem_map.mpr ⟨p, z, rfl⟩)
  · obtain ⟨q, hq, rfl⟩ := List.mem_map.mp z
    exact List.mem_append_left _ hq
theorem leads_symm {ps : List Pr} {a b : Str} (l : Leads (sym ps) a b) : Leads (sym ps) b a := by
  induction l with
  | refl a => exact .refl a
  | step h _ ih => exact ih.trans (.step (sym_swp h) (.refl _))
theorem sym_inn {vs : List Pr} {W : List Str} {a b : Str} (h : (a, b) ∈ sym (vs.filter (inn W))) : a ∈ W ∧ b ∈ W := by
  rcases List.mem_append.mp h with z | z
  · exact inn_iff.mp (List.mem_filter.mp z).2
  · obtain ⟨q, hq, e⟩ := List.mem_map.mp z
    have := inn_iff.mp (List.mem_filter.mp hq).2
    unfold swp at e
    cases e
    exact ⟨this.2, this.1⟩
theorem sym_up {vs : List Pr} {W W' : List Str} {a b : Str} (h : (a, b) ∈ sym (vs.filter (inn W))) (ha : a ∈ W') (hb : b ∈ W') : (a, b) ∈ sym (vs.filter (inn W')) := by
  rcases List.mem_append.mp h with z | z
  · exact List.mem_append_left _ (List.mem_filter.mpr ⟨(List.mem_filter.mp z).1, inn_iff.mpr ⟨ha, hb⟩⟩)
  · obtain ⟨q, hq, e⟩ := List.mem_map.mp z
    unfold swp at e
    cases e
    exact List.mem_append_right _ (List.mem_map.mpr ⟨q, List.mem_filter.mpr ⟨(List.mem_filter.mp hq).1, inn_iff.mpr ⟨hb, ha⟩⟩, rfl⟩)
/-- all of some things are joined with the first one, within them -/
def Conn (vs : List Pr) (s : List Str) (x : Str) : Prop := ∀ y ∈ s, Leads (sym (vs.filter (inn s))) y x
theorem Conn.sub {vs : List Pr} {s c : List Str} {x : Str} (h : Conn vs s x) (hs : ∀ y ∈ s, y ∈ c) : ∀ y ∈ s, y ∈ grp vs c x := fun y hy => by
  refine leading_mem.mpr ⟨hs y hy, (h y hy).mono fun p hp => ?_⟩
  obtain ⟨a, b⟩ := p
  have := sym_inn hp
  exact sym_up hp (hs a this.1) (hs b this.2)
section
variable {ns : List Str} {ls vs : List Pr} {acted asked : List Str}
/-- a diagram of few unlike things -/
structure Fw (ns : List Str) (ls vs : List Pr) : Prop where
  n : ns.length ≤ 50
  l : ls.length ≤ 200
  v : vs.length ≤ 200
  nd : ns.Nodup
theorem Fw.few (f : Fw ns ls vs) : Few ns ls vs := ⟨f.n, Nat.le_trans f.l (by decide), Nat.le_trans f.v (by decide)⟩
end
end F76
section F77
open PySem PySem.Spec PyProof.Rows L2 He Ds
/-! ### the charts that everybody knows -/
def kn : List (Str × List Str × List Str) := [("xy", ["xy"], ["xy"]), ("xzy", ["xz", "zy"], ["xy"]), ("wzxy", ["wz", "zx", "xy"], ["wx", "wy"]),
  ("xzy", ["xz", "zy"], ["xz"]), ("zxy", ["zx", "zy", "xy"], []), ("zxy", ["zx", "xy"], ["xy"]),
  ("xazby", ["xa", "az", "zb", "by"], ["xz", "az"]), ("xzwy", ["xz", "zw", "wy"], ["xw", "zy"]),
  ("xzy", ["xz", "zy", "xy"], ["xz", "zy"]), ("wxzy", ["wx", "xz", "zy", "wy"], ["xy", "wx"])]
def kD (k : Str × List Str × List Str) : D := .tup [.str k.1, sL k.2.1, sL k.2.2]
def kNs (k : Str × List Str × List Str) : List Str := k.1.cps.toList.map letter
def toPr (s : Str) : Pr := match s.cps.toList with
  | [a, b] => (letter a, letter b)
  | _ => ("", "")
def kLs (k : Str × List Str × List Str) : List Pr := k.2.1.map toPr
def kVs (k : Str × List Str × List Str) : List Pr := k.2.2.map toPr
def okB (k : Str × List Str × List Str) : Bool := decide (1 ≤ (kNs k).length) && decide ((kNs k).length ≤ 6) && (k.1.cps.toList.all fun c => decide (97 ≤ c) && decide (c ≤ 122)) && decide (kNs k).Nodup &&
  ((kLs k).all fun p => decide ((kNs k).idxOf p.1 < (kNs k).idxOf p.2) && decide (p.1 ∈ kNs k) && decide (p.2 ∈ kNs k)) && decide (kLs k).Nodup && ((kVs k).all fun p => decide (p.1 ∈ kNs k) && decide (p.2 ∈ kNs k) && decide (p.1 ≠ p.2)) &&
  decide ((kVs k).Pairwise fun p q => p ≠ q ∧ p ≠ (q.2, q.1)) && decide ((kVs k).length ≤ 5) && decide (("x" : Str) ∈ kNs k) && decide (("y" : Str) ∈ kNs k)
def twoB (k : Str × List Str × List Str) : Bool := (k.2.1 ++ k.2.2).all fun s => decide (s.cps.size = 2)
theorem kn_two : kn.all twoB = true := by decide +kernel
theorem kn_ok : kn.all okB = true := by decide +kernel
theorem signs_letters (z : Str) : signs z = (z.cps.toList.map letter).map D.str := by
  unfold signs
  rw [List.map_map]
  rfl
theorem signs_two {s : Str} (h : s.cps.size = 2) : D.tup (signs s) = prD (toPr s) := by
  rw [signs_letters]
  unfold toPr
  have hl : s.cps.toList.length = 2 := by rw [Array.length_toList]; exact h
  match q : s.cps.toList with
  | [a, b] => rfl
  | [] => rw [q] at hl; cases hl
  | [_] => rw [q] at hl; cases hl
  | _ :: _ :: _ :: _ => rw [q] at hl; simp at hl
theorem kn_chart {k : Str × List Str × List Str} (h : k ∈ kn) : ChartOk 6 (kNs k) (kLs k) (kVs k) ∧ ("x" : Str) ∈ kNs k ∧ ("y" : Str) ∈ kNs k := by
  have h1 := List.all_eq_true.mp kn_ok k h
  unfold okB at h1
  simp only [Bool.and_eq_true, decide_eq_true_eq, List.all_eq_true] at h1
  obtain ⟨⟨⟨⟨⟨⟨⟨⟨⟨⟨a1, a2⟩, a3⟩, a4⟩, a5⟩, a6⟩, a7⟩, a8⟩, a9⟩, a10⟩, a11⟩ := h1
  refine ⟨⟨a1, a2, fun x hx => ?_, a4, ⟨kNs k, List.Perm.refl _, fun p hp => ?_⟩, a6, fun p hp => ?_, a8, a9⟩, a10, a11⟩
  · obtain ⟨c, hc, rfl⟩ := List.mem_map.mp hx
    exact ⟨c, (a3 c hc).1, (a3 c hc).2, rfl⟩
  · obtain ⟨⟨b1, b2⟩, b3⟩ := a5 p hp
    refine ⟨(kNs k).idxOf p.1, (kNs k).idxOf p.2, b1, ?_, ?_⟩
    · rw [List.getElem?_eq_getElem (List.idxOf_lt_length_iff.mpr b2), List.getElem_idxOf]
    · rw [List.getElem?_eq_getElem (List.idxOf_lt_length_iff.mpr b3), List.getElem_idxOf]
  · obtain ⟨⟨b1, b2⟩, b3⟩ := a7 p hp
    exact ⟨b1, b2, b3⟩
theorem j_listS {ρ ρ1 : List Slot} {m : M Look} {fa : Look} {f : Bool} {z : Str} {ds : List D} (h1 : m ρ = .ok fa ρ1) (h2 : fa ρ1 = some (f, .str z)) (hz : z.length ≤ 100000) (h3 : signs z = ds) : mOne mListSK m ρ = .ok (true, ds) ρ1 := by
  refine k_one h1 h2 ?_
  unfold mListSK; dsimp only; rw [if_pos hz, h3]; rfl
theorem j_tupS {ρ ρ1 : List Slot} {m : M Look} {fa : Look} {f : Bool} {z : Str} (h1 : m ρ = .ok fa ρ1) (h2 : fa ρ1 = some (f, .str z)) (hz : z.length ≤ 100000) : mOne mTupSK m ρ = .ok (true, .tup (signs z)) ρ1 := by
  refine k_one h1 h2 ?_
  unfold mTupSK; dsimp only; rw [if_pos hz]; rfl
def smallB (k : Str × List Str × List Str) : Bool := decide (k.1.length ≤ 100000) && decide (k.2.1.length ≤ 1000) && decide (k.2.2.length ≤ 1000) && (k.2.1 ++ k.2.2).all fun s => decide (s.length ≤ 100000)
theorem kn_small : kn.all smallB = true := by decide +kernel
theorem ev_law_known {n : Nat} {ns : List Int} (h : PoolOk ns n) (hn : n ≤ 900000000) : ∃ ns' k, k ∈ kn ∧ PoolOk ns' (n + 1) ∧ D_law_known ns [] = .ok true (.tup [cht (kNs k) (kLs k) (kVs k), sL ["x"], sL ["y"]]) ns' := by
  obtain ⟨d, ms, e1, d0, d1, hm⟩ := ev_draw (m := 10) h (by omega) (by decide) (by decide)
  obtain ⟨k, hk⟩ : ∃ k, kn[d.toNat]? = some k := by
    have : d.toNat < kn.length := by
      have : kn.length = 10 := rfl
      omega
    exact ⟨_, List.getElem?_eq_getElem this⟩
  have hkm := List.mem_of_getElem? hk
  have hat : atI (kn.map kD) d = some (kD k) := by
    have : d = (d.toNat : Nat) := by omega
    rw [this]
    exact atI_nat (by rw [List.getElem?_map, hk]; rfl)
  have hsm := List.all_eq_true.mp kn_small k hkm
  unfold smallB at hsm
  simp only [Bool.and_eq_true, decide_eq_true_eq, List.all_eq_true] at hsm
  obtain ⟨⟨⟨z1, z2⟩, z3⟩, z4⟩ := hsm
  have htw := List.all_eq_true.mp kn_two k hkm
  unfold twoB at htw
  simp only [decide_eq_true_eq, List.all_eq_true] at htw
  refine ⟨ms, k, hkm, hm, ?_⟩
  unfold D_law_known
  apply j_runP
  · rfl
  · walk_at "c3ry"
  · apply j_seq (r1 := .nx [.pool ns, .dat true (.lst ((kn.take 3).map kD)), .no, .no, .no, .no])
    · rfl
    apply j_seqN
    apply j_seq (r1 := .nx [.pool ns, .dat true (.lst ((kn.take 6).map kD)), .no, .no, .no, .no])
    · rfl
    apply j_seqN
    apply j_seq (r1 := .nx [.pool ns, .dat true (.lst ((kn.take 8).map kD)), .no, .no, .no, .no])
    · rfl
    apply j_seqN
    apply j_seq (r1 := .nx [.pool ns, .dat true (.lst (kn.map kD)), .no, .no, .no, .no])
    · rfl
    apply j_seqN
    apply j_seq (r1 := .nx [.pool ms, .dat true (.lst (kn.map kD)), .dat true (.str k.1), .dat true (sL k.2.1), .dat true (sL k.2.2), .no])
    · apply j_asg
      · apply j_ixL
        · walk_at "c3ry"
        · apply j_E
          apply k_pool (ns := ns) (ns' := ms) rfl
          · rfl
          · rfl
          · rfl
          · exact e1
          · rfl
          · rfl
        · rfl
        · rfl
        · exact hat
        · rfl
      · rfl
    apply j_seqN
    apply j_ret
    apply j_tup
    · apply a_consF
      · apply j_tup
        · apply a_consF
          · apply j_keep
            apply j_listS
            · walk_at "c3ry"
            · rfl
            · exact z1
            · exact signs_letters _
          · apply a_consF
            · apply j_keep
              apply j_compA
              · walk_at "c3ry"
              · omega
              · walk_at "c3ry"
              · walk_at "c3ry"
              · intro s hs
                apply j_tupS
                · walk_at "c3ry"
                · rfl
                · exact z4 s (List.mem_append_left _ hs)
              · walk_at "c3ry"
              · walk_at "c3ry"
            · apply a_consF
              · apply j_keep
                apply j_compA
                · walk_at "c3ry"
                · omega
                · walk_at "c3ry"
                · walk_at "c3ry"
                · intro s hs
                  apply j_tupS
                  · walk_at "c3ry"
                  · rfl
                  · exact z4 s (List.mem_append_right _ hs)
                · walk_at "c3ry"
                · walk_at "c3ry"
              · exact a_nil
              · walk_at "c3ry"
              · walk_at "c3ry"
            · walk_at "c3ry"
            · walk_at "c3ry"
          · walk_at "c3ry"
          · walk_at "c3ry"
        · exact Nat.le_of_ble_eq_true rfl
      · walk_at "c3ry"
      · walk_at "c3ry"
      · walk_at "c3ry"
    · exact Nat.le_of_ble_eq_true rfl
  · rfl
  · have q1 : k.2.1.map (fun s => D.tup (signs s)) = (kLs k).map prD := by
      unfold kLs
      rw [List.map_map]
      exact List.map_congr_left fun s hs => signs_two (htw s (List.mem_append_left _ hs))
    have q2 : k.2.2.map (fun s => D.tup (signs s)) = (kVs k).map prD := by
      unfold kVs
      rw [List.map_map]
      exact List.map_congr_left fun s hs => signs_two (htw s (List.mem_append_right _ hs))
    rw [q1, q2]
    rfl
end F77
section F78
open PySem PySem.Spec PyProof.Rows L2 He Ds
/-! ### things drawn from a list, one by one -/
theorem get_set_ne {ρ : List Slot} {i j : Nat} {s : Slot} (h : i ≠ j) : (ρ.set i s)[j]? = ρ[j]? := List.getElem?_set_ne h
theorem gOwn_of {ρ : List Slot} {i : Nat} {ds : List D} (h : ρ[i]? = some (.own true ds)) : getOwn i ρ = some (true, ds) := by unfold getOwn; rw [h]
theorem hasPool_of0 {ρ : List Slot} {ns : List Int} (h : ρ[0]? = some (.pool ns)) : hasPool 0 ρ = true := by unfold hasPool; rw [h]
theorem j_draw {ρ ρ1 : List Slot} {m : M (Bool × D)} {f : Bool} {k : Int} {ns ns' : List Int} {z : Int} (h1 : m ρ = .ok (f, .int k) ρ1) (h0 : ρ[0]? = some (.pool ns)) (h3 : ρ1[0]? = some (.pool ns)) (h4 : D_law_draw ns [.int k] = .ok true (.int z) ns') {ρ2 : List Slot} (h5 : ρ1.set 0 (.pool ns') = ρ2) : mPool 0 D_law_draw (maCons (mDat m) (mp [])) ρ = .ok (true, .int z) ρ2 := by
  obtain ⟨ss, e1, e2⟩ := a_cons h1 a_nil
  exact k_pool (hasPool_of0 h0) e1 e2 h3 h4 rfl h5
theorem len_own {ρ : List Slot} {j : Nat} {ys : List Str} (h : ρ[j]? = some (.own true (ys.map D.str))) : mUn dLen (mLook j) ρ = .ok (true, .int (ys.length : Nat)) ρ := by
  refine j_un (fa := lookV j) (f1 := true) (d1 := .lst (ys.map D.str)) (k_look (by rw [h]; rfl)) ?_ o_len
  unfold lookV; rw [h]
/-- a chart with what is set and asked -/
structure CaseOk (ns : List Str) (ls vs : List Pr) (acted asked : List Str) : Prop where
  c : ChartOk 6 ns ls vs
  a : AskOk ns acted asked
  ne : asked ≠ []
  k2 : asked.length ≤ 2
  a2 : acted.length ≤ 2
end F78
section F79
open PySem PySem.Spec PyProof.Rows L2 He Ds
end F79
section F80
open PySem PySem.Spec PyProof.Rows L2 He Ds
/-! ### sorted lists of texts, of lists of texts, of pairs -/
section
variable {ρ ρ1 : List Slot} {m : M Look} {fa : Look} {f f' : Bool}
end
end F80
section F81
open PySem PySem.Spec PyProof.Rows L2 He Ds
/-! ### data that may be shown -/
/-- a datum that may be shown, of so many layers, so many signs -/
def ShD (d : D) (n m : Nat) : Prop := ∃ e, toPy d = some e ∧ Sh e n m
theorem ShD.mono {d : D} {n m n' m' : Nat} (h : ShD d n m) (h1 : n ≤ n') (h2 : m ≤ m') : ShD d n' m' := by
  obtain ⟨e, h3, h4⟩ := h
  exact ⟨e, h3, h4.mono h1 h2⟩
/-! what the rules want of repr, of objects -/
/-! ### without hidden pairs everything is told -/
section
variable {ns : List Str} {ls vs : List Pr} {acted asked : List Str}
/-- a made diagram -/
theorem prod_len {xs ys : List Str} : ((xs.map fun a => ys.map fun b => (a, b)).flatten).length = xs.length * ys.length := by
  induction xs with
  | nil => simp
  | cons x xs ih => rw [List.map_cons, List.flatten_cons, List.length_append, ih, List.length_map, List.length_cons, Nat.succ_mul]; omega
theorem chart_len {W : Nat} {xs : List Str} {ls vs : List Pr} (C : ChartOk W xs ls vs) (hW : W ≤ 6) : ls.length ≤ 36 := by
  obtain ⟨order, pm, ho⟩ := C.ord
  have := nodup_leG (ys := (xs.map fun a => xs.map fun b => (a, b)).flatten) C.lnd fun p hp => by
    obtain ⟨i, j, _, h1, h2⟩ := ho p hp
    rw [List.mem_flatten]
    exact ⟨_, List.mem_map.mpr ⟨p.1, pm.mem_iff.mp (List.mem_of_getElem? h1), rfl⟩, List.mem_map.mpr ⟨p.2, pm.mem_iff.mp (List.mem_of_getElem? h2), rfl⟩⟩
  rw [prod_len] at this
  have h6 : xs.length ≤ 6 := Nat.le_trans C.hi hW
  have : xs.length * xs.length ≤ 6 * 6 := Nat.mul_le_mul h6 h6
  omega
theorem cht_fw (C : ChartOk 6 ns ls vs) : Fw ns ls vs ∧ Good ns ls vs ∧ (∀ x ∈ ns, x.length ≤ 1000) := by
  have l2 := chart_len C (by decide)
  have l3 := C.vlen
  have l1 := C.hi
  exact ⟨⟨by omega, by omega, by omega, C.nd⟩, chart_good C (by decide), fun x hx => let_len (C.lets x hx)⟩
theorem ev_cmade (C : ChartOk 6 ns ls vs) : D_law_made [cht ns ls vs] = .ok true (diag ns ls vs) := by
  obtain ⟨f, g, hx⟩ := cht_fw C
  exact ev_made g hx (Nat.le_trans f.l (by decide)) (Nat.le_trans f.v (by decide))
end
end F81
section F82
open PySem PySem.Spec PyProof.Rows L2 He Ds
/-! ### where the steps end; nothing set is told -/
section
variable {ns : List Str} {ls vs : List Pr} {acted asked : List Str}
end
end F82
section F83
open PySem PySem.Spec PyProof.Rows L2 He Ds
/-! ### what is stuck, told without steps: a joined set with a set thing in it, all of which leads to a joined part that counts -/
section
variable {ns : List Str} {ls vs : List Pr} {acted asked : List Str}
/-- F, S: all of F leads within F to S, both joined, S counts, F has a set thing -/
structure Hdg (ns : List Str) (ls vs : List Pr) (acted asked F S : List Str) (x : Str) : Prop where
  hx : x ∈ S
  sf : ∀ y ∈ S, y ∈ F
  fn : ∀ y ∈ F, y ∈ ns
  sc : ∀ y ∈ S, y ∈ cnt ns ls acted asked
  cs : Conn vs S x
  cf : Conn vs F x
  ld : ∀ y ∈ F, ∃ g ∈ S, Leads (ls.filter (inn F)) y g
  ha : ∃ a ∈ F, a ∈ acted
theorem cnt_mem {t : Str} : t ∈ cnt ns ls acted asked ↔ t ∈ ns ∧ t ∉ acted ∧ ∃ g ∈ asked, Leads (ls.filter (inn (ns.filter fun x => !decide (x ∈ acted)))) t g := by
  unfold cnt
  rw [lead_mem, List.mem_filter]
  simp only [Bool.not_eq_true', decide_eq_false_iff_not, and_assoc]
theorem Conn.to {s : List Str} {x z : Str} (h : Conn vs s x) (hz : z ∈ s) : Conn vs s z := fun y hy => (h y hy).trans (leads_symm (h z hz))
theorem Conn.mem {s t : List Str} {x : Str} (h : Conn vs s x) (e : ∀ y, y ∈ s ↔ y ∈ t) : Conn vs t x := fun y hy => by
  refine (h y ((e y).mpr hy)).mono fun p hp => ?_
  obtain ⟨a, b⟩ := p
  have := sym_inn hp
  exact sym_up hp ((e _).mp this.1) ((e _).mp this.2)
end
end F83
section F84
open PySem PySem.Spec PyProof.Rows L2 He Ds
/-! ### what is told in another diagram -/
section
variable {ns ns' : List Str} {ls vs ls' vs' : List Pr} {acted asked acted' asked' : List Str}
theorem sym_mem {vs : List Pr} {W : List Str} {a b : Str} : (a, b) ∈ sym (vs.filter (inn W)) ↔ ((a, b) ∈ vs ∨ (b, a) ∈ vs) ∧ a ∈ W ∧ b ∈ W := by
  constructor
  · intro h
    refine ⟨?_, sym_inn h⟩
    rcases List.mem_append.mp h with z | z
    · exact .inl (List.mem_filter.mp z).1
    · obtain ⟨q, hq, e⟩ := List.mem_map.mp z
      unfold swp at e
      cases e
      exact .inr (List.mem_filter.mp hq).1
  · rintro ⟨h | h, ha, hb⟩
    · exact List.mem_append_left _ (List.mem_filter.mpr ⟨h, inn_iff.mpr ⟨ha, hb⟩⟩)
    · exact List.mem_append_right _ (List.mem_map.mpr ⟨(b, a), List.mem_filter.mpr ⟨h, inn_iff.mpr ⟨hb, ha⟩⟩, rfl⟩)
/-- pairs, either way about -/
def PrUp (vs' vs : List Pr) : Prop := ∀ a b : Str, (a, b) ∈ vs' → (a, b) ∈ vs ∨ (b, a) ∈ vs
theorem Conn.up {s : List Str} {x : Str} (h : Conn vs' s x) (u : PrUp vs' vs) : Conn vs s x := fun y hy => (h y hy).mono fun p hp => by
  obtain ⟨a, b⟩ := p
  obtain ⟨h1, h2⟩ := sym_mem.mp hp
  refine sym_mem.mpr ⟨?_, h2⟩
  rcases h1 with h1 | h1
  · exact u _ _ h1
  · exact (u _ _ h1).symm
theorem cnt_up (hn : ∀ y ∈ ns', y ∈ ns) (hl : ∀ p ∈ ls', p ∈ ls) (ha : ∀ y ∈ ns', y ∈ acted → y ∈ acted') (hk : ∀ y ∈ asked', y ∈ asked) {t : Str} (h : t ∈ cnt ns' ls' acted' asked') : t ∈ cnt ns ls acted asked := by
  obtain ⟨h1, h2, g, hg, l⟩ := cnt_mem.mp h
  refine cnt_mem.mpr ⟨hn t h1, fun z => h2 (ha t h1 z), g, hk g hg, l.mono fun p hp => ?_⟩
  obtain ⟨p1, p2⟩ := List.mem_filter.mp hp
  have p3 := inn_iff.mp p2
  have gen : ∀ y, y ∈ ns'.filter (fun x => !decide (x ∈ acted')) → y ∈ ns.filter fun x => !decide (x ∈ acted) := fun y hy => by
    obtain ⟨y1, y2⟩ := List.mem_filter.mp hy
    refine List.mem_filter.mpr ⟨hn y y1, ?_⟩
    rw [decide_eq_false fun z => by
      have := ha y y1 z
      rw [decide_eq_true this] at y2
      cases y2]
    rfl
  exact List.mem_filter.mpr ⟨hl p p1, inn_iff.mpr ⟨gen _ p3.1, gen _ p3.2⟩⟩
theorem Hdg.up {F S : List Str} {x : Str} (H : Hdg ns' ls' vs' acted' asked' F S x) (hn : ∀ y ∈ ns', y ∈ ns) (hl : ∀ p ∈ ls', p ∈ ls) (hv : PrUp vs' vs) (ha : ∀ y ∈ ns', y ∈ acted → y ∈ acted') (ha' : ∀ y ∈ ns', y ∈ acted' → y ∈ acted) (hk : ∀ y ∈ asked', y ∈ asked) :
    Hdg ns ls vs acted asked F S x :=
  ⟨H.hx, H.sf, fun y hy => hn y (H.fn y hy), fun y hy => cnt_up hn hl ha hk (H.sc y hy), H.cs.up hv, H.cf.up hv, fun y hy => by
    obtain ⟨g, hg, l⟩ := H.ld y hy
    exact ⟨g, hg, l.mono fun p hp => List.mem_filter.mpr ⟨hl p (List.mem_filter.mp hp).1, (List.mem_filter.mp hp).2⟩⟩, by
    obtain ⟨a, h1, h2⟩ := H.ha
    exact ⟨a, h1, ha' a (H.fn a h1) h2⟩⟩
/-! ### a thing more, on which nothing hangs -/
/-! ### where the steps end, as a set -/
end
end F84
section F85
open PySem PySem.Spec PyProof.Rows L2 He Ds
/-! ### a datum is equal to itself -/
def SdN (n : Nat) (d : D) : Prop := ∃ e, toPy d = some e ∧ e.depth ≤ n ∧ PyData.eqv e e = true
theorem SdN.up {n m : Nat} {d : D} (h : SdN n d) (l : n ≤ m) : SdN m d := by
  obtain ⟨e, h1, h2, h3⟩ := h
  exact ⟨e, h1, Nat.le_trans h2 l, h3⟩
end F85
local macro_rules | `(tactic| walk_at "d4side") => `(tactic| first | assumption | omega | (simp only [List.length_map, List.length_append, List.length_cons, List.length_nil, List.length_reverse]; omega) | (refine Nat.le_trans (List.length_filter_le _ _) ?_; walk_at "d4side"))
local macro_rules | `(tactic| walk_at "d4fl") => `(tactic| first | exact (show _ = true from rfl) | exact (show _ = false from rfl) | exact flat_strs _ | exact flat_prs _ | with_reducible assumption | exact rfl)
local macro_rules | `(tactic| walk_at "d4ryM") => `(tactic| first
  | ((with_reducible apply j_var); exact rfl) | ((with_reducible apply k_look); exact rfl) | ((with_reducible apply j_retD); exact rfl) | ((with_reducible apply j_retO); exact rfl) | ((with_reducible apply j_appP); exact rfl) | ((with_reducible apply j_appM); exact rfl) | ((with_reducible apply j_app); exact rfl) | with_reducible apply j_E | with_reducible apply j_op | with_reducible apply j_ixL | with_reducible apply j_ixT | with_reducible apply j_un | with_reducible apply j_list | with_reducible apply j_catM | with_reducible apply j_cat | with_reducible apply j_lst1 | with_reducible apply j_lst | with_reducible apply j_tup | with_reducible apply j_keep | with_reducible apply j_T | with_reducible apply j_tru | with_reducible apply j_and | with_reducible apply j_or | with_reducible apply j_not | with_reducible apply j_andV | with_reducible apply j_orV | with_reducible apply j_notV | with_reducible apply j_chain | with_reducible apply j_slL | with_reducible apply j_part | with_reducible apply j_call | with_reducible apply j_callX | with_reducible apply j_callK | with_reducible apply j_callKX | with_reducible apply j_poolC | with_reducible apply j_prop | with_reducible apply j_meth | with_reducible apply j_fld | with_reducible apply j_make | with_reducible apply j_makeX | with_reducible apply j_it | with_reducible apply j_rng | with_reducible apply j_enum | with_reducible assumption | with_reducible apply j_compA | with_reducible apply j_comp | with_reducible apply j_compO | with_reducible apply j_comp2 | with_reducible apply j_pnil | with_reducible apply j_mp | with_reducible apply j_pcD | with_reducible apply j_pcO
  | ((with_reducible apply k_iteT); (first | rfl | with_reducible assumption)) | ((with_reducible apply k_iteF); (first | rfl | with_reducible assumption)) | with_reducible assumption)
local macro_rules | `(tactic| walk_at "d4ryS") => `(tactic| first
  | with_reducible apply j_seq | with_reducible apply j_seqN | with_reducible apply j_seqR | with_reducible apply j_seqE | with_reducible apply j_setO | with_reducible apply j_set | with_reducible apply j_drop | with_reducible apply j_if | with_reducible apply j_ret | with_reducible apply j_nil | with_reducible apply j_raise | with_reducible apply j_par | with_reducible apply j_asg | ((with_reducible apply k_iteT); (first | rfl | with_reducible assumption)) | ((with_reducible apply k_iteF); (first | rfl | with_reducible assumption)) | with_reducible assumption)
local macro_rules | `(tactic| walk_at "d4ryL") => `(tactic| first | (simp only [wipeS, unw, go_d, go_n, go_0, List.set_cons_zero, List.set_cons_succ, List.getElem?_cons_zero, List.getElem?_cons_succ, Option.getD_some]; done) | (simp only [wipeS, unw, go_d, go_n, go_0, List.set_cons_zero, List.set_cons_succ, List.getElem?_cons_zero, List.getElem?_cons_succ, Option.getD_some]; exact rfl) | exact rfl | with_reducible assumption)
local macro_rules | `(tactic| walk_at "d4ryB") => `(tactic| first
  | ((with_reducible change (_ || _) = _); walk_at "d4fl") | ((change flatD _ = _); walk_at "d4fl") | ((with_reducible change (_ && _) = _); (first | exact Bool.true_and _ | with_reducible rfl | exact rfl)) | exact rfl | with_reducible assumption)
local macro_rules | `(tactic| walk_at "d4ryO") => `(tactic| first
  | ((with_reducible change (_ : Option (Bool × D)) = some (_, _)); exact rfl) | ((with_reducible change (_ : Option D) = _); (first | with_reducible apply o_in | with_reducible apply o_inI | with_reducible apply o_ninI | with_reducible apply o_eqI | with_reducible apply o_neI | with_reducible apply o_nin | with_reducible apply o_inp | with_reducible apply o_eqs | with_reducible apply o_nes | with_reducible apply o_eqi | with_reducible apply o_nei | with_reducible apply o_eqb | with_reducible apply o_neb | with_reducible apply o_eqL | with_reducible apply o_neL | with_reducible apply o_eqLL | with_reducible apply o_eqL0 | with_reducible apply o_neL0 | with_reducible apply o_eqLL0 | with_reducible apply o_len | with_reducible apply o_any | with_reducible apply o_isN | with_reducible apply o_neg | with_reducible apply o_add | with_reducible apply o_sub | with_reducible apply o_lt | with_reducible apply o_le | with_reducible apply o_gt | with_reducible apply o_ge | with_reducible apply o_at0 | with_reducible apply o_last | with_reducible assumption | with_reducible rfl)) | ((with_reducible change (_ : Option (List Slot)) = _); (first | with_reducible apply tg_name | with_reducible apply tg_tup2 | with_reducible apply tg_tup3 | with_reducible apply tg_tup1 | with_reducible apply sa_nil | with_reducible apply sa_cons | with_reducible assumption)) | ((with_reducible change (_ : Option (List (Bool × D))) = _); (first | with_reducible apply it_strs | with_reducible apply it_prs | with_reducible apply it_T | with_reducible apply it_F | with_reducible apply itT_T | with_reducible apply it_en | with_reducible assumption | with_reducible rfl | exact rfl)) | with_reducible assumption | exact rfl)
local macro_rules | `(tactic| walk_at "d4call") => `(tactic| first | with_reducible assumption | with_reducible solve_by_elim (maxDepth := 3))
local macro_rules | `(tactic| walk_at "d4ry1") => `(tactic| first
  | (intro _ _) | ((with_reducible change (_ : Res _) = _); walk_at "d4ryM") | ((with_reducible change (_ : SRes) = _); walk_at "d4ryS") | ((with_reducible change (_ : List Slot) = _); walk_at "d4ryL") | ((with_reducible change (_ : Option _) = _); walk_at "d4ryO") | ((with_reducible change (_ : Bool) = _); walk_at "d4ryB") | with_reducible apply a_nil | with_reducible apply a_consF
  | ((with_reducible change (_ : List D) = _); (first | with_reducible apply o_cut | with_reducible apply m1_str | with_reducible apply m1_strs | with_reducible apply m1_pr | with_reducible apply m1_int | with_reducible assumption | with_reducible rfl | exact rfl)) | ((with_reducible change (_ : Out) = _); walk_at "d4call") | ((with_reducible change (_ : OutI) = _); walk_at "d4call") | ((with_reducible change (_ : OutP) = _); walk_at "d4call")
  | ((with_reducible change (_ : Nat) ≤ _); walk_at "d4side") | ((with_reducible change (_ : Nat) < _); walk_at "d4side") | with_reducible assumption | with_reducible rfl | exact rfl)
local macro_rules | `(tactic| walk_at "d4ry") => `(tactic| repeat walk_at "d4ry1")
local macro_rules | `(tactic| walk_at "d4rzM") => `(tactic| first
  | ((with_reducible apply j_var); exact rfl) | ((with_reducible apply k_look); exact rfl) | ((with_reducible apply j_retD); exact rfl) | ((with_reducible apply j_retO); exact rfl) | ((with_reducible apply j_appP); exact rfl) | ((with_reducible apply j_appM); exact rfl) | ((with_reducible apply j_app); exact rfl) | with_reducible apply j_E | with_reducible apply j_op | with_reducible apply j_ixL | with_reducible apply j_ixT | with_reducible apply j_un | with_reducible apply j_list | with_reducible apply j_catM | with_reducible apply j_cat | with_reducible apply j_lst1 | with_reducible apply j_lst | with_reducible apply j_tup | with_reducible apply j_keep | with_reducible apply j_T | with_reducible apply j_tru | with_reducible apply j_not | with_reducible apply j_notV | with_reducible apply j_chain | with_reducible apply j_slL | with_reducible apply j_part | with_reducible apply j_call | with_reducible apply j_callX | with_reducible apply j_callK | with_reducible apply j_callKX | with_reducible apply j_poolC | with_reducible apply j_prop | with_reducible apply j_meth | with_reducible apply j_fld | with_reducible apply j_make | with_reducible apply j_makeX | with_reducible apply j_it | with_reducible apply j_rng | with_reducible apply j_enum | with_reducible assumption | with_reducible apply j_compA | with_reducible apply j_comp | with_reducible apply j_compO | with_reducible apply j_comp2 | with_reducible apply j_pnil | with_reducible apply j_mp | with_reducible apply j_pcD | with_reducible apply j_pcO
  | ((with_reducible apply k_iteT); (first | rfl | with_reducible assumption)) | ((with_reducible apply k_iteF); (first | rfl | with_reducible assumption)) | with_reducible assumption)
local macro_rules | `(tactic| walk_at "d4rz1") => `(tactic| first
  | (intro _ _) | ((with_reducible change (_ : Res _) = _); walk_at "d4rzM") | ((with_reducible change (_ : SRes) = _); walk_at "d4ryS") | ((with_reducible change (_ : List Slot) = _); walk_at "d4ryL") | ((with_reducible change (_ : Option _) = _); walk_at "d4ryO") | ((with_reducible change (_ : Bool) = _); walk_at "d4ryB") | with_reducible apply a_nil | with_reducible apply a_consF
  | ((with_reducible change (_ : List D) = _); (first | with_reducible apply o_cut | with_reducible apply m1_str | with_reducible apply m1_strs | with_reducible apply m1_pr | with_reducible apply m1_int | with_reducible assumption | with_reducible rfl | exact rfl)) | ((with_reducible change (_ : Out) = _); walk_at "d4call") | ((with_reducible change (_ : OutI) = _); walk_at "d4call") | ((with_reducible change (_ : OutP) = _); walk_at "d4call")
  | ((with_reducible change (_ : Nat) ≤ _); walk_at "d4side") | ((with_reducible change (_ : Nat) < _); walk_at "d4side") | with_reducible assumption | with_reducible rfl | exact rfl)
local macro_rules | `(tactic| walk_at "d4rz") => `(tactic| repeat walk_at "d4rz1")
section F86
open PySem PySem.Spec PyProof.Rows L2 He Ds
section
variable {ns : List Str} {ls vs : List Pr} {acted asked : List Str}
theorem chart_with {W : Nat} (C : ChartOk W ns ls vs) : (∀ p ∈ ls, p.1 ∈ ns ∧ p.2 ∈ ns) ∧ ∀ p ∈ vs, p.1 ∈ ns ∧ p.2 ∈ ns := by
  refine ⟨fun p hp => ?_, fun p hp => ⟨(C.vin p hp).1, (C.vin p hp).2.1⟩⟩
  obtain ⟨order, pm, h⟩ := C.ord
  obtain ⟨i, j, _, h1, h2⟩ := h p hp
  exact ⟨pm.mem_iff.mp (List.mem_of_getElem? h1), pm.mem_iff.mp (List.mem_of_getElem? h2)⟩
end
end F86
section F87
/-! Ways and trails: what is open, as mathematics. -/
open PySem PySem.Spec PyProof.Rows L2 He Ds
abbrev Mk := Bool × Bool
def mkD (m : Mk) : D := .tup [.bl m.1, .bl m.2]
/-- the joins of two things, from the first to the second: whether each points at either -/
def jns (ls vs : List Pr) (x y : Str) : List Mk :=
  (if (x, y) ∈ ls then [(false, true)] else []) ++ (if (y, x) ∈ ls then [(true, false)] else []) ++ (if (x, y) ∈ vs ∨ (y, x) ∈ vs then [(true, true)] else [])
/-- whether an open way may pass a thing -/
noncomputable def psn (ns : List Str) (ls : List Pr) (given : List Str) (x : Str) (b : Bool) : Bool := if b = true then given.any (fun g => decide (x ∈ leading ns ls g)) else !decide (x ∈ given)
abbrev Trl := List Str × Str × List Bool
def wayT (t : Trl) : List Str := t.1 ++ [t.2.1]
section
variable (J : Str → Str → List Mk) (P : Str → Bool → Bool) (ns : List Str) (goal start : Str)
def onw (l : Str) (ks : List Bool) (t : Str) : List Bool := ((J l t).filter fun m => ks.any fun k => P l (k && m.1)).map (·.2)
def lngB (tr : Trl) (t : Str) : Bool := !decide (t ∈ wayT tr) && !(onw J P tr.2.1 tr.2.2 t).isEmpty
def lng (tr : Trl) : List Trl := (ns.filter (lngB J P tr)).map fun t => (wayT tr, t, onw J P tr.2.1 tr.2.2 t)
def fwy : Nat → List Trl → Option (List Str)
  | 0, _ => none
  | n + 1, trs => if trs = [] then none else match trs.find? (fun t => decide (t.2.1 = goal)) with
    | some t => some (wayT t)
    | none => fwy n (trs.flatMap (lng J P ns))
inductive Tr : List Str → Str → List Mk → Bool → Prop
  | one : Tr [] start [] false
  | snoc {pre : List Str} {l t : Str} {js : List Mk} {k : Bool} {m : Mk} : Tr pre l js k → l ≠ goal → t ∈ ns → t ∉ pre ++ [l] → m ∈ J l t → P l (k && m.1) = true → Tr (pre ++ [l]) t (js ++ [m]) m.2
inductive Wy : List Str → Str → List Mk → Prop
  | one : Wy [] start []
  | snoc {pre : List Str} {l t : Str} {js : List Mk} {m : Mk} : Wy pre l js → l ≠ goal → t ∈ ns → t ∉ pre ++ [l] → m ∈ J l t → Wy (pre ++ [l]) t (js ++ [m])
end
section
variable {J : Str → Str → List Mk} {P : Str → Bool → Bool} {ns : List Str} {goal start : Str}
theorem snoc_inj {α : Type} {xs ys : List α} {x y : α} (h : xs ++ [x] = ys ++ [y]) : xs = ys ∧ x = y := by
  have := List.append_inj' h rfl
  exact ⟨this.1, by simpa using this.2⟩
theorem Tr.inv {pre : List Str} {l : Str} {js : List Mk} {k : Bool} (h : Tr J P ns goal start pre l js k) : (pre = [] ∧ l = start ∧ js = [] ∧ k = false) ∨ ∃ pre' l' js' k' m, pre = pre' ++ [l'] ∧ js = js' ++ [m] ∧ k = m.2 ∧ Tr J P ns goal start pre' l' js' k' ∧ l' ≠ goal ∧ l ∈ ns ∧ l ∉ pre' ++ [l'] ∧ m ∈ J l' l ∧ P l' (k' && m.1) = true := by
  cases h with
  | one => exact .inl ⟨rfl, rfl, rfl, rfl⟩
  | snoc h1 h2 h3 h4 h5 h6 => exact .inr ⟨_, _, _, _, _, rfl, rfl, rfl, h1, h2, h3, h4, h5, h6⟩
theorem Tr.nd {pre : List Str} {l : Str} {js : List Mk} {k : Bool} (hs : start ∈ ns) (h : Tr J P ns goal start pre l js k) : (pre ++ [l]).Nodup ∧ (∀ x ∈ pre ++ [l], x ∈ ns) ∧ js.length = pre.length := by
  induction h with
  | one => exact ⟨by simp, by simpa using hs, rfl⟩
  | @snoc pre l t js k m h1 h2 h3 h4 h5 h6 ih =>
    obtain ⟨i1, i2, i3⟩ := ih
    refine ⟨List.nodup_append.mpr ⟨i1, by simp, fun a ha b hb e => h4 (by rw [List.mem_singleton] at hb; rw [← hb, ← e]; exact ha)⟩, fun x hx => ?_, by rw [List.length_append, List.length_append, i3]; rfl⟩
    rcases List.mem_append.mp hx with hx | hx
    · exact i2 x hx
    · rw [List.mem_singleton] at hx; rw [hx]; exact h3
theorem nodup_len {xs ys : List Str} (h : xs.Nodup) (hs : ∀ x ∈ xs, x ∈ ys) : xs.length ≤ ys.length := by
  induction xs generalizing ys with
  | nil => exact Nat.zero_le _
  | cons x xs ih =>
    obtain ⟨h1, h2⟩ := List.nodup_cons.mp h
    have hx := hs x List.mem_cons_self
    have := ih (ys := ys.erase x) h2 fun y hy => (List.mem_erase_of_ne (fun e : y = x => h1 (by rw [← e]; exact hy))).mpr (hs y (List.mem_cons_of_mem _ hy))
    rw [List.length_erase_of_mem hx] at this
    have p := List.length_pos_of_mem hx
    rw [List.length_cons]
    omega
theorem Tr.cut {pre : List Str} {l : Str} {js : List Mk} {k : Bool} (h : Tr J P ns goal start pre l js k) : ∀ n, n ≤ pre.length → ∃ pre' l' js' k', Tr J P ns goal start pre' l' js' k' ∧ pre'.length = n := by
  induction h with
  | one => exact fun n hn => ⟨_, _, _, _, .one, by simp at hn; simp [hn]⟩
  | @snoc pre l t js k m h1 h2 h3 h4 h5 h6 ih =>
    intro n hn
    rw [List.length_append, List.length_singleton] at hn
    by_cases e : n = pre.length + 1
    · exact ⟨_, _, _, _, .snoc h1 h2 h3 h4 h5 h6, by rw [List.length_append, List.length_singleton, e]⟩
    · exact ih n (by omega)
/-- a level: all trails of so many things -/
structure Lvl (J : Str → Str → List Mk) (P : Str → Bool → Bool) (ns : List Str) (goal start : Str) (n : Nat) (trs : List Trl) : Prop where
  len : ∀ t ∈ trs, t.1.length = n
  mks : ∀ t ∈ trs, ∀ k, k ∈ t.2.2 ↔ ∃ js, Tr J P ns goal start t.1 t.2.1 js k
  pos : ∀ t ∈ trs, t.2.2 ≠ []
  all : ∀ pre l js k, Tr J P ns goal start pre l js k → pre.length = n → ∃ ks, (pre, l, ks) ∈ trs
theorem lvl_start : Lvl J P ns goal start 0 [([], start, [false])] := by
  refine ⟨fun t ht => ?_, fun t ht k => ?_, fun t ht => ?_, fun pre l js k h hl => ?_⟩
  · rw [List.mem_singleton] at ht; subst ht; rfl
  · rw [List.mem_singleton] at ht; subst ht
    rw [List.mem_singleton]
    refine ⟨fun e => ⟨[], by rw [e]; exact .one⟩, fun ⟨js, h⟩ => ?_⟩
    rcases h.inv with ⟨_, _, _, h4⟩ | ⟨pre', l', _, _, _, h1, _⟩
    · exact h4
    · exact absurd (congrArg List.length h1) (by simp)
  · rw [List.mem_singleton] at ht; subst ht; simp
  · rcases h.inv with ⟨h1, h2, _, _⟩ | ⟨pre', l', _, _, _, h1, _⟩
    · subst h1 h2; exact ⟨_, List.mem_singleton.mpr rfl⟩
    · rw [h1] at hl; simp at hl
theorem mem_onw {l t : Str} {ks : List Bool} {k : Bool} : k ∈ onw J P l ks t ↔ ∃ m ∈ J l t, (∃ k' ∈ ks, P l (k' && m.1) = true) ∧ m.2 = k := by
  unfold onw
  simp only [List.mem_map, List.mem_filter, List.any_eq_true]
  constructor
  · rintro ⟨m, ⟨h1, h2⟩, h3⟩; exact ⟨m, h1, h2, h3⟩
  · rintro ⟨m, h1, h2, h3⟩; exact ⟨m, ⟨h1, h2⟩, h3⟩
theorem mem_lng {tr t : Trl} : t ∈ lng J P ns tr ↔ t.1 = wayT tr ∧ t.2.1 ∈ ns ∧ t.2.1 ∉ wayT tr ∧ t.2.2 = onw J P tr.2.1 tr.2.2 t.2.1 ∧ t.2.2 ≠ [] := by
  unfold lng lngB
  simp only [List.mem_map, List.mem_filter, Bool.and_eq_true, Bool.not_eq_true', decide_eq_false_iff_not, List.isEmpty_eq_false_iff]
  constructor
  · rintro ⟨x, ⟨h1, h2, h3⟩, rfl⟩; exact ⟨rfl, h1, h2, rfl, h3⟩
  · rintro ⟨h1, h2, h3, h4, h5⟩
    obtain ⟨a, b, c⟩ := t
    dsimp only at h1 h2 h3 h4 h5
    subst h1
    rw [h4] at h5
    exact ⟨b, ⟨h2, h3, h5⟩, by rw [h4]⟩
theorem Lvl.step {n : Nat} {trs : List Trl} (L : Lvl J P ns goal start n trs) (hg : ∀ t ∈ trs, t.2.1 ≠ goal) : Lvl J P ns goal start (n + 1) (trs.flatMap (lng J P ns)) := by
  refine ⟨fun t ht => ?_, fun t ht k => ?_, fun t ht => ?_, fun pre l js k h hl => ?_⟩
  · obtain ⟨tr, h1, h2⟩ := List.mem_flatMap.mp ht
    rw [(mem_lng.mp h2).1]
    unfold wayT
    rw [List.length_append, L.len tr h1]; rfl
  · obtain ⟨tr, h1, h2⟩ := List.mem_flatMap.mp ht
    obtain ⟨g1, g2, g3, g4, g5⟩ := mem_lng.mp h2
    rw [g4, mem_onw, g1]
    constructor
    · rintro ⟨m, m1, ⟨k', m2, m3⟩, m4⟩
      obtain ⟨js, hj⟩ := (L.mks tr h1 k').mp m2
      exact ⟨js ++ [m], m4 ▸ .snoc hj (hg tr h1) g2 g3 m1 m3⟩
    · rintro ⟨js, hj⟩
      rcases hj.inv with ⟨e1, _⟩ | ⟨pre', l', js', k', m, e1, e2, e3, e4, e5, e6, e7, e8, e9⟩
      · exact absurd (congrArg List.length e1) (by simp [wayT])
      · obtain ⟨f1, f2⟩ := snoc_inj e1
        rw [← f2] at e8 e9
        exact ⟨m, e8, ⟨k', (L.mks tr h1 k').mpr ⟨js', by rw [f1, f2]; exact e4⟩, e9⟩, e3.symm⟩
  · obtain ⟨tr, h1, h2⟩ := List.mem_flatMap.mp ht
    exact (mem_lng.mp h2).2.2.2.2
  · rcases h.inv with ⟨e1, _⟩ | ⟨pre', l', js', k', m, e1, e2, e3, e4, e5, e6, e7, e8, e9⟩
    · rw [e1] at hl; simp at hl
    · rw [e1, List.length_append, List.length_singleton] at hl
      obtain ⟨ks, hm⟩ := L.all _ _ _ _ e4 (by omega)
      have hk := (L.mks _ hm k').mpr ⟨js', e4⟩
      refine ⟨onw J P l' ks l, List.mem_flatMap.mpr ⟨_, hm, mem_lng.mpr ⟨e1, e6, e7, rfl, ?_⟩⟩⟩
      have := mem_onw.mpr ⟨m, e8, ⟨k', hk, e9⟩, rfl⟩
      intro z
      rw [show onw J P l' ks l = [] from z] at this
      simp at this
theorem fwy_some {trs : List Trl} {n f : Nat} {way : List Str} (L : Lvl J P ns goal start n trs) (h : fwy J P ns goal f trs = some way) : ∃ pre js k, way = pre ++ [goal] ∧ Tr J P ns goal start pre goal js k := by
  induction f generalizing n trs with
  | zero => cases h
  | succ f ih =>
    unfold fwy at h
    by_cases e : trs = []
    · rw [if_pos e] at h; cases h
    · rw [if_neg e] at h
      cases q : trs.find? (fun t => decide (t.2.1 = goal)) with
      | some t =>
        rw [q] at h
        cases h
        have hm := List.mem_of_find?_eq_some q
        have hg : t.2.1 = goal := of_decide_eq_true (List.find?_some (p := fun t : Trl => decide (t.2.1 = goal)) q)
        obtain ⟨k, ks, hk⟩ := List.exists_cons_of_ne_nil (L.pos t hm)
        obtain ⟨js, hj⟩ := (L.mks t hm k).mp (by rw [hk]; exact List.mem_cons_self)
        exact ⟨t.1, js, k, by rw [← hg]; rfl, by rw [← hg] at hj ⊢; exact hj⟩
      | none =>
        rw [q] at h
        exact ih (L.step fun t ht z => by
          have := List.find?_eq_none.mp q t ht
          rw [decide_eq_true z] at this
          exact this rfl) h
theorem fwy_none {trs : List Trl} {n f : Nat} (hs : start ∈ ns) (L : Lvl J P ns goal start n trs) (hf : ns.length < n + f) (h : fwy J P ns goal f trs = none) : ∀ pre js k, Tr J P ns goal start pre goal js k → pre.length < n := by
  induction f generalizing n trs with
  | zero =>
    intro pre js k t
    have := nodup_len (t.nd hs).1 (t.nd hs).2.1
    rw [List.length_append, List.length_singleton] at this
    omega
  | succ f ih =>
    intro pre js k t
    unfold fwy at h
    refine Nat.lt_of_not_le fun hn => ?_
    by_cases e : trs = []
    · obtain ⟨_, _, _, _, t', hl⟩ := t.cut n hn
      obtain ⟨ks, hm⟩ := L.all _ _ _ _ t' hl
      rw [e] at hm
      simp at hm
    · rw [if_neg e] at h
      cases q : trs.find? (fun t => decide (t.2.1 = goal)) with
      | some t => rw [q] at h; cases h
      | none =>
        rw [q] at h
        have hg : ∀ t ∈ trs, t.2.1 ≠ goal := fun t ht z => by
          have := List.find?_eq_none.mp q t ht
          rw [decide_eq_true z] at this
          exact this rfl
        have := ih (L.step hg) (by omega) h pre js k t
        have hl : pre.length = n := by omega
        obtain ⟨ks, hm⟩ := L.all _ _ _ _ t hl
        exact hg _ hm rfl
/-- there is an open way -/
theorem fwy_iff (hs : start ∈ ns) : fwy J P ns goal (ns.length + 1) [([], start, [false])] = none ↔ ¬ ∃ pre js k, Tr J P ns goal start pre goal js k := by
  constructor
  · intro h ⟨pre, js, k, t⟩
    exact Nat.not_lt_zero _ (fwy_none hs lvl_start (by omega) h pre js k t)
  · intro h
    cases q : fwy J P ns goal (ns.length + 1) [([], start, [false])] with
    | none => rfl
    | some way =>
      obtain ⟨pre, js, k, _, t⟩ := fwy_some lvl_start q
      exact absurd ⟨pre, js, k, t⟩ h
/-! ### ways that are open, by their places -/
def lastm (js : List Mk) : Bool := match js.getLast? with
  | some m => m.2
  | none => false
theorem lastm_snoc {js : List Mk} {m : Mk} : lastm (js ++ [m]) = m.2 := by unfold lastm; rw [List.getLast?_concat]
/-- at the i-th thing of a way, one of its inner ones -/
def atW (P : Str → Bool → Bool) (way : List Str) (js : List Mk) (i : Nat) : Bool := P (way.getD i Str.empty) ((js.getD (i - 1) (false, false)).2 && (js.getD i (false, false)).1)
def opn (P : Str → Bool → Bool) (way : List Str) (js : List Mk) : Bool := (List.range' 1 (way.length - 2)).all (atW P way js)
theorem getD_left {α : Type} {xs ys : List α} {i : Nat} {d : α} (h : i < xs.length) : (xs ++ ys).getD i d = xs.getD i d := by
  rw [List.getD_eq_getElem?_getD, List.getD_eq_getElem?_getD, List.getElem?_append_left h]
theorem getD_last {α : Type} {xs : List α} {x d : α} : (xs ++ [x]).getD xs.length d = x := by
  rw [List.getD_eq_getElem?_getD, List.getElem?_append_right (Nat.le_refl _), Nat.sub_self]; rfl
theorem lastm_at {js : List Mk} (h : js ≠ []) : (js.getD (js.length - 1) (false, false)).2 = lastm js := by
  obtain ⟨a, b, rfl⟩ : ∃ a b, js = a ++ [b] := ⟨js.dropLast, js.getLast h, (List.dropLast_concat_getLast h).symm⟩
  rw [lastm_snoc, List.length_append, List.length_singleton, Nat.add_sub_cancel, getD_last]
theorem opn_snoc {pre : List Str} {l t : Str} {js : List Mk} {m : Mk} (hl : js.length = pre.length) : opn P (pre ++ [l] ++ [t]) (js ++ [m]) = (opn P (pre ++ [l]) js && (if pre = [] then true else P l (lastm js && m.1))) := by
  unfold opn
  by_cases e : pre = []
  · subst e
    rw [if_pos rfl]
    rfl
  · rw [if_neg e]
    have hp : 0 < pre.length := List.length_pos_iff.mpr e
    have e1 : (pre ++ [l] ++ [t]).length - 2 = ((pre ++ [l]).length - 2) + 1 := by simp only [List.length_append, List.length_singleton]; omega
    rw [e1, List.range'_concat, List.all_append]
    have e2 : 1 + 1 * ((pre ++ [l]).length - 2) = pre.length := by simp only [List.length_append, List.length_singleton]; omega
    rw [e2]
    have hj : js ≠ [] := fun z => by rw [z] at hl; simp at hl; omega
    have e3 : atW P (pre ++ [l] ++ [t]) (js ++ [m]) pre.length = P l (lastm js && m.1) := by
      unfold atW
      rw [getD_left (by simp), getD_last, ← hl, getD_left (by omega), getD_last, lastm_at hj]
    rw [List.all_cons, List.all_nil, Bool.and_true, e3]
    congr 1
    have : ∀ i ∈ List.range' 1 ((pre ++ [l]).length - 2), atW P (pre ++ [l] ++ [t]) (js ++ [m]) i = atW P (pre ++ [l]) js i := fun i hi => by
      rw [List.mem_range'_1] at hi
      simp only [List.length_append, List.length_singleton] at hi
      unfold atW
      rw [getD_left (by simp; omega), getD_left (by omega), getD_left (xs := js) (i := i - 1) (by omega), getD_left (xs := js) (i := i) (by omega)]
    rw [Bool.eq_iff_iff, List.all_eq_true, List.all_eq_true]
    exact ⟨fun h i hi => (this i hi).symm.trans (h i hi), fun h i hi => (this i hi).trans (h i hi)⟩
theorem Wy.len {pre : List Str} {l : Str} {js : List Mk} (h : Wy J ns goal start pre l js) : js.length = pre.length := by
  induction h with
  | one => rfl
  | snoc _ _ _ _ _ ih => rw [List.length_append, List.length_append, ih]; rfl
theorem Wy.first {pre : List Str} {l : Str} {js : List Mk} (h : Wy J ns goal start pre l js) : pre = [] → l = start ∧ js = [] := by
  cases h with
  | one => exact fun _ => ⟨rfl, rfl⟩
  | snoc => exact fun e => absurd e (by simp)
/-- open trails are the ways that are open at each of their inner things -/
theorem tr_iff (h0 : P start false = true) {pre : List Str} {l : Str} {js : List Mk} {k : Bool} : Tr J P ns goal start pre l js k ↔ Wy J ns goal start pre l js ∧ opn P (pre ++ [l]) js = true ∧ k = lastm js := by
  constructor
  · intro h
    induction h with
    | one => exact ⟨.one, rfl, rfl⟩
    | @snoc pre l t js k m h1 h2 h3 h4 h5 h6 ih =>
      obtain ⟨i1, i2, i3⟩ := ih
      refine ⟨.snoc i1 h2 h3 h4 h5, ?_, lastm_snoc.symm⟩
      rw [opn_snoc i1.len, i2]
      by_cases e : pre = []
      · rw [if_pos e]; rfl
      · rw [if_neg e, ← i3, h6]; rfl
  · rintro ⟨h, h1, rfl⟩
    induction h with
    | one => exact .one
    | @snoc pre l t js m w h2 h3 h4 h5 ih =>
      rw [opn_snoc w.len, Bool.and_eq_true] at h1
      rw [lastm_snoc]
      refine .snoc (ih h1.1) h2 h3 h4 h5 ?_
      by_cases e : pre = []
      · obtain ⟨e1, e2⟩ := w.first e
        subst e1 e2
        exact h0
      · rw [if_neg e] at h1
        exact h1.2
theorem fwy_open (h0 : P start false = true) (hs : start ∈ ns) : fwy J P ns goal (ns.length + 1) [([], start, [false])] = none ↔ ¬ ∃ pre js, Wy J ns goal start pre goal js ∧ opn P (pre ++ [goal]) js = true := by
  rw [fwy_iff hs]
  constructor
  · rintro h ⟨pre, js, h1, h2⟩
    exact h ⟨pre, js, _, (tr_iff h0).mpr ⟨h1, h2, rfl⟩⟩
  · rintro h ⟨pre, js, k, t⟩
    exact h ⟨pre, js, ((tr_iff h0).mp t).1, ((tr_iff h0).mp t).2.1⟩
end
end F87
section F88
/-! All ways from one thing to another, gone through with a list of what waits. -/
open PySem PySem.Spec PyProof.Rows L2 He Ds
abbrev WyT := List Str × List Mk
section
variable {J : Str → Str → List Mk} {ns : List Str} {goal start : Str}
/-- a way with its joins, as a pair -/
def WyP (J : Str → Str → List Mk) (ns : List Str) (goal start : Str) (p : WyT) : Prop := ∃ pre l, p.1 = pre ++ [l] ∧ Wy J ns goal start pre l p.2
def chl (J : Str → Str → List Mk) (ns : List Str) (p : WyT) (l : Str) : List WyT := ns.flatMap fun x => if x ∈ p.1 then [] else (J l x).map fun m => (p.1 ++ [x], p.2 ++ [m])
inductive Ext (J : Str → Str → List Mk) (ns : List Str) (goal : Str) (p : WyT) : List Str → Str → List Mk → Prop
  | refl {pre : List Str} {l : Str} : p.1 = pre ++ [l] → Ext J ns goal p pre l p.2
  | snoc {pre : List Str} {l t : Str} {js : List Mk} {m : Mk} : Ext J ns goal p pre l js → l ≠ goal → t ∈ ns → t ∉ pre ++ [l] → m ∈ J l t → Ext J ns goal p (pre ++ [l]) t (js ++ [m])
theorem mem_chl {p q : WyT} {l : Str} : q ∈ chl J ns p l ↔ ∃ x ∈ ns, x ∉ p.1 ∧ ∃ m ∈ J l x, q = (p.1 ++ [x], p.2 ++ [m]) := by
  unfold chl
  rw [List.mem_flatMap]
  constructor
  · rintro ⟨x, hx, h⟩
    by_cases c : x ∈ p.1
    · rw [if_pos c] at h; simp at h
    · rw [if_neg c] at h
      obtain ⟨m, hm, rfl⟩ := List.mem_map.mp h
      exact ⟨x, hx, c, m, hm, rfl⟩
  · rintro ⟨x, hx, c, m, hm, rfl⟩
    exact ⟨x, hx, by rw [if_neg c]; exact List.mem_map.mpr ⟨m, hm, rfl⟩⟩
theorem Wy.ext {pre : List Str} {l : Str} {js : List Mk} (h : Wy J ns goal start pre l js) : Ext J ns goal ([start], []) pre l js := by
  induction h with
  | one => exact .refl rfl
  | snoc _ h2 h3 h4 h5 ih => exact .snoc ih h2 h3 h4 h5
/-- an extension is the way itself, or goes through one of what follows it -/
theorem Ext.via {p : WyT} {pre0 : List Str} {l0 : Str} (hp : p.1 = pre0 ++ [l0]) {pre : List Str} {l : Str} {js : List Mk} (h : Ext J ns goal p pre l js) : (pre = pre0 ∧ l = l0 ∧ js = p.2) ∨ (l0 ≠ goal ∧ ∃ c ∈ chl J ns p l0, Ext J ns goal c pre l js) := by
  induction h with
  | refl e =>
    obtain ⟨e1, e2⟩ := snoc_inj (e.symm.trans hp)
    exact .inl ⟨e1, e2, rfl⟩
  | @snoc pre l t js m h1 h2 h3 h4 h5 ih =>
    right
    rcases ih with ⟨rfl, rfl, rfl⟩ | ⟨hg, c, hc, hx⟩
    · exact ⟨h2, (p.1 ++ [t], p.2 ++ [m]), mem_chl.mpr ⟨t, h3, by rw [hp]; exact h4, m, h5, rfl⟩, .refl (p := (p.1 ++ [t], p.2 ++ [m])) (by rw [hp])⟩
    · exact ⟨hg, c, hc, .snoc hx h2 h3 h4 h5⟩
theorem WyP.chl {p c : WyT} {pre : List Str} {l : Str} (hp : p.1 = pre ++ [l]) (h : Wy J ns goal start pre l p.2) (hg : l ≠ goal) (hc : c ∈ chl J ns p l) : WyP J ns goal start c := by
  obtain ⟨x, hx, hn, m, hm, rfl⟩ := mem_chl.mp hc
  exact ⟨pre ++ [l], x, by rw [← hp], .snoc h hg hx (by rw [← hp]; exact hn) hm⟩
theorem Wy.nd (hs : start ∈ ns) {pre : List Str} {l : Str} {js : List Mk} (h : Wy J ns goal start pre l js) : (pre ++ [l]).Nodup ∧ (∀ x ∈ pre ++ [l], x ∈ ns) := by
  induction h with
  | one => exact ⟨by simp, by simpa using hs⟩
  | @snoc pre l t js m h1 h2 h3 h4 h5 ih =>
    obtain ⟨i1, i2⟩ := ih
    refine ⟨List.nodup_append.mpr ⟨i1, by simp, fun a ha b hb e => h4 (by rw [List.mem_singleton] at hb; rw [← hb, ← e]; exact ha)⟩, fun x hx => ?_⟩
    rcases List.mem_append.mp hx with hx | hx
    · exact i2 x hx
    · rw [List.mem_singleton] at hx; rw [hx]; exact h3
/-- what is found and what waits -/
structure WSt (J : Str → Str → List Mk) (ns : List Str) (goal start : Str) (fd wt : List WyT) : Prop where
  hfd : ∀ p ∈ fd, ∃ pre, p.1 = pre ++ [goal] ∧ Wy J ns goal start pre goal p.2
  hwt : ∀ p ∈ wt, WyP J ns goal start p
  all : ∀ pre js, Wy J ns goal start pre goal js → (pre ++ [goal], js) ∈ fd ∨ ∃ p ∈ wt, Ext J ns goal p pre goal js
theorem WSt.done {fd wt : List WyT} {p : WyT} {pre : List Str} (S : WSt J ns goal start fd (wt ++ [p])) (hp : p.1 = pre ++ [goal]) : WSt J ns goal start (fd ++ [p]) wt := by
  refine ⟨fun q hq => ?_, fun q hq => S.hwt q (List.mem_append_left _ hq), fun pre' js h => ?_⟩
  · rcases List.mem_append.mp hq with hq | hq
    · exact S.hfd q hq
    · rw [List.mem_singleton] at hq
      subst hq
      obtain ⟨pre', l, e, w⟩ := S.hwt q (by simp)
      obtain ⟨e1, e2⟩ := snoc_inj (hp.symm.trans e)
      subst e1 e2
      exact ⟨pre, hp, w⟩
  · rcases S.all pre' js h with h1 | ⟨q, hq, hx⟩
    · exact .inl (List.mem_append_left _ h1)
    · rcases List.mem_append.mp hq with hq | hq
      · exact .inr ⟨q, hq, hx⟩
      · rw [List.mem_singleton] at hq
        subst hq
        rcases hx.via hp with ⟨rfl, _, rfl⟩ | ⟨hg, _⟩
        · exact .inl (List.mem_append_right _ (by rw [List.mem_singleton, ← hp]))
        · exact absurd rfl hg
theorem WSt.more {fd wt : List WyT} {p : WyT} {pre : List Str} {l : Str} (S : WSt J ns goal start fd (wt ++ [p])) (hp : p.1 = pre ++ [l]) (hg : l ≠ goal) : WSt J ns goal start fd (wt ++ chl J ns p l) := by
  have w : Wy J ns goal start pre l p.2 := by
    obtain ⟨pre', l', e, w⟩ := S.hwt p (by simp)
    obtain ⟨e1, e2⟩ := snoc_inj (hp.symm.trans e)
    subst e1 e2
    exact w
  refine ⟨S.hfd, fun q hq => ?_, fun pre' js h => ?_⟩
  · rcases List.mem_append.mp hq with hq | hq
    · exact S.hwt q (List.mem_append_left _ hq)
    · exact WyP.chl hp w hg hq
  · rcases S.all pre' js h with h1 | ⟨q, hq, hx⟩
    · exact .inl h1
    · rcases List.mem_append.mp hq with hq | hq
      · exact .inr ⟨q, List.mem_append_left _ hq, hx⟩
      · rw [List.mem_singleton] at hq
        subst hq
        rcases hx.via hp with ⟨_, e, _⟩ | ⟨_, c, hc, hx⟩
        · exact absurd e.symm hg
        · exact .inr ⟨c, List.mem_append_right _ hc, hx⟩
theorem WSt.mem {fd : List WyT} (S : WSt J ns goal start fd []) {p : WyT} : p ∈ fd ↔ ∃ pre, p.1 = pre ++ [goal] ∧ Wy J ns goal start pre goal p.2 := by
  refine ⟨S.hfd p, fun ⟨pre, e, w⟩ => ?_⟩
  rcases S.all pre p.2 w with h | ⟨q, hq, _⟩
  · rw [← e] at h; exact h
  · simp at hq
/-! how long it takes -/
end
end F88
section F89
/-! The way that is found is the first one. -/
open PySem PySem.Spec PyProof.Rows L2 He Ds
/-- lexicographic, of lists of one length -/
inductive LexN : List Nat → List Nat → Prop
  | hd {x y : Nat} {xs ys : List Nat} : x < y → xs.length = ys.length → LexN (x :: xs) (y :: ys)
  | tl {x : Nat} {xs ys : List Nat} : LexN xs ys → LexN (x :: xs) (x :: ys)
theorem LexN.len {a b : List Nat} (h : LexN a b) : a.length = b.length := by
  induction h with
  | hd _ e => rw [List.length_cons, List.length_cons, e]
  | tl _ ih => rw [List.length_cons, List.length_cons, ih]
theorem LexN.snoc {x y : Nat} (h : x < y) : ∀ xs : List Nat, LexN (xs ++ [x]) (xs ++ [y])
  | [] => .hd h rfl
  | _ :: xs => .tl (LexN.snoc h xs)
section
variable {J : Str → Str → List Mk} {P : Str → Bool → Bool} {ns : List Str} {goal start : Str}
end
/-! ### as sorted sees it -/
abbrev keyI (is : List Nat) : List (Int ⊕ List Nat) := PySem.W.keyToksAll (is.map fun i => PyData.int (i : Nat))
theorem keyI_cons {i : Nat} {is : List Nat} : keyI (i :: is) = .inl 1 :: .inl (i : Nat) :: keyI is := by
  unfold keyI
  rw [List.map_cons, PySem.W.keyToksAll, PySem.W.keyToks]
  rfl
theorem lex_lt {x y : Nat} (h : x < y) {r t : List (Int ⊕ List Nat)} : PyProof.Rows.lexLt PyProof.Rows.itemOrd (.inl (x : Nat) :: r) (.inl (y : Nat) :: t) = true := by
  rw [PyProof.Rows.lex_cons]
  have : PyProof.Rows.itemOrd.blt (.inl ((x : Nat) : Int)) (.inl ((y : Nat) : Int)) = true := by
    show decide ((x : Int) < (y : Int)) = true
    exact decide_eq_true (by omega)
  rw [this]
  rfl
theorem LexN.key {a b : List Nat} (h : LexN a b) {r t : List (Int ⊕ List Nat)} : PyProof.Rows.lexLt PyProof.Rows.itemOrd (keyI a ++ r) (keyI b ++ t) = true := by
  induction h with
  | hd h _ =>
    rw [keyI_cons, keyI_cons, List.cons_append, List.cons_append, List.cons_append, List.cons_append, PyProof.Rows.lex_self]
    exact lex_lt h
  | tl _ ih =>
    rw [keyI_cons, keyI_cons, List.cons_append, List.cons_append, List.cons_append, List.cons_append, PyProof.Rows.lex_self, PyProof.Rows.lex_self]
    exact ih
end F89
section F90
/-! Reading dicts whose keys are tuples. -/
open PySem PySem.Spec PyProof.Rows L2 He Ds
section
variable {ρ ρ1 ρ2 ρ3 : List Slot}
theorem j_newL {i : Nat} (h : decide (i < ρ.length) = true) (h2 : ρ.set i (.own2 true (some []) []) = ρ1) : sNewL i ρ = .nx ρ1 := by
  subst h2; unfold sNewL; rw [if_pos (of_decide_eq_true h)]
theorem j_setd {i : Nat} {b1 b2 f : Bool} {mk : M (Bool × D)} {d : D} {k : List Key} {ks : List (List Key)} {dss : List (List D)} (h0 : ρ[i]? = some (.own2 true (some ks) dss)) (h1 : mk ρ = .ok (f, d) ρ1) (h2 : ρ1[i]? = some (.own2 true (some ks) dss)) (hk : tkeyOf d = some k)
    (hz : ks.length < 100000 ∧ (dss.all fun ds => decide (ds.length < 100000)) = true ∧ ks.length = dss.length) (h3 : ρ1.set i (.own2 true (some (setdK ks dss k (.tup [.bl b1, .bl b2])).1) (setdK ks dss k (.tup [.bl b1, .bl b2])).2) = ρ2) : mSetd i b1 b2 mk ρ = .ok (true, .non) ρ2 := by
  subst h3
  unfold mSetd hasO2 mb
  rw [h0]
  dsimp only
  rw [if_pos rfl, h1]
  dsimp only
  unfold setdS
  rw [h2]
  dsimp only
  rw [hk]
  dsimp only
  rw [if_pos hz]
theorem j_retL {i : Nat} {k : Option (List (List Key))} {dss : List (List D)} (h : ρ[i]? = some (.own2 true k dss)) (h2 : ρ.set i (.dat true (o2D k (dss.map D.lst))) = ρ1) : mRetL i ρ = .ok (true, o2D k (dss.map D.lst)) ρ1 := by
  subst h2; unfold mRetL; rw [h]
theorem j_newB {w : World} {i : Nat} (h : decide (i < ρ.length) = true) (h2 : ρ.set i (.dcB w []) = ρ1) : sNewB w i ρ = .nx ρ1 := by
  subst h2; unfold sNewB; rw [if_pos (of_decide_eq_true h)]
theorem j_putB {w : World} {i : Nat} {mk mv : M (Bool × D)} {fv fk z : Bool} {kd : D} {k : BKey} {t : List (BKey × Bool)} (hv : mv ρ = .ok (fv, .bl z) ρ) (h0 : ρ[i]? = some (.dcB w t)) (hk : mk ρ = .ok (fk, kd) ρ) (hkk : bkeyOf kd = some k) (hn : ∀ p ∈ t, p.1 ≠ k) (hl : t.length < 100000) (h3 : ρ.set i (.dcB w (t ++ [(k, z)])) = ρ1) : sPutB w i mk mv ρ = .nx ρ1 := by
  subst h3
  unfold sPutB sE
  rw [hv]
  dsimp only
  unfold sGuard hasDcB
  rw [h0]
  dsimp only
  rw [if_pos rfl, hk]
  dsimp only
  unfold putSB
  rw [h0]
  dsimp only
  rw [if_pos rfl, hkk]
  dsimp only
  rw [if_pos ⟨List.all_eq_true.mpr fun p hp => by rw [decide_eq_false (hn p hp)]; rfl, hl⟩]
theorem j_dgetB {w : World} {md : M Look} {mk : M (Bool × D)} {fa : Look} {f g z : Bool} {d : D} {t : List (BKey × Bool)} {k : BKey} (h1 : md ρ = .ok fa ρ1) (h2 : mk ρ1 = .ok (g, d) ρ2) (h3 : fa ρ2 = some (f, .dicB w t)) (hk : bkeyOf d = some k) (hv : getB t k = some z) : mDgetB w md mk ρ = .ok (true, .bl z) ρ2 := by
  unfold mDgetB mBin mb
  rw [h1]
  dsimp only
  unfold mE mb
  rw [h2]
  dsimp only [mp]
  rw [h3]
  dsimp only
  unfold dgetB
  dsimp only
  rw [if_pos rfl, hk]
  dsimp only
  rw [hv]
  rfl
theorem j_getTL {mc : M Look} {ma : M (List Slot)} {f : Look} {fr g : Bool} {ks : List (List Key)} {ds : List D} {d z : D} {k : List Key} (h1 : mc ρ = .ok f ρ1) (h2 : f ρ1 = some (fr, .dicT ks ds)) (ha : Args ma ρ1 g [d, z] ρ1) (hk : tkeyOf d = some k) : mGetTL mc ma ρ = .ok (match getT ks ds k with | some v => (fr || flatD v, v) | none => (g || flatD z, z)) ρ1 := by
  obtain ⟨ss, e1, e2⟩ := ha
  unfold mGetTL mb
  rw [h1]
  dsimp only
  rw [h2]
  unfold isTb
  dsimp only
  rw [if_pos rfl]
  unfold mDats mb
  rw [e1]
  dsimp only
  rw [e2]
  dsimp only
  unfold getTL
  rw [h2]
  dsimp only
  rw [hk]
  dsimp only
  cases getT ks ds k <;> rfl
/-! what a dict of lists holds -/
abbrev DL2 := List (List Key) × List (List D)
def lk2 (z : DL2) (k : List Key) : List D := ((z.1.zip z.2).find? fun p => decide (p.1 = k)).elim [] (·.2)
structure SzOk (z : DL2) (n : Nat) : Prop where
  eq : z.1.length = z.2.length
  le : z.1.length ≤ n
  ds : ∀ ds ∈ z.2, ds.length ≤ n ∧ ds ≠ []
theorem SzOk.all {z : DL2} {n : Nat} (h : SzOk z n) (hn : n < 100000) : z.1.length < 100000 ∧ (z.2.all fun ds => decide (ds.length < 100000)) = true ∧ z.1.length = z.2.length :=
  ⟨Nat.lt_of_le_of_lt h.le hn, List.all_eq_true.mpr fun ds hd => decide_eq_true (Nat.lt_of_le_of_lt (h.ds ds hd).1 hn), h.eq⟩
theorem setd_sz {k : List Key} {d : D} : ∀ {ks : List (List Key)} {dss : List (List D)} {n : Nat}, SzOk (ks, dss) n → SzOk (setdK ks dss k d) (n + 1)
  | [], [], n, h => ⟨rfl, by show 1 ≤ n + 1; omega, fun ds hd => by
      have : ds = [d] := by simpa [setdK] using hd
      subst this
      exact ⟨by simp, by simp⟩⟩
  | k0 :: ks, ds :: dss, n, h => by
    have h' : SzOk (ks, dss) n := ⟨by simpa using h.eq, by have := h.le; simp at this ⊢; omega, fun x hx => h.ds x (List.mem_cons_of_mem _ hx)⟩
    unfold setdK
    by_cases e : k0 = k
    · rw [if_pos e]
      refine ⟨h.eq, by have := h.le; simp at this ⊢; omega, fun x hx => ?_⟩
      rcases List.mem_cons.mp hx with rfl | hx
      · have := (h.ds ds List.mem_cons_self).1
        exact ⟨by rw [List.length_append, List.length_singleton]; omega, by simp⟩
      · have := h'.ds x hx
        exact ⟨by omega, this.2⟩
    · rw [if_neg e]
      have i := setd_sz (k := k) (d := d) h'
      have le : (setdK ks dss k d).1.length ≤ ks.length + 1 := by
        clear i h h'
        induction ks generalizing dss with
        | nil => simp [setdK]
        | cons a ks ih => cases dss with
          | nil => simp [setdK]
          | cons b dss =>
            unfold setdK
            split
            · simp
            · simp only [List.length_cons]; have := ih (dss := dss); omega
      refine ⟨by simpa using i.eq, by have := h.le; simp at this ⊢; omega, fun x hx => ?_⟩
      rcases List.mem_cons.mp hx with rfl | hx
      · have := h.ds x List.mem_cons_self
        exact ⟨by omega, this.2⟩
      · exact i.ds x hx
  | [], _ :: _, _, h => absurd h.eq (by simp)
  | _ :: _, [], _, h => absurd h.eq (by simp)
theorem lk2_setd {k k' : List Key} {d : D} : ∀ {ks : List (List Key)} {dss : List (List D)}, ks.length = dss.length → lk2 (setdK ks dss k d) k' = if k' = k then lk2 (ks, dss) k' ++ [d] else lk2 (ks, dss) k'
  | [], [], _ => by
    by_cases e : k' = k
    · subst e; simp [setdK, lk2]
    · have e' : ¬ k = k' := fun z => e z.symm
      simp [setdK, lk2, e, e']
  | k0 :: ks, ds :: dss, h => by
    have ih := lk2_setd (k := k) (k' := k') (d := d) (show ks.length = dss.length by simpa using h)
    unfold setdK
    by_cases e : k0 = k
    · rw [if_pos e]
      subst e
      by_cases e2 : k' = k0
      · subst e2; simp [lk2]
      · have e2' : ¬ k0 = k' := fun z => e2 z.symm
        simp [lk2, e2, e2']
    · rw [if_neg e]
      by_cases e2 : k0 = k'
      · subst e2; simp [lk2, e]
      · have a1 : lk2 (k0 :: (setdK ks dss k d).1, ds :: (setdK ks dss k d).2) k' = lk2 (setdK ks dss k d) k' := by simp [lk2, e2]
        have a2 : lk2 (k0 :: ks, ds :: dss) k' = lk2 (ks, dss) k' := by simp [lk2, e2]
        rw [a1, a2, ih]
  | [], _ :: _, h => by simp at h
  | _ :: _, [], h => by simp at h
theorem getT_lk2 {k : List Key} : ∀ {ks : List (List Key)} {dss : List (List D)}, ks.length = dss.length → (∀ ds ∈ dss, ds ≠ []) → getT ks (dss.map D.lst) k = if lk2 (ks, dss) k = [] then none else some (.lst (lk2 (ks, dss) k))
  | [], [], _, _ => by simp [getT, lk2]
  | k0 :: ks, ds :: dss, h, hn => by
    have ih := getT_lk2 (k := k) (show ks.length = dss.length by simpa using h) fun x hx => hn x (List.mem_cons_of_mem _ hx)
    by_cases e : k0 = k
    · subst e
      have := hn ds List.mem_cons_self
      simp [getT, lk2, this]
    · have a1 : getT (k0 :: ks) ((ds :: dss).map D.lst) k = getT ks (dss.map D.lst) k := by simp [getT, e]
      have a2 : lk2 (k0 :: ks, ds :: dss) k = lk2 (ks, dss) k := by simp [lk2, e]
      rw [a1, a2, ih]
  | [], _ :: _, h, _ => by simp at h
  | _ :: _, [], h, _ => by simp at h
end
end F90
local macro_rules | `(tactic| walk_at "d5side") => `(tactic| first | assumption | omega | (simp only [List.length_map, List.length_append, List.length_cons, List.length_nil, List.length_reverse]; omega) | (refine Nat.le_trans (List.length_filter_le _ _) ?_; walk_at "d5side"))
local macro_rules | `(tactic| walk_at "d5fl") => `(tactic| first | exact (show _ = true from rfl) | exact (show _ = false from rfl) | exact flat_strs _ | exact flat_prs _ | with_reducible assumption | exact rfl)
local macro_rules | `(tactic| walk_at "d5ryM") => `(tactic| first
  | ((with_reducible apply j_var); exact rfl) | ((with_reducible apply k_look); exact rfl) | ((with_reducible apply j_retD); exact rfl) | ((with_reducible apply j_retO); exact rfl) | ((with_reducible apply j_appP); exact rfl) | ((with_reducible apply j_appM); exact rfl) | ((with_reducible apply j_app); exact rfl) | with_reducible apply j_E | with_reducible apply j_op | with_reducible apply j_ixL | with_reducible apply j_ixT | with_reducible apply j_un | with_reducible apply j_list | with_reducible apply j_catM | with_reducible apply j_cat | with_reducible apply j_lst1 | with_reducible apply j_lst | with_reducible apply j_tup | with_reducible apply j_keep | with_reducible apply j_T | with_reducible apply j_tru | with_reducible apply j_and | with_reducible apply j_or | with_reducible apply j_not | with_reducible apply j_andV | with_reducible apply j_orV | with_reducible apply j_notV | with_reducible apply j_chain | with_reducible apply j_slL | with_reducible apply j_part | with_reducible apply j_call | with_reducible apply j_callX | with_reducible apply j_callK | with_reducible apply j_callKX | with_reducible apply j_poolC | with_reducible apply j_prop | with_reducible apply j_meth | with_reducible apply j_fld | with_reducible apply j_make | with_reducible apply j_makeX | with_reducible apply j_it | with_reducible apply j_rng | with_reducible apply j_enum | with_reducible assumption | with_reducible apply j_compA | with_reducible apply j_comp | with_reducible apply j_compO | with_reducible apply j_comp2 | with_reducible apply j_pnil | with_reducible apply j_mp | with_reducible apply j_pcD | with_reducible apply j_pcO
  | ((with_reducible apply k_iteT); (first | rfl | with_reducible assumption)) | ((with_reducible apply k_iteF); (first | rfl | with_reducible assumption)) | with_reducible assumption)
local macro_rules | `(tactic| walk_at "d5ryS") => `(tactic| first
  | with_reducible apply j_seq | with_reducible apply j_seqN | with_reducible apply j_seqR | with_reducible apply j_seqE | with_reducible apply j_setO | with_reducible apply j_set | with_reducible apply j_drop | with_reducible apply j_if | with_reducible apply j_ret | with_reducible apply j_nil | with_reducible apply j_raise | with_reducible apply j_par | with_reducible apply j_asg | ((with_reducible apply k_iteT); (first | rfl | with_reducible assumption)) | ((with_reducible apply k_iteF); (first | rfl | with_reducible assumption)) | with_reducible assumption)
local macro_rules | `(tactic| walk_at "d5ryL") => `(tactic| first | (simp only [wipeS, unw, go_d, go_n, go_0, List.set_cons_zero, List.set_cons_succ, List.getElem?_cons_zero, List.getElem?_cons_succ, Option.getD_some]; done) | (simp only [wipeS, unw, go_d, go_n, go_0, List.set_cons_zero, List.set_cons_succ, List.getElem?_cons_zero, List.getElem?_cons_succ, Option.getD_some]; exact rfl) | exact rfl | with_reducible assumption)
local macro_rules | `(tactic| walk_at "d5ryB") => `(tactic| first
  | ((with_reducible change (_ || _) = _); walk_at "d5fl") | ((change flatD _ = _); walk_at "d5fl") | ((with_reducible change (_ && _) = _); (first | exact Bool.true_and _ | with_reducible rfl | exact rfl)) | exact rfl | with_reducible assumption)
local macro_rules | `(tactic| walk_at "d5ryO") => `(tactic| first
  | ((with_reducible change (_ : Option (Bool × D)) = some (_, _)); exact rfl) | ((with_reducible change (_ : Option D) = _); (first | with_reducible apply o_in | with_reducible apply o_inI | with_reducible apply o_ninI | with_reducible apply o_eqI | with_reducible apply o_neI | with_reducible apply o_nin | with_reducible apply o_inp | with_reducible apply o_eqs | with_reducible apply o_nes | with_reducible apply o_eqi | with_reducible apply o_nei | with_reducible apply o_eqb | with_reducible apply o_neb | with_reducible apply o_eqL | with_reducible apply o_neL | with_reducible apply o_eqLL | with_reducible apply o_eqL0 | with_reducible apply o_neL0 | with_reducible apply o_eqLL0 | with_reducible apply o_len | with_reducible apply o_any | with_reducible apply o_isN | with_reducible apply o_neg | with_reducible apply o_add | with_reducible apply o_sub | with_reducible apply o_lt | with_reducible apply o_le | with_reducible apply o_gt | with_reducible apply o_ge | with_reducible apply o_at0 | with_reducible apply o_last | with_reducible assumption | with_reducible rfl)) | ((with_reducible change (_ : Option (List Slot)) = _); (first | with_reducible apply tg_name | with_reducible apply tg_tup2 | with_reducible apply tg_tup3 | with_reducible apply tg_tup1 | with_reducible apply sa_nil | with_reducible apply sa_cons | with_reducible assumption)) | ((with_reducible change (_ : Option (List (Bool × D))) = _); (first | with_reducible apply it_strs | with_reducible apply it_prs | with_reducible apply it_T | with_reducible apply it_F | with_reducible apply itT_T | with_reducible apply it_en | with_reducible assumption | with_reducible rfl | exact rfl)) | with_reducible assumption | exact rfl)
local macro_rules | `(tactic| walk_at "d5call") => `(tactic| first | with_reducible assumption | with_reducible solve_by_elim (maxDepth := 3))
local macro_rules | `(tactic| walk_at "d5ry1") => `(tactic| first
  | (intro _ _) | ((with_reducible change (_ : Res _) = _); walk_at "d5ryM") | ((with_reducible change (_ : SRes) = _); walk_at "d5ryS") | ((with_reducible change (_ : List Slot) = _); walk_at "d5ryL") | ((with_reducible change (_ : Option _) = _); walk_at "d5ryO") | ((with_reducible change (_ : Bool) = _); walk_at "d5ryB") | with_reducible apply a_nil | with_reducible apply a_consF
  | ((with_reducible change (_ : List D) = _); (first | with_reducible apply o_cut | with_reducible apply m1_str | with_reducible apply m1_strs | with_reducible apply m1_pr | with_reducible apply m1_int | with_reducible assumption | with_reducible rfl | exact rfl)) | ((with_reducible change (_ : Out) = _); walk_at "d5call") | ((with_reducible change (_ : OutI) = _); walk_at "d5call") | ((with_reducible change (_ : OutP) = _); walk_at "d5call")
  | ((with_reducible change (_ : Nat) ≤ _); walk_at "d5side") | ((with_reducible change (_ : Nat) < _); walk_at "d5side") | with_reducible assumption | with_reducible rfl | exact rfl)
local macro_rules | `(tactic| walk_at "d5ry") => `(tactic| repeat walk_at "d5ry1")
local macro_rules | `(tactic| walk_at "d5rzM") => `(tactic| first
  | ((with_reducible apply j_var); exact rfl) | ((with_reducible apply k_look); exact rfl) | ((with_reducible apply j_retD); exact rfl) | ((with_reducible apply j_retO); exact rfl) | ((with_reducible apply j_appP); exact rfl) | ((with_reducible apply j_appM); exact rfl) | ((with_reducible apply j_app); exact rfl) | with_reducible apply j_E | with_reducible apply j_op | with_reducible apply j_ixL | with_reducible apply j_ixT | with_reducible apply j_un | with_reducible apply j_list | with_reducible apply j_catM | with_reducible apply j_cat | with_reducible apply j_lst1 | with_reducible apply j_lst | with_reducible apply j_tup | with_reducible apply j_keep | with_reducible apply j_T | with_reducible apply j_tru | with_reducible apply j_not | with_reducible apply j_notV | with_reducible apply j_chain | with_reducible apply j_slL | with_reducible apply j_part | with_reducible apply j_call | with_reducible apply j_callX | with_reducible apply j_callK | with_reducible apply j_callKX | with_reducible apply j_poolC | with_reducible apply j_prop | with_reducible apply j_meth | with_reducible apply j_fld | with_reducible apply j_make | with_reducible apply j_makeX | with_reducible apply j_it | with_reducible apply j_rng | with_reducible apply j_enum | with_reducible assumption | with_reducible apply j_compA | with_reducible apply j_comp | with_reducible apply j_compO | with_reducible apply j_comp2 | with_reducible apply j_pnil | with_reducible apply j_mp | with_reducible apply j_pcD | with_reducible apply j_pcO
  | ((with_reducible apply k_iteT); (first | rfl | with_reducible assumption)) | ((with_reducible apply k_iteF); (first | rfl | with_reducible assumption)) | with_reducible assumption)
local macro_rules | `(tactic| walk_at "d5rz1") => `(tactic| first
  | (intro _ _) | ((with_reducible change (_ : Res _) = _); walk_at "d5rzM") | ((with_reducible change (_ : SRes) = _); walk_at "d5ryS") | ((with_reducible change (_ : List Slot) = _); walk_at "d5ryL") | ((with_reducible change (_ : Option _) = _); walk_at "d5ryO") | ((with_reducible change (_ : Bool) = _); walk_at "d5ryB") | with_reducible apply a_nil | with_reducible apply a_consF
  | ((with_reducible change (_ : List D) = _); (first | with_reducible apply o_cut | with_reducible apply m1_str | with_reducible apply m1_strs | with_reducible apply m1_pr | with_reducible apply m1_int | with_reducible assumption | with_reducible rfl | exact rfl)) | ((with_reducible change (_ : Out) = _); walk_at "d5call") | ((with_reducible change (_ : OutI) = _); walk_at "d5call") | ((with_reducible change (_ : OutP) = _); walk_at "d5call")
  | ((with_reducible change (_ : Nat) ≤ _); walk_at "d5side") | ((with_reducible change (_ : Nat) < _); walk_at "d5side") | with_reducible assumption | with_reducible rfl | exact rfl)
local macro_rules | `(tactic| walk_at "d5rz") => `(tactic| repeat walk_at "d5rz1")
section F91
open PySem PySem.Spec PyProof.Rows L2 He Ds
/-! What is barred, evaluated. -/
theorem j_methN {ρ ρ1 ρ2 : List Slot} {C q : Str} {f : List D → Out} {mo : M (Bool × D)} {ma : M (List Slot)} {g g' : Bool} {x d : D} {ds : List D} (h1 : mo ρ = .ok (g, x) ρ1) (h2 : isObjM C q x = true) (h : Args ma ρ1 g' ds ρ2) (h4 : f (x :: ds) = .ok true d) : mMethN C q f mo ma ρ = .ok (true, d) ρ2 := by
  obtain ⟨ss, e1, e2⟩ := h
  unfold mMethN mb
  rw [h1]
  dsimp only
  rw [if_pos h2]
  unfold mDats mb
  rw [e1]
  dsimp only
  rw [e2]
  dsimp only
  rw [h4]
  rfl
section
variable {ns : List Str} {ls vs : List Pr}
/-! ### joins_of -/
def key2 (x y : Str) : List Key := [.inr x, .inr y]
theorem key2_inj {x y a b : Str} : key2 x y = key2 a b ↔ x = a ∧ y = b := by unfold key2; simp
def stepA (z : DL2) (p : Pr) : DL2 :=
  setdK (setdK z.1 z.2 (key2 p.1 p.2) (mkD (false, true))).1 (setdK z.1 z.2 (key2 p.1 p.2) (mkD (false, true))).2 (key2 p.2 p.1) (mkD (true, false))
def stepB (z : DL2) (p : Pr) : DL2 :=
  setdK (setdK z.1 z.2 (key2 p.1 p.2) (mkD (true, true))).1 (setdK z.1 z.2 (key2 p.1 p.2) (mkD (true, true))).2 (key2 p.2 p.1) (mkD (true, true))
theorem ev_jo1 {d0 : D} {z : DL2} {p : Pr} {n : Nat} (h : SzOk z n) (hn : n + 1 < 100000) : B_joins_of_1 [.dat false d0, .own2 true (some z.1) z.2, .dat true (.str p.1), .dat true (.str p.2)] = .nx [.dat false d0, .own2 true (some (stepA z p).1) (stepA z p).2, .dat true (.str p.1), .dat true (.str p.2)] := by
  have h1 := setd_sz (k := key2 p.1 p.2) (d := mkD (false, true)) (ks := z.1) (dss := z.2) h
  unfold B_joins_of_1
  apply k_seq (ρ1 := [.dat false d0, .own2 true (some (setdK z.1 z.2 (key2 p.1 p.2) (mkD (false, true))).1) (setdK z.1 z.2 (key2 p.1 p.2) (mkD (false, true))).2, .dat true (.str p.1), .dat true (.str p.2)])
  · apply j_drop
    apply j_setd (k := key2 p.1 p.2)
    · rfl
    · walk_at "d5ry"
    · rfl
    · rfl
    · exact h.all (by omega)
    · rfl
  · apply j_drop
    apply j_setd (k := key2 p.2 p.1)
    · rfl
    · walk_at "d5ry"
    · rfl
    · rfl
    · exact h1.all (by omega)
    · rfl
theorem ev_jo2 {d0 : D} {z : DL2} {p : Pr} {n : Nat} (h : SzOk z n) (hn : n + 1 < 100000) : B_joins_of_2 [.dat false d0, .own2 true (some z.1) z.2, .dat true (.str p.1), .dat true (.str p.2)] = .nx [.dat false d0, .own2 true (some (stepB z p).1) (stepB z p).2, .dat true (.str p.1), .dat true (.str p.2)] := by
  have h1 := setd_sz (k := key2 p.1 p.2) (d := mkD (true, true)) (ks := z.1) (dss := z.2) h
  unfold B_joins_of_2
  apply k_seq (ρ1 := [.dat false d0, .own2 true (some (setdK z.1 z.2 (key2 p.1 p.2) (mkD (true, true))).1) (setdK z.1 z.2 (key2 p.1 p.2) (mkD (true, true))).2, .dat true (.str p.1), .dat true (.str p.2)])
  · apply j_drop
    apply j_setd (k := key2 p.1 p.2)
    · rfl
    · walk_at "d5ry"
    · rfl
    · rfl
    · exact h.all (by omega)
    · rfl
  · apply j_drop
    apply j_setd (k := key2 p.2 p.1)
    · rfl
    · walk_at "d5ry"
    · rfl
    · rfl
    · exact h1.all (by omega)
    · rfl
theorem sz_A {z : DL2} {p : Pr} {n : Nat} (h : SzOk z n) : SzOk (stepA z p) (n + 2) := setd_sz (setd_sz h)
theorem sz_B {z : DL2} {p : Pr} {n : Nat} (h : SzOk z n) : SzOk (stepB z p) (n + 2) := setd_sz (setd_sz h)
theorem ev_joL {b : S} {st : DL2 → Pr → DL2} {d0 : D} (hs : ∀ z p n, SzOk z n → SzOk (st z p) (n + 2)) (hb : ∀ z p n, SzOk z n → n + 1 < 100000 → b [.dat false d0, .own2 true (some z.1) z.2, .dat true (.str p.1), .dat true (.str p.2)] = .nx [.dat false d0, .own2 true (some (st z p).1) (st z p).2, .dat true (.str p.1), .dat true (.str p.2)]) :
    ∀ (xs : List Pr) (z : DL2) (n : Nat) (s2 s3 : Slot), SzOk z n → n + 2 * xs.length < 90000 → ∃ s2' s3', forD (tgTup 2 (tgsCons (tgName 2) (tgsCons (tgName 3) tgsNil))) b (xs.map fun p => (true, prD p)) [.dat false d0, .own2 true (some z.1) z.2, s2, s3] = .nx [.dat false d0, .own2 true (some (xs.foldl st z).1) (xs.foldl st z).2, s2', s3'] ∧ SzOk (xs.foldl st z) (n + 2 * xs.length)
  | [], z, n, s2, s3, h, _ => ⟨s2, s3, rfl, h⟩
  | p :: xs, z, n, s2, s3, h, hn => by
    rw [List.length_cons] at hn ⊢
    obtain ⟨a, c, h1, h2⟩ := ev_joL hs hb xs (st z p) (n + 2) (.dat true (.str p.1)) (.dat true (.str p.2)) (hs _ _ _ h) (by omega)
    refine ⟨a, c, ?_, ?_⟩
    · rw [List.map_cons, k_forC (show tgTup 2 (tgsCons (tgName 2) (tgsCons (tgName 3) tgsNil)) (true, prD p) [.dat false d0, .own2 true (some z.1) z.2, s2, s3] = some [.dat false d0, .own2 true (some z.1) z.2, .dat true (.str p.1), .dat true (.str p.2)] from rfl) (hb z p n h (by omega)), h1]
      rfl
    · have : n + 2 + 2 * xs.length = n + 2 * (xs.length + 1) := by omega
      rw [← this]
      exact h2
def jod (ls vs : List Pr) : DL2 := vs.foldl stepB (ls.foldl stepA ([], []))
theorem sz_nil : SzOk ([], []) 0 := ⟨rfl, Nat.le_refl _, fun _ h => by simp at h⟩
theorem ev_joins_of (hl : ls.length ≤ 1000) (hv : vs.length ≤ 1000) : D_joins_of [diag ns ls vs] = .ok true (.dicT (jod ls vs).1 ((jod ls vs).2.map D.lst)) := by
  have e2 := ev_arrows (ns := ns) (ls := ls) (vs := vs)
  have e0 := ev_pairs (ns := ns) (ls := ls) (vs := vs)
  obtain ⟨a1, a2, h1, h2⟩ := ev_joL (b := B_joins_of_1) (d0 := diag ns ls vs) (fun _ _ _ => sz_A) (fun _ _ _ => ev_jo1) ls ([], []) 0 .no .no sz_nil (by omega)
  obtain ⟨b1, b2, h3, h4⟩ := ev_joL (b := B_joins_of_2) (d0 := diag ns ls vs) (fun _ _ _ => sz_B) (fun _ _ _ => ev_jo2) vs (ls.foldl stepA ([], [])) _ a1 a2 h2 (by omega)
  unfold D_joins_of
  apply j_run
  · rfl
  · walk_at "d5ry"
  · apply k_seq
    · apply j_newL
      · rfl
      · rfl
    apply k_seq
    · apply k_for
      · walk_at "d5ry"
      · exact h1
    apply k_seq
    · apply k_for
      · walk_at "d5ry"
      · exact h3
    apply j_ret
    apply j_retL
    · rfl
    · rfl
  · rfl
  · rfl
theorem lk2_A {z : DL2} {p : Pr} {n : Nat} {x y : Str} (h : SzOk z n) : lk2 (stepA z p) (key2 x y) = lk2 z (key2 x y) ++ ((if p = (x, y) then [mkD (false, true)] else []) ++ (if p = (y, x) then [mkD (true, false)] else [])) := by
  unfold stepA
  rw [lk2_setd (setd_sz h).eq, lk2_setd h.eq]
  obtain ⟨a, b⟩ := p
  simp only [key2_inj, Prod.mk.injEq]
  by_cases c1 : x = a ∧ y = b
  · obtain ⟨rfl, rfl⟩ := c1
    by_cases c2 : x = y
    · subst c2; simp
    · have : ¬ (x = y ∧ y = x) := fun z => c2 z.1
      simp [this]
  · have c1' : ¬ (a = x ∧ b = y) := fun z => c1 ⟨z.1.symm, z.2.symm⟩
    by_cases c2 : x = b ∧ y = a
    · obtain ⟨rfl, rfl⟩ := c2
      simp [c1, c1']
    · have c2' : ¬ (a = y ∧ b = x) := fun z => c2 ⟨z.2.symm, z.1.symm⟩
      simp [c1, c1', c2, c2']
theorem lk2_B {z : DL2} {p : Pr} {n : Nat} {x y : Str} (h : SzOk z n) : lk2 (stepB z p) (key2 x y) = lk2 z (key2 x y) ++ ((if p = (x, y) then [mkD (true, true)] else []) ++ (if p = (y, x) then [mkD (true, true)] else [])) := by
  unfold stepB
  rw [lk2_setd (setd_sz h).eq, lk2_setd h.eq]
  obtain ⟨a, b⟩ := p
  simp only [key2_inj, Prod.mk.injEq]
  by_cases c1 : x = a ∧ y = b
  · obtain ⟨rfl, rfl⟩ := c1
    by_cases c2 : x = y
    · subst c2; simp
    · have : ¬ (x = y ∧ y = x) := fun z => c2 z.1
      simp [this]
  · have c1' : ¬ (a = x ∧ b = y) := fun z => c1 ⟨z.1.symm, z.2.symm⟩
    by_cases c2 : x = b ∧ y = a
    · obtain ⟨rfl, rfl⟩ := c2
      simp [c1, c1']
    · have c2' : ¬ (a = y ∧ b = x) := fun z => c2 ⟨z.2.symm, z.1.symm⟩
      simp [c1, c1', c2, c2']
theorem lk2_fold {st : DL2 → Pr → DL2} {u v : D} {x y : Str} (hs : ∀ z p n, SzOk z n → SzOk (st z p) (n + 2)) (hk : ∀ z p n, SzOk z n → lk2 (st z p) (key2 x y) = lk2 z (key2 x y) ++ ((if p = (x, y) then [u] else []) ++ (if p = (y, x) then [v] else []))) :
    ∀ (xs : List Pr) (z : DL2) (n : Nat), SzOk z n → SzOk (xs.foldl st z) (n + 2 * xs.length) ∧ lk2 (xs.foldl st z) (key2 x y) = lk2 z (key2 x y) ++ xs.flatMap fun p => (if p = (x, y) then [u] else []) ++ (if p = (y, x) then [v] else [])
  | [], z, n, h => ⟨h, by simp⟩
  | p :: xs, z, n, h => by
    obtain ⟨h1, h2⟩ := lk2_fold hs hk xs (st z p) (n + 2) (hs _ _ _ h)
    refine ⟨?_, ?_⟩
    · have : n + 2 * (p :: xs).length = n + 2 + 2 * xs.length := by rw [List.length_cons]; omega
      rw [this]; exact h1
    · rw [List.foldl_cons, h2, hk z p n h, List.flatMap_cons, List.append_assoc]
theorem fm_one {a : Pr} {u : D} : ∀ {xs : List Pr}, xs.Nodup → (xs.flatMap fun p => if p = a then [u] else []) = if a ∈ xs then [u] else []
  | [], _ => rfl
  | p :: xs, h => by
    obtain ⟨h1, h2⟩ := List.nodup_cons.mp h
    rw [List.flatMap_cons, fm_one h2]
    by_cases e : p = a
    · subst e; simp [h1]
    · have e' : ¬ a = p := fun z => e z.symm
      simp [e, e']
theorem fm_congr {α β : Type} {f g : α → List β} : ∀ {xs : List α}, (∀ x ∈ xs, f x = g x) → xs.flatMap f = xs.flatMap g
  | [], _ => rfl
  | x :: xs, h => by rw [List.flatMap_cons, List.flatMap_cons, h x List.mem_cons_self, fm_congr fun y hy => h y (List.mem_cons_of_mem _ hy)]
theorem fm_two {a b : Pr} {u v : D} {xs : List Pr} (nd : xs.Nodup) (h : ¬ (a ∈ xs ∧ b ∈ xs)) : (xs.flatMap fun p => (if p = a then [u] else []) ++ (if p = b then [v] else [])) = (if a ∈ xs then [u] else []) ++ (if b ∈ xs then [v] else []) := by
  by_cases ha : a ∈ xs
  · have hb : b ∉ xs := fun z => h ⟨ha, z⟩
    rw [fm_congr (g := fun p => if p = a then [u] else []) fun p hp => by rw [if_neg (fun z : p = b => hb (z ▸ hp)), List.append_nil], fm_one nd, if_neg hb, List.append_nil]
  · rw [fm_congr (g := fun p => if p = b then [v] else []) fun p hp => by rw [if_neg (fun z : p = a => ha (z ▸ hp)), List.nil_append], fm_one nd, if_neg ha, List.nil_append]
theorem no_backC {W : Nat} (C : ChartOk W ns ls vs) {x y : Str} : ¬ ((x, y) ∈ ls ∧ (y, x) ∈ ls) := by
  rintro ⟨h1, h2⟩
  obtain ⟨order, pm, ho⟩ := C.ord
  have nd : order.Nodup := pm.nodup_iff.mpr C.nd
  obtain ⟨i, j, hij, a1, a2⟩ := ho _ h1
  obtain ⟨i', j', hij', b1, b2⟩ := ho _ h2
  have e1 : i = j' := (List.getElem?_inj (List.getElem?_eq_some_iff.mp a1).1 nd).mp (a1.trans b2.symm)
  have e2 : j = i' := (List.getElem?_inj (List.getElem?_eq_some_iff.mp a2).1 nd).mp (a2.trans b1.symm)
  omega
/-- what the search for ways wants of a diagram -/
structure FwOk (ns : List Str) (ls vs : List Pr) : Prop where
  lo : 1 ≤ ns.length
  hi : ns.length ≤ 6
  nd : ns.Nodup
  nb : ∀ x y : Str, ¬ ((x, y) ∈ ls ∧ (y, x) ∈ ls)
  lnd : ls.Nodup
  vnd : vs.Pairwise fun p q => p ≠ q ∧ p ≠ (q.2, q.1)
  vne : ∀ p ∈ vs, p.1 ≠ p.2
  l : ls.length ≤ 200
  v : vs.length ≤ 200
theorem _root_.Ds.ChartOk.fwk (C : ChartOk 6 ns ls vs) : FwOk ns ls vs := by
  obtain ⟨fw, _, _⟩ := cht_fw C
  exact ⟨C.lo, C.hi, C.nd, fun x y => no_backC C, C.lnd, C.vnd, fun p hp => (C.vin p hp).2.2, Nat.le_trans fw.l (by decide), Nat.le_trans fw.v (by decide)⟩
theorem no_back (C : FwOk ns ls vs) {x y : Str} : ¬ ((x, y) ∈ ls ∧ (y, x) ∈ ls) := C.nb x y
theorem vs_nd (C : FwOk ns ls vs) : vs.Nodup := List.nodup_iff_pairwise_ne.mpr (C.vnd.imp fun h => h.1)
theorem no_pair (C : FwOk ns ls vs) {x y : Str} : ¬ ((x, y) ∈ vs ∧ (y, x) ∈ vs) := by
  rintro ⟨h1, h2⟩
  have gen : ∀ {l : List Pr}, l.Pairwise (fun p q => p ≠ q ∧ p ≠ (q.2, q.1)) → (x, y) ∈ l → (y, x) ∈ l → x = y := by
    intro l
    induction l with
    | nil => intro _ h; simp at h
    | cons p l ih =>
      intro hp m1 m2
      obtain ⟨g1, g2⟩ := List.pairwise_cons.mp hp
      rcases List.mem_cons.mp m1 with e1 | m1
      · rcases List.mem_cons.mp m2 with e2 | m2
        · rw [← e1] at e2
          exact (Prod.mk.inj e2).2
        · exact absurd e1.symm (g1 _ m2).2
      · rcases List.mem_cons.mp m2 with e2 | m2
        · exact absurd e2.symm (g1 _ m1).2
        · exact ih g2 m1 m2
  exact C.vne _ h1 (gen C.vnd h1 h2)
theorem jo_get (C : FwOk ns ls vs) (x y : Str) : getT (jod ls vs).1 ((jod ls vs).2.map D.lst) (key2 x y) = if jns ls vs x y = [] then none else some (.lst ((jns ls vs x y).map mkD)) := by
  obtain ⟨s1, k1⟩ := lk2_fold (st := stepA) (u := mkD (false, true)) (v := mkD (true, false)) (x := x) (y := y) (fun _ _ _ => sz_A) (fun _ _ _ => lk2_A) ls ([], []) 0 sz_nil
  obtain ⟨s2, k2⟩ := lk2_fold (st := stepB) (u := mkD (true, true)) (v := mkD (true, true)) (x := x) (y := y) (fun _ _ _ => sz_B) (fun _ _ _ => lk2_B) vs _ _ s1
  have e : lk2 (jod ls vs) (key2 x y) = (jns ls vs x y).map mkD := by
    unfold jod
    rw [k2, k1, fm_two C.lnd (no_back C), fm_two (vs_nd C) (no_pair C)]
    have np := no_pair C (x := x) (y := y)
    unfold jns
    rw [List.map_append, List.map_append]
    congr 1
    · show [] ++ _ = _
      rw [List.nil_append]
      congr 1 <;> split <;> rfl
    · by_cases h1 : (x, y) ∈ vs
      · have h2 : (y, x) ∉ vs := fun z => np ⟨h1, z⟩
        rw [if_pos h1, if_neg h2, if_pos (.inl h1)]; rfl
      · by_cases h2 : (y, x) ∈ vs
        · rw [if_neg h1, if_pos h2, if_pos (.inr h2)]; rfl
        · rw [if_neg h1, if_neg h2, if_neg (fun z => z.elim h1 h2)]; rfl
  have s2' : SzOk (jod ls vs) (0 + 2 * ls.length + 2 * vs.length) := s2
  rw [getT_lk2 s2'.eq fun ds hd => (s2'.ds ds hd).2]
  show (if lk2 (jod ls vs) (key2 x y) = [] then _ else _) = _
  rw [e]
  by_cases h : jns ls vs x y = []
  · rw [h]; rfl
  · rw [if_neg h, if_neg (by simpa using h)]
/-! ### passes_of -/
theorem ev_leading_to {x : Str} (hx : x ∈ ns) (h1 : ns.length ≤ 10000) (h2 : ls.length ≤ 10000) : D_Diagram_leading_to [diag ns ls vs, .str x] = .ok true (sL (leading ns ls x)) := by
  have et := ev_things_leading ns ls x h1 h2
  have b1 : (!decide (x ∈ ns)) = false := by rw [decide_eq_true hx]; rfl
  have ek : D_check_known [sL ns, .str x] = .ok true .non := by
    unfold D_check_known
    apply j_runN
    · rfl
    · walk_at "d5ry"
    · walk_at "d5ry"
  unfold D_Diagram_leading_to
  apply j_run
  · rfl
  · walk_at "d5ry"
  · apply k_seq (ρ1 := [.dat false (diag ns ls vs), .dat false (.str x)])
    · walk_at "d5ry"
    · walk_at "d5ry"
  · rfl
  · rfl
noncomputable def pst (ns : List Str) (ls : List Pr) (given : List Str) (xs : List Str) : List (BKey × Bool) := xs.flatMap fun x => [((x, false), psn ns ls given x false), ((x, true), psn ns ls given x true)]
theorem mem_pst {given xs : List Str} {p : BKey × Bool} (h : p ∈ pst ns ls given xs) : p.1.1 ∈ xs := by
  obtain ⟨x, hx, hp⟩ := List.mem_flatMap.mp h
  rcases List.mem_cons.mp hp with rfl | hp
  · exact hx
  · rw [List.mem_singleton] at hp; subst hp; exact hx
theorem pst_get {given : List Str} {x : Str} {b : Bool} : ∀ {xs : List Str}, x ∈ xs → getB (pst ns ls given xs) (x, b) = some (psn ns ls given x b)
  | [], h => by simp at h
  | y :: xs, h => by
    unfold pst
    rw [List.flatMap_cons]
    by_cases e : y = x
    · subst e
      cases b <;> simp [getB]
    · have hx : x ∈ xs := (List.mem_cons.mp h).resolve_left fun z => e z.symm
      have ih := pst_get (given := given) (b := b) hx
      unfold pst getB at ih
      have e1 : ¬ (y, false) = (x, b) := fun z => e (Prod.mk.inj z).1
      have e2 : ¬ (y, true) = (x, b) := fun z => e (Prod.mk.inj z).1
      unfold getB
      simp only [List.cons_append, List.nil_append, List.find?_cons, e1, e2, decide_false]
      exact ih
section
variable {w : World} {given : List Str}
theorem ev_po1 (h1 : ns.length ≤ 10000) (h2 : ls.length ≤ 10000) (hg : ∀ g ∈ given, g ∈ ns) (gl : given.length ≤ 1000) {x : Str} {t : List (BKey × Bool)} {s4 : Slot} (ht : ∀ p ∈ t, p.1.1 ≠ x) (hl : t.length < 1000) : B_passes_of_1 w [.dat false (diag ns ls vs), .dat false (sL given), .dcB w t, .dat true (.str x), s4] = .nx [.dat false (diag ns ls vs), .dat false (sL given), .dcB w (t ++ [((x, false), psn ns ls given x false), ((x, true), psn ns ls given x true)]), .dat true (.str x), s4] := by
  have el : ∀ g ∈ given, D_Diagram_leading_to [diag ns ls vs, .str g] = .ok true (sL (leading ns ls g)) := fun g hgm => ev_leading_to (hg g hgm) h1 h2
  unfold B_passes_of_1
  apply k_seq (ρ1 := [.dat false (diag ns ls vs), .dat false (sL given), .dcB w (t ++ [((x, false), psn ns ls given x false)]), .dat true (.str x), s4])
  · apply j_putB (k := (x, false))
    · walk_at "d5ry"
    · rfl
    · walk_at "d5ry"
    · rfl
    · exact fun p hp z => ht p hp (by rw [z])
    · omega
    · rfl
  · apply j_putB (k := (x, true)) (z := psn ns ls given x true)
    · apply j_un
      · apply j_E
        apply j_keep
        apply j_compA (xs := given) (e := fun g => (true, D.str g)) (g := fun g => .bl (decide (x ∈ leading ns ls g)))
        · walk_at "d5ry"
        · omega
        · walk_at "d5ry"
        · walk_at "d5ry"
        · intro g hgm
          have eg := el g hgm
          apply j_op
          · walk_at "d5ry"
          · apply j_E
            apply j_methN
            · walk_at "d5ry"
            · rfl
            · walk_at "d5ry"
            · exact eg
          · rfl
          · rfl
          · walk_at "d5ry"
        · walk_at "d5ry"
        · walk_at "d5ry"
      · rfl
      · exact any_bls _
    · rfl
    · walk_at "d5ry"
    · rfl
    · intro p hp z
      rcases List.mem_append.mp hp with hp | hp
      · exact ht p hp (by rw [z])
      · rw [List.mem_singleton] at hp
        subst hp
        cases z
    · rw [List.length_append, List.length_singleton]; omega
    · rw [List.append_assoc]; rfl
theorem ev_po2 (h1 : ns.length ≤ 10000) (h2 : ls.length ≤ 10000) (hg : ∀ g ∈ given, g ∈ ns) (gl : given.length ≤ 1000) {s4 : Slot} : ∀ (ys zs : List Str) (s3 : Slot), (zs ++ ys).Nodup → 2 * (zs.length + ys.length) < 1000 → ∃ s, forD (tgName 3) (B_passes_of_1 w) (ys.map fun y => (true, D.str y)) [.dat false (diag ns ls vs), .dat false (sL given), .dcB w (pst ns ls given zs), s3, s4] = .nx [.dat false (diag ns ls vs), .dat false (sL given), .dcB w (pst ns ls given (zs ++ ys)), s, s4]
  | [], zs, s3, _, _ => ⟨s3, by rw [List.append_nil]; rfl⟩
  | y :: ys, zs, s3, nd, hn => by
    have len : ∀ xs : List Str, (pst ns ls given xs).length = 2 * xs.length := fun xs => by
      unfold pst
      induction xs with
      | nil => rfl
      | cons x xs ih => rw [List.flatMap_cons, List.length_append, ih, List.length_cons]; simp; omega
    rw [List.length_cons] at hn
    have hy : ∀ p ∈ pst ns ls given zs, p.1.1 ≠ y := fun p hp z => (List.nodup_append.mp nd).2.2 p.1.1 (mem_pst hp) y List.mem_cons_self z
    obtain ⟨s, hs⟩ := ev_po2 h1 h2 hg gl (s4 := s4) ys (zs ++ [y]) (.dat true (.str y)) (by rw [List.append_assoc]; exact nd) (by rw [List.length_append, List.length_singleton]; omega)
    refine ⟨s, ?_⟩
    have e := ev_po1 (w := w) (vs := vs) (s4 := s4) h1 h2 hg gl hy (by rw [len]; omega)
    rw [List.map_cons, k_forC (show tgName 3 _ _ = some _ from rfl) e]
    have e3 : pst ns ls given zs ++ [((y, false), psn ns ls given y false), ((y, true), psn ns ls given y true)] = pst ns ls given (zs ++ [y]) := by unfold pst; rw [List.flatMap_append]; rfl
    rw [e3, hs, List.append_assoc]
    rfl
theorem ev_passes_of (nd : ns.Nodup) (h1 : ns.length ≤ 100) (h2 : ls.length ≤ 10000) (hg : ∀ g ∈ given, g ∈ ns) (gl : given.length ≤ 1000) : D_passes_of w [diag ns ls vs, sL given] = .ok true (.dicB w (pst ns ls given ns)) := by
  have e0 := ev_names (ns := ns) (ls := ls) (vs := vs)
  obtain ⟨s, hs⟩ := ev_po2 (w := w) (vs := vs) (s4 := .no) (by omega) h2 hg gl ns [] .no (by simpa using nd) (by simp; omega)
  unfold D_passes_of
  apply j_run
  · rfl
  · walk_at "d5ry"
  · apply k_seq
    · apply j_newB
      · rfl
      · rfl
    apply k_seq
    · apply k_for
      · walk_at "d5ry"
      · exact hs
    apply j_ret
    rfl
  · rfl
  · rfl
end
end
end F91
section F92
open PySem PySem.Spec PyProof.Rows L2 He Ds
/-! find_way, evaluated. -/
section
variable {ns : List Str} {ls vs : List Pr} {given : List Str} {w : World}
abbrev JJ (ls vs : List Pr) : Str → Str → List Mk := jns ls vs
noncomputable abbrev PP (ns : List Str) (ls : List Pr) (given : List Str) : Str → Bool → Bool := psn ns ls given
def bL (ks : List Bool) : D := .lst (ks.map D.bl)
def trD (t : Trl) : D := .tup [sL (wayT t), bL t.2.2]
def joD (ls vs : List Pr) : D := .dicT (jod ls vs).1 ((jod ls vs).2.map D.lst)
noncomputable def paD (w : World) (ns : List Str) (ls : List Pr) (given : List Str) : D := .dicB w (pst ns ls given ns)
theorem jns_len {x y : Str} : (jns ls vs x y).length ≤ 3 := by
  unfold jns
  rw [List.length_append, List.length_append]
  have h1 : (if (x, y) ∈ ls then [((false, true) : Mk)] else []).length ≤ 1 := by split <;> simp
  have h2 : (if (y, x) ∈ ls then [((true, false) : Mk)] else []).length ≤ 1 := by split <;> simp
  have h3 : (if (x, y) ∈ vs ∨ (y, x) ∈ vs then [((true, true) : Mk)] else []).length ≤ 1 := by split <;> simp
  omega
theorem onw_len {l t : Str} {ks : List Bool} : (onw (JJ ls vs) (PP ns ls given) l ks t).length ≤ 3 := by
  unfold onw
  rw [List.length_map]
  exact Nat.le_trans (List.length_filter_le _ _) jns_len
theorem it_joins {f g : Bool} {m : M (Bool × D)} {x y : Str} {ρ ρ1 : List Slot} (C : FwOk ns ls vs) (h : m ρ = .ok (match getT (jod ls vs).1 ((jod ls vs).2.map D.lst) (key2 x y) with | some v => (f || flatD v, v) | none => (g || flatD (.lst []), .lst [])) ρ1) : mIt itList m ρ = .ok ((jns ls vs x y).map fun k => (true, mkD k)) ρ1 := by
  rw [jo_get C] at h
  unfold mIt mb
  rw [h]
  by_cases e : jns ls vs x y = []
  · rw [e]; rfl
  · rw [if_neg e]
    show mo (some (tagL (f || _) ((jns ls vs x y).map mkD))) ρ1 = _
    rw [tagL_map fun _ _ => rfl]
    rfl
theorem ev_marks_onward (C : FwOk ns ls vs) {t : Trl} {x : Str} (hl : t.2.1 ∈ ns) (kl : t.2.2.length ≤ 1000) : D_marks_onward w [joD ls vs, paD w ns ls given, trD t, .str x] = .ok true (bL (onw (JJ ls vs) (PP ns ls given) t.2.1 t.2.2 x)) := by
  have last : atI ((t.1 ++ [t.2.1]).map D.str) (-1) = some (.str t.2.1) := o_last
  have hj := jns_len (ls := ls) (vs := vs) (x := t.2.1) (y := x)
  have key : ∀ b : Bool, getB (pst ns ls given ns) (t.2.1, b) = some (psn ns ls given t.2.1 b) := fun b => pst_get hl
  unfold D_marks_onward
  apply j_run
  · rfl
  · walk_at "d5ry"
  · apply k_seq (ρ1 := [.dat false (joD ls vs), .dat false (paD w ns ls given), .dat false (trD t), .dat false (.str x), .dat false (sL (wayT t)), .dat false (bL t.2.2), .no, .no, .no, .no])
    · rfl
    apply k_seq (ρ1 := [.dat false (joD ls vs), .dat false (paD w ns ls given), .dat false (trD t), .dat false (.str x), .dat false (sL (wayT t)), .dat false (bL t.2.2), .dat true (.str t.2.1), .no, .no, .no])
    · apply j_set
      · apply j_ixL
        · apply k_look; rfl
        · walk_at "d5ry"
        · rfl
        · rfl
        · exact last
        · rfl
      · rfl
      · rfl
    apply j_ret
    apply j_keep
    apply j_comp (xs := jns ls vs t.2.1 x) (e := fun k => (true, mkD k)) (p := fun m => t.2.2.any fun k => psn ns ls given t.2.1 (k && m.1)) (g := fun m => D.bl m.2)
    · apply it_joins C
      apply j_getTL (k := key2 t.2.1 x)
      · apply k_look; rfl
      · rfl
      · walk_at "d5ry"
      · rfl
    · omega
    · walk_at "d5ry"
    · intro m hm
      rfl
    · intro m hm
      apply j_T
      apply j_un
      · apply j_E
        apply j_keep
        apply j_compA (xs := t.2.2) (e := fun k => (true, D.bl k)) (g := fun k => .bl (psn ns ls given t.2.1 (k && m.1)))
        · apply j_it
          · walk_at "d5ry"
          · show some (tagL false (t.2.2.map D.bl)) = _
            rw [tagL_map fun _ _ => rfl]
        · omega
        · walk_at "d5ry"
        · intro k hk
          rfl
        · intro k hk
          apply j_dgetB (k := (t.2.1, k && m.1))
          · apply k_look; rfl
          · walk_at "d5ry"
          · rfl
          · rfl
          · exact key _
        · walk_at "d5ry"
        · walk_at "d5ry"
      · rfl
      · exact any_bls _
    · intro m hm
      walk_at "d5ry"
    · walk_at "d5ry"
    · walk_at "d5ry"
  · rfl
  · show D.lst _ = D.lst _
    unfold onw
    rw [List.map_map]
    rfl
theorem ev_lo1 (C : FwOk ns ls vs) {t : Trl} {x : Str} {acc : List Trl} {s8 : Slot} (hl : t.2.1 ∈ ns) (kl : t.2.2.length ≤ 1000) (wl : (wayT t).length ≤ 1000) (al : acc.length ≤ 1000) : ∃ s, B_longer_trails_1 w [.dat false (sL ns), .dat false (joD ls vs), .dat false (paD w ns ls given), .dat false (trD t), .dat false (sL (wayT t)), .dat false (bL t.2.2), .own true (acc.map trD), .dat true (.str x), s8] =
    .nx [.dat false (sL ns), .dat false (joD ls vs), .dat false (paD w ns ls given), .dat false (trD t), .dat false (sL (wayT t)), .dat false (bL t.2.2), .own true ((acc ++ if lngB (JJ ls vs) (PP ns ls given) t x = true then [(wayT t, x, onw (JJ ls vs) (PP ns ls given) t.2.1 t.2.2 x)] else []).map trD), .dat true (.str x), s] := by
  have em := ev_marks_onward (w := w) (given := given) (x := x) C hl kl
  have b0 : mT (mOp dNotIn (mLook 7) (mLook 4)) [.dat false (sL ns), .dat false (joD ls vs), .dat false (paD w ns ls given), .dat false (trD t), .dat false (sL (wayT t)), .dat false (bL t.2.2), .own true (acc.map trD), .dat true (.str x), s8] = .ok (!decide (x ∈ wayT t)) [.dat false (sL ns), .dat false (joD ls vs), .dat false (paD w ns ls given), .dat false (trD t), .dat false (sL (wayT t)), .dat false (bL t.2.2), .own true (acc.map trD), .dat true (.str x), s8] := by walk_at "d5ry"
  unfold B_longer_trails_1 lngB
  by_cases c : x ∈ wayT t
  · refine ⟨s8, ?_⟩
    rw [decide_eq_true c] at b0 ⊢
    apply k_if b0
    rw [if_neg (by decide), if_neg (by simp), List.append_nil]
    rfl
  · refine ⟨.dat true (bL (onw (JJ ls vs) (PP ns ls given) t.2.1 t.2.2 x)), ?_⟩
    rw [decide_eq_false c] at b0 ⊢
    rw [Bool.not_false] at b0 ⊢
    rw [Bool.true_and]
    apply k_if b0
    rw [if_pos rfl]
    apply k_seq (ρ1 := [.dat false (sL ns), .dat false (joD ls vs), .dat false (paD w ns ls given), .dat false (trD t), .dat false (sL (wayT t)), .dat false (bL t.2.2), .own true (acc.map trD), .dat true (.str x), .dat true (bL (onw (JJ ls vs) (PP ns ls given) t.2.1 t.2.2 x))])
    · walk_at "d5ry"
    have e : (!((onw (JJ ls vs) (PP ns ls given) t.2.1 t.2.2 x).map D.bl).isEmpty) = !(onw (JJ ls vs) (PP ns ls given) t.2.1 t.2.2 x).isEmpty := by cases onw (JJ ls vs) (PP ns ls given) t.2.1 t.2.2 x <;> rfl
    apply k_if (k := !(onw (JJ ls vs) (PP ns ls given) t.2.1 t.2.2 x).isEmpty) (ρ1 := [.dat false (sL ns), .dat false (joD ls vs), .dat false (paD w ns ls given), .dat false (trD t), .dat false (sL (wayT t)), .dat false (bL t.2.2), .own true (acc.map trD), .dat true (.str x), .dat true (bL (onw (JJ ls vs) (PP ns ls given) t.2.1 t.2.2 x))])
    · rw [← e]
      apply j_tru
      · walk_at "d5ry"
      · rfl
      · rfl
    · cases q : (onw (JJ ls vs) (PP ns ls given) t.2.1 t.2.2 x).isEmpty with
      | true =>
        rw [if_neg (by decide), if_neg (by decide), List.append_nil]
        rfl
      | false =>
        rw [if_pos (by decide), if_pos (by decide)]
        have cat : ∀ ρ : List Slot, ρ[4]? = some (.dat false (sL (wayT t))) → ρ[7]? = some (.dat true (.str x)) → mBin mCatK (mLook 4) (mE (mKeep (mLst (maCons (mDat (mVar 7)) (mp []))))) ρ = .ok (true, (wayT t ++ [x]).map D.str) ρ := fun ρ h4 h7 => by
          apply j_catM (e := D.str) (xs := wayT t) (ys := [x])
          · apply k_look; rw [h4]; rfl
          · apply j_E
            apply j_keep
            apply j_lst1
            · exact j_var h7
            · rfl
            · rfl
          · unfold lookV; rw [h4]
          · rfl
          · exact flat_strs _
          · rfl
          · rfl
          · omega
          · show 1 ≤ 500000; decide
        apply j_drop
        apply j_appM (e := trD) (xs := acc) (x := (wayT t, x, onw (JJ ls vs) (PP ns ls given) t.2.1 t.2.2 x))
        · rfl
        · apply a_consF
          · apply j_tup (ds := [sL (wayT t ++ [x]), bL (onw (JJ ls vs) (PP ns ls given) t.2.1 t.2.2 x)])
            · apply a_consF
              · apply j_keep
                exact cat _ rfl rfl
              · apply a_consF
                · walk_at "d5ry"
                · apply a_nil
                · rfl
                · rfl
              · rfl
              · rfl
            · show 2 ≤ 1000; decide
          · apply a_nil
          · rfl
          · rfl
        · rfl
        · rfl
        · omega
        · rfl
theorem ev_lo2 (C : FwOk ns ls vs) {t : Trl} (hl : t.2.1 ∈ ns) (kl : t.2.2.length ≤ 1000) (wl : (wayT t).length ≤ 1000) : ∀ (xs : List Str) (acc : List Trl) (s7 s8 : Slot), acc.length + xs.length ≤ 1000 → ∃ s s', forD (tgName 7) (B_longer_trails_1 w) (xs.map fun x => (true, D.str x)) [.dat false (sL ns), .dat false (joD ls vs), .dat false (paD w ns ls given), .dat false (trD t), .dat false (sL (wayT t)), .dat false (bL t.2.2), .own true (acc.map trD), s7, s8] =
    .nx [.dat false (sL ns), .dat false (joD ls vs), .dat false (paD w ns ls given), .dat false (trD t), .dat false (sL (wayT t)), .dat false (bL t.2.2), .own true ((acc ++ (xs.filter (lngB (JJ ls vs) (PP ns ls given) t)).map fun x => (wayT t, x, onw (JJ ls vs) (PP ns ls given) t.2.1 t.2.2 x)).map trD), s, s']
  | [], acc, s7, s8, _ => ⟨s7, s8, by simp [forD]⟩
  | x :: xs, acc, s7, s8, h => by
    rw [List.length_cons] at h
    obtain ⟨a, ha⟩ := ev_lo1 (w := w) (given := given) (x := x) (acc := acc) (s8 := s8) C hl kl wl (by omega)
    obtain ⟨b, c, hb⟩ := ev_lo2 C hl kl wl xs (acc ++ if lngB (JJ ls vs) (PP ns ls given) t x = true then [(wayT t, x, onw (JJ ls vs) (PP ns ls given) t.2.1 t.2.2 x)] else []) (.dat true (.str x)) a (by rw [List.length_append]; split <;> simp <;> omega)
    refine ⟨b, c, ?_⟩
    rw [List.map_cons, k_forC (show tgName 7 _ _ = some _ from rfl) ha, hb, List.append_assoc, List.filter_cons]
    cases q : lngB (JJ ls vs) (PP ns ls given) t x with
    | true => rw [if_pos rfl, if_pos rfl, List.map_cons]; rfl
    | false => rw [if_neg (by decide), if_neg (by decide)]; rfl
theorem ev_longer_trails (C : FwOk ns ls vs) {t : Trl} (hl : t.2.1 ∈ ns) (kl : t.2.2.length ≤ 1000) (wl : (wayT t).length ≤ 1000) : D_longer_trails w [sL ns, joD ls vs, paD w ns ls given, trD t] = .ok true (.lst ((lng (JJ ls vs) (PP ns ls given) ns t).map trD)) := by
  have hn := C.hi
  obtain ⟨a, b, h⟩ := ev_lo2 (w := w) (given := given) C hl kl wl ns [] .no .no (by simp; omega)
  unfold D_longer_trails
  apply j_run
  · rfl
  · walk_at "d5ry"
  · apply k_seq (ρ1 := [.dat false (sL ns), .dat false (joD ls vs), .dat false (paD w ns ls given), .dat false (trD t), .dat false (sL (wayT t)), .dat false (bL t.2.2), .no, .no, .no])
    · rfl
    apply k_seq (ρ1 := [.dat false (sL ns), .dat false (joD ls vs), .dat false (paD w ns ls given), .dat false (trD t), .dat false (sL (wayT t)), .dat false (bL t.2.2), .own true (([] : List Trl).map trD), .no, .no])
    · rfl
    apply k_seq
    · apply k_for
      · apply j_it
        · walk_at "d5ry"
        · exact it_strs
      · exact h
    apply j_ret
    rfl
  · rfl
  · rfl
/-! ### find_way -/
theorem ev_fw1 {goal : Str} {d0 d1 d3 jd pd : D} {f0 f1 f3 : Bool} {s6 s9 s10 : Slot} : ∀ (trs : List Trl) (s7 s8 : Slot), (trs.find? (fun t => decide (t.2.1 = goal)) = none → ∃ a b, forD (tgTup 2 (tgsCons (tgName 7) (tgsCons (tgName 8) tgsNil))) (B_find_way_1 w) (trs.map fun t => (true, trD t)) [.dat f0 d0, .dat f1 d1, .dat false (.str goal), .dat f3 d3, .dat true jd, .dat true pd, s6, s7, s8, s9, s10] = .nx [.dat f0 d0, .dat f1 d1, .dat false (.str goal), .dat f3 d3, .dat true jd, .dat true pd, s6, a, b, s9, s10]) ∧
    ∀ t, trs.find? (fun t => decide (t.2.1 = goal)) = some t → ∃ ρ', forD (tgTup 2 (tgsCons (tgName 7) (tgsCons (tgName 8) tgsNil))) (B_find_way_1 w) (trs.map fun t => (true, trD t)) [.dat f0 d0, .dat f1 d1, .dat false (.str goal), .dat f3 d3, .dat true jd, .dat true pd, s6, s7, s8, s9, s10] = .rt true (sL (wayT t)) ρ'
  | [], s7, s8 => ⟨fun _ => ⟨s7, s8, rfl⟩, fun t h => by simp at h⟩
  | t :: trs, s7, s8 => by
    have last : atI ((t.1 ++ [t.2.1]).map D.str) (-1) = some (.str t.2.1) := o_last
    have tg : tgTup 2 (tgsCons (tgName 7) (tgsCons (tgName 8) tgsNil)) (true, trD t) [.dat f0 d0, .dat f1 d1, .dat false (.str goal), .dat f3 d3, .dat true jd, .dat true pd, s6, s7, s8, s9, s10] = some [.dat f0 d0, .dat f1 d1, .dat false (.str goal), .dat f3 d3, .dat true jd, .dat true pd, s6, .dat true (sL (wayT t)), .dat true (bL t.2.2), s9, s10] := rfl
    have b0 : mT (mOp dEq (mE (mBin mIxL (mLook 7) (mE (mUn dNeg (mE (mp (true, D.int 1))))))) (mLook 2)) [.dat f0 d0, .dat f1 d1, .dat false (.str goal), .dat f3 d3, .dat true jd, .dat true pd, s6, .dat true (sL (wayT t)), .dat true (bL t.2.2), s9, s10] = .ok (decide (t.2.1 = goal)) [.dat f0 d0, .dat f1 d1, .dat false (.str goal), .dat f3 d3, .dat true jd, .dat true pd, s6, .dat true (sL (wayT t)), .dat true (bL t.2.2), s9, s10] := by
      apply j_T
      apply j_op
      · apply j_E
        apply j_ixL
        · apply k_look; rfl
        · walk_at "d5ry"
        · rfl
        · rfl
        · exact last
        · rfl
      · walk_at "d5ry"
      · rfl
      · rfl
      · exact o_eqs
    obtain ⟨h1, h2⟩ := ev_fw1 (goal := goal) (d0 := d0) (d1 := d1) (d3 := d3) (jd := jd) (pd := pd) (f0 := f0) (f1 := f1) (f3 := f3) (s6 := s6) (s9 := s9) (s10 := s10) trs (.dat true (sL (wayT t))) (.dat true (bL t.2.2))
    by_cases c : t.2.1 = goal
    · rw [List.find?_cons_of_pos (by exact decide_eq_true c)]
      refine ⟨fun z => (by cases z), fun t' e => ?_⟩
      cases e
      refine ⟨[.dat f0 d0, .dat f1 d1, .dat false (.str goal), .dat f3 d3, .dat true jd, .dat true pd, s6, .dat true (sL (wayT t)), .dat true (bL t.2.2), s9, s10], ?_⟩
      rw [decide_eq_true c] at b0
      rw [List.map_cons, forD, tg]
      dsimp only
      have : B_find_way_1 w [.dat f0 d0, .dat f1 d1, .dat false (.str goal), .dat f3 d3, .dat true jd, .dat true pd, s6, .dat true (sL (wayT t)), .dat true (bL t.2.2), s9, s10] = .rt true (sL (wayT t)) [.dat f0 d0, .dat f1 d1, .dat false (.str goal), .dat f3 d3, .dat true jd, .dat true pd, s6, .dat true (sL (wayT t)), .dat true (bL t.2.2), s9, s10] := by
        unfold B_find_way_1
        apply k_if b0
        rw [if_pos rfl]
        walk_at "d5ry"
      rw [this]
    · rw [List.find?_cons_of_neg (by rw [decide_eq_false c]; decide)]
      rw [decide_eq_false c] at b0
      have e : B_find_way_1 w [.dat f0 d0, .dat f1 d1, .dat false (.str goal), .dat f3 d3, .dat true jd, .dat true pd, s6, .dat true (sL (wayT t)), .dat true (bL t.2.2), s9, s10] = .nx [.dat f0 d0, .dat f1 d1, .dat false (.str goal), .dat f3 d3, .dat true jd, .dat true pd, s6, .dat true (sL (wayT t)), .dat true (bL t.2.2), s9, s10] := by
        unfold B_find_way_1
        apply k_if b0
        rw [if_neg (by decide)]
        rfl
      rw [List.map_cons, k_forC tg e]
      exact ⟨h1, h2⟩
theorem lng_len {tr : Trl} : (lng (JJ ls vs) (PP ns ls given) ns tr).length ≤ ns.length := by
  unfold lng
  rw [List.length_map]
  exact List.length_filter_le _ _
theorem sum_lng {trs : List Trl} : (trs.map fun a => (lng (JJ ls vs) (PP ns ls given) ns a).length).sum ≤ trs.length * ns.length := by
  induction trs with
  | nil => simp
  | cons t trs ih =>
    rw [List.map_cons, List.sum_cons, List.length_cons, Nat.succ_mul]
    have := lng_len (ns := ns) (ls := ls) (vs := vs) (given := given) (tr := t)
    omega
theorem ev_fw2 (C : FwOk ns ls vs) {d1 d2 d3 : D} {f1 f2 f3 : Bool} {trs : List Trl} {s7 s8 : Slot} (h1 : ∀ t ∈ trs, t.2.1 ∈ ns ∧ t.2.2.length ≤ 1000 ∧ (wayT t).length ≤ 1000) (h2 : trs.length * ns.length ≤ 100000) : mComp2 [9, 10] (mIt itList (mVar 6)) (tgName 9) (mp true) [10] (mIt itList (mCall (D_longer_trails w) (maCons (mDat (mProp "Diagram" D_Diagram_names (mVar 0))) (maCons (mDat (mVar 4)) (maCons (mDat (mVar 5)) (maCons (mDat (mVar 9)) (mp []))))))) (tgName 10) (mp true) (mVar 10)
      [.dat false (diag ns ls vs), .dat f1 d1, .dat f2 d2, .dat f3 d3, .dat true (joD ls vs), .dat true (paD w ns ls given), .dat true (.lst (trs.map trD)), s7, s8, .no, .no] =
    .ok (true, (trs.flatMap (lng (JJ ls vs) (PP ns ls given) ns)).map trD) [.dat false (diag ns ls vs), .dat f1 d1, .dat f2 d2, .dat f3 d3, .dat true (joD ls vs), .dat true (paD w ns ls given), .dat true (.lst (trs.map trD)), s7, s8, .no, .no] := by
  have e0 := ev_names (ns := ns) (ls := ls) (vs := vs)
  have el : ∀ t ∈ trs, D_longer_trails w [sL ns, joD ls vs, paD w ns ls given, trD t] = .ok true (.lst ((lng (JJ ls vs) (PP ns ls given) ns t).map trD)) := fun t ht => ev_longer_trails C (h1 t ht).1 (h1 t ht).2.1 (h1 t ht).2.2
  apply Eq.trans
  · apply j_comp2 (xs := trs) (e := fun t => (true, trD t)) (p := fun _ => true) (ys := fun t => lng (JJ ls vs) (PP ns ls given) ns t) (e1 := fun _ u => (true, trD u)) (p1 := fun _ _ => true) (g := fun _ u => trD u)
    · walk_at "d5ry"
    · walk_at "d5ry"
    · intro t ht
      walk_at "d5ry"
    · intro t ht
      rfl
    · intro t ht
      have e := el t ht
      apply j_it
      · walk_at "d5ry"
      · exact it_T
    · intro t ht
      walk_at "d5ry"
    · intro t ht u hu
      walk_at "d5ry"
    · intro t ht u hu
      rfl
    · intro t ht u hu
      walk_at "d5ry"
    · intro t ht u hu
      walk_at "d5ry"
    · intro t ht
      walk_at "d5ry"
    · intro t ht
      walk_at "d5ry"
    · walk_at "d5ry"
    · have := sum_lng (ns := ns) (ls := ls) (vs := vs) (given := given) (trs := trs)
      omega
  · rw [List.filter_eq_self.mpr fun _ _ => rfl]
    have : (trs.flatMap fun a => ((lng (JJ ls vs) (PP ns ls given) ns a).filter fun _ => true).map trD) = (trs.flatMap (lng (JJ ls vs) (PP ns ls given) ns)).map trD := by
      rw [List.map_flatMap]
      refine fm_congr fun t _ => ?_
      rw [List.filter_eq_self.mpr fun _ _ => rfl]
    rw [this]
theorem pow_le {a b m n : Nat} (h1 : a ≤ b) (h2 : m ≤ n) (hb : 0 < b) : a ^ m ≤ b ^ n := Nat.le_trans (Nat.pow_le_pow_left h1 m) (Nat.pow_le_pow_right hb h2)
theorem ev_fw3 (C : FwOk ns ls vs) {start goal : Str} {d1 d3 : D} {f1 f3 : Bool} (hs : start ∈ ns) : ∀ (f n : Nat) (trs : List Trl) (s7 s8 : Slot) (N : Nat), Lvl (JJ ls vs) (PP ns ls given) ns goal start n trs → (∀ t ∈ trs, t.2.2.length ≤ 1000) → trs.length ≤ ns.length ^ n → ns.length < n + f → f < N →
    (fwy (JJ ls vs) (PP ns ls given) ns goal f trs = none → ∃ ρ', whileD (mTru (mLook 6)) (B_find_way_2 w) N [.dat false (diag ns ls vs), .dat f1 d1, .dat false (.str goal), .dat f3 d3, .dat true (joD ls vs), .dat true (paD w ns ls given), .dat true (.lst (trs.map trD)), s7, s8, .no, .no] = .nx ρ') ∧
    ∀ way, fwy (JJ ls vs) (PP ns ls given) ns goal f trs = some way → ∃ ρ', whileD (mTru (mLook 6)) (B_find_way_2 w) N [.dat false (diag ns ls vs), .dat f1 d1, .dat false (.str goal), .dat f3 d3, .dat true (joD ls vs), .dat true (paD w ns ls given), .dat true (.lst (trs.map trD)), s7, s8, .no, .no] = .rt true (sL way) ρ' := by
  have test : ∀ (trs : List Trl) (s7 s8 : Slot), mTru (mLook 6) [.dat false (diag ns ls vs), .dat f1 d1, .dat false (.str goal), .dat f3 d3, .dat true (joD ls vs), .dat true (paD w ns ls given), .dat true (.lst (trs.map trD)), s7, s8, .no, .no] = .ok (!(trs.map trD).isEmpty) [.dat false (diag ns ls vs), .dat f1 d1, .dat false (.str goal), .dat f3 d3, .dat true (joD ls vs), .dat true (paD w ns ls given), .dat true (.lst (trs.map trD)), s7, s8, .no, .no] := fun trs s7 s8 => by
    apply j_tru
    · walk_at "d5ry"
    · rfl
    · rfl
  have inN : ∀ {n : Nat} {trs : List Trl} (L : Lvl (JJ ls vs) (PP ns ls given) ns goal start n trs), ∀ t ∈ trs, t.2.1 ∈ ns ∧ n + 1 ≤ ns.length := fun L t ht => by
    obtain ⟨k, ks, hk⟩ := List.exists_cons_of_ne_nil (L.pos t ht)
    obtain ⟨js, hj⟩ := (L.mks t ht k).mp (by rw [hk]; exact List.mem_cons_self)
    have nd := hj.nd hs
    refine ⟨nd.2.1 _ (by simp), ?_⟩
    have := nodup_len nd.1 nd.2.1
    rw [List.length_append, List.length_singleton, L.len t ht] at this
    exact this
  intro f
  induction f with
  | zero =>
    intro n trs s7 s8 N L _ _ hf hN
    have e : trs = [] := by
      cases trs with
      | nil => rfl
      | cons t trs => exact absurd (inN L t List.mem_cons_self).2 (by omega)
    subst e
    obtain ⟨N, rfl⟩ : ∃ M, N = M + 1 := ⟨N - 1, by omega⟩
    refine ⟨fun _ => ⟨[.dat false (diag ns ls vs), .dat f1 d1, .dat false (.str goal), .dat f3 d3, .dat true (joD ls vs), .dat true (paD w ns ls given), .dat true (.lst (([] : List Trl).map trD)), s7, s8, .no, .no], ?_⟩, fun way h => by cases h⟩
    rw [whileD, test]
    rfl
  | succ f ih =>
    intro n trs s7 s8 N L hk hp hf hN
    obtain ⟨N, rfl⟩ : ∃ M, N = M + 1 := ⟨N - 1, by omega⟩
    by_cases e : trs = []
    · subst e
      refine ⟨fun _ => ⟨[.dat false (diag ns ls vs), .dat f1 d1, .dat false (.str goal), .dat f3 d3, .dat true (joD ls vs), .dat true (paD w ns ls given), .dat true (.lst (([] : List Trl).map trD)), s7, s8, .no, .no], ?_⟩, fun way h => by cases h⟩
      rw [whileD, test]
      rfl
    · have eb : (!(trs.map trD).isEmpty) = true := by cases trs with
        | nil => exact absurd rfl e
        | cons t trs => rfl
      have hn1 : n + 1 ≤ ns.length := by
        cases trs with
        | nil => exact absurd rfl e
        | cons t trs => exact (inN L t List.mem_cons_self).2
      have hi := C.hi
      have hlo := C.lo
      have hlen : trs.length * ns.length ≤ 100000 := by
        have h1 : trs.length * ns.length ≤ ns.length ^ (n + 1) := by rw [Nat.pow_succ]; exact Nat.mul_le_mul_right _ hp
        exact Nat.le_trans h1 (Nat.le_trans (pow_le hi (show n + 1 ≤ 6 by omega) (by decide)) (by decide))
      obtain ⟨l1, l2⟩ := ev_fw1 (w := w) (goal := goal) (d0 := diag ns ls vs) (d1 := d1) (d3 := d3) (jd := joD ls vs) (pd := paD w ns ls given) (f0 := false) (f1 := f1) (f3 := f3) (s6 := .dat true (.lst (trs.map trD))) (s9 := .no) (s10 := .no) trs s7 s8
      have itr : mIt itList (mVar 6) [.dat false (diag ns ls vs), .dat f1 d1, .dat false (.str goal), .dat f3 d3, .dat true (joD ls vs), .dat true (paD w ns ls given), .dat true (.lst (trs.map trD)), s7, s8, .no, .no] = .ok (trs.map fun t => (true, trD t)) [.dat false (diag ns ls vs), .dat f1 d1, .dat false (.str goal), .dat f3 d3, .dat true (joD ls vs), .dat true (paD w ns ls given), .dat true (.lst (trs.map trD)), s7, s8, .no, .no] := by
        apply j_it
        · walk_at "d5ry"
        · exact it_T
      unfold fwy
      rw [if_neg e, whileD, test, eb]
      dsimp only
      cases q : trs.find? (fun t => decide (t.2.1 = goal)) with
      | some t =>
        obtain ⟨ρ', hr⟩ := l2 t q
        refine ⟨fun h => (by cases h), fun way h => ⟨ρ', ?_⟩⟩
        cases h
        have : B_find_way_2 w [.dat false (diag ns ls vs), .dat f1 d1, .dat false (.str goal), .dat f3 d3, .dat true (joD ls vs), .dat true (paD w ns ls given), .dat true (.lst (trs.map trD)), s7, s8, .no, .no] = .rt true (sL (wayT t)) ρ' := by
          unfold B_find_way_2
          apply j_seq
          · apply k_for
            · exact itr
            · exact hr
          · rfl
        rw [this]
      | none =>
        obtain ⟨a, b, hr⟩ := l1 q
        have hg : ∀ t ∈ trs, t.2.1 ≠ goal := fun t ht z => by
          have := List.find?_eq_none.mp q t ht
          rw [decide_eq_true z] at this
          exact this rfl
        have hw : ∀ t ∈ trs, t.2.1 ∈ ns ∧ t.2.2.length ≤ 1000 ∧ (wayT t).length ≤ 1000 := fun t ht => ⟨(inN L t ht).1, hk t ht, by
          unfold wayT
          rw [List.length_append, List.length_singleton, L.len t ht]
          omega⟩
        have e2 := ev_fw2 (w := w) (given := given) (d1 := d1) (d2 := .str goal) (d3 := d3) (f1 := f1) (f2 := false) (f3 := f3) (s7 := a) (s8 := b) C hw hlen
        have : B_find_way_2 w [.dat false (diag ns ls vs), .dat f1 d1, .dat false (.str goal), .dat f3 d3, .dat true (joD ls vs), .dat true (paD w ns ls given), .dat true (.lst (trs.map trD)), s7, s8, .no, .no] = .nx [.dat false (diag ns ls vs), .dat f1 d1, .dat false (.str goal), .dat f3 d3, .dat true (joD ls vs), .dat true (paD w ns ls given), .dat true (.lst ((trs.flatMap (lng (JJ ls vs) (PP ns ls given) ns)).map trD)), a, b, .no, .no] := by
          unfold B_find_way_2
          apply k_seq
          · apply k_for
            · exact itr
            · exact hr
          · apply j_set
            · apply j_keep
              exact e2
            · rfl
            · rfl
        rw [this]
        dsimp only
        refine ih (n + 1) _ a b N (L.step hg) (fun t ht => ?_) ?_ (by omega) (by omega)
        · obtain ⟨tr, _, h2⟩ := List.mem_flatMap.mp ht
          rw [(mem_lng.mp h2).2.2.2.1]
          exact Nat.le_trans onw_len (by decide)
        · rw [List.length_flatMap]
          have := sum_lng (ns := ns) (ls := ls) (vs := vs) (given := given) (trs := trs)
          refine Nat.le_trans this ?_
          rw [Nat.pow_succ]
          exact Nat.mul_le_mul_right _ hp
/-- the first open way from one thing to another -/
noncomputable def fway (ns : List Str) (ls vs : List Pr) (given : List Str) (one other : Str) : Option (List Str) := fwy (JJ ls vs) (PP ns ls given) ns other (ns.length + 1) [([], one, [false])]
def owD : Option (List Str) → D
  | none => .non
  | some way => sL way
theorem ev_find_way (C : FwOk ns ls vs) {one other : Str} (h1 : one ∈ ns) (hg : ∀ g ∈ given, g ∈ ns) (gl : given.length ≤ 1000) : D_find_way w [diag ns ls vs, .str one, .str other, sL given] = .ok true (owD (fway ns ls vs given one other)) := by
  have hi := C.hi
  have ej := ev_joins_of (ns := ns) (ls := ls) (vs := vs) (Nat.le_trans C.l (by decide)) (Nat.le_trans C.v (by decide))
  have ep := ev_passes_of (w := w) (vs := vs) (given := given) C.nd (by omega) (Nat.le_trans C.l (by decide)) hg gl
  obtain ⟨k1, k2⟩ := ev_fw3 (w := w) (given := given) (start := one) (goal := other) (d1 := .str one) (d3 := sL given) (f1 := false) (f3 := false) C h1 (ns.length + 1) 0 [([], one, [false])] .no .no 100000 lvl_start (fun t ht => by rw [List.mem_singleton] at ht; subst ht; simp) (by simp) (by omega) (by omega)
  have pre : ∀ r : SRes, whileD (mTru (mLook 6)) (B_find_way_2 w) 100000 [.dat false (diag ns ls vs), .dat false (.str one), .dat false (.str other), .dat false (sL given), .dat true (joD ls vs), .dat true (paD w ns ls given), .dat true (.lst ([(([], one, [false]) : Trl)].map trD)), .no, .no, .no, .no] = r → (sSeq (sSet 4 (mCall D_joins_of (maCons (mDat (mVar 0)) (mp []))))
 (sSeq (sSet 5 (mCallX (D_passes_of w) (maCons (mDat (mVar 0)) (maCons (mDat (mVar 3)) (mp [])))))
 (sSeq (sSet 6 (mKeep (mLst (maCons (mDat (mTup (maCons (mDat (mKeep (mLst (maCons (mDat (mVar 1)) (mp []))))) (maCons (mDat (mKeep (mLst (maCons (mDat (mp (true, D.bl false))) (mp []))))) (mp []))))) (mp [])))))
 (sSeq (sWhile 100000 (mTru (mLook 6))
 (B_find_way_2 w))
 (sRet (mp (true, D.non))))))) [.dat false (diag ns ls vs), .dat false (.str one), .dat false (.str other), .dat false (sL given), .no, .no, .no, .no, .no, .no, .no] = seqK r (sRet (mp (true, D.non))) := fun r hr => by
    apply k_seq (ρ1 := [.dat false (diag ns ls vs), .dat false (.str one), .dat false (.str other), .dat false (sL given), .dat true (joD ls vs), .no, .no, .no, .no, .no, .no])
    · walk_at "d5ry"
    apply k_seq (ρ1 := [.dat false (diag ns ls vs), .dat false (.str one), .dat false (.str other), .dat false (sL given), .dat true (joD ls vs), .dat true (paD w ns ls given), .no, .no, .no, .no, .no])
    · walk_at "d5ry"
    apply k_seq (ρ1 := [.dat false (diag ns ls vs), .dat false (.str one), .dat false (.str other), .dat false (sL given), .dat true (joD ls vs), .dat true (paD w ns ls given), .dat true (.lst ([(([], one, [false]) : Trl)].map trD)), .no, .no, .no, .no])
    · walk_at "d5ry"
    exact j_seq hr rfl
  unfold fway
  cases q : fwy (JJ ls vs) (PP ns ls given) ns other (ns.length + 1) [([], one, [false])] with
  | none =>
    obtain ⟨ρ', hr⟩ := k1 q
    unfold D_find_way
    apply j_run
    · rfl
    · walk_at "d5ry"
    · exact (pre _ hr).trans rfl
    · rfl
    · rfl
  | some way =>
    obtain ⟨ρ', hr⟩ := k2 way q
    unfold D_find_way
    apply j_run
    · rfl
    · walk_at "d5ry"
    · exact (pre _ hr).trans rfl
    · rfl
    · rfl
end
end F92
section F93
open PySem PySem.Spec PyProof.Rows L2 He Ds
/-! barred, open_way, and the law's own ways, evaluated. -/
section
variable {ns : List Str} {ls vs : List Pr} {w : World}
theorem all_bl {α : Type} {p : α → Bool} (xs : List α) : dAllB (.lst (xs.map fun x => .bl (p x))) = some (.bl (xs.all p)) := by
  unfold dAllB
  dsimp only
  rw [toBls_map]
  show some (D.bl ((xs.map p).all id)) = _
  rw [List.all_map]
  rfl
/-- lists that barred may be asked about -/
structure BarOk (ns ones others given : List Str) : Prop where
  o : ∀ x ∈ ones, x ∈ ns
  on : ones.Nodup
  t : ∀ x ∈ others, x ∈ ns
  tn : others.Nodup
  g : ∀ x ∈ given, x ∈ ns
  gn : given.Nodup
  d : ∀ x ∈ others, x ∉ ones
  e : ∀ x ∈ given, x ∉ ones ++ others
noncomputable def brd (ns : List Str) (ls vs : List Pr) (ones others given : List Str) : Bool := ones.all fun a => others.all fun b => (fway ns ls vs given a b).isNone
theorem isNon_ow {o : Option (List Str)} : isNon (owD o) = o.isNone := by cases o <;> rfl
theorem all_flat {α β : Type} {p : α → β → Bool} {xs : List α} {ys : List β} : ((xs.flatMap fun a => ys.map fun b => (a, b)).all fun q => p q.1 q.2) = xs.all fun a => ys.all fun b => p a b := by
  induction xs with
  | nil => rfl
  | cons x xs ih => rw [List.flatMap_cons, List.all_append, ih, List.all_cons, List.all_map]; rfl
theorem ev_barredF (C : FwOk ns ls vs) {ones others given : List Str} (B : BarOk ns ones others given) : D_barred w [diag ns ls vs, sL ones, sL others, sL given] = .ok true (.bl (brd ns ls vs ones others given)) := by
  have c1 := (ev_check_names (ns := ns) (ls := ls) (vs := vs) (xs := ones)).1 (noBad_names B.o B.on)
  have c2 := (ev_check_names (ns := ns) (ls := ls) (vs := vs) (xs := others)).1 (noBad_names B.t B.tn)
  have c3 := (ev_check_names (ns := ns) (ls := ls) (vs := vs) (xs := given)).1 (noBad_names B.g B.gn)
  have a1 := (ev_check_apart (xs := others) (ys := ones)).1 fun i x e => B.d x (List.mem_of_getElem? e)
  have a2 := (ev_check_apart (xs := given) (ys := ones ++ others)).1 fun i x e => B.e x (List.mem_of_getElem? e)
  have hi := C.hi
  have l1 := nodup_len B.on B.o
  have l2 := nodup_len B.tn B.t
  have l3 := nodup_len B.gn B.g
  have ef : ∀ a ∈ ones, ∀ b : Str, D_find_way w [diag ns ls vs, .str a, .str b, sL given] = .ok true (owD (fway ns ls vs given a b)) := fun a ha b => ev_find_way C (B.o a ha) B.g (by omega)
  have it3 : mIt itTup (mTup (maCons (mDat (mVar 1)) (maCons (mDat (mVar 2)) (maCons (mDat (mVar 3)) (mp []))))) [.dat false (diag ns ls vs), .dat false (sL ones), .dat false (sL others), .dat false (sL given), .no, .no, .no, .no, .no] = .ok [(false, sL ones), (false, sL others), (false, sL given)] [.dat false (diag ns ls vs), .dat false (sL ones), .dat false (sL others), .dat false (sL given), .no, .no, .no, .no, .no] := by
    apply j_it
    · apply j_tup (ds := [sL ones, sL others, sL given]) (g := false)
      · walk_at "d5ry"
      · show 3 ≤ 1000; decide
    · rfl
  have b1 : ∀ (xs : List Str), D_check_names [diag ns ls vs, sL xs] = .ok true .non → B_barred_1 w [.dat false (diag ns ls vs), .dat false (sL ones), .dat false (sL others), .dat false (sL given), .dat false (sL xs), .no, .no, .no, .no] = .nx [.dat false (diag ns ls vs), .dat false (sL ones), .dat false (sL others), .dat false (sL given), .dat false (sL xs), .no, .no, .no, .no] := fun xs e => by
    unfold B_barred_1
    walk_at "d5ry"
  have comp : mComp2 [6, 7] (mIt itList (mVar 1)) (tgName 6) (mp true) [7] (mIt itList (mVar 2)) (tgName 7) (mp true) (mCall (D_find_way w) (maCons (mDat (mVar 0)) (maCons (mDat (mVar 6)) (maCons (mDat (mVar 7)) (maCons (mDat (mVar 3)) (mp [])))))) [.dat false (diag ns ls vs), .dat false (sL ones), .dat false (sL others), .dat false (sL given), .dat false (sL given), .no, .no, .no, .no] =
      .ok (true, (ones.flatMap fun a => others.map fun b => (a, b)).map fun q => owD (fway ns ls vs given q.1 q.2)) [.dat false (diag ns ls vs), .dat false (sL ones), .dat false (sL others), .dat false (sL given), .dat false (sL given), .no, .no, .no, .no] := by
    apply Eq.trans
    · apply j_comp2 (xs := ones) (e := fun a => (true, D.str a)) (p := fun _ => true) (ys := fun _ => others) (e1 := fun _ b => (true, D.str b)) (p1 := fun _ _ => true) (g := fun a b => owD (fway ns ls vs given a b))
      · walk_at "d5ry"
      · walk_at "d5ry"
      · intro a ha
        walk_at "d5ry"
      · intro a ha
        rfl
      · intro a ha
        walk_at "d5ry"
      · intro a ha
        walk_at "d5ry"
      · intro a ha b hb
        walk_at "d5ry"
      · intro a ha b hb
        rfl
      · intro a ha b hb
        have e := ef a ha b
        walk_at "d5ry"
      · intro a ha b hb
        walk_at "d5ry"
      · intro a ha
        walk_at "d5ry"
      · intro a ha
        walk_at "d5ry"
      · walk_at "d5ry"
      · have : (ones.map fun _ => others.length).sum ≤ 6 * 6 := by
          have gen : ∀ xs : List Str, (xs.map fun _ => others.length).sum = xs.length * others.length := by
            intro xs
            induction xs with
            | nil => simp
            | cons x xs ih => rw [List.map_cons, List.sum_cons, ih, List.length_cons, Nat.succ_mul]; omega
          rw [gen]
          exact Nat.mul_le_mul (by omega) (by omega)
        omega
    · have f1 : ∀ l : List Str, l.filter (fun _ => true) = l := fun l => List.filter_eq_self.mpr fun _ _ => rfl
      rw [f1, f1, List.map_flatMap]
      have : (ones.flatMap fun a => others.map fun b => owD (fway ns ls vs given a b)) = ones.flatMap fun a => (others.map fun b => (a, b)).map fun q => owD (fway ns ls vs given q.1 q.2) := fm_congr fun a _ => by
        rw [List.map_map]
        rfl
      rw [this]
  have hl : (ones.flatMap fun a => others.map fun b => (a, b)).length ≤ 100000 := by
    have : ∀ xs : List Str, (xs.flatMap fun a => others.map fun b => (a, b)).length = xs.length * others.length := by
      intro xs
      induction xs with
      | nil => simp
      | cons x xs ih => rw [List.flatMap_cons, List.length_append, List.length_map, ih, List.length_cons, Nat.succ_mul]; omega
    rw [this]
    exact Nat.le_trans (Nat.mul_le_mul (show ones.length ≤ 6 by omega) (show others.length ≤ 6 by omega)) (by decide)
  unfold D_barred
  apply j_run
  · rfl
  · walk_at "d5ry"
  · apply k_seq (ρ1 := [.dat false (diag ns ls vs), .dat false (sL ones), .dat false (sL others), .dat false (sL given), .dat false (sL given), .no, .no, .no, .no])
    · apply k_for it3
      rw [k_forC (show tgName 4 _ _ = some _ from rfl) (b1 ones c1), k_forC (show tgName 4 _ _ = some _ from rfl) (b1 others c2), k_forC (show tgName 4 _ _ = some _ from rfl) (b1 given c3)]
      rfl
    apply k_seq (ρ1 := [.dat false (diag ns ls vs), .dat false (sL ones), .dat false (sL others), .dat false (sL given), .dat false (sL given), .no, .no, .no, .no])
    · walk_at "d5ry"
    apply k_seq (ρ1 := [.dat false (diag ns ls vs), .dat false (sL ones), .dat false (sL others), .dat false (sL given), .dat false (sL given), .no, .no, .no, .no])
    · apply j_drop
      apply j_callX (ds := [sL given, sL (ones ++ others)])
      · walk_at "d5ry"
      · exact a2
    apply k_seq (ρ1 := [.dat false (diag ns ls vs), .dat false (sL ones), .dat false (sL others), .dat false (sL given), .dat false (sL given), .dat true (.lst ((ones.flatMap fun a => others.map fun b => (a, b)).map fun q => owD (fway ns ls vs given q.1 q.2))), .no, .no, .no])
    · walk_at "d5ry"
    apply j_ret
    apply j_un (d1 := .lst ((ones.flatMap fun a => others.map fun b => (a, b)).map fun q => .bl (isNon (owD (fway ns ls vs given q.1 q.2)))))
    · apply j_E
      apply j_keep
      apply j_compA (xs := ones.flatMap fun a => others.map fun b => (a, b)) (e := fun q => (true, owD (fway ns ls vs given q.1 q.2))) (g := fun q => .bl (isNon (owD (fway ns ls vs given q.1 q.2))))
      · apply j_it
        · walk_at "d5ry"
        · exact it_T
      · exact hl
      · walk_at "d5ry"
      · intro q hq
        walk_at "d5ry"
      · intro q hq
        walk_at "d5ry"
      · intro q hq
        walk_at "d5ry"
      · walk_at "d5ry"
    · rfl
    · exact all_bl _
  · rfl
  · unfold brd
    rw [← all_flat]
    congr 2
    funext q
    exact isNon_ow
theorem ev_barred (C : ChartOk 6 ns ls vs) {ones others given : List Str} (B : BarOk ns ones others given) : D_barred w [diag ns ls vs, sL ones, sL others, sL given] = .ok true (.bl (brd ns ls vs ones others given)) := ev_barredF C.fwk B
end
end F93
section F94
open PySem PySem.Spec PyProof.Rows L2 He Ds
/-! The law's own ways, evaluated. -/
section
variable {ns : List Str} {ls vs : List Pr} {w : World}
/-! ### whether a way is open -/
end
end F94
section F95
/-! Ways, place by place; the other way about. -/
open PySem PySem.Spec PyProof.Rows L2 He Ds
section
variable {J : Str → Str → List Mk} {P : Str → Bool → Bool} {ns : List Str} {goal start : Str}
structure Pth (J : Str → Str → List Mk) (ns : List Str) (way : List Str) (js : List Mk) : Prop where
  nd : way.Nodup
  sb : ∀ x ∈ way, x ∈ ns
  len : way.length = js.length + 1
  lk : ∀ (i : Nat) (x y : Str) (m : Mk), way[i]? = some x → way[i + 1]? = some y → js[i]? = some m → m ∈ J x y
theorem Wy.head {pre : List Str} {l : Str} {js : List Mk} (h : Wy J ns goal start pre l js) : (pre ++ [l])[0]? = some start := by
  induction h with
  | one => rfl
  | @snoc pre l t js m h1 h2 h3 h4 h5 ih => rw [List.getElem?_append_left (by simp)]; exact ih
theorem Wy.pth (hs : start ∈ ns) {pre : List Str} {l : Str} {js : List Mk} (h : Wy J ns goal start pre l js) : Pth J ns (pre ++ [l]) js := by
  refine ⟨(h.nd hs).1, (h.nd hs).2, by rw [List.length_append, List.length_singleton, h.len], ?_⟩
  induction h with
  | one => intro i x y m h1 h2 h3; simp at h3
  | @snoc pre l t js m w h2 h3 h4 h5 ih =>
    intro i x y m' e1 e2 e3
    have hl := w.len
    by_cases c : i < js.length
    · rw [List.getElem?_append_left c] at e3
      rw [List.getElem?_append_left (by simp; omega)] at e1 e2
      exact ih i x y m' e1 e2 e3
    · have hi : i = js.length := by
        obtain ⟨h, _⟩ := List.getElem?_eq_some_iff.mp e3
        rw [List.length_append, List.length_singleton] at h
        omega
      subst hi
      rw [List.getElem?_append_right (Nat.le_refl _), Nat.sub_self] at e3
      cases e3
      rw [List.getElem?_append_left (by simp; omega), hl, List.getElem?_append_right (Nat.le_refl _), Nat.sub_self] at e1
      cases e1
      rw [hl, List.getElem?_append_right (by simp)] at e2
      simp at e2
      subst e2
      exact h5
theorem wy_of_pth : ∀ {js : List Mk} {way : List Str} {pre : List Str} {l : Str}, Pth J ns way js → way = pre ++ [l] → way[0]? = some start → goal ∉ pre → Wy J ns goal start pre l js := by
  intro js
  induction h : js.length generalizing js with
  | zero =>
    intro way pre l p e h0 hg
    have : js = [] := List.length_eq_zero_iff.mp h
    subst this
    have hl := p.len
    subst e
    rw [List.length_append, List.length_singleton] at hl
    have : pre = [] := List.length_eq_zero_iff.mp (by simpa using hl)
    subst this
    cases h0
    exact .one
  | succ n ih =>
    intro way pre l p e h0 hg
    obtain ⟨js, m, rfl⟩ : ∃ a b, js = a ++ [b] := ⟨js.dropLast, js.getLast (fun z => by rw [z] at h; simp at h), (List.dropLast_concat_getLast _).symm⟩
    rw [List.length_append, List.length_singleton] at h
    have hl := p.len
    subst e
    rw [List.length_append, List.length_append, List.length_singleton] at hl
    obtain ⟨pre, l', rfl⟩ : ∃ a b, pre = a ++ [b] := ⟨pre.dropLast, pre.getLast (fun z => by rw [z] at hl; simp at hl), (List.dropLast_concat_getLast _).symm⟩
    rw [List.length_append, List.length_singleton] at hl
    have nd := List.nodup_append.mp p.nd
    have p' : Pth J ns (pre ++ [l']) js := by
      refine ⟨nd.1, fun x hx => p.sb x (List.mem_append_left _ hx), by rw [List.length_append, List.length_singleton]; simp at hl; omega, fun i x y m' e1 e2 e3 => ?_⟩
      obtain ⟨q, _⟩ := List.getElem?_eq_some_iff.mp e2
      exact p.lk i x y m' (by rw [List.getElem?_append_left (by omega)]; exact e1) (by rw [List.getElem?_append_left q]; exact e2) (by rw [List.getElem?_append_left (List.getElem?_eq_some_iff.mp e3).1]; exact e3)
    have w := ih (js := js) (by omega) p' rfl (by rw [List.getElem?_append_left (by simp)] at h0; exact h0) fun z => hg (List.mem_append_left _ z)
    refine .snoc w (fun z => hg (by rw [z]; simp)) (p.sb l (by simp)) (fun z => nd.2.2 l z l (by simp) rfl) ?_
    have hj : js.length = pre.length := w.len
    refine p.lk pre.length l' l m ?_ ?_ ?_
    · rw [List.append_assoc, List.getElem?_append_right (Nat.le_refl _), Nat.sub_self]; rfl
    · rw [List.getElem?_append_right (by simp)]; simp
    · rw [← hj, List.getElem?_append_right (Nat.le_refl _), Nat.sub_self]; rfl
/-- an open way between two things, place by place -/
def OpenP (J : Str → Str → List Mk) (P : Str → Bool → Bool) (ns : List Str) (start goal : Str) : Prop := ∃ way js, Pth J ns way js ∧ way[0]? = some start ∧ way[js.length]? = some goal ∧ ∀ i x m k, 0 < i → way[i]? = some x → js[i - 1]? = some m → js[i]? = some k → P x (m.2 && k.1) = true
theorem opn_all {way : List Str} {js : List Mk} (hl : way.length = js.length + 1) : opn P way js = true ↔ ∀ i x m k, 0 < i → way[i]? = some x → js[i - 1]? = some m → js[i]? = some k → P x (m.2 && k.1) = true := by
  unfold opn
  rw [List.all_eq_true]
  constructor
  · intro h i x m k hi e1 e2 e3
    obtain ⟨q, _⟩ := List.getElem?_eq_some_iff.mp e3
    have := h i (by rw [List.mem_range'_1]; omega)
    unfold atW at this
    rw [List.getD_eq_getElem?_getD, List.getD_eq_getElem?_getD, List.getD_eq_getElem?_getD, e1, e2, e3] at this
    exact this
  · intro h i hi
    rw [List.mem_range'_1] at hi
    have l1 : i < way.length := by omega
    have l2 : i < js.length := by omega
    have l3 : i - 1 < js.length := by omega
    have := h i way[i] js[i - 1] js[i] (by omega) (List.getElem?_eq_getElem l1) (List.getElem?_eq_getElem l3) (List.getElem?_eq_getElem l2)
    unfold atW
    rw [List.getD_eq_getElem?_getD, List.getD_eq_getElem?_getD, List.getD_eq_getElem?_getD, List.getElem?_eq_getElem l1, List.getElem?_eq_getElem l2, List.getElem?_eq_getElem l3]
    exact this
theorem open_iff (hs : start ∈ ns) : (∃ pre js, Wy J ns goal start pre goal js ∧ opn P (pre ++ [goal]) js = true) ↔ OpenP J P ns start goal := by
  constructor
  · rintro ⟨pre, js, w, h⟩
    have p := w.pth hs
    exact ⟨_, _, p, w.head, by rw [w.len, List.getElem?_append_right (Nat.le_refl _), Nat.sub_self]; rfl, (opn_all p.len).mp h⟩
  · rintro ⟨way, js, p, h0, h1, h⟩
    have hl := p.len
    have ne : way ≠ [] := fun z => by rw [z] at hl; simp at hl
    have e : way = way.dropLast ++ [goal] := by
      have e1 := (List.dropLast_concat_getLast ne).symm
      have : way.getLast ne = goal := by
        rw [List.getLast_eq_getElem]
        have : way[js.length]? = some way[way.length - 1] := by rw [← List.getElem?_eq_getElem]; congr 1; omega
        rw [this] at h1
        exact Option.some.inj h1
      rw [this] at e1
      exact e1
    have hg : goal ∉ way.dropLast := fun z => by
      have nd := p.nd
      rw [e] at nd
      exact (List.nodup_append.mp nd).2.2 goal z goal (by simp) rfl
    exact ⟨way.dropLast, js, wy_of_pth p e h0 hg, by rw [← e]; exact (opn_all hl).mpr h⟩
/-- .. the other way about -/
theorem OpenP.rev (hJ : ∀ x y m, m ∈ J x y → (m.2, m.1) ∈ J y x) (h : OpenP J P ns start goal) : OpenP J P ns goal start := by
  obtain ⟨way, js, p, h0, h1, ho⟩ := h
  have hl := p.len
  have gw : ∀ i, i < way.length → way.reverse[i]? = way[js.length - i]? := fun i hi => by
    rw [List.getElem?_reverse hi]
    congr 1
    omega
  have gj : ∀ i, i < js.length → (js.map fun m => (m.2, m.1)).reverse[i]? = (js[js.length - 1 - i]?).map fun m => (m.2, m.1) := fun i hi => by
    rw [List.getElem?_reverse (by rw [List.length_map]; exact hi), List.length_map, List.getElem?_map]
  have lj : (js.map fun m => (m.2, m.1)).reverse.length = js.length := by simp
  refine ⟨way.reverse, (js.map fun m => (m.2, m.1)).reverse, ⟨(List.reverse_perm way).nodup_iff.mpr p.nd, fun x hx => p.sb x (List.mem_reverse.mp hx), by rw [List.length_reverse, lj, hl], fun i x y m e1 e2 e3 => ?_⟩, ?_, ?_, fun i x m k hi e1 e2 e3 => ?_⟩
  · obtain ⟨q, _⟩ := List.getElem?_eq_some_iff.mp e3
    rw [lj] at q
    rw [gw i (by omega)] at e1
    rw [gw (i + 1) (by omega)] at e2
    rw [gj i q] at e3
    obtain ⟨m', e4, rfl⟩ := Option.map_eq_some_iff.mp e3
    have e5 : way[js.length - 1 - i]? = some y := by rw [← e2]; congr 1; omega
    have e6 : way[js.length - 1 - i + 1]? = some x := by rw [← e1]; congr 1; omega
    exact hJ _ _ _ (p.lk _ _ _ _ e5 e6 e4)
  · rw [gw 0 (by omega), Nat.sub_zero]; exact h1
  · rw [lj, gw js.length (by omega), Nat.sub_self]; exact h0
  · obtain ⟨q, _⟩ := List.getElem?_eq_some_iff.mp e3
    rw [lj] at q
    rw [gw i (by omega)] at e1
    rw [gj (i - 1) (by omega)] at e2
    rw [gj i q] at e3
    obtain ⟨m', e4, rfl⟩ := Option.map_eq_some_iff.mp e2
    obtain ⟨k', e5, rfl⟩ := Option.map_eq_some_iff.mp e3
    have := ho (js.length - i) x k' m' (by omega) e1 (by rw [← e5]; congr 1; omega) (by rw [← e4]; congr 1; omega)
    show P x (m'.1 && k'.2) = true
    rw [Bool.and_comm]
    exact this
end
theorem jns_rev {ls vs : List Pr} (x y : Str) (m : Mk) (h : m ∈ jns ls vs x y) : (m.2, m.1) ∈ jns ls vs y x := by
  unfold jns at h ⊢
  simp only [List.mem_append] at h ⊢
  rcases h with (h | h) | h
  · split at h
    · rename_i c
      rw [List.mem_singleton] at h; subst h
      exact .inl (.inr (by rw [if_pos c]; simp))
    · simp at h
  · split at h
    · rename_i c
      rw [List.mem_singleton] at h; subst h
      exact .inl (.inl (by rw [if_pos c]; simp))
    · simp at h
  · split at h
    · rename_i c
      rw [List.mem_singleton] at h; subst h
      exact .inr (by rw [if_pos (c.symm)]; simp)
    · simp at h
end F95
section F96
open PySem PySem.Spec PyProof.Rows L2 He Ds
section
variable {ns : List Str} {ls vs : List Pr} {w : World}
theorem psn_start {given : List Str} {a : Str} (h : a ∉ given) : psn ns ls given a false = true := by
  unfold psn
  rw [if_neg (by decide), decide_eq_false h]
  rfl
theorem fway_none {given : List Str} {a b : Str} (ha : a ∈ ns) (hg : a ∉ given) : fway ns ls vs given a b = none ↔ ¬ OpenP (jns ls vs) (psn ns ls given) ns a b := by
  unfold fway
  rw [fwy_open (psn_start hg) ha, open_iff ha]
theorem fway_rev {given : List Str} {a b : Str} (ha : a ∈ ns) (hb : b ∈ ns) (ga : a ∉ given) (gb : b ∉ given) : (fway ns ls vs given a b).isNone = (fway ns ls vs given b a).isNone := by
  rw [Bool.eq_iff_iff, Option.isNone_iff_eq_none, Option.isNone_iff_eq_none, fway_none ha ga, fway_none hb gb]
  exact ⟨fun h z => h (z.rev jns_rev), fun h z => h (z.rev jns_rev)⟩
theorem brd_rev {ones others given : List Str} (B : BarOk ns ones others given) : brd ns ls vs others ones given = brd ns ls vs ones others given := by
  unfold brd
  rw [Bool.eq_iff_iff]
  simp only [List.all_eq_true]
  have ga : ∀ x ∈ ones, x ∉ given := fun x hx z => B.e x z (List.mem_append_left _ hx)
  have gb : ∀ x ∈ others, x ∉ given := fun x hx z => B.e x z (List.mem_append_right _ hx)
  exact ⟨fun h a ha b hb => (fway_rev (B.o a ha) (B.t b hb) (ga a ha) (gb b hb)).trans (h b hb a ha), fun h b hb a ha => (fway_rev (B.o a ha) (B.t b hb) (ga a ha) (gb b hb)).symm.trans (h a ha b hb)⟩
theorem BarOk.rev {ones others given : List Str} (B : BarOk ns ones others given) : BarOk ns others ones given :=
  ⟨B.t, B.tn, B.o, B.on, B.g, B.gn, fun x hx z => B.d x z hx, fun x hx z => B.e x hx (by
    rcases List.mem_append.mp z with z | z
    · exact List.mem_append_right _ z
    · exact List.mem_append_left _ z)⟩
theorem BarOk.perm {ones others g g' : List Str} (B : BarOk ns ones others g) (h : g'.Perm g) : BarOk ns ones others g' :=
  ⟨B.o, B.on, B.t, B.tn, fun x hx => B.g x (h.mem_iff.mp hx), h.nodup_iff.mpr B.gn, B.d, fun x hx => B.e x (h.mem_iff.mp hx)⟩
/-! ### walks that may end -/
end
end F96
section F97
open PySem PySem.Spec PyProof.Rows L2 He Ds
/-! ### other letters: all goes along -/
abbrev prf (f : Str → Str) (p : Pr) : Pr := (f p.1, f p.2)
/-- f takes unlike things of U to unlike ones -/
def Inj (U : List Str) (f : Str → Str) : Prop := ∀ a ∈ U, ∀ b ∈ U, f a = f b → a = b
def Within (U : List Str) (ps : List Pr) : Prop := ∀ p ∈ ps, p.1 ∈ U ∧ p.2 ∈ U
section
variable {U : List Str} {f : Str → Str}
theorem Inj.mem (h : Inj U f) {a : Str} {xs : List Str} (ha : a ∈ U) (hx : ∀ x ∈ xs, x ∈ U) : f a ∈ xs.map f ↔ a ∈ xs := by
  constructor
  · intro m
    obtain ⟨b, hb, e⟩ := List.mem_map.mp m
    rw [← h b (hx b hb) a ha e]
    exact hb
  · exact fun m => List.mem_map.mpr ⟨a, m, rfl⟩
theorem Within.sub {ps qs : List Pr} (h : Within U ps) (s : ∀ p ∈ qs, p ∈ ps) : Within U qs := fun p hp => h p (s p hp)
theorem Inj.inn (h : Inj U f) {W : List Str} {p : Pr} (hW : ∀ x ∈ W, x ∈ U) (hp : p.1 ∈ U ∧ p.2 ∈ U) : inn (W.map f) (prf f p) = inn W p := by
  unfold Da.inn
  rw [decide_eq_decide.mpr (h.mem hp.1 hW), decide_eq_decide.mpr (h.mem hp.2 hW)]
theorem Inj.filt (h : Inj U f) {W : List Str} {ps : List Pr} (hW : ∀ x ∈ W, x ∈ U) (hp : Within U ps) : (ps.map (prf f)).filter (Da.inn (W.map f)) = (ps.filter (Da.inn W)).map (prf f) := by
  rw [List.filter_map]
  congr 1
  exact List.filter_congr fun p hq => h.inn hW (hp p hq)
theorem Leads.ren {ps : List Pr} {a b : Str} (l : Leads ps a b) : Leads (ps.map (prf f)) (f a) (f b) := by
  induction l with
  | refl a => exact .refl _
  | step h _ ih => exact .step (List.mem_map.mpr ⟨_, h, rfl⟩) ih
theorem Inj.leads_back (h : Inj U f) {ps : List Pr} (hp : Within U ps) {x y : Str} (l : Leads (ps.map (prf f)) x y) : ∀ {a b : Str}, a ∈ U → b ∈ U → x = f a → y = f b → Leads ps a b := by
  induction l with
  | refl x =>
    intro a b ha hb e1 e2
    rw [h a ha b hb (e1.symm.trans e2)]
    exact .refl _
  | step hm _ ih =>
    intro a b ha hb e1 e2
    obtain ⟨q, hq, e⟩ := List.mem_map.mp hm
    injection e with e3 e4
    have h1 := hp q hq
    have e5 : q.1 = a := h _ h1.1 _ ha (e3.trans e1)
    have l2 := ih h1.2 hb e4.symm e2
    refine .step ?_ l2
    rw [← e5]
    exact hq
theorem Inj.leads (h : Inj U f) {ps : List Pr} (hp : Within U ps) {a b : Str} (ha : a ∈ U) (hb : b ∈ U) : Leads (ps.map (prf f)) (f a) (f b) ↔ Leads ps a b :=
  ⟨fun l => h.leads_back hp l ha hb rfl rfl, fun l => Leads.ren l⟩
open Classical in
theorem Inj.leading (h : Inj U f) {ps : List Pr} (hp : Within U ps) {x : Str} (hx : x ∈ U) {W : List Str} (hW : ∀ x ∈ W, x ∈ U) : leading (W.map f) (ps.map (prf f)) (f x) = (Ds.leading W ps x).map f := by
  unfold Ds.leading
  rw [List.filter_map]
  congr 1
  refine List.filter_congr fun t ht => ?_
  show decide _ = decide _
  rw [decide_eq_decide]
  exact h.leads hp (hW t ht) hx
theorem within_filter {ps : List Pr} (hp : Within U ps) {g : Pr → Bool} : Within U (ps.filter g) := hp.sub fun p h => (List.mem_filter.mp h).1
theorem within_sym {ps : List Pr} (hp : Within U ps) : Within U (sym ps) := fun p h => by
  rcases List.mem_append.mp h with z | z
  · exact hp p z
  · obtain ⟨q, hq, rfl⟩ := List.mem_map.mp z
    exact ⟨(hp q hq).2, (hp q hq).1⟩
theorem sym_ren {ps : List Pr} : sym (ps.map (prf f)) = (sym ps).map (prf f) := by
  unfold sym
  rw [List.map_append, List.map_map, List.map_map]
  rfl
theorem Inj.grp (h : Inj U f) {vs : List Pr} (hv : Within U vs) {x : Str} (hx : x ∈ U) {W : List Str} (hW : ∀ x ∈ W, x ∈ U) : grp (vs.map (prf f)) (W.map f) (f x) = (Da.grp vs W x).map f := by
  unfold Da.grp
  rw [h.filt hW hv, sym_ren, h.leading (within_sym (within_filter hv)) hx hW]
theorem Inj.lead (h : Inj U f) {ls : List Pr} (hl : Within U ls) {W S : List Str} (hW : ∀ x ∈ W, x ∈ U) (hS : ∀ x ∈ S, x ∈ U) : lead (ls.map (prf f)) (W.map f) (S.map f) = (Da.lead ls W S).map f := by
  unfold Da.lead
  rw [List.filter_map]
  congr 1
  refine List.filter_congr fun t ht => ?_
  show decide _ = decide _
  rw [decide_eq_decide, List.mem_flatMap, List.mem_flatMap]
  have e : ∀ g ∈ S, (f t ∈ Ds.leading (W.map f) ((ls.map (prf f)).filter (Da.inn (W.map f))) (f g) ↔ t ∈ Ds.leading W (ls.filter (Da.inn W)) g) := fun g hg => by
    rw [h.filt hW hl, h.leading (within_filter hl) (hS g hg) hW]
    exact h.mem (hW t ht) fun y hy => hW y (leading_mem.mp hy).1
  constructor
  · rintro ⟨g, hg, m⟩
    obtain ⟨g', hg', rfl⟩ := List.mem_map.mp hg
    exact ⟨g', hg', (e g' hg').mp m⟩
  · rintro ⟨g, hg, m⟩
    exact ⟨f g, List.mem_map.mpr ⟨g, hg, rfl⟩, (e g hg).mpr m⟩
theorem Inj.cnt (h : Inj U f) {ls : List Pr} (hl : Within U ls) {acted asked : List Str} (ha : ∀ x ∈ acted, x ∈ U) (hk : ∀ x ∈ asked, x ∈ U) : cnt (U.map f) (ls.map (prf f)) (acted.map f) (asked.map f) = (Da.cnt U ls acted asked).map f := by
  unfold Da.cnt
  have e : (U.map f).filter (fun x => !decide (x ∈ acted.map f)) = (U.filter fun x => !decide (x ∈ acted)).map f := by
    rw [List.filter_map]
    congr 1
    refine List.filter_congr fun t ht => ?_
    show (!decide _) = (!decide _)
    rw [decide_eq_decide.mpr (h.mem ht ha)]
  rw [e, h.lead hl (fun x hx => (List.mem_filter.mp hx).1) hk]
end
end F97
section F98
open PySem PySem.Spec PyProof.Rows L2 He Ds
/-! ### written charts, and the same in other letters -/
theorem Inj.prf {U : List Str} {f : Str → Str} (h : Inj U f) {p q : Pr} (hp : p.1 ∈ U ∧ p.2 ∈ U) (hq : q.1 ∈ U ∧ q.2 ∈ U) (e : Da.prf f p = Da.prf f q) : p = q := by
  injection e with e1 e2
  exact Prod.ext (h _ hp.1 _ hq.1 e1) (h _ hp.2 _ hq.2 e2)
section
variable {ns : List Str} {ls vs : List Pr} {acted asked : List Str} {f : Str → Str}
end
end F98
section F99
open PySem PySem.Spec PyProof.Rows L2 He Ds
/-! Ways of written charts, and the same in other letters; open_way, evaluated. -/
section
variable {ns : List Str} {ls vs : List Pr} {given : List Str} {w : World} {f : Str → Str}
theorem ev_open_wayF (C : FwOk ns ls vs) {a b : Str} (ha : a ∈ ns) (hb : b ∈ ns) (hg : ∀ x ∈ given, x ∈ ns) (gn : given.Nodup) (ga : a ∉ given) (gb : b ∉ given) : D_open_way w [diag ns ls vs, .str a, .str b, sL given] = .ok true (owD (fway ns ls vs given a b)) := by
  have c1 : D_check_names [diag ns ls vs, sL [a]] = .ok true .non := (ev_check_names (ns := ns) (ls := ls) (vs := vs) (xs := [a])).1 (noBad_names (by simpa using ha) (by simp))
  have c2 : D_check_names [diag ns ls vs, sL [b]] = .ok true .non := (ev_check_names (ns := ns) (ls := ls) (vs := vs) (xs := [b])).1 (noBad_names (by simpa using hb) (by simp))
  have c3 := (ev_check_names (ns := ns) (ls := ls) (vs := vs) (xs := given)).1 (noBad_names hg gn)
  have a1 : D_check_apart [sL given, .lst [.str a, .str b]] = .ok true .non := (ev_check_apart (xs := given) (ys := [a, b])).1 fun i x e z => by
    have hx := List.mem_of_getElem? e
    simp only [List.mem_cons, List.not_mem_nil, or_false] at z
    rcases z with z | z
    · exact ga (z ▸ hx)
    · exact gb (z ▸ hx)
  have hi := C.hi
  have l3 := nodup_len gn hg
  have ef := ev_find_way (w := w) C (other := b) ha hg (by omega)
  have b1 : ∀ (xs : List Str), D_check_names [diag ns ls vs, sL xs] = .ok true .non → B_open_way_1 w [.dat false (diag ns ls vs), .dat false (.str a), .dat false (.str b), .dat false (sL given), .dat false (sL xs)] = .nx [.dat false (diag ns ls vs), .dat false (.str a), .dat false (.str b), .dat false (sL given), .dat false (sL xs)] := fun xs e => by
    unfold B_open_way_1
    walk_at "d5ry"
  have it3 : mIt itTup (mTup (maCons (mDat (mKeep (mLst (maCons (mDat (mVar 1)) (mp []))))) (maCons (mDat (mKeep (mLst (maCons (mDat (mVar 2)) (mp []))))) (maCons (mDat (mVar 3)) (mp []))))) [.dat false (diag ns ls vs), .dat false (.str a), .dat false (.str b), .dat false (sL given), .no] = .ok [(false, sL [a]), (false, sL [b]), (false, sL given)] [.dat false (diag ns ls vs), .dat false (.str a), .dat false (.str b), .dat false (sL given), .no] := by
    apply j_it
    · apply j_tup (ds := [sL [a], sL [b], sL given]) (g := false)
      · walk_at "d5ry"
      · show 3 ≤ 1000; decide
    · rfl
  unfold D_open_way
  apply j_run
  · rfl
  · walk_at "d5ry"
  · apply k_seq (ρ1 := [.dat false (diag ns ls vs), .dat false (.str a), .dat false (.str b), .dat false (sL given), .dat false (sL given)])
    · apply k_for it3
      rw [k_forC (show tgName 4 _ _ = some _ from rfl) (b1 [a] c1), k_forC (show tgName 4 _ _ = some _ from rfl) (b1 [b] c2), k_forC (show tgName 4 _ _ = some _ from rfl) (b1 given c3)]
      rfl
    apply k_seq (ρ1 := [.dat false (diag ns ls vs), .dat false (.str a), .dat false (.str b), .dat false (sL given), .dat false (sL given)])
    · apply j_drop
      apply j_callX (ds := [sL given, .lst [.str a, .str b]])
      · walk_at "d5ry"
      · exact a1
    apply j_ret
    apply j_callX (ds := [diag ns ls vs, .str a, .str b, sL given])
    · walk_at "d5ry"
    · exact ef
  · rfl
  · rfl
theorem ev_open_way (C : ChartOk 6 ns ls vs) {a b : Str} (ha : a ∈ ns) (hb : b ∈ ns) (hg : ∀ x ∈ given, x ∈ ns) (gn : given.Nodup) (ga : a ∉ given) (gb : b ∉ given) : D_open_way w [diag ns ls vs, .str a, .str b, sL given] = .ok true (owD (fway ns ls vs given a b)) := ev_open_wayF C.fwk ha hb hg gn ga gb
/-! ### in other letters -/
section
variable {J J' : Str → Str → List Mk} {P P' : Str → Bool → Bool}
end
/-! ### reckoned by the kernel -/
end
end F99
section F100
open PySem PySem.Spec PyProof.Rows L2 He Ds
/-! Open trails of diagrams that are alike: grown ones, other sequences, a pair as a thing. -/
section
variable {J J' : Str → Str → List Mk} {P P' : Str → Bool → Bool} {ns ns' : List Str} {goal start : Str}
theorem Tr.mono (hn : ∀ x ∈ ns, x ∈ ns') (hs : start ∈ ns) (hJ : ∀ x ∈ ns, ∀ y ∈ ns, ∀ m ∈ J x y, m ∈ J' x y) (hP : ∀ x ∈ ns, ∀ b, P x b = true → P' x b = true) {pre : List Str} {l : Str} {js : List Mk} {k : Bool} (h : Tr J P ns goal start pre l js k) : Tr J' P' ns' goal start pre l js k := by
  induction h with
  | one => exact .one
  | @snoc pre l t js k m h1 h2 h3 h4 h5 h6 ih =>
    have hl : l ∈ ns := (h1.nd hs).2.1 _ (by simp)
    exact .snoc ih h2 (hn t h3) h4 (hJ l hl t h3 m h5) (hP l hl _ h6)
end
section
variable {ns ns' : List Str} {ls ls' vs vs' : List Pr} {given : List Str} {a b : Str}
theorem fway_tr (ha : a ∈ ns) : fway ns ls vs given a b = none ↔ ¬ ∃ pre js k, Tr (jns ls vs) (psn ns ls given) ns b a pre b js k := fwy_iff ha
/-! ### other sequences -/
end
end F100
section F101
/-! Lists that are barred together: one of two may be given to the other, given away. -/
open PySem PySem.Spec PyProof.Rows L2 He Ds
/-- an open trail that may pass its goal -/
inductive Wk (J : Str → Str → List Mk) (P : Str → Bool → Bool) (ns : List Str) (start : Str) : List Str → Str → List Mk → Bool → Prop
  | one : Wk J P ns start [] start [] false
  | snoc {pre : List Str} {l t : Str} {js : List Mk} {k : Bool} {m : Mk} : Wk J P ns start pre l js k → t ∈ ns → t ∉ pre ++ [l] → m ∈ J l t → P l (k && m.1) = true → Wk J P ns start (pre ++ [l]) t (js ++ [m]) m.2
section
variable {J : Str → Str → List Mk} {P : Str → Bool → Bool} {ns : List Str} {goal start : Str} {pre : List Str} {l : Str} {js : List Mk} {k : Bool}
theorem Tr.wk (h : Tr J P ns goal start pre l js k) : Wk J P ns start pre l js k := by
  induction h with
  | one => exact .one
  | snoc _ _ h3 h4 h5 h6 ih => exact .snoc ih h3 h4 h5 h6
theorem Wk.tr0 (h : Wk J P ns start pre l js k) (hg : goal ∉ pre) : Tr J P ns goal start pre l js k := by
  induction h with
  | one => exact .one
  | @snoc pre l t js k m _ h3 h4 h5 h6 ih =>
    refine .snoc (ih fun z => hg (List.mem_append_left _ z)) (fun e => hg ?_) h3 h4 h5 h6
    rw [← e]
    exact List.mem_append_right _ List.mem_cons_self
theorem Wk.cut (h : Wk J P ns start pre l js k) {x : Str} (hx : x ∈ pre ++ [l]) : ∃ pre' js' k', Wk J P ns start pre' x js' k' ∧ x ∉ pre' := by
  induction h with
  | one =>
    rw [List.nil_append, List.mem_singleton] at hx
    subst hx
    exact ⟨_, _, _, .one, by simp⟩
  | @snoc pre l t js k m h1 h3 h4 h5 h6 ih =>
    by_cases hm : x ∈ pre ++ [l]
    · exact ih hm
    · rcases List.mem_append.mp hx with hx | hx
      · exact absurd hx hm
      · rw [List.mem_singleton] at hx
        subst hx
        exact ⟨_, _, _, .snoc h1 h3 h4 h5 h6, h4⟩
end
section
variable {ns : List Str} {ls vs : List Pr} {given E : List Str} {start : Str} {pre : List Str} {l : Str} {js : List Mk} {k : Bool}
theorem psn_t {x : Str} : psn ns ls given x true = true ↔ x ∈ ns ∧ ∃ g ∈ given, Leads ls x g := by
  unfold psn
  rw [if_pos rfl, List.any_eq_true]
  constructor
  · rintro ⟨g, hg, e⟩
    obtain ⟨e1, e2⟩ := leading_mem.mp (of_decide_eq_true e)
    exact ⟨e1, g, hg, e2⟩
  · rintro ⟨e1, g, hg, e2⟩
    exact ⟨g, hg, decide_eq_true (leading_mem.mpr ⟨e1, e2⟩)⟩
theorem psn_f {x : Str} : psn ns ls given x false = true ↔ x ∉ given := by
  unfold psn
  rw [if_neg (by decide), Bool.not_eq_true', decide_eq_false_iff_not]
/-- down the arrows from a thing that leads to no given one -/
theorem wk_down (hs : start ∈ ns) (hn : ∀ p ∈ ls, p.2 ∈ ns) {e : Str} (L : Leads ls l e) : ∀ {pre : List Str} {js : List Mk} {k : Bool}, Wk (jns ls vs) (psn ns ls given) ns start pre l js k → (∀ g ∈ given, ¬ Leads ls l g) → ∃ pre' js' k', Wk (jns ls vs) (psn ns ls given) ns start pre' e js' k' := by
  induction L with
  | refl a => exact fun h _ => ⟨_, _, _, h⟩
  | @step a b c hab L ih =>
    intro pre js k h hg
    have hb : ∀ g ∈ given, ¬ Leads ls b g := fun g hgm z => hg g hgm (.step hab z)
    by_cases hm : b ∈ pre ++ [a]
    · obtain ⟨pre', js', k', h', _⟩ := h.cut hm
      exact ih h' hb
    · refine ih (.snoc (m := (false, true)) h (hn _ hab) hm ?_ ?_) hb
      · unfold jns
        rw [if_pos hab]
        simp
      · show psn ns ls given a (k && false) = true
        rw [Bool.and_false]
        exact psn_f.mpr fun z => hg a z (.refl a)
theorem wk_weak (hs : start ∈ ns) (hn : ∀ p ∈ ls, p.2 ∈ ns) (h : Wk (jns ls vs) (psn ns ls (given ++ E)) ns start pre l js k) : Wk (jns ls vs) (psn ns ls given) ns start pre l js k ∨ ∃ e ∈ E, ∃ pre' js' k', Wk (jns ls vs) (psn ns ls given) ns start pre' e js' k' := by
  induction h with
  | one => exact .inl .one
  | @snoc pre l t js k m h1 h3 h4 h5 h6 ih =>
    rcases ih with ih | ih
    · by_cases hp : psn ns ls given l (k && m.1) = true
      · exact .inl (.snoc ih h3 h4 h5 hp)
      · refine .inr ?_
        cases hc : (k && m.1) with
        | false =>
          rw [hc] at hp h6
          exact absurd (psn_f.mpr fun z => psn_f.mp h6 (List.mem_append_left _ z)) hp
        | true =>
          rw [hc] at hp h6
          obtain ⟨i1, g, hg, L⟩ := psn_t.mp h6
          rcases List.mem_append.mp hg with hg | hg
          · exact absurd (psn_t.mpr ⟨i1, g, hg, L⟩) hp
          · exact ⟨g, hg, wk_down hs hn L ih fun g' hg' z => hp (psn_t.mpr ⟨i1, g', hg', z⟩)⟩
    · exact .inr ih
theorem wk_more (h : Wk (jns ls vs) (psn ns ls given) ns start pre l js k) : Wk (jns ls vs) (psn ns ls (given ++ E)) ns start pre l js k ∨ ∃ e ∈ E, ∃ pre' js' k', Wk (jns ls vs) (psn ns ls given) ns start pre' e js' k' := by
  induction h with
  | one => exact .inl .one
  | @snoc pre l t js k m h1 h3 h4 h5 h6 ih =>
    rcases ih with ih | ih
    · cases hc : (k && m.1) with
      | false =>
        rw [hc] at h6
        by_cases he : l ∈ E
        · exact .inr ⟨l, he, _, _, _, h1⟩
        · refine .inl (.snoc ih h3 h4 h5 ?_)
          rw [hc]
          exact psn_f.mpr fun z => (List.mem_append.mp z).elim (psn_f.mp h6) he
      | true =>
        rw [hc] at h6
        obtain ⟨i1, g, hg, L⟩ := psn_t.mp h6
        refine .inl (.snoc ih h3 h4 h5 ?_)
        rw [hc]
        exact psn_t.mpr ⟨i1, g, List.mem_append_left _ hg, L⟩
    · exact .inr ih
theorem fway_wk {a b : Str} (ha : a ∈ ns) : fway ns ls vs given a b = none ↔ ¬ ∃ pre js k, Wk (jns ls vs) (psn ns ls given) ns a pre b js k := by
  rw [fway_tr ha]
  refine not_congr ⟨fun ⟨pre, js, k, h⟩ => ⟨pre, js, k, h.wk⟩, fun ⟨pre, js, k, h⟩ => ?_⟩
  obtain ⟨pre', js', k', h', hn⟩ := h.cut (List.mem_append_right _ List.mem_cons_self)
  exact ⟨pre', js', k', h'.tr0 hn⟩
theorem brd_iff {A B : List Str} (hA : ∀ x ∈ A, x ∈ ns) : brd ns ls vs A B given = true ↔ ∀ a ∈ A, ∀ b ∈ B, ¬ ∃ pre js k, Wk (jns ls vs) (psn ns ls given) ns a pre b js k := by
  unfold brd
  simp only [List.all_eq_true, Option.isNone_iff_eq_none]
  exact ⟨fun h a ha b hb => (fway_wk (hA a ha)).mp (h a ha b hb), fun h a ha b hb => (fway_wk (hA a ha)).mpr (h a ha b hb)⟩
theorem brd_app {A B : List Str} : brd ns ls vs A (B ++ E) given = (brd ns ls vs A B given && brd ns ls vs A E given) := by
  unfold brd
  induction A with
  | nil => rfl
  | cons a A ih => rw [List.all_cons, List.all_cons, List.all_cons, ih, List.all_append]; cases (B.all fun b => (fway ns ls vs given a b).isNone) <;> cases (E.all fun b => (fway ns ls vs given a b).isNone) <;> simp
theorem brd_weak {A B : List Str} (hA : ∀ x ∈ A, x ∈ ns) (hn : ∀ p ∈ ls, p.2 ∈ ns) (h : brd ns ls vs A (B ++ E) given = true) : brd ns ls vs A B (given ++ E) = true := by
  rw [brd_iff hA] at h ⊢
  rintro a ha b hb ⟨pre, js, k, w⟩
  rcases wk_weak (hA a ha) hn w with w | ⟨e, he, pre', js', k', w⟩
  · exact h a ha b (List.mem_append_left _ hb) ⟨_, _, _, w⟩
  · exact h a ha e (List.mem_append_right _ he) ⟨_, _, _, w⟩
theorem brd_contr {A B : List Str} (hA : ∀ x ∈ A, x ∈ ns) (h1 : brd ns ls vs A E given = true) (h2 : brd ns ls vs A B (given ++ E) = true) : brd ns ls vs A (B ++ E) given = true := by
  rw [brd_app, h1, Bool.and_true]
  rw [brd_iff hA] at h1 h2 ⊢
  rintro a ha b hb ⟨pre, js, k, w⟩
  rcases wk_more (E := E) w with w | ⟨e, he, pre', js', k', w⟩
  · exact h2 a ha b hb ⟨_, _, _, w⟩
  · exact h1 a ha e he ⟨_, _, _, w⟩
/-- neighbours: the way of the two alone -/
theorem fway_two {a b : Str} (hb : b ∈ ns) (ne : a ≠ b) (ga : a ∉ given) (hj : jns ls vs a b ≠ []) : fway ns ls vs given a b = some [a, b] := by
  unfold fway
  have h1 : ([([], a, [false])] : List Trl).find? (fun t => decide (t.2.1 = b)) = none := by
    rw [List.find?_cons, show decide ((([], a, [false]) : Trl).2.1 = b) = false from decide_eq_false ne]
    rfl
  have on : onw (jns ls vs) (psn ns ls given) a [false] b ≠ [] := by
    obtain ⟨m, hm⟩ := List.exists_mem_of_ne_nil _ hj
    have : m.2 ∈ onw (jns ls vs) (psn ns ls given) a [false] b := mem_onw.mpr ⟨m, hm, ⟨false, by simp, psn_f.mpr ga⟩, rfl⟩
    intro z
    rw [z] at this
    simp at this
  have hl : (wayT ([], a, [false]), b, onw (jns ls vs) (psn ns ls given) a [false] b) ∈ lng (jns ls vs) (psn ns ls given) ns ([], a, [false]) := mem_lng.mpr ⟨rfl, hb, by show b ∉ [a]; simpa using Ne.symm ne, rfl, on⟩
  cases n : ns.length with
  | zero => rw [List.length_eq_zero_iff] at n; rw [n] at hb; simp at hb
  | succ m =>
    show fwy (jns ls vs) (psn ns ls given) ns b (m + 1 + 1) [([], a, [false])] = _
    rw [fwy, if_neg (by simp), h1]
    show fwy (jns ls vs) (psn ns ls given) ns b (m + 1) (([([], a, [false])] : List Trl).flatMap (lng (jns ls vs) (psn ns ls given) ns)) = _
    have fm : ([([], a, [false])] : List Trl).flatMap (lng (jns ls vs) (psn ns ls given) ns) = lng (jns ls vs) (psn ns ls given) ns ([], a, [false]) := by rw [List.flatMap_cons, List.flatMap_nil, List.append_nil]
    rw [fm, fwy, if_neg (fun z => by rw [z] at hl; simp at hl)]
    cases e : (lng (jns ls vs) (psn ns ls given) ns ([], a, [false])).find? (fun t => decide (t.2.1 = b)) with
    | none => exact absurd (List.find?_eq_none.mp e _ hl) (by simp)
    | some t =>
      have h2 := of_decide_eq_true (List.find?_some (p := fun t : Trl => decide (t.2.1 = b)) e)
      have h3 := (mem_lng.mp (List.mem_of_find?_eq_some e)).1
      show some (wayT t) = _
      unfold wayT
      rw [h3, h2]
      rfl
end
end F101
section F102
open PySem PySem.Spec PyProof.Rows L2 He Ds
section
variable {ns : List Str} {ls vs : List Pr} {w : World}
/-! ### barred by all ways -/
/-! ### lists that are drawn -/
theorem ev_popd {ρ : List Slot} {j n : Nat} {ms : List Int} {ys : List Str} (h : PoolOk ms n) (hn : n ≤ 999000000) (h0 : ρ[0]? = some (.pool ms)) (h2 : ρ[j]? = some (.own true (ys.map D.str))) (hj : 0 ≠ j) (hy : 0 < ys.length) (hy2 : ys.length ≤ 1000) :
    ∃ z k ms', PoolOk ms' (n + 1) ∧ ys[k]? = some z ∧ mMut j (maCons (mDat (mPool 0 D_law_draw (maCons (mDat (mUn dLen (mLook j))) (mp [])))) (mp [])) kPopAt ρ = .ok (true, .str z) ((ρ.set 0 (.pool ms')).set j (.own true ((ys.eraseIdx k).map D.str))) := by
  obtain ⟨d, ms', e1, d0, d1, h'⟩ := ev_draw (m := (ys.length : Nat)) h (by omega) (by omega) (by omega)
  obtain ⟨z, hz⟩ : ∃ z, ys[d.toNat]? = some z := ⟨_, List.getElem?_eq_getElem (by omega)⟩
  refine ⟨z, d.toNat, ms', h', hz, ?_⟩
  have p1 := kPopAt_str (fa := true) d0 hz (by omega)
  have g1 : mPool 0 D_law_draw (maCons (mDat (mUn dLen (mLook j))) (mp [])) ρ = .ok (true, .int d) (ρ.set 0 (.pool ms')) := j_draw (len_own h2) h0 h0 e1 rfl
  obtain ⟨ss, e2, e3⟩ := a_cons g1 a_nil
  refine k_mut (l := (true, (ys.eraseIdx d.toNat).map D.str)) ?_ e2 e3 ?_ p1 rfl
  · rw [gOwn_of h2]; rfl
  · exact gOwn_of (by rw [get_set_ne hj]; exact h2)
/-! ### a chart that everybody knows, or any -/
theorem ev_ck {n : Nat} {ms : List Int} {r : List Slot} (h : PoolOk ms n) (hn : n ≤ 800000000) : ∃ ms' ns ls vs, PoolOk ms' (n + 302) ∧ ChartOk 6 ns ls vs ∧ mIf (mT (mOp dEq (mE (mPool 0 D_law_draw (maCons (mDat (mp (true, D.int 4))) (mp [])))) (mE (mp (true, D.int 0))))) (mBin mIxT (mE (mPool 0 D_law_known (mp []))) (mE (mp (true, D.int 0)))) (mPool 0 D_law_chart (maCons (mDat (mp (true, D.int 6))) (mp []))) (.pool ms :: r) = .ok (true, cht ns ls vs) (.pool ms' :: r) := by
  obtain ⟨d, m1, e1, d0, d1, h1⟩ := ev_draw (m := 4) h (by omega) (by decide) (by decide)
  have t1 : mT (mOp dEq (mE (mPool 0 D_law_draw (maCons (mDat (mp (true, D.int 4))) (mp [])))) (mE (mp (true, D.int 0)))) (.pool ms :: r) = .ok (decide (d = 0)) (.pool m1 :: r) := by
    apply j_T
    apply j_op
    · apply j_E
      exact j_draw j_mp rfl rfl e1 rfl
    · exact j_E j_mp
    · rfl
    · rfl
    · exact o_eqi
  by_cases c : d = 0
  · obtain ⟨m2, k, hk, h2, e2⟩ := ev_law_known h1 (by omega)
    refine ⟨m2, kNs k, kLs k, kVs k, h2.mono (by omega), (kn_chart hk).1, ?_⟩
    apply j_mif t1
    rw [decide_eq_true c, if_pos rfl]
    apply j_ixT
    · apply j_E
      apply j_poolC
      · exact a_nil
      · rfl
      · rfl
      · exact e2
      · rfl
    · exact j_E j_mp
    · rfl
    · rfl
    · rfl
    · rfl
  · obtain ⟨m2, xs, ls, vs, h2, C, e2⟩ := ev_chart h1 (by omega) (W := 6) (by decide) (by decide)
    refine ⟨m2, xs, ls, vs, h2.mono (by omega), C, ?_⟩
    apply j_mif t1
    rw [decide_eq_false c, if_neg (by decide)]
    apply j_poolC
    · walk_at "d5ry"
    · rfl
    · rfl
    · exact e2
    · rfl
end
end F102
section F103
open PySem PySem.Spec PyProof.Rows L2 He Ds
/-! ### the five lots -/
abbrev dL (LL : List (List Str)) : List (List D) := LL.map fun X => X.map D.str
structure Five (ns : List Str) (LL : List (List Str)) (L : List Str) : Prop where
  five : LL.length = 5
  nd : (LL.flatten ++ L).Nodup
  inn : ∀ x ∈ LL.flatten ++ L, x ∈ ns
theorem flat_set {z : Str} : ∀ {LL : List (List Str)} {j : Nat} {X : List Str}, LL[j]? = some X → ((LL.set j (X ++ [z])).flatten).Perm (z :: LL.flatten)
  | [], j, X, h => by simp at h
  | Y :: LL, 0, X, h => by
    simp at h
    subst h
    rw [List.set_cons_zero, List.flatten_cons, List.flatten_cons, List.append_assoc]
    exact List.perm_middle
  | Y :: LL, j + 1, X, h => by
    rw [List.set_cons_succ, List.flatten_cons, List.flatten_cons]
    exact ((flat_set (LL := LL) (by simpa using h)).append_left Y).trans List.perm_middle
theorem atI_map {α β : Type} {f : α → β} {xs : List α} {i : Int} {x : α} (h : atI xs i = some x) : atI (xs.map f) i = some (f x) := by
  unfold atI at h ⊢
  rw [List.length_map]
  cases e : ixN xs.length i with
  | none => rw [e] at h; cases h
  | some j =>
    rw [e] at h
    show (xs.map f)[j]? = _
    rw [List.getElem?_map, show xs[j]? = some x from h]
    rfl
section
variable {w : World} {ns : List Str} {ls vs : List Pr}
theorem ev_step46 {n : Nat} {ms : List Int} {LL : List (List Str)} {L : List Str} {c m s5 s6 : Slot} {r : List Slot} (h : PoolOk ms n) (hn : n ≤ 900000000) (F : Five ns LL L) (hi : ns.length ≤ 6) (l0 : 0 < L.length) :
    ∃ (ms' : List Int) (LL' : List (List Str)) (L' : List Str) (t5 t6 : Slot), PoolOk ms' (n + 2) ∧ Five ns LL' L' ∧ L'.length + 1 = L.length ∧
      B_law_fits_1 w (.pool ms :: c :: m :: .own2 true none (dL LL) :: .own true (L.map D.str) :: s5 :: s6 :: r) = .nx (.pool ms' :: c :: m :: .own2 true none (dL LL') :: .own true (L'.map D.str) :: t5 :: t6 :: r) := by
  have len : (LL.flatten ++ L).length ≤ 6 := Nat.le_trans (nodup_len F.nd F.inn) hi
  have lenX : ∀ X ∈ LL, X.length ≤ 6 := fun X hX => by
    have := (List.sublist_flatten_of_mem hX).length_le
    rw [List.length_append] at len
    omega
  have l1 : L.length ≤ 6 := by rw [List.length_append] at len; omega
  obtain ⟨z, k, m1, g1, hz, e1⟩ := ev_popd (ρ := .pool ms :: c :: m :: .own2 true none (dL LL) :: .own true (L.map D.str) :: s5 :: s6 :: r) (j := 4) h (by omega) rfl rfl (by decide) l0 (by omega)
  obtain ⟨d, m2, e2, d0, d1, g2⟩ := ev_draw (m := 5) g1 (by omega) (by decide) (by decide)
  obtain ⟨j, rfl⟩ := Int.eq_ofNat_of_zero_le d0
  have hj : j < LL.length := by rw [F.five]; omega
  obtain ⟨hk, _⟩ := List.getElem?_eq_some_iff.mp hz
  have pm : (z :: L.eraseIdx k).Perm L := cons_erase hz
  have le : (L.eraseIdx k).length + 1 = L.length := by rw [List.length_eraseIdx_of_lt hk]; omega
  have hX : LL[j]? = some LL[j] := List.getElem?_eq_getElem hj
  have hXm : LL[j] ∈ LL := List.getElem_mem hj
  generalize LL[j] = X at hX hXm
  have par : sPar [5, 6] (maCons (mDat (mMut 4 (maCons (mDat (mPool 0 D_law_draw (maCons (mDat (mUn dLen (mLook 4))) (mp [])))) (mp [])) kPopAt)) (maCons (mDat (mPool 0 D_law_draw (maCons (mDat (mp (true, D.int 5))) (mp [])))) (mp []))) (.pool ms :: c :: m :: .own2 true none (dL LL) :: .own true (L.map D.str) :: s5 :: s6 :: r) =
      .nx (.pool m2 :: c :: m :: .own2 true none (dL LL) :: .own true ((L.eraseIdx k).map D.str) :: .dat true (.str z) :: .dat true (.int ((j : Nat) : Int)) :: r) := by
    apply j_par
    · apply j_pcD
      · exact e1
      · apply j_pcD
        · exact j_draw j_mp rfl rfl e2 rfl
        · exact j_pnil
    · rfl
  obtain ⟨X2, hX2⟩ : ∃ X2, LL[2]? = some X2 := ⟨_, List.getElem?_eq_getElem (by rw [F.five]; decide)⟩
  obtain ⟨X3, hX3⟩ : ∃ X3, LL[3]? = some X3 := ⟨_, List.getElem?_eq_getElem (by rw [F.five]; decide)⟩
  have lX2 := lenX X2 (List.mem_of_getElem? hX2)
  have lX3 := lenX X3 (List.mem_of_getElem? hX3)
  have tst : mOr (mT (mOp dLt (mLook 6) (mE (mp (true, D.int 2))))) (mT (mOp dLt (mE (mUn dLen (mE (mKeep (mCat2 3 2 3))))) (mE (mp (true, D.int 3))))) (.pool m2 :: c :: m :: .own2 true none (dL LL) :: .own true ((L.eraseIdx k).map D.str) :: .dat true (.str z) :: .dat true (.int ((j : Nat) : Int)) :: r) =
      .ok (decide (((j : Nat) : Int) < 2) || decide (((X2 ++ X3).length : Int) < 3)) (.pool m2 :: c :: m :: .own2 true none (dL LL) :: .own true ((L.eraseIdx k).map D.str) :: .dat true (.str z) :: .dat true (.int ((j : Nat) : Int)) :: r) := by
    apply j_or
    · walk_at "d5ry"
    · apply j_T
      apply j_op
      · apply j_E
        apply j_un (d1 := sL (X2 ++ X3))
        · apply j_E
          apply j_keep
          refine (j_cat2 (xs := X2.map D.str) (ys := X3.map D.str) rfl (atI_map (atI_nat hX2)) (atI_map (atI_nat hX3)) ?_).trans ?_
          · rw [List.length_map, List.length_map]; omega
          · rw [← List.map_append]
        · rfl
        · exact dlen_strs
      · walk_at "d5ry"
      · rfl
      · rfl
      · exact o_lt
  unfold B_law_fits_1
  cases q : (decide (((j : Nat) : Int) < 2) || decide (((X2 ++ X3).length : Int) < 3)) with
  | true =>
    have pf : ((LL.set j (X ++ [z])).flatten ++ L.eraseIdx k).Perm (LL.flatten ++ L) :=
      ((flat_set (z := z) hX).append_right _).trans ((List.perm_middle (l₁ := LL.flatten)).symm.trans (List.Perm.append_left _ pm))
    refine ⟨m2, LL.set j (X ++ [z]), L.eraseIdx k, .dat true (.str z), .dat true (.int ((j : Nat) : Int)), g2.mono (by omega), ⟨by rw [List.length_set]; exact F.five, pf.nodup_iff.mpr F.nd, fun x hx => F.inn x (pf.mem_iff.mp hx)⟩, le, ?_⟩
    apply k_seq par
    apply k_if tst
    rw [q, if_pos rfl]
    apply j_drop
    refine j_app2 (j := j) (ds := X.map D.str) rfl rfl rfl ?_ ?_ ?_ rfl ?_
    · rw [List.length_map]
      unfold ixN
      rw [if_pos (by omega), if_pos (by omega)]
      rfl
    · rw [List.getElem?_map, hX]; rfl
    · rw [List.length_map]; have := lenX X hXm; omega
    · show _ :: _ :: _ :: Slot.own2 true none ((dL LL).set j (X.map D.str ++ [D.str z])) :: _ = _
      rw [show dL (LL.set j (X ++ [z])) = (dL LL).set j (X.map D.str ++ [D.str z]) by
        unfold dL
        rw [List.map_set, List.map_append]
        rfl]
  | false =>
    refine ⟨m2, LL, L.eraseIdx k, .dat true (.str z), .dat true (.int ((j : Nat) : Int)), g2.mono (by omega), ⟨F.five, F.nd.sublist ((List.Sublist.refl _).append (List.eraseIdx_sublist _ _)), fun x hx => F.inn x (((List.Sublist.refl _).append (List.eraseIdx_sublist _ _)).subset hx)⟩, le, ?_⟩
    apply k_seq par
    apply k_if tst
    rw [q, if_neg (by decide)]
    rfl
theorem ev_loop46 {c m : Slot} {r : List Slot} (hi : ns.length ≤ 6) : ∀ (k f n : Nat) (ms : List Int) (LL : List (List Str)) (L : List Str) (s5 s6 : Slot), PoolOk ms n → n + 2 * k ≤ 900000000 → Five ns LL L → L.length = k → k < f →
    ∃ (ms' : List Int) (LL' : List (List Str)) (t5 t6 : Slot), PoolOk ms' (n + 2 * k) ∧ Five ns LL' [] ∧ whileD (mT (mOp dNe (mLook 4) (mE (mKeep (mLst (mp [])))))) (B_law_fits_1 w) f (.pool ms :: c :: m :: .own2 true none (dL LL) :: .own true (L.map D.str) :: s5 :: s6 :: r) = .nx (.pool ms' :: c :: m :: .own2 true none (dL LL') :: .own true (([] : List Str).map D.str) :: t5 :: t6 :: r) := by
  have t0 : ∀ (ms : List Int) (LL : List (List Str)) (L : List Str) (s5 s6 : Slot), mT (mOp dNe (mLook 4) (mE (mKeep (mLst (mp []))))) (.pool ms :: c :: m :: .own2 true none (dL LL) :: .own true (L.map D.str) :: s5 :: s6 :: r) = .ok (!decide (L = [])) (.pool ms :: c :: m :: .own2 true none (dL LL) :: .own true (L.map D.str) :: s5 :: s6 :: r) := fun ms LL L s5 s6 => by
    apply j_T
    apply j_op
    · apply k_look; rfl
    · apply j_E
      apply j_keep
      exact j_lst a_nil (by decide)
    · rfl
    · rfl
    · exact o_neL0
  intro k
  induction k with
  | zero =>
    intro f n ms LL L s5 s6 h hn F hl hf
    obtain ⟨f, rfl⟩ : ∃ q, f = q + 1 := ⟨f - 1, by omega⟩
    have : L = [] := List.length_eq_zero_iff.mp hl
    subst this
    refine ⟨ms, LL, s5, s6, h, F, ?_⟩
    refine k_whF ?_
    rw [t0, decide_eq_true rfl]
    rfl
  | succ k ih =>
    intro f n ms LL L s5 s6 h hn F hl hf
    obtain ⟨f, rfl⟩ : ∃ q, f = q + 1 := ⟨f - 1, by omega⟩
    obtain ⟨m1, LL1, L1, t5, t6, g1, F1, q1, e1⟩ := ev_step46 (w := w) (c := c) (m := m) (s5 := s5) (s6 := s6) (r := r) h (by omega) F hi (by omega)
    obtain ⟨m2, LL2, u5, u6, g2, F2, e2⟩ := ih f (n + 2) m1 LL1 L1 t5 t6 g1 (by omega) F1 (by omega) (by omega)
    refine ⟨m2, LL2, u5, u6, g2.mono (by omega), F2, ?_⟩
    refine k_whT ?_ e1 e2
    rw [t0, decide_eq_false (fun z => by rw [z] at hl; simp at hl)]
    rfl
end
end F103
section F104
open PySem PySem.Spec PyProof.Rows L2 He Ds
theorem any_two {x a b : Str} : dNotInT (.str x) (.tup [.str a, .str b]) = some (.bl (!decide (x = a) && !decide (x = b))) := by
  unfold dNotInT dAnyT
  simp only [toV, toVs, Option.bind_some, Option.map_some, inV, List.any_cons, List.any_nil, Bool.or_false, eqV, Bool.not_or]
  congr 3
  · congr 1
    rw [Bool.eq_iff_iff, beq_iff_eq, decide_eq_true_eq]
    exact eq_comm
  · congr 1
    rw [Bool.eq_iff_iff, beq_iff_eq, decide_eq_true_eq]
    exact eq_comm
theorem k_compC {vs : List Nat} {t : Tgt} {tt : M Bool} {te : M (Bool × D)} {ρ0 ρ ρ1 ρ2 ρ3 ρ4 : List Slot} {a : Bool × D} {as : List (Bool × D)} {f : Bool} {acc : List D} {b : Bool × D} (h1 : t a ρ = some ρ1) (h2 : tt ρ1 = .ok true ρ2) (h3 : te ρ2 = .ok b ρ3) (h4 : acc.length < 100000) (h5 : wipeS ρ3 vs = ρ4) :
    compD vs t tt te ρ0 (a :: as) f acc ρ = compD vs t tt te ρ0 as (f && (b.1 || flatD b.2)) (acc ++ [b.2]) ρ4 := by
  subst h5
  rw [compD, h1]
  dsimp only
  rw [h2]
  dsimp only
  rw [h3]
  dsimp only
  rw [if_pos h4]
theorem eq_two {x y : Bool} : dEq (.lst [.bl x, .bl y]) (.lst [.bl true, .bl true]) = some (.bl (x && y)) := by cases x <;> cases y <;> rfl
theorem ne_blB {x : Bool} : dNe (.bl x) (.bl x) = some (.bl false) := by cases x <;> rfl
section
variable {w : World} {ns : List Str} {ls vs : List Pr} {A B E G X : List Str} {ms : List Int} {s5 s6 : Slot}
structure Lo (ns A B E G : List Str) : Prop where
  nd : (A ++ (B ++ (E ++ G))).Nodup
  inn : ∀ x ∈ A ++ (B ++ (E ++ G)), x ∈ ns
theorem Lo.bar1 (h : Lo ns A B E G) : BarOk ns A (B ++ E) G := by
  obtain ⟨n, i⟩ := h
  simp only [List.nodup_append, List.mem_append] at n i
  refine ⟨fun x hx => i x (.inl hx), n.1, fun x hx => ?_, ?_, fun x hx => i x (.inr (.inr (.inr hx))), n.2.1.2.1.2.1, fun x hx z => ?_, fun x hx z => ?_⟩
  · rcases List.mem_append.mp hx with hx | hx
    · exact i x (.inr (.inl hx))
    · exact i x (.inr (.inr (.inl hx)))
  · exact List.nodup_append.mpr ⟨n.2.1.1, n.2.1.2.1.1, fun a ha b hb => n.2.1.2.2 a ha b (.inl hb)⟩
  · rcases List.mem_append.mp hx with hx | hx
    · exact n.2.2 x z x (.inl hx) rfl
    · exact n.2.2 x z x (.inr (.inl hx)) rfl
  · rcases List.mem_append.mp z with z | z
    · exact n.2.2 x z x (.inr (.inr hx)) rfl
    · rcases List.mem_append.mp z with z | z
      · exact n.2.1.2.2 x z x (.inr hx) rfl
      · exact n.2.1.2.1.2.2 x z x hx rfl
theorem bar_sub {O T T' G : List Str} (h : BarOk ns O T G) (s : T'.Sublist T) : BarOk ns O T' G :=
  ⟨h.o, h.on, fun x hx => h.t x (s.subset hx), h.tn.sublist s, h.g, h.gn, fun x hx => h.d x (s.subset hx), fun x hx z => h.e x hx ((List.mem_append.mp z).elim (fun y => List.mem_append_left _ y) fun y => List.mem_append_right _ (s.subset y))⟩
theorem Lo.bar2 (h : Lo ns A B E G) : BarOk ns A B G := bar_sub h.bar1 (List.sublist_append_left _ _)
theorem Lo.bar3 (h : Lo ns A B E G) : BarOk ns A E G := bar_sub h.bar1 (List.sublist_append_right _ _)
theorem Lo.bar4 (h : Lo ns A B E G) : BarOk ns A B (G ++ E) := by
  have p := h.bar1
  obtain ⟨n, i⟩ := h
  simp only [List.nodup_append, List.mem_append] at n i
  refine ⟨p.o, p.on, fun x hx => i x (.inr (.inl hx)), n.2.1.1, fun x hx => ?_, ?_, fun x hx z => n.2.2 x z x (.inl hx) rfl, fun x hx z => ?_⟩
  · rcases List.mem_append.mp hx with hx | hx
    · exact p.g x hx
    · exact i x (.inr (.inr (.inl hx)))
  · exact List.nodup_append.mpr ⟨n.2.1.2.1.2.1, n.2.1.2.1.1, fun a ha b hb e => n.2.1.2.1.2.2 b hb a ha e.symm⟩
  · rcases List.mem_append.mp hx with hx | hx
    · exact p.e x hx ((List.mem_append.mp z).elim (fun y => List.mem_append_left _ y) fun y => List.mem_append_right _ (List.mem_append_left _ y))
    · rcases List.mem_append.mp z with z | z
      · exact n.2.2 x z x (.inr (.inl hx)) rfl
      · exact n.2.1.2.2 x z x (.inl hx) rfl
theorem Lo.bar5 (h : Lo ns A B E G) : BarOk ns A [] G := bar_sub h.bar1 (List.nil_sublist _)
theorem Lo.bar6 (h : Lo ns A B E G) : BarOk ns [] B [] := by
  have p := h.bar2
  exact ⟨fun x hx => by simp at hx, List.nodup_nil, p.t, p.tn, fun x hx => by simp at hx, List.nodup_nil, fun x _ z => by simp at z, fun x hx => by simp at hx⟩
theorem turn46 (C : ChartOk 6 ns ls vs) (h : Lo ns A B E G) {x y : Str} (hp : (x, y) ∈ ls ++ vs) {s14 s15 s16 : Slot} : ∃ t16, B_law_fits_2 w [.pool ms, .dat true (cht ns ls vs), .dat true (diag ns ls vs), .dat true (.lst [sL A, sL B, sL E, sL G, sL X]), .own true (([] : List Str).map D.str), s5, s6, .dat true (sL A), .dat true (sL B), .dat true (sL E), .dat true (sL G), .dat true (.bl (brd ns ls vs A (B ++ E) G)), .dat true (.lst [.bl (brd ns ls vs A B G), .bl (brd ns ls vs A E G)]), .dat true (.bl (brd ns ls vs A B (G ++ E))), .dat true (.str x), .dat true (.str y), s16, .no] = .nx [.pool ms, .dat true (cht ns ls vs), .dat true (diag ns ls vs), .dat true (.lst [sL A, sL B, sL E, sL G, sL X]), .own true (([] : List Str).map D.str), s5, s6, .dat true (sL A), .dat true (sL B), .dat true (sL E), .dat true (sL G), .dat true (.bl (brd ns ls vs A (B ++ E) G)), .dat true (.lst [.bl (brd ns ls vs A B G), .bl (brd ns ls vs A E G)]), .dat true (.bl (brd ns ls vs A B (G ++ E))), .dat true (.str x), .dat true (.str y), t16, .no] := by
  have hi := C.hi
  have p := h.bar1
  have lG := nodup_len p.gn p.g
  obtain ⟨cw1, cw2⟩ := chart_with C
  have hxy : x ∈ ns ∧ y ∈ ns ∧ x ≠ y ∧ jns ls vs x y ≠ [] := by
    rcases List.mem_append.mp hp with hp | hp
    · obtain ⟨i1, i2⟩ := cw1 _ hp
      refine ⟨i1, i2, fun e => ?_, fun z => ?_⟩
      · change x = y at e
        subst e
        exact no_backC C ⟨hp, hp⟩
      · unfold jns at z; rw [if_pos hp] at z; simp at z
    · obtain ⟨i1, i2, i3⟩ := C.vin _ hp
      refine ⟨i1, i2, i3, fun z => ?_⟩
      unfold jns at z; rw [if_pos (Or.inl hp)] at z; simp at z
  obtain ⟨hx, hy, ne, hj⟩ := hxy
  have fK : ∀ z ∈ G.filter (fun t => !decide (t = x) && !decide (t = y)), z ∈ ns ∧ z ≠ x ∧ z ≠ y := fun z hz => by
    rw [List.mem_filter, Bool.and_eq_true, Bool.not_eq_true', Bool.not_eq_true', decide_eq_false_iff_not, decide_eq_false_iff_not] at hz
    exact ⟨p.g z hz.1, hz.2.1, hz.2.2⟩
  have nK : (G.filter (fun t => !decide (t = x) && !decide (t = y))).Nodup := p.gn.filter _
  have cmp : mComp [5] (mIt itList (mVar 10)) (tgName 5) (mT (mOp dNotInT (mLook 5) (mE (mTup (maCons (mDat (mVar 14)) (maCons (mDat (mVar 15)) (mp []))))))) (mVar 5) [.pool ms, .dat true (cht ns ls vs), .dat true (diag ns ls vs), .dat true (.lst [sL A, sL B, sL E, sL G, sL X]), .own true (([] : List Str).map D.str), s5, s6, .dat true (sL A), .dat true (sL B), .dat true (sL E), .dat true (sL G), .dat true (.bl (brd ns ls vs A (B ++ E) G)), .dat true (.lst [.bl (brd ns ls vs A B G), .bl (brd ns ls vs A E G)]), .dat true (.bl (brd ns ls vs A B (G ++ E))), .dat true (.str x), .dat true (.str y), s16, .no] = .ok (true, (G.filter (fun t => !decide (t = x) && !decide (t = y))).map D.str) [.pool ms, .dat true (cht ns ls vs), .dat true (diag ns ls vs), .dat true (.lst [sL A, sL B, sL E, sL G, sL X]), .own true (([] : List Str).map D.str), s5, s6, .dat true (sL A), .dat true (sL B), .dat true (sL E), .dat true (sL G), .dat true (.bl (brd ns ls vs A (B ++ E) G)), .dat true (.lst [.bl (brd ns ls vs A B G), .bl (brd ns ls vs A E G)]), .dat true (.bl (brd ns ls vs A B (G ++ E))), .dat true (.str x), .dat true (.str y), s16, .no] := by
    apply j_comp (e := fun t => (true, D.str t)) (xs := G) (p := fun t => !decide (t = x) && !decide (t = y)) (g := D.str)
    · walk_at "d5ry"
    · omega
    · rfl
    · intro t ht
      rfl
    · intro t ht
      apply j_T
      apply j_op
      · apply k_look; rfl
      · apply j_E
        apply j_tup (ds := [.str x, .str y])
        · walk_at "d5ry"
        · show 2 ≤ 1000; decide
      · rfl
      · rfl
      · exact any_two
    · intro t ht
      walk_at "d5ry"
    · intro t ht
      rfl
    · rfl
  generalize hK : G.filter (fun t => !decide (t = x) && !decide (t = y)) = K at fK nK cmp
  have gx : x ∉ K := fun z => (fK x z).2.1 rfl
  have gy : y ∉ K := fun z => (fK y z).2.2 rfl
  have two := fway_two (given := K) (ls := ls) (vs := vs) hy ne gx hj
  have e1 : D_barred w [diag ns ls vs, sL [x], sL [y], sL K] = .ok true (.bl false) := by
    rw [ev_barred (w := w) C (ones := [x]) (others := [y]) (given := K) ⟨by simpa using hx, by simp, by simpa using hy, by simp, fun z hz => (fK z hz).1, nK, by simpa using Ne.symm ne, fun z hz zz => by
      simp only [List.mem_append, List.mem_singleton] at zz
      exact zz.elim (fK z hz).2.1 (fK z hz).2.2⟩]
    unfold brd
    simp [two]
  have e2 : D_open_way w [diag ns ls vs, .str x, .str y, sL K] = .ok true (sL [x, y]) := by
    rw [ev_open_way (w := w) C hx hy (fun z hz => (fK z hz).1) nK gx gy, two]
    rfl
  refine ⟨.dat true (sL K), ?_⟩
  unfold B_law_fits_2
  apply k_seq (ρ1 := [.pool ms, .dat true (cht ns ls vs), .dat true (diag ns ls vs), .dat true (.lst [sL A, sL B, sL E, sL G, sL X]), .own true (([] : List Str).map D.str), s5, s6, .dat true (sL A), .dat true (sL B), .dat true (sL E), .dat true (sL G), .dat true (.bl (brd ns ls vs A (B ++ E) G)), .dat true (.lst [.bl (brd ns ls vs A B G), .bl (brd ns ls vs A E G)]), .dat true (.bl (brd ns ls vs A B (G ++ E))), .dat true (.str x), .dat true (.str y), .dat true (sL K), .no])
  · exact j_set (j_keep cmp) rfl rfl
  have t1 : mT (mCall (D_barred w) (maCons (mDat (mVar 2)) (maCons (mDat (mKeep (mLst (maCons (mDat (mVar 14)) (mp []))))) (maCons (mDat (mKeep (mLst (maCons (mDat (mVar 15)) (mp []))))) (maCons (mDat (mVar 16)) (mp [])))))) [.pool ms, .dat true (cht ns ls vs), .dat true (diag ns ls vs), .dat true (.lst [sL A, sL B, sL E, sL G, sL X]), .own true (([] : List Str).map D.str), s5, s6, .dat true (sL A), .dat true (sL B), .dat true (sL E), .dat true (sL G), .dat true (.bl (brd ns ls vs A (B ++ E) G)), .dat true (.lst [.bl (brd ns ls vs A B G), .bl (brd ns ls vs A E G)]), .dat true (.bl (brd ns ls vs A B (G ++ E))), .dat true (.str x), .dat true (.str y), .dat true (sL K), .no] = .ok false [.pool ms, .dat true (cht ns ls vs), .dat true (diag ns ls vs), .dat true (.lst [sL A, sL B, sL E, sL G, sL X]), .own true (([] : List Str).map D.str), s5, s6, .dat true (sL A), .dat true (sL B), .dat true (sL E), .dat true (sL G), .dat true (.bl (brd ns ls vs A (B ++ E) G)), .dat true (.lst [.bl (brd ns ls vs A B G), .bl (brd ns ls vs A E G)]), .dat true (.bl (brd ns ls vs A B (G ++ E))), .dat true (.str x), .dat true (.str y), .dat true (sL K), .no] := by
    apply j_T
    apply j_call (ds := [diag ns ls vs, sL [x], sL [y], sL K])
    · walk_at "d5ry"
    · exact e1
  have t2 : mT (mOp dNe (mE (mCall (D_open_way w) (maCons (mDat (mVar 2)) (maCons (mDat (mVar 14)) (maCons (mDat (mVar 15)) (maCons (mDat (mVar 16)) (mp []))))))) (mE (mKeep (mLst (maCons (mDat (mVar 14)) (maCons (mDat (mVar 15)) (mp []))))))) [.pool ms, .dat true (cht ns ls vs), .dat true (diag ns ls vs), .dat true (.lst [sL A, sL B, sL E, sL G, sL X]), .own true (([] : List Str).map D.str), s5, s6, .dat true (sL A), .dat true (sL B), .dat true (sL E), .dat true (sL G), .dat true (.bl (brd ns ls vs A (B ++ E) G)), .dat true (.lst [.bl (brd ns ls vs A B G), .bl (brd ns ls vs A E G)]), .dat true (.bl (brd ns ls vs A B (G ++ E))), .dat true (.str x), .dat true (.str y), .dat true (sL K), .no] = .ok false [.pool ms, .dat true (cht ns ls vs), .dat true (diag ns ls vs), .dat true (.lst [sL A, sL B, sL E, sL G, sL X]), .own true (([] : List Str).map D.str), s5, s6, .dat true (sL A), .dat true (sL B), .dat true (sL E), .dat true (sL G), .dat true (.bl (brd ns ls vs A (B ++ E) G)), .dat true (.lst [.bl (brd ns ls vs A B G), .bl (brd ns ls vs A E G)]), .dat true (.bl (brd ns ls vs A B (G ++ E))), .dat true (.str x), .dat true (.str y), .dat true (sL K), .no] := by
    apply j_T
    apply j_op (d1 := sL [x, y]) (d2 := sL [x, y])
    · apply j_E
      apply j_call (ds := [diag ns ls vs, .str x, .str y, sL K])
      · walk_at "d5ry"
      · exact e2
    · apply j_E
      apply j_keep
      apply j_lst (ds := [.str x, .str y])
      · walk_at "d5ry"
      · show 2 ≤ 1000; decide
    · rfl
    · rfl
    · have := o_neL (x := [x, y]) (y := [x, y])
      rwa [decide_eq_true rfl] at this
  apply k_if (j_or t1 t2)
  rfl
theorem loop46 (C : ChartOk 6 ns ls vs) (h : Lo ns A B E G) : ∀ (ps : List Pr), (∀ p ∈ ps, p ∈ ls ++ vs) → ∀ s14 s15 s16 : Slot, ∃ t14 t15 t16, forD (tgTup 2 (tgsCons (tgName 14) (tgsCons (tgName 15) tgsNil))) (B_law_fits_2 w) (ps.map fun p => (true, prD p)) [.pool ms, .dat true (cht ns ls vs), .dat true (diag ns ls vs), .dat true (.lst [sL A, sL B, sL E, sL G, sL X]), .own true (([] : List Str).map D.str), s5, s6, .dat true (sL A), .dat true (sL B), .dat true (sL E), .dat true (sL G), .dat true (.bl (brd ns ls vs A (B ++ E) G)), .dat true (.lst [.bl (brd ns ls vs A B G), .bl (brd ns ls vs A E G)]), .dat true (.bl (brd ns ls vs A B (G ++ E))), s14, s15, s16, .no] = .nx [.pool ms, .dat true (cht ns ls vs), .dat true (diag ns ls vs), .dat true (.lst [sL A, sL B, sL E, sL G, sL X]), .own true (([] : List Str).map D.str), s5, s6, .dat true (sL A), .dat true (sL B), .dat true (sL E), .dat true (sL G), .dat true (.bl (brd ns ls vs A (B ++ E) G)), .dat true (.lst [.bl (brd ns ls vs A B G), .bl (brd ns ls vs A E G)]), .dat true (.bl (brd ns ls vs A B (G ++ E))), t14, t15, t16, .no]
  | [], _, s14, s15, s16 => ⟨s14, s15, s16, rfl⟩
  | (x, y) :: ps, hp, s14, s15, s16 => by
    obtain ⟨u16, e1⟩ := turn46 (w := w) (ms := ms) (s5 := s5) (s6 := s6) (X := X) (s16 := s16) (s14 := s14) (s15 := s15) C h (hp (x, y) List.mem_cons_self)
    obtain ⟨t14, t15, t16, e2⟩ := loop46 C h ps (fun p z => hp p (List.mem_cons_of_mem _ z)) (.dat true (.str x)) (.dat true (.str y)) u16
    refine ⟨t14, t15, t16, ?_⟩
    rw [List.map_cons, k_forC (show tgTup 2 (tgsCons (tgName 14) (tgsCons (tgName 15) tgsNil)) (true, prD (x, y)) _ = some [.pool ms, .dat true (cht ns ls vs), .dat true (diag ns ls vs), .dat true (.lst [sL A, sL B, sL E, sL G, sL X]), .own true (([] : List Str).map D.str), s5, s6, .dat true (sL A), .dat true (sL B), .dat true (sL E), .dat true (sL G), .dat true (.bl (brd ns ls vs A (B ++ E) G)), .dat true (.lst [.bl (brd ns ls vs A B G), .bl (brd ns ls vs A E G)]), .dat true (.bl (brd ns ls vs A B (G ++ E))), .dat true (.str x), .dat true (.str y), s16, .no] from rfl) e1, e2]
theorem rest46 (C : ChartOk 6 ns ls vs) (h : Lo ns A B E G) : ∃ ρ', (sSeq (sAsg (tgLst 4 (tgsCons (tgName 7) (tgsCons (tgName 8) (tgsCons (tgName 9) (tgsCons (tgName 10) tgsNil))))) (mKeep (mSl mSlL (mE (mRetL 3)) (mp none) (mPart (mp (true, D.int 4))))))
 (sSeq (sSet 11 (mCall (D_barred w) (maCons (mDat (mVar 2)) (maCons (mDat (mVar 7)) (maCons (mDat (mKeep (mBin mCatK (mLook 8) (mLook 9)))) (maCons (mDat (mVar 10)) (mp [])))))))
 (sSeq (sSet 12 (mKeep (mComp [17] (mIt itTup (mTup (maCons (mDat (mVar 8)) (maCons (mDat (mVar 9)) (mp []))))) (tgName 17) (mp true) (mCall (D_barred w) (maCons (mDat (mVar 2)) (maCons (mDat (mVar 7)) (maCons (mDat (mVar 17)) (maCons (mDat (mVar 10)) (mp [])))))))))
 (sSeq (sIf (mOr (mT (mOp dNe (mLook 11) (mE (mOp dEq (mLook 12) (mE (mKeep (mLst (maCons (mDat (mp (true, D.bl true))) (maCons (mDat (mp (true, D.bl true))) (mp [])))))))))) (mT (mOp dNe (mE (mCall (D_barred w) (maCons (mDat (mVar 2)) (maCons (mDat (mKeep (mBin mCatK (mLook 8) (mLook 9)))) (maCons (mDat (mVar 7)) (maCons (mDat (mVar 10)) (mp []))))))) (mLook 11))))
 (sRet (mp (true, D.bl false)))
 sNil)
 (sSeq (sSet 13 (mCall (D_barred w) (maCons (mDat (mVar 2)) (maCons (mDat (mVar 7)) (maCons (mDat (mVar 8)) (maCons (mDat (mKeep (mBin mCatK (mLook 10) (mLook 9)))) (mp [])))))))
 (sSeq (sIf (mOr (mAnd (mT (mVar 11)) (mNot (mT (mVar 13)))) (mAnd (mT (mBin mIxL (mLook 12) (mE (mp (true, D.int 1))))) (mAnd (mT (mVar 13)) (mNot (mT (mVar 11))))))
 (sRet (mp (true, D.bl false)))
 sNil)
 (sSeq (sFor (mIt itList (mKeep (mBin mCatK (mE (mBin mIxT (mLook 1) (mE (mp (true, D.int 1))))) (mE (mBin mIxT (mLook 1) (mE (mp (true, D.int 2)))))))) (tgTup 2 (tgsCons (tgName 14) (tgsCons (tgName 15) tgsNil)))
 (B_law_fits_2 w))
 (sRet (mAndV (mCall (D_barred w) (maCons (mDat (mVar 2)) (maCons (mDat (mVar 7)) (maCons (mDat (mKeep (mLst (mp [])))) (maCons (mDat (mVar 10)) (mp [])))))) (mCall (D_barred w) (maCons (mDat (mVar 2)) (maCons (mDat (mKeep (mLst (mp [])))) (maCons (mDat (mVar 8)) (maCons (mDat (mKeep (mLst (mp [])))) (mp []))))))))))))))) [.pool ms, .dat true (cht ns ls vs), .dat true (diag ns ls vs), .own2 true none (dL [A, B, E, G, X]), .own true (([] : List Str).map D.str), s5, s6, .no, .no, .no, .no, .no, .no, .no, .no, .no, .no, .no] = .rt true (.bl true) ρ' ∧ ρ'[0]? = some (.pool ms) := by
  have hi := C.hi
  have p1 := h.bar1
  have p2 := h.bar2
  have p4 := h.bar4
  have lA := nodup_len p1.on p1.o
  have lB := nodup_len p2.tn p2.t
  have lG := nodup_len p1.gn p1.g
  have lE := nodup_len h.bar3.tn h.bar3.t
  have cw := (chart_with C).1
  have hn : ∀ p ∈ ls, p.2 ∈ ns := fun p hp => (cw p hp).2
  have e1 := ev_barred (w := w) C p1
  have e2 := ev_barred (w := w) C p2
  have e3 := ev_barred (w := w) C h.bar3
  have e4 := ev_barred (w := w) C p4
  have e5 := ev_barred (w := w) C p1.rev
  rw [brd_rev p1] at e5
  have e6 := ev_barred (w := w) C h.bar5
  have e7 := ev_barred (w := w) C h.bar6
  have q6 : brd ns ls vs A [] G = true := by unfold brd; simp
  have q7 : brd ns ls vs [] B [] = true := by unfold brd; rfl
  rw [q6] at e6
  rw [q7] at e7
  have ea := brd_app (ns := ns) (ls := ls) (vs := vs) (given := G) (E := E) (A := A) (B := B)
  have ew : brd ns ls vs A (B ++ E) G = true → brd ns ls vs A B (G ++ E) = true := brd_weak p1.o hn
  have ec : brd ns ls vs A E G = true → brd ns ls vs A B (G ++ E) = true → brd ns ls vs A (B ++ E) G = true := brd_contr p1.o
  obtain ⟨t14, t15, t16, el⟩ := loop46 (w := w) (ms := ms) (s5 := s5) (s6 := s6) (X := X) C h (ls ++ vs) (fun _ z => z) .no .no .no
  obtain ⟨f, _, _⟩ := cht_fw C
  have ll := f.l
  have lv := f.v
  refine ⟨[.pool ms, .dat true (cht ns ls vs), .dat true (diag ns ls vs), .dat true (.lst [sL A, sL B, sL E, sL G, sL X]), .own true (([] : List Str).map D.str), s5, s6, .dat true (sL A), .dat true (sL B), .dat true (sL E), .dat true (sL G), .dat true (.bl (brd ns ls vs A (B ++ E) G)), .dat true (.lst [.bl (brd ns ls vs A B G), .bl (brd ns ls vs A E G)]), .dat true (.bl (brd ns ls vs A B (G ++ E))), t14, t15, t16, .no], ?_, rfl⟩
  have fz : mSl mSlL (mE (mRetL 3)) (mp none) (mPart (mp (true, D.int 4))) [.pool ms, .dat true (cht ns ls vs), .dat true (diag ns ls vs), .own2 true none (dL [A, B, E, G, X]), .own true (([] : List Str).map D.str), s5, s6, .no, .no, .no, .no, .no, .no, .no, .no, .no, .no, .no] = .ok (true, [sL A, sL B, sL E, sL G]) [.pool ms, .dat true (cht ns ls vs), .dat true (diag ns ls vs), .dat true (.lst [sL A, sL B, sL E, sL G, sL X]), .own true (([] : List Str).map D.str), s5, s6, .no, .no, .no, .no, .no, .no, .no, .no, .no, .no, .no] := by
    apply j_slL (xs := [sL A, sL B, sL E, sL G, sL X]) (f := true)
    · apply j_E
      rfl
    · rfl
    · rfl
    · rfl
    · rfl
    · exact o_cut (e := fun x : D => x) (xs := [sL A, sL B, sL E, sL G, sL X]) (i := 4) |>.trans rfl
  apply k_seq (ρ1 := [.pool ms, .dat true (cht ns ls vs), .dat true (diag ns ls vs), .dat true (.lst [sL A, sL B, sL E, sL G, sL X]), .own true (([] : List Str).map D.str), s5, s6, .dat true (sL A), .dat true (sL B), .dat true (sL E), .dat true (sL G), .no, .no, .no, .no, .no, .no, .no])
  · apply j_asg
    · exact j_keep fz
    · rfl
  apply k_seq (ρ1 := [.pool ms, .dat true (cht ns ls vs), .dat true (diag ns ls vs), .dat true (.lst [sL A, sL B, sL E, sL G, sL X]), .own true (([] : List Str).map D.str), s5, s6, .dat true (sL A), .dat true (sL B), .dat true (sL E), .dat true (sL G), .dat true (.bl (brd ns ls vs A (B ++ E) G)), .no, .no, .no, .no, .no, .no])
  · apply j_set (f := true) (d := .bl (brd ns ls vs A (B ++ E) G))
    · apply j_call (ds := [diag ns ls vs, sL A, sL (B ++ E), sL G])
      · walk_at "d5ry"
      · exact e1
    · rfl
    · rfl
  apply k_seq (ρ1 := [.pool ms, .dat true (cht ns ls vs), .dat true (diag ns ls vs), .dat true (.lst [sL A, sL B, sL E, sL G, sL X]), .own true (([] : List Str).map D.str), s5, s6, .dat true (sL A), .dat true (sL B), .dat true (sL E), .dat true (sL G), .dat true (.bl (brd ns ls vs A (B ++ E) G)), .dat true (.lst [.bl (brd ns ls vs A B G), .bl (brd ns ls vs A E G)]), .no, .no, .no, .no, .no])
  · apply j_set (f := true) (d := .lst [.bl (brd ns ls vs A B G), .bl (brd ns ls vs A E G)])
    · apply j_keep
      have cal : ∀ {T : List Str} {b : Bool}, D_barred w [diag ns ls vs, sL A, sL T, sL G] = .ok true (.bl b) → mCall (D_barred w) (maCons (mDat (mVar 2)) (maCons (mDat (mVar 7)) (maCons (mDat (mVar 17)) (maCons (mDat (mVar 10)) (mp []))))) [.pool ms, .dat true (cht ns ls vs), .dat true (diag ns ls vs), .dat true (.lst [sL A, sL B, sL E, sL G, sL X]), .own true (([] : List Str).map D.str), s5, s6, .dat true (sL A), .dat true (sL B), .dat true (sL E), .dat true (sL G), .dat true (.bl (brd ns ls vs A (B ++ E) G)), .no, .no, .no, .no, .no, .dat true (sL T)] = .ok (true, .bl b) [.pool ms, .dat true (cht ns ls vs), .dat true (diag ns ls vs), .dat true (.lst [sL A, sL B, sL E, sL G, sL X]), .own true (([] : List Str).map D.str), s5, s6, .dat true (sL A), .dat true (sL B), .dat true (sL E), .dat true (sL G), .dat true (.bl (brd ns ls vs A (B ++ E) G)), .no, .no, .no, .no, .no, .dat true (sL T)] := fun {T b} e => by
        apply j_call (ds := [diag ns ls vs, sL A, sL T, sL G])
        · walk_at "d5ry"
        · exact e
      apply k_comp (its := [(true, sL B), (true, sL E)]) (ρ1 := [.pool ms, .dat true (cht ns ls vs), .dat true (diag ns ls vs), .dat true (.lst [sL A, sL B, sL E, sL G, sL X]), .own true (([] : List Str).map D.str), s5, s6, .dat true (sL A), .dat true (sL B), .dat true (sL E), .dat true (sL G), .dat true (.bl (brd ns ls vs A (B ++ E) G)), .no, .no, .no, .no, .no, .no])
      · apply j_it
        · apply j_tup (ds := [sL B, sL E]) (g := true)
          · walk_at "d5ry"
          · show 2 ≤ 1000; decide
        · rfl
      · refine (k_compC (t := tgName 17) (tt := mp true) (ρ1 := [.pool ms, .dat true (cht ns ls vs), .dat true (diag ns ls vs), .dat true (.lst [sL A, sL B, sL E, sL G, sL X]), .own true (([] : List Str).map D.str), s5, s6, .dat true (sL A), .dat true (sL B), .dat true (sL E), .dat true (sL G), .dat true (.bl (brd ns ls vs A (B ++ E) G)), .no, .no, .no, .no, .no, .dat true (sL B)]) (ρ2 := [.pool ms, .dat true (cht ns ls vs), .dat true (diag ns ls vs), .dat true (.lst [sL A, sL B, sL E, sL G, sL X]), .own true (([] : List Str).map D.str), s5, s6, .dat true (sL A), .dat true (sL B), .dat true (sL E), .dat true (sL G), .dat true (.bl (brd ns ls vs A (B ++ E) G)), .no, .no, .no, .no, .no, .dat true (sL B)]) (ρ4 := [.pool ms, .dat true (cht ns ls vs), .dat true (diag ns ls vs), .dat true (.lst [sL A, sL B, sL E, sL G, sL X]), .own true (([] : List Str).map D.str), s5, s6, .dat true (sL A), .dat true (sL B), .dat true (sL E), .dat true (sL G), .dat true (.bl (brd ns ls vs A (B ++ E) G)), .no, .no, .no, .no, .no, .no]) rfl rfl (cal e2) (by show 0 < 100000; decide) rfl).trans ?_
        refine (k_compC (t := tgName 17) (tt := mp true) (ρ1 := [.pool ms, .dat true (cht ns ls vs), .dat true (diag ns ls vs), .dat true (.lst [sL A, sL B, sL E, sL G, sL X]), .own true (([] : List Str).map D.str), s5, s6, .dat true (sL A), .dat true (sL B), .dat true (sL E), .dat true (sL G), .dat true (.bl (brd ns ls vs A (B ++ E) G)), .no, .no, .no, .no, .no, .dat true (sL E)]) (ρ2 := [.pool ms, .dat true (cht ns ls vs), .dat true (diag ns ls vs), .dat true (.lst [sL A, sL B, sL E, sL G, sL X]), .own true (([] : List Str).map D.str), s5, s6, .dat true (sL A), .dat true (sL B), .dat true (sL E), .dat true (sL G), .dat true (.bl (brd ns ls vs A (B ++ E) G)), .no, .no, .no, .no, .no, .dat true (sL E)]) (ρ4 := [.pool ms, .dat true (cht ns ls vs), .dat true (diag ns ls vs), .dat true (.lst [sL A, sL B, sL E, sL G, sL X]), .own true (([] : List Str).map D.str), s5, s6, .dat true (sL A), .dat true (sL B), .dat true (sL E), .dat true (sL G), .dat true (.bl (brd ns ls vs A (B ++ E) G)), .no, .no, .no, .no, .no, .no]) rfl rfl (cal e3) (by show 1 < 100000; decide) rfl).trans ?_
        rfl
    · rfl
    · rfl
  have t1 : mT (mOp dNe (mLook 11) (mE (mOp dEq (mLook 12) (mE (mKeep (mLst (maCons (mDat (mp (true, D.bl true))) (maCons (mDat (mp (true, D.bl true))) (mp []))))))))) [.pool ms, .dat true (cht ns ls vs), .dat true (diag ns ls vs), .dat true (.lst [sL A, sL B, sL E, sL G, sL X]), .own true (([] : List Str).map D.str), s5, s6, .dat true (sL A), .dat true (sL B), .dat true (sL E), .dat true (sL G), .dat true (.bl (brd ns ls vs A (B ++ E) G)), .dat true (.lst [.bl (brd ns ls vs A B G), .bl (brd ns ls vs A E G)]), .no, .no, .no, .no, .no] = .ok false [.pool ms, .dat true (cht ns ls vs), .dat true (diag ns ls vs), .dat true (.lst [sL A, sL B, sL E, sL G, sL X]), .own true (([] : List Str).map D.str), s5, s6, .dat true (sL A), .dat true (sL B), .dat true (sL E), .dat true (sL G), .dat true (.bl (brd ns ls vs A (B ++ E) G)), .dat true (.lst [.bl (brd ns ls vs A B G), .bl (brd ns ls vs A E G)]), .no, .no, .no, .no, .no] := by
    apply j_T
    apply j_op (d2 := .bl (brd ns ls vs A B G && brd ns ls vs A E G))
    · apply k_look; rfl
    · apply j_E
      apply j_op (d2 := .lst [.bl true, .bl true])
      · apply k_look; rfl
      · walk_at "d5ry"
      · rfl
      · rfl
      · exact eq_two
    · rfl
    · rfl
    · rw [← ea]; exact ne_blB
  have t2 : mT (mOp dNe (mE (mCall (D_barred w) (maCons (mDat (mVar 2)) (maCons (mDat (mKeep (mBin mCatK (mLook 8) (mLook 9)))) (maCons (mDat (mVar 7)) (maCons (mDat (mVar 10)) (mp []))))))) (mLook 11)) [.pool ms, .dat true (cht ns ls vs), .dat true (diag ns ls vs), .dat true (.lst [sL A, sL B, sL E, sL G, sL X]), .own true (([] : List Str).map D.str), s5, s6, .dat true (sL A), .dat true (sL B), .dat true (sL E), .dat true (sL G), .dat true (.bl (brd ns ls vs A (B ++ E) G)), .dat true (.lst [.bl (brd ns ls vs A B G), .bl (brd ns ls vs A E G)]), .no, .no, .no, .no, .no] = .ok false [.pool ms, .dat true (cht ns ls vs), .dat true (diag ns ls vs), .dat true (.lst [sL A, sL B, sL E, sL G, sL X]), .own true (([] : List Str).map D.str), s5, s6, .dat true (sL A), .dat true (sL B), .dat true (sL E), .dat true (sL G), .dat true (.bl (brd ns ls vs A (B ++ E) G)), .dat true (.lst [.bl (brd ns ls vs A B G), .bl (brd ns ls vs A E G)]), .no, .no, .no, .no, .no] := by
    apply j_T
    apply j_op (d1 := .bl (brd ns ls vs A (B ++ E) G))
    · apply j_E
      apply j_call (ds := [diag ns ls vs, sL (B ++ E), sL A, sL G])
      · walk_at "d5ry"
      · exact e5
    · apply k_look; rfl
    · rfl
    · rfl
    · exact ne_blB
  apply k_seq (ρ1 := [.pool ms, .dat true (cht ns ls vs), .dat true (diag ns ls vs), .dat true (.lst [sL A, sL B, sL E, sL G, sL X]), .own true (([] : List Str).map D.str), s5, s6, .dat true (sL A), .dat true (sL B), .dat true (sL E), .dat true (sL G), .dat true (.bl (brd ns ls vs A (B ++ E) G)), .dat true (.lst [.bl (brd ns ls vs A B G), .bl (brd ns ls vs A E G)]), .no, .no, .no, .no, .no])
  · apply k_if (j_or t1 t2)
    rfl
  apply k_seq (ρ1 := [.pool ms, .dat true (cht ns ls vs), .dat true (diag ns ls vs), .dat true (.lst [sL A, sL B, sL E, sL G, sL X]), .own true (([] : List Str).map D.str), s5, s6, .dat true (sL A), .dat true (sL B), .dat true (sL E), .dat true (sL G), .dat true (.bl (brd ns ls vs A (B ++ E) G)), .dat true (.lst [.bl (brd ns ls vs A B G), .bl (brd ns ls vs A E G)]), .dat true (.bl (brd ns ls vs A B (G ++ E))), .no, .no, .no, .no])
  · apply j_set (f := true) (d := .bl (brd ns ls vs A B (G ++ E)))
    · apply j_call (ds := [diag ns ls vs, sL A, sL B, sL (G ++ E)])
      · walk_at "d5ry"
      · exact e4
    · rfl
    · rfl
  have t3 : mOr (mAnd (mT (mVar 11)) (mNot (mT (mVar 13)))) (mAnd (mT (mBin mIxL (mLook 12) (mE (mp (true, D.int 1))))) (mAnd (mT (mVar 13)) (mNot (mT (mVar 11))))) [.pool ms, .dat true (cht ns ls vs), .dat true (diag ns ls vs), .dat true (.lst [sL A, sL B, sL E, sL G, sL X]), .own true (([] : List Str).map D.str), s5, s6, .dat true (sL A), .dat true (sL B), .dat true (sL E), .dat true (sL G), .dat true (.bl (brd ns ls vs A (B ++ E) G)), .dat true (.lst [.bl (brd ns ls vs A B G), .bl (brd ns ls vs A E G)]), .dat true (.bl (brd ns ls vs A B (G ++ E))), .no, .no, .no, .no] = .ok ((brd ns ls vs A (B ++ E) G && !brd ns ls vs A B (G ++ E)) || (brd ns ls vs A E G && (brd ns ls vs A B (G ++ E) && !brd ns ls vs A (B ++ E) G))) [.pool ms, .dat true (cht ns ls vs), .dat true (diag ns ls vs), .dat true (.lst [sL A, sL B, sL E, sL G, sL X]), .own true (([] : List Str).map D.str), s5, s6, .dat true (sL A), .dat true (sL B), .dat true (sL E), .dat true (sL G), .dat true (.bl (brd ns ls vs A (B ++ E) G)), .dat true (.lst [.bl (brd ns ls vs A B G), .bl (brd ns ls vs A E G)]), .dat true (.bl (brd ns ls vs A B (G ++ E))), .no, .no, .no, .no] := by
    walk_at "d5ry"
  have q3 : ((brd ns ls vs A (B ++ E) G && !brd ns ls vs A B (G ++ E)) || (brd ns ls vs A E G && (brd ns ls vs A B (G ++ E) && !brd ns ls vs A (B ++ E) G))) = false := by
    cases x1 : brd ns ls vs A (B ++ E) G with
    | true => rw [ew x1]; cases brd ns ls vs A E G <;> rfl
    | false =>
      cases x2 : brd ns ls vs A E G with
      | false => cases brd ns ls vs A B (G ++ E) <;> rfl
      | true =>
        cases x3 : brd ns ls vs A B (G ++ E) with
        | false => rfl
        | true => have := ec x2 x3; rw [x1] at this; cases this
  apply k_seq (ρ1 := [.pool ms, .dat true (cht ns ls vs), .dat true (diag ns ls vs), .dat true (.lst [sL A, sL B, sL E, sL G, sL X]), .own true (([] : List Str).map D.str), s5, s6, .dat true (sL A), .dat true (sL B), .dat true (sL E), .dat true (sL G), .dat true (.bl (brd ns ls vs A (B ++ E) G)), .dat true (.lst [.bl (brd ns ls vs A B G), .bl (brd ns ls vs A E G)]), .dat true (.bl (brd ns ls vs A B (G ++ E))), .no, .no, .no, .no])
  · apply k_if t3
    rw [q3, if_neg (by decide)]
    rfl
  apply k_seq
  · apply k_for (its := (ls ++ vs).map fun p => (true, prD p)) (ρ1 := [.pool ms, .dat true (cht ns ls vs), .dat true (diag ns ls vs), .dat true (.lst [sL A, sL B, sL E, sL G, sL X]), .own true (([] : List Str).map D.str), s5, s6, .dat true (sL A), .dat true (sL B), .dat true (sL E), .dat true (sL G), .dat true (.bl (brd ns ls vs A (B ++ E) G)), .dat true (.lst [.bl (brd ns ls vs A B G), .bl (brd ns ls vs A E G)]), .dat true (.bl (brd ns ls vs A B (G ++ E))), .no, .no, .no, .no])
    · apply j_it (f := true) (d := pL (ls ++ vs))
      · apply j_keep
        apply j_catM (e := prD) (xs := ls) (ys := vs) (f' := true) (g' := true)
        · walk_at "d5ry"
        · walk_at "d5ry"
        · walk_at "d5ry"
        · rfl
        · rfl
        · rfl
        · rfl
        · omega
        · omega
      · exact it_prs
    · exact el
  apply j_ret
  apply j_andV (k := true) (z := true)
  · apply j_call (ds := [diag ns ls vs, sL A, .lst [], sL G])
    · walk_at "d5ry"
    · exact e6
  · apply j_call (ds := [diag ns ls vs, .lst [], sL B, .lst []])
    · walk_at "d5ry"
    · exact e7
theorem ev_law_fits {n : Nat} {ns : List Int} (h : PoolOk ns n) (hn : n ≤ 800000000) : ∃ ns', PoolOk ns' (n + 400) ∧ D_law_fits w ns [] = .ok true (.bl true) ns' := by
  obtain ⟨m1, xs, ls, vs, h1, C, e1⟩ := ev_ck (r := [.no, .no, .no, .no, .no, .no, .no, .no, .no, .no, .no, .no, .no, .no, .no, .no, .no]) h hn
  have hi := C.hi
  have em := ev_cmade C
  obtain ⟨m2, LL, t5, t6, h2, F, e2⟩ := ev_loop46 (w := w) (ns := xs) (c := .dat true (cht xs ls vs)) (m := .dat true (diag xs ls vs)) (r := [.no, .no, .no, .no, .no, .no, .no, .no, .no, .no, .no]) C.hi xs.length 100000 (n + 302) m1 [[], [], [], [], []] xs .no .no h1 (by omega) ⟨rfl, by simpa using C.nd, by simp⟩ rfl (by omega)
  obtain ⟨A, B, E, G, X, rfl⟩ : ∃ A B E G X, LL = [A, B, E, G, X] := by
    have := F.five
    match LL, this with
    | [A, B, E, G, X], _ => exact ⟨A, B, E, G, X, rfl⟩
  have lo : Lo xs A B E G := by
    have nd := F.nd
    have inn := F.inn
    simp only [List.flatten_cons, List.flatten_nil, List.append_nil] at nd inn
    have s : (A ++ (B ++ (E ++ G))).Sublist (A ++ (B ++ (E ++ (G ++ X)))) := (List.Sublist.refl _).append ((List.Sublist.refl _).append ((List.Sublist.refl _).append (List.sublist_append_left _ _)))
    exact ⟨nd.sublist s, fun x hx => inn x (s.subset hx)⟩
  obtain ⟨ρ', e3, e4⟩ := rest46 (w := w) (ms := m2) (s5 := t5) (s6 := t6) (X := X) C lo
  obtain ⟨ρt, rfl⟩ : ∃ t, ρ' = .pool m2 :: t := by
    cases ρ' with
    | nil => cases e4
    | cons a t => exact ⟨t, by rw [Option.some.inj e4]⟩
  refine ⟨m2, h2.mono (by omega), ?_⟩
  unfold D_law_fits
  apply j_runP
  · rfl
  · walk_at "d5ry"
  · apply k_seq (ρ1 := .pool m1 :: .dat true (cht xs ls vs) :: [.no, .no, .no, .no, .no, .no, .no, .no, .no, .no, .no, .no, .no, .no, .no, .no])
    · exact j_set e1 rfl rfl
    apply k_seq (ρ1 := .pool m1 :: .dat true (cht xs ls vs) :: .dat true (diag xs ls vs) :: .own2 true none (dL [[], [], [], [], []]) :: .own true (xs.map D.str) :: .no :: .no :: [.no, .no, .no, .no, .no, .no, .no, .no, .no, .no, .no])
    · apply j_par
      · apply j_pcD
        · apply j_call (ds := [cht xs ls vs])
          · walk_at "d5ry"
          · exact em
        · apply k_cons (s := .own2 true none (dL [[], [], [], [], []]))
          · rfl
          · apply j_pcO (f := true) (d := xs.map D.str)
            · walk_at "d5ry"
            · exact j_pnil
      · rfl
    apply k_seq (show sWhile _ _ _ _ = _ from e2)
    exact e3
  · rfl
  · rfl
end
end F104
end Da
section F105
namespace Da
open PySem PySem.Spec PyProof.Rows L2 He Ds
/-- the built-ins' names are free -/
structure Tx (mg : Str → Option Value) : Prop where
  n_abs : mg "abs" = none
  n_int : mg "int" = none
  n_len : mg "len" = none
  n_list : mg "list" = none
  n_max : mg "max" = none
  n_min : mg "min" = none
  n_range : mg "range" = none
  n_enumerate : mg "enumerate" = none
  n_zip : mg "zip" = none
  n_repr : mg "repr" = none
  n_isinstance : mg "isinstance" = none
  n_ValueError : mg "ValueError" = none
  n_all : mg "all" = none
  n_any : mg "any" = none
  n_sum : mg "sum" = none
  n_sorted : mg "sorted" = none
  n_tuple : mg "tuple" = none
  n_dict : mg "dict" = none
  n_set : mg "set" = none
  n_str : mg "str" = none
abbrev FnP (K : PySem.W.Frag) (x q : Str) (st : Stmt) (f : Addr) (fd : FuncData) : Prop := FunD K x q (defArgs st) (defBody st) (defScope st) [] [] f fd
end Da
end F105
section F106
/-! A def that calls itself: so many calls, one within another, as are allowed. -/
namespace Da
open PySem PySem.Spec PyProof.Rows L2 He Ds
end Da
end F106
section F107
namespace Da
open PySem PySem.Spec PyProof.Rows L2 He Ds
def top (i : Nat) : Stmt := PySem.Challenge.pw_deedshares_k46_whole_barred_lists_go_tog.main.body.getD i (.Pass ⟨0, 0, 0, 0⟩)
section
variable {P : Program} {w : World} {K : PySem.W.Frag} {mg : Str → Option Value} {base : Heap}
abbrev s_check_apart : Stmt := top 10
abbrev N_check_apart : List Str := ["names", "taken", "name"]
theorem sc_check_apart : FnScope N_check_apart ["names", "taken"] (defScope s_check_apart) := ⟨rfl, rfl, rfl, by decide +kernel, rfl, by decide +kernel, by decide +kernel⟩
theorem ok_check_apart {f : Addr} {fd : FuncData} (F : FnP K "check_apart" "check_apart" s_check_apart f fd) (T_InvalidDeed : ErrC K mg "InvalidDeed") (IE : ErrI P w K mg base) : FnOk P w K mg base (L2.CX P w) 3 f fd ["names", "taken"] (spD K D_check_apart) := by
  refine F.ok sc_check_apart (fun vs H Q E h => len_d (N := N_check_apart) h) (fun cdv A outer s H vs Q E hr h => ⟨_, (pss_one (ps_for (passes_of rfl) rfl (pi_listK (K := K) (pv 0)) (pg_name (i := 2) sc_check_apart.nd rfl (Or.inl rfl))
 (pss_one (ps_if (pt_cmpR (r := rInD K) (op_inD hr.units5) (pv 2) (pv 1) (by rfl))
 (pss_one (ps_raise rfl (takes_of rfl rfl rfl rfl) (pmk_x IE T_InvalidDeed hr rfl (pa_cons (pv 2) pa_nil))))
 pss_nil)))),
    body_d (N := N_check_apart) (ds_for (di_list (de_var 0)) (dg_name 2)
 (ds_if (dt_t (de_op s_in (db_var 2) (db_var 1)))
 (ds_raise T_InvalidDeed (da_cons (DE.s (de_var 2)) da_nil))
 ds_nil)) h⟩)
abbrev s_Diagram_names : Stmt := inClass (top 21) 1
abbrev N_Diagram_names : List Str := ["self"]
theorem sc_Diagram_names : FnScope N_Diagram_names ["self"] (defScope s_Diagram_names) := ⟨rfl, rfl, rfl, by decide +kernel, rfl, by decide +kernel, by decide +kernel⟩
theorem ok_Diagram_names {f : Addr} {fd : FuncData} (F : FnP K "names" "Diagram.names" s_Diagram_names f fd) (T : Tx mg) (A_Diagram_names : NoAttr K (ga K "Diagram") "_names") (CC_Diagram : Cls K (ga K "Diagram")) : FnOk P w K mg base CX0 1 f fd ["self"] (spD K D_Diagram_names) := by
  refine F.ok sc_Diagram_names (fun vs H Q E h => len_d (N := N_Diagram_names) h) (fun cdv A outer s H vs Q E hr h => ⟨_, PSs.nox ((pss_one (ps_ret (pe_callTy (r := Evl.rListS K) call_list_of (by rfl) T.n_list (by decide +kernel) (pa_cons (pe_fldK (K := K) (pv 0)) pa_nil))))),
    body_d (N := N_Diagram_names) (ds_ret (DL.e (dl_list (DE.b (de_fld CC_Diagram A_Diagram_names (db_var 0)))))) h⟩)
abbrev s_check_names : Stmt := top 9
abbrev N_check_names : List Str := ["diagram", "names", "known", "at", "name"]
theorem sc_check_names : FnScope N_check_names ["diagram", "names"] (defScope s_check_names) := ⟨rfl, rfl, rfl, by decide +kernel, rfl, by decide +kernel, by decide +kernel⟩
theorem ok_check_names {f : Addr} {fd : FuncData} (F : FnP K "check_names" "check_names" s_check_names f fd) (C_Diagram_names : CalP P w K mg base 1 (ga K "Diagram") "names" (spD K D_Diagram_names)) (T : Tx mg) (T_InvalidName : ErrC K mg "InvalidName") (IE : ErrI P w K mg base) : FnOk P w K mg base (L2.CX P w) 3 f fd ["diagram", "names"] (spD K D_check_names) := by
  refine F.ok sc_check_names (fun vs H Q E h => len_d (N := N_check_names) h) (fun cdv A outer s H vs Q E hr h => ⟨_, (pss_cons (ps_set (i := 2) sc_check_names.nd rfl (Or.inl rfl) (pe_propC C_Diagram_names hr (pv 0)))
 (pss_one (ps_for (passes_of rfl) rfl (pi_enumK (K := K) (by rfl) T.n_enumerate (pa_cons (pv 1) pa_nil)) (pg_tupK (K := K) (n := 2) (pgs_cons (pg_name (i := 3) sc_check_names.nd rfl (Or.inl rfl)) (pgs_cons (pg_name (i := 4) sc_check_names.nd rfl (Or.inl rfl)) pgs_nil)))
 (pss_one (ps_if (PW.pt (pw_or (pt_cmpR (r := rNotInD K) (op_notInD hr.units5) (pv 4) (pv 2) (by rfl)) (pw_or1 (pt_cmpR (r := rInD K) (op_inD hr.units5) (pv 4) (pe_slice (r := rSlL K) sl_list (pv 1) po_none (po_some (pv 3))) (by rfl)))))
 (pss_one (ps_raise rfl (takes_of rfl rfl rfl rfl) (pmk_x IE T_InvalidName hr rfl (pa_cons (pv 4) pa_nil))))
 pss_nil))))),
    body_d (N := N_check_names) (ds_seq (ds_set (de_prop (de_var 0)))
 (ds_for (di_enum (da_cons (DE.s (de_var 1)) da_nil)) (dg_tup (dgs_cons (dg_name 3) (dgs_cons (dg_name 4) dgs_nil)))
 (ds_if (dt_or (dt_t (de_op s_notIn (db_var 4) (db_var 2))) (dt_t (de_op s_in (db_var 4) (DE.b (DL.e (dl_slice (db_var 1) do_none (do_some (de_var 3))))))))
 (ds_raise T_InvalidName (da_cons (DE.s (de_var 4)) da_nil))
 ds_nil))) h⟩)
abbrev s_Diagram_arrows : Stmt := inClass (top 21) 2
abbrev N_Diagram_arrows : List Str := ["self"]
theorem sc_Diagram_arrows : FnScope N_Diagram_arrows ["self"] (defScope s_Diagram_arrows) := ⟨rfl, rfl, rfl, by decide +kernel, rfl, by decide +kernel, by decide +kernel⟩
theorem ok_Diagram_arrows {f : Addr} {fd : FuncData} (F : FnP K "arrows" "Diagram.arrows" s_Diagram_arrows f fd) (T : Tx mg) (A_Diagram_arrows : NoAttr K (ga K "Diagram") "_arrows") (CC_Diagram : Cls K (ga K "Diagram")) : FnOk P w K mg base CX0 1 f fd ["self"] (spD K D_Diagram_arrows) := by
  refine F.ok sc_Diagram_arrows (fun vs H Q E h => len_d (N := N_Diagram_arrows) h) (fun cdv A outer s H vs Q E hr h => ⟨_, PSs.nox ((pss_one (ps_ret (pe_callTy (r := Evl.rListS K) call_list_of (by rfl) T.n_list (by decide +kernel) (pa_cons (pe_fldK (K := K) (pv 0)) pa_nil))))),
    body_d (N := N_Diagram_arrows) (ds_ret (DL.e (dl_list (DE.b (de_fld CC_Diagram A_Diagram_arrows (db_var 0)))))) h⟩)
abbrev s_Diagram_pairs : Stmt := inClass (top 21) 3
abbrev N_Diagram_pairs : List Str := ["self"]
theorem sc_Diagram_pairs : FnScope N_Diagram_pairs ["self"] (defScope s_Diagram_pairs) := ⟨rfl, rfl, rfl, by decide +kernel, rfl, by decide +kernel, by decide +kernel⟩
theorem ok_Diagram_pairs {f : Addr} {fd : FuncData} (F : FnP K "pairs" "Diagram.pairs" s_Diagram_pairs f fd) (T : Tx mg) (A_Diagram_pairs : NoAttr K (ga K "Diagram") "_pairs") (CC_Diagram : Cls K (ga K "Diagram")) : FnOk P w K mg base CX0 1 f fd ["self"] (spD K D_Diagram_pairs) := by
  refine F.ok sc_Diagram_pairs (fun vs H Q E h => len_d (N := N_Diagram_pairs) h) (fun cdv A outer s H vs Q E hr h => ⟨_, PSs.nox ((pss_one (ps_ret (pe_callTy (r := Evl.rListS K) call_list_of (by rfl) T.n_list (by decide +kernel) (pa_cons (pe_fldK (K := K) (pv 0)) pa_nil))))),
    body_d (N := N_Diagram_pairs) (ds_ret (DL.e (dl_list (DE.b (de_fld CC_Diagram A_Diagram_pairs (db_var 0)))))) h⟩)
abbrev s_joins_of : Stmt := top 15
abbrev N_joins_of : List Str := ["diagram", "joins", "one", "other"]
theorem sc_joins_of : FnScope N_joins_of ["diagram"] (defScope s_joins_of) := ⟨rfl, rfl, rfl, by decide +kernel, rfl, by decide +kernel, by decide +kernel⟩
theorem ok_joins_of {f : Addr} {fd : FuncData} (F : FnP K "joins_of" "joins_of" s_joins_of f fd) (C_Diagram_arrows : CalP P w K mg base 1 (ga K "Diagram") "arrows" (spD K D_Diagram_arrows)) (C_Diagram_pairs : CalP P w K mg base 1 (ga K "Diagram") "pairs" (spD K D_Diagram_pairs)) : FnOk P w K mg base CX0 3 f fd ["diagram"] (spD K D_joins_of) := by
  refine F.ok sc_joins_of (fun vs H Q E h => len_d (N := N_joins_of) h) (fun cdv A outer s H vs Q E hr h => ⟨_, PSs.nox ((pss_cons (ps_set (i := 1) sc_joins_of.nd rfl (Or.inl rfl) pe_dnewT)
 (pss_cons (ps_for PassesOwn.never rfl (pi_listK (K := K) (pe_propC C_Diagram_arrows hr (pv 0))) (pg_tupK (K := K) (n := 2) (pgs_cons (pg_name (i := 2) sc_joins_of.nd rfl (Or.inl rfl)) (pgs_cons (pg_name (i := 3) sc_joins_of.nd rfl (Or.inl rfl)) pgs_nil)))
 (pss_cons (ps_expr (pe_bmK (K := K) PySem.F.plainAttrs_list PySem.F.slot_list_append PySem.F.type_list_append mt_append (pe_dsetdT (hu_of hr) (pv 1) (pe_tup (pa_cons (pv 2) (pa_cons (pv 3) pa_nil))) (pe_lst pa_nil) ⟨rfl, rfl, rfl, rfl⟩) (pa_cons (pe_tup (pa_cons pe_bl (pa_cons pe_bl pa_nil))) pa_nil)))
 (pss_one (ps_expr (pe_bmK (K := K) PySem.F.plainAttrs_list PySem.F.slot_list_append PySem.F.type_list_append mt_append (pe_dsetdT (hu_of hr) (pv 1) (pe_tup (pa_cons (pv 3) (pa_cons (pv 2) pa_nil))) (pe_lst pa_nil) ⟨rfl, rfl, rfl, rfl⟩) (pa_cons (pe_tup (pa_cons pe_bl (pa_cons pe_bl pa_nil))) pa_nil))))))
 (pss_cons (ps_for PassesOwn.never rfl (pi_listK (K := K) (pe_propC C_Diagram_pairs hr (pv 0))) (pg_tupK (K := K) (n := 2) (pgs_cons (pg_name (i := 2) sc_joins_of.nd rfl (Or.inl rfl)) (pgs_cons (pg_name (i := 3) sc_joins_of.nd rfl (Or.inl rfl)) pgs_nil)))
 (pss_cons (ps_expr (pe_bmK (K := K) PySem.F.plainAttrs_list PySem.F.slot_list_append PySem.F.type_list_append mt_append (pe_dsetdT (hu_of hr) (pv 1) (pe_tup (pa_cons (pv 2) (pa_cons (pv 3) pa_nil))) (pe_lst pa_nil) ⟨rfl, rfl, rfl, rfl⟩) (pa_cons (pe_tup (pa_cons pe_bl (pa_cons pe_bl pa_nil))) pa_nil)))
 (pss_one (ps_expr (pe_bmK (K := K) PySem.F.plainAttrs_list PySem.F.slot_list_append PySem.F.type_list_append mt_append (pe_dsetdT (hu_of hr) (pv 1) (pe_tup (pa_cons (pv 3) (pa_cons (pv 2) pa_nil))) (pe_lst pa_nil) ⟨rfl, rfl, rfl, rfl⟩) (pa_cons (pe_tup (pa_cons pe_bl (pa_cons pe_bl pa_nil))) pa_nil))))))
 (pss_one (ps_ret (pv 1))))))),
    body_d (N := N_joins_of) (ds_seq ds_newL
 (ds_seq (ds_for (di_list (de_prop (de_var 0))) (dg_tup (dgs_cons (dg_name 2) (dgs_cons (dg_name 3) dgs_nil)))
 (ds_seq (ds_drop (setd_core (de_tup (da_cons (DE.s (de_var 2)) (da_cons (DE.s (de_var 3)) da_nil)))))
 (ds_drop (setd_core (de_tup (da_cons (DE.s (de_var 3)) (da_cons (DE.s (de_var 2)) da_nil)))))))
 (ds_seq (ds_for (di_list (de_prop (de_var 0))) (dg_tup (dgs_cons (dg_name 2) (dgs_cons (dg_name 3) dgs_nil)))
 (ds_seq (ds_drop (setd_core (de_tup (da_cons (DE.s (de_var 2)) (da_cons (DE.s (de_var 3)) da_nil)))))
 (ds_drop (setd_core (de_tup (da_cons (DE.s (de_var 3)) (da_cons (DE.s (de_var 2)) da_nil)))))))
 (ds_ret (de_varL 1))))) h⟩)
abbrev s_check_known : Stmt := top 22
abbrev N_check_known : List Str := ["names", "name"]
theorem sc_check_known : FnScope N_check_known ["names", "name"] (defScope s_check_known) := ⟨rfl, rfl, rfl, by decide +kernel, rfl, by decide +kernel, by decide +kernel⟩
theorem ok_check_known {f : Addr} {fd : FuncData} (F : FnP K "check_known" "check_known" s_check_known f fd) (T_InvalidName : ErrC K mg "InvalidName") (IE : ErrI P w K mg base) : FnOk P w K mg base (L2.CX P w) 3 f fd ["names", "name"] (spD K D_check_known) := by
  refine F.ok sc_check_known (fun vs H Q E h => len_d (N := N_check_known) h) (fun cdv A outer s H vs Q E hr h => ⟨_, (pss_one (ps_if (pt_cmpR (r := rNotInD K) (op_notInD hr.units5) (pv 1) (pv 0) (by rfl))
 (pss_one (ps_raise rfl (takes_of rfl rfl rfl rfl) (pmk_x IE T_InvalidName hr rfl (pa_cons (pv 1) pa_nil))))
 pss_nil)),
    body_d (N := N_check_known) (ds_if (dt_t (de_op s_notIn (db_var 1) (db_var 0)))
 (ds_raise T_InvalidName (da_cons (DE.s (de_var 1)) da_nil))
 ds_nil) h⟩)
abbrev s_things_leading : Stmt := top 28
abbrev N_things_leading : List Str := ["names", "arrows", "name", "found", "waiting", "thing", "one", "other"]
theorem sc_things_leading : FnScope N_things_leading ["names", "arrows", "name"] (defScope s_things_leading) := ⟨rfl, rfl, rfl, by decide +kernel, rfl, by decide +kernel, by decide +kernel⟩
theorem ok_things_leading {f : Addr} {fd : FuncData} (F : FnP K "things_leading" "things_leading" s_things_leading f fd)  : FnOk P w K mg base CX0 1 f fd ["names", "arrows", "name"] (spD K D_things_leading) := by
  refine F.ok sc_things_leading (fun vs H Q E h => len_d (N := N_things_leading) h) (fun cdv A outer s H vs Q E hr h => ⟨_, PSs.nox ((pss_cons (ps_set (i := 3) sc_things_leading.nd rfl (Or.inr rfl) (pe_disp (pps_cons (pv 2) pe_bl pps_nil) (by rfl) (by rfl) (fun z => by cases z) (by decide)))
 (pss_cons (ps_set (i := 4) sc_things_leading.nd rfl (Or.inl rfl) (pe_lst (pa_cons (pv 2) pa_nil)))
 (pss_cons (ps_while PassesOwn.never (pt_truth (pv 4) (by intro _; rfl))
 (pss_cons (ps_set (i := 5) sc_things_leading.nd rfl (Or.inl rfl) (pe_bm0K (K := K) PySem.F.plainAttrs_list PySem.F.slot_list_pop PySem.F.type_list_pop mt_pop (pv 4)))
 (pss_one (ps_for PassesOwn.never rfl (pi_listK (K := K) (pv 1)) (pg_tupK (K := K) (n := 2) (pgs_cons (pg_name (i := 6) sc_things_leading.nd rfl (Or.inl rfl)) (pgs_cons (pg_name (i := 7) sc_things_leading.nd rfl (Or.inl rfl)) pgs_nil)))
 (pss_one (ps_if (PW.pt (pw_and (pt_cmpR (r := rEqD K) (op_eqD hr.units) (pv 7) (pv 5) (nomark _)) (pw_and1 (pt_cmp (pc_dnotin (hu_of hr) (pv 6) (pv 3))))))
 (pss_cons (ps_dput (hu_of hr) (pv 3) (pv 6) pe_bl rfl)
 (pss_one (ps_expr (pe_bmK (K := K) PySem.F.plainAttrs_list PySem.F.slot_list_append PySem.F.type_list_append mt_append (pv 4) (pa_cons (pv 6) pa_nil)))))
 pss_nil))))))
 (pss_one (ps_ret (pe_lc (own := [("thing", 5)]) (by rfl) sc_things_leading.nd (pi_listK (K := K) (pv 0)) (blkOk_by (own := [("thing", 5)]) (N := N_things_leading) (sc := defScope s_things_leading) (by decide +kernel)) (fun _ _ _ _ _ => (pg_name (i := 5) sc_things_leading.nd rfl (Or.inl rfl))) (fun _ _ _ _ _ => (pts_one (pt_cmp (pc_din (hu_of hr) (pv 5) (pv 3))))) (fun _ _ _ _ _ => (pv 5))))))))),
    body_d (N := N_things_leading) (ds_seq (ds_setD (dd_disp1 (de_var 2) de_bl))
 (ds_seq (ds_setO (dl_lst (da_cons (DE.s (de_var 2)) da_nil)))
 (ds_seq (ds_while (dt_tru (db_var 4))
 (ds_seq (ds_set de_pop)
 (ds_for (di_list (de_var 1)) (dg_tup (dgs_cons (dg_name 6) (dgs_cons (dg_name 7) dgs_nil)))
 (ds_if (dt_and (dt_t (de_op s_eq (db_var 7) (db_var 5))) (dt_b (de_dnotin (de_var 6) (db_var 3))))
 (ds_seq (ds_put 3 (de_var 6) de_bl)
 (ds_drop (de_append (da_cons (DE.s (de_var 6)) da_nil))))
 ds_nil))))
 (ds_ret (DL.e (dl_lc (vs := [5]) (di_list (de_var 0)) (dg_name 5) (by decide) (dt_b (de_din (de_var 5) (db_var 3))) (de_var 5))))))) h⟩)
abbrev s_Diagram_leading_to : Stmt := inClass (top 21) 6
abbrev N_Diagram_leading_to : List Str := ["self", "name"]
theorem sc_Diagram_leading_to : FnScope N_Diagram_leading_to ["self", "name"] (defScope s_Diagram_leading_to) := ⟨rfl, rfl, rfl, by decide +kernel, rfl, by decide +kernel, by decide +kernel⟩
theorem ok_Diagram_leading_to {f : Addr} {fd : FuncData} (F : FnP K "leading_to" "Diagram.leading_to" s_Diagram_leading_to f fd) (A_Diagram_names : NoAttr K (ga K "Diagram") "_names") (CC_Diagram : Cls K (ga K "Diagram")) (C_check_known : Cal P w K mg base (L2.CX P w) 3 "check_known" ["names", "name"] (spD K D_check_known)) (A_Diagram_arrows : NoAttr K (ga K "Diagram") "_arrows") (C_things_leading : Cal P w K mg base CX0 1 "things_leading" ["names", "arrows", "name"] (spD K D_things_leading)) : FnOk P w K mg base (L2.CX P w) 4 f fd ["self", "name"] (spD K D_Diagram_leading_to) := by
  refine F.ok sc_Diagram_leading_to (fun vs H Q E h => len_d (N := N_Diagram_leading_to) h) (fun cdv A outer s H vs Q E hr h => ⟨_, (pss_cons (ps_expr (pe_calX C_check_known hr rfl (takes_of rfl rfl rfl rfl) (pa_cons (pe_fldK (K := K) (pv 0)) (pa_cons (pv 1) pa_nil))))
 (pss_one (ps_ret (pe_cal C_things_leading hr rfl (pa_cons (pe_fldK (K := K) (pv 0)) (pa_cons (pe_fldK (K := K) (pv 0)) (pa_cons (pv 1) pa_nil))))))),
    body_d (N := N_Diagram_leading_to) (ds_seq (ds_drop (de_callX (da_cons (DE.s (de_fld CC_Diagram A_Diagram_names (db_var 0))) (da_cons (DE.s (de_var 1)) da_nil))))
 (ds_ret (de_call (da_cons (DE.s (de_fld CC_Diagram A_Diagram_names (db_var 0))) (da_cons (DE.s (de_fld CC_Diagram A_Diagram_arrows (db_var 0))) (da_cons (DE.s (de_var 1)) da_nil)))))) h⟩)
abbrev s_passes_of : Stmt := top 16
abbrev N_passes_of : List Str := ["diagram", "given", "passes", "thing", "name"]
theorem sc_passes_of : FnScope N_passes_of ["diagram", "given"] (defScope s_passes_of) := ⟨rfl, rfl, rfl, by decide +kernel, rfl, by decide +kernel, by decide +kernel⟩
theorem ok_passes_of {f : Addr} {fd : FuncData} (F : FnP K "passes_of" "passes_of" s_passes_of f fd) (C_Diagram_names : CalP P w K mg base 1 (ga K "Diagram") "names" (spD K D_Diagram_names)) (T : Tx mg) (C_Diagram_leading_to : CalM P w K mg base (L2.CX P w) 4 (ga K "Diagram") "leading_to" ["self", "name"] (spD K D_Diagram_leading_to)) : FnOk P w K mg base (L2.CX P w) 5 f fd ["diagram", "given"] (spD K (D_passes_of w)) := by
  refine F.ok sc_passes_of (fun vs H Q E h => len_d (N := N_passes_of) h) (fun cdv A outer s H vs Q E hr h => ⟨_, (pss_cons (ps_set (i := 2) sc_passes_of.nd rfl (Or.inl rfl) (pe_dnewB rfl))
 (pss_cons (ps_for (passes_of rfl) rfl (pi_listK (K := K) (pe_propC C_Diagram_names hr (pv 0))) (pg_name (i := 3) sc_passes_of.nd rfl (Or.inr rfl))
 (pss_cons (ps_dputB rfl (hu_of hr) (pv 2) (pe_tup (pa_cons (pv 3) (pa_cons pe_bl pa_nil))) (pe_cmpR (r := rNotInD K) (op_notInD hr.units5) (pv 3) (pv 1) (by rfl)) rfl)
 (pss_one (ps_dputB rfl (hu_of hr) (pv 2) (pe_tup (pa_cons (pv 3) (pa_cons pe_bl pa_nil))) (pe_callB (r := rAny K) (cr_any rfl) (by rfl) T.n_any (by decide +kernel) (pa_cons (pe_lc (own := [("name", 4)]) (by rfl) sc_passes_of.nd (pi_listK (K := K) (pv 1)) (blkOk_by (own := [("name", 4)]) (N := N_passes_of) (sc := defScope s_passes_of) (by decide +kernel)) (fun _ _ _ _ _ => (pg_name (i := 4) sc_passes_of.nd rfl (Or.inl rfl))) (fun _ _ _ _ _ => pts_nil) (fun _ _ _ _ _ => (pe_cmpR (r := rInD K) (op_inD hr.units5) (pv 3) (pe_methN C_Diagram_leading_to hr (pv 0) (pa_cons (pv 4) pa_nil)) (by rfl)))) pa_nil)) rfl))))
 (pss_one (ps_ret (pv 2))))),
    body_d (N := N_passes_of) (ds_seq ds_newB
 (ds_seq (ds_for (di_list (de_prop (de_var 0))) (dg_name 3)
 (ds_seq (ds_putB 2 (de_tup (da_cons (DE.s (de_var 3)) (da_cons (DE.s de_bl) da_nil))) (de_op s_notIn (db_var 3) (db_var 1)))
 (ds_putB 2 (de_tup (da_cons (DE.s (de_var 3)) (da_cons (DE.s de_bl) da_nil))) (de_b1 s_any (DE.b (DL.e (dl_lc (vs := [4]) (di_list (de_var 1)) (dg_name 4) (by decide) dt_yes (de_op s_in (db_var 3) (DE.b (de_methN (de_var 0) (da_cons (DE.s (de_var 4)) da_nil)))))))))))
 (ds_ret (de_varF 2)))) h⟩)
abbrev s_marks_onward : Stmt := top 18
abbrev N_marks_onward : List Str := ["joins", "passes", "trail", "thing", "way", "marks", "last", "behind", "ahead", "mark"]
theorem sc_marks_onward : FnScope N_marks_onward ["joins", "passes", "trail", "thing"] (defScope s_marks_onward) := ⟨rfl, rfl, rfl, by decide +kernel, rfl, by decide +kernel, by decide +kernel⟩
theorem ok_marks_onward {f : Addr} {fd : FuncData} (F : FnP K "marks_onward" "marks_onward" s_marks_onward f fd) (T : Tx mg) : FnOk P w K mg base CX0 1 f fd ["joins", "passes", "trail", "thing"] (spD K (D_marks_onward w)) := by
  refine F.ok sc_marks_onward (fun vs H Q E h => len_d (N := N_marks_onward) h) (fun cdv A outer s H vs Q E hr h => ⟨_, PSs.nox ((pss_cons (ps_asg (pv 2) (pg_tupK (K := K) (n := 2) (pgs_cons (pg_name (i := 4) sc_marks_onward.nd rfl (Or.inl rfl)) (pgs_cons (pg_name (i := 5) sc_marks_onward.nd rfl (Or.inr rfl)) pgs_nil))))
 (pss_cons (ps_set (i := 6) sc_marks_onward.nd rfl (Or.inr rfl) (pe_ix (r := rIxL K) ix_list (pv 4) (pe_un un_neg pe_int) (fun _ _ => rfl)))
 (pss_one (ps_ret (pe_lc (own := [("behind", 7), ("ahead", 8)]) (by rfl) sc_marks_onward.nd (pi_listK (K := K) (pe_dget2 (hu_of hr) (pv 0) (pe_tup (pa_cons (pv 6) (pa_cons (pv 3) pa_nil))) (pe_lst pa_nil) ⟨rfl, rfl, rfl, rfl⟩)) (blkOk_by (own := [("behind", 7), ("ahead", 8)]) (N := N_marks_onward) (sc := defScope s_marks_onward) (by decide +kernel)) (fun _ _ _ _ _ => (pg_tupK (K := K) (n := 2) (pgs_cons (pg_name (i := 7) sc_marks_onward.nd rfl (Or.inr rfl)) (pgs_cons (pg_name (i := 8) sc_marks_onward.nd rfl (Or.inl rfl)) pgs_nil)))) (fun _ _ _ _ _ => (pts_one (pt_val (pe_callB (r := rAny K) (cr_any rfl) (by rfl) T.n_any (by decide +kernel) (pa_cons (pe_lc (own := [("mark", 9)]) (by rfl) sc_marks_onward.nd (pi_listK (K := K) (pv 5)) (blkOk_by (own := [("mark", 9)]) (N := N_marks_onward) (by rfl)) (fun _ _ _ _ _ => (pg_name (i := 9) sc_marks_onward.nd rfl (Or.inl rfl))) (fun _ _ _ _ _ => pts_nil) (fun _ _ _ _ _ => (pe_dgetB rfl (hu_of hr) (pv 1) (pe_tup (pa_cons (pv 6) (pa_cons (pe_and (pv 9) (pe_one (pv 7))) pa_nil))) (fun _ _ => rfl)))) pa_nil))))) (fun _ _ _ _ _ => (pv 8)))))))),
    body_d (N := N_marks_onward) (ds_seq (ds_asg (dg_tup (dgs_cons (dg_name 4) (dgs_cons (dg_name 5) dgs_nil))) (de_var 2))
 (ds_seq (ds_set (de_ixL (db_var 4) (DE.b (de_un s_neg (DE.b de_int)))))
 (ds_ret (DL.e (dl_lc (vs := [7, 8]) (di_list (de_getTL (db_var 0) (da_cons (DE.s (de_tup (da_cons (DE.s (de_var 6)) (da_cons (DE.s (de_var 3)) da_nil)))) (da_cons (DE.s (DL.e (dl_lst da_nil))) da_nil)))) (dg_tup (dgs_cons (dg_name 7) (dgs_cons (dg_name 8) dgs_nil))) (by decide) (dt_b (de_b1 s_any (DE.b (DL.e (dl_lc (vs := [9]) (di_list (de_var 5)) (dg_name 9) (by decide) dt_yes (de_dgetB (db_var 1) (de_tup (da_cons (DE.s (de_var 6)) (da_cons (DE.s (de_and (de_var 9) (de_var 7))) da_nil))))))))) (de_var 8)))))) h⟩)
abbrev s_longer_trails : Stmt := top 17
abbrev N_longer_trails : List Str := ["names", "joins", "passes", "trail", "way", "_", "longer", "thing", "marks"]
theorem sc_longer_trails : FnScope N_longer_trails ["names", "joins", "passes", "trail"] (defScope s_longer_trails) := ⟨rfl, rfl, rfl, by decide +kernel, rfl, by decide +kernel, by decide +kernel⟩
theorem ok_longer_trails {f : Addr} {fd : FuncData} (F : FnP K "longer_trails" "longer_trails" s_longer_trails f fd) (C_marks_onward : Cal P w K mg base CX0 1 "marks_onward" ["joins", "passes", "trail", "thing"] (spD K (D_marks_onward w))) : FnOk P w K mg base CX0 2 f fd ["names", "joins", "passes", "trail"] (spD K (D_longer_trails w)) := by
  refine F.ok sc_longer_trails (fun vs H Q E h => len_d (N := N_longer_trails) h) (fun cdv A outer s H vs Q E hr h => ⟨_, PSs.nox ((pss_cons (ps_asg (pv 3) (pg_tupK (K := K) (n := 2) (pgs_cons (pg_name (i := 4) sc_longer_trails.nd rfl (Or.inl rfl)) (pgs_cons (pg_name (i := 5) sc_longer_trails.nd rfl (Or.inl rfl)) pgs_nil))))
 (pss_cons (ps_set (i := 6) sc_longer_trails.nd rfl (Or.inl rfl) (pe_lst pa_nil))
 (pss_cons (ps_for PassesOwn.never rfl (pi_listK (K := K) (pv 0)) (pg_name (i := 7) sc_longer_trails.nd rfl (Or.inl rfl))
 (pss_one (ps_if (pt_cmpR (r := rNotInD K) (op_notInD hr.units5) (pv 7) (pv 4) (by rfl))
 (pss_cons (ps_set (i := 8) sc_longer_trails.nd rfl (Or.inl rfl) (pe_cal C_marks_onward hr rfl (pa_cons (pv 1) (pa_cons (pv 2) (pa_cons (pv 3) (pa_cons (pv 7) pa_nil))))))
 (pss_one (ps_if (pt_truth (pv 8) (by intro _; rfl))
 (pss_one (ps_expr (pe_bmK (K := K) PySem.F.plainAttrs_list PySem.F.slot_list_append PySem.F.type_list_append mt_append (pv 6) (pa_cons (pe_tup (pa_cons (pe_op op_cat (pv 4) (pe_lst (pa_cons (pv 7) pa_nil))) (pa_cons (pv 8) pa_nil))) pa_nil))))
 pss_nil)))
 pss_nil)))
 (pss_one (ps_ret (pv 6))))))),
    body_d (N := N_longer_trails) (ds_seq (ds_asg (dg_tup (dgs_cons (dg_name 4) (dgs_cons (dg_name 5) dgs_nil))) (de_var 3))
 (ds_seq (ds_setO (dl_lst da_nil))
 (ds_seq (ds_for (di_list (de_var 0)) (dg_name 7)
 (ds_if (dt_t (de_op s_notIn (db_var 7) (db_var 4)))
 (ds_seq (ds_set (de_call (da_cons (DE.s (de_var 1)) (da_cons (DE.s (de_var 2)) (da_cons (DE.s (de_var 3)) (da_cons (DE.s (de_var 7)) da_nil))))))
 (ds_if (dt_tru (db_var 8))
 (ds_drop (de_append (da_cons (DE.s (de_tup (da_cons (DE.s (DL.e (dl_cat (db_var 4) (DE.b (DL.e (dl_lst (da_cons (DE.s (de_var 7)) da_nil))))))) (da_cons (DE.s (de_var 8)) da_nil)))) da_nil)))
 ds_nil))
 ds_nil))
 (ds_ret (de_varF 6))))) h⟩)
abbrev s_find_way : Stmt := top 14
abbrev N_find_way : List Str := ["diagram", "one", "other", "given", "joins", "passes", "trails", "way", "_", "trail", "longer"]
theorem sc_find_way : FnScope N_find_way ["diagram", "one", "other", "given"] (defScope s_find_way) := ⟨rfl, rfl, rfl, by decide +kernel, rfl, by decide +kernel, by decide +kernel⟩
theorem ok_find_way {f : Addr} {fd : FuncData} (F : FnP K "find_way" "find_way" s_find_way f fd) (C_joins_of : Cal P w K mg base CX0 3 "joins_of" ["diagram"] (spD K D_joins_of)) (C_passes_of : Cal P w K mg base (L2.CX P w) 5 "passes_of" ["diagram", "given"] (spD K (D_passes_of w))) (C_Diagram_names : CalP P w K mg base 1 (ga K "Diagram") "names" (spD K D_Diagram_names)) (C_longer_trails : Cal P w K mg base CX0 2 "longer_trails" ["names", "joins", "passes", "trail"] (spD K (D_longer_trails w))) : FnOk P w K mg base (L2.CX P w) 6 f fd ["diagram", "one", "other", "given"] (spD K (D_find_way w)) := by
  refine F.ok sc_find_way (fun vs H Q E h => len_d (N := N_find_way) h) (fun cdv A outer s H vs Q E hr h => ⟨_, (pss_cons (ps_set (i := 4) sc_find_way.nd rfl (Or.inr rfl) (pe_cal C_joins_of hr rfl (pa_cons (pv 0) pa_nil)))
 (pss_cons (ps_set (i := 5) sc_find_way.nd rfl (Or.inr rfl) (pe_calX C_passes_of hr rfl (takes_of rfl rfl rfl rfl) (pa_cons (pv 0) (pa_cons (pv 3) pa_nil))))
 (pss_cons (ps_set (i := 6) sc_find_way.nd rfl (Or.inl rfl) (pe_lst (pa_cons (pe_tup (pa_cons (pe_lst (pa_cons (pv 1) pa_nil)) (pa_cons (pe_lst (pa_cons pe_bl pa_nil)) pa_nil))) pa_nil)))
 (pss_cons (ps_while (passes_of rfl) (pt_truth (pv 6) (by intro _; rfl))
 (pss_cons (ps_for (passes_of rfl) rfl (pi_listK (K := K) (pv 6)) (pg_tupK (K := K) (n := 2) (pgs_cons (pg_name (i := 7) sc_find_way.nd rfl (Or.inl rfl)) (pgs_cons (pg_name (i := 8) sc_find_way.nd rfl (Or.inl rfl)) pgs_nil)))
 (pss_one (ps_if (pt_cmpR (r := rEqD K) (op_eqD hr.units) (pe_ix (r := rIxL K) ix_list (pv 7) (pe_un un_neg pe_int) (fun _ _ => rfl)) (pv 2) (nomark _))
 (pss_one (ps_ret (pv 7)))
 pss_nil)))
 (pss_one (ps_setLc2 (i := 6) (own := [("trail", 9), ("longer", 10)]) (by rfl) sc_find_way.nd rfl rfl (sw_true rfl rfl rfl (by decide +kernel)) (pi_listK (K := K) (pv 6)) (blkOk_by (own := [("trail", 9), ("longer", 10)]) (N := N_find_way) (sc := defScope s_find_way) (by decide +kernel)) (vs1 := [10]) (by decide) (fun _ _ _ _ _ => (pg_name (i := 9) sc_find_way.nd rfl (Or.inl rfl))) (fun _ _ _ _ _ => pts_nil) (fun _ _ _ _ _ => (pi_listK (K := K) (pe_cal C_longer_trails hr rfl (pa_cons (pe_propC C_Diagram_names hr (pv 0)) (pa_cons (pv 4) (pa_cons (pv 5) (pa_cons (pv 9) pa_nil))))))) (fun _ _ _ _ _ => (pg_name (i := 10) sc_find_way.nd rfl (Or.inl rfl))) (fun _ _ _ _ _ => pts_nil) (fun _ _ _ _ _ => (pv 10))))))
 (pss_one (ps_ret pe_non)))))),
    body_d (N := N_find_way) (ds_seq (ds_set (de_call (da_cons (DE.s (de_var 0)) da_nil)))
 (ds_seq (ds_set (de_callX (da_cons (DE.s (de_var 0)) (da_cons (DE.s (de_var 3)) da_nil))))
 (ds_seq (ds_set (DL.e (dl_lst (da_cons (DE.s (de_tup (da_cons (DE.s (DL.e (dl_lst (da_cons (DE.s (de_var 1)) da_nil)))) (da_cons (DE.s (DL.e (dl_lst (da_cons (DE.s de_bl) da_nil)))) da_nil)))) da_nil))))
 (ds_seq (ds_while (dt_tru (db_var 6))
 (ds_seq (ds_for (di_list (de_var 6)) (dg_tup (dgs_cons (dg_name 7) (dgs_cons (dg_name 8) dgs_nil)))
 (ds_if (dt_t (de_op s_eq (DE.b (de_ixL (db_var 7) (DE.b (de_un s_neg (DE.b de_int))))) (db_var 2)))
 (ds_ret (de_var 7))
 ds_nil))
 (ds_set (DL.e (dl_lc2 (vs := [9, 10]) (vs1 := [10]) (di_list (de_var 6)) (dg_name 9) (by decide) dt_yes (di_list (de_call (da_cons (DE.s (de_prop (de_var 0))) (da_cons (DE.s (de_var 4)) (da_cons (DE.s (de_var 5)) (da_cons (DE.s (de_var 9)) da_nil)))))) (dg_name 10) (by decide) (by decide) dt_yes (de_var 10))))))
 (ds_ret de_non))))) h⟩)
abbrev s_barred : Stmt := top 12
abbrev N_barred : List Str := ["diagram", "ones", "others", "given", "names", "ways", "one", "other", "way"]
theorem sc_barred : FnScope N_barred ["diagram", "ones", "others", "given"] (defScope s_barred) := ⟨rfl, rfl, rfl, by decide +kernel, rfl, by decide +kernel, by decide +kernel⟩
theorem ok_barred {f : Addr} {fd : FuncData} (F : FnP K "barred" "barred" s_barred f fd) (C_check_names : Cal P w K mg base (L2.CX P w) 3 "check_names" ["diagram", "names"] (spD K D_check_names)) (C_check_apart : Cal P w K mg base (L2.CX P w) 3 "check_apart" ["names", "taken"] (spD K D_check_apart)) (C_find_way : Cal P w K mg base (L2.CX P w) 6 "find_way" ["diagram", "one", "other", "given"] (spD K (D_find_way w))) (T : Tx mg) : FnOk P w K mg base (L2.CX P w) 7 f fd ["diagram", "ones", "others", "given"] (spD K (D_barred w)) := by
  refine F.ok sc_barred (fun vs H Q E h => len_d (N := N_barred) h) (fun cdv A outer s H vs Q E hr h => ⟨_, (pss_cons (ps_for (passes_of rfl) rfl (pi_tupK (K := K) (pe_tup (pa_cons (pv 1) (pa_cons (pv 2) (pa_cons (pv 3) pa_nil))))) (pg_name (i := 4) sc_barred.nd rfl (Or.inl rfl))
 (pss_one (ps_expr (pe_calX C_check_names hr rfl (takes_of rfl rfl rfl rfl) (pa_cons (pv 0) (pa_cons (pv 4) pa_nil))))))
 (pss_cons (ps_expr (pe_calX C_check_apart hr rfl (takes_of rfl rfl rfl rfl) (pa_cons (pv 2) (pa_cons (pv 1) pa_nil))))
 (pss_cons (ps_expr (pe_calX C_check_apart hr rfl (takes_of rfl rfl rfl rfl) (pa_cons (pv 3) (pa_cons (pe_op op_cat (pv 1) (pv 2)) pa_nil))))
 (pss_cons (ps_setLc2 (i := 5) (own := [("one", 6), ("other", 7)]) (by rfl) sc_barred.nd rfl rfl (sw_true rfl rfl rfl (by decide +kernel)) (pi_listK (K := K) (pv 1)) (blkOk_by (own := [("one", 6), ("other", 7)]) (N := N_barred) (sc := defScope s_barred) (by decide +kernel)) (vs1 := [7]) (by decide) (fun _ _ _ _ _ => (pg_name (i := 6) sc_barred.nd rfl (Or.inl rfl))) (fun _ _ _ _ _ => pts_nil) (fun _ _ _ _ _ => (pi_listK (K := K) (pv 2))) (fun _ _ _ _ _ => (pg_name (i := 7) sc_barred.nd rfl (Or.inl rfl))) (fun _ _ _ _ _ => pts_nil) (fun _ _ _ _ _ => (pe_calN C_find_way hr rfl (pa_cons (pv 0) (pa_cons (pv 6) (pa_cons (pv 7) (pa_cons (pv 3) pa_nil)))))))
 (pss_one (ps_ret (pe_callB (r := rAll K) (cr_all rfl) (by rfl) T.n_all (by decide +kernel) (pa_cons (pe_lc (own := [("way", 8)]) (by rfl) sc_barred.nd (pi_listK (K := K) (pv 5)) (blkOk_by (own := [("way", 8)]) (N := N_barred) (sc := defScope s_barred) (by decide +kernel)) (fun _ _ _ _ _ => (pg_name (i := 8) sc_barred.nd rfl (Or.inl rfl))) (fun _ _ _ _ _ => pts_nil) (fun _ _ _ _ _ => (pe_cmpR op_isN (pv 8) pe_non (nomark _)))) pa_nil)))))))),
    body_d (N := N_barred) (ds_seq (ds_for (di_tup (de_tup (da_cons (DE.s (de_var 1)) (da_cons (DE.s (de_var 2)) (da_cons (DE.s (de_var 3)) da_nil))))) (dg_name 4)
 (ds_drop (de_callX (da_cons (DE.s (de_var 0)) (da_cons (DE.s (de_var 4)) da_nil)))))
 (ds_seq (ds_drop (de_callX (da_cons (DE.s (de_var 2)) (da_cons (DE.s (de_var 1)) da_nil))))
 (ds_seq (ds_drop (de_callX (da_cons (DE.s (de_var 3)) (da_cons (DE.s (DL.e (dl_cat (db_var 1) (db_var 2)))) da_nil))))
 (ds_seq (ds_set (DL.e (dl_lc2 (vs := [6, 7]) (vs1 := [7]) (di_list (de_var 1)) (dg_name 6) (by decide) dt_yes (di_list (de_var 2)) (dg_name 7) (by decide) (by decide) dt_yes (de_call (da_cons (DE.s (de_var 0)) (da_cons (DE.s (de_var 6)) (da_cons (DE.s (de_var 7)) (da_cons (DE.s (de_var 3)) da_nil))))))))
 (ds_ret (de_b1 s_all (DE.b (DL.e (dl_lc (vs := [8]) (di_list (de_var 5)) (dg_name 8) (by decide) dt_yes (de_op s_isN (db_var 8) (DE.b de_non))))))))))) h⟩)
abbrev s_law_draw : Stmt := top 31
abbrev N_law_draw : List Str := ["pool", "span", "drawn", "mixed"]
theorem sc_law_draw : FnScope N_law_draw ["pool", "span"] (defScope s_law_draw) := ⟨rfl, rfl, rfl, by decide +kernel, rfl, by decide +kernel, by decide +kernel⟩
theorem ok_law_draw {f : Addr} {fd : FuncData} (F : FnP K "_law_draw" "_law_draw" s_law_draw f fd) (T : Tx mg) : FnOk P w K mg base CX0 1 f fd ["pool", "span"] (spP K D_law_draw) := by
  refine F.ok sc_law_draw (fun vs H Q E h => len_p (N := N_law_draw) h) (fun cdv A outer s H vs Q E hr h => ⟨_, PSs.nox ((pss_cons (ps_if (pt_cmpR op_gt (pe_ix (r := rIxL K) ix_list (pv 0) pe_int (fun _ _ => rfl)) pe_int (nomark _))
 (pss_cons (ps_set (i := 2) sc_law_draw.nd rfl (Or.inl rfl) (pe_op op_mod (pe_callTy call_int1 (by rfl) T.n_int (by decide +kernel) (pa_cons (pe_ix (r := rIxL K) ix_list (pv 0) pe_int (fun _ _ => rfl)) pa_nil)) (pv 1)))
 (pss_cons (ps_asg (pe_op op_fdivW (pe_ix (r := rIxL K) ix_list (pv 0) pe_int (fun _ _ => rfl)) (pv 1)) (pg_sub (pv 0) pe_int set_list))
 (pss_one (ps_ret (pv 2)))))
 pss_nil)
 (pss_cons (ps_asg (pe_op op_add (pe_ix (r := rIxL K) ix_list (pv 0) pe_int (fun _ _ => rfl)) pe_int) (pg_sub (pv 0) pe_int set_list))
 (pss_cons (ps_set (i := 3) sc_law_draw.nd rfl (Or.inl rfl) (pe_op op_mod (pe_callTy call_int1 (by rfl) T.n_int (by decide +kernel) (pa_cons (pe_op op_powW (pe_op op_add (pe_ix (r := rIxL K) ix_list (pv 0) pe_int (fun _ _ => rfl)) (pe_op op_mulW pe_int (pe_ix (r := rIxL K) ix_list (pv 0) pe_int (fun _ _ => rfl)))) pe_int) pa_nil)) pe_int))
 (pss_cons (ps_set (i := 3) sc_law_draw.nd rfl (Or.inl rfl) (pe_op op_mod (pe_callTy call_int1 (by rfl) T.n_int (by decide +kernel) (pa_cons (pe_op op_powW (pe_op op_add (pv 3) (pe_op op_mulW pe_int (pe_ix (r := rIxL K) ix_list (pv 0) pe_int (fun _ _ => rfl)))) pe_int) pa_nil)) pe_int))
 (pss_one (ps_ret (pe_op op_mod (pe_callTy call_int1 (by rfl) T.n_int (by decide +kernel) (pa_cons (pe_op op_fdivW (pv 3) pe_int) pa_nil)) (pv 1))))))))),
    body_p (N := N_law_draw) (ds_seq (ds_if (dt_t (de_op s_gt (DE.b (de_ixL (db_var 0) (DE.b de_int))) (DE.b de_int)))
 (ds_seq (ds_set (de_op s_mod (DE.b (de_b1 s_int (DE.b (de_ixL (db_var 0) (DE.b de_int))))) (db_var 1)))
 (ds_seq (ds_poolSet de_int (de_op s_fdiv (DE.b (de_ixL (db_var 0) (DE.b de_int))) (db_var 1)))
 (ds_ret (de_var 2))))
 ds_nil)
 (ds_seq (ds_poolSet de_int (de_op s_add (DE.b (de_ixL (db_var 0) (DE.b de_int))) (DE.b de_int)))
 (ds_seq (ds_set (de_op s_mod (DE.b (de_b1 s_int (DE.b (de_op s_pow (DE.b (de_op s_add (DE.b (de_ixL (db_var 0) (DE.b de_int))) (DE.b (de_op s_mul (DE.b de_int) (DE.b (de_ixL (db_var 0) (DE.b de_int))))))) (DE.b de_int))))) (DE.b de_int)))
 (ds_seq (ds_set (de_op s_mod (DE.b (de_b1 s_int (DE.b (de_op s_pow (DE.b (de_op s_add (db_var 3) (DE.b (de_op s_mul (DE.b de_int) (DE.b (de_ixL (db_var 0) (DE.b de_int))))))) (DE.b de_int))))) (DE.b de_int)))
 (ds_ret (de_op s_mod (DE.b (de_b1 s_int (DE.b (de_op s_fdiv (db_var 3) (DE.b de_int))))) (db_var 1))))))) h⟩)
abbrev s_law_chart : Stmt := top 32
abbrev N_law_chart : List Str := ["pool", "widest", "letters_here", "left", "turn", "order", "rest_here", "ties", "late", "lines", "veils", "tie", "way", "early"]
theorem sc_law_chart : FnScope N_law_chart ["pool", "widest"] (defScope s_law_chart) := ⟨rfl, rfl, rfl, by decide +kernel, rfl, by decide +kernel, by decide +kernel⟩
theorem ok_law_chart {f : Addr} {fd : FuncData} (F : FnP K "_law_chart" "_law_chart" s_law_chart f fd) (T : Tx mg) (C_law_draw : Cal P w K mg base CX0 1 "_law_draw" ["pool", "span"] (spP K D_law_draw)) : FnOk P w K mg base CX0 2 f fd ["pool", "widest"] (spP K D_law_chart) := by
  refine F.ok sc_law_chart (fun vs H Q E h => len_p (N := N_law_chart) h) (fun cdv A outer s H vs Q E hr h => ⟨_, PSs.nox ((pss_cons (ps_par (i := 2) (j := 3) (by rfl) sc_law_chart.nd rfl rfl (by decide) rfl rfl (pa_cons (pe_lst pa_nil) (pa_cons (pe_callTy (call_listS rfl) (by rfl) T.n_list (by decide +kernel) (pa_cons pe_str pa_nil)) pa_nil)) (by rfl))
 (pss_cons (ps_for PassesOwn.never rfl (pi_range1 (by rfl) T.n_range (pa_cons (pe_op op_add pe_int (pe_cal C_law_draw hr rfl (pa_cons (pv 0) (pa_cons (pv 1) pa_nil)))) pa_nil)) (pg_name (i := 4) sc_law_chart.nd rfl (Or.inl rfl))
 (pss_one (ps_expr (pe_bmK (K := K) PySem.F.plainAttrs_list PySem.F.slot_list_append PySem.F.type_list_append mt_append (pv 2) (pa_cons (pe_bmK (K := K) PySem.F.plainAttrs_list PySem.F.slot_list_pop PySem.F.type_list_pop mt_popAt (pv 3) (pa_cons (pe_cal C_law_draw hr rfl (pa_cons (pv 0) (pa_cons (pe_callB (r := Evl.rLenS K) call_len_seq (by rfl) T.n_len (by decide +kernel) (pa_cons (pv 3) pa_nil)) pa_nil))) pa_nil)) pa_nil)))))
 (pss_cons (ps_asg (pe_tup (pa_cons (pe_lst pa_nil) (pa_cons (pe_callTy (r := Evl.rListS K) call_list_of (by rfl) T.n_list (by decide +kernel) (pa_cons (pv 2) pa_nil)) (pa_cons (pe_lst pa_nil) pa_nil)))) (pg_tupK (K := K) (n := 3) (pgs_cons (pg_name (i := 5) sc_law_chart.nd rfl (Or.inr rfl)) (pgs_cons (pg_name (i := 6) sc_law_chart.nd rfl (Or.inl rfl)) (pgs_cons (pg_name (i := 7) sc_law_chart.nd rfl (Or.inl rfl)) pgs_nil)))))
 (pss_cons (ps_while PassesOwn.never (pt_cmpR (r := rNeD K) (op_neD hr.units) (pv 6) (pe_lst pa_nil) (nomark _))
 (pss_one (ps_expr (pe_bmK (K := K) PySem.F.plainAttrs_list PySem.F.slot_list_append PySem.F.type_list_append mt_append (pv 5) (pa_cons (pe_bmK (K := K) PySem.F.plainAttrs_list PySem.F.slot_list_pop PySem.F.type_list_pop mt_popAt (pv 6) (pa_cons (pe_cal C_law_draw hr rfl (pa_cons (pv 0) (pa_cons (pe_callB (r := Evl.rLenS K) call_len_seq (by rfl) T.n_len (by decide +kernel) (pa_cons (pv 6) pa_nil)) pa_nil))) pa_nil)) pa_nil)))))
 (pss_cons (ps_for PassesOwn.never rfl (pi_range1 (by rfl) T.n_range (pa_cons (pe_callB (r := Evl.rLenS K) call_len_seq (by rfl) T.n_len (by decide +kernel) (pa_cons (pv 5) pa_nil)) pa_nil)) (pg_name (i := 8) sc_law_chart.nd rfl (Or.inr rfl))
 (pss_one (ps_expr (pe_bmK (K := K) PySem.F.plainAttrs_list PySem.F.slot_list_extend PySem.F.type_list_extend mt_extend (pv 7) (pa_cons (pe_lc (own := [("early", 13)]) (by rfl) sc_law_chart.nd (pi_range1 (by rfl) T.n_range (pa_cons (pv 8) pa_nil)) (blkOk_by (own := [("early", 13)]) (N := N_law_chart) (sc := defScope s_law_chart) (by decide +kernel)) (fun _ _ _ _ _ => (pg_name (i := 13) sc_law_chart.nd rfl (Or.inl rfl))) (fun _ _ _ _ _ => pts_nil) (fun _ _ _ _ _ => (pe_tup (pa_cons (pe_ix (r := rIxL K) ix_list (pv 5) (pv 13) (fun _ _ => rfl)) (pa_cons (pe_ix (r := rIxL K) ix_list (pv 5) (pv 8) (fun _ _ => rfl)) pa_nil))))) pa_nil)))))
 (pss_cons (ps_par (i := 9) (j := 10) (by rfl) sc_law_chart.nd rfl rfl (by decide) rfl rfl (pa_cons (pe_lst pa_nil) (pa_cons (pe_lst pa_nil) pa_nil)) (by rfl))
 (pss_cons (ps_for PassesOwn.never rfl (pi_listK (K := K) (pv 7)) (pg_name (i := 11) sc_law_chart.nd rfl (Or.inl rfl))
 (pss_cons (ps_set (i := 12) sc_law_chart.nd rfl (Or.inl rfl) (pe_cal C_law_draw hr rfl (pa_cons (pv 0) (pa_cons pe_int pa_nil))))
 (Evl.pss_cut (ps_if (pt_cmpR (r := rIn K false) op_in_seq (pv 12) (pe_tup (pa_cons pe_int (pa_cons pe_int (pa_cons pe_int pa_nil)))) (by rfl))
 (pss_one (ps_expr (pe_bmK (K := K) PySem.F.plainAttrs_list PySem.F.slot_list_insert PySem.F.type_list_insert mt_insert (pv 9) (pa_cons (pe_cal C_law_draw hr rfl (pa_cons (pv 0) (pa_cons (pe_op op_add (pe_callB (r := Evl.rLenS K) call_len_seq (by rfl) T.n_len (by decide +kernel) (pa_cons (pv 9) pa_nil)) pe_int) pa_nil))) (pa_cons (pv 11) pa_nil)))))
 pss_nil)
 (pss_one (ps_if (PW.pt (pw_and (pt_cmpR (r := rIn K false) op_in_seq (pv 12) (pe_tup (pa_cons pe_int (pa_cons pe_int pa_nil))) (by rfl)) (pw_and1 (pt_cmpR op_lt (pe_callB (r := Evl.rLenS K) call_len_seq (by rfl) T.n_len (by decide +kernel) (pa_cons (pv 10) pa_nil)) pe_int (nomark _)))))
 (pss_one (ps_expr (pe_bmK (K := K) PySem.F.plainAttrs_list PySem.F.slot_list_insert PySem.F.type_list_insert mt_insert (pv 10) (pa_cons (pe_cal C_law_draw hr rfl (pa_cons (pv 0) (pa_cons (pe_op op_add (pe_callB (r := Evl.rLenS K) call_len_seq (by rfl) T.n_len (by decide +kernel) (pa_cons (pv 10) pa_nil)) pe_int) pa_nil))) (pa_cons (pe_sliceStepK (K := K) (pv 11) (pe_ix (r := rIxL K) ix_list (pe_lst (pa_cons pe_int (pa_cons (pe_un un_neg pe_int) pa_nil))) (pe_cal C_law_draw hr rfl (pa_cons (pv 0) (pa_cons pe_int pa_nil))) (fun _ _ => rfl))) pa_nil)))))
 pss_nil)))))
 (pss_one (ps_ret (pe_tup (pa_cons (pv 2) (pa_cons (pv 9) (pa_cons (pv 10) pa_nil)))))))))))))),
    body_p (N := N_law_chart) (ds_seq (ds_par (da_cons (DL.s (dl_lst da_nil)) (da_cons (DL.s (dl_listS (DE.b de_str))) da_nil)))
 (ds_seq (ds_for (di_rng1 (da_cons (DE.s (de_op s_add (DE.b de_int) (DE.b (de_callP (da_cons (DE.s (de_var 1)) da_nil))))) da_nil)) (dg_name 4)
 (ds_drop (de_append (da_cons (DE.s (de_popAt (da_cons (DE.s (de_callP (da_cons (DE.s (de_b1 s_len (db_var 3))) da_nil))) da_nil))) da_nil))))
 (ds_seq (ds_tupPar (is := [5, 6, 7]) (da_cons (DL.s (dl_lst da_nil)) (da_cons (DL.s (dl_list (db_var 2))) (da_cons (DL.s (dl_lst da_nil)) da_nil))))
 (ds_seq (ds_while (dt_t (de_op s_ne (db_var 6) (DE.b (DL.e (dl_lst da_nil)))))
 (ds_drop (de_append (da_cons (DE.s (de_popAt (da_cons (DE.s (de_callP (da_cons (DE.s (de_b1 s_len (db_var 6))) da_nil))) da_nil))) da_nil))))
 (ds_seq (ds_for (di_rng1 (da_cons (DE.s (de_b1 s_len (db_var 5))) da_nil)) (dg_name 8)
 (ds_drop (de_extend (da_cons (DE.s (DL.e (dl_lc (vs := [13]) (di_rng1 (da_cons (DE.s (de_var 8)) da_nil)) (dg_name 13) (by decide) dt_yes (de_tup (da_cons (DE.s (de_ixL (db_var 5) (db_var 13))) (da_cons (DE.s (de_ixL (db_var 5) (db_var 8))) da_nil)))))) da_nil))))
 (ds_seq (ds_par (da_cons (DL.s (dl_lst da_nil)) (da_cons (DL.s (dl_lst da_nil)) da_nil)))
 (ds_seq (ds_for (di_list (de_varF 7)) (dg_name 11)
 (ds_seq (ds_set (de_callP (da_cons (DE.s de_int) da_nil)))
 (ds_cut (ds_if (dt_t (de_op s_inT (db_var 12) (DE.b (de_tup (da_cons (DE.s de_int) (da_cons (DE.s de_int) (da_cons (DE.s de_int) da_nil)))))))
 (ds_drop (de_insert (da_cons (DE.s (de_callP (da_cons (DE.s (de_op s_add (DE.b (de_b1 s_len (db_var 9))) (DE.b de_int))) da_nil))) (da_cons (DE.s (de_var 11)) da_nil))))
 ds_nil)
 (ds_if (dt_and (dt_t (de_op s_inT (db_var 12) (DE.b (de_tup (da_cons (DE.s de_int) (da_cons (DE.s de_int) da_nil)))))) (dt_t (de_op s_lt (DE.b (de_b1 s_len (db_var 10))) (DE.b de_int))))
 (ds_drop (de_insert (da_cons (DE.s (de_callP (da_cons (DE.s (de_op s_add (DE.b (de_b1 s_len (db_var 10))) (DE.b de_int))) da_nil))) (da_cons (DE.s (de_step2 (de_var 11) (de_ixL (DE.b (DL.e (dl_lst (da_cons (DE.s de_int) (da_cons (DE.s (de_un s_neg (DE.b de_int))) da_nil))))) (DE.b (de_callP (da_cons (DE.s de_int) da_nil)))))) da_nil))))
 ds_nil))))
 (ds_ret (de_tup (da_cons (DE.s (de_varF 2)) (da_cons (DE.s (de_varF 9)) (da_cons (DE.s (de_varF 10)) da_nil)))))))))))) h⟩)
abbrev s_is_letter : Stmt := top 26
abbrev N_is_letter : List Str := ["name"]
theorem sc_is_letter : FnScope N_is_letter ["name"] (defScope s_is_letter) := ⟨rfl, rfl, rfl, by decide +kernel, rfl, by decide +kernel, by decide +kernel⟩
theorem ok_is_letter {f : Addr} {fd : FuncData} (F : FnP K "is_letter" "is_letter" s_is_letter f fd) (T : Tx mg) : FnOk P w K mg base CX0 1 f fd ["name"] (spD K D_is_letter) := by
  refine F.ok sc_is_letter (fun vs H Q E h => len_d (N := N_is_letter) h) (fun cdv A outer s H vs Q E hr h => ⟨_, PSs.nox ((pss_one (ps_ret (pe_and (pe_cmpR (r := rEqD K) (op_eqD hr.units) (pe_callB call_len_str (by rfl) T.n_len (by decide +kernel) (pa_cons (pv 0) pa_nil)) pe_int (nomark _)) (pe_one (pe_chain op_le_str op_le_str pe_str (pv 0) pe_str)))))),
    body_d (N := N_is_letter) (ds_ret (de_and (de_op s_eq (DE.b (de_b1 s_lenS (db_var 0))) (DE.b de_int)) (de_chain s_leS s_leS (DE.b de_str) (db_var 0) (DE.b de_str)))) h⟩)
abbrev s_check_things : Stmt := top 23
abbrev N_check_things : List Str := ["names", "at", "name"]
theorem sc_check_things : FnScope N_check_things ["names"] (defScope s_check_things) := ⟨rfl, rfl, rfl, by decide +kernel, rfl, by decide +kernel, by decide +kernel⟩
theorem ok_check_things {f : Addr} {fd : FuncData} (F : FnP K "check_things" "check_things" s_check_things f fd) (T : Tx mg) (C_is_letter : Cal P w K mg base CX0 1 "is_letter" ["name"] (spD K D_is_letter)) (T_InvalidName : ErrC K mg "InvalidName") (IE : ErrI P w K mg base) (hv_MOST_THINGS : ∃ t, mg "MOST_THINGS" = some (.int 6 t)) (T_InvalidNumber : ErrC K mg "InvalidNumber") : FnOk P w K mg base (L2.CX P w) 3 f fd ["names"] (spD K D_check_things) := by
  obtain ⟨t_MOST_THINGS, hc_MOST_THINGS⟩ := hv_MOST_THINGS
  refine F.ok sc_check_things (fun vs H Q E h => len_d (N := N_check_things) h) (fun cdv A outer s H vs Q E hr h => ⟨_, (pss_cons (ps_for (passes_of rfl) rfl (pi_enumK (K := K) (by rfl) T.n_enumerate (pa_cons (pv 0) pa_nil)) (pg_tupK (K := K) (n := 2) (pgs_cons (pg_name (i := 1) sc_check_things.nd rfl (Or.inl rfl)) (pgs_cons (pg_name (i := 2) sc_check_things.nd rfl (Or.inl rfl)) pgs_nil)))
 (pss_one (ps_if (PW.pt (pw_or (pt_not (pt_val (pe_cal C_is_letter hr rfl (pa_cons (pv 2) pa_nil)))) (pw_or1 (pt_cmpR (r := rInD K) (op_inD hr.units5) (pv 2) (pe_slice (r := rSlL K) sl_list (pv 0) po_none (po_some (pv 1))) (by rfl)))))
 (pss_one (ps_raise rfl (takes_of rfl rfl rfl rfl) (pmk_x IE T_InvalidName hr rfl (pa_cons (pv 2) pa_nil))))
 pss_nil)))
 (pss_one (ps_if (pt_not (pt_chain op_le op_le pe_int (pe_callB (r := Evl.rLenS K) call_len_seq (by rfl) T.n_len (by decide +kernel) (pa_cons (pv 0) pa_nil)) (pe_glob (v := .int 6) rfl hc_MOST_THINGS ⟨_, rfl⟩)))
 (pss_one (ps_raise rfl (takes_of rfl rfl rfl rfl) (pmk_x IE T_InvalidNumber hr rfl (pa_cons (pe_callB (r := Evl.rLenS K) call_len_seq (by rfl) T.n_len (by decide +kernel) (pa_cons (pv 0) pa_nil)) pa_nil))))
 pss_nil))),
    body_d (N := N_check_things) (ds_seq (ds_for (di_enum (da_cons (DE.s (de_var 0)) da_nil)) (dg_tup (dgs_cons (dg_name 1) (dgs_cons (dg_name 2) dgs_nil)))
 (ds_if (dt_or (dt_not (dt_b (de_call (da_cons (DE.s (de_var 2)) da_nil)))) (dt_t (de_op s_in (db_var 2) (DE.b (DL.e (dl_slice (db_var 0) do_none (do_some (de_var 1))))))))
 (ds_raise T_InvalidName (da_cons (DE.s (de_var 2)) da_nil))
 ds_nil))
 (ds_if (dt_not (dt_t (de_chain s_le s_le (DE.b de_int) (DE.b (de_b1 s_len (db_var 0))) (DE.b de_int))))
 (ds_raise T_InvalidNumber (da_cons (DE.s (de_b1 s_len (db_var 0))) da_nil))
 ds_nil)) h⟩)
abbrev s_are_two : Stmt := top 27
abbrev N_are_two : List Str := ["names", "one", "other"]
theorem sc_are_two : FnScope N_are_two ["names", "one", "other"] (defScope s_are_two) := ⟨rfl, rfl, rfl, by decide +kernel, rfl, by decide +kernel, by decide +kernel⟩
theorem ok_are_two {f : Addr} {fd : FuncData} (F : FnP K "are_two" "are_two" s_are_two f fd)  : FnOk P w K mg base CX0 1 f fd ["names", "one", "other"] (spD K D_are_two) := by
  refine F.ok sc_are_two (fun vs H Q E h => len_d (N := N_are_two) h) (fun cdv A outer s H vs Q E hr h => ⟨_, PSs.nox ((pss_one (ps_ret (pe_and (pe_cmpR (r := rInD K) (op_inD hr.units5) (pv 1) (pv 0) (by rfl)) (pe_and (pe_cmpR (r := rInD K) (op_inD hr.units5) (pv 2) (pv 0) (by rfl)) (pe_one (pe_cmpR (r := rNeD K) (op_neD hr.units) (pv 1) (pv 2) (nomark _)))))))),
    body_d (N := N_are_two) (ds_ret (de_and (de_op s_in (db_var 1) (db_var 0)) (de_and (de_op s_in (db_var 2) (db_var 0)) (de_op s_ne (db_var 1) (db_var 2))))) h⟩)
abbrev s_check_arrows : Stmt := top 24
abbrev N_check_arrows : List Str := ["names", "arrows", "at", "one", "other", "ahead"]
theorem sc_check_arrows : FnScope N_check_arrows ["names", "arrows"] (defScope s_check_arrows) := ⟨rfl, rfl, rfl, by decide +kernel, rfl, by decide +kernel, by decide +kernel⟩
theorem ok_check_arrows {f : Addr} {fd : FuncData} (F : FnP K "check_arrows" "check_arrows" s_check_arrows f fd) (T : Tx mg) (C_are_two : Cal P w K mg base CX0 1 "are_two" ["names", "one", "other"] (spD K D_are_two)) (T_InvalidArrow : ErrC K mg "InvalidArrow") (IE : ErrI P w K mg base) (C_things_leading : Cal P w K mg base CX0 1 "things_leading" ["names", "arrows", "name"] (spD K D_things_leading)) : FnOk P w K mg base (L2.CX P w) 3 f fd ["names", "arrows"] (spD K D_check_arrows) := by
  refine F.ok sc_check_arrows (fun vs H Q E h => len_d (N := N_check_arrows) h) (fun cdv A outer s H vs Q E hr h => ⟨_, (pss_one (ps_for (passes_of rfl) rfl (pi_enumK (K := K) (by rfl) T.n_enumerate (pa_cons (pv 1) pa_nil)) (pg_tupK (K := K) (n := 2) (pgs_cons (pg_name (i := 2) sc_check_arrows.nd rfl (Or.inl rfl)) (pgs_cons (pg_tupK (K := K) (n := 2) (pgs_cons (pg_name (i := 3) sc_check_arrows.nd rfl (Or.inl rfl)) (pgs_cons (pg_name (i := 4) sc_check_arrows.nd rfl (Or.inl rfl)) pgs_nil))) pgs_nil)))
 (pss_cons (ps_set (i := 5) sc_check_arrows.nd rfl (Or.inl rfl) (pe_slice (r := rSlL K) sl_list (pv 1) po_none (po_some (pv 2))))
 (pss_cons (ps_if (PW.pt (pw_or (pt_not (pt_val (pe_cal C_are_two hr rfl (pa_cons (pv 0) (pa_cons (pv 3) (pa_cons (pv 4) pa_nil)))))) (pw_or1 (pt_cmpR (r := rInD K) (op_inD hr.units5) (pe_tup (pa_cons (pv 3) (pa_cons (pv 4) pa_nil))) (pv 5) (by rfl)))))
 (pss_one (ps_raise rfl (takes_of rfl rfl rfl rfl) (pmk_x IE T_InvalidArrow hr rfl (pa_cons (pe_tup (pa_cons (pv 3) (pa_cons (pv 4) pa_nil))) pa_nil))))
 pss_nil)
 (pss_one (ps_if (pt_cmpR (r := rInD K) (op_inD hr.units5) (pv 4) (pe_cal C_things_leading hr rfl (pa_cons (pv 0) (pa_cons (pv 5) (pa_cons (pv 3) pa_nil)))) (by rfl))
 (pss_one (ps_raise rfl (takes_of rfl rfl rfl rfl) (pmk_x IE T_InvalidArrow hr rfl (pa_cons (pe_tup (pa_cons (pv 3) (pa_cons (pv 4) pa_nil))) pa_nil))))
 pss_nil)))))),
    body_d (N := N_check_arrows) (ds_for (di_enum (da_cons (DE.s (de_var 1)) da_nil)) (dg_tup (dgs_cons (dg_name 2) (dgs_cons (dg_tup (dgs_cons (dg_name 3) (dgs_cons (dg_name 4) dgs_nil))) dgs_nil)))
 (ds_seq (ds_set (DL.e (dl_slice (db_var 1) do_none (do_some (de_var 2)))))
 (ds_seq (ds_if (dt_or (dt_not (dt_b (de_call (da_cons (DE.s (de_var 0)) (da_cons (DE.s (de_var 3)) (da_cons (DE.s (de_var 4)) da_nil)))))) (dt_t (de_op s_in (DE.b (de_tup (da_cons (DE.s (de_var 3)) (da_cons (DE.s (de_var 4)) da_nil)))) (db_var 5))))
 (ds_raise T_InvalidArrow (da_cons (DE.s (de_tup (da_cons (DE.s (de_var 3)) (da_cons (DE.s (de_var 4)) da_nil)))) da_nil))
 ds_nil)
 (ds_if (dt_t (de_op s_in (db_var 4) (DE.b (de_call (da_cons (DE.s (de_var 0)) (da_cons (DE.s (de_var 5)) (da_cons (DE.s (de_var 3)) da_nil)))))))
 (ds_raise T_InvalidArrow (da_cons (DE.s (de_tup (da_cons (DE.s (de_var 3)) (da_cons (DE.s (de_var 4)) da_nil)))) da_nil))
 ds_nil)))) h⟩)
abbrev s_check_pairs : Stmt := top 25
abbrev N_check_pairs : List Str := ["names", "pairs", "at", "one", "other", "ahead"]
theorem sc_check_pairs : FnScope N_check_pairs ["names", "pairs"] (defScope s_check_pairs) := ⟨rfl, rfl, rfl, by decide +kernel, rfl, by decide +kernel, by decide +kernel⟩
theorem ok_check_pairs {f : Addr} {fd : FuncData} (F : FnP K "check_pairs" "check_pairs" s_check_pairs f fd) (T : Tx mg) (C_are_two : Cal P w K mg base CX0 1 "are_two" ["names", "one", "other"] (spD K D_are_two)) (T_InvalidPair : ErrC K mg "InvalidPair") (IE : ErrI P w K mg base) : FnOk P w K mg base (L2.CX P w) 3 f fd ["names", "pairs"] (spD K D_check_pairs) := by
  refine F.ok sc_check_pairs (fun vs H Q E h => len_d (N := N_check_pairs) h) (fun cdv A outer s H vs Q E hr h => ⟨_, (pss_one (ps_for (passes_of rfl) rfl (pi_enumK (K := K) (by rfl) T.n_enumerate (pa_cons (pv 1) pa_nil)) (pg_tupK (K := K) (n := 2) (pgs_cons (pg_name (i := 2) sc_check_pairs.nd rfl (Or.inl rfl)) (pgs_cons (pg_tupK (K := K) (n := 2) (pgs_cons (pg_name (i := 3) sc_check_pairs.nd rfl (Or.inl rfl)) (pgs_cons (pg_name (i := 4) sc_check_pairs.nd rfl (Or.inl rfl)) pgs_nil))) pgs_nil)))
 (pss_cons (ps_set (i := 5) sc_check_pairs.nd rfl (Or.inl rfl) (pe_slice (r := rSlL K) sl_list (pv 1) po_none (po_some (pv 2))))
 (pss_one (ps_if (PW.pt (pw_or (pt_not (pt_val (pe_cal C_are_two hr rfl (pa_cons (pv 0) (pa_cons (pv 3) (pa_cons (pv 4) pa_nil)))))) (pw_or (pt_cmpR (r := rInD K) (op_inD hr.units5) (pe_tup (pa_cons (pv 3) (pa_cons (pv 4) pa_nil))) (pv 5) (by rfl)) (pw_or1 (pt_cmpR (r := rInD K) (op_inD hr.units5) (pe_tup (pa_cons (pv 4) (pa_cons (pv 3) pa_nil))) (pv 5) (by rfl))))))
 (pss_one (ps_raise rfl (takes_of rfl rfl rfl rfl) (pmk_x IE T_InvalidPair hr rfl (pa_cons (pe_tup (pa_cons (pv 3) (pa_cons (pv 4) pa_nil))) pa_nil))))
 pss_nil))))),
    body_d (N := N_check_pairs) (ds_for (di_enum (da_cons (DE.s (de_var 1)) da_nil)) (dg_tup (dgs_cons (dg_name 2) (dgs_cons (dg_tup (dgs_cons (dg_name 3) (dgs_cons (dg_name 4) dgs_nil))) dgs_nil)))
 (ds_seq (ds_set (DL.e (dl_slice (db_var 1) do_none (do_some (de_var 2)))))
 (ds_if (dt_or (dt_not (dt_b (de_call (da_cons (DE.s (de_var 0)) (da_cons (DE.s (de_var 3)) (da_cons (DE.s (de_var 4)) da_nil)))))) (dt_or (dt_t (de_op s_in (DE.b (de_tup (da_cons (DE.s (de_var 3)) (da_cons (DE.s (de_var 4)) da_nil)))) (db_var 5))) (dt_t (de_op s_in (DE.b (de_tup (da_cons (DE.s (de_var 4)) (da_cons (DE.s (de_var 3)) da_nil)))) (db_var 5)))))
 (ds_raise T_InvalidPair (da_cons (DE.s (de_tup (da_cons (DE.s (de_var 3)) (da_cons (DE.s (de_var 4)) da_nil)))) da_nil))
 ds_nil))) h⟩)
abbrev s_Diagram___init : Stmt := inClass (top 21) 0
abbrev N_Diagram___init : List Str := ["self", "names", "arrows", "pairs"]
theorem sc_Diagram___init : FnScope N_Diagram___init ["self", "names", "arrows", "pairs"] (defScope s_Diagram___init) := ⟨rfl, rfl, rfl, by decide +kernel, rfl, by decide +kernel, by decide +kernel⟩
theorem ok_Diagram___init {f : Addr} {fd : FuncData} (F : FnP K "__init__" "Diagram.__init__" s_Diagram___init f fd) (C_check_things : Cal P w K mg base (L2.CX P w) 3 "check_things" ["names"] (spD K D_check_things)) (C_check_arrows : Cal P w K mg base (L2.CX P w) 3 "check_arrows" ["names", "arrows"] (spD K D_check_arrows)) (C_check_pairs : Cal P w K mg base (L2.CX P w) 3 "check_pairs" ["names", "pairs"] (spD K D_check_pairs)) (T : Tx mg) (A_Diagram_names : NoAttr K (ga K "Diagram") "_names") (CC_Diagram : Cls K (ga K "Diagram")) (A_Diagram_arrows : NoAttr K (ga K "Diagram") "_arrows") (A_Diagram_pairs : NoAttr K (ga K "Diagram") "_pairs") : FnOk P w K mg base (L2.CX P w) 4 f fd ["self", "names", "arrows", "pairs"] (spI K "Diagram" D_Diagram_init) := by
  refine F.ok sc_Diagram___init (fun vs H Q E h => len_i (N := N_Diagram___init) h) (fun cdv A outer s H vs Q E hr h => ⟨_, (pss_cons (ps_expr (pe_calX C_check_things hr rfl (takes_of rfl rfl rfl rfl) (pa_cons (pv 1) pa_nil)))
 (pss_cons (ps_expr (pe_calX C_check_arrows hr rfl (takes_of rfl rfl rfl rfl) (pa_cons (pv 1) (pa_cons (pv 2) pa_nil))))
 (pss_cons (ps_expr (pe_calX C_check_pairs hr rfl (takes_of rfl rfl rfl rfl) (pa_cons (pv 1) (pa_cons (pv 3) pa_nil))))
 (pss_cons (ps_fldK (K := K) (pv 0) (pe_callTy (r := Evl.rListS K) call_list_of (by rfl) T.n_list (by decide +kernel) (pa_cons (pv 1) pa_nil)))
 (pss_cons (ps_fldK (K := K) (pv 0) (pe_callTy (r := Evl.rListS K) call_list_of (by rfl) T.n_list (by decide +kernel) (pa_cons (pv 2) pa_nil)))
 (pss_one (ps_fldK (K := K) (pv 0) (pe_callTy (r := Evl.rListS K) call_list_of (by rfl) T.n_list (by decide +kernel) (pa_cons (pv 3) pa_nil))))))))),
    body_i (N := N_Diagram___init) (ds_seq (ds_drop (de_callX (da_cons (DE.s (de_var 1)) da_nil)))
 (ds_seq (ds_drop (de_callX (da_cons (DE.s (de_var 1)) (da_cons (DE.s (de_var 2)) da_nil))))
 (ds_seq (ds_drop (de_callX (da_cons (DE.s (de_var 1)) (da_cons (DE.s (de_var 3)) da_nil))))
 (ds_seq (ds_self CC_Diagram A_Diagram_names (DL.e (dl_list (db_var 1))))
 (ds_seq (ds_self CC_Diagram A_Diagram_arrows (DL.e (dl_list (db_var 2))))
 (ds_self CC_Diagram A_Diagram_pairs (DL.e (dl_list (db_var 3))))))))) h⟩)
abbrev s_law_made : Stmt := top 34
abbrev N_law_made : List Str := ["chart"]
theorem sc_law_made : FnScope N_law_made ["chart"] (defScope s_law_made) := ⟨rfl, rfl, rfl, by decide +kernel, rfl, by decide +kernel, by decide +kernel⟩
theorem ok_law_made {f : Addr} {fd : FuncData} (F : FnP K "_law_made" "_law_made" s_law_made f fd) (T : Tx mg) (C_Diagram : CalC P w K mg base (L2.CX P w) 4 "Diagram" (ga K "Diagram") ["self", "names", "arrows", "pairs"] (spI K "Diagram" D_Diagram_init)) : FnOk P w K mg base CX0 6 f fd ["chart"] (spD K D_law_made) := by
  refine F.ok sc_law_made (fun vs H Q E h => len_d (N := N_law_made) h) (fun cdv A outer s H vs Q E hr h => ⟨_, PSs.nox ((pss_one (ps_ret (pe_mkN C_Diagram hr rfl (pa_cons (pe_callTy (r := Evl.rListS K) call_list_of (by rfl) T.n_list (by decide +kernel) (pa_cons (pe_ix (r := rIxT K) ix_tup (pv 0) pe_int (fun _ _ => rfl)) pa_nil)) (pa_cons (pe_callTy (r := Evl.rListS K) call_list_of (by rfl) T.n_list (by decide +kernel) (pa_cons (pe_ix (r := rIxT K) ix_tup (pv 0) pe_int (fun _ _ => rfl)) pa_nil)) (pa_cons (pe_callTy (r := Evl.rListS K) call_list_of (by rfl) T.n_list (by decide +kernel) (pa_cons (pe_ix (r := rIxT K) ix_tup (pv 0) pe_int (fun _ _ => rfl)) pa_nil)) pa_nil))))))),
    body_d (N := N_law_made) (ds_ret (de_make (da_cons (DE.s (DL.e (dl_list (DE.b (de_ixT (db_var 0) (DE.b de_int)))))) (da_cons (DE.s (DL.e (dl_list (DE.b (de_ixT (db_var 0) (DE.b de_int)))))) (da_cons (DE.s (DL.e (dl_list (DE.b (de_ixT (db_var 0) (DE.b de_int)))))) da_nil))))) h⟩)
abbrev s_law_known : Stmt := top 33
abbrev N_law_known : List Str := ["pool", "found", "letters_here", "lines", "veils", "tie"]
theorem sc_law_known : FnScope N_law_known ["pool"] (defScope s_law_known) := ⟨rfl, rfl, rfl, by decide +kernel, rfl, by decide +kernel, by decide +kernel⟩
theorem ok_law_known {f : Addr} {fd : FuncData} (F : FnP K "_law_known" "_law_known" s_law_known f fd) (C_law_draw : Cal P w K mg base CX0 1 "_law_draw" ["pool", "span"] (spP K D_law_draw)) (T : Tx mg) : FnOk P w K mg base CX0 2 f fd ["pool"] (spP K D_law_known) := by
  refine F.ok sc_law_known (fun vs H Q E h => len_p (N := N_law_known) h) (fun cdv A outer s H vs Q E hr h => ⟨_, PSs.nox ((pss_cons (ps_set (i := 1) sc_law_known.nd rfl (Or.inl rfl) (pe_lst (pa_cons (pe_tup (pa_cons pe_str (pa_cons (pe_lst (pa_cons pe_str pa_nil)) (pa_cons (pe_lst (pa_cons pe_str pa_nil)) pa_nil)))) (pa_cons (pe_tup (pa_cons pe_str (pa_cons (pe_lst (pa_cons pe_str (pa_cons pe_str pa_nil))) (pa_cons (pe_lst (pa_cons pe_str pa_nil)) pa_nil)))) (pa_cons (pe_tup (pa_cons pe_str (pa_cons (pe_lst (pa_cons pe_str (pa_cons pe_str (pa_cons pe_str pa_nil)))) (pa_cons (pe_lst (pa_cons pe_str (pa_cons pe_str pa_nil))) pa_nil)))) pa_nil)))))
 (pss_cons (ps_set (i := 1) sc_law_known.nd rfl (Or.inl rfl) (pe_op op_cat (pv 1) (pe_lst (pa_cons (pe_tup (pa_cons pe_str (pa_cons (pe_lst (pa_cons pe_str (pa_cons pe_str pa_nil))) (pa_cons (pe_lst (pa_cons pe_str pa_nil)) pa_nil)))) (pa_cons (pe_tup (pa_cons pe_str (pa_cons (pe_lst (pa_cons pe_str (pa_cons pe_str (pa_cons pe_str pa_nil)))) (pa_cons (pe_lst pa_nil) pa_nil)))) (pa_cons (pe_tup (pa_cons pe_str (pa_cons (pe_lst (pa_cons pe_str (pa_cons pe_str pa_nil))) (pa_cons (pe_lst (pa_cons pe_str pa_nil)) pa_nil)))) pa_nil))))))
 (pss_cons (ps_set (i := 1) sc_law_known.nd rfl (Or.inl rfl) (pe_op op_cat (pv 1) (pe_lst (pa_cons (pe_tup (pa_cons pe_str (pa_cons (pe_lst (pa_cons pe_str (pa_cons pe_str (pa_cons pe_str (pa_cons pe_str pa_nil))))) (pa_cons (pe_lst (pa_cons pe_str (pa_cons pe_str pa_nil))) pa_nil)))) (pa_cons (pe_tup (pa_cons pe_str (pa_cons (pe_lst (pa_cons pe_str (pa_cons pe_str (pa_cons pe_str pa_nil)))) (pa_cons (pe_lst (pa_cons pe_str (pa_cons pe_str pa_nil))) pa_nil)))) pa_nil)))))
 (pss_cons (ps_set (i := 1) sc_law_known.nd rfl (Or.inl rfl) (pe_op op_cat (pv 1) (pe_lst (pa_cons (pe_tup (pa_cons pe_str (pa_cons (pe_lst (pa_cons pe_str (pa_cons pe_str (pa_cons pe_str pa_nil)))) (pa_cons (pe_lst (pa_cons pe_str (pa_cons pe_str pa_nil))) pa_nil)))) (pa_cons (pe_tup (pa_cons pe_str (pa_cons (pe_lst (pa_cons pe_str (pa_cons pe_str (pa_cons pe_str (pa_cons pe_str pa_nil))))) (pa_cons (pe_lst (pa_cons pe_str (pa_cons pe_str pa_nil))) pa_nil)))) pa_nil)))))
 (pss_cons (ps_asg (pe_ix (r := rIxL K) ix_list (pv 1) (pe_cal C_law_draw hr rfl (pa_cons (pv 0) (pa_cons pe_int pa_nil))) (fun _ _ => rfl)) (pg_tupK (K := K) (n := 3) (pgs_cons (pg_name (i := 2) sc_law_known.nd rfl (Or.inl rfl)) (pgs_cons (pg_name (i := 3) sc_law_known.nd rfl (Or.inl rfl)) (pgs_cons (pg_name (i := 4) sc_law_known.nd rfl (Or.inl rfl)) pgs_nil)))))
 (pss_one (ps_ret (pe_tup (pa_cons (pe_tup (pa_cons (pe_callTy (call_listS rfl) (by rfl) T.n_list (by decide +kernel) (pa_cons (pv 2) pa_nil)) (pa_cons (pe_lc (own := [("tie", 5)]) (by rfl) sc_law_known.nd (pi_listK (K := K) (pv 3)) (blkOk_by (own := [("tie", 5)]) (N := N_law_known) (sc := defScope s_law_known) (by decide +kernel)) (fun _ _ _ _ _ => (pg_name (i := 5) sc_law_known.nd rfl (Or.inl rfl))) (fun _ _ _ _ _ => pts_nil) (fun _ _ _ _ _ => (pe_callTy (call_tupleS rfl) (by rfl) T.n_tuple (by decide +kernel) (pa_cons (pv 5) pa_nil)))) (pa_cons (pe_lc (own := [("tie", 5)]) (by rfl) sc_law_known.nd (pi_listK (K := K) (pv 4)) (blkOk_by (own := [("tie", 5)]) (N := N_law_known) (sc := defScope s_law_known) (by decide +kernel)) (fun _ _ _ _ _ => (pg_name (i := 5) sc_law_known.nd rfl (Or.inl rfl))) (fun _ _ _ _ _ => pts_nil) (fun _ _ _ _ _ => (pe_callTy (call_tupleS rfl) (by rfl) T.n_tuple (by decide +kernel) (pa_cons (pv 5) pa_nil)))) pa_nil)))) (pa_cons (pe_lst (pa_cons pe_str pa_nil)) (pa_cons (pe_lst (pa_cons pe_str pa_nil)) pa_nil)))))))))))),
    body_p (N := N_law_known) (ds_seq (ds_set (DL.e (dl_lst (da_cons (DE.s (de_tup (da_cons (DE.s de_str) (da_cons (DE.s (DL.e (dl_lst (da_cons (DE.s de_str) da_nil)))) (da_cons (DE.s (DL.e (dl_lst (da_cons (DE.s de_str) da_nil)))) da_nil))))) (da_cons (DE.s (de_tup (da_cons (DE.s de_str) (da_cons (DE.s (DL.e (dl_lst (da_cons (DE.s de_str) (da_cons (DE.s de_str) da_nil))))) (da_cons (DE.s (DL.e (dl_lst (da_cons (DE.s de_str) da_nil)))) da_nil))))) (da_cons (DE.s (de_tup (da_cons (DE.s de_str) (da_cons (DE.s (DL.e (dl_lst (da_cons (DE.s de_str) (da_cons (DE.s de_str) (da_cons (DE.s de_str) da_nil)))))) (da_cons (DE.s (DL.e (dl_lst (da_cons (DE.s de_str) (da_cons (DE.s de_str) da_nil))))) da_nil))))) da_nil))))))
 (ds_seq (ds_set (DL.e (dl_cat (db_var 1) (DE.b (DL.e (dl_lst (da_cons (DE.s (de_tup (da_cons (DE.s de_str) (da_cons (DE.s (DL.e (dl_lst (da_cons (DE.s de_str) (da_cons (DE.s de_str) da_nil))))) (da_cons (DE.s (DL.e (dl_lst (da_cons (DE.s de_str) da_nil)))) da_nil))))) (da_cons (DE.s (de_tup (da_cons (DE.s de_str) (da_cons (DE.s (DL.e (dl_lst (da_cons (DE.s de_str) (da_cons (DE.s de_str) (da_cons (DE.s de_str) da_nil)))))) (da_cons (DE.s (DL.e (dl_lst da_nil))) da_nil))))) (da_cons (DE.s (de_tup (da_cons (DE.s de_str) (da_cons (DE.s (DL.e (dl_lst (da_cons (DE.s de_str) (da_cons (DE.s de_str) da_nil))))) (da_cons (DE.s (DL.e (dl_lst (da_cons (DE.s de_str) da_nil)))) da_nil))))) da_nil)))))))))
 (ds_seq (ds_set (DL.e (dl_cat (db_var 1) (DE.b (DL.e (dl_lst (da_cons (DE.s (de_tup (da_cons (DE.s de_str) (da_cons (DE.s (DL.e (dl_lst (da_cons (DE.s de_str) (da_cons (DE.s de_str) (da_cons (DE.s de_str) (da_cons (DE.s de_str) da_nil))))))) (da_cons (DE.s (DL.e (dl_lst (da_cons (DE.s de_str) (da_cons (DE.s de_str) da_nil))))) da_nil))))) (da_cons (DE.s (de_tup (da_cons (DE.s de_str) (da_cons (DE.s (DL.e (dl_lst (da_cons (DE.s de_str) (da_cons (DE.s de_str) (da_cons (DE.s de_str) da_nil)))))) (da_cons (DE.s (DL.e (dl_lst (da_cons (DE.s de_str) (da_cons (DE.s de_str) da_nil))))) da_nil))))) da_nil))))))))
 (ds_seq (ds_set (DL.e (dl_cat (db_var 1) (DE.b (DL.e (dl_lst (da_cons (DE.s (de_tup (da_cons (DE.s de_str) (da_cons (DE.s (DL.e (dl_lst (da_cons (DE.s de_str) (da_cons (DE.s de_str) (da_cons (DE.s de_str) da_nil)))))) (da_cons (DE.s (DL.e (dl_lst (da_cons (DE.s de_str) (da_cons (DE.s de_str) da_nil))))) da_nil))))) (da_cons (DE.s (de_tup (da_cons (DE.s de_str) (da_cons (DE.s (DL.e (dl_lst (da_cons (DE.s de_str) (da_cons (DE.s de_str) (da_cons (DE.s de_str) (da_cons (DE.s de_str) da_nil))))))) (da_cons (DE.s (DL.e (dl_lst (da_cons (DE.s de_str) (da_cons (DE.s de_str) da_nil))))) da_nil))))) da_nil))))))))
 (ds_seq (ds_asg (dg_tup (dgs_cons (dg_name 2) (dgs_cons (dg_name 3) (dgs_cons (dg_name 4) dgs_nil)))) (de_ixL (db_var 1) (DE.b (de_callP (da_cons (DE.s de_int) da_nil)))))
 (ds_ret (de_tup (da_cons (DE.s (de_tup (da_cons (DE.s (DL.e (dl_listS (db_var 2)))) (da_cons (DE.s (DL.e (dl_lc (vs := [5]) (di_list (de_var 3)) (dg_name 5) (by decide) dt_yes (de_tupS (db_var 5))))) (da_cons (DE.s (DL.e (dl_lc (vs := [5]) (di_list (de_var 4)) (dg_name 5) (by decide) dt_yes (de_tupS (db_var 5))))) da_nil))))) (da_cons (DE.s (DL.e (dl_lst (da_cons (DE.s de_str) da_nil)))) (da_cons (DE.s (DL.e (dl_lst (da_cons (DE.s de_str) da_nil)))) da_nil)))))))))) h⟩)
abbrev s_open_way : Stmt := top 13
abbrev N_open_way : List Str := ["diagram", "one", "other", "given", "names"]
theorem sc_open_way : FnScope N_open_way ["diagram", "one", "other", "given"] (defScope s_open_way) := ⟨rfl, rfl, rfl, by decide +kernel, rfl, by decide +kernel, by decide +kernel⟩
theorem ok_open_way {f : Addr} {fd : FuncData} (F : FnP K "open_way" "open_way" s_open_way f fd) (C_check_names : Cal P w K mg base (L2.CX P w) 3 "check_names" ["diagram", "names"] (spD K D_check_names)) (C_check_apart : Cal P w K mg base (L2.CX P w) 3 "check_apart" ["names", "taken"] (spD K D_check_apart)) (C_find_way : Cal P w K mg base (L2.CX P w) 6 "find_way" ["diagram", "one", "other", "given"] (spD K (D_find_way w))) : FnOk P w K mg base (L2.CX P w) 7 f fd ["diagram", "one", "other", "given"] (spD K (D_open_way w)) := by
  refine F.ok sc_open_way (fun vs H Q E h => len_d (N := N_open_way) h) (fun cdv A outer s H vs Q E hr h => ⟨_, (pss_cons (ps_for (passes_of rfl) rfl (pi_tupK (K := K) (pe_tup (pa_cons (pe_lst (pa_cons (pv 1) pa_nil)) (pa_cons (pe_lst (pa_cons (pv 2) pa_nil)) (pa_cons (pv 3) pa_nil))))) (pg_name (i := 4) sc_open_way.nd rfl (Or.inl rfl))
 (pss_one (ps_expr (pe_calX C_check_names hr rfl (takes_of rfl rfl rfl rfl) (pa_cons (pv 0) (pa_cons (pv 4) pa_nil))))))
 (pss_cons (ps_expr (pe_calX C_check_apart hr rfl (takes_of rfl rfl rfl rfl) (pa_cons (pv 3) (pa_cons (pe_lst (pa_cons (pv 1) (pa_cons (pv 2) pa_nil))) pa_nil))))
 (pss_one (ps_ret (pe_calX C_find_way hr rfl (takes_of rfl rfl rfl rfl) (pa_cons (pv 0) (pa_cons (pv 1) (pa_cons (pv 2) (pa_cons (pv 3) pa_nil))))))))),
    body_d (N := N_open_way) (ds_seq (ds_for (di_tup (de_tup (da_cons (DE.s (DL.e (dl_lst (da_cons (DE.s (de_var 1)) da_nil)))) (da_cons (DE.s (DL.e (dl_lst (da_cons (DE.s (de_var 2)) da_nil)))) (da_cons (DE.s (de_var 3)) da_nil))))) (dg_name 4)
 (ds_drop (de_callX (da_cons (DE.s (de_var 0)) (da_cons (DE.s (de_var 4)) da_nil)))))
 (ds_seq (ds_drop (de_callX (da_cons (DE.s (de_var 3)) (da_cons (DE.s (DL.e (dl_lst (da_cons (DE.s (de_var 1)) (da_cons (DE.s (de_var 2)) da_nil))))) da_nil))))
 (ds_ret (de_callX (da_cons (DE.s (de_var 0)) (da_cons (DE.s (de_var 1)) (da_cons (DE.s (de_var 2)) (da_cons (DE.s (de_var 3)) da_nil)))))))) h⟩)
abbrev s_law_fits : Stmt := top 35
abbrev N_law_fits : List Str := ["pool", "chart", "made", "lots", "left", "thing", "way", "firsts", "lasts", "extra", "given_here", "together", "each", "more", "start", "goal", "known", "some"]
theorem sc_law_fits : FnScope N_law_fits ["pool"] (defScope s_law_fits) := ⟨rfl, rfl, rfl, by decide +kernel, rfl, by decide +kernel, by decide +kernel⟩
theorem ok_law_fits {f : Addr} {fd : FuncData} (F : FnP K "_law_fits" "_law_fits" s_law_fits f fd) (C_law_draw : Cal P w K mg base CX0 1 "_law_draw" ["pool", "span"] (spP K D_law_draw)) (C_law_known : Cal P w K mg base CX0 2 "_law_known" ["pool"] (spP K D_law_known)) (C_law_chart : Cal P w K mg base CX0 2 "_law_chart" ["pool", "widest"] (spP K D_law_chart)) (C_law_made : Cal P w K mg base CX0 6 "_law_made" ["chart"] (spD K D_law_made)) (T : Tx mg) (C_barred : Cal P w K mg base (L2.CX P w) 7 "barred" ["diagram", "ones", "others", "given"] (spD K (D_barred w))) (C_open_way : Cal P w K mg base (L2.CX P w) 7 "open_way" ["diagram", "one", "other", "given"] (spD K (D_open_way w))) : FnOk P w K mg base CX0 8 f fd ["pool"] (spP K (D_law_fits w)) := by
  refine F.ok sc_law_fits (fun vs H Q E h => len_p (N := N_law_fits) h) (fun cdv A outer s H vs Q E hr h => ⟨_, PSs.nox ((pss_cons (ps_set (i := 1) sc_law_fits.nd rfl (Or.inl rfl) (pe_ifExp (pt_cmpR (r := rEqD K) (op_eqD hr.units) (pe_cal C_law_draw hr rfl (pa_cons (pv 0) (pa_cons pe_int pa_nil))) pe_int (nomark _)) (pe_ix (r := rIxT K) ix_tup (pe_cal C_law_known hr rfl (pa_cons (pv 0) pa_nil)) pe_int (fun _ _ => rfl)) (pe_cal C_law_chart hr rfl (pa_cons (pv 0) (pa_cons pe_int pa_nil)))))
 (pss_cons (ps_asg (pe_tup (pa_cons (pe_cal C_law_made hr rfl (pa_cons (pv 1) pa_nil)) (pa_cons (pe_lst (pa_cons (pe_lst pa_nil) (pa_cons (pe_lst pa_nil) (pa_cons (pe_lst pa_nil) (pa_cons (pe_lst pa_nil) (pa_cons (pe_lst pa_nil) pa_nil)))))) (pa_cons (pe_callTy (r := Evl.rListS K) call_list_of (by rfl) T.n_list (by decide +kernel) (pa_cons (pe_ix (r := rIxT K) ix_tup (pv 1) pe_int (fun _ _ => rfl)) pa_nil)) pa_nil)))) (pg_tupK (K := K) (n := 3) (pgs_cons (pg_name (i := 2) sc_law_fits.nd rfl (Or.inr rfl)) (pgs_cons (pg_name (i := 3) sc_law_fits.nd rfl (Or.inl rfl)) (pgs_cons (pg_name (i := 4) sc_law_fits.nd rfl (Or.inl rfl)) pgs_nil)))))
 (pss_cons (ps_while PassesOwn.never (pt_cmpR (r := rNeD K) (op_neD hr.units) (pv 4) (pe_lst pa_nil) (nomark _))
 (pss_cons (ps_par (i := 5) (j := 6) (by rfl) sc_law_fits.nd rfl rfl (by decide) rfl rfl (pa_cons (pe_bmK (K := K) PySem.F.plainAttrs_list PySem.F.slot_list_pop PySem.F.type_list_pop mt_popAt (pv 4) (pa_cons (pe_cal C_law_draw hr rfl (pa_cons (pv 0) (pa_cons (pe_callB (r := Evl.rLenS K) call_len_seq (by rfl) T.n_len (by decide +kernel) (pa_cons (pv 4) pa_nil)) pa_nil))) pa_nil)) (pa_cons (pe_cal C_law_draw hr rfl (pa_cons (pv 0) (pa_cons pe_int pa_nil))) pa_nil)) (by rfl))
 (pss_one (ps_if (PW.pt (pw_or (pt_cmpR op_lt (pv 6) pe_int (nomark _)) (pw_or1 (pt_cmpR op_lt (pe_callB (r := Evl.rLenS K) call_len_seq (by rfl) T.n_len (by decide +kernel) (pa_cons (pe_op op_cat (pe_ix (r := rIxL K) ix_list (pv 3) pe_int (fun _ _ => rfl)) (pe_ix (r := rIxL K) ix_list (pv 3) pe_int (fun _ _ => rfl))) pa_nil)) pe_int (nomark _)))))
 (pss_one (ps_expr (pe_bmK (K := K) PySem.F.plainAttrs_list PySem.F.slot_list_append PySem.F.type_list_append mt_append (pe_ix (r := rIxL K) ix_list (pv 3) (pv 6) (fun _ _ => rfl)) (pa_cons (pv 5) pa_nil))))
 pss_nil))))
 (pss_cons (ps_asg (pe_slice (r := rSlL K) sl_list (pv 3) po_none (po_some pe_int)) (pg_lstK (K := K) (n := 4) (pgs_cons (pg_name (i := 7) sc_law_fits.nd rfl (Or.inr rfl)) (pgs_cons (pg_name (i := 8) sc_law_fits.nd rfl (Or.inl rfl)) (pgs_cons (pg_name (i := 9) sc_law_fits.nd rfl (Or.inl rfl)) (pgs_cons (pg_name (i := 10) sc_law_fits.nd rfl (Or.inr rfl)) pgs_nil))))))
 (pss_cons (ps_set (i := 11) sc_law_fits.nd rfl (Or.inl rfl) (pe_calN C_barred hr rfl (pa_cons (pv 2) (pa_cons (pv 7) (pa_cons (pe_op op_cat (pv 8) (pv 9)) (pa_cons (pv 10) pa_nil))))))
 (pss_cons (ps_setLc (i := 12) (own := [("some", 17)]) (by rfl) sc_law_fits.nd rfl rfl (sw_true rfl rfl rfl (by decide +kernel)) (pi_tupK (K := K) (pe_tup (pa_cons (pv 8) (pa_cons (pv 9) pa_nil)))) (blkOk_by (own := [("some", 17)]) (N := N_law_fits) (sc := defScope s_law_fits) (by decide +kernel)) (fun _ _ _ _ _ => (pg_name (i := 17) sc_law_fits.nd rfl (Or.inl rfl))) (fun _ _ _ _ _ => pts_nil) (fun _ _ _ _ _ => (pe_calN C_barred hr rfl (pa_cons (pv 2) (pa_cons (pv 7) (pa_cons (pv 17) (pa_cons (pv 10) pa_nil)))))))
 (pss_cons (ps_if (PW.pt (pw_or (pt_cmpR (r := rNeD K) (op_neD hr.units) (pv 11) (pe_cmpR (r := rEqD K) (op_eqD hr.units) (pv 12) (pe_lst (pa_cons pe_bl (pa_cons pe_bl pa_nil))) (nomark _)) (nomark _)) (pw_or1 (pt_cmpR (r := rNeD K) (op_neD hr.units) (pe_calN C_barred hr rfl (pa_cons (pv 2) (pa_cons (pe_op op_cat (pv 8) (pv 9)) (pa_cons (pv 7) (pa_cons (pv 10) pa_nil))))) (pv 11) (nomark _)))))
 (pss_one (ps_ret pe_bl))
 pss_nil)
 (pss_cons (ps_set (i := 13) sc_law_fits.nd rfl (Or.inl rfl) (pe_calN C_barred hr rfl (pa_cons (pv 2) (pa_cons (pv 7) (pa_cons (pv 8) (pa_cons (pe_op op_cat (pv 10) (pv 9)) pa_nil))))))
 (pss_cons (ps_if (PW.pt (pw_or (PW.pt (pw_and (pt_val (pv 11)) (pw_and1 (pt_not (pt_val (pv 13)))))) (pw_or1 (PW.pt (pw_and (pt_val (pe_ix (r := rIxL K) ix_list (pv 12) pe_int (fun _ _ => rfl))) (pw_and (pt_val (pv 13)) (pw_and1 (pt_not (pt_val (pv 11))))))))))
 (pss_one (ps_ret pe_bl))
 pss_nil)
 (pss_cons (ps_for PassesOwn.never rfl (pi_listK (K := K) (pe_op op_cat (pe_ix (r := rIxT K) ix_tup (pv 1) pe_int (fun _ _ => rfl)) (pe_ix (r := rIxT K) ix_tup (pv 1) pe_int (fun _ _ => rfl)))) (pg_tupK (K := K) (n := 2) (pgs_cons (pg_name (i := 14) sc_law_fits.nd rfl (Or.inr rfl)) (pgs_cons (pg_name (i := 15) sc_law_fits.nd rfl (Or.inr rfl)) pgs_nil)))
 (pss_cons (ps_setLc (i := 16) (own := [("thing", 5)]) (by rfl) sc_law_fits.nd rfl rfl (sw_true rfl rfl rfl (by decide +kernel)) (pi_listK (K := K) (pv 10)) (blkOk_by (own := [("thing", 5)]) (N := N_law_fits) (sc := defScope s_law_fits) (by decide +kernel)) (fun _ _ _ _ _ => (pg_name (i := 5) sc_law_fits.nd rfl (Or.inl rfl))) (fun _ _ _ _ _ => (pts_one (pt_cmpR (r := rIn K true) op_notIn_seq (pv 5) (pe_tup (pa_cons (pv 14) (pa_cons (pv 15) pa_nil))) (by rfl)))) (fun _ _ _ _ _ => (pv 5)))
 (pss_one (ps_if (PW.pt (pw_or (pt_val (pe_calN C_barred hr rfl (pa_cons (pv 2) (pa_cons (pe_lst (pa_cons (pv 14) pa_nil)) (pa_cons (pe_lst (pa_cons (pv 15) pa_nil)) (pa_cons (pv 16) pa_nil)))))) (pw_or1 (pt_cmpR (r := rNeD K) (op_neD hr.units) (pe_calN C_open_way hr rfl (pa_cons (pv 2) (pa_cons (pv 14) (pa_cons (pv 15) (pa_cons (pv 16) pa_nil))))) (pe_lst (pa_cons (pv 14) (pa_cons (pv 15) pa_nil))) (nomark _)))))
 (pss_one (ps_ret pe_bl))
 pss_nil))))
 (pss_one (ps_ret (pe_and (pe_calN C_barred hr rfl (pa_cons (pv 2) (pa_cons (pv 7) (pa_cons (pe_lst pa_nil) (pa_cons (pv 10) pa_nil))))) (pe_one (pe_calN C_barred hr rfl (pa_cons (pv 2) (pa_cons (pe_lst pa_nil) (pa_cons (pv 8) (pa_cons (pe_lst pa_nil) pa_nil)))))))))))))))))))),
    body_p (N := N_law_fits) (ds_seq (ds_set (de_if (dt_t (de_op s_eq (DE.b (de_callP (da_cons (DE.s de_int) da_nil))) (DE.b de_int))) (de_ixT (DE.b (de_callP da_nil)) (DE.b de_int)) (de_callP (da_cons (DE.s de_int) da_nil))))
 (ds_seq (ds_tupPar (is := [2, 3, 4]) (da_cons (DE.s (de_call (da_cons (DE.s (de_var 1)) da_nil))) (da_cons (ds1_nest (n := 5) (by decide)) (da_cons (DL.s (dl_list (DE.b (de_ixT (db_var 1) (DE.b de_int))))) da_nil))))
 (ds_seq (ds_while (dt_t (de_op s_ne (db_var 4) (DE.b (DL.e (dl_lst da_nil)))))
 (ds_seq (ds_par (da_cons (DE.s (de_popAt (da_cons (DE.s (de_callP (da_cons (DE.s (de_b1 s_len (db_var 4))) da_nil))) da_nil))) (da_cons (DE.s (de_callP (da_cons (DE.s de_int) da_nil))) da_nil)))
 (ds_if (dt_or (dt_t (de_op s_lt (db_var 6) (DE.b de_int))) (dt_t (de_op s_lt (DE.b (de_b1 s_len (DE.b (DL.e dl_cat2)))) (DE.b de_int))))
 (ds_drop de_app2)
 ds_nil)))
 (ds_seq (ds_asg (dg_lst (dgs_cons (dg_name 7) (dgs_cons (dg_name 8) (dgs_cons (dg_name 9) (dgs_cons (dg_name 10) dgs_nil))))) (DL.e (dl_slice (DE.b (de_varL 3)) do_none (do_some de_int))))
 (ds_seq (ds_set (de_call (da_cons (DE.s (de_var 2)) (da_cons (DE.s (de_var 7)) (da_cons (DE.s (DL.e (dl_cat (db_var 8) (db_var 9)))) (da_cons (DE.s (de_var 10)) da_nil))))))
 (ds_seq (ds_setLc (dl_lc (vs := [17]) (di_tup (de_tup (da_cons (DE.s (de_var 8)) (da_cons (DE.s (de_var 9)) da_nil)))) (dg_name 17) (by decide) dt_yes (de_call (da_cons (DE.s (de_var 2)) (da_cons (DE.s (de_var 7)) (da_cons (DE.s (de_var 17)) (da_cons (DE.s (de_var 10)) da_nil)))))))
 (ds_seq (ds_if (dt_or (dt_t (de_op s_ne (db_var 11) (DE.b (de_op s_eq (db_var 12) (DE.b (DL.e (dl_lst (da_cons (DE.s de_bl) (da_cons (DE.s de_bl) da_nil))))))))) (dt_t (de_op s_ne (DE.b (de_call (da_cons (DE.s (de_var 2)) (da_cons (DE.s (DL.e (dl_cat (db_var 8) (db_var 9)))) (da_cons (DE.s (de_var 7)) (da_cons (DE.s (de_var 10)) da_nil)))))) (db_var 11))))
 (ds_ret de_bl)
 ds_nil)
 (ds_seq (ds_set (de_call (da_cons (DE.s (de_var 2)) (da_cons (DE.s (de_var 7)) (da_cons (DE.s (de_var 8)) (da_cons (DE.s (DL.e (dl_cat (db_var 10) (db_var 9)))) da_nil))))))
 (ds_seq (ds_if (dt_or (dt_and (dt_b (de_var 11)) (dt_not (dt_b (de_var 13)))) (dt_and (dt_b (de_ixL (db_var 12) (DE.b de_int))) (dt_and (dt_b (de_var 13)) (dt_not (dt_b (de_var 11))))))
 (ds_ret de_bl)
 ds_nil)
 (ds_seq (ds_for (di_list (DL.e (dl_cat (DE.b (de_ixT (db_var 1) (DE.b de_int))) (DE.b (de_ixT (db_var 1) (DE.b de_int)))))) (dg_tup (dgs_cons (dg_name 14) (dgs_cons (dg_name 15) dgs_nil)))
 (ds_seq (ds_setLc (dl_lc (vs := [5]) (di_list (de_var 10)) (dg_name 5) (by decide) (dt_t (de_op s_notInT (db_var 5) (DE.b (de_tup (da_cons (DE.s (de_var 14)) (da_cons (DE.s (de_var 15)) da_nil)))))) (de_var 5)))
 (ds_if (dt_or (dt_b (de_call (da_cons (DE.s (de_var 2)) (da_cons (DE.s (DL.e (dl_lst (da_cons (DE.s (de_var 14)) da_nil)))) (da_cons (DE.s (DL.e (dl_lst (da_cons (DE.s (de_var 15)) da_nil)))) (da_cons (DE.s (de_var 16)) da_nil)))))) (dt_t (de_op s_ne (DE.b (de_call (da_cons (DE.s (de_var 2)) (da_cons (DE.s (de_var 14)) (da_cons (DE.s (de_var 15)) (da_cons (DE.s (de_var 16)) da_nil)))))) (DE.b (DL.e (dl_lst (da_cons (DE.s (de_var 14)) (da_cons (DE.s (de_var 15)) da_nil))))))))
 (ds_ret de_bl)
 ds_nil)))
 (ds_ret (de_and (de_call (da_cons (DE.s (de_var 2)) (da_cons (DE.s (de_var 7)) (da_cons (DE.s (DL.e (dl_lst da_nil))) (da_cons (DE.s (de_var 10)) da_nil))))) (de_call (da_cons (DE.s (de_var 2)) (da_cons (DE.s (DL.e (dl_lst da_nil))) (da_cons (DE.s (de_var 8)) (da_cons (DE.s (DL.e (dl_lst da_nil))) da_nil))))))))))))))))) h⟩)
end
end Da
end F107
section F108
open L2 Ds
local macro_rules | `(tactic| walk_at "ds1") => `(tactic| with_reducible first
  | refine d_seq ?_ | refine d_asg ?_ | refine d_gname ?_ | refine d_if ?_ | refine d_next ?_ | refine d_ret ?_ | refine d_drop ?_ | refine d_test ?_ | refine d_B ?_ | refine d_c ?_
  | refine d_op ?_ | refine d_un ?_ | refine d_rI0 ?_ | refine d_rU ?_ | refine d_cons ?_ | refine d_nil ?_ | refine d_cb ?_ | refine d_bl ?_ | refine d_call ?_ | refine d_and ?_ | refine d_or ?_ | refine d_not ?_ | refine d_lst ?_ | refine d_tup ?_
  | refine d_par ?_ | refine d_par2 ?_ | refine d_for ?_ | refine d_rng1 ?_ | refine d_rng2 ?_ | refine d_ils ?_ | refine d_its ?_ | refine d_ien ?_ | refine d_lc ?_ | refine d_yes ?_ | refine d_step2 ?_ | refine d_chain ?_ | refine d_andV ?_ | refine d_orV ?_ | refine d_notV ?_ | refine d_slice ?_ | refine d_nopart ?_ | refine d_part ?_ | refine d_int ?_ | refine d_s2 ?_ | refine d_mkO ?_ | refine d_callS ?_ | refine d_p0 ?_ | refine d_p1 ?_ | refine d_disp ?_ | refine d_din ?_ | refine d_dnotin ?_ | refine d_dput ?_ | refine d_sfld ?_ | refine d_fld ?_ | refine d_gcons ?_ | refine d_gnil ?_ | refine d_gsub ?_ | refine d_bm ?_ | refine d_bm0 ?_)
local macro_rules | `(tactic| walk_at "ds2") => `(tactic| first
  | ((with_reducible show tVar _ _ _ _); refine d_var (by exact rfl) ?_)
  | (with_reducible refine d_i1 ?_) | (with_reducible refine d_i2 ?_) | (with_reducible refine d_o1 ?_) | ((with_reducible refine d_ls ?k1 ?_); (case k1 => exact Nat.le_of_ble_eq_true rfl))
  | ((with_reducible refine' d_lenS ?k1 ?_); (case k1 => first | assumption | exact SqL.of (by assumption))) | ((with_reducible refine' d_listS ?k1 ?_); (case k1 => first | assumption | exact SqL.of (by assumption)))
  | ((with_reducible refine' d_len ?k1 ?_); (case k1 => first | assumption | exact SqL.of (by assumption)))
  | ((with_reducible refine' d_eq ?k1 ?_); (case k1 => rfl)) | ((with_reducible refine' d_ne ?k1 ?_); (case k1 => rfl))
  | ((with_reducible refine' d_new ?k1 ?_); (case k1 => exact Nat.le_of_ble_eq_true rfl)))
local macro_rules | `(tactic| walk_at "rd") => `(tactic| repeat (first | walk_at "ds1" | walk_at "ds2"))
local macro_rules | `(tactic| walk_at "sub") => `(tactic| repeat (first | exact List.Sublist.slnil | exact List.Sublist.refl _ | refine List.Sublist.cons₂ _ ?_ | refine List.Sublist.cons _ ?_))
namespace Da
open PySem PySem.Spec PyProof.Rows L2 He Ds
abbrev s_pool : Stmt := top 30
abbrev s_law : Stmt := top 36
/-- a pool at p, drawn from at most n times -/
def Pool (H : Hp) (p : Addr) (n : Nat) : Prop := ∃ a b c : Int, H p = some (.lst [.int a, .int b, .int c]) ∧ 0 ≤ a ∧ 0 ≤ b ∧ b < 2 ^ 62 ∧ 0 ≤ c ∧ c ≤ n
theorem Pool.mono {H : Hp} {p : Addr} {n m : Nat} (h : Pool H p n) (k : n ≤ m) : Pool H p m := by
  obtain ⟨a, b, c, h1, h2, h3, h4, h5, h6⟩ := h
  exact ⟨a, b, c, h1, h2, h3, h4, h5, by omega⟩
def spPool (K : PySem.W.Frag) : Sp := fun vs H Q _ => ∃ (a : Addr) (ns : List Int) (i : Nat), vs = [.ref a, .int i] ∧ SqL K H a (ns.map V.int) ∧ ns.length ≤ 63 ∧ i < 63 ∧
  ∀ p o, H p = none → Pool (upd H p o) p 0 → Q (.ref p) (upd H p o)
section
variable {P : Program} {w : World} {K : PySem.W.Frag} {mg : Str → Option Value} {base : Heap}
theorem sc_pool : FnScope ["script", "spot", "cell"] ["script", "spot"] (defScope s_pool) := ⟨rfl, rfl, rfl, by decide +kernel, rfl, by decide +kernel, by decide +kernel⟩
theorem ok_pool {f : Addr} {fd : FuncData} (F : FnP K "_law_pool" "_law_pool" s_pool f fd) (T : Tx mg) : FnOk P w K mg base CX0 1 f fd ["script", "spot"] (spPool K) := by
  refine F.ok sc_pool (fun vs H Q E h => ?_) (fun cdv A outer s H vs Q E hr h => ⟨_, PSs.nox ((pss_cons (ps_set (i := 2) sc_pool.nd rfl (Or.inl rfl) pe_int)
 (Evl.pss_cut (ps_if (pt_cmpR op_lt (pv 1) (pe_callB (r := Evl.rLenS K) call_len_seq (by rfl) T.n_len (by decide +kernel) (pa_cons (pv 0) pa_nil)) (nomark _))
 (pss_one (ps_set (i := 2) sc_pool.nd rfl (Or.inl rfl) (pe_ix (r := rIxL K) ix_list (pv 0) (pv 1) (fun _ _ => rfl))))
 pss_nil)
 (pss_one (ps_ret (pe_lst (pa_cons (pe_callB (call_max2 rfl) (by rfl) T.n_max (by decide +kernel) (pa_cons pe_int (pa_cons (pe_op op_sub (pe_callB call_abs (by rfl) T.n_abs (by decide +kernel) (pa_cons (pv 2) pa_nil)) (pe_op op_powW pe_int pe_int)) pa_nil))) (pa_cons (pe_op op_add (pe_op op_mod (pe_callTy call_int1 (by rfl) T.n_int (by decide +kernel) (pa_cons (pv 2) pa_nil)) pe_int) (pe_op op_mulW pe_int (pe_op op_add (pv 1) pe_int))) (pa_cons pe_int pa_nil))))))))), ?_⟩)
  · obtain ⟨a, ns, i, rfl, _⟩ := h
    rfl
  · obtain ⟨a, ns, i, rfl, hS, hl, hi, k⟩ := h
    walk_at "rd"
    refine d_cut (M := fun σ' H' => ∃ z : Int, σ' = [some (.ref a), some (.int i), some (.int z)] ∧ H' = H) ?_ ?_
    · walk_at "rd"
      refine ite2 (fun c => ?_) (fun c => ?_)
      · have c' : (i : Int) < ((ns.map V.int).length : Nat) := of_decide_eq_true c
        rw [List.length_map] at c'
        have hi' : i < ns.length := by omega
        walk_at "rd"
        refine d_ix1 hS (atI_nat (v := .int ns[i]) (by rw [List.getElem?_map, List.getElem?_eq_getElem hi']; rfl)) ?_
        walk_at "rd"
        exact ⟨_, rfl, rfl⟩
      · walk_at "rd"
        exact ⟨_, rfl, rfl⟩
    · rintro σ' H' ⟨z, rfl, rfl⟩
      walk_at "rd"
      refine d_rI ⟨by decide, by decide⟩ ?_
      walk_at "rd"
      refine d_rI (by decide) ?_
      walk_at "rd"
      refine d_rI (wide_mul (a := 30) (b := 30) (by decide) (by omega) (by decide) (by decide) (by decide)) ?_
      walk_at "rd"
      intro p hp
      refine k p _ hp ⟨_, _, _, upd_same, ?_, ?_, ?_, by decide, by decide⟩
      · split <;> omega
      · have h1 := Int.emod_nonneg z (show (2305843009213693951 : Int) ≠ 0 by decide)
        omega
      · have h1 := Int.emod_lt_of_pos z (show (0 : Int) < 2305843009213693951 by decide)
        omega
theorem sp_right {H : Hp} {p : Addr} {n : Nat} {Q : VK} {E : XK} (h : Pool H p n) (hn : n ≤ 800000000) (k : ∀ H', (∀ b o, H b = some o → b ≠ p → H' b = some o) → Pool H' p (n + 400) → Q (.bl true) H') : spP K (D_law_fits w) ([.ref p] ++ []) H Q E := by
  obtain ⟨a, b, c, h1, h2, h3, h4, h5, h6⟩ := h
  obtain ⟨ns', ⟨a', b', c', rfl, g2, g3, g4, g5, g6⟩, e⟩ := ev_law_fits (w := w) (ns := [a, b, c]) (n := n) ⟨a, b, c, rfl, h2, h3, h4, h5, h6⟩ hn
  refine ⟨p, [], [a, b, c], fun _ => none, [], rfl, h1, rfl, (fun _ _ z => by cases z), .nil, ?_⟩
  rw [e]
  intro v G' H' f1 f2 _ _ _ hv
  cases hv
  exact k H' f1 ⟨a', b', c', f2, g2, g3, g4, g5, g6⟩
theorem sc_law : FnScope ["script", "spot", "pool", "turn"] ["script"] (defScope s_law) := ⟨rfl, rfl, rfl, by decide +kernel, rfl, by decide +kernel, by decide +kernel⟩
def spLaw (K : PySem.W.Frag) : Sp := fun us H Q _ => ∃ (a : Addr) (ns : List Int), us = [.ref a] ∧ SqL K H a (ns.map V.int) ∧ ns.length ≤ 63 ∧ ∀ H', Q (.bl true) H'
theorem ok_law {f : Addr} {fd : FuncData} (F : FnP K "law" "law" s_law f fd) (T : Tx mg) (C_pool : Cal P w K mg base CX0 1 "_law_pool" ["script", "spot"] (spPool K)) (C_right : Cal P w K mg base CX0 8 "_law_fits" ["pool"] (spP K (D_law_fits w))) :
    FnG P w K mg base CX0 9 f fd ["script"] (spLaw K) := by
  refine okG F sc_law (fun vs H Q E h => ?_) (fun cdv A outer s H vs Q E hg hr h => ⟨_, PSs.nox ((pss_cons (ps_for PassesOwn.never rfl (pi_range1 (by rfl) T.n_range (pa_cons (pe_callB (call_max2 rfl) (by rfl) T.n_max (by decide +kernel) (pa_cons pe_int (pa_cons (pe_callB (call_min2 rfl) (by rfl) T.n_min (by decide +kernel) (pa_cons pe_int (pa_cons (pe_callB (r := Evl.rLenS K) call_len_seq (by rfl) T.n_len (by decide +kernel) (pa_cons (pv 0) pa_nil)) pa_nil))) pa_nil))) pa_nil)) (pg_name (i := 1) sc_law.nd rfl (Or.inl rfl))
 (pss_cons (ps_set (i := 2) sc_law.nd rfl (Or.inl rfl) (pe_cal C_pool hr rfl (pa_cons (pv 0) (pa_cons (pv 1) pa_nil))))
 (pss_one (ps_for PassesOwn.never rfl (pi_range1 (by rfl) T.n_range (pa_cons pe_int pa_nil)) (pg_name (i := 3) sc_law.nd rfl (Or.inl rfl))
 (pss_one (ps_if (pt_not (pt_val (pe_cal C_right hr rfl (pa_cons (pv 2) pa_nil))))
 (pss_one (ps_ret pe_bl))
 pss_nil))))))
 (pss_one (ps_ret pe_bl)))), ?_⟩)
  · obtain ⟨a, ns, rfl, _⟩ := h
    rfl
  · obtain ⟨a, ns, rfl, hS, hl, k⟩ := h
    walk_at "rd"
    rw [List.length_map]
    generalize hz : (if (if ((ns.length : Nat) : Int) < 6 then ((ns.length : Nat) : Int) else 6) > 1 then (if ((ns.length : Nat) : Int) < 6 then ((ns.length : Nat) : Int) else 6) else 1) = z
    have z0 : 1 ≤ z := by rw [← hz]; split <;> omega
    have z6 : z ≤ 6 := by rw [← hz]; split <;> split <;> omega
    refine ⟨by omega, by omega, ?_⟩
    refine for_range (lo := 0) (n := z.toNat) (fun i σ' Hc => ∃ v1 v2 v3 : Option V, σ' = [some (.ref a), v1, v2, v3] ∧ Same H Hc) ?_ ?_ ?_
    · exact ⟨none, none, none, rfl, Same.refl H⟩
    · rintro i σ' Hc hi ⟨v1, v2, v3, rfl, sc⟩
      walk_at "rd"
      refine ⟨a, ns, i, by rw [Int.zero_add]; rfl, sc.seq hS, hl, by omega, fun p o np P0 => ?_⟩
      have s1 : Same H (upd Hc p o) := fun b u e => by rw [upd_ne (ne_of_none (sc b u e) np)]; exact sc b u e
      have np0 := sc.free np
      walk_at "rd"
      refine ⟨by decide, by decide, ?_⟩
      refine for_range (lo := 0) (n := (4 : Int).toNat) (fun j σ' Hd => ∃ v1 v3 : Option V, σ' = [some (.ref a), v1, some (.ref p), v3] ∧ Same H Hd ∧ Pool Hd p (400 * j)) ?_ ?_ ?_
      · exact ⟨_, _, rfl, s1, P0⟩
      · rintro j σ' Hd hj ⟨v1, v3, rfl, sd, Pd⟩
        have hj4 : j < 4 := hj
        walk_at "rd"
        refine sp_right Pd (by omega) fun He fe Pe => ?_
        walk_at "rd"
        refine iteF ?_
        walk_at "rd"
        exact ⟨_, _, rfl, fun b u e => fe b u (sd b u e) (ne_of_none e np0), by rw [Nat.mul_succ]; exact Pe⟩
      · rintro σ' Hd ⟨v1, v3, rfl, sd, Pd⟩
        walk_at "rd"
        exact ⟨_, _, _, rfl, sd⟩
    · rintro σ' Hc ⟨v1, v2, v3, rfl, sc⟩
      walk_at "rd"
      exact k _
end
end Da
end F108
section F109
open L2 Ds
namespace Da
open PySem PySem.Spec PyProof.Rows L2 He Ds
section
variable {P : Program} {w : World} {K : PySem.W.Frag} {mg : Str → Option Value} {base : Heap} {x qual : Str} {prm : Arguments} {body : List Stmt} {sc : Scope} {f : Addr} {fd : FuncData} {CX : CXT} {k : Nat} {ps : List Str} {sp : Sp} {C : Addr} {m : Str}
theorem mkCal (F : FunD K x qual prm body sc [] [] f fd) (g : mg x = some (.ref f)) (ok : FnOk P w K mg base CX k f fd ps sp)
    (b : ∀ (kV doc pm : Value) (an : Option Addr) (cdv ct : Value) (us : List Value), us.length = ps.length → bindArgs (PySem.W.fnOf x qual prm body sc .none kV doc pm an cdv ct) ⟨us, []⟩ = pure (ps.zip us)) : Cal P w K mg base CX k x ps sp := ⟨f, fd, ok, g, F.kp, F.bindsN b⟩
theorem mkCalM (F : FunD K x qual prm body sc [] [] f fd) (c : Cls K C) (hm : Meth K C m f) (ok : FnOk P w K mg base CX k f fd ps sp)
    (b : ∀ (kV doc pm : Value) (an : Option Addr) (cdv ct : Value) (us : List Value), us.length = ps.length → bindArgs (PySem.W.fnOf x qual prm body sc .none kV doc pm an cdv ct) ⟨us, []⟩ = pure (ps.zip us))
    (b2 : ∀ (kV doc pm : Value) (an : Option Addr) (cdv ct : Value) (us ws : List Value), us.length = 1 → ws.length = ps.tail.length → bindArgs (PySem.W.fnOf x qual prm body sc .none kV doc pm an cdv ct) ⟨us, ps.tail.zip ws⟩ = pure (ps.zip (us ++ ws))) :
    CalM P w K mg base CX k C m ps sp := by
  refine ⟨c, f, fd, ok, hm, F.bindsN b, ⟨fun s us ws X l1 l2 => ?_, fun r1 r2 => r1.append r2⟩⟩
  obtain ⟨oc, od, dV, kV, doc, pm, an, cdv, ct, osl, rfl, lk, hcd, hD, hK⟩ := F.ex
  rcases hD with ⟨_, rfl⟩ | ⟨e, _⟩
  · exact BindsTo.of_eq (b2 kV doc pm an cdv ct us ws l1 l2)
  · exact absurd rfl e
end
abbrev s_einit : Stmt := inClass (top 2) 0
section
variable {P : Program} {w : World} {K : PySem.W.Frag} {mg : Str → Option Value} {base : Heap}
theorem sc_einit : FnScope ["self", "value"] ["self", "value"] (defScope s_einit) := ⟨rfl, rfl, rfl, by decide +kernel, rfl, by decide +kernel, by decide +kernel⟩
theorem ok_einit {f : Addr} {fd : FuncData} (F : FnP K "__init__" "DeedError.__init__" s_einit f fd) : FnOk P w K mg base CX0 1 f fd ["self", "value"] (spErrI K) := by
  refine F.ok sc_einit (fun vs H Q E h => ?_) (fun cdv A outer s H vs Q E hr h => ⟨_, PSs.nox (pss_one (ps_ost (pv 0) (pv 1))), ?_⟩)
  · obtain ⟨a, C, v, rfl, _⟩ := h
    rfl
  · obtain ⟨a, C, v, rfl, T, hno, ha, k⟩ := h
    exact ⟨_, rfl, _, rfl, a, C, rfl, T, hno, .inl ⟨ha, fun dx h1 h2 => k dx h1 h2⟩⟩
end
def exB (K : PySem.W.Frag) : Bool := ((["InvalidDeed", "InvalidName", "InvalidNumber", "InvalidArrow", "InvalidPair"] : List Str).all (errB K)) && decide (PySem.W.typeIn K (.ref (errI K)) = some (.type "function"))
def dd_DeedError___init__ : He.DefD := ⟨("DeedError", some "__init__"), "__init__", "DeedError.__init__", defArgs (inClass (top 2) 0), defBody (inClass (top 2) 0), defScope (inClass (top 2) 0), [], []⟩
def dd_check_apart : He.DefD := ⟨("check_apart", none), "check_apart", "check_apart", defArgs (top 10), defBody (top 10), defScope (top 10), [], []⟩
def dd_check_names : He.DefD := ⟨("check_names", none), "check_names", "check_names", defArgs (top 9), defBody (top 9), defScope (top 9), [], []⟩
def dd_joins_of : He.DefD := ⟨("joins_of", none), "joins_of", "joins_of", defArgs (top 15), defBody (top 15), defScope (top 15), [], []⟩
def dd_check_known : He.DefD := ⟨("check_known", none), "check_known", "check_known", defArgs (top 22), defBody (top 22), defScope (top 22), [], []⟩
def dd_things_leading : He.DefD := ⟨("things_leading", none), "things_leading", "things_leading", defArgs (top 28), defBody (top 28), defScope (top 28), [], []⟩
def dd_Diagram_leading_to : He.DefD := ⟨("Diagram", some "leading_to"), "leading_to", "Diagram.leading_to", defArgs (inClass (top 21) 6), defBody (inClass (top 21) 6), defScope (inClass (top 21) 6), [], []⟩
def dd_passes_of : He.DefD := ⟨("passes_of", none), "passes_of", "passes_of", defArgs (top 16), defBody (top 16), defScope (top 16), [], []⟩
def dd_marks_onward : He.DefD := ⟨("marks_onward", none), "marks_onward", "marks_onward", defArgs (top 18), defBody (top 18), defScope (top 18), [], []⟩
def dd_longer_trails : He.DefD := ⟨("longer_trails", none), "longer_trails", "longer_trails", defArgs (top 17), defBody (top 17), defScope (top 17), [], []⟩
def dd_find_way : He.DefD := ⟨("find_way", none), "find_way", "find_way", defArgs (top 14), defBody (top 14), defScope (top 14), [], []⟩
def dd_barred : He.DefD := ⟨("barred", none), "barred", "barred", defArgs (top 12), defBody (top 12), defScope (top 12), [], []⟩
def dd__law_draw : He.DefD := ⟨("_law_draw", none), "_law_draw", "_law_draw", defArgs (top 31), defBody (top 31), defScope (top 31), [], []⟩
def dd__law_chart : He.DefD := ⟨("_law_chart", none), "_law_chart", "_law_chart", defArgs (top 32), defBody (top 32), defScope (top 32), [], []⟩
def dd_is_letter : He.DefD := ⟨("is_letter", none), "is_letter", "is_letter", defArgs (top 26), defBody (top 26), defScope (top 26), [], []⟩
def dd_check_things : He.DefD := ⟨("check_things", none), "check_things", "check_things", defArgs (top 23), defBody (top 23), defScope (top 23), [], []⟩
def dd_are_two : He.DefD := ⟨("are_two", none), "are_two", "are_two", defArgs (top 27), defBody (top 27), defScope (top 27), [], []⟩
def dd_check_arrows : He.DefD := ⟨("check_arrows", none), "check_arrows", "check_arrows", defArgs (top 24), defBody (top 24), defScope (top 24), [], []⟩
def dd_check_pairs : He.DefD := ⟨("check_pairs", none), "check_pairs", "check_pairs", defArgs (top 25), defBody (top 25), defScope (top 25), [], []⟩
def dd_Diagram___init__ : He.DefD := ⟨("Diagram", some "__init__"), "__init__", "Diagram.__init__", defArgs (inClass (top 21) 0), defBody (inClass (top 21) 0), defScope (inClass (top 21) 0), [], []⟩
def dd__law_made : He.DefD := ⟨("_law_made", none), "_law_made", "_law_made", defArgs (top 34), defBody (top 34), defScope (top 34), [], []⟩
def dd__law_known : He.DefD := ⟨("_law_known", none), "_law_known", "_law_known", defArgs (top 33), defBody (top 33), defScope (top 33), [], []⟩
def dd_open_way : He.DefD := ⟨("open_way", none), "open_way", "open_way", defArgs (top 13), defBody (top 13), defScope (top 13), [], []⟩
def dd__law_fits : He.DefD := ⟨("_law_fits", none), "_law_fits", "_law_fits", defArgs (top 35), defBody (top 35), defScope (top 35), [], []⟩
def dd__law_pool : He.DefD := ⟨("_law_pool", none), "_law_pool", "_law_pool", defArgs (top 30), defBody (top 30), defScope (top 30), [], []⟩
def dd_law : He.DefD := ⟨("law", none), "law", "law", defArgs (top 36), defBody (top 36), defScope (top 36), [], []⟩
def fnL : List He.DefD := [dd_DeedError___init__, dd_check_apart, dd_check_names, dd_joins_of, dd_check_known, dd_things_leading, dd_Diagram_leading_to, dd_passes_of, dd_marks_onward, dd_longer_trails, dd_find_way, dd_barred, dd__law_draw, dd__law_chart, dd_is_letter, dd_check_things, dd_are_two, dd_check_arrows, dd_check_pairs, dd_Diagram___init__, dd__law_made, dd__law_known, dd_open_way, dd__law_fits, dd__law_pool, dd_law]
def faL : List He.Fa := [.free "abs", .free "int", .free "len", .free "list", .free "max", .free "min", .free "range", .free "enumerate", .free "zip", .free "repr", .free "isinstance", .free "ValueError", .free "all", .free "any", .free "sum", .free "sorted", .free "tuple", .free "dict", .free "set", .free "str", .glo "InvalidDeed", .glo "InvalidName", .glo "InvalidNumber", .glo "InvalidArrow", .glo "InvalidPair", .glo "law", .cls "Diagram", .noat "Diagram" "_names", .noat "Diagram" "_arrows", .noat "Diagram" "_pairs", .int "MOST_THINGS" 6, .glo "_law_pool", .glo "check_apart", .glo "check_names", .glo "joins_of", .glo "check_known", .glo "things_leading", .meth "Diagram" "leading_to", .glo "passes_of", .glo "marks_onward", .glo "longer_trails", .glo "find_way", .glo "barred", .glo "_law_draw", .glo "_law_chart", .glo "is_letter", .glo "check_things", .glo "are_two", .glo "check_arrows", .glo "check_pairs", .glo "Diagram", .mkr "Diagram", .glo "_law_made", .glo "_law_known", .glo "open_way", .glo "_law_fits"]
def dg (C m : Str) (st : Stmt) (q : Str) : He.DefD := ⟨(C, some m), m, q, defArgs st, defBody st, defScope st, [], []⟩
def gtL : List GtD := [⟨"Diagram", "names", dg "Diagram" "names" s_Diagram_names "Diagram.names"⟩, ⟨"Diagram", "arrows", dg "Diagram" "arrows" s_Diagram_arrows "Diagram.arrows"⟩, ⟨"Diagram", "pairs", dg "Diagram" "pairs" s_Diagram_pairs "Diagram.pairs"⟩]
theorem facts {P : Program} {w : World} {K : PySem.W.Frag} {h : Heap} {mg : Str → Option Value} {f : Addr} (X : K.In h) (G : h.Ns mainGlobals mg) (hfa : mg ("law" : Str) = some (.ref f)) (c : He.SaysD faL fnL K) (more : exB K = true)
    (gt : ∀ q ∈ gtL, fnV K (gtA q.C q.x K) = q.d.val ∧ gtB K q.C q.x q.d.qual = true) :
    ∃ fd : FuncData, (∀ (s : Shared) (v : Value), BindsTo s fd ⟨[v], []⟩ [("script", v)]) ∧ ∀ base : Heap, K.In base → base.Ns mainGlobals mg → FnG P w K mg base CX0 9 f fd ["script"] (spLaw K) := by
  have T : Tx mg := ⟨(He.free_ok X G (c.fact 0 (f := .free "abs") rfl)), (He.free_ok X G (c.fact 1 (f := .free "int") rfl)), (He.free_ok X G (c.fact 2 (f := .free "len") rfl)), (He.free_ok X G (c.fact 3 (f := .free "list") rfl)), (He.free_ok X G (c.fact 4 (f := .free "max") rfl)), (He.free_ok X G (c.fact 5 (f := .free "min") rfl)), (He.free_ok X G (c.fact 6 (f := .free "range") rfl)), (He.free_ok X G (c.fact 7 (f := .free "enumerate") rfl)), (He.free_ok X G (c.fact 8 (f := .free "zip") rfl)), (He.free_ok X G (c.fact 9 (f := .free "repr") rfl)), (He.free_ok X G (c.fact 10 (f := .free "isinstance") rfl)), (He.free_ok X G (c.fact 11 (f := .free "ValueError") rfl)), (He.free_ok X G (c.fact 12 (f := .free "all") rfl)), (He.free_ok X G (c.fact 13 (f := .free "any") rfl)), (He.free_ok X G (c.fact 14 (f := .free "sum") rfl)), (He.free_ok X G (c.fact 15 (f := .free "sorted") rfl)), (He.free_ok X G (c.fact 16 (f := .free "tuple") rfl)), (He.free_ok X G (c.fact 17 (f := .free "dict") rfl)), (He.free_ok X G (c.fact 18 (f := .free "set") rfl)), (He.free_ok X G (c.fact 19 (f := .free "str") rfl))⟩
  obtain ⟨m1, m2⟩ := ba more
  have tyI := of_decide_eq_true m2
  have er : ∀ x ∈ (["InvalidDeed", "InvalidName", "InvalidNumber", "InvalidArrow", "InvalidPair"] : List Str), mg x = some (.ref (ga K x)) → ErrC K mg x := fun x hx gl => errB_ok (List.all_eq_true.mp m1 x hx) gl
  have T_InvalidDeed := er "InvalidDeed" (by decide +kernel) (He.glo_ok X G (c.fact 20 (f := .glo "InvalidDeed") rfl))
  have T_InvalidName := er "InvalidName" (by decide +kernel) (He.glo_ok X G (c.fact 21 (f := .glo "InvalidName") rfl))
  have T_InvalidNumber := er "InvalidNumber" (by decide +kernel) (He.glo_ok X G (c.fact 22 (f := .glo "InvalidNumber") rfl))
  have T_InvalidArrow := er "InvalidArrow" (by decide +kernel) (He.glo_ok X G (c.fact 23 (f := .glo "InvalidArrow") rfl))
  have T_InvalidPair := er "InvalidPair" (by decide +kernel) (He.glo_ok X G (c.fact 24 (f := .glo "InvalidPair") rfl))
  obtain ⟨f_einit, F_einit⟩ := (c.def_ 0 (d := dd_DeedError___init__) rfl)
  obtain ⟨f_check_apart, F_check_apart⟩ := (c.def_ 1 (d := dd_check_apart) rfl)
  obtain ⟨f_check_names, F_check_names⟩ := (c.def_ 2 (d := dd_check_names) rfl)
  obtain ⟨f_joins_of, F_joins_of⟩ := (c.def_ 3 (d := dd_joins_of) rfl)
  obtain ⟨f_check_known, F_check_known⟩ := (c.def_ 4 (d := dd_check_known) rfl)
  obtain ⟨f_things_leading, F_things_leading⟩ := (c.def_ 5 (d := dd_things_leading) rfl)
  obtain ⟨f_Diagram_leading_to, F_Diagram_leading_to⟩ := (c.def_ 6 (d := dd_Diagram_leading_to) rfl)
  obtain ⟨f_passes_of, F_passes_of⟩ := (c.def_ 7 (d := dd_passes_of) rfl)
  obtain ⟨f_marks_onward, F_marks_onward⟩ := (c.def_ 8 (d := dd_marks_onward) rfl)
  obtain ⟨f_longer_trails, F_longer_trails⟩ := (c.def_ 9 (d := dd_longer_trails) rfl)
  obtain ⟨f_find_way, F_find_way⟩ := (c.def_ 10 (d := dd_find_way) rfl)
  obtain ⟨f_barred, F_barred⟩ := (c.def_ 11 (d := dd_barred) rfl)
  obtain ⟨f_law_draw, F_law_draw⟩ := (c.def_ 12 (d := dd__law_draw) rfl)
  obtain ⟨f_law_chart, F_law_chart⟩ := (c.def_ 13 (d := dd__law_chart) rfl)
  obtain ⟨f_is_letter, F_is_letter⟩ := (c.def_ 14 (d := dd_is_letter) rfl)
  obtain ⟨f_check_things, F_check_things⟩ := (c.def_ 15 (d := dd_check_things) rfl)
  obtain ⟨f_are_two, F_are_two⟩ := (c.def_ 16 (d := dd_are_two) rfl)
  obtain ⟨f_check_arrows, F_check_arrows⟩ := (c.def_ 17 (d := dd_check_arrows) rfl)
  obtain ⟨f_check_pairs, F_check_pairs⟩ := (c.def_ 18 (d := dd_check_pairs) rfl)
  obtain ⟨f_Diagram___init, F_Diagram___init⟩ := (c.def_ 19 (d := dd_Diagram___init__) rfl)
  obtain ⟨f_law_made, F_law_made⟩ := (c.def_ 20 (d := dd__law_made) rfl)
  obtain ⟨f_law_known, F_law_known⟩ := (c.def_ 21 (d := dd__law_known) rfl)
  obtain ⟨f_open_way, F_open_way⟩ := (c.def_ 22 (d := dd_open_way) rfl)
  obtain ⟨f_law_fits, F_law_fits⟩ := (c.def_ 23 (d := dd__law_fits) rfl)
  obtain ⟨f_law_pool, F_law_pool⟩ := (c.def_ 24 (d := dd__law_pool) rfl)
  obtain ⟨f_law, F_law⟩ := (c.def_ 25 (d := dd_law) rfl)
  obtain ⟨g1_Diagram_names, g2_Diagram_names⟩ := gt ⟨"Diagram", "names", dg "Diagram" "names" s_Diagram_names "Diagram.names"⟩ (by simp [gtL])
  obtain ⟨f_Diagram_names, F_Diagram_names, P_Diagram_names⟩ := gtB_ok g2_Diagram_names g1_Diagram_names
  obtain ⟨g1_Diagram_arrows, g2_Diagram_arrows⟩ := gt ⟨"Diagram", "arrows", dg "Diagram" "arrows" s_Diagram_arrows "Diagram.arrows"⟩ (by simp [gtL])
  obtain ⟨f_Diagram_arrows, F_Diagram_arrows, P_Diagram_arrows⟩ := gtB_ok g2_Diagram_arrows g1_Diagram_arrows
  obtain ⟨g1_Diagram_pairs, g2_Diagram_pairs⟩ := gt ⟨"Diagram", "pairs", dg "Diagram" "pairs" s_Diagram_pairs "Diagram.pairs"⟩ (by simp [gtL])
  obtain ⟨f_Diagram_pairs, F_Diagram_pairs, P_Diagram_pairs⟩ := gtB_ok g2_Diagram_pairs g1_Diagram_pairs
  have e := hfa.symm.trans (He.glo_ok X G (c.fact 25 (f := .glo "law") rfl))
  cases e
  have CC_Diagram : Cls K (ga K "Diagram") := (He.cls_ok (c.fact 26 (f := .cls "Diagram") rfl))
  have A_Diagram_names : NoAttr K (ga K "Diagram") "_names" := (He.noat_ok (c.fact 27 (f := .noat "Diagram" "_names") rfl))
  have A_Diagram_arrows : NoAttr K (ga K "Diagram") "_arrows" := (He.noat_ok (c.fact 28 (f := .noat "Diagram" "_arrows") rfl))
  have A_Diagram_pairs : NoAttr K (ga K "Diagram") "_pairs" := (He.noat_ok (c.fact 29 (f := .noat "Diagram" "_pairs") rfl))
  have hv_MOST_THINGS : ∃ t, mg "MOST_THINGS" = some (.int 6 t) := (He.int_ok X G (c.fact 30 (f := .int "MOST_THINGS" 6) rfl))
  have b := FunD.bindsA (ps := ["script"]) F_law fun _ _ _ _ _ _ us hl => match us, hl with | [_], _ => rfl
  refine ⟨f_law, fun s v => b s [v] rfl, fun base _ _ => ?_⟩
  have IE : ErrI P w K mg base := ⟨⟨f_einit, ok_einit F_einit, F_einit.bindsN fun _ _ _ _ _ _ us hl => match us, hl with | [_, _], _ => rfl⟩, tyI⟩
  have C__law_pool : Cal P w K mg base CX0 1 "_law_pool" ["script", "spot"] (spPool K) := mkCal F_law_pool (He.glo_ok X G (c.fact 31 (f := .glo "_law_pool") rfl)) (ok_pool F_law_pool T) fun _ _ _ _ _ _ us hl => match us, hl with | [_, _], _ => rfl
  have C_check_apart : Cal P w K mg base (L2.CX P w) 3 "check_apart" ["names", "taken"] (spD K D_check_apart) := mkCal F_check_apart (He.glo_ok X G (c.fact 32 (f := .glo "check_apart") rfl)) (ok_check_apart (P := P) (w := w) (mg := mg) (base := base) F_check_apart T_InvalidDeed IE) (fun _ _ _ _ _ _ us hl => match us, hl with | [_, _], _ => rfl)
  have C_Diagram_names : CalP P w K mg base 1 (ga K "Diagram") "names" (spD K D_Diagram_names) := ⟨CC_Diagram, _, _, f_Diagram_names, P_Diagram_names, (ok_Diagram_names (P := P) (w := w) (mg := mg) (base := base) F_Diagram_names T A_Diagram_names CC_Diagram), F_Diagram_names.bindsN fun _ _ _ _ _ _ us hl => match us, hl with | [_], _ => rfl⟩
  have C_check_names : Cal P w K mg base (L2.CX P w) 3 "check_names" ["diagram", "names"] (spD K D_check_names) := mkCal F_check_names (He.glo_ok X G (c.fact 33 (f := .glo "check_names") rfl)) (ok_check_names (P := P) (w := w) (mg := mg) (base := base) F_check_names C_Diagram_names T T_InvalidName IE) (fun _ _ _ _ _ _ us hl => match us, hl with | [_, _], _ => rfl)
  have C_Diagram_arrows : CalP P w K mg base 1 (ga K "Diagram") "arrows" (spD K D_Diagram_arrows) := ⟨CC_Diagram, _, _, f_Diagram_arrows, P_Diagram_arrows, (ok_Diagram_arrows (P := P) (w := w) (mg := mg) (base := base) F_Diagram_arrows T A_Diagram_arrows CC_Diagram), F_Diagram_arrows.bindsN fun _ _ _ _ _ _ us hl => match us, hl with | [_], _ => rfl⟩
  have C_Diagram_pairs : CalP P w K mg base 1 (ga K "Diagram") "pairs" (spD K D_Diagram_pairs) := ⟨CC_Diagram, _, _, f_Diagram_pairs, P_Diagram_pairs, (ok_Diagram_pairs (P := P) (w := w) (mg := mg) (base := base) F_Diagram_pairs T A_Diagram_pairs CC_Diagram), F_Diagram_pairs.bindsN fun _ _ _ _ _ _ us hl => match us, hl with | [_], _ => rfl⟩
  have C_joins_of : Cal P w K mg base CX0 3 "joins_of" ["diagram"] (spD K D_joins_of) := mkCal F_joins_of (He.glo_ok X G (c.fact 34 (f := .glo "joins_of") rfl)) (ok_joins_of (P := P) (w := w) (mg := mg) (base := base) F_joins_of C_Diagram_arrows C_Diagram_pairs) (fun _ _ _ _ _ _ us hl => match us, hl with | [_], _ => rfl)
  have C_check_known : Cal P w K mg base (L2.CX P w) 3 "check_known" ["names", "name"] (spD K D_check_known) := mkCal F_check_known (He.glo_ok X G (c.fact 35 (f := .glo "check_known") rfl)) (ok_check_known (P := P) (w := w) (mg := mg) (base := base) F_check_known T_InvalidName IE) (fun _ _ _ _ _ _ us hl => match us, hl with | [_, _], _ => rfl)
  have C_things_leading : Cal P w K mg base CX0 1 "things_leading" ["names", "arrows", "name"] (spD K D_things_leading) := mkCal F_things_leading (He.glo_ok X G (c.fact 36 (f := .glo "things_leading") rfl)) (ok_things_leading (P := P) (w := w) (mg := mg) (base := base) F_things_leading ) (fun _ _ _ _ _ _ us hl => match us, hl with | [_, _, _], _ => rfl)
  have C_Diagram_leading_to : CalM P w K mg base (L2.CX P w) 4 (ga K "Diagram") "leading_to" ["self", "name"] (spD K D_Diagram_leading_to) := mkCalM F_Diagram_leading_to CC_Diagram (He.meth_ok (c.fact 37 (f := .meth "Diagram" "leading_to") rfl)) (ok_Diagram_leading_to (P := P) (w := w) (mg := mg) (base := base) F_Diagram_leading_to A_Diagram_names CC_Diagram C_check_known A_Diagram_arrows C_things_leading) (fun _ _ _ _ _ _ us hl => match us, hl with | [_, _], _ => rfl) (fun _ _ _ _ _ _ us ws hl hw => match us, ws, hl, hw with | [_], [_], _, _ => rfl)
  have C_passes_of : Cal P w K mg base (L2.CX P w) 5 "passes_of" ["diagram", "given"] (spD K (D_passes_of w)) := mkCal F_passes_of (He.glo_ok X G (c.fact 38 (f := .glo "passes_of") rfl)) (ok_passes_of (P := P) (w := w) (mg := mg) (base := base) F_passes_of C_Diagram_names T C_Diagram_leading_to) (fun _ _ _ _ _ _ us hl => match us, hl with | [_, _], _ => rfl)
  have C_marks_onward : Cal P w K mg base CX0 1 "marks_onward" ["joins", "passes", "trail", "thing"] (spD K (D_marks_onward w)) := mkCal F_marks_onward (He.glo_ok X G (c.fact 39 (f := .glo "marks_onward") rfl)) (ok_marks_onward (P := P) (w := w) (mg := mg) (base := base) F_marks_onward T) (fun _ _ _ _ _ _ us hl => match us, hl with | [_, _, _, _], _ => rfl)
  have C_longer_trails : Cal P w K mg base CX0 2 "longer_trails" ["names", "joins", "passes", "trail"] (spD K (D_longer_trails w)) := mkCal F_longer_trails (He.glo_ok X G (c.fact 40 (f := .glo "longer_trails") rfl)) (ok_longer_trails (P := P) (w := w) (mg := mg) (base := base) F_longer_trails C_marks_onward) (fun _ _ _ _ _ _ us hl => match us, hl with | [_, _, _, _], _ => rfl)
  have C_find_way : Cal P w K mg base (L2.CX P w) 6 "find_way" ["diagram", "one", "other", "given"] (spD K (D_find_way w)) := mkCal F_find_way (He.glo_ok X G (c.fact 41 (f := .glo "find_way") rfl)) (ok_find_way (P := P) (w := w) (mg := mg) (base := base) F_find_way C_joins_of C_passes_of C_Diagram_names C_longer_trails) (fun _ _ _ _ _ _ us hl => match us, hl with | [_, _, _, _], _ => rfl)
  have C_barred : Cal P w K mg base (L2.CX P w) 7 "barred" ["diagram", "ones", "others", "given"] (spD K (D_barred w)) := mkCal F_barred (He.glo_ok X G (c.fact 42 (f := .glo "barred") rfl)) (ok_barred (P := P) (w := w) (mg := mg) (base := base) F_barred C_check_names C_check_apart C_find_way T) (fun _ _ _ _ _ _ us hl => match us, hl with | [_, _, _, _], _ => rfl)
  have C_law_draw : Cal P w K mg base CX0 1 "_law_draw" ["pool", "span"] (spP K D_law_draw) := mkCal F_law_draw (He.glo_ok X G (c.fact 43 (f := .glo "_law_draw") rfl)) (ok_law_draw (P := P) (w := w) (mg := mg) (base := base) F_law_draw T) (fun _ _ _ _ _ _ us hl => match us, hl with | [_, _], _ => rfl)
  have C_law_chart : Cal P w K mg base CX0 2 "_law_chart" ["pool", "widest"] (spP K D_law_chart) := mkCal F_law_chart (He.glo_ok X G (c.fact 44 (f := .glo "_law_chart") rfl)) (ok_law_chart (P := P) (w := w) (mg := mg) (base := base) F_law_chart T C_law_draw) (fun _ _ _ _ _ _ us hl => match us, hl with | [_, _], _ => rfl)
  have C_is_letter : Cal P w K mg base CX0 1 "is_letter" ["name"] (spD K D_is_letter) := mkCal F_is_letter (He.glo_ok X G (c.fact 45 (f := .glo "is_letter") rfl)) (ok_is_letter (P := P) (w := w) (mg := mg) (base := base) F_is_letter T) (fun _ _ _ _ _ _ us hl => match us, hl with | [_], _ => rfl)
  have C_check_things : Cal P w K mg base (L2.CX P w) 3 "check_things" ["names"] (spD K D_check_things) := mkCal F_check_things (He.glo_ok X G (c.fact 46 (f := .glo "check_things") rfl)) (ok_check_things (P := P) (w := w) (mg := mg) (base := base) F_check_things T C_is_letter T_InvalidName IE hv_MOST_THINGS T_InvalidNumber) (fun _ _ _ _ _ _ us hl => match us, hl with | [_], _ => rfl)
  have C_are_two : Cal P w K mg base CX0 1 "are_two" ["names", "one", "other"] (spD K D_are_two) := mkCal F_are_two (He.glo_ok X G (c.fact 47 (f := .glo "are_two") rfl)) (ok_are_two (P := P) (w := w) (mg := mg) (base := base) F_are_two ) (fun _ _ _ _ _ _ us hl => match us, hl with | [_, _, _], _ => rfl)
  have C_check_arrows : Cal P w K mg base (L2.CX P w) 3 "check_arrows" ["names", "arrows"] (spD K D_check_arrows) := mkCal F_check_arrows (He.glo_ok X G (c.fact 48 (f := .glo "check_arrows") rfl)) (ok_check_arrows (P := P) (w := w) (mg := mg) (base := base) F_check_arrows T C_are_two T_InvalidArrow IE C_things_leading) (fun _ _ _ _ _ _ us hl => match us, hl with | [_, _], _ => rfl)
  have C_check_pairs : Cal P w K mg base (L2.CX P w) 3 "check_pairs" ["names", "pairs"] (spD K D_check_pairs) := mkCal F_check_pairs (He.glo_ok X G (c.fact 49 (f := .glo "check_pairs") rfl)) (ok_check_pairs (P := P) (w := w) (mg := mg) (base := base) F_check_pairs T C_are_two T_InvalidPair IE) (fun _ _ _ _ _ _ us hl => match us, hl with | [_, _], _ => rfl)
  have C_Diagram : CalC P w K mg base (L2.CX P w) 4 "Diagram" (ga K "Diagram") ["self", "names", "arrows", "pairs"] (spI K "Diagram" D_Diagram_init) := ⟨(He.glo_ok X G (c.fact 50 (f := .glo "Diagram") rfl)), _, f_Diagram___init, (ok_Diagram___init (P := P) (w := w) (mg := mg) (base := base) F_Diagram___init C_check_things C_check_arrows C_check_pairs T A_Diagram_names CC_Diagram A_Diagram_arrows A_Diagram_pairs), (He.mkr_ok (c.fact 51 (f := .mkr "Diagram") rfl)), F_Diagram___init.bindsN fun _ _ _ _ _ _ us hl => match us, hl with | [_, _, _, _], _ => rfl⟩
  have C_law_made : Cal P w K mg base CX0 6 "_law_made" ["chart"] (spD K D_law_made) := mkCal F_law_made (He.glo_ok X G (c.fact 52 (f := .glo "_law_made") rfl)) (ok_law_made (P := P) (w := w) (mg := mg) (base := base) F_law_made T C_Diagram) (fun _ _ _ _ _ _ us hl => match us, hl with | [_], _ => rfl)
  have C_law_known : Cal P w K mg base CX0 2 "_law_known" ["pool"] (spP K D_law_known) := mkCal F_law_known (He.glo_ok X G (c.fact 53 (f := .glo "_law_known") rfl)) (ok_law_known (P := P) (w := w) (mg := mg) (base := base) F_law_known C_law_draw T) (fun _ _ _ _ _ _ us hl => match us, hl with | [_], _ => rfl)
  have C_open_way : Cal P w K mg base (L2.CX P w) 7 "open_way" ["diagram", "one", "other", "given"] (spD K (D_open_way w)) := mkCal F_open_way (He.glo_ok X G (c.fact 54 (f := .glo "open_way") rfl)) (ok_open_way (P := P) (w := w) (mg := mg) (base := base) F_open_way C_check_names C_check_apart C_find_way) (fun _ _ _ _ _ _ us hl => match us, hl with | [_, _, _, _], _ => rfl)
  have C_law_fits : Cal P w K mg base CX0 8 "_law_fits" ["pool"] (spP K (D_law_fits w)) := mkCal F_law_fits (He.glo_ok X G (c.fact 55 (f := .glo "_law_fits") rfl)) (ok_law_fits (P := P) (w := w) (mg := mg) (base := base) F_law_fits C_law_draw C_law_known C_law_chart C_law_made T C_barred C_open_way) (fun _ _ _ _ _ _ us hl => match us, hl with | [_], _ => rfl)
  exact ok_law F_law T C__law_pool C_law_fits
abbrev R : PySem.W.OpenRow := PySem.W.OpenLaw.row PySem.Challenge.rw_deedshares_k46_whole_barred_lists_go_tog
abbrev hk : PySem.W.Hook := hookP 5 faL fnL exB gtL
def ob (s : PySem.W.SharedT) : AlP := obsP 5 faL fnL exB gtL (HandSHeadRun.getT s)
theorem ob_eq (s : PySem.W.SharedT) : ob s = hk.obs s.abs := obsP_eq (HandSHeadRun.getT_eq s)
end Da
end F109
section F110
namespace Da
open PySem PySem.Spec PyProof.Rows L2 He Ds
def looseL : List Str := (["_wall", "DeedError", "InvalidDeed", "InvalidName", "InvalidNumber", "InvalidArrow", "InvalidPair", "Diagram", "MOST_THINGS", "check_apart", "check_names", "joins_of", "check_known", "things_leading", "passes_of", "marks_onward", "longer_trails", "find_way", "barred", "_law_draw"] : List Str) ++ (["_law_chart", "is_letter", "check_things", "are_two", "check_arrows", "check_pairs", "_law_made", "_law_known", "open_way", "_law_fits", "_law_pool"] : List Str)
theorem run (w : World) : HandSHeadRun.RunEq R (PySem.W.view R.prog [36]) hk ob 6000 looseL w := by
  intro os
  kernel_rfl
end Da
open PySem PySem.W PySem.Calls PyProof.Rows
theorem PySem.Challenge.cw_deedshares_k46_whole_barred_lists_go_tog_holds : PySem.Challenge.rw_deedshares_k46_whole_barred_lists_go_tog.Holds := by
  w_on; o_law
  refine HandSHeadRun.head_any (r := OpenLaw.row PySem.Challenge.rw_deedshares_k46_whole_barred_lists_go_tog) (q := view (OpenLaw.row PySem.Challenge.rw_deedshares_k46_whole_barred_lists_go_tog).prog [36]) (H := Da.hk) (ob := Da.ob) (M := 6000) (loose := Da.looseL) (d := HandSHeadRun.topDef (OpenLaw.row PySem.Challenge.rw_deedshares_k46_whole_barred_lists_go_tog).prog 36) (kwd := []) Da.ob_eq
    (by kernel_rfl) (fun s => by kernel_rfl) Da.run (by kernel_rfl) (by kernel_rfl) (by kernel_rfl) (by rfl) (by first | assumption | decide +kernel) (by decide +kernel) ⟨rfl, rfl, rfl, rfl, rfl, by decide +kernel⟩ ?hw ?hc
  case hw => w_witness2
  case hc =>
    refine Ds.walk_G (l := PySem.Challenge.rw_deedshares_k46_whole_barred_lists_go_tog) (n := 63) (k := 9) (x := "script") rfl (by decide) (by kernel_rfl) ⟨rfl, by decide, by decide⟩ ?F
    intro w mg fa h Y G hmg0
    obtain ⟨K, KX, c⟩ := Y
    have hmg : mg ("law" : PySem.Str) = some (.ref fa) := by
      have e : (HandSHeadRun.topDef (OpenLaw.row PySem.Challenge.rw_deedshares_k46_whole_barred_lists_go_tog).prog 36).name = ("law" : PySem.Str) := by kernel_rfl
      rw [← e]
      exact hmg0
    obtain ⟨fd, hb, hF⟩ := Da.facts (P := (PySem.Challenge.rw_deedshares_k46_whole_barred_lists_go_tog).prog) (w := w) KX G hmg c.x.t.d c.x.more c.g
    exact ⟨K, fd, Da.spLaw K, KX, hb, fun H a ns hl hS => ⟨a, ns, rfl, hS, hl, fun _ => rfl⟩, hF⟩
end F110
