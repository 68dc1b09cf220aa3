import PyProof.Rows.All
import Wide.All
import OpenK.AllK
import Wide.FinOn
import HandS.Comp
import HandS.WordsList
import HandS.Iter
import HandS.Zip0
import HandS.Text
import HandS.IsInst
import HandS.Style
import HandS.Words
import HandS.Ends
import PyProof.Draws
import PyProof.EnumMake
import PySem.Challenge.RW_steadycover_k04_whole_consensus
set_option Elab.async false
set_option linter.all false
set_option maxRecDepth 100000
namespace DL
open PySem PySem.Spec PyProof.Rows L2

/-! ### data -/
inductive D where
  | non
  | bl (b : Bool)
  | int (i : Int)
  | str (x : List Nat)
  | tup (o : Bool) (ds : List D)
  | lst (o : Bool) (ds : List D)
  | ins (o : Bool) (c : Nat) (ds : List D)
  /-- the script -/
  | scr (ns : List Int)

mutual
/-- no owned node -/
def imm : D → Bool
  | .tup o ds => !o && imms ds
  | .lst o ds => !o && imms ds
  | .ins o _ ds => !o && imms ds
  | _ => true
def imms : List D → Bool
  | [] => true
  | d :: ds => imm d && imms ds
end
mutual
/-- frozen -/
def fz : D → D
  | .tup _ ds => .tup false (fzs ds)
  | .lst _ ds => .lst false (fzs ds)
  | .ins _ c ds => .ins false c (fzs ds)
  | .non => .non
  | .bl b => .bl b
  | .int i => .int i
  | .str x => .str x
  | .scr x => .scr x
def fzs : List D → List D
  | [] => []
  | d :: ds => fz d :: fzs ds
end

abbrev AS := Addr → Prop
/-- the classes: number to address and attribute names -/
abbrev CN := Nat → Option (Addr × List Str)

structure Apart (A B S : AS) : Prop where
  l : ∀ a, A a → S a
  r : ∀ a, B a → S a
  no : ∀ a, A a → B a → False

variable (K : PySem.W.Frag) (cn : CN)
mutual
inductive OR (F H : Hp) : AS → D → V → Prop
  | non {S} : OR F H S .non .non
  | bl {S} (b : Bool) : OR F H S (.bl b) (.bl b)
  | int {S} (i : Int) : OR F H S (.int i) (.int i)
  | str {S} (x : List Nat) : OR F H S (.str x) (.str ⟨x.toArray⟩)
  | tupF {S a ds vs} : SqT K F a vs → ORs F H S ds vs → OR F H S (.tup false ds) (.ref a)
  | tupO {S T : AS} {a ds vs} : S a → F a = none → H a = some (.tup vs) → ¬ T a → (∀ b, T b → S b) → ORs F H T ds vs → OR F H S (.tup true ds) (.ref a)
  | scr {S a ns} : SqL K F a (ns.map V.int) → OR F H S (.scr ns) (.ref a)
  | lstF {S a ds vs} : Rd F a (.lst vs) → ORs F H S ds vs → OR F H S (.lst false ds) (.ref a)
  | lstO {S T : AS} {a ds vs} : S a → F a = none → H a = some (.lst vs) → ¬ T a → (∀ b, T b → S b) → ORs F H T ds vs → OR F H S (.lst true ds) (.ref a)
  | insF {S a c C dx ns ds fs} : cn c = some (C, ns) → F a = some (.ins C dx fs) → fs.map Prod.fst = ns.take ds.length → ORs F H S ds (fs.map Prod.snd) → OR F H S (.ins false c ds) (.ref a)
  | insO {S T : AS} {a c C dx ns ds fs} : cn c = some (C, ns) → S a → F a = none → H a = some (.ins C dx fs) → fs.map Prod.fst = ns.take ds.length → ¬ T a → (∀ b, T b → S b) → ORs F H T ds (fs.map Prod.snd) → OR F H S (.ins true c ds) (.ref a)
inductive ORs (F H : Hp) : AS → List D → List V → Prop
  | nil {S} : ORs F H S [] []
  | cons {S A B : AS} {d v ds vs} : Apart A B S → OR F H A d v → ORs F H B ds vs → ORs F H S (d :: ds) (v :: vs)
end
/-- the slots -/
inductive SL (F H : Hp) : AS → List (Option D) → List (Option V) → Prop
  | nil {S} : SL F H S [] []
  | no {S ρ x σ} : SL F H S ρ σ → SL F H S (none :: ρ) (x :: σ)
  | yes {S A B : AS} {d v ρ σ} : Apart A B S → OR K cn F H A d v → SL F H B ρ σ → SL F H S (some d :: ρ) (some v :: σ)

variable {K cn}
theorem Apart.symm {A B S : AS} (h : Apart A B S) : Apart B A S := ⟨h.r, h.l, fun a x y => h.no a y x⟩
theorem Apart.un {A B : AS} (h : ∀ a, A a → B a → False) : Apart A B (fun a => A a ∨ B a) := ⟨fun _ => .inl, fun _ => .inr, h⟩
theorem Apart.mono {A B S S' : AS} (h : Apart A B S) (k : ∀ a, S a → S' a) : Apart A B S' := ⟨fun a x => k a (h.l a x), fun a x => k a (h.r a x), h.no⟩
/-- (A + B) with C to A + (B + C) -/
theorem Apart.assoc {A B AB C S : AS} (h1 : Apart A B AB) (h2 : Apart AB C S) : Apart A (fun a => B a ∨ C a) S ∧ Apart B C (fun a => B a ∨ C a) :=
  ⟨⟨fun a x => h2.l a (h1.l a x), fun a x => x.elim (fun y => h2.l a (h1.r a y)) (h2.r a), fun a x y => y.elim (h1.no a x) (h2.no a (h1.l a x))⟩,
   .un fun a x y => h2.no a (h1.r a x) y⟩

section
variable {F F' H H' : Hp}
theorem OR.mono {S S' : AS} {d : D} {v : V} (h : OR K cn F H S d v) (k : ∀ a, S a → S' a) : OR K cn F H S' d v := by
  have hs : ∀ {S S' : AS} {ds : List D} {vs : List V}, ORs K cn F H S ds vs → (∀ a, S a → S' a) → ORs K cn F H S' ds vs := by
    intro S S' ds vs h k
    cases h with
    | nil => exact .nil
    | cons a x y => exact .cons (a.mono k) x y
  cases h with
  | non => exact .non
  | bl b => exact .bl b
  | int i => exact .int i
  | str x => exact .str x
  | scr q => exact .scr q
  | tupF q r => exact .tupF q (hs r k)
  | tupO q f e n l r => exact .tupO (k _ q) f e n (fun b z => k b (l b z)) r
  | lstF q r => exact .lstF q (hs r k)
  | lstO q f e n l r => exact .lstO (k _ q) f e n (fun b z => k b (l b z)) r
  | insF c q m r => exact .insF c q m (hs r k)
  | insO c q f e m n l r => exact .insO c (k _ q) f e m n (fun b z => k b (l b z)) r
theorem ORs.mono {S S' : AS} {ds : List D} {vs : List V} (h : ORs K cn F H S ds vs) (k : ∀ a, S a → S' a) : ORs K cn F H S' ds vs := by
  cases h with
  | nil => exact .nil
  | cons a x y => exact .cons (a.mono k) x y
theorem SL.mono {S S' : AS} {ρ : List (Option D)} {σ : List (Option V)} (h : SL K cn F H S ρ σ) (k : ∀ a, S a → S' a) : SL K cn F H S' ρ σ := by
  induction h generalizing S' with
  | nil => exact .nil
  | no h ih => exact .no (ih k)
  | yes a x y ih => exact .yes (a.mono k) x y

theorem Same.seqT {K : PySem.W.Frag} {H H' : Hp} {a : Addr} {xs : List V} (e : Same H H') (h : SqT K H a xs) : SqT K H' a xs := by
  rcases h with (h | ⟨o, h⟩) | h
  · exact .inl (.inl (e _ _ h))
  · exact .inl (.inr ⟨o, e _ _ h⟩)
  · exact .inr h

theorem Same.rd {H H' : Hp} {a : Addr} {u : HO} (e : Same H H') (h : Rd H a u) : Rd H' a u := by
  rcases h with h | ⟨o, h⟩
  · exact .inl (e _ _ h)
  · exact .inr ⟨o, e _ _ h⟩
mutual
theorem OR.move {S : AS} {d : D} {v : V} (sm : Same F F') (hH : ∀ a, S a → H' a = H a) (hF : ∀ a, S a → F' a = none) : OR K cn F H S d v → OR K cn F' H' S d v
  | .non => .non
  | .bl b => .bl b
  | .int i => .int i
  | .str x => .str x
  | .scr q => .scr (sm.seq q)
  | .tupF q r => .tupF (Same.seqT sm q) (r.move sm hH hF)
  | .tupO q f e n l r => .tupO q (hF _ q) ((hH _ q).trans e) n l (r.move sm (fun a z => hH a (l a z)) fun a z => hF a (l a z))
  | .lstF q r => .lstF (Same.rd sm q) (r.move sm hH hF)
  | .lstO q f e n l r => .lstO q (hF _ q) ((hH _ q).trans e) n l (r.move sm (fun a z => hH a (l a z)) fun a z => hF a (l a z))
  | .insF c q m r => .insF c (sm _ _ q) m (r.move sm hH hF)
  | .insO c q f e m n l r => .insO c q (hF _ q) ((hH _ q).trans e) m n l (r.move sm (fun a z => hH a (l a z)) fun a z => hF a (l a z))
theorem ORs.move {S : AS} {ds : List D} {vs : List V} (sm : Same F F') (hH : ∀ a, S a → H' a = H a) (hF : ∀ a, S a → F' a = none) : ORs K cn F H S ds vs → ORs K cn F' H' S ds vs
  | .nil => .nil
  | .cons a x y => .cons a (x.move sm (fun b z => hH b (a.l b z)) fun b z => hF b (a.l b z)) (y.move sm (fun b z => hH b (a.r b z)) fun b z => hF b (a.r b z))
end
theorem SL.move {S : AS} {ρ : List (Option D)} {σ : List (Option V)} (sm : Same F F') (h : SL K cn F H S ρ σ) (hH : ∀ a, S a → H' a = H a) (hF : ∀ a, S a → F' a = none) : SL K cn F' H' S ρ σ := by
  induction h with
  | nil => exact .nil
  | no h ih => exact .no (ih hH hF)
  | yes a x y ih => exact .yes a (x.move sm (fun b z => hH b (a.l b z)) fun b z => hF b (a.l b z)) (ih (fun b z => hH b (a.r b z)) fun b z => hF b (a.r b z))

/-- frozen data do not lean on what is owned -/
theorem imm_and {o : Bool} {b : Bool} (h : (!o && b) = true) : o = false ∧ b = true := by
  cases o <;> simp_all
mutual
theorem OR.free {S S' : AS} {d : D} {v : V} (hi : imm d = true) : OR K cn F H S d v → OR K cn F H' S' d v
  | .non => .non
  | .bl b => .bl b
  | .int i => .int i
  | .str x => .str x
  | .scr q => .scr q
  | .tupF q r => .tupF q (r.free (imm_and (by rw [imm] at hi; exact hi)).2)
  | .tupO q f e n l r => by rw [imm] at hi; exact absurd (imm_and hi).1 (by decide)
  | .lstF q r => .lstF q (r.free (imm_and (by rw [imm] at hi; exact hi)).2)
  | .lstO q f e n l r => by rw [imm] at hi; exact absurd (imm_and hi).1 (by decide)
  | .insF c q m r => .insF c q m (r.free (imm_and (by rw [imm] at hi; exact hi)).2)
  | .insO c q f e m n l r => by rw [imm] at hi; exact absurd (imm_and hi).1 (by decide)
theorem ORs.free {S S' : AS} {ds : List D} {vs : List V} (hi : imms ds = true) : ORs K cn F H S ds vs → ORs K cn F H' S' ds vs
  | .nil => .nil
  | .cons a x y => by
    rw [imms, Bool.and_eq_true] at hi
    exact .cons (A := fun _ => False) (B := S') ⟨fun _ z => z.elim, fun _ z => z, fun _ z => z.elim⟩ (x.free hi.1) (y.free hi.2)
end
open Classical in
/-- what is frozen, with S frozen too -/
noncomputable def Fz (F H : Hp) (S : AS) : Hp := fun a => if S a then H a else F a
theorem Fz.yes {S : AS} {a : Addr} (h : S a) : Fz F H S a = H a := by unfold Fz; rw [if_pos h]
theorem Fz.no {S : AS} {a : Addr} (h : ¬ S a) : Fz F H S a = F a := by unfold Fz; rw [if_neg h]
theorem Fz.up {S : AS} (hd : ∀ a, S a → F a = none) : Same F (Fz F H S) := fun a o e => by
  by_cases h : S a
  · rw [hd a h] at e; cases e
  · rw [Fz.no h]; exact e
theorem Fz.le {S : AS} (sm : Same F H) : Same (Fz F H S) H := fun a o e => by
  by_cases h : S a
  · rw [Fz.yes h] at e; exact e
  · rw [Fz.no h] at e; exact sm _ _ e
mutual
theorem OR.froz {S T S' : AS} {d : D} {v : V} (hd : ∀ a, T a → F a = none) (hl : ∀ a, S a → T a) : OR K cn F H S d v → OR K cn (Fz F H T) H S' (fz d) v
  | .non => .non
  | .bl b => .bl b
  | .int i => .int i
  | .str x => .str x
  | .scr q => .scr ((Fz.up hd).seq q)
  | .tupF q r => .tupF (Same.seqT (Fz.up hd) q) (r.froz hd hl)
  | .tupO q f e n l r => .tupF (.inl (.inl (by rw [Fz.yes (hl _ q)]; exact e))) (r.froz hd fun a z => hl a (l a z))
  | .lstF q r => .lstF (Same.rd (Fz.up hd) q) (r.froz hd hl)
  | .lstO q f e n l r => .lstF (.inl (by rw [Fz.yes (hl _ q)]; exact e)) (r.froz hd fun a z => hl a (l a z))
  | .insF c q m r => .insF c (Fz.up hd _ _ q) (by rw [m, fzs_len]) (r.froz hd hl)
  | .insO c q f e m n l r => .insF c (by rw [Fz.yes (hl _ q)]; exact e) (by rw [m, fzs_len]) (r.froz hd fun a z => hl a (l a z))
theorem ORs.froz {S T S' : AS} {ds : List D} {vs : List V} (hd : ∀ a, T a → F a = none) (hl : ∀ a, S a → T a) : ORs K cn F H S ds vs → ORs K cn (Fz F H T) H S' (fzs ds) vs
  | .nil => .nil
  | .cons a x y => .cons (A := fun _ => False) (B := S') ⟨fun _ z => z.elim, fun _ z => z, fun _ z => z.elim⟩ (x.froz hd fun b z => hl b (a.l b z)) (y.froz hd fun b z => hl b (a.r b z))
theorem fzs_len : ∀ {ds : List D}, (fzs ds).length = ds.length
  | [] => rfl
  | d :: ds => by rw [fzs, List.length_cons, List.length_cons, fzs_len]
end
end
end DL

/-! zip over two texts, by what their iterators draw -/
namespace ZS
open PySem PySem.Spec PyProof.Rows L2
open Builtin Builtin.Str

structure Apart5 (z TI TO i1 i2 : Addr) : Prop where
  TIz : TI ≠ z
  TOz : TO ≠ z
  i1z : i1 ≠ z
  i2z : i2 ≠ z
  TITO : TI ≠ TO
  TIi1 : TI ≠ i1
  TIi2 : TI ≠ i2
  TOi1 : TO ≠ i1
  TOi2 : TO ≠ i2
  i12 : i1 ≠ i2
/-- what lies off the zip's own things stays -/
structure Off (z TO i1 i2 : Addr) (h h' : Heap) : Prop where
  keeps : ∀ c o, c ≠ z → c ≠ TO → c ≠ i1 → c ≠ i2 → h.get? c = some o → h'.get? c = some o
section
variable {prog : Program} {w : World} {A : Around} {E : Value → Shared → Prop} {s : Shared}
variable {n1 n2 k1 k2 : Nat} {P1 P2 : Nat → Value → Prop} {S1 S2 : Nat → Heap → Prop}
theorem one_frame {i : Addr} {P : Nat → Value → Prop} {S : Nat → Heap → Prop} {n k : Nat} (D : Draws prog w A i [i] n P S) {b : Addr} {h h' : Heap} (st : S k h) (e : Heap.ExtBut b h h') (n : i ≠ b) : S k h' :=
  D.frame k h h' st fun c hc o q => by
    have : c = i := by simpa using hc
    subst this
    exact e _ _ n q
/-- what next does on a zip: both iterators draw, or the first that has nothing left ends it -/
theorem zip_step {z TI TO i1 i2 : Addr} {a b : Value} {Q : Value → Shared → Prop} (D1 : Draws prog w A i1 [i1] n1 P1 S1) (D2 : Draws prog w A i2 [i2] n2 P2 S2) (D : Apart5 z TI TO i1 i2)
    (hz : IsZip s.heap z TI TO .none) (hTI : IsPair s.heap TI (.ref i1) (.ref i2)) (hTO : IsPair s.heap TO a b) (h1 : S1 k1 s.heap) (h2 : S2 k2 s.heap) (b1 : k1 ≤ n1) (b2 : k1 < n1 → k2 ≤ n2)
    (hQ : k1 < n1 → k2 < n2 → ∀ x y h' tk, P1 k1 x → P2 k2 y → IsZip h' z TI TO (rawInt s.heap.objs.size) → IsPair h' TO x y → S1 (k1 + 1) h' → S2 (k2 + 1) h' → IsPair h' s.heap.objs.size x y → h'.objs.size = s.heap.objs.size + 1 →
      Off z TO i1 i2 s.heap h' → Q (.ref s.heap.objs.size) { s with heap := h', toks := tk })
    (hE : (k1 = n1 ∨ (k1 < n1 ∧ k2 = n2)) → ∀ h' e tk, Off z TO i1 i2 s.heap h' → (∃ o, h'.get? e = some o ∧ o.cls = .type "StopIteration") → E (.ref e) { s with heap := h', toks := tk }) :
    wpAny (model prog w) A (Builtin.«zip.__next__» ⟨[.ref z], []⟩) (fun fin s' => ∃ v, fin = .done (.ret v) ∧ Q v s') E s := by
  obtain ⟨hp, g, d, tk0, os⟩ := s
  -- the zip is marked as under way
  refine (show wpAny _ _ (field (.ref z) 2 >>= _) _ _ _ from wpAny_bind (wpAny_field hz rfl (x := .bool false) rfl ?_))
  refine (show wpAny _ _ (field (.ref z) 3 >>= _) _ _ _ from wpAny_bind (wpAny_field hz rfl (x := .ref TI) rfl (wpAny_bind (wpAny_seqItems hTI rfl ?_))))
  refine (show wpAny _ _ (Builtin.SmallTypes.ownedTupleIsFree (.ref z) >>= _) _ _ _ from wpAny_bind (wpAny_bind (wpAny_field hz rfl (x := .none) rfl (wpAny_pure ?_))))
  simp only [if_true]
  refine wpAny_bind (wpAny_rule (wpAny_bind (wpAny_field hz rfl (x := .ref TO) rfl (wpAny_bind (wpAny_setField_rec hz (by simp) fun ha za sa => ?_)))))
  have zz : IsZip ha z TI TO .ellipsis := za
  clear za
  simp only [List.zipIdx_cons, List.zipIdx_nil, List.forIn_cons, List.forIn_nil]
  have g1 : S1 k1 ha := one_frame D1 h1 sa.extBut D.i1z
  have g2 : S2 k2 ha := one_frame D2 h2 sa.extBut D.i2z
  -- the first iterator
  refine wpAny_bind (wpAny_bind (wpAny_bind (wpAny_onRaise (wpAny_bind (m := Builtin.SmallTypes.nextOf (.ref i1)) ?_))))
  rcases Nat.lt_or_eq_of_le b1 with l1 | l1
  · refine D1.item k1 _ _ _ l1 g1 fun x hb tk1 px st1 sb => wpAny_pure ?_
    have tb : IsPair hb TO a b := sb.extBut _ _ D.TOi1 (sa.extBut _ _ D.TOz hTO)
    refine wpAny_bind (wpAny_seqItems tb rfl (wpAny_bind (wpAny_updateSeq_pair tb fun hc tc sc => wpAny_bind (wpAny_letGo (wpAny_pure ?_)))))
    have g2' : S2 k2 hc := one_frame D2 (one_frame D2 g2 sb.extBut D.i12.symm) sc.extBut D.TOi2.symm
    have zc : IsZip hc z TI TO .ellipsis := sc.extBut _ _ D.TOz.symm (sb.extBut _ _ D.i1z.symm zz)
    have offc : ∀ c o, c ≠ z → c ≠ TO → c ≠ i1 → hp.get? c = some o → hc.get? c = some o := fun c o c1 c2 c3 q => sc.extBut _ _ c2 (sb.extBut _ _ c3 (sa.extBut _ _ c1 q))
    -- the second one
    refine wpAny_bind (wpAny_bind (wpAny_onRaise (wpAny_bind (m := Builtin.SmallTypes.nextOf (.ref i2)) ?_)))
    rcases Nat.lt_or_eq_of_le (b2 l1) with l2 | l2
    · refine D2.item k2 _ _ _ l2 g2' fun y hd tk2 py st2 sd => wpAny_pure ?_
      have td : IsPair hd TO x b := sd.extBut _ _ D.TOi2 tc
      refine wpAny_bind (wpAny_seqItems td rfl (wpAny_bind (wpAny_updateSeq_pair td fun he te se => wpAny_bind (wpAny_letGo (wpAny_pure (wpAny_pure ?_))))))
      have tp : IsPair he TO x y := te
      have ze : IsZip he z TI TO .ellipsis := se.extBut _ _ D.TOz.symm (sd.extBut _ _ D.i2z.symm zc)
      have hsz : he.objs.size = hp.objs.size := by rw [se.1, sd.1, sc.1, sb.1, sa.1]
      have e1 : S1 (k1 + 1) he := one_frame D1 (one_frame D1 (one_frame D1 st1 sc.extBut D.TOi1.symm) sd.extBut D.i12) se.extBut D.TOi1.symm
      have e2 : S2 (k2 + 1) he := one_frame D2 st2 se.extBut D.TOi2.symm
      have hzlt : z < he.objs.size := Heap.lt_size ze
      -- the pair is handed out
      refine wpAny_bind (wpAny_seqItems tp rfl (wpAny_bind (wpAny_newTuple (wpAny_bind (m := Builtin.SmallTypes.ownedTupleHandOut (.ref z) (.ref he.objs.size)) ?_))))
      refine wpAny_bind (wpAny_setField_rec (Heap.get?_push_of_some _ ze) (by simp) fun hg zg sg => wpAny_setField_rec zg (by simp) fun hk zk sk => ?_)
      have up : ∀ c o, c ≠ z → he.get? c = some o → hk.get? c = some o := fun c o c1 q => sk.extBut _ _ c1 (sg.extBut _ _ c1 (Heap.get?_push_of_some _ q))
      have pk : IsPair hk he.objs.size x y := sk.extBut _ _ (Nat.ne_of_gt hzlt) (sg.extBut _ _ (Nat.ne_of_gt hzlt) (Heap.get?_push_size _ rfl))
      have szk : hk.objs.size = he.objs.size + 1 := by rw [sk.1, sg.1, Heap.size_push]
      have lift : ∀ {i : Addr} {P : Nat → Value → Prop} {S : Nat → Heap → Prop} {n k : Nat}, Draws prog w A i [i] n P S → i ≠ z → S k he → S k hk := fun DD ne st => DD.frame _ _ _ st fun c hc o q => up _ _ (by rw [List.mem_singleton.mp hc]; exact ne) q
      have zk' : IsZip hk z TI TO (rawInt he.objs.size) := zk
      rw [hsz] at zk' pk szk
      refine wpAny_pure ⟨_, rfl, ?_⟩
      show Q (.ref he.objs.size) _
      rw [hsz]
      exact hQ l1 l2 x y hk _ px py zk' (up _ _ D.TOz tp) (lift D1 D.i1z e1) (lift D2 D.i2z e2) pk szk ⟨fun c o c1 c2 c3 c4 q => up c o c1 (se.extBut _ _ c2 (sd.extBut _ _ c4 (offc c o c1 c2 c3 q)))⟩
    · subst l2
      refine D2.done _ _ _ g2' fun hd e sd ex => ?_
      obtain ⟨oe, hoe, hce⟩ := ex
      have zd : IsZip hd z TI TO .ellipsis := sd _ _ D.i2z.symm zc
      have hez : e ≠ z := fun q => by rw [q, zd] at hoe; cases hoe; simp at hce
      exact wpAny_setField_rec zd (by simp) fun he _ se => hE (.inr ⟨l1, rfl⟩) he e tk1 ⟨fun c o c1 c2 c3 c4 q => se.extBut _ _ c1 (sd _ _ c4 (offc c o c1 c2 c3 q))⟩ ⟨oe, se.extBut _ _ hez hoe, hce⟩
  · subst l1
    refine D1.done _ _ _ g1 fun hb e sb ex => ?_
    obtain ⟨oe, hoe, hce⟩ := ex
    have zb : IsZip hb z TI TO .ellipsis := sb _ _ D.i1z.symm zz
    have hez : e ≠ z := fun q => by rw [q, zb] at hoe; cases hoe; simp at hce
    exact wpAny_setField_rec zb (by simp) fun hc _ sc => hE (.inl rfl) hc e tk0 ⟨fun c o c1 _ c3 _ q => sc.extBut _ _ c1 (sb _ _ c3 (sa.extBut _ _ c1 q))⟩ ⟨oe, sc.extBut _ _ hez hoe, hce⟩
end
end ZS

namespace ZS
open PySem PySem.Spec PyProof.Rows L2
open Builtin Builtin.Str
section
variable {prog : Program} {w : World} {A : Around} {E : Value → Shared → Prop} {s : Shared}
abbrev SI (it : Addr) (x : Str) (t : Tok) (i : Nat) (h : Heap) : Prop := h.IsStrIter it (strIterType x) x t i
abbrev Ch (x : Str) (i : Nat) (v : Value) : Prop := ∃ c u, x.cps[i]? = some c ∧ v = .str ⟨#[c]⟩ u
theorem draws_str (hh : A.handled = none) (it : Addr) (x : Str) (t : Tok) : Draws prog w A it [it] x.cps.size (Ch x) (SI it x t) := by
  by_cases h : x.cps.all (· < 128) = true
  · have e : SI it x t = fun i h => h.IsStrIter it "str_ascii_iterator" x t i := by
      funext i hp
      show Heap.IsStrIter hp it (strIterType x) x t i = _
      rw [strIterType, if_pos h]
    rw [e]
    exact Draws.strAscii hh it x t
  · have e : SI it x t = fun i h => h.IsStrIter it "str_iterator" x t i := by
      funext i hp
      show Heap.IsStrIter hp it (strIterType x) x t i = _
      rw [strIterType, if_neg h]
    rw [e]
    exact Draws.strWide hh it x t
theorem next_step {z TI TO i1 i2 : Addr} {a b : Value} {x y : Str} {t u : Tok} {k : Nat} {Q : Option Value → Shared → Prop} (hh : A.handled = none) (D : Apart5 z TI TO i1 i2)
    (hz : IsZip s.heap z TI TO .none) (hTI : IsPair s.heap TI (.ref i1) (.ref i2)) (hTO : IsPair s.heap TO a b) (h1 : SI i1 x t k s.heap) (h2 : SI i2 y u k s.heap) (b1 : k ≤ x.cps.size) (b2 : k < x.cps.size → k ≤ y.cps.size)
    (hQ : k < x.cps.size → k < y.cps.size → ∀ v v' h' tk, Ch x k v → Ch y k v' → IsZip h' z TI TO (rawInt s.heap.objs.size) → IsPair h' TO v v' → SI i1 x t (k + 1) h' → SI i2 y u (k + 1) h' → IsPair h' s.heap.objs.size v v' → h'.objs.size = s.heap.objs.size + 1 →
      Off z TO i1 i2 s.heap h' → Q (some (.ref s.heap.objs.size)) { s with heap := h', toks := tk })
    (hN : (k = x.cps.size ∨ (k < x.cps.size ∧ k = y.cps.size)) → ∀ h' tk, Off z TO i1 i2 s.heap h' → Q none { s with heap := h', toks := tk }) : wpAny (model prog w) A (pyNext (.ref z)) Q E s := by
  have ty : s.TypeIs (.ref z) "zip" := ⟨_, hz, rfl⟩
  have h0 : A.in1.handled = none := hh
  unfold pyNext
  refine wpAny_bind (wpAny_attempt (wpAny_callSpecial?_slot (name := Str.ofString "__next__") ty F.slot_zip_next (wpAny_call_entry F.slot_zip_next ty F.entry_zip_next
    (zip_step (draws_str h0 i1 x t) (draws_str h0 i2 y u) D hz hTI hTO h1 h2 b1 b2 (fun l1 l2 v v' h' tk p1 p2 a1 a2 a3 a4 a5 a6 a7 => wpAny_pure (hQ l1 l2 v v' h' tk p1 p2 a1 a2 a3 a4 a5 a6 a7)) fun st h' e tk off ex => ?_) (F.args_zip_next_1 _))))
  obtain ⟨o, ho, hc⟩ := ex
  exact wpAny_bind (wpAny_isInstance (T := "StopIteration") (b := true) ⟨o, ho, hc⟩ isSubtype_stop (wpAny_pure (hN st _ tk off)))
end
abbrev it1 (h : Heap) (x : Str) (t : Tok) : Heap := h.push { cls := .type (strIterType x), data := .fields #[.str x t, .int 0 0] }
abbrev tup2 (h : Heap) (a b : Value) : Heap := h.push { cls := .type "tuple", data := .seq #[a, b] }
abbrev newZ (h : Heap) (x y : Str) (t u : Tok) : Heap := tup2 (tup2 (it1 (it1 h x t) y u) (.ref h.objs.size) (.ref (it1 h x t).objs.size)) .none .none
abbrev newZ' (h : Heap) (x y : Str) (t u : Tok) : Heap := (newZ h x y t u).push { cls := .type "zip", data := .fields #[.none, .bool false, .bool false, .ref (it1 (it1 h x t) y u).objs.size, .ref (tup2 (it1 (it1 h x t) y u) (.ref h.objs.size) (.ref (it1 h x t).objs.size)).objs.size] }
set_option maxHeartbeats 4000000 in
theorem meets_new (x y : Str) (t u : Tok) :
    Meets (Builtin.«zip.__new__» ⟨[.type "zip", .str x t, .str y u], []⟩) (fun _ R s => R (.ok (.ret (.ref (newZ s.heap x y t u).objs.size))) { s with heap := newZ' s.heap x y t u }) :=
  .of_wp fun prog w A R s h => by
    obtain ⟨hp, g, d, tk, os⟩ := s
    have hsub := PySem.sub_zip
    wp_walk using wpAny_pyIter_strU, wpAny_pyIter_strU
    exact ⟨_, rfl, h⟩

section
variable {prog : Program} {w : World} {A : Around} {E : Value → Shared → Prop} {s : Shared}
theorem call_zipS {x y : Str} {t u : Tok} {Q : Value → Shared → Prop}
    (h : ∀ h', IsZip h' (s.heap.objs.size + 4) (s.heap.objs.size + 2) (s.heap.objs.size + 3) .none → IsPair h' (s.heap.objs.size + 2) (.ref s.heap.objs.size) (.ref (s.heap.objs.size + 1)) →
      IsPair h' (s.heap.objs.size + 3) .none .none → SI s.heap.objs.size x t 0 h' → SI (s.heap.objs.size + 1) y u 0 h' →
      (∀ c o, s.heap.get? c = some o → h'.get? c = some o) → Q (.ref (s.heap.objs.size + 4)) { s with heap := h' }) :
    wpAny (model prog w) A (call (.type "zip") [.str x t, .str y u]) Q E s := by
  refine callType_new F.called_zip (by decide) (F.typeCall_zip_2 _ _) (F.newCall_zip_2 _ _) (fun obj => F.args_object_init_3 obj _ _) F.entry_zip_new (meets_new x y t u) ?_
  have z1 : (it1 s.heap x t).objs.size = s.heap.objs.size + 1 := Heap.size_push ..
  have z2 : (it1 (it1 s.heap x t) y u).objs.size = s.heap.objs.size + 2 := by rw [Heap.size_push, z1]
  have z3 : (tup2 (it1 (it1 s.heap x t) y u) (.ref s.heap.objs.size) (.ref (it1 s.heap x t).objs.size)).objs.size = s.heap.objs.size + 3 := by rw [Heap.size_push, z2]
  have z4 : (newZ s.heap x y t u).objs.size = s.heap.objs.size + 4 := by rw [Heap.size_push, z3]
  have g5 : (newZ' s.heap x y t u).get? (newZ s.heap x y t u).objs.size = some _ := Heap.get?_push_size _ rfl
  have g4 : (newZ' s.heap x y t u).get? (tup2 (it1 (it1 s.heap x t) y u) (.ref s.heap.objs.size) (.ref (it1 s.heap x t).objs.size)).objs.size = some _ := Heap.get?_push_of_some _ (Heap.get?_push_size _ rfl)
  have g3 : (newZ' s.heap x y t u).get? (it1 (it1 s.heap x t) y u).objs.size = some _ := Heap.get?_push_of_some _ (Heap.get?_push_of_some _ (Heap.get?_push_size _ rfl))
  have g2 : (newZ' s.heap x y t u).get? (it1 s.heap x t).objs.size = some _ := Heap.get?_push_of_some _ (Heap.get?_push_of_some _ (Heap.get?_push_of_some _ (Heap.get?_push_size _ rfl)))
  have g1 : (newZ' s.heap x y t u).get? s.heap.objs.size = some _ := Heap.get?_push_of_some _ (Heap.get?_push_of_some _ (Heap.get?_push_of_some _ (Heap.get?_push_of_some _ (Heap.get?_push_size _ rfl))))
  show _ ∧ _
  rw [z2, z3, z4] at g5
  rw [z1, z2] at g3
  rw [z3] at g4
  rw [z1] at g2
  rw [z4]
  exact ⟨⟨_, g5, rfl⟩, h _ g5 g3 g4 ⟨_, g1, rfl, rfl⟩ ⟨_, g2, rfl, rfl⟩ fun c o q =>
    Heap.get?_push_of_some _ (Heap.get?_push_of_some _ (Heap.get?_push_of_some _ (Heap.get?_push_of_some _ (Heap.get?_push_of_some _ q))))⟩
end
end ZS

namespace ZS
open PySem PySem.Spec PyProof.Rows
open L2 hiding It St start
/-- a walk over zip of two texts: both signs of a place in a new pair -/
def ItzS (x y : Str) : L2.It where
  go i _ := i < x.cps.size ∧ i < y.cps.size
  yld i H v H' := ∃ T c d, v = .ref T ∧ H T = none ∧ H' = upd H T (.tup [.str ⟨#[c]⟩, .str ⟨#[d]⟩]) ∧ x.cps[i]? = some c ∧ y.cps[i]? = some d
  stop i _ := i = x.cps.size ∨ (i < x.cps.size ∧ i = y.cps.size)
/-- the zip's five things -/
structure Five (x y : Str) (t u : Tok) (z TI TO i1 i2 : Addr) (i : Nat) (h : Heap) : Prop where
  zp : IsZip h z TI TO .none
  ins : IsPair h TI (.ref i1) (.ref i2)
  out : ∃ v w, IsPair h TO v w
  one : SI i1 x t i h
  two : SI i2 y u i h
theorem on_five {p : Addr → Prop} {z TI TO i1 i2 : Addr} (a : p z) (b : p TI) (c : p TO) (d : p i1) (e : p i2) : ∀ q ∈ [z, TI, TO, i1, i2], p q := by
  intro q hq
  simp only [List.mem_cons, List.not_mem_nil, or_false] at hq
  rcases hq with rfl | rfl | rfl | rfl | rfl <;> assumption
theorem SI.up {it : Addr} {x : Str} {t : Tok} {i : Nat} {h h' : Heap} (s : SI it x t i h) (k : ∀ o, h.get? it = some o → h'.get? it = some o) : SI it x t i h' := let ⟨o, e, r⟩ := s; ⟨o, k o e, r⟩
theorem SI.live {it : Addr} {x : Str} {t : Tok} {i : Nat} {h : Heap} (s : SI it x t i h) : ∃ o, h.get? it = some o ∧ ∀ v, o.data ≠ .cell v := let ⟨o, e, _, d⟩ := s; ⟨o, e, fun v q => nomatch d.symm.trans q⟩
theorem turn_zipS {P : Program} {w : World} {K : PySem.W.Frag} {elts : List Expr} {kk : Nat} {tpos : Pos} {x y : Str} {t u : Tok} {z TI TO i1 i2 : Addr} (D : Apart5 z TI TO i1 i2) :
    Turn P w K (.Tuple elts kk tpos) (ItzS x y) [z, TI, TO, i1, i2] z (Five x y t u z TI TO i1 i2) where
  mem := List.mem_cons_self
  obj i h st := by
    obtain ⟨v, w, q⟩ := st.out
    exact on_five ⟨_, st.zp, fun _ e => nomatch e⟩ ⟨_, st.ins, fun _ e => nomatch e⟩ ⟨_, q, fun _ e => nomatch e⟩ st.one.live st.two.live
  keep i h h' st k := by
    obtain ⟨v, w, q⟩ := st.out
    exact ⟨k _ (by simp) _ st.zp, k _ (by simp) _ st.ins, ⟨v, w, k _ (by simp) _ q⟩, st.one.up (k _ (by simp)), st.two.up (k _ (by simp))⟩
  self A i s Q E st q := wpAny_pyIter_zip st.zp q
  done := by
    rintro X rfl rfl rfl hc i pins s σ H E I hf st hg
    obtain ⟨v, w, q⟩ := st.out
    have hs : i = x.cps.size ∨ (i < x.cps.size ∧ i = y.cps.size) := hg
    refine next_step (I.ok.hd hc) D st.zp st.ins q st.one st.two (by omega) (by omega) (fun l1 l2 => by omega) fun _ h' tk off => ⟨rfl, ?_⟩
    refine I.turnedL (ch := [z, TI, TO, i1, i2]) (fun c o nc e => ?_) hf
    simp only [List.mem_cons, List.not_mem_nil, or_false, not_or] at nc
    exact off.keeps c o nc.1 nc.2.2.1 nc.2.2.2.1 nc.2.2.2.2 e
  item := by
    rintro X rfl rfl rfl hc i pins s σ H E I hf st ⟨g1, g2⟩
    obtain ⟨v, w, q⟩ := st.out
    refine next_step (I.ok.hd hc) D st.zp st.ins q st.one st.two (Nat.le_of_lt g1) (fun _ => Nat.le_of_lt g2) (fun _ _ a b h' tk p1 p2 z1 o1 s1 s2 pr sz off => ?_) fun st => by omega
    obtain ⟨c, ta, hx, rfl⟩ := p1
    obtain ⟨d, tb, hy, rfl⟩ := p2
    have lz : z < s.heap.objs.size := Heap.lt_size st.zp
    refine ⟨_, rfl, wpAny_letOwnedTupleGo_zip (s := { s with heap := h', toks := tk }) z1 fun h2 z2 sb => ?_⟩
    have pr2 : IsPair h2 s.heap.objs.size (.str ⟨#[c]⟩ ta) (.str ⟨#[d]⟩ tb) := (sb.2 _ (Nat.ne_of_gt lz)).trans pr
    have ok : ObjOk X.prog X.w (upd H s.heap.objs.size (.tup [.str ⟨#[c]⟩, .str ⟨#[d]⟩])) h2 s.heap.objs.size (.tup [.str ⟨#[c]⟩, .str ⟨#[d]⟩]) :=
      ⟨show 2 ≤ sizeLine by decide, _, .cons ⟨ta, rfl⟩ (.cons ⟨tb, rfl⟩ .nil), _, pr2, rfl, _, rfl⟩
    have fresh : ∀ b ∈ [z, TI, TO, i1, i2], upd H s.heap.objs.size (.tup [.str ⟨#[c]⟩, .str ⟨#[d]⟩]) b = none := fun b hb => by
      obtain ⟨o, e, _⟩ := on_five (p := fun q => ∃ o, s.heap.get? q = some o ∧ True) ⟨_, st.zp, trivial⟩ ⟨_, st.ins, trivial⟩ ⟨_, q, trivial⟩ (let ⟨o, e, _⟩ := st.one.live; ⟨o, e, trivial⟩) (let ⟨o, e, _⟩ := st.two.live; ⟨o, e, trivial⟩) b hb
      exact (upd_ne (Nat.ne_of_lt (Heap.lt_size e))).trans (hf b hb).1
    refine ⟨.ref s.heap.objs.size, _, I.turnedNew (t' := tk) (ch := [z, TI, TO, i1, i2]) (fun c o nc e => ?_) hf (Nat.le_refl _) ok, rfl, ⟨_, c, d, rfl, I.hok.fresh (Nat.le_refl _), rfl, hx, hy⟩, ?_, fresh⟩
    · simp only [List.mem_cons, List.not_mem_nil, or_false, not_or] at nc
      exact (sb.2 c nc.1).trans (off.keeps c o nc.1 nc.2.2.1 nc.2.2.2.1 nc.2.2.2.2 e)
    · exact ⟨z2, (sb.2 _ D.TIz).trans (off.keeps _ _ D.TIz D.TITO D.TIi1 D.TIi2 st.ins), ⟨_, _, (sb.2 _ D.TOz).trans o1⟩, s1.up fun o e => (sb.2 _ D.i1z).trans e, s2.up fun o e => (sb.2 _ D.i2z).trans e⟩
theorem apart_new (n : Nat) : Apart5 (n + 4) (n + 2) (n + 3) n (n + 1) := by constructor <;> (show ¬ ((_ : Nat) = _); omega)
def iZipS (ta : TA) : TI := fun σ H R => ta σ H fun vs H1 => ∃ x y, vs = [.str x, .str y] ∧ R (ItzS x y) H1
theorem pi_zipS {X : Cx} {e e2 : Expr} {ta : TA} {p pos tpos : Pos} {elts : List Expr} {kk : Nat} (hg : Gl X "zip") (hm : X.mg "zip" = none) (ha : PA X [e, e2] ta)
    (hs : starEach [e, e2] X.env = (false, eval e X.env) :: starEach [e2] X.env) (hpl : (backTo pos (starEach [e2] X.env)).any (·.1) = false) :
    PI X (.Tuple elts kk tpos) (.Call (.Name "zip" p) [e, e2] [] pos) (iZipS ta) where
  run pins s σ H R I h := by
    refine Call_ (ld_blt I hg hm PyProof.Rows.boot_zip (PyProof.Rows.callWith_type1 (thn (ha.run pos pins s σ H _ I h) ?_) hs hpl))
    rintro us s1 ⟨_, H1, I1, rv, x, y, rfl, q⟩
    cases rv with
    | cons ra rv =>
      cases rv with
      | cons rb rv =>
        cases rv
        obtain ⟨t, rfl⟩ := ra
        obtain ⟨u, rfl⟩ := rb
        refine call_zipS fun h' zp ins out one two hk => wpAny_pyIter_zip zp ?_
        have fp : ∀ k, FpOk X pins H1 (s1.heap.objs.size + k) := fun k => I1.fpOk (Nat.le_add_right _ k) (I1.hok.fresh (Nat.le_add_right _ k))
        exact ⟨_, _, Five x y t u _ _ _ _ _, _, H1, rfl, I1.kept (t' := s1.toks) hk, turn_zipS (apart_new _), ⟨zp, ins, ⟨_, _, out⟩, one, two⟩, on_five (fp 4) (fp 2) (fp 3) (fp 0) (fp 1), q⟩
end ZS

namespace DL

abbrev Env := List (Option D)
/-- what an expression, a block, a def comes to -/
inductive Res (α : Type) where
  | ok (a : α)
  | err (c : Nat) (d : D) (e : Env)
  | bad
def Res.bind {α β : Type} (r : Res α) (f : α → Res β) : Res β := match r with
  | .ok a => f a
  | .err c d e => .err c d e
  | .bad => .bad
inductive RF where
  | ok (d : D) (post : Env)
  | err (c : Nat) (d : D) (post : Env)
  | bad
inductive Out where
  | nx (e : Env)
  | ret (d : D) (e : Env)
  | brk (e : Env)
  | cnt (e : Env)
  | err (c : Nat) (d : D) (e : Env)
  | bad
/-- an operand: a value that was made, or a slot -/
inductive Opd where
  | val (d : D)
  | ref (i : Nat)
def look (e : Env) (i : Nat) : Option D := (e[i]?).join
def Opd.get (e : Env) : Opd → Option D
  | .val d => some d
  | .ref i => look e i

/-- operations of two places on values, by name -/
inductive B2 where
  | add | sub | mul | fdiv | mod | pow
  | lt | le | gt | ge | eq | ne | is | isnot | isin | notin
  deriving DecidableEq
inductive B1 where
  | neg | notv
  deriving DecidableEq
/-- built-in functions and methods -/
inductive BF where
  | len | int1 | int2 | str1 | all | any | sum | list | tuple | sorted | sortedBy | isinst (t : String)
  | join | count | index | slice (lo hi : Bool)
  deriving DecidableEq

mutual
inductive Ex where
  | lit (d : D)
  | slot (i : Nat)
  | op2 (o : B2) (a b : Ex)
  | op1 (o : B1) (a : Ex)
  | chain (o p : B2) (a b c : Ex)
  | and (a b : Ex)
  | or (a b : Ex)
  | ife (c : Tx) (a b : Ex)
  | tup (es : Exs)
  | lst (es : Exs)
  | idx (a b : Ex)
  | fld (a : Ex) (j : Nat)
  | sl2 (a b c : Ex)
  | bcall (b : BF) (es : Exs)
  | call (f : Nat) (es : Exs)
  | make (c : Nat) (f : Nat) (es : Exs)
  | lc (elt : Ex) (tg : List Nat) (it : It) (cond : Tx)
  | lc2 (elt : Ex) (tg : List Nat) (it : It) (tg2 : List Nat) (it2 : It) (cond : Tx)
inductive Exs where
  | nil
  | cons (e : Ex) (es : Exs)
inductive It where
  | seq (e : Ex)
  | rng (a b : Ex)
  | enum (e : Ex)
  | zip (a b : Ex)
inductive Tx where
  | yes
  | val (e : Ex)
  | and (a b : Tx)
  | or (a b : Tx)
  | not (a : Tx)
end
mutual
inductive Sx where
  | pass
  | expr (e : Ex)
  | set (i : Nat) (e : Ex)
  | unpack (is : List Nat) (e : Ex)
  | app (i : Nat) (ks : List Nat) (e : Ex)
  | clear (i : Nat) (ks : List Nat)
  | setI (i : Nat) (ks : List Nat) (x : Ex) (e : Ex)
  | augI (i : Nat) (ks : List Nat) (x : Ex) (o : B2) (e : Ex)
  | setF (i : Nat) (j : Nat) (e : Ex)
  | iff (c : Tx) (a b : Ss)
  | for (tg : List Nat) (it : It) (b : Ss)
  | ret (e : Ex)
  | brk
  | cnt
inductive Ss where
  | nil
  | cons (s : Sx) (b : Ss)
end

/-! ### slots that an expression, a block mentions -/
mutual
def Ex.has (i : Nat) : Ex → Bool
  | .lit _ => false
  | .slot j => j == i
  | .op2 _ a b => a.has i || b.has i
  | .op1 _ a => a.has i
  | .chain _ _ a b c => a.has i || b.has i || c.has i
  | .and a b => a.has i || b.has i
  | .or a b => a.has i || b.has i
  | .ife c a b => c.has i || a.has i || b.has i
  | .tup es => es.has i
  | .lst es => es.has i
  | .idx a b => a.has i || b.has i
  | .fld a _ => a.has i
  | .sl2 a b c => a.has i || b.has i || c.has i
  | .bcall _ es => es.has i
  | .call _ es => es.has i
  | .make _ _ es => es.has i
  | .lc e tg it c => e.has i || tg.contains i || it.has i || c.has i
  | .lc2 e tg it tg2 it2 c => e.has i || tg.contains i || it.has i || tg2.contains i || it2.has i || c.has i
def Exs.has (i : Nat) : Exs → Bool
  | .nil => false
  | .cons e es => e.has i || es.has i
def It.has (i : Nat) : It → Bool
  | .seq e => e.has i
  | .rng a b => a.has i || b.has i
  | .enum e => e.has i
  | .zip a b => a.has i || b.has i
def Tx.has (i : Nat) : Tx → Bool
  | .yes => false
  | .val e => e.has i
  | .and a b => a.has i || b.has i
  | .or a b => a.has i || b.has i
  | .not a => a.has i
end

/-! ### operations on data -/
/-- the longest list, text -/
def line : Nat := 16777216
def okLen (n : Nat) : Bool := decide (n < line)
def smallI (i : Int) : Bool := decide (-(2 ^ 64) < i) && decide (i < 2 ^ 64)
mutual
/-- == of data -/
def deq : D → D → Bool
  | .non, .non => true
  | .bl a, .bl b => a == b
  | .bl a, .int j => (if a then 1 else 0) == j
  | .int i, .bl b => i == (if b then 1 else 0)
  | .int a, .int b => a == b
  | .str a, .str b => a == b
  | .tup _ a, .tup _ b => deqs a b
  | .lst _ a, .lst _ b => deqs a b
  | _, _ => false
def deqs : List D → List D → Bool
  | [], [] => true
  | a :: as, b :: bs => deq a b && deqs as bs
  | [], _ :: _ => false
  | _ :: _, [] => false
end
mutual
/-- data that == takes as data: no instance, texts of true signs, at most n deep -/
def shp (n : Nat) : D → Bool
  | .str x => x.all fun c => decide (c < 0x110000)
  | .tup _ ds => decide (0 < n) && shps (n - 1) ds
  | .lst _ ds => decide (0 < n) && shps (n - 1) ds
  | .ins _ _ _ => false
  | .scr _ => false
  | .non => true
  | .bl _ => true
  | .int _ => true
def shps (n : Nat) : List D → Bool
  | [] => true
  | d :: ds => shp n d && shps n ds
end
def isFlat : D → Bool
  | .non => true
  | .bl _ => true
  | .int _ => true
  | .str _ => true
  | _ => false
def items : D → Option (List D)
  | .tup _ ds => some ds
  | .lst _ ds => some ds
  | .str x => some (x.map fun c => .str [c])
  | .scr ns => some (ns.map .int)
  | _ => none
def intsD : List D → Option (List Int)
  | [] => some []
  | .int i :: ds => (intsD ds).map (i :: ·)
  | _ :: _ => none
def strsD : List D → Option (List (List Nat))
  | [] => some []
  | .str i :: ds => (strsD ds).map (i :: ·)
  | _ :: _ => none
def bls : List D → Option (List Bool)
  | [] => some []
  | .bl i :: ds => (bls ds).map (i :: ·)
  | _ :: _ => none
/-- a bool beside a number -/
def mixed : D → D → Bool
  | .bl _, .int _ => true
  | .int _, .bl _ => true
  | _, _ => false
def run2 : B2 → D → D → Option D
  | .add, .int a, .int b => some (.int (a + b))
  | .add, .str a, .str b => if okLen (a.length + b.length) then some (.str (a ++ b)) else none
  | .add, .lst _ a, .lst _ b => if okLen (a.length + b.length) && imms a && imms b then some (.lst true (a ++ b)) else none
  | .sub, .int a, .int b => some (.int (a - b))
  | .mul, .int a, .int b => if smallI a || smallI b then some (.int (a * b)) else none
  | .mul, .lst true a, .int b => if decide (0 ≤ b) && decide (b < 1000) && decide (a.length < 1000) && imms a then some (.lst true ((List.replicate b.toNat a).flatten)) else none
  | .fdiv, .int a, .int b => if decide (0 < b) && decide (b < 1073741824) then some (.int (a / b)) else none
  | .mod, .int a, .int b => if decide (0 < b) then some (.int (a % b)) else none
  | .pow, .int a, .int b => if decide (0 ≤ b) && decide (b ≤ 1000) && smallI a then some (.int (a ^ b.toNat)) else none
  | .lt, .int a, .int b => some (.bl (decide (a < b)))
  | .le, .int a, .int b => some (.bl (decide (a ≤ b)))
  | .gt, .int a, .int b => some (.bl (decide (b < a)))
  | .ge, .int a, .int b => some (.bl (decide (b ≤ a)))
  | .eq, a, b => if (isFlat a && isFlat b && !mixed a b) || (shp 60 a && shp 60 b) then some (.bl (deq a b)) else none
  | .ne, a, b => if (isFlat a && isFlat b && !mixed a b) || (shp 60 a && shp 60 b) then some (.bl (!deq a b)) else none
  | .is, .non, .non => some (.bl true)
  | .is, .bl a, .bl b => some (.bl (a == b))
  | .is, a, .non => some (.bl false)
  | .isnot, .non, .non => some (.bl false)
  | .isnot, .bl a, .bl b => some (.bl (!(a == b)))
  | .isnot, a, .non => some (.bl true)
  | .isin, .str [c], .str b => some (.bl (b.contains c))
  | .isin, a, .tup _ ds => if isFlat a && ds.all isFlat then some (.bl (ds.any fun y => deq y a)) else none
  | .isin, a, .lst _ ds => if isFlat a && ds.all isFlat then some (.bl (ds.any fun y => deq y a)) else none
  | .notin, .str [c], .str b => some (.bl (!(b.contains c)))
  | .notin, a, .tup _ ds => if isFlat a && ds.all isFlat then some (.bl (!(ds.any fun y => deq y a))) else none
  | .notin, a, .lst _ ds => if isFlat a && ds.all isFlat then some (.bl (!(ds.any fun y => deq y a))) else none
  | _, _, _ => none
def run1 : B1 → D → Option D
  | .neg, .int a => some (.int (-a))
  | .notv, .bl b => some (.bl (!b))
  | _, _ => none
/-- the place of an index -/
def place (n : Nat) (i : Int) : Option Nat := if 0 ≤ i then (if i < n then some i.toNat else none) else (if 0 ≤ i + n then some (i + n).toNat else none)
def truth : D → Option Bool
  | .non => some false
  | .bl b => some b
  | .int i => some (i != 0)
  | .str x => if okLen x.length then some (!x.isEmpty) else none
  | .tup _ ds => some (!ds.isEmpty)
  | .lst _ ds => some (!ds.isEmpty)
  | .ins .. => none
  | .scr _ => none
def item (d x : D) : Option D := match d, x with
  | .tup _ ds, .int i => (place ds.length i).bind fun k => ds[k]?
  | .lst _ ds, .int i => (place ds.length i).bind fun k => ds[k]?
  | .scr ds, .int i => (place ds.length i).bind fun k => (ds[k]?).map .int
  | .str y, .int i => if okLen y.length then (place y.length i).bind fun k => (y[k]?).map fun c => .str [c] else none
  | _, _ => none
/-- the attributes of the classes, the defs -/
structure Tb where
  fn : Nat → List D → RF
  fl : Nat → List Nat
def field (fl : Nat → List Nat) (d : D) (f : Nat) : Option D := match d with
  | .ins _ c ds => ((fl c).idxOf? f).bind fun j => ds[j]?
  | _ => none
/-- a value's class -/
def kindOf : D → String
  | .non => "NoneType"
  | .bl _ => "bool"
  | .int _ => "int"
  | .str _ => "str"
  | .tup _ _ => "tuple"
  | .lst _ _ => "list"
  | _ => ""
def kinds : List String := ["NoneType", "bool", "int", "str", "tuple", "list"]
def asked : List String := ["int", "bool", "str", "list", "tuple"]
/-- isinstance of a built-in class -/
def isOf (t : String) (d : D) : Option Bool :=
  if kinds.contains (kindOf d) && asked.contains t then some (kindOf d == t || (kindOf d == "bool" && t == "int")) else none
def digits2 : List Nat → Option Int
  | x => if x.isEmpty || 60 < x.length then none else x.foldl (fun a c => match a with
    | none => none
    | some a => if c = 48 then some (2 * a) else if c = 49 then some (2 * a + 1) else none) (some 0)
def codesLt : List Nat → List Nat → Bool
  | a, b => decide (a < b)
def insertS (x : List Nat) : List (List Nat) → List (List Nat)
  | [] => [x]
  | y :: ys => if codesLt x y then x :: y :: ys else y :: insertS x ys
def sortS (xs : List (List Nat)) : List (List Nat) := xs.foldl (fun acc x => insertS x acc) []
def joinS (sep : List Nat) : List (List Nat) → List Nat
  | [] => []
  | [x] => x
  | x :: y :: r => x ++ sep ++ joinS sep (y :: r)
/-- a slice's end: d where it is left out -/
def cutAt (n d : Nat) : Option Int → Nat
  | none => d
  | some i => if i < 0 then (i + n).toNat else min i.toNat n
def cutL {α : Type} (xs : List α) (lo hi : Option Int) : List α := (xs.drop (cutAt xs.length 0 lo)).take (cutAt xs.length xs.length hi - cutAt xs.length 0 lo)
def sliceD (d : D) (lo hi : Option Int) : Option D := match d with
  | .lst _ ds => if imms ds then some (.lst true (cutL ds lo hi)) else none
  | .scr ns => some (.lst true ((cutL ns lo hi).map .int))
  | .str x => if okLen x.length then some (.str (cutL x lo hi)) else none
  | _ => none
def runB1 (b : BF) (d : D) : Option D := match b with
  | .len => match d with
    | .str x => if okLen x.length then some (.int x.length) else none
    | .tup _ ds => some (.int ds.length)
    | .lst _ ds => some (.int ds.length)
    | _ => none
  | .int1 => match d with
    | .int i => some (.int i)
    | .bl b => some (.int (if b then 1 else 0))
    | .str x => match x with
      | [c] => if decide (48 ≤ c) && decide (c ≤ 57) then some (.int ((c : Int) - 48)) else none
      | _ => none
    | _ => none
  | .all => match d with
    | .lst _ ds => (bls ds).map fun bs => .bl (bs.all id)
    | _ => none
  | .any => match d with
    | .lst _ ds => (bls ds).map fun bs => .bl (bs.any id)
    | _ => none
  | .sum => match d with
    | .lst _ ds => (intsD ds).map fun bs => .int bs.sum
    | _ => none
  | .list => match d with
    | .lst _ ds => if imms ds then some (.lst true ds) else none
    | .tup _ ds => if imms ds then some (.lst true ds) else none
    | _ => none
  | .tuple => match d with
    | .lst _ ds => if imms ds then some (.tup false ds) else none
    | _ => none
  | .sorted => match d with
    | .lst _ ds => match strsD ds with
      | some xs => if decide (xs.length < 64) then some (.lst true ((sortS xs).map .str)) else none
      | none => none
    | _ => none
  | .isinst t => (isOf t d).map .bl
  | .slice lo hi => if lo || hi then none else sliceD d none none
  | _ => none
def runB2 (b : BF) (d e : D) : Option D := match b with
  | .int2 => match d, e with
    | .str x, .int 2 => (digits2 x).map .int
    | _, _ => none
  | .join => match d, e with
    | .str s, .lst _ ds => match strsD ds with
      | some xs => if decide ((xs.map List.length).sum + xs.length * s.length ≤ 16777216) then some (.str (joinS s xs)) else none
      | none => none
    | _, _ => none
  | .count => match d, e with
    | .str x, .str [c] => if okLen x.length then some (.int (x.count c)) else none
    | _, _ => none
  | .slice lo hi => match e with
    | .int a => if lo && !hi then sliceD d (some a) none else if hi && !lo then sliceD d none (some a) else none
    | _ => none
  | _ => none
def runB3 (b : BF) (d e f : D) : Option D := match b with
  | .slice lo hi => match e, f with
    | .int a, .int c => if lo && hi then sliceD d (some a) (some c) else none
    | _, _ => none
  | _ => none
def runB (b : BF) (ds : List D) : Option D := match ds with
  | [d] => runB1 b d
  | [d, e] => runB2 b d e
  | [d, e, f] => runB3 b d e f
  | _ => none

/-! ### the evaluator -/
def opd (a : Ex) (e : Env) (r : Res (D × Env)) : Res (Opd × Env) := match a with
  | .slot i => match look e i with
    | some _ => .ok (.ref i, e)
    | none => .bad
  | _ => r.bind fun p => .ok (.val p.1, p.2)
def gets (e : Env) : List Opd → Option (List D)
  | [] => some []
  | o :: os => match o.get e, gets e os with
    | some d, some ds => some (d :: ds)
    | _, _ => none
/-- the value of an operation, where it was made -/
def done (e : Env) (r : Option D) : Res (D × Env) := match r with
  | some d => .ok (d, e)
  | none => .bad
/-- a part is taken out of an operand -/
def taken (e : Env) (o : Opd) (r : Option D) : Res (D × Env) := match r with
  | none => .bad
  | some d => if imm d then .ok (d, e) else match o with
    | .val _ => .ok (d, e)
    | .ref i => match look e i with
      | some x => .ok (fz d, e.set i (some (fz x)))
      | none => .bad
/-- the slots that a call is handed -/
def handed (e : Env) : List Opd → Option (List Nat)
  | [] => some []
  | .val _ :: os => handed e os
  | .ref i :: os => match look e i, handed e os with
    | some d, some is => if imm d then some is else if is.contains i then none else some (i :: is)
    | _, _ => none
/-- what a call leaves in the slots that it was handed -/
def putBack : List Opd → Env → Env → Env
  | .ref i :: os, some d :: post, e => putBack os post (e.set i (some d))
  | _ :: os, _ :: post, e => putBack os post e
  | _, _, e => e
def wipeE (e : Env) : List Nat → Env
  | [] => e
  | i :: is => (wipeE e is).set i none
def callD (Φ : Nat → List D → RF) (f : Nat) (os : List Opd) (e : Env) : Res (D × Env) :=
  match handed e os, gets e os with
  | some is, some ds => match Φ f ds with
    | .ok r post => .ok (r, putBack os post (wipeE e is))
    | .err c d post => .err c d (putBack os post (wipeE e is))
    | .bad => .bad
  | _, _ => .bad
def setAll (e : Env) : List Nat → List D → Option Env
  | [], [] => some e
  | i :: is, d :: ds => setAll (e.set i (some d)) is ds
  | _, _ => none
/-- the item's parts go to the target's slots -/
def bindT (tg : List Nat) (d : D) (e : Env) : Option Env := match tg with
  | [i] => if imm d then some (e.set i (some d)) else none
  | is => match d with
    | .tup _ ds => if imms ds then setAll e is ds else none
    | _ => none
/-- the target's slots as they were -/
def backE (e0 e : Env) : List Nat → Env
  | [] => e
  | i :: is => (backE e0 e is).set i (look e0 i)
def immAt (e : Env) (is : List Nat) : Bool := is.all fun i => match look e i with
  | some d => imm d
  | none => true
def loopC (tg : List Nat) (test : Env → Res (Bool × Env)) (elt : Env → Res (D × Env)) : List D → Env → List D → Res (List D × Env)
  | [], e, acc => .ok (acc, e)
  | x :: xs, e, acc => match bindT tg x e with
    | none => .bad
    | some e1 => (test e1).bind fun p => if p.1 then (elt p.2).bind fun q =>
        if okLen acc.length then loopC tg test elt xs (wipeE q.2 tg) (acc ++ [q.1]) else .bad
      else loopC tg test elt xs (wipeE p.2 tg) acc
def pairs : List D → List D → List D
  | a :: as, b :: bs => .tup false [a, b] :: pairs as bs
  | _, _ => []
def enumF (k : Nat) : List D → List D
  | [] => []
  | a :: as => .tup false [.int k, a] :: enumF (k + 1) as
def rangeD (a b : Int) : List D := (List.range (b - a).toNat).map fun k => .int (a + (k : Nat))
/-- what is walked, and the slot that is hidden meanwhile -/
structure Wk where
  ds : List D
  e : Env
  hid : Option (Nat × D)
def walk1 (has : Nat → Bool) (o : Opd) (e : Env) : Res Wk := match o with
  | .val d => match items d with
    | some ds => .ok ⟨fzs ds, e, none⟩
    | none => .bad
  | .ref i => match look e i with
    | none => .bad
    | some d => match items d with
      | none => .bad
      | some ds => if imm d then .ok ⟨ds, e, none⟩ else if imms ds && !has i then .ok ⟨ds, e.set i none, some (i, d)⟩ else .ok ⟨fzs ds, e.set i (some (fz d)), none⟩
def inR (i : Int) : Bool := decide (-(2 ^ 62) ≤ i) && decide (i < 2 ^ 62)
def rngOf (e : Env) (a b : Option D) : Res Wk := match a, b with
  | some (.int i), some (.int j) => if inR i && inR j then .ok ⟨rangeD i j, e, none⟩ else .bad
  | _, _ => .bad
def zipOf (e : Env) (a b : Option D) : Res Wk := match a, b with
  | some (.str x), some (.str y) => .ok ⟨pairs (x.map fun c => .str [c]) (y.map fun c => .str [c]), e, none⟩
  | _, _ => .bad
def unhide (w : Option (Nat × D)) (e : Env) : Env := match w with
  | none => e
  | some (i, d) => e.set i (some d)

section
variable (Φ : Tb)
mutual
def evE : Ex → Env → Res (D × Env)
  | .lit d, e => .ok (d, e)
  | .slot i, e => match look e i with
    | none => .bad
    | some d => if imm d then .ok (d, e) else .ok (fz d, e.set i (some (fz d)))
  | .op2 o a b, e => (opd a e (evE a e)).bind fun x => (opd b x.2 (evE b x.2)).bind fun y => match x.1.get y.2, y.1.get y.2 with
    | some d1, some d2 => done y.2 (run2 o d1 d2)
    | _, _ => .bad
  | .op1 o a, e => (opd a e (evE a e)).bind fun x => match x.1.get x.2 with
    | some d => done x.2 (run1 o d)
    | none => .bad
  | .chain o p a b c, e => (opd a e (evE a e)).bind fun x => (opd b x.2 (evE b x.2)).bind fun y => match x.1.get y.2, y.1.get y.2 with
    | some d1, some d2 => match run2 o d1 d2 with
      | some (.bl true) => (opd c y.2 (evE c y.2)).bind fun z => match y.1.get z.2, z.1.get z.2 with
        | some d2, some d3 => done z.2 (run2 p d2 d3)
        | _, _ => .bad
      | some (.bl false) => .ok (.bl false, y.2)
      | _ => .bad
    | _, _ => .bad
  | .and a b, e => (evE a e).bind fun x => match x.1 with
    | .bl true => evE b x.2
    | .bl false => .ok (.bl false, x.2)
    | _ => .bad
  | .or a b, e => (evE a e).bind fun x => match x.1 with
    | .bl true => .ok (.bl true, x.2)
    | .bl false => evE b x.2
    | _ => .bad
  | .ife c a b, e => (evT c e).bind fun x => if x.1 then evE a x.2 else evE b x.2
  | .tup es, e => (evD es e).bind fun x => if okLen x.1.length then .ok (if imms x.1 then .tup false x.1 else .tup true x.1, x.2) else .bad
  | .lst es, e => (evD es e).bind fun x => if okLen x.1.length then .ok (.lst true x.1, x.2) else .bad
  | .idx a b, e => (opd a e (evE a e)).bind fun x => (opd b x.2 (evE b x.2)).bind fun y => match x.1.get y.2, y.1.get y.2 with
    | some d1, some d2 => taken y.2 x.1 (item d1 d2)
    | _, _ => .bad
  | .fld a j, e => (opd a e (evE a e)).bind fun x => match x.1.get x.2 with
    | some d => taken x.2 x.1 (field Φ.fl d j)
    | none => .bad
  | .sl2 a b c, e => (opd a e (evE a e)).bind fun x => (opd b x.2 (evE b x.2)).bind fun y => match y.1.get y.2 with
    | some (.int i) => (opd c y.2 (evE c y.2)).bind fun z => match x.1.get z.2, z.1.get z.2 with
      | some d, some (.int j) => done z.2 (sliceD d (some i) (some j))
      | _, _ => .bad
    | _ => .bad
  | .bcall b es, e => (evO es e).bind fun x => match gets x.2 x.1 with
    | some ds => done x.2 (runB b ds)
    | none => .bad
  | .call f es, e => (evO es e).bind fun x => callD Φ.fn f x.1 x.2
  | .make c f es, e => (evO es e).bind fun x => match handed x.2 x.1, gets x.2 x.1 with
    | some is, some ds => match Φ.fn f (.ins true c [] :: ds) with
      | .ok .non (some r :: post) => .ok (r, putBack x.1 post (wipeE x.2 is))
      | .err k d (_ :: post) => .err k d (putBack x.1 post (wipeE x.2 is))
      | _ => .bad
    | _, _ => .bad
  | .lc elt tg it c, e => (evI (fun i => elt.has i || tg.contains i || c.has i) it e).bind fun w => if immAt w.e tg then
      (loopC tg (fun e => evT c e) (fun e => evE elt e) w.ds (wipeE w.e tg) []).bind fun r => .ok (.lst true r.1, unhide w.hid (backE w.e r.2 tg)) else .bad
  | .lc2 elt tg it tg2 it2 c, e => .bad
def evT : Tx → Env → Res (Bool × Env)
  | .yes, e => .ok (true, e)
  | .val a, e => (opd a e (evE a e)).bind fun x => match (x.1.get x.2).bind truth with
    | some b => .ok (b, x.2)
    | none => .bad
  | .and a b, e => (evT a e).bind fun x => if x.1 then evT b x.2 else .ok (false, x.2)
  | .or a b, e => (evT a e).bind fun x => if x.1 then .ok (true, x.2) else evT b x.2
  | .not a, e => (evT a e).bind fun x => .ok (!x.1, x.2)
def evD : Exs → Env → Res (List D × Env)
  | .nil, e => .ok ([], e)
  | .cons a es, e => (evE a e).bind fun x => (evD es x.2).bind fun y => .ok (x.1 :: y.1, y.2)
def evO : Exs → Env → Res (List Opd × Env)
  | .nil, e => .ok ([], e)
  | .cons a es, e => (opd a e (evE a e)).bind fun x => (evO es x.2).bind fun y => .ok (x.1 :: y.1, y.2)
def evI (has : Nat → Bool) : It → Env → Res Wk
  | .seq a, e => (opd a e (evE a e)).bind fun x => walk1 has x.1 x.2
  | .rng a b, e => (opd a e (evE a e)).bind fun x => (opd b x.2 (evE b x.2)).bind fun y => rngOf y.2 (x.1.get y.2) (y.1.get y.2)
  | .enum a, e => .bad
  | .zip a b, e => (opd a e (evE a e)).bind fun x => (opd b x.2 (evE b x.2)).bind fun y => zipOf y.2 (x.1.get y.2) (y.1.get y.2)
end
end
end DL

namespace DL
example (Φ : Tb) : evE Φ (.op2 .add (.lit (.int 1)) (.lit (.int 2))) [] = .ok (.int 3, []) := rfl
example (Φ : Tb) : evE Φ (.lc (.op2 .add (.slot 0) (.lit (.int 2))) [0] (.rng (.lit (.int 0)) (.lit (.int 3))) .yes) [none] = .ok (.lst true [.int 2, .int 3, .int 4], [none]) := rfl

/-! ### statements -/
def Res.out {α : Type} (r : Res α) (f : α → Out) : Out := match r with
  | .ok a => f a
  | .err c d e => .err c d e
  | .bad => .bad
def Out.then (o : Out) (f : Env → Out) : Out := match o with
  | .nx e => f e
  | o => o
def lkAt (lk : List Bool) (i : Nat) : Bool := lk.getD i false
/-- an owned part, by its path -/
def sub (d : D) : List Nat → Option D
  | [] => some d
  | k :: ks => match d with
    | .tup true ds => (ds[k]?).bind fun x => sub x ks
    | .lst true ds => (ds[k]?).bind fun x => sub x ks
    | .ins true _ ds => (ds[k]?).bind fun x => sub x ks
    | _ => none
def put (d : D) (new : D) : List Nat → D
  | [] => new
  | k :: ks => match d with
    | .tup true ds => match ds[k]? with
      | some x => .tup true (ds.set k (put x new ks))
      | none => d
    | .lst true ds => match ds[k]? with
      | some x => .lst true (ds.set k (put x new ks))
      | none => d
    | .ins true c ds => match ds[k]? with
      | some x => .ins true c (ds.set k (put x new ks))
      | none => d
    | _ => d
/-- the list at a path is changed -/
def chg (e : Env) (i : Nat) (ks : List Nat) (f : List D → Option (List D)) : Out := match look e i with
  | none => .bad
  | some d => match sub d ks with
    | some (.lst true ds) => match f ds with
      | some ds' => .nx (e.set i (some (put d (.lst true ds') ks)))
      | none => .bad
    | _ => .bad
def loopF (bind : D → Env → Option Env) (body : Env → Out) : List D → Env → Out
  | [], e => .nx e
  | x :: xs, e => match bind x e with
    | none => .bad
    | some e1 => match body e1 with
      | .nx e2 => loopF bind body xs e2
      | .cnt e2 => loopF bind body xs e2
      | .brk e2 => .nx e2
      | o => o
section
variable (Φ : Tb) (lk : List Bool)
mutual
def evS : Sx → Env → Out
  | .pass, e => .nx e
  | .expr a, e => (evE Φ a e).out fun x => .nx x.2
  | .set i a, e => if lkAt lk i then .bad else (evE Φ a e).out fun x => .nx (x.2.set i (some x.1))
  | .unpack is a, e => if is.any (lkAt lk) then .bad else (evE Φ a e).out fun x => match x.1 with
    | .tup _ ds => if imms ds then match setAll x.2 is ds with
      | some e2 => .nx e2
      | none => .bad
      else .bad
    | _ => .bad
  | .app i ks a, e => match (look e i).bind fun d => sub d ks with
    | some (.lst true _) => (evE Φ a e).out fun x => chg x.2 i ks fun ds => if okLen ds.length then some (ds ++ [x.1]) else none
    | _ => .bad
  | .clear i ks, e => chg e i ks fun _ => some []
  | .setI i ks x a, e => (evE Φ a e).out fun y => (evE Φ x y.2).out fun k => match k.1 with
    | .int n => chg k.2 i ks fun ds => (place ds.length n).map fun j => ds.set j y.1
    | _ => .bad
  | .augI i ks x o a, e => .bad
  | .setF i f a, e => (evE Φ a e).out fun y => match look y.2 i with
    | some (.ins true c ds) => match (Φ.fl c).idxOf? f with
      | some j => if j < ds.length then .nx (y.2.set i (some (.ins true c (ds.set j y.1)))) else if j = ds.length then .nx (y.2.set i (some (.ins true c (ds ++ [y.1])))) else .bad
      | none => .bad
    | _ => .bad
  | .iff c a b, e => (evT Φ c e).out fun x => if x.1 then evB a x.2 else evB b x.2
  | .for tg it b, e => if tg.any (lkAt lk) then .bad else (evI Φ (fun _ => true) it e).out fun w => loopF (bindT tg) (fun e => evB b e) w.ds w.e
  | .ret a, e => match a with
    | .slot i => match look e i with
      | none => .bad
      | some d => if imm d then .ret d e else if lkAt lk i then .ret (fz d) (e.set i (some (fz d))) else .ret d (e.set i none)
    | _ => (evE Φ a e).out fun x => .ret x.1 x.2
  | .brk, e => .brk e
  | .cnt, e => .cnt e
def evB : Ss → Env → Out
  | .nil, e => .nx e
  | .cons s b, e => (evS s e).then fun e => evB b e
end
end

/-! ### defs -/
structure FD where
  np : Nat
  nl : Nat
  body : Ss
def postOf : List D → Env → Env
  | [], _ => []
  | d :: ds, e => (if imm d then none else e.headD none) :: postOf ds e.tail
def runF (Φ : Tb) (fd : FD) (ds : List D) : RF :=
  if ds.length = fd.np then
    match evB Φ (ds.map fun d => !imm d) fd.body (ds.map some ++ List.replicate (fd.nl - fd.np) none) with
    | .nx e => .ok .non (postOf ds e)
    | .ret d e => .ok d (postOf ds e)
    | .err c d e => .err c d (postOf ds e)
    | _ => .bad
  else .bad
def run (fl : Nat → List Nat) (tbl : Nat → Option FD) : Nat → Nat → List D → RF
  | 0, _, _ => .bad
  | k + 1, f, ds => match tbl f with
    | some fd => runF ⟨run fl tbl k, fl⟩ fd ds
    | none => .bad
end DL

namespace DL
open PySem PySem.Spec PyProof.Rows L2

abbrev AS.or (A B : AS) : AS := fun a => A a ∨ B a
structure Fix (F H : Hp) (S : AS) : Prop where
  fh : Same F H
  dj : ∀ a, S a → F a = none
  dm : ∀ a, S a → H a ≠ none
structure Aft (F H : Hp) (S : AS) (F' H' : Hp) (S' : AS) : Prop where
  ff : Same F F'
  fh : Same F' H'
  fr : ∀ a o, H a = some o → ¬ S a → H' a = some o
  ow : ∀ a, S' a → S a ∨ H a = none
  nw : ∀ a, F a = none → F' a ≠ none → S a ∨ H a = none
  dj : ∀ a, S' a → F' a = none
  dm : ∀ a, S' a → H' a ≠ none
section
variable {F H F1 H1 F2 H2 : Hp} {S S1 S2 T A B A' : AS}
theorem Fix.sub (h : Fix F H S) (k : ∀ a, T a → S a) : Fix F H T := ⟨h.fh, fun a z => h.dj a (k a z), fun a z => h.dm a (k a z)⟩
theorem Fix.join (h : Fix F H S) (k : Fix F H T) : Fix F H (S.or T) := ⟨h.fh, fun a z => z.elim (h.dj a) (k.dj a), fun a z => z.elim (h.dm a) (k.dm a)⟩
theorem Aft.fix (h : Aft F H S F1 H1 S1) : Fix F1 H1 S1 := ⟨h.fh, h.dj, h.dm⟩
theorem Aft.refl (h : Fix F H S) : Aft F H S F H S := ⟨Same.refl _, h.fh, fun _ _ e _ => e, fun _ z => .inl z, fun a n y => absurd n y, h.dj, h.dm⟩
theorem Aft.sub (h : Aft F H S F1 H1 S1) (k : ∀ a, T a → S1 a) : Aft F H S F1 H1 T := ⟨h.ff, h.fh, h.fr, fun a z => h.ow a (k a z), h.nw, fun a z => h.dj a (k a z), fun a z => h.dm a (k a z)⟩
theorem Aft.gone (h : Aft F H S F1 H1 S1) {a : Addr} (n : H1 a = none) : S a ∨ H a = none := by
  by_cases hs : S a
  · exact .inl hs
  · right
    cases e : H a with
    | none => rfl
    | some o => rw [h.fr a o e hs] at n; cases n
theorem Aft.trans (h : Aft F H S F1 H1 S1) (k : Aft F1 H1 S1 F2 H2 S2) : Aft F H S F2 H2 S2 where
  ff := h.ff.trans k.ff
  fh := k.fh
  fr := fun a o e n => k.fr a o (h.fr a o e n) fun z => (h.ow a z).elim n fun w => by rw [e] at w; cases w
  ow := fun a z => (k.ow a z).elim (h.ow a) h.gone
  nw := fun a n y => by
    by_cases e : F1 a = none
    · exact (k.nw a e y).elim (h.ow a) h.gone
    · exact h.nw a n e
  dj := k.dj
  dm := k.dm
structure Framed (F H : Hp) (A : AS) (F1 H1 : Hp) (A1 T : AS) : Prop where
  h : ∀ a, T a → H1 a = H a
  f : ∀ a, T a → F1 a = none
  no : ∀ a, A1 a → T a → False
  aft : Aft F H (A.or T) F1 H1 (A1.or T)
theorem Aft.frame (h : Aft F H A F1 H1 A') (fx : Fix F H T) (no : ∀ a, A a → T a → False) : Framed F H A F1 H1 A' T := by
  have hh : ∀ a, T a → H1 a = H a := fun a z => by
    cases e : H a with
    | none => exact absurd e (fx.dm a z)
    | some o => exact h.fr a o e fun y => no a y z
  have hf : ∀ a, T a → F1 a = none := fun a z => by
    cases e : F1 a with
    | none => rfl
    | some o => exact ((h.nw a (fx.dj a z) (by rw [e]; exact fun q => by cases q)).elim (fun y => no a y z) fun y => fx.dm a z y).elim
  refine ⟨hh, hf, fun a y z => (h.ow a y).elim (fun q => no a q z) (fx.dm a z), ?_⟩
  refine ⟨h.ff, h.fh, fun a o e n => h.fr a o e fun z => n (.inl z), fun a z => z.elim (fun y => (h.ow a y).elim (fun q => .inl (.inl q)) .inr) fun y => .inl (.inr y), fun a n y => (h.nw a n y).elim (fun q => .inl (.inl q)) .inr,
    fun a z => z.elim (h.dj a) (hf a), fun a z => z.elim (h.dm a) fun y => by rw [hh a y]; exact fx.dm a y⟩
end

variable {K : PySem.W.Frag} {cn : CN}
section
variable {F H F' H' : Hp} {S S' A B T : AS} {ρ : Env} {σ : L2.St}
theorem Framed.or {F H F1 H1 : Hp} {A A1 T : AS} {d : D} {v : V} (w : Framed F H A F1 H1 A1 T) (ff : Same F F1) (h : OR K cn F H T d v) : OR K cn F1 H1 T d v := h.move ff w.h w.f
theorem look_cons0 {x : Option D} {ρ : Env} : look (x :: ρ) 0 = x := by unfold look; cases x <;> rfl
theorem look_cons {x : Option D} {ρ : Env} {i : Nat} : look (x :: ρ) (i + 1) = look ρ i := rfl
theorem set_cons {α : Type} {x y : α} {ρ : List α} {i : Nat} : (x :: ρ).set (i + 1) y = x :: ρ.set i y := rfl
/-- a slot is taken out -/
theorem SL.take : ∀ {ρ : Env} {σ : L2.St} {S : AS} {i : Nat} {d : D}, SL K cn F H S ρ σ → look ρ i = some d → ∃ v A B, Apart A B S ∧ σ[i]? = some (some v) ∧ OR K cn F H A d v ∧ SL K cn F H B (ρ.set i none) σ
  | _, _, _, _, _, .nil, e => by simp [look] at e
  | _, _, S, 0, d, .no h, e => by rw [look_cons0] at e; cases e
  | _, _, S, 0, d, .yes a x y, e => by
    rw [look_cons0] at e; cases e
    exact ⟨_, _, _, a, rfl, x, .no y⟩
  | _, _, S, i + 1, d, .no h, e => by
    obtain ⟨v, A, B, a, e1, x, y⟩ := h.take (i := i) e
    exact ⟨v, A, B, a, e1, x, .no y⟩
  | _, _, S, i + 1, d, .yes (A := P) (B := R) a x0 h, e => by
    obtain ⟨v, A, B, b, e1, x, y⟩ := h.take (i := i) e
    refine ⟨v, A, P.or B, ⟨fun c z => a.r c (b.l c z), fun c z => z.elim (a.l c) fun w => a.r c (b.r c w), fun c z w => w.elim (fun q => a.no c q (b.l c z)) (b.no c z)⟩, e1, x, ?_⟩
    exact .yes (.un fun c z w => a.no c z (b.r c w)) x0 y
/-- .. and put -/
theorem SL.give : ∀ {ρ : Env} {σ : L2.St} {A B : AS} {i : Nat} {d : D} {v : V}, SL K cn F H B (ρ.set i none) σ → OR K cn F H A d v → (∀ a, A a → B a → False) → i < ρ.length → SL K cn F H (A.or B) (ρ.set i (some d)) (σ.set i (some v))
  | [], _, _, _, _, _, _, _, _, _, l => absurd l (Nat.not_lt_zero _)
  | x :: ρ, _, A, B, 0, d, v, .no h, o, n, l => .yes (.un n) o h
  | none :: ρ, _, A, B, i + 1, d, v, .no h, o, n, l => .no (h.give o n (Nat.lt_of_succ_lt_succ l))
  | _ :: ρ, _, A, B, i + 1, d, v, .yes (A := P) (B := R) a x0 h, o, n, l => by
    have h2 := h.give (A := A) (i := i) o (fun c z w => n c z (a.r c w)) (Nat.lt_of_succ_lt_succ l)
    exact .yes ⟨fun c z => .inr (a.l c z), fun c z => z.elim .inl fun w => .inr (a.r c w), fun c z w => w.elim (fun q => n c q (a.l c z)) (a.no c z)⟩ x0 h2
/-- .. put where the very value stands -/
theorem SL.back : ∀ {ρ : Env} {σ : L2.St} {A B : AS} {i : Nat} {d : D} {v : V}, SL K cn F H B (ρ.set i none) σ → OR K cn F H A d v → (∀ a, A a → B a → False) → σ[i]? = some (some v) → SL K cn F H (A.or B) (ρ.set i (some d)) σ
  | [], _, _, _, i, _, _, .nil, _, _, l => by cases i <;> cases l
  | x :: ρ, _, A, B, 0, d, v, .no (x := w) h, o, n, l => by
    cases l
    exact .yes (.un n) o h
  | none :: ρ, _, A, B, i + 1, d, v, .no h, o, n, l => .no (h.back o n l)
  | _ :: ρ, _, A, B, i + 1, d, v, .yes (A := P) (B := R) a x0 h, o, n, l => by
    have h2 := h.back (A := A) (i := i) o (fun c z w => n c z (a.r c w)) l
    exact .yes ⟨fun c z => .inr (a.l c z), fun c z => z.elim .inl fun w => .inr (a.r c w), fun c z w => w.elim (fun q => n c q (a.l c z)) (a.no c z)⟩ x0 h2
theorem SL.drop : ∀ {ρ : Env} {σ : L2.St} {S : AS} (i : Nat), SL K cn F H S ρ σ → SL K cn F H S (ρ.set i none) σ
  | _, _, S, i, .nil => .nil
  | _, _, S, 0, .no h => .no h
  | _, _, S, 0, .yes a x y => .no (y.mono a.r)
  | _, _, S, i + 1, .no h => .no (h.drop i)
  | _, _, S, i + 1, .yes a x y => .yes a x (y.drop i)
theorem SL.len : ∀ {ρ : Env} {σ : L2.St} {S : AS}, SL K cn F H S ρ σ → ρ.length = σ.length
  | _, _, _, .nil => rfl
  | _, _, _, .no h => congrArg (· + 1) h.len
  | _, _, _, .yes _ _ h => congrArg (· + 1) h.len
/-- the value in a slot matters where it stands only -/
theorem SL.any : ∀ {ρ : Env} {σ : L2.St} {S : AS} {i : Nat} (x : Option V), SL K cn F H S (ρ.set i none) σ → SL K cn F H S (ρ.set i none) (σ.set i x)
  | [], _, _, i, x, .nil => .nil
  | _ :: _, _, _, 0, x, .no h => .no h
  | _ :: ρ, _, _, i + 1, x, .no h => .no (h.any (i := i) x)
  | _ :: ρ, _, _, i + 1, x, .yes a y h => .yes a y (h.any (i := i) x)
theorem SL.at {i : Nat} {d : D} (h : SL K cn F H S ρ σ) (e : look ρ i = some d) : ∃ v, σ[i]? = some (some v) ∧ OR K cn F H S d v := by
  obtain ⟨v, A, B, a, e1, x, _⟩ := h.take e
  exact ⟨v, e1, x.mono a.l⟩
theorem look_lt {i : Nat} {d : D} (e : look ρ i = some d) : i < ρ.length := by
  unfold look at e
  by_cases h : i < ρ.length
  · exact h
  · rw [List.getElem?_eq_none (by omega)] at e; cases e
/-- a slot is frozen -/
theorem SL.freeze {i : Nat} {d : D} (fx : Fix F H S) (h : SL K cn F H S ρ σ) (e : look ρ i = some d) :
    ∃ v F' B, Aft F H S F' H B ∧ σ[i]? = some (some v) ∧ OR K cn F' H B (fz d) v ∧ SL K cn F' H B (ρ.set i (some (fz d))) σ ∧ ∀ T, OR K cn F' H T (fz d) v := by
  obtain ⟨v, A, B, a, e1, x, y⟩ := h.take e
  have dA : ∀ c, A c → F c = none := fun c z => fx.dj c (a.l c z)
  have fB : ∀ c, B c → Fz F H A c = none := fun c z => by rw [Fz.no fun q => a.no c q z]; exact fx.dj c (a.r c z)
  have x' : ∀ T, OR K cn (Fz F H A) H T (fz d) v := fun T => x.froz dA (fun _ z => z)
  have y' : SL K cn (Fz F H A) H B (ρ.set i none) σ := y.move (Fz.up dA) (fun _ _ => rfl) fB
  refine ⟨v, Fz F H A, B, ⟨Fz.up dA, Fz.le fx.fh, fun _ _ q _ => q, fun c z => .inl (a.r c z), fun c n q => ?_, fB, fun c z => fx.dm c (a.r c z)⟩, e1, x' _, ?_, x'⟩
  · by_cases w : A c
    · exact .inl (a.l c w)
    · rw [Fz.no w] at q; exact absurd n q
  · exact (y'.back (x' (fun _ => False)) (fun _ z => z.elim) e1).mono fun c z => z.elim (fun q => q.elim) fun q => q
end
end DL

namespace DL
open PySem PySem.Spec PyProof.Rows L2

theorem PE.mono {X : Cx} {e : Expr} {t t' : TE} (h : PE X e t) (k : ∀ σ H Q, t' σ H Q → t σ H Q) : PE X e t' := ⟨fun pins s σ H Q I w => h.run pins s σ H Q I (k σ H Q w)⟩
theorem PT.mono {X : Cx} {e : Expr} {t t' : TT} (h : PT X e t) (k : ∀ σ H Q, t' σ H Q → t σ H Q) : PT X e t' := ⟨fun pins s σ H Q I w => h.run pins s σ H Q I (k σ H Q w)⟩
theorem PW.mono {X : Cx} {e : Expr} {t t' : TT} (h : PW X e t) (k : ∀ σ H Q, t' σ H Q → t σ H Q) : PW X e t' := ⟨fun wh pins s σ H Q I w => h.run wh pins s σ H Q I (k σ H Q w)⟩
theorem PS.mono {X : Cx} {e : Stmt} {t t' : TS} (h : PS X e t) (k : ∀ D σ H, t' D σ H → t D σ H) : PS X e t' := ⟨fun pins s σ H Q I w => h.run pins s σ H Q I (k Q σ H w)⟩
theorem PSs.mono {X : Cx} {e : List Stmt} {t t' : TS} (h : PSs X e t) (k : ∀ D σ H, t' D σ H → t D σ H) : PSs X e t' := ⟨fun pins s σ H Q I w => h.run pins s σ H Q I (k Q σ H w)⟩
theorem PA.mono {X : Cx} {e : List Expr} {t t' : TA} (h : PA X e t) (k : ∀ σ H Q, t' σ H Q → t σ H Q) : PA X e t' := ⟨fun pos pins s σ H Q I w => h.run pos pins s σ H Q I (k σ H Q w)⟩

section
variable (K : PySem.W.Frag) (cn : CN)
def OpdR (F H : Hp) (A : AS) (σ : L2.St) (o : Opd) (v : V) : Prop := match o with
  | .val d => OR K cn F H A d v
  | .ref i => σ[i]? = some (some v)
def okO (F H : Hp) (S : AS) (σ : L2.St) (r : Res (Opd × Env)) (Q : VK) : Prop := match r with
  | .ok p => ∀ v F' H' (A B : AS), Aft F H S F' H' (A.or B) → (∀ a, A a → B a → False) → OpdR K cn F' H' A σ p.1 v → SL K cn F' H' B p.2 σ → Q v H'
  | _ => False
def okE (F H : Hp) (S : AS) (σ : L2.St) (r : Res (D × Env)) (Q : VK) : Prop := match r with
  | .ok p => ∀ v F' H' (A B : AS), Aft F H S F' H' (A.or B) → (∀ a, A a → B a → False) → OR K cn F' H' A p.1 v → SL K cn F' H' B p.2 σ → Q v H'
  | _ => False
def okT (F H : Hp) (S : AS) (σ : L2.St) (r : Res (Bool × Env)) (Q : Bool → Hp → Prop) : Prop := match r with
  | .ok p => ∀ F' H' B, Aft F H S F' H' B → SL K cn F' H' B p.2 σ → Q p.1 H'
  | _ => False
def tE (f : Env → Res (D × Env)) : TE := fun σ H Q => ∃ F S ρ, Fix F H S ∧ SL K cn F H S ρ σ ∧ okE K cn F H S σ (f ρ) Q
def tO (f : Env → Res (Opd × Env)) : TE := fun σ H Q => ∃ F S ρ, Fix F H S ∧ SL K cn F H S ρ σ ∧ okO K cn F H S σ (f ρ) Q
def tT (f : Env → Res (Bool × Env)) : TT := fun σ H Q => ∃ F S ρ, Fix F H S ∧ SL K cn F H S ρ σ ∧ okT K cn F H S σ (f ρ) Q

/-- something new beside what there is -/
structure New (F H F' H' : Hp) (S : AS) : Prop where
  ff : Same F F'
  fh : Same F' H'
  hh : Same H H'
  s : ∀ a, S a → H a = none ∧ F' a = none ∧ H' a ≠ none
  nw : ∀ a, F a = none → F' a ≠ none → H a = none
/-- an operation on values, by its data -/
def rB (f : List D → Option D) : List V → Hp → VK → Prop := fun xs H Q => ∃ F S ds, Fix F H S ∧ Paired (fun d v => OR K cn F H S d v) ds xs ∧
  ∃ r, f ds = some r ∧ ∀ v F' H' S', New F H F' H' S' → OR K cn F' H' S' r v → Q v H'
end
def two (f : D → D → Option D) : List D → Option D
  | [a, b] => f a b
  | _ => none
def one (f : D → Option D) : List D → Option D
  | [a] => f a
  | _ => none

variable {K : PySem.W.Frag} {cn : CN}
section
variable {F H F' H' : Hp} {S T A B : AS} {ρ : Env} {σ : L2.St}
theorem New.refl (h : Same F H) : New F H F H (fun _ => False) := ⟨Same.refl _, h, Same.refl _, fun _ z => z.elim, fun _ n y => absurd n y⟩
theorem New.aft (n : New F H F' H' T) (fx : Fix F H S) : Aft F H S F' H' (T.or S) ∧ ∀ a, T a → S a → False := by
  refine ⟨⟨n.ff, n.fh, fun a o e _ => n.hh a o e, fun a z => z.elim (fun y => .inr (n.s a y).1) .inl, fun a x y => .inr (n.nw a x y), fun a z => z.elim (fun y => (n.s a y).2.1) fun y => ?_, fun a z => z.elim (fun y => (n.s a y).2.2) fun y => ?_⟩, fun a y z => fx.dm a z (n.s a y).1⟩
  · cases e : F' a with
    | none => rfl
    | some o => exact absurd (n.nw a (fx.dj a y) (by rw [e]; exact fun q => by cases q)) (fx.dm a y)
  · cases e : H a with
    | none => exact absurd e (fx.dm a y)
    | some o => rw [n.hh a o e]; exact fun q => by cases q
theorem New.move (n : New F H F' H' T) (fx : Fix F H S) : (∀ a, S a → H' a = H a) ∧ ∀ a, S a → F' a = none := by
  refine ⟨fun a z => ?_, fun a z => ?_⟩
  · cases e : H a with
    | none => exact absurd e (fx.dm a z)
    | some o => exact n.hh a o e
  · cases e : F' a with
    | none => rfl
    | some o => exact absurd (n.nw a (fx.dj a z) (by rw [e]; exact fun q => by cases q)) (fx.dm a z)
theorem OpdR.get {o : Opd} {v : V} {d : D} (h : OpdR K cn F H A σ o v) (sl : SL K cn F H B ρ σ) (e : o.get ρ = some d) (l : ∀ a, A a → S a) (r : ∀ a, B a → S a) : OR K cn F H S d v := by
  cases o with
  | val x =>
    cases e
    exact OR.mono h l
  | ref i =>
    obtain ⟨u, e1, x⟩ := sl.at e
    have h' : σ[i]? = some (some v) := h
    rw [h'] at e1
    cases e1
    exact x.mono r
theorem OpdR.keep {F1 H1 : Hp} {A1 : AS} {o : Opd} {v : V} (w : Framed F H S F1 H1 A1 A) (ff : Same F F1) (h : OpdR K cn F H A σ o v) : OpdR K cn F1 H1 A σ o v := by
  cases o with
  | val x => exact Framed.or w ff h
  | ref i => exact h

/-- a then b, on operands -/
theorem okO_bind {α : Type} {r : Res (Opd × Env)} {f : Opd × Env → Res α} {P : Res α → Prop} (hb : P .bad → False) (he : ∀ c d e, P (.err c d e) → False) (h : P (r.bind f)) {Q : VK}
    (k : ∀ p v F' H' (A B : AS), r = .ok p → Aft F H S F' H' (A.or B) → (∀ a, A a → B a → False) → OpdR K cn F' H' A σ p.1 v → SL K cn F' H' B p.2 σ → P (f p) → Q v H') : okO K cn F H S σ r Q := by
  cases r with
  | ok p => exact fun v F' H' A B a n o s => k p v F' H' A B rfl a n o s h
  | err c d e => exact (he c d e h).elim
  | bad => exact (hb h).elim
theorem okE_bind {α : Type} {r : Res (D × Env)} {f : D × Env → Res α} {P : Res α → Prop} (hb : P .bad → False) (he : ∀ c d e, P (.err c d e) → False) (h : P (r.bind f)) {Q : VK}
    (k : ∀ p v F' H' (A B : AS), r = .ok p → Aft F H S F' H' (A.or B) → (∀ a, A a → B a → False) → OR K cn F' H' A p.1 v → SL K cn F' H' B p.2 σ → P (f p) → Q v H') : okE K cn F H S σ r Q := by
  cases r with
  | ok p => exact fun v F' H' A B a n o s => k p v F' H' A B rfl a n o s h
  | err c d e => exact (he c d e h).elim
  | bad => exact (hb h).elim
theorem okT_bind {α : Type} {r : Res (Bool × Env)} {f : Bool × Env → Res α} {P : Res α → Prop} (hb : P .bad → False) (he : ∀ c d e, P (.err c d e) → False) (h : P (r.bind f)) {Q : Bool → Hp → Prop}
    (k : ∀ p F' H' B, r = .ok p → Aft F H S F' H' B → SL K cn F' H' B p.2 σ → P (f p) → Q p.1 H') : okT K cn F H S σ r Q := by
  cases r with
  | ok p => exact fun F' H' B a s => k p F' H' B rfl a s h
  | err c d e => exact (he c d e h).elim
  | bad => exact (hb h).elim
theorem okO_imp {r : Res (Opd × Env)} {Q Q' : VK} (h : okO K cn F H S σ r Q) (k : ∀ v H, Q v H → Q' v H) : okO K cn F H S σ r Q' := by
  cases r with
  | ok p => exact fun v F' H' A B a n o s => k _ _ (h v F' H' A B a n o s)
  | err c d e => exact h
  | bad => exact h
theorem okE_imp {r : Res (D × Env)} {Q Q' : VK} (h : okE K cn F H S σ r Q) (k : ∀ v H, Q v H → Q' v H) : okE K cn F H S σ r Q' := by
  cases r with
  | ok p => exact fun v F' H' A B a n o s => k _ _ (h v F' H' A B a n o s)
  | err c d e => exact h
  | bad => exact h
/-- from a later state -/
theorem okE_from {F1 H1 : Hp} {S1 : AS} {r : Res (D × Env)} {Q : VK} (a : Aft F H S F1 H1 S1) (h : okE K cn F H S σ r Q) : okE K cn F1 H1 S1 σ r Q := by
  cases r with
  | ok p => exact fun v F' H' A B a' n o s => h v F' H' A B (a.trans a') n o s
  | err c d e => exact h
  | bad => exact h
theorem okT_from {F1 H1 : Hp} {S1 : AS} {r : Res (Bool × Env)} {Q : Bool → Hp → Prop} (a : Aft F H S F1 H1 S1) (h : okT K cn F H S σ r Q) : okT K cn F1 H1 S1 σ r Q := by
  cases r with
  | ok p => exact fun F' H' B a' s => h F' H' B (a.trans a') s
  | err c d e => exact h
  | bad => exact h

/-- the end of an operation on operands -/
theorem fin_done {A B : AS} {ds : List D} {xs : List V} {ρ : Env} {Q : VK} {f : List D → Option D} {F0 H0 : Hp} {S0 : AS} (fx : Aft F0 H0 S0 F H (A.or B)) (no : ∀ a, A a → B a → False) (sl : SL K cn F H B ρ σ)
    (vw : Paired (fun d v => OR K cn F H (A.or B) d v) ds xs) (h : okE K cn F0 H0 S0 σ (done ρ (f ds)) Q) : rB K cn f xs H Q := by
  cases e : f ds with
  | none => rw [e] at h; exact h.elim
  | some r =>
    rw [e] at h
    refine ⟨F, A.or B, ds, fx.fix, vw, r, e, fun v F' H' S' n o => ?_⟩
    obtain ⟨a1, n1⟩ := n.aft fx.fix
    obtain ⟨m1, m2⟩ := n.move fx.fix
    refine h v F' H' S' B (fx.trans (a1.sub fun a z => z.elim .inl fun y => .inr (.inr y))) (fun a y z => n1 a y (.inr z)) o ?_
    exact sl.move n.ff (fun a z => m1 a (.inr z)) fun a z => m2 a (.inr z)
end
end DL

namespace DL
open PySem PySem.Spec PyProof.Rows L2

section
variable (cn : CN) (Φ : Tb)
def PEx (X : Cx) (x : Expr) (e : Ex) : Prop := PE X x (tE X.K cn (evE Φ e))
def POx (X : Cx) (x : Expr) (e : Ex) : Prop := PE X x (tO X.K cn fun ρ => opd e ρ (evE Φ e ρ))
def PTx (X : Cx) (x : Expr) (t : Tx) : Prop := PT X x (tT X.K cn (evT Φ t))
end
variable {cn : CN} {Φ : Tb} {X : Cx}
def Ex.isSlot : Ex → Bool
  | .slot _ => true
  | _ => false
theorem opd_of {e : Ex} (h : e.isSlot = false) (ρ : Env) (r : Res (D × Env)) : opd e ρ r = r.bind fun p => .ok (.val p.1, p.2) := by
  cases e <;> first | rfl | cases h
theorem pox_of {x : Expr} {e : Ex} (hs : e.isSlot = false) (h : PEx cn Φ X x e) : POx cn Φ X x e := by
  refine PE.mono h fun σ H Q ⟨F, S, ρ, fx, sl, w⟩ => ⟨F, S, ρ, fx, sl, ?_⟩
  replace w : okO X.K cn F H S σ (opd e ρ (evE Φ e ρ)) Q := w
  rw [opd_of hs] at w
  cases q : evE Φ e ρ with
  | ok p => rw [q] at w; exact fun v F' H' A B a n o s => w v F' H' A B a n o s
  | err c d e => rw [q] at w; exact w
  | bad => rw [q] at w; exact w
theorem pox_slot {i : Nat} {x : Str} {pos : Pos} (hN : X.N[i]? = some x) (hv : Vis X.env.scope x) (hd : (x == ("__debug__" : Str)) = false) (hcd : (x == ("__classdict__" : Str)) = false) : POx cn Φ X (.Name x pos) (.slot i) := by
  refine PE.mono (pe_var hN hv hd hcd) fun σ H Q ⟨F, S, ρ, fx, sl, w⟩ => ?_
  unfold opd at w
  cases q : look ρ i with
  | none => simp only [q] at w; exact w.elim
  | some d =>
    simp only [q] at w
    obtain ⟨v, e1, _⟩ := sl.at q
    exact ⟨v, e1, w v F H (fun _ => False) S (Aft.sub (Aft.refl fx) fun a z => z.elim (fun y => y.elim) fun y => y) (fun _ z => z.elim) e1 sl⟩
theorem pex_slot {i : Nat} {x : Str} {pos : Pos} (hN : X.N[i]? = some x) (hv : Vis X.env.scope x) (hd : (x == ("__debug__" : Str)) = false) (hcd : (x == ("__classdict__" : Str)) = false) : PEx cn Φ X (.Name x pos) (.slot i) := by
  refine PE.mono (pe_var hN hv hd hcd) fun σ H Q ⟨F, S, ρ, fx, sl, w⟩ => ?_
  rw [evE] at w
  cases q : look ρ i with
  | none => simp only [q] at w; exact w.elim
  | some d =>
    simp only [q] at w
    by_cases hi : imm d = true
    · rw [if_pos hi] at w
      obtain ⟨v, e1, o⟩ := sl.at q
      exact ⟨v, e1, w v F H (fun _ => False) S (Aft.sub (Aft.refl fx) fun a z => z.elim (fun y => y.elim) fun y => y) (fun _ z => z.elim) (o.free hi) sl⟩
    · rw [if_neg hi] at w
      obtain ⟨v, F', B, a, e1, _, s, o⟩ := sl.freeze fx q
      exact ⟨v, e1, w v F' H (fun _ => False) B (a.sub fun c z => z.elim (fun y => y.elim) fun y => y) (fun _ z => z.elim) (o _) s⟩
/-- a value that stands for itself -/
theorem pex_lit {x : Expr} {d : D} {v : V} (h : PE X x (tC v)) (o : ∀ F H S, OR X.K cn F H S d v) : PEx cn Φ X x (.lit d) := by
  refine PE.mono h fun σ H Q ⟨F, S, ρ, fx, sl, w⟩ => ?_
  exact w v F H (fun _ => False) S (Aft.sub (Aft.refl fx) fun a z => z.elim (fun y => y.elim) fun y => y) (fun _ z => z.elim) (o _ _ _) sl

section
variable {K : PySem.W.Frag} {F H : Hp} {S : AS} {ρ : Env} {σ : L2.St} {Q : VK}
theorem one_mono {ra : Env → Res (Opd × Env)} {G : Opd → Env → Res (D × Env)} {R : V → Hp → Prop} (fx : Fix F H S) (sl : SL K cn F H S ρ σ) (h : okE K cn F H S σ ((ra ρ).bind fun x => G x.1 x.2) Q)
    (k : ∀ x F' H' A B ρ' o1, Aft F H S F' H' (A.or B) → (∀ a, A a → B a → False) → OpdR K cn F' H' A σ o1 x → SL K cn F' H' B ρ' σ → okE K cn F H S σ (G o1 ρ') Q → R x H') : tO K cn ra σ H R :=
  ⟨F, S, ρ, fx, sl, okO_bind (P := fun r => okE K cn F H S σ r Q) (fun z => z) (fun _ _ _ z => z) h fun p v F' H' A B _ a n o s w => k v F' H' A B p.2 p.1 a n o s w⟩
theorem bin_mono {ra rb : Env → Res (Opd × Env)} {G : Opd → Opd → Env → Res (D × Env)} {R : V → V → Hp → Prop} (fx : Fix F H S) (sl : SL K cn F H S ρ σ)
    (h : okE K cn F H S σ ((ra ρ).bind fun x => (rb x.2).bind fun y => G x.1 y.1 y.2) Q)
    (k : ∀ x y F' H' A B ρ' o1 o2, Aft F H S F' H' (A.or B) → (∀ a, A a → B a → False) → OpdR K cn F' H' A σ o1 x → OpdR K cn F' H' A σ o2 y → SL K cn F' H' B ρ' σ → okE K cn F H S σ (G o1 o2 ρ') Q → R x y H') :
    tO K cn ra σ H (fun x H1 => tO K cn rb σ H1 (fun y H2 => R x y H2)) := by
  refine ⟨F, S, ρ, fx, sl, okO_bind (P := fun r => okE K cn F H S σ r Q) (fun z => z) (fun _ _ _ z => z) h fun p x F1 H1 A1 B1 _ a1 n1 o1 s1 w => ?_⟩
  refine ⟨F1, B1, p.2, a1.fix.sub fun _ => .inr, s1, okO_bind (P := fun r => okE K cn F H S σ r Q) (fun z => z) (fun _ _ _ z => z) w fun q y F2 H2 A2 B2 _ a2 n2 o2 s2 w2 => ?_⟩
  have fr := a2.frame (a1.fix.sub (T := A1) fun _ => .inl) fun a y z => n1 a z y
  have al : Aft F H S F2 H2 ((A2.or B2).or A1) := a1.trans (Aft.trans (Aft.sub (Aft.refl a1.fix) fun c z => z.elim .inr .inl) fr.aft)
  refine k x y F2 H2 (A1.or A2) B2 q.2 p.1 q.1 (al.sub fun c z => z.elim (fun y => y.elim .inr fun y => .inl (.inl y)) fun y => .inl (.inr y)) (fun c z y => z.elim (fun w => fr.no c (.inr y) w) fun w => n2 c w y) ?_ ?_ s2 w2
  · have := o1.keep fr a2.ff
    cases e : p.1 with
    | val d => rw [e] at this; exact OR.mono this fun _ => .inl
    | ref i => rw [e] at this; exact this
  · cases e : q.1 with
    | val d => rw [e] at o2; exact OR.mono o2 fun _ => .inr
    | ref i => rw [e] at o2; exact o2
end

theorem pex_op2 {o : B2} {op : Operator} {a b : Expr} {ea eb : Ex} {pos : Pos} (ho : OpR X (binaryOp op) (fun x y => rB X.K cn (two (run2 o)) [x, y])) (ha : POx cn Φ X a ea) (hb : POx cn Φ X b eb) : PEx cn Φ X (.BinOp a op b pos) (.op2 o ea eb) := by
  refine PE.mono (pe_op ho ha hb) fun σ H Q ⟨F, S, ρ, fx, sl, w⟩ => ?_
  rw [evE] at w
  refine bin_mono (G := fun x y e => match x.get e, y.get e with | some d1, some d2 => done e (run2 o d1 d2) | _, _ => .bad) fx sl w fun x y F' H' A B ρ' o1 o2 a n r1 r2 s q => ?_
  cases e1 : o1.get ρ' with
  | none => simp only [e1] at q; exact q.elim
  | some d1 =>
    cases e2 : o2.get ρ' with
    | none => simp only [e1, e2] at q; exact q.elim
    | some d2 =>
      simp only [e1, e2] at q
      exact fin_done (f := two (run2 o)) (ds := [d1, d2]) a n s (.cons (r1.get s e1 (fun _ => .inl) fun _ => .inr) (.cons (r2.get s e2 (fun _ => .inl) fun _ => .inr) .nil)) q
theorem pex_cmp {o : B2} {op : CmpOp} {a b : Expr} {ea eb : Ex} {pos : Pos} (ho : OpR X (compareOp op) (fun x y => rB X.K cn (two (run2 o)) [x, y])) (ha : POx cn Φ X a ea) (hb : POx cn Φ X b eb) (hm : behindInMarks op b = false) : PEx cn Φ X (.Compare a [op] [b] pos) (.op2 o ea eb) := by
  refine PE.mono (pe_cmpR ho ha hb hm) fun σ H Q ⟨F, S, ρ, fx, sl, w⟩ => ?_
  rw [evE] at w
  refine bin_mono (G := fun x y e => match x.get e, y.get e with | some d1, some d2 => done e (run2 o d1 d2) | _, _ => .bad) fx sl w fun x y F' H' A B ρ' o1 o2 a n r1 r2 s q => ?_
  cases e1 : o1.get ρ' with
  | none => simp only [e1] at q; exact q.elim
  | some d1 =>
    cases e2 : o2.get ρ' with
    | none => simp only [e1, e2] at q; exact q.elim
    | some d2 =>
      simp only [e1, e2] at q
      exact fin_done (f := two (run2 o)) (ds := [d1, d2]) a n s (.cons (r1.get s e1 (fun _ => .inl) fun _ => .inr) (.cons (r2.get s e2 (fun _ => .inl) fun _ => .inr) .nil)) q
theorem pex_op1 {o : B1} {op : UnaryOp} {a : Expr} {ea : Ex} {pos : Pos} (ho : UnR X (unaryOp op) (fun x => rB X.K cn (one (run1 o)) [x])) (ha : POx cn Φ X a ea) : PEx cn Φ X (.UnaryOp op a pos) (.op1 o ea) := by
  refine PE.mono (pe_un ho ha) fun σ H Q ⟨F, S, ρ, fx, sl, w⟩ => ?_
  rw [evE] at w
  refine one_mono (G := fun x e => match x.get e with | some d => done e (run1 o d) | none => .bad) fx sl w fun x F' H' A B ρ' o1 a n r1 s q => ?_
  cases e1 : o1.get ρ' with
  | none => simp only [e1] at q; exact q.elim
  | some d1 =>
    simp only [e1] at q
    exact fin_done (f := one (run1 o)) (ds := [d1]) a n s (.cons (r1.get s e1 (fun _ => .inl) fun _ => .inr) .nil) q
theorem OR.bl_inv {K : PySem.W.Frag} {F H : Hp} {S : AS} {b : Bool} {v : V} (h : OR K cn F H S (.bl b) v) : v = .bl b := by cases h; rfl
/-- not, of a bool -/
theorem pex_not {a : Expr} {ea : Ex} {pos : Pos} (ha : POx cn Φ X a ea) : PEx cn Φ X (.UnaryOp .Not a pos) (.op1 .notv ea) := by
  refine PE.mono (pe_not ha) fun σ H Q ⟨F, S, ρ, fx, sl, w⟩ => ?_
  rw [evE] at w
  refine one_mono (G := fun x e => match x.get e with | some d => done e (run1 .notv d) | none => .bad) fx sl w fun x F' H' A B ρ' o1 a n r1 s q => ?_
  cases e1 : o1.get ρ' with
  | none => simp only [e1] at q; exact q.elim
  | some d1 =>
    simp only [e1] at q
    have r := r1.get s e1 (S := A.or B) (fun _ => .inl) fun _ => .inr
    cases d1 with
    | bl b =>
      cases r
      exact ⟨b, rfl, q (.bl (!b)) F' H' (fun _ => False) B (a.sub fun c z => z.elim (fun y => y.elim) .inr) (fun _ z => z.elim) (.bl _) s⟩
    | _ => exact (show False from q).elim
theorem pex_and {a b : Expr} {rest : List Expr} {ea eb : Ex} {pos : Pos} (ha : PEx cn Φ X a ea) (hb : PEx cn Φ X (.BoolOp .And (b :: rest) pos) eb) : PEx cn Φ X (.BoolOp .And (a :: b :: rest) pos) (.and ea eb) := by
  refine PE.mono (pe_and ha hb) fun σ H Q ⟨F, S, ρ, fx, sl, w⟩ => ?_
  rw [evE] at w
  refine ⟨F, S, ρ, fx, sl, okE_bind (P := fun r => okE X.K cn F H S σ r Q) (fun z => z) (fun _ _ _ z => z) w fun p v F' H' A B _ a n o s q => ?_⟩
  obtain ⟨d, ρ'⟩ := p
  cases d with
  | bl b =>
    cases o
    refine ⟨b, rfl, ?_⟩
    cases b with
    | true => exact iteT ⟨F', B, ρ', a.fix.sub fun _ => .inr, s, okE_from (a.sub fun _ => .inr) q⟩
    | false => exact iteF (q (.bl false) F' H' (fun _ => False) B (a.sub fun c z => z.elim (fun y => y.elim) .inr) (fun _ z => z.elim) (.bl _) s)
  | _ => exact (show False from q).elim
theorem pex_or {a b : Expr} {rest : List Expr} {ea eb : Ex} {pos : Pos} (ha : PEx cn Φ X a ea) (hb : PEx cn Φ X (.BoolOp .Or (b :: rest) pos) eb) : PEx cn Φ X (.BoolOp .Or (a :: b :: rest) pos) (.or ea eb) := by
  refine PE.mono (pe_or ha hb) fun σ H Q ⟨F, S, ρ, fx, sl, w⟩ => ?_
  rw [evE] at w
  refine ⟨F, S, ρ, fx, sl, okE_bind (P := fun r => okE X.K cn F H S σ r Q) (fun z => z) (fun _ _ _ z => z) w fun p v F' H' A B _ a n o s q => ?_⟩
  obtain ⟨d, ρ'⟩ := p
  cases d with
  | bl b =>
    cases o
    refine ⟨b, rfl, ?_⟩
    cases b with
    | false => exact iteF ⟨F', B, ρ', a.fix.sub fun _ => .inr, s, okE_from (a.sub fun _ => .inr) q⟩
    | true => exact iteT (q (.bl true) F' H' (fun _ => False) B (a.sub fun c z => z.elim (fun y => y.elim) .inr) (fun _ z => z.elim) (.bl _) s)
  | _ => exact (show False from q).elim
theorem pex_one {a : Expr} {op : BoolOp} {ea : Ex} {pos : Pos} (ha : PEx cn Φ X a ea) : PEx cn Φ X (.BoolOp op [a] pos) ea := pe_one ha
theorem pex_ife {c a b : Expr} {tc : Tx} {ea eb : Ex} {pos : Pos} (hc : PTx cn Φ X c tc) (ha : PEx cn Φ X a ea) (hb : PEx cn Φ X b eb) : PEx cn Φ X (.IfExp c a b pos) (.ife tc ea eb) := by
  refine PE.mono (pe_ifExp hc ha hb) fun σ H Q ⟨F, S, ρ, fx, sl, w⟩ => ?_
  rw [evE] at w
  refine ⟨F, S, ρ, fx, sl, okT_bind (P := fun r => okE X.K cn F H S σ r Q) (Q := fun c H1 => if c = true then tE X.K cn (evE Φ ea) σ H1 Q else tE X.K cn (evE Φ eb) σ H1 Q) (fun z => z) (fun _ _ _ z => z) w fun p F' H' B _ a s q => ?_⟩
  obtain ⟨b, ρ'⟩ := p
  cases b with
  | true => exact iteT ⟨F', B, ρ', a.fix, s, okE_from a q⟩
  | false => exact iteF ⟨F', B, ρ', a.fix, s, okE_from a q⟩

/-! ### tests -/
theorem ptx_and1 {a : Expr} {t : Tx} {pos : Pos} (ha : PTx cn Φ X a t) : PW X (.BoolOp .And [a] pos) (tT X.K cn (evT Φ t)) := pw_and1 ha
theorem ptx_or1 {a : Expr} {t : Tx} {pos : Pos} (ha : PTx cn Φ X a t) : PW X (.BoolOp .Or [a] pos) (tT X.K cn (evT Φ t)) := pw_or1 ha
theorem ptx_and {a b : Expr} {rest : List Expr} {ta tb : Tx} {pos : Pos} (ha : PTx cn Φ X a ta) (hb : PW X (.BoolOp .And (b :: rest) pos) (tT X.K cn (evT Φ tb))) : PW X (.BoolOp .And (a :: b :: rest) pos) (tT X.K cn (evT Φ (.and ta tb))) := by
  refine PW.mono (pw_and ha hb) fun σ H Q ⟨F, S, ρ, fx, sl, w⟩ => ?_
  rw [evT] at w
  refine ⟨F, S, ρ, fx, sl, okT_bind (P := fun r => okT X.K cn F H S σ r Q) (Q := fun c H1 => if c = true then tT X.K cn (evT Φ tb) σ H1 Q else Q false H1) (fun z => z) (fun _ _ _ z => z) w fun p F' H' B _ a s q => ?_⟩
  obtain ⟨b, ρ'⟩ := p
  cases b with
  | true => exact iteT ⟨F', B, ρ', a.fix, s, okT_from a q⟩
  | false => exact iteF (q F' H' B a s)
theorem ptx_or {a b : Expr} {rest : List Expr} {ta tb : Tx} {pos : Pos} (ha : PTx cn Φ X a ta) (hb : PW X (.BoolOp .Or (b :: rest) pos) (tT X.K cn (evT Φ tb))) : PW X (.BoolOp .Or (a :: b :: rest) pos) (tT X.K cn (evT Φ (.or ta tb))) := by
  refine PW.mono (pw_or ha hb) fun σ H Q ⟨F, S, ρ, fx, sl, w⟩ => ?_
  rw [evT] at w
  refine ⟨F, S, ρ, fx, sl, okT_bind (P := fun r => okT X.K cn F H S σ r Q) (Q := fun c H1 => if c = true then Q true H1 else tT X.K cn (evT Φ tb) σ H1 Q) (fun z => z) (fun _ _ _ z => z) w fun p F' H' B _ a s q => ?_⟩
  obtain ⟨b, ρ'⟩ := p
  cases b with
  | false => exact iteF ⟨F', B, ρ', a.fix, s, okT_from a q⟩
  | true => exact iteT (q F' H' B a s)
theorem ptx_not {a : Expr} {t : Tx} {pos : Pos} (ha : PTx cn Φ X a t) : PTx cn Φ X (.UnaryOp .Not a pos) (.not t) := by
  refine PT.mono (pt_not ha) fun σ H Q ⟨F, S, ρ, fx, sl, w⟩ => ?_
  rw [evT] at w
  refine ⟨F, S, ρ, fx, sl, okT_bind (P := fun r => okT X.K cn F H S σ r Q) (Q := fun c H1 => Q (!c) H1) (fun z => z) (fun _ _ _ z => z) w fun p F' H' B _ a s q => ?_⟩
  exact q F' H' B a s
/-- truth by the data -/
theorem truth_ok {K : PySem.W.Frag} {F H : Hp} {S : AS} {d : D} {v : V} {b : Bool} (fx : Fix F H S) (o : OR K cn F H S d v) (h : truth d = some b) : TruV K v H b := by
  have isE : ∀ {ds : List D} {vs : List V} {T : AS}, ORs K cn F H T ds vs → ds.isEmpty = vs.isEmpty := by
    intro ds vs T r
    cases r <;> rfl
  cases o with
  | non => cases h; rfl
  | bl c => cases h; rfl
  | int i => cases h; rfl
  | str x =>
    rw [truth] at h
    split at h
    · rename_i hl
      cases h
      have hz : x.length ≤ sizeLine := by rw [sizeLine_eq]; exact Nat.le_of_lt (of_decide_eq_true hl)
      refine ⟨by show x.toArray.size ≤ _; simpa using hz, ?_⟩
      show (!x.isEmpty) = (((⟨x.toArray⟩ : Str).length : Int) != 0)
      have e : (⟨x.toArray⟩ : Str).length = x.length := by show x.toArray.size = _; simp
      rw [e]
      cases x with
      | nil => rfl
      | cons c r => simp only [List.isEmpty_cons, Bool.not_false, List.length_cons]; symm; rw [bne_iff_ne]; omega
    · cases h
  | scr q => cases h
  | tupF q r => cases h; exact .inr (.inl ⟨_, Same.seqT fx.fh q, by rw [isE r]⟩)
  | tupO q f e n l r => cases h; exact .inr (.inl ⟨_, SqT.of e, by rw [isE r]⟩)
  | lstF q r => cases h; exact .inl ⟨_, .inl (Same.rd fx.fh q), by rw [isE r]⟩
  | lstO q f e n l r => cases h; exact .inl ⟨_, SqL.of e, by rw [isE r]⟩
  | insF c q m r => cases h
  | insO c q f e m n l r => cases h
theorem truth_mono {K : PySem.W.Frag} {F H : Hp} {S : AS} {ρ : Env} {σ : L2.St} {ea : Ex} {Q : Bool → Hp → Prop} (fx : Fix F H S) (sl : SL K cn F H S ρ σ)
    (w : okT K cn F H S σ (evT Φ (.val ea) ρ) Q) : tO K cn (fun ρ => opd ea ρ (evE Φ ea ρ)) σ H (fun x H' => ∃ k, TruV K x H' k ∧ Q k H') := by
  rw [evT] at w
  refine ⟨F, S, ρ, fx, sl, okO_bind (P := fun r => okT K cn F H S σ r Q) (fun z => z) (fun _ _ _ z => z) w fun p v F' H' A B _ a n o s q => ?_⟩
  cases e1 : p.1.get p.2 with
  | none => simp only [e1] at q; exact q.elim
  | some d =>
    simp only [e1, Option.bind_some] at q
    cases e2 : truth d with
    | none => simp only [e2] at q; exact q.elim
    | some b =>
      simp only [e2] at q
      exact ⟨b, truth_ok a.fix (o.get s e1 (fun _ => .inl) fun _ => .inr) e2, q F' H' B (a.sub fun _ => .inr) s⟩
/-- a test that is its value's truth -/
theorem ptx_val {a : Expr} {ea : Ex} (ha : POx cn Φ X a ea) (he : ∀ whole, isTrue a X.env whole = (do let v ← whole; standAt a.pos; holding [v] (truthy v))) : PTx cn Φ X a (.val ea) :=
  PT.mono (pt_truth ha he) fun σ H Q ⟨F, S, ρ, fx, sl, w⟩ => truth_mono fx sl w
/-- a single comparison as a test -/
theorem ptx_cmp {o : B2} {op : CmpOp} {a b : Expr} {ea eb : Ex} {pos : Pos} (ho : OpR X (compareOp op) (fun x y => rB X.K cn (two (run2 o)) [x, y])) (hr : ∀ a b r, run2 o a b = some r → ∃ k, r = .bl k) (ha : POx cn Φ X a ea) (hb : POx cn Φ X b eb) (hm : behindInMarks op b = false) :
    PTx cn Φ X (.Compare a [op] [b] pos) (.val (.op2 o ea eb)) := by
  refine PT.mono (pt_cmpR ho ha hb hm) fun σ H Q ⟨F, S, ρ, fx, sl, w⟩ => ?_
  rw [evT] at w
  have w' : okE X.K cn F H S σ (evE Φ (.op2 o ea eb) ρ) (fun x H' => ∃ k, x = .bl k ∧ Q k H') := by
    rw [opd_of rfl] at w
    cases q : evE Φ (.op2 o ea eb) ρ with
    | ok p =>
      rw [q] at w
      obtain ⟨d, ρ'⟩ := p
      intro v F' H' A B a n o1 s
      have isb : ∃ k, d = .bl k := by
        rw [evE] at q
        cases q1 : opd ea ρ (evE Φ ea ρ) with
        | ok x =>
          rw [q1] at q
          simp only [Res.bind] at q
          cases q2 : opd eb x.2 (evE Φ eb x.2) with
          | ok y =>
            rw [q2] at q
            simp only [Res.bind] at q
            cases e1 : x.1.get y.2 with
            | none => simp only [e1] at q; cases q
            | some d1 =>
              cases e2 : y.1.get y.2 with
              | none => simp only [e1, e2] at q; cases q
              | some d2 =>
                simp only [e1, e2] at q
                cases e3 : run2 o d1 d2 with
                | none => simp only [e3, done] at q; cases q
                | some r =>
                  simp only [e3, done] at q
                  obtain ⟨k, e⟩ := hr _ _ _ e3
                  injection q with q
                  injection q with q _
                  exact ⟨k, by rw [← q, e]⟩
          | err c d e => rw [q2] at q; cases q
          | bad => rw [q2] at q; cases q
        | err c d e => rw [q1] at q; cases q
        | bad => rw [q1] at q; cases q
      obtain ⟨k, rfl⟩ := isb
      cases o1
      exact ⟨k, rfl, w F' H' B (a.sub fun _ => .inr) s⟩
    | err c d e => rw [q] at w; exact w
    | bad => rw [q] at w; exact w
  have w3 := w'
  rw [evE] at w3
  refine bin_mono (G := fun x y e => match x.get e, y.get e with | some d1, some d2 => done e (run2 o d1 d2) | _, _ => .bad) fx sl w3 fun x y F' H' A B ρ' o1 o2 a n r1 r2 s q => ?_
  cases e1 : o1.get ρ' with
  | none => simp only [e1] at q; exact q.elim
  | some d1 =>
    cases e2 : o2.get ρ' with
    | none => simp only [e1, e2] at q; exact q.elim
    | some d2 =>
      simp only [e1, e2] at q
      exact fin_done (f := two (run2 o)) (ds := [d1, d2]) a n s (.cons (r1.get s e1 (fun _ => .inl) fun _ => .inr) (.cons (r2.get s e2 (fun _ => .inl) fun _ => .inr) .nil)) q
end DL

namespace DL
open PySem PySem.Spec PyProof.Rows L2

/-! ### argument lists -/
def notStar : Expr → Bool
  | .Starred _ _ => false
  | _ => true
theorem star_cons {e : Expr} {es : List Expr} {env : PySem.Env} (h : notStar e = true) : starEach (e :: es) env = (false, eval e env) :: starEach es env := by
  cases e <;> first | rfl | cases h
theorem star_any {pos : Pos} {env : PySem.Env} : ∀ {es : List Expr}, es.all notStar = true → (backTo pos (starEach es env)).any (·.1) = false
  | [], _ => rfl
  | e :: es, h => by
    rw [List.all_cons, Bool.and_eq_true] at h
    rw [star_cons h.1]
    have ih := star_any (pos := pos) (env := env) h.2
    show (false || (backTo pos (starEach es env)).any (·.1)) = false
    rw [ih]; rfl

section
variable (K : PySem.W.Frag) (cn : CN)
inductive OpdsR (F H : Hp) (σ : L2.St) : AS → List Opd → List V → Prop
  | nil {S} : OpdsR F H σ S [] []
  | cons {S A B : AS} {o v os vs} : Apart A B S → OpdR K cn F H A σ o v → OpdsR F H σ B os vs → OpdsR F H σ S (o :: os) (v :: vs)
def okD (F H : Hp) (S : AS) (σ : L2.St) (r : Res (List D × Env)) (Q : List V → Hp → Prop) : Prop := match r with
  | .ok p => ∀ vs F' H' (A B : AS), Aft F H S F' H' (A.or B) → (∀ a, A a → B a → False) → ORs K cn F' H' A p.1 vs → SL K cn F' H' B p.2 σ → Q vs H'
  | _ => False
def okOs (F H : Hp) (S : AS) (σ : L2.St) (r : Res (List Opd × Env)) (Q : List V → Hp → Prop) : Prop := match r with
  | .ok p => ∀ vs F' H' (A B : AS), Aft F H S F' H' (A.or B) → (∀ a, A a → B a → False) → OpdsR K cn F' H' σ A p.1 vs → SL K cn F' H' B p.2 σ → Q vs H'
  | _ => False
def tD (f : Env → Res (List D × Env)) : TA := fun σ H Q => ∃ F S ρ, Fix F H S ∧ SL K cn F H S ρ σ ∧ okD K cn F H S σ (f ρ) Q
def tOs (f : Env → Res (List Opd × Env)) : TA := fun σ H Q => ∃ F S ρ, Fix F H S ∧ SL K cn F H S ρ σ ∧ okOs K cn F H S σ (f ρ) Q
end
variable {cn : CN} {Φ : Tb} {X : Cx}
section
variable {K : PySem.W.Frag} {F H F' H' : Hp} {S T A B : AS} {ρ : Env} {σ : L2.St}
theorem OpdsR.mono {os : List Opd} {vs : List V} (h : OpdsR K cn F H σ A os vs) (k : ∀ a, A a → B a) : OpdsR K cn F H σ B os vs := by
  cases h with
  | nil => exact .nil
  | cons a x y => exact .cons (a.mono k) x y
theorem OpdR.mono {o : Opd} {v : V} (h : OpdR K cn F H A σ o v) (k : ∀ a, A a → B a) : OpdR K cn F H B σ o v := by
  cases o with
  | val d => exact OR.mono h k
  | ref i => exact h
theorem OpdsR.get : ∀ {os : List Opd} {vs : List V} {ds : List D} {A : AS}, OpdsR K cn F H σ A os vs → SL K cn F H B ρ σ → gets ρ os = some ds → (∀ a, A a → S a) → (∀ a, B a → S a) → Paired (fun d v => OR K cn F H S d v) ds vs
  | _, _, _, _, .nil, _, e, _, _ => by cases e; exact .nil
  | _, _, _, _, .cons (o := o) (os := os) a x y, sl, e, l, r => by
    rw [gets] at e
    cases e1 : o.get ρ with
    | none => simp only [e1] at e; cases e
    | some d =>
      cases e2 : gets ρ os with
      | none => simp only [e1, e2] at e; cases e
      | some ds =>
        simp only [e1, e2] at e
        cases e
        exact .cons (x.get sl e1 (fun c z => l c (a.l c z)) r) (y.get sl e2 (fun c z => l c (a.r c z)) r)
end
def PDx (cn : CN) (Φ : Tb) (X : Cx) (xs : List Expr) (es : Exs) : Prop := PA X xs (tD X.K cn (evD Φ es))
def POsx (cn : CN) (Φ : Tb) (X : Cx) (xs : List Expr) (es : Exs) : Prop := PA X xs (tOs X.K cn (evO Φ es))
theorem pdx_nil : PDx cn Φ X [] .nil := PA.mono pa_nil fun σ H Q ⟨F, S, ρ, fx, sl, w⟩ => by
  rw [evD] at w
  exact w [] F H (fun _ => False) S (Aft.sub (Aft.refl fx) fun a z => z.elim (fun y => y.elim) fun y => y) (fun _ z => z.elim) .nil sl
theorem posx_nil : POsx cn Φ X [] .nil := PA.mono pa_nil fun σ H Q ⟨F, S, ρ, fx, sl, w⟩ => by
  rw [evO] at w
  exact w [] F H (fun _ => False) S (Aft.sub (Aft.refl fx) fun a z => z.elim (fun y => y.elim) fun y => y) (fun _ z => z.elim) .nil sl
theorem pdx_cons {e : Expr} {es : List Expr} {ea : Ex} {eas : Exs} (hs : notStar e = true) (ha : PEx cn Φ X e ea) (hb : PDx cn Φ X es eas) : PDx cn Φ X (e :: es) (.cons ea eas) := by
  refine PA.mono (pa_cons ha hb (star_cons hs)) fun σ H Q ⟨F, S, ρ, fx, sl, w⟩ => ?_
  rw [evD] at w
  refine ⟨F, S, ρ, fx, sl, okE_bind (P := fun r => okD X.K cn F H S σ r Q) (fun z => z) (fun _ _ _ z => z) w fun p v F1 H1 A1 B1 _ a1 n1 o1 s1 q => ?_⟩
  refine ⟨F1, B1, p.2, a1.fix.sub fun _ => .inr, s1, ?_⟩
  cases e : evD Φ eas p.2 with
  | err c d e' => rw [e] at q; exact q.elim
  | bad => rw [e] at q; exact q.elim
  | ok r =>
    rw [e] at q
    intro vs F2 H2 A2 B2 a2 n2 o2 s2
    have fr := a2.frame (a1.fix.sub (T := A1) fun _ => .inl) fun a y z => n1 a z y
    have al : Aft F H S F2 H2 ((A2.or B2).or A1) := a1.trans (Aft.trans (Aft.sub (Aft.refl a1.fix) fun c z => z.elim .inr .inl) fr.aft)
    refine q (v :: vs) F2 H2 (A1.or A2) B2 (al.sub fun c z => z.elim (fun y => y.elim .inr fun y => .inl (.inl y)) fun y => .inl (.inr y)) (fun c z y => z.elim (fun w => fr.no c (.inr y) w) fun w => n2 c w y) ?_ s2
    exact .cons (.un fun c z y => fr.no c (.inl y) z) (fr.or a2.ff o1) o2
theorem os_nil {K : PySem.W.Frag} {σ : L2.St} {H : Hp} {Q : List V → Hp → Prop} (h : tOs K cn (evO Φ .nil) σ H Q) : Q [] H := by
  obtain ⟨F, S, ρ, fx, sl, w⟩ := h
  rw [evO] at w
  exact w [] F H (fun _ => False) S (Aft.sub (Aft.refl fx) fun a z => z.elim (fun y => y.elim) fun y => y) (fun _ z => z.elim) .nil sl
theorem os_cons {K : PySem.W.Frag} {σ : L2.St} {H : Hp} {Q : List V → Hp → Prop} {ea : Ex} {eas : Exs} (h : tOs K cn (evO Φ (.cons ea eas)) σ H Q) :
    tO K cn (fun ρ => opd ea ρ (evE Φ ea ρ)) σ H fun x H1 => tOs K cn (evO Φ eas) σ H1 fun xs H2 => Q (x :: xs) H2 := by
  obtain ⟨F, S, ρ, fx, sl, w⟩ := h
  rw [evO] at w
  refine ⟨F, S, ρ, fx, sl, okO_bind (P := fun r => okOs K cn F H S σ r Q) (fun z => z) (fun _ _ _ z => z) w fun p v F1 H1 A1 B1 _ a1 n1 o1 s1 q => ?_⟩
  refine ⟨F1, B1, p.2, a1.fix.sub fun _ => .inr, s1, ?_⟩
  cases e : evO Φ eas p.2 with
  | err c d e' => rw [e] at q; exact q.elim
  | bad => rw [e] at q; exact q.elim
  | ok r =>
    rw [e] at q
    intro vs F2 H2 A2 B2 a2 n2 o2 s2
    have fr := a2.frame (a1.fix.sub (T := A1) fun _ => .inl) fun a y z => n1 a z y
    have al : Aft F H S F2 H2 ((A2.or B2).or A1) := a1.trans (Aft.trans (Aft.sub (Aft.refl a1.fix) fun c z => z.elim .inr .inl) fr.aft)
    refine q (v :: vs) F2 H2 (A1.or A2) B2 (al.sub fun c z => z.elim (fun y => y.elim .inr fun y => .inl (.inl y)) fun y => .inl (.inr y)) (fun c z y => z.elim (fun w => fr.no c (.inr y) w) fun w => n2 c w y) ?_ s2
    exact .cons (.un fun c z y => fr.no c (.inl y) z) (o1.keep fr a2.ff) o2
theorem posx_cons {e : Expr} {es : List Expr} {ea : Ex} {eas : Exs} (hs : notStar e = true) (ha : POx cn Φ X e ea) (hb : POsx cn Φ X es eas) : POsx cn Φ X (e :: es) (.cons ea eas) :=
  PA.mono (pa_cons ha hb (star_cons hs)) fun σ H Q h => os_cons h

/-! ### displays -/
section
variable {K : PySem.W.Frag} {F H : Hp} {S T : AS}
theorem okLen_le {n : Nat} (h : okLen n = true) : n ≤ sizeLine := by rw [sizeLine_eq]; exact Nat.le_of_lt (of_decide_eq_true h)
theorem okLen_lt {n : Nat} (h : okLen n = true) : n < sizeLine := by rw [sizeLine_eq]; exact of_decide_eq_true h
theorem ORs.len : ∀ {ds : List D} {vs : List V} {S : AS}, ORs K cn F H S ds vs → ds.length = vs.length
  | _, _, _, .nil => rfl
  | _, _, _, .cons _ _ y => congrArg (· + 1) y.len
theorem not_S (fx : Fix F H S) {p : Addr} (n : H p = none) : ¬ S p := fun z => fx.dm p z n
theorem not_F (fx : Fix F H S) {p : Addr} (n : H p = none) : F p = none := fx.fh.free n
theorem same_upd {p : Addr} {o : HO} (n : H p = none) : Same H (upd H p o) := fun b x e => by
  rw [upd_ne (ne_of_none e n)]; exact e
/-- a new object that is owned -/
theorem New.own {p : Addr} {o : HO} (h : Same F H) (n : H p = none) : New F H F (upd H p o) (fun a => a = p) := by
  refine ⟨Same.refl _, h.trans (same_upd n), same_upd n, fun a z => ?_, fun a x y => absurd x y⟩
  subst z
  exact ⟨n, h.free n, by rw [upd_same]; exact fun q => by cases q⟩
/-- a new object that is frozen -/
theorem New.frz {p : Addr} {o : HO} (h : Same F H) (n : H p = none) : New F H (upd F p o) (upd H p o) (fun _ => False) := by
  refine ⟨fun b x e => ?_, fun b x e => ?_, same_upd n, fun a z => z.elim, fun a x y => ?_⟩
  · rw [upd_ne (ne_of_none e (h.free n))]; exact e
  · by_cases hb : b = p
    · subst hb; rw [upd_same] at e ⊢; exact e
    · rw [upd_ne hb] at e ⊢; exact h _ _ e
  · by_cases hb : a = p
    · subst hb; exact n
    · rw [upd_ne hb] at y; exact absurd x y
end
theorem pex_tup {xs : List Expr} {es : Exs} {k : Nat} {pos : Pos} (h : PDx cn Φ X xs es) : PEx cn Φ X (.Tuple xs k pos) (.tup es) := by
  refine PE.mono (pe_tup h) fun σ H Q ⟨F, S, ρ, fx, sl, w⟩ => ?_
  rw [evE] at w
  refine ⟨F, S, ρ, fx, sl, ?_⟩
  cases e : evD Φ es ρ with
  | err c d e' => rw [e] at w; exact w.elim
  | bad => rw [e] at w; exact w.elim
  | ok r =>
    obtain ⟨ds, ρ'⟩ := r
    rw [e] at w
    simp only [Res.bind] at w
    intro vs F1 H1 A1 B1 a1 n1 o1 s1
    by_cases hl : okLen ds.length = true
    · rw [if_pos hl] at w
      refine ⟨by rw [← o1.len]; exact okLen_le hl, fun p hp => ?_⟩
      by_cases hi : imms ds = true
      · rw [if_pos hi] at w
        have N := New.frz (o := .tup vs) a1.fh hp
        obtain ⟨a2, n2⟩ := N.aft a1.fix
        obtain ⟨m1, m2⟩ := N.move a1.fix
        refine w (.ref p) _ _ (fun _ => False) B1 (a1.trans (a2.sub fun c z => z.elim (fun y => y.elim) fun y => .inr (.inr y))) (fun _ z => z.elim) ?_ (s1.move N.ff (fun c z => m1 c (.inr z)) fun c z => m2 c (.inr z))
        have fr : ORs X.K cn F1 H1 (fun _ => False) ds vs := o1.free hi
        exact .tupF (.inl (.inl upd_same)) (fr.move N.ff (fun _ z => z.elim) fun _ z => z.elim)
      · rw [if_neg hi] at w
        have N := New.own (o := .tup vs) a1.fh hp
        obtain ⟨a2, n2⟩ := N.aft a1.fix
        obtain ⟨m1, m2⟩ := N.move a1.fix
        refine w (.ref p) _ _ (AS.or (fun a => a = p) A1) B1 (a1.trans (a2.sub fun c z => z.elim (fun y => y.elim .inl fun y => .inr (.inl y)) fun y => .inr (.inr y))) (fun c z y => z.elim (fun q => n2 c q (.inr y)) fun q => n1 c q y) ?_ (s1.move N.ff (fun c z => m1 c (.inr z)) fun c z => m2 c (.inr z))
        exact .tupO (T := A1) (.inl rfl) (not_F a1.fix hp) upd_same (fun z => not_S a1.fix hp (.inl z)) (fun _ => .inr) (o1.move N.ff (fun c z => m1 c (.inl z)) fun c z => m2 c (.inl z))
    · rw [if_neg hl] at w; exact w.elim
theorem pex_lst {xs : List Expr} {es : Exs} {pos : Pos} (h : PDx cn Φ X xs es) : PEx cn Φ X (.List xs pos) (.lst es) := by
  refine PE.mono (pe_lst h) fun σ H Q ⟨F, S, ρ, fx, sl, w⟩ => ?_
  rw [evE] at w
  refine ⟨F, S, ρ, fx, sl, ?_⟩
  cases e : evD Φ es ρ with
  | err c d e' => rw [e] at w; exact w.elim
  | bad => rw [e] at w; exact w.elim
  | ok r =>
    obtain ⟨ds, ρ'⟩ := r
    rw [e] at w
    simp only [Res.bind] at w
    intro vs F1 H1 A1 B1 a1 n1 o1 s1
    by_cases hl : okLen ds.length = true
    · rw [if_pos hl] at w
      refine ⟨by rw [← o1.len]; exact okLen_le hl, fun p hp => ?_⟩
      have N := New.own (o := .lst vs) a1.fh hp
      obtain ⟨a2, n2⟩ := N.aft a1.fix
      obtain ⟨m1, m2⟩ := N.move a1.fix
      refine w (.ref p) _ _ (AS.or (fun a => a = p) A1) B1 (a1.trans (a2.sub fun c z => z.elim (fun y => y.elim .inl fun y => .inr (.inl y)) fun y => .inr (.inr y))) (fun c z y => z.elim (fun q => n2 c q (.inr y)) fun q => n1 c q y) ?_ (s1.move N.ff (fun c z => m1 c (.inr z)) fun c z => m2 c (.inr z))
      exact .lstO (T := A1) (.inl rfl) (not_F a1.fix hp) upd_same (fun z => not_S a1.fix hp (.inl z)) (fun _ => .inr) (o1.move N.ff (fun c z => m1 c (.inl z)) fun c z => m2 c (.inl z))
    · rw [if_neg hl] at w; exact w.elim

/-! ### built-in functions -/
theorem bcall_mono {K : PySem.W.Frag} {F H : Hp} {S : AS} {ρ : Env} {σ : L2.St} {Q : VK} {b : BF} {es : Exs} (fx : Fix F H S) (sl : SL K cn F H S ρ σ) (w : okE K cn F H S σ (evE Φ (.bcall b es) ρ) Q) :
    tOs K cn (evO Φ es) σ H (fun vs H1 => rB K cn (runB b) vs H1 Q) := by
  rw [evE] at w
  refine ⟨F, S, ρ, fx, sl, ?_⟩
  cases e : evO Φ es ρ with
  | err c d e' => rw [e] at w; exact w.elim
  | bad => rw [e] at w; exact w.elim
  | ok r =>
    rw [e] at w
    simp only [Res.bind] at w
    intro vs F1 H1 A1 B1 a1 n1 o1 s1
    cases e2 : gets r.2 r.1 with
    | none => simp only [e2] at w; exact w.elim
    | some ds =>
      simp only [e2] at w
      exact fin_done a1 n1 s1 (o1.get s1 e2 (fun _ => .inl) fun _ => .inr) w
theorem pex_bcallB {b : BF} {x : Str} {id : String} {p pos : Pos} {e : Expr} {xs : List Expr} {es : Exs} (hc : CallR X (.builtin id) (rB X.K cn (runB b))) (hg : Gl X x) (hm : X.mg x = none) (hv : bootBuiltins x = some (.builtin id)) (ha : POsx cn Φ X (e :: xs) es)
    (hs : (e :: xs).all notStar = true) (hn : x ≠ "__name__") (hdb : (x == ("__debug__" : Str)) = false) : PEx cn Φ X (.Call (.Name x p) (e :: xs) [] pos) (.bcall b es) := by
  rw [List.all_cons, Bool.and_eq_true] at hs
  exact PE.mono (pe_callB hc hg hm hv ha hn hdb (star_cons hs.1) (star_any hs.2)) fun σ H Q ⟨F, S, ρ, fx, sl, w⟩ => bcall_mono fx sl w
theorem pex_bcallT {b : BF} {x : Str} {id : String} {p pos : Pos} {e : Expr} {xs : List Expr} {es : Exs} (hc : CallR X (.type id) (rB X.K cn (runB b))) (hg : Gl X x) (hm : X.mg x = none) (hv : bootBuiltins x = some (.type id)) (ha : POsx cn Φ X (e :: xs) es)
    (hs : (e :: xs).all notStar = true) (hn : x ≠ "__name__") (hdb : (x == ("__debug__" : Str)) = false) : PEx cn Φ X (.Call (.Name x p) (e :: xs) [] pos) (.bcall b es) := by
  rw [List.all_cons, Bool.and_eq_true] at hs
  exact PE.mono (pe_callTy hc hg hm hv ha hn hdb (star_cons hs.1) (star_any hs.2)) fun σ H Q ⟨F, S, ρ, fx, sl, w⟩ => bcall_mono fx sl w
end DL

namespace DL
open PySem PySem.Spec PyProof.Rows L2
variable {cn : CN} {Φ : Tb} {X : Cx}

/-! ### parts of a value -/
section
variable {K : PySem.W.Frag} {F H F' H' : Hp} {S T A B C : AS} {ρ e : Env} {σ : L2.St}
theorem ORs.nth : ∀ {ds : List D} {vs : List V} {S : AS} {k : Nat} {d : D}, ORs K cn F H S ds vs → ds[k]? = some d → ∃ v A, vs[k]? = some v ∧ OR K cn F H A d v ∧ ∀ a, A a → S a
  | _, _, _, _, _, .nil, e => by simp at e
  | _, _, _, 0, _, .cons a x y, e => by
    simp at e; subst e
    exact ⟨_, _, rfl, x, a.l⟩
  | _, _, _, k + 1, _, .cons a x y, e => by
    obtain ⟨v, A, e1, o, l⟩ := y.nth (k := k) (by simpa using e)
    exact ⟨v, A, by simpa using e1, o, fun b z => a.r b (l b z)⟩
theorem place_ix (n : Nat) (i : Int) : place n i = ixN n i := by
  unfold place ixN
  by_cases h : 0 ≤ i
  · rw [if_pos h, if_pos h]
  · rw [if_neg h, if_neg h]
    by_cases k : 0 ≤ i + n
    · rw [if_pos k, if_pos (by omega)]
    · rw [if_neg k, if_neg (by omega)]
theorem at_place {α : Type} {xs : List α} {n : Nat} {i : Int} {k : Nat} {v : α} (hn : n = xs.length) (h : place n i = some k) (e : xs[k]? = some v) : atI xs i = some v := by
  subst hn
  unfold atI
  rw [← place_ix, h]
  exact e
theorem item_ok {d x : D} {r : D} {y z : V} (fx : Fix F H S) (o : OR K cn F H S d y) (p : OR K cn F H T x z) (h : item d x = some r) : ∃ v A, OR K cn F H A r v ∧ (∀ a, A a → S a) ∧ ∀ Q : VK, Q v H → rIx K y z H Q := by
  have key : ∀ {ds : List D} {vs : List V} {S' : AS} {i : Int}, ORs K cn F H S' ds vs → (∀ a, S' a → S a) → ((place ds.length i).bind fun k => ds[k]?) = some r → ∃ v A, OR K cn F H A r v ∧ (∀ a, A a → S a) ∧ atI vs i = some v := by
    intro ds vs S' i r' l h'
    cases e : place ds.length i with
    | none => rw [e] at h'; cases h'
    | some k =>
      rw [e] at h'
      obtain ⟨v, A, e1, o1, l1⟩ := r'.nth h'
      exact ⟨v, A, o1, fun a z => l a (l1 a z), at_place r'.len e e1⟩
  cases p with
  | int i =>
    cases o with
    | str c =>
      rw [item] at h
      split at h
      · rename_i hl
        cases e : place c.length i with
        | none => rw [e] at h; cases h
        | some k =>
          rw [e] at h
          simp only [Option.bind_some] at h
          cases e1 : c[k]? with
          | none => rw [e1] at h; cases h
          | some w =>
            rw [e1] at h
            simp only [Option.map_some, Option.some.injEq] at h
            subst h
            refine ⟨.str ⟨#[w]⟩, fun _ => False, OR.str [w], fun _ z => z.elim, fun Q q => .inr (.inr ⟨_, i, w, rfl, rfl, ?_, ?_, q⟩)⟩
            · show c.toArray.size ≤ _
              simpa using okLen_le hl
            · show atI (c.toArray.toList) i = some w
              exact at_place (by simp) e (by simpa using e1)
      · cases h
    | tupF q r' =>
      obtain ⟨v, A, o1, l, e⟩ := key r' (fun _ z => z) h
      exact ⟨v, A, o1, l, fun Q q' => .inr (.inl ⟨_, _, i, v, rfl, rfl, Same.seqT fx.fh q, e, q'⟩)⟩
    | tupO q f e n l' r' =>
      obtain ⟨v, A, o1, l, e1⟩ := key r' l' h
      exact ⟨v, A, o1, l, fun Q q' => .inr (.inl ⟨_, _, i, v, rfl, rfl, SqT.of e, e1, q'⟩)⟩
    | lstF q r' =>
      obtain ⟨v, A, o1, l, e⟩ := key r' (fun _ z => z) h
      exact ⟨v, A, o1, l, fun Q q' => .inl ⟨_, _, i, v, rfl, rfl, .inl (Same.rd fx.fh q), e, q'⟩⟩
    | lstO q f e n l' r' =>
      obtain ⟨v, A, o1, l, e1⟩ := key r' l' h
      exact ⟨v, A, o1, l, fun Q q' => .inl ⟨_, _, i, v, rfl, rfl, SqL.of e, e1, q'⟩⟩
    | scr q =>
      rename_i a ns
      rw [item] at h
      cases e : place ns.length i with
      | none => rw [e] at h; cases h
      | some k =>
        rw [e] at h
        simp only [Option.bind_some] at h
        cases e1 : ns[k]? with
        | none => rw [e1] at h; cases h
        | some w =>
          rw [e1] at h
          simp only [Option.map_some, Option.some.injEq] at h
          subst h
          refine ⟨.int w, fun _ => False, .int w, fun _ z => z.elim, fun Q q' => .inl ⟨a, _, i, .int w, rfl, rfl, fx.fh.seq q, at_place (n := ns.length) (by simp) e (by rw [List.getElem?_map, e1]; rfl), q'⟩⟩
    | _ => cases h
  | _ => cases d <;> cases h
end
/-- not a slice -/
def notSlice : Expr → Bool
  | .Slice .. => false
  | _ => true
theorem plainIx {b : Expr} (h : notSlice b = true) : PlainIx b := by
  cases b <;> first | (intro o i; rfl) | cases h
theorem taken_val {ρ : Env} {d r : D} : taken ρ (.val d) (some r) = .ok (r, ρ) := by
  unfold taken
  by_cases h : imm r = true
  · simp only [h, if_true]
  · simp only [if_neg h]
theorem fzs_length : ∀ ds : List D, (fzs ds).length = ds.length
  | [] => rfl
  | d :: ds => by rw [fzs, List.length_cons, List.length_cons, fzs_length ds]
theorem fz_item {d x r : D} (h : item d x = some r) : item (fz d) x = some (fz r) := by
  have key : ∀ {ds : List D} {k : Nat} {r : D}, ds[k]? = some r → (fzs ds)[k]? = some (fz r) := by
    intro ds
    induction ds with
    | nil => intro k r e; simp at e
    | cons a t ih =>
      intro k r e
      cases k with
      | zero => simp at e; subst e; rfl
      | succ k => exact ih (by simpa using e)
  cases d with
  | tup o ds =>
    cases x with
    | int i =>
      rw [fz, item, fzs_length]
      rw [item] at h
      cases e : place ds.length i with
      | none => rw [e] at h; cases h
      | some k => rw [e] at h; exact key h
    | _ => cases h
  | lst o ds =>
    cases x with
    | int i =>
      rw [fz, item, fzs_length]
      rw [item] at h
      cases e : place ds.length i with
      | none => rw [e] at h; cases h
      | some k => rw [e] at h; exact key h
    | _ => cases h
  | str y =>
    cases x with
    | int i =>
      have h' := h
      rw [item] at h
      split at h
      · cases e : place y.length i with
        | none => rw [e] at h; cases h
        | some k =>
          rw [e] at h
          simp only [Option.bind_some] at h
          cases e1 : y[k]? with
          | none => rw [e1] at h; cases h
          | some w => rw [e1] at h; simp only [Option.map_some, Option.some.injEq] at h; subst h; exact h'
      · cases h
    | _ => cases h
  | scr ns =>
    cases x with
    | int i =>
      have h' := h
      rw [item] at h
      cases e : place ns.length i with
      | none => rw [e] at h; cases h
      | some k =>
        rw [e] at h
        simp only [Option.bind_some] at h
        cases e1 : ns[k]? with
        | none => rw [e1] at h; cases h
        | some w => rw [e1] at h; simp only [Option.map_some, Option.some.injEq] at h; subst h; exact h'
    | _ => cases h
  | _ => cases x <;> cases h
theorem pex_idx {a b : Expr} {ea eb : Ex} {pos : Pos} (ha : POx cn Φ X a ea) (hb : POx cn Φ X b eb) (hs : notSlice b = true) : PEx cn Φ X (.Subscript a b pos) (.idx ea eb) := by
  refine PE.mono (pe_ix ix_seq ha hb (plainIx hs)) fun σ H Q ⟨F, S, ρ, fx, sl, w⟩ => ?_
  rw [evE] at w
  refine bin_mono (G := fun x y e => match x.get e, y.get e with | some d1, some d2 => taken e x (item d1 d2) | _, _ => .bad) fx sl w fun x y F' H' A B ρ' o1 o2 a n r1 r2 s q => ?_
  cases e1 : o1.get ρ' with
  | none => simp only [e1] at q; exact q.elim
  | some d1 =>
    cases e2 : o2.get ρ' with
    | none => simp only [e1, e2] at q; exact q.elim
    | some d2 =>
      simp only [e1, e2] at q
      cases e3 : item d1 d2 with
      | none => rw [e3] at q; exact (show False from q).elim
      | some r =>
        rw [e3] at q
        have p2 := r2.get s e2 (S := A.or B) (fun _ => .inl) fun _ => .inr
        by_cases hfz : imm r = false ∧ ∃ i, o1 = .ref i
        · -- the frozen reading
          obtain ⟨hr, i, rfl⟩ := hfz
          have hi : ¬ imm r = true := by rw [hr]; decide
          have e1' : look ρ' i = some d1 := e1
          obtain ⟨u, F2, B2, a2, e4, _, s2, o2'⟩ := s.freeze (a.fix.sub fun _ => .inr) e1'
          have r1' : σ[i]? = some (some x) := r1
          rw [r1'] at e4
          cases e4
          have p2' : OR X.K cn F2 H' (fun _ => False) d2 y := by
            cases p2 with
            | int j => exact .int j
            | _ => cases d1 <;> cases e3
          obtain ⟨v, A', o', l', k'⟩ := item_ok (S := fun _ => False) ⟨a2.fh, fun _ z => z.elim, fun _ z => z.elim⟩ (o2' (fun _ => False)) p2' (fz_item e3)
          refine k' Q ?_
          unfold taken at q
          simp only [if_neg hi, e1'] at q
          have al : Aft F H S F2 H' B2 := (a.sub (T := B) fun _ => .inr).trans a2
          exact q v F2 H' (fun _ => False) B2 (al.sub fun c z => z.elim (fun y => y.elim) fun y => y) (fun _ z => z.elim) (o'.mono fun c z => (l' c z).elim) s2
        · have p1 := r1.get s e1 (S := A.or B) (fun _ => .inl) fun _ => .inr
          cases o1 with
          | val dd =>
            cases e1
            obtain ⟨v, A', o', l', k'⟩ := item_ok (a.fix.sub (T := A) fun _ => .inl) (show OR X.K cn F' H' A d1 x from r1) p2 e3
            refine k' Q ?_
            rw [taken_val] at q
            exact q v F' H' A' B (a.sub fun c z => z.elim (fun y => .inl (l' c y)) .inr) (fun c y z => n c (l' c y) z) o' s
          | ref i =>
            have hr : imm r = true := by
              cases hh : imm r with
              | true => rfl
              | false => exact absurd ⟨hh, i, rfl⟩ hfz
            obtain ⟨v, A', o', l', k'⟩ := item_ok a.fix p1 p2 e3
            refine k' Q ?_
            unfold taken at q
            simp only [hr, if_true] at q
            exact q v F' H' (fun _ => False) B (a.sub fun c z => z.elim (fun y => y.elim) .inr) (fun _ z => z.elim) (o'.free hr) s

/-! ### calls of defs -/
section
variable (K : PySem.W.Frag) (cn : CN)
/-- a def's promise, by what it makes of its arguments' data -/
def spF (g : List D → RF) : Sp := fun vs H Q _ => ∃ F S ds, Fix F H S ∧ ORs K cn F H S ds vs ∧ match g ds with
  | .ok r post => ∀ v F' H' (A B : AS), Aft F H S F' H' (A.or B) → (∀ a, A a → B a → False) → OR K cn F' H' A r v → SL K cn F' H' B post (vs.map some) → Q v H'
  | _ => False
end
section
variable {K : PySem.W.Frag} {F H F' H' : Hp} {S T A B C : AS} {ρ e : Env} {σ : L2.St}
theorem look_wipe : ∀ {is : List Nat} {i : Nat}, is.contains i = false → look (wipeE ρ is) i = look ρ i
  | [], _, _ => rfl
  | j :: is, i, h => by
    rw [List.contains_cons, Bool.or_eq_false_iff] at h
    rw [wipeE]
    have hij : i ≠ j := by simpa using h.1
    unfold look
    rw [List.getElem?_set_ne (Ne.symm hij)]
    exact look_wipe h.2
theorem hand : ∀ {os : List Opd} {vs : List V} {ds : List D} {is : List Nat} {A : AS}, OpdsR K cn F H σ A os vs → gets ρ os = some ds → handed ρ os = some is → SL K cn F H B ρ σ → (∀ a, A a → B a → False) →
    ∃ C B' : AS, ORs K cn F H (A.or C) ds vs ∧ SL K cn F H B' (wipeE ρ is) σ ∧ (∀ a, C a → B a) ∧ (∀ a, B' a → B a) ∧ ∀ a, C a → B' a → False
  | _, _, _, _, A, .nil, e1, e2, sl, n => by
    cases e1; cases e2
    exact ⟨fun _ => False, B, .nil, sl, fun _ z => z.elim, fun _ z => z, fun _ z => z.elim⟩
  | _, _, _, _, A, .cons (A := A1) (B := A2) (o := .val d) (os := os) a x y, e1, e2, sl, n => by
    rw [gets] at e1
    rw [handed] at e2
    cases g : gets ρ os with
    | none => simp only [g, Opd.get] at e1; cases e1
    | some ds =>
      simp only [g, Opd.get] at e1
      cases e1
      obtain ⟨C, B', o, s, l1, l2, n2⟩ := hand y g e2 sl fun c z w => n c (a.r c z) w
      refine ⟨C, B', .cons (A := A1) (B := A2.or C) ⟨fun c z => .inl (a.l c z), fun c z => z.elim (fun w => .inl (a.r c w)) .inr, fun c z w => w.elim (a.no c z) fun q => n c (a.l c z) (l1 c q)⟩ x o, s, l1, l2, n2⟩
  | _, _, _, _, A, .cons (A := A1) (B := A2) (o := .ref i) (os := os) (v := v) a x y, e1, e2, sl, n => by
    rw [gets] at e1
    rw [handed] at e2
    cases g1 : look ρ i with
    | none => simp only [g1] at e2; cases e2
    | some d =>
      cases g2 : handed ρ os with
      | none => simp only [g1, g2] at e2; cases e2
      | some is0 =>
        cases g : gets ρ os with
        | none => simp only [g, Opd.get, g1] at e1; cases e1
        | some ds =>
          simp only [g, Opd.get, g1] at e1
          cases e1
          simp only [g1, g2] at e2
          have x' : σ[i]? = some (some v) := x
          obtain ⟨C, B', o, s, l1, l2, n2⟩ := hand y g g2 sl fun c z w => n c (a.r c z) w
          by_cases hi : imm d = true
          · simp only [hi, if_true] at e2
            cases e2
            obtain ⟨u, e3, od⟩ := sl.at g1
            rw [x'] at e3
            cases e3
            exact ⟨C, B', .cons (A := fun _ => False) (B := A2.or C) ⟨fun _ z => z.elim, fun c z => z.elim (fun w => .inl (a.r c w)) .inr, fun _ z => z.elim⟩ (od.free hi) o, s, l1, l2, n2⟩
          · simp only [if_neg hi] at e2
            by_cases hc : is0.contains i = true
            · simp only [hc, if_true] at e2; cases e2
            · simp only [if_neg hc] at e2
              cases e2
              have hc' : is0.contains i = false := by simpa using hc
              obtain ⟨u, A3, B3, b, e3, od, s3⟩ := s.take (i := i) (by rw [look_wipe hc']; exact g1)
              rw [x'] at e3
              cases e3
              refine ⟨C.or A3, B3, .cons (A := A3) (B := A2.or C) ⟨fun c z => .inr (.inr z), fun c z => z.elim (fun w => .inl (a.r c w)) fun w => .inr (.inl w), fun c z w => w.elim (fun q => n c (a.r c q) (l2 c (b.l c z))) fun q => n2 c q (b.l c z)⟩ od o, s3, fun c z => z.elim (l1 c) fun w => l2 c (b.l c w), fun c z => l2 c (b.r c z), fun c z w => z.elim (fun q => n2 c q (b.r c w)) fun q => b.no c q w⟩
theorem putBack_ok : ∀ {os : List Opd} {vs : List V} {post e : Env} {F0 H0 : Hp} {A B C : AS}, OpdsR K cn F0 H0 σ A os vs → SL K cn F H B e σ → SL K cn F H C post (vs.map some) → (∀ a, B a → C a → False) → SL K cn F H (B.or C) (putBack os post e) σ
  | _, _, post, e, _, _, A, B, C, .nil, s, p, n => by
    cases p
    rw [putBack]
    · exact s.mono fun _ => .inl
    all_goals (intros; simp_all)
  | _, _, post, e, F0, H0, A, B, C, .cons (o := o) (os := os) a x y, s, p, n => by
    cases p with
    | no p =>
      have ih := putBack_ok y s p n
      cases o with
      | val d => exact ih
      | ref i => exact ih
    | yes b q p =>
      rename_i A1 B1 d post
      cases o with
      | val dd => exact (putBack_ok y s p fun c z w => n c z (b.r c w)).mono fun c z => z.elim .inl fun w => .inr (b.r c w)
      | ref i =>
        have s2 := (s.drop i).back q (fun c z w => n c w (b.l c z)) x
        have ih := putBack_ok y s2 p fun c z w => z.elim (fun u => b.no c u w) fun u => n c u (b.r c w)
        exact ih.mono fun c z => z.elim (fun u => u.elim (fun w => .inr (b.l c w)) .inl) fun w => .inr (b.r c w)
theorem call_mono {f : Nat} {es : Exs} {Q : VK} {E : XK} (fx : Fix F H S) (sl : SL K cn F H S ρ σ) (w : okE K cn F H S σ (evE Φ (.call f es) ρ) Q) :
    tOs K cn (evO Φ es) σ H (fun vs H1 => spF K cn (Φ.fn f) (vs ++ []) H1 Q E) := by
  rw [evE] at w
  refine ⟨F, S, ρ, fx, sl, ?_⟩
  cases e : evO Φ es ρ with
  | err c d e' => rw [e] at w; exact w.elim
  | bad => rw [e] at w; exact w.elim
  | ok r =>
    obtain ⟨os, ρ'⟩ := r
    rw [e] at w
    simp only [Res.bind] at w
    intro vs F1 H1 A1 B1 a1 n1 o1 s1
    unfold callD at w
    cases e1 : handed ρ' os with
    | none => simp only [e1] at w; exact w.elim
    | some is =>
      cases e2 : gets ρ' os with
      | none => simp only [e1, e2] at w; exact w.elim
      | some ds =>
        simp only [e1, e2] at w
        obtain ⟨C, B', od, s', l1, l2, n2⟩ := hand o1 e2 e1 s1 n1
        rw [List.append_nil]
        have fxx : Fix F1 H1 (A1.or C) := a1.fix.sub fun c z => z.elim .inl fun y => .inr (l1 c y)
        refine ⟨F1, A1.or C, ds, fxx, od, ?_⟩
        cases e3 : Φ.fn f ds with
        | bad => simp only [e3] at w; exact w.elim
        | err c d p => simp only [e3] at w; exact w.elim
        | ok r post =>
          simp only [e3] at w
          intro v F2 H2 A2 B2 a2 n3 o2 p2
          have fr := a2.frame (a1.fix.sub (T := B') fun c z => .inr (l2 c z)) fun c z y => z.elim (fun q => n1 c q (l2 c y)) fun q => n2 c q y
          have s2 : SL K cn F2 H2 B' (wipeE ρ' is) σ := s'.move a2.ff fr.h fr.f
          have s3 := putBack_ok (A := A1) (B := B') (C := B2) o1 s2 p2 fun c z y => fr.no c (.inr y) z
          have al : Aft F H S F2 H2 ((A2.or B2).or B') := a1.trans (Aft.trans (Aft.sub (Aft.refl a1.fix) fun c z => z.elim (fun y => y.elim .inl fun q => .inr (l1 c q)) fun y => .inr (l2 c y)) fr.aft)
          exact w v F2 H2 A2 (B'.or B2) (al.sub fun c z => z.elim (fun y => .inl (.inl y)) fun y => y.elim .inr fun q => .inl (.inr q)) (fun c z y => y.elim (fun q => fr.no c (.inl z) q) fun q => n3 c z q) o2 s3
end
theorem pex_call {k : Nat} {fa : Addr} {fd : FuncData} {ps : List Str} {f : Nat} {x : Str} {p pos : Pos} {e : Expr} {xs : List Expr} {es : Exs} (G : FnOk X.prog X.w X.K X.mg X.base CX0 k fa fd ps (spF X.K cn (Φ.fn f))) (hr : Room k X.A) (hg : Gl X x) (hm : X.mg x = some (.ref fa))
    (hk : PySem.W.keepIn X.K (.ref fa) = true) (hb : Binds X.K fd ps []) (ha : POsx cn Φ X (e :: xs) es) (hs : (e :: xs).all notStar = true) (hdb : (x == ("__debug__" : Str)) = false) : PEx cn Φ X (.Call (.Name x p) (e :: xs) [] pos) (.call f es) := by
  rw [List.all_cons, Bool.and_eq_true] at hs
  exact PE.mono (pe_call G hr hg hm hk hb .nil pass0 ha hdb (star_cons hs.1) (star_any hs.2)) fun σ H Q ⟨F, S, ρ, fx, sl, w⟩ => call_mono fx sl w
end DL

namespace DL
open PySem PySem.Spec PyProof.Rows L2
variable {cn : CN} {Φ : Tb} {X : Cx}

def Keeps (H : Hp) (S : AS) (H1 : Hp) : Prop := ∀ a o, H a = some o → ¬ S a → H1 a = some o
section
variable (K : PySem.W.Frag) (cn : CN)
/-- what is walked gives the data ds -/
structure Wok (F H : Hp) (S : AS) (J : L2.It) (ds : List D) : Prop where
  goes : ∀ i H1, i < ds.length → Keeps H S H1 → J.go i H1
  stops : ∀ H1, Keeps H S H1 → J.stop ds.length H1
  yields : ∀ i H1 x H2 F1 d, ds[i]? = some d → Keeps H S H1 → Same F F1 → Same F1 H1 → J.yld i H1 x H2 → ∃ F2, New F1 H1 F2 H2 (fun _ => False) ∧ OR K cn F2 H2 (fun _ => False) d x
def HidR (F H : Hp) (T : AS) (σ : L2.St) (h : Option (Nat × D)) : Prop := match h with
  | none => True
  | some p => ∃ v, σ[p.1]? = some (some v) ∧ OR K cn F H T p.2 v
def okW (F H : Hp) (S : AS) (σ : L2.St) (r : Res Wk) (R : L2.It → Hp → Prop) : Prop := match r with
  | .ok w => ∀ J F' H' (B T : AS), Aft F H S F' H' (B.or T) → (∀ a, B a → T a → False) → SL K cn F' H' B w.e σ → HidR K cn F' H' T σ w.hid → Wok K cn F' H' B J w.ds → R J H'
  | _ => False
def tI (f : Env → Res Wk) : TI := fun σ H R => ∃ F S ρ, Fix F H S ∧ SL K cn F H S ρ σ ∧ okW K cn F H S σ (f ρ) R
/-- the target's slots are set -/
def tG (tg : List Nat) : TG := fun x σ H Q => ∃ F S ρ d ρ', Fix F H S ∧ SL K cn F H S ρ σ ∧ OR K cn F H (fun _ => False) d x ∧ bindT tg d ρ = some ρ' ∧
  ∀ σ', SL K cn F H S ρ' σ' → wipe σ' tg = wipe σ tg → Q σ' H
end
def PIx (cn : CN) (Φ : Tb) (X : Cx) (tg iter : Expr) (has : Nat → Bool) (it : It) : Prop := PI X tg iter (tI X.K cn (evI Φ has it))
def PGx (cn : CN) (X : Cx) (tg : Expr) (is : List Nat) : Prop := PG X tg (tG X.K cn is)
theorem PI.mono {X : Cx} {tg e : Expr} {t t' : TI} (h : PI X tg e t) (k : ∀ σ H Q, t' σ H Q → t σ H Q) : PI X tg e t' := ⟨fun pins s σ H Q I w => h.run pins s σ H Q I (k σ H Q w)⟩
theorem PG.mono {X : Cx} {tg : Expr} {t t' : TG} (h : PG X tg t) (k : ∀ v σ H Q, t' v σ H Q → t v σ H Q) : PG X tg t' := ⟨fun pins s σ H v u Q I r w => h.run pins s σ H v u Q I r (k v σ H Q w)⟩

section
variable {K : PySem.W.Frag} {F H F' H' : Hp} {S T A B C : AS} {ρ e : Env} {σ : L2.St}
theorem Keeps.sq {a : Addr} {vs : List V} {H1 : Hp} (q : SqL K F a vs) (fx : Fix F H S) (k : Keeps H S H1) : SqL K H1 a vs := by
  refine Same.seq (H := F) (fun b o e => k b o (fx.fh b o e) fun z => ?_) q
  rw [fx.dj b z] at e; cases e
theorem Keeps.sqT {a : Addr} {vs : List V} {H1 : Hp} (q : SqT K F a vs) (fx : Fix F H S) (k : Keeps H S H1) : SqT K H1 a vs := by
  refine Same.seqT (H := F) (fun b o e => k b o (fx.fh b o e) fun z => ?_) q
  rw [fx.dj b z] at e; cases e
theorem imms_nth : ∀ {ds : List D} {k : Nat} {d : D}, imms ds = true → ds[k]? = some d → imm d = true
  | [], _, _, _, e => by simp at e
  | a :: t, 0, d, h, e => by
    rw [imms, Bool.and_eq_true] at h
    simp at e; subst e; exact h.1
  | a :: t, k + 1, d, h, e => by
    rw [imms, Bool.and_eq_true] at h
    exact imms_nth (k := k) h.2 (by simpa using e)
/-- a list whose items are frozen, walked -/
theorem wok_list {a : Addr} {vs : List V} {ds : List D} (st : ∀ H1, Keeps H S H1 → SqL K H1 a vs) (o : ORs K cn F H T ds vs) (hi : imms ds = true) : Wok K cn F H S (Itl K a) ds := by
  have hl := o.len
  refine ⟨fun i H1 hlt k => ⟨vs, vs[i]'(by omega), st H1 k, by simp⟩, fun H1 k => ⟨vs, st H1 k, by omega⟩, fun i H1 x H2 F1 d hd k f1 f2 y => ?_⟩
  obtain ⟨rfl, y⟩ := y
  have y' := y vs (st _ k)
  obtain ⟨v, A, e1, o1, _⟩ := (o.free (S' := fun _ => False) (H' := H2) hi).nth hd
  rw [y'] at e1
  cases e1
  exact ⟨F1, New.refl f2, (OR.free (S' := fun _ => False) (H' := H2) (imms_nth hi hd) o1).move f1 (fun _ z => z.elim) fun _ z => z.elim⟩
theorem wok_tup {a : Addr} {vs : List V} {ds : List D} (st : ∀ H1, Keeps H S H1 → SqT K H1 a vs) (o : ORs K cn F H T ds vs) (hi : imms ds = true) : Wok K cn F H S (Itt K a) ds := by
  have hl := o.len
  refine ⟨fun i H1 hlt k => ⟨vs, vs[i]'(by omega), st H1 k, by simp⟩, fun H1 k => ⟨vs, st H1 k, by omega⟩, fun i H1 x H2 F1 d hd k f1 f2 y => ?_⟩
  obtain ⟨rfl, y⟩ := y
  have y' := y vs (st _ k)
  obtain ⟨v, A, e1, o1, _⟩ := (o.free (S' := fun _ => False) (H' := H2) hi).nth hd
  rw [y'] at e1
  cases e1
  exact ⟨F1, New.refl f2, (OR.free (S' := fun _ => False) (H' := H2) (imms_nth hi hd) o1).move f1 (fun _ z => z.elim) fun _ z => z.elim⟩
theorem wok_range {lo : Int} {n : Nat} : Wok K cn F H S (Itr lo n) ((List.range n).map fun k => .int (lo + (k : Nat))) := by
  refine ⟨fun i H1 hlt k => (show i < n by simpa using hlt), fun H1 k => (show n ≤ _ by simp), fun i H1 x H2 F1 d hd k f1 f2 y => ?_⟩
  obtain ⟨rfl, rfl⟩ := y
  refine ⟨F1, New.refl f2, ?_⟩
  rw [List.getElem?_map] at hd
  cases e : (List.range n)[i]? with
  | none => rw [e] at hd; cases hd
  | some j =>
    rw [e] at hd
    have : j = i := by
      rw [List.getElem?_eq_some_iff] at e
      obtain ⟨h1, h2⟩ := e
      simpa using h2.symm
    subst this
    cases hd
    exact .int _
theorem wok_str {x : List Nat} : Wok K cn F H S (Its ⟨x.toArray⟩) (x.map fun c => .str [c]) := by
  refine ⟨fun i H1 hlt k => by simpa [Its] using hlt, fun H1 k => by simp [Its], fun i H1 v H2 F1 d hd k f1 f2 y => ?_⟩
  obtain ⟨rfl, c, e, rfl⟩ := y
  refine ⟨F1, New.refl f2, ?_⟩
  rw [List.getElem?_map] at hd
  have e' : x[i]? = some c := by simpa using e
  rw [e'] at hd
  cases hd
  exact OR.str [c]

/-! ### targets -/
theorem wipe_set1 {σ : L2.St} {i : Nat} {x : Option V} : wipe (σ.set i x) [i] = wipe σ [i] := by
  show (σ.set i x).set i none = σ.set i none
  rw [List.set_set]
theorem look_set_none {i : Nat} (l : i < ρ.length) : True := trivial
theorem SL.put1 {i : Nat} {d : D} {v : V} (s : SL K cn F H S ρ σ) (hi : imm d = true) (o : OR K cn F H (fun _ => False) d v) : SL K cn F H S (ρ.set i (some d)) (σ.set i (some v)) := by
  by_cases l : i < ρ.length
  · exact ((s.drop i).give o (fun _ z => z.elim) l).mono fun c z => z.elim (fun q => q.elim) fun q => q
  · rw [List.set_eq_of_length_le (by omega), List.set_eq_of_length_le (by rw [← s.len]; omega)]
    exact s
end
theorem pgx_name {i : Nat} {x : Str} {pos : Pos} (hN : X.N.Nodup) (hi : X.N[i]? = some x) (hx : Loc X.env.scope x) (hf : X.fn x = true ∨ X.env.scope.names.lookup x = some .local) : PGx cn X (.Name x pos) [i] := by
  refine PG.mono (pg_name hN hi hx hf) fun v σ H Q ⟨F, S, ρ, d, ρ', fx, sl, o, e, q⟩ => ?_
  simp only [bindT] at e
  by_cases h : imm d = true
  · rw [if_pos h] at e
    cases e
    exact q _ (sl.put1 h o) wipe_set1
  · rw [if_neg h] at e; cases e
section
variable {K : PySem.W.Frag} {F H F' H' : Hp} {S T A B C : AS} {ρ e : Env} {σ : L2.St}
theorem wipe_comm {σ : L2.St} {i : Nat} : ∀ {is : List Nat} {x : Option V}, i ∈ is → wipe (σ.set i x) is = wipe σ is
  | [], _, h => by cases h
  | j :: js, x, h => by
    show (wipe (σ.set i x) js).set j none = (wipe σ js).set j none
    by_cases hj : i ∈ js
    · rw [wipe_comm hj]
    · have : i = j := by simpa [hj] using h
      subst this
      have gen : ∀ js : List Nat, i ∉ js → wipe (σ.set i x) js = (wipe σ js).set i x := by
        intro js
        induction js with
        | nil => intro _; rfl
        | cons k ks ih =>
          intro hn
          simp only [List.mem_cons, not_or] at hn
          show (wipe (σ.set i x) ks).set k none = ((wipe σ ks).set k none).set i x
          rw [ih hn.2, List.set_comm _ _ (Ne.symm hn.1)]
      rw [gen js hj, List.set_set]
end
/-- names -/
inductive PGN (X : Cx) : List Expr → List Nat → Prop
  | nil : PGN X [] []
  | cons {i : Nat} {x : Str} {pos : Pos} {es is} : X.N[i]? = some x → Loc X.env.scope x → (X.fn x = true ∨ X.env.scope.names.lookup x = some .local) → PGN X es is → PGN X (.Name x pos :: es) (i :: is)
def gNames : List Nat → TGs
  | [] => gNil
  | i :: is => gCons (gName i) (gNames is)
theorem PGN.ok (hN : X.N.Nodup) : ∀ {es : List Expr} {is : List Nat}, PGN X es is → PGs X es (gNames is) ∧ (assignEach es X.env).length = is.length ∧ (assignEach es X.env).findIdx? (·.1) = none
  | _, _, .nil => ⟨pgs_nil, rfl, rfl⟩
  | _, _, .cons h1 h2 h3 t => by
    obtain ⟨a, b, c⟩ := t.ok hN
    refine ⟨pgs_cons (pg_name hN h1 h2 h3) a rfl, ?_, ?_⟩
    · show (assignEach _ X.env).length + 1 = _ + 1
      rw [b]
    · show List.findIdx? _ ((false, _) :: assignEach _ X.env) = none
      rw [List.findIdx?_cons]
      simp only [Bool.false_eq_true, if_false, c, Option.map_none]
theorem names_go {K : PySem.W.Frag} {F H : Hp} {S : AS} {Q : L2.St → Hp → Prop} {all : List Nat} : ∀ {is : List Nat} {ds : List D} {xs : List V} {ρ ρ' : Env} {σ σ0 : L2.St}, SL K cn F H S ρ σ → ORs K cn F H (fun _ => False) ds xs → imms ds = true → setAll ρ is ds = some ρ' →
    (∀ i ∈ is, i ∈ all) → wipe σ all = wipe σ0 all → (∀ σ', SL K cn F H S ρ' σ' → wipe σ' all = wipe σ0 all → Q σ' H) → gNames is xs σ H Q
  | [], _, _, _, _, _, _, s, .nil, _, e, _, w, q => by
    cases e
    exact ⟨rfl, q _ s w⟩
  | [], _, _, _, _, _, _, s, .cons .., _, e, _, w, q => by cases e
  | i :: is, _, _, _, _, _, _, s, .nil, _, e, _, w, q => by cases e
  | i :: is, _, _, ρ, ρ', σ, σ0, s, .cons (d := d) (ds := ds) (v := v) (vs := vs) a x y, hi, e, m, w, q => by
    rw [imms, Bool.and_eq_true] at hi
    rw [setAll] at e
    refine ⟨v, vs, rfl, ?_⟩
    have x' : OR K cn F H (fun _ => False) d v := x.mono a.l
    exact names_go (σ0 := σ0) (s.put1 (i := i) hi.1 x') (y.mono a.r) hi.2 e (fun j h => m j (List.mem_cons_of_mem _ h)) (by rw [wipe_comm (m i List.mem_cons_self)]; exact w) q
theorem bindT_many {is : List Nat} {d : D} {ρ : Env} (h2 : is.length ≠ 1) : bindT is d ρ = (match d with | .tup _ ds => if imms ds then setAll ρ is ds else none | _ => none) := by
  unfold bindT
  match is, h2 with
  | [], _ => rfl
  | [_], h2 => exact absurd rfl h2
  | _ :: _ :: _, _ => rfl
theorem pgx_tup {es : List Expr} {is : List Nat} {k : Nat} {pos : Pos} (hc : X.calm = true) (hN : X.N.Nodup) (h : PGN X es is) (h2 : is.length ≠ 1) : PGx cn X (.Tuple es k pos) is := by
  obtain ⟨a, b, c⟩ := h.ok hN
  refine PG.mono (pg_tup hc a b c) fun v σ H Q ⟨F, S, ρ, d, ρ', fx, sl, o, e, q⟩ => ?_
  have e' := (bindT_many h2).symm.trans e
  cases d with
  | tup ow ds =>
    simp only at e'
    by_cases hi : imms ds = true
    · rw [if_pos hi] at e'
      have lenS : ∀ {is : List Nat} {ds : List D} {ρ ρ' : Env}, setAll ρ is ds = some ρ' → ds.length = is.length := by
        intro is
        induction is with
        | nil => intro ds ρ ρ' e; cases ds <;> first | rfl | cases e
        | cons i is ih =>
          intro ds ρ ρ' e
          cases ds with
          | nil => cases e
          | cons d ds => rw [List.length_cons, List.length_cons, ih e]
      have hl := lenS e'
      cases o with
      | @tupF _ a' _ vs q' r =>
        exact ⟨a', vs, rfl, Same.seqT fx.fh q', by rw [← r.len, hl], names_go sl r hi e' (fun _ h => h) rfl q⟩
      | tupO q' f e1 n l r => exact q'.elim
    · rw [if_neg hi] at e'; cases e'
  | _ => cases e'
end DL

namespace DL
open PySem PySem.Spec PyProof.Rows L2
variable {cn : CN} {Φ : Tb} {X : Cx}

/-! ### what is walked -/
section
variable {K : PySem.W.Frag} {F H F' H' : Hp} {S T A B C : AS} {ρ e : Env} {σ : L2.St} {R : L2.It → Hp → Prop}
theorem imms_fzs : ∀ ds : List D, imms (fzs ds) = true
  | [] => rfl
  | d :: ds => by
    rw [fzs, imms, imms_fzs ds, Bool.and_true]
    exact imm_fz d
where imm_fz : ∀ d : D, imm (fz d) = true
  | .non => rfl
  | .bl _ => rfl
  | .int _ => rfl
  | .str _ => rfl
  | .scr _ => rfl
  | .tup _ ds => by rw [fz, imm, imms_fzs ds]; rfl
  | .lst _ ds => by rw [fz, imm, imms_fzs ds]; rfl
  | .ins _ _ ds => by rw [fz, imm, imms_fzs ds]; rfl
theorem imms_str {x : List Nat} : imms (x.map fun c => D.str [c]) = true := by
  induction x with
  | nil => rfl
  | cons a t ih => rw [List.map_cons, imms, ih]; rfl
theorem imms_int {x : List Int} : imms (x.map D.int) = true := by
  induction x with
  | nil => rfl
  | cons a t ih => rw [List.map_cons, imms, ih]; rfl
theorem ORs.ints : ∀ {ns : List Int} {S : AS}, ORs K cn F H S (ns.map D.int) (ns.map V.int)
  | [], _ => .nil
  | n :: ns, S => .cons (A := fun _ => False) (B := S) ⟨fun _ z => z.elim, fun _ z => z, fun _ z => z.elim⟩ (.int n) ORs.ints
end
/-- list, tuple or text, walked -/
def iSeq (K : PySem.W.Frag) (te : TE) : TI := fun σ H R => te σ H fun x H1 =>
  (∃ a, x = .ref a ∧ (∃ xs, SqL K H1 a xs) ∧ R (Itl K a) H1) ∨ (∃ a, x = .ref a ∧ (∃ xs, SqT K H1 a xs) ∧ R (Itt K a) H1) ∨ (∃ z, x = .str z ∧ R (Its z) H1)
theorem pi_seq {tg l : Expr} {tl : TE} (hl : PE X l tl) : PI X tg l (iSeq X.K tl) := by
  refine ⟨fun pins s σ H R I h => ?_⟩
  refine thn (hl.run pins s σ H _ I h) fun v s1 ⟨x, H1, I1, r1, q1⟩ => ?_
  rcases q1 with ⟨a, e, ⟨xs, hq⟩, q⟩ | ⟨a, e, ⟨xs, hq⟩, q⟩ | ⟨z, e, q⟩
  · subst e
    cases r1
    obtain ⟨its, rv, p, hz⟩ := I1.list hq
    refine wpAny_pyIter_list p.isList ?_
    refine ⟨s1.heap.objs.size, [s1.heap.objs.size], _, _, H1, rfl, I1.kept (t' := s1.toks) fun b o e => Heap.get?_push_of_some _ e, turn_list a _, ⟨_, Heap.get?_push_size _ rfl, rfl, rfl⟩, fun b hb => ?_, q⟩
    have e : b = s1.heap.objs.size := by simpa using hb
    subst e
    exact I1.fpOk (Nat.le_refl _) (I1.hok.fresh (Nat.le_refl _))
  · subst e
    cases r1
    obtain ⟨its, rv, p, hz⟩ := I1.tuple hq
    refine wpAny_pyIter_tuple (show s1.heap.IsTuple a its.toArray from p) ?_
    refine ⟨s1.heap.objs.size, [s1.heap.objs.size], _, _, H1, rfl, I1.kept (t' := s1.toks) fun b o e => Heap.get?_push_of_some _ e, turn_tuple a _, ⟨_, Heap.get?_push_size _ rfl, rfl, rfl⟩, fun b hb => ?_, q⟩
    have e : b = s1.heap.objs.size := by simpa using hb
    subst e
    exact I1.fpOk (Nat.le_refl _) (I1.hok.fresh (Nat.le_refl _))
  · subst e
    obtain ⟨t, rfl⟩ := r1
    cases ha : z.cps.all (· < 128)
    · exact wpAny_pyIter_wide ha (pi_one (tk := s1.toks) I1 _ (turn_str _ z t "str_iterator" (.inr rfl)) ⟨_, Heap.get?_push_size _ rfl, rfl, rfl⟩ q)
    · exact wpAny_pyIter_ascii ha (pi_one (tk := s1.toks) I1 _ (turn_str _ z t "str_ascii_iterator" (.inl rfl)) ⟨_, Heap.get?_push_size _ rfl, rfl, rfl⟩ q)
section
variable {K : PySem.W.Frag} {F H F' H' : Hp} {S T A B C : AS} {ρ e : Env} {σ : L2.St} {R : L2.It → Hp → Prop}
/-- the walk of a sequence that is frozen: F -/
theorem wok_froz {d : D} {ds : List D} {x : V} (fx : Fix F H S) (o : OR K cn F H (fun _ => False) d x) (hi : imm d = true) (e : items d = some ds) (R : L2.It → Hp → Prop) (h : ∀ J, Wok K cn F H S J ds → R J H) :
    (∃ a, x = .ref a ∧ (∃ xs, SqL K H a xs) ∧ R (Itl K a) H) ∨ (∃ a, x = .ref a ∧ (∃ xs, SqT K H a xs) ∧ R (Itt K a) H) ∨ (∃ z, x = .str z ∧ R (Its z) H) := by
  cases o with
  | str c => cases e; exact .inr (.inr ⟨_, rfl, h _ wok_str⟩)
  | tupF q r =>
    cases e
    rw [imm] at hi
    exact .inr (.inl ⟨_, rfl, ⟨_, Same.seqT fx.fh q⟩, h _ (wok_tup (fun H1 k => k.sqT q fx) r (imm_and hi).2)⟩)
  | lstF q r =>
    cases e
    rw [imm] at hi
    exact .inl ⟨_, rfl, ⟨_, .inl (Same.rd fx.fh q)⟩, h _ (wok_list (fun H1 k => k.sq (.inl q) fx) r (imm_and hi).2)⟩
  | scr q =>
    cases e
    exact .inl ⟨_, rfl, ⟨_, fx.fh.seq q⟩, h _ (wok_list (T := fun _ => False) (fun H1 k => k.sq q fx) ORs.ints imms_int)⟩
  | tupO q f e n l r => exact q.elim
  | lstO q f e n l r => exact q.elim
  | _ => cases e
theorem items_fz {d : D} {ds : List D} (h : items d = some ds) : items (fz d) = some (fzs ds) := by
  cases d with
  | tup o l => cases h; rfl
  | lst o l => cases h; rfl
  | str x =>
    cases h
    show some _ = some _
    congr 1
    induction x with
    | nil => rfl
    | cons a t ih => rw [List.map_cons, fzs, ← ih]; rfl
  | scr x =>
    cases h
    show some _ = some _
    congr 1
    induction x with
    | nil => rfl
    | cons a t ih => rw [List.map_cons, fzs, ← ih]; rfl
  | _ => cases h
theorem walk1_ok {has : Nat → Bool} {o : Opd} {x : V} {F1 H1 : Hp} (a : Aft F H S F1 H1 (A.or B)) (n : ∀ c, A c → B c → False) (r1 : OpdR K cn F1 H1 A σ o x) (s : SL K cn F1 H1 B ρ σ) (w : okW K cn F H S σ (walk1 has o ρ) R) :
    (∃ a, x = .ref a ∧ (∃ xs, SqL K H1 a xs) ∧ R (Itl K a) H1) ∨ (∃ a, x = .ref a ∧ (∃ xs, SqT K H1 a xs) ∧ R (Itt K a) H1) ∨ (∃ z, x = .str z ∧ R (Its z) H1) := by
  unfold walk1 at w
  cases o with
  | val d =>
    simp only at w
    cases e : items d with
    | none => simp only [e] at w; exact w.elim
    | some ds =>
      simp only [e] at w
      have r1' : OR K cn F1 H1 A d x := r1
      -- the whole list is frozen
      have dA : ∀ c, A c → F1 c = none := fun c z => a.dj c (.inl z)
      have fB : ∀ c, B c → Fz F1 H1 A c = none := fun c z => by rw [Fz.no fun q => n c q z]; exact a.dj c (.inr z)
      have o2 := r1'.froz (S' := fun _ => False) dA (fun _ z => z)
      have a2 : Aft F H S (Fz F1 H1 A) H1 B := (a.trans (F2 := Fz F1 H1 A) (H2 := H1) (S2 := B) ⟨Fz.up dA, Fz.le a.fh, fun _ _ q _ => q, fun c z => .inl (.inr z), fun c n' q => by
        by_cases w' : A c
        · exact .inl (.inl w')
        · rw [Fz.no w'] at q; exact absurd n' q, fB, fun c z => a.dm c (.inr z)⟩)
      refine wok_froz a2.fix o2 (imms_fzs.imm_fz d) (items_fz e) R fun J wk => ?_
      exact w J _ _ B (fun _ => False) (a2.sub fun c z => z.elim (fun y => y) fun y => y.elim) (fun _ _ z => z) (s.move (Fz.up dA) (fun _ _ => rfl) fB) trivial wk
  | ref i =>
    simp only at w
    have r1' : σ[i]? = some (some x) := r1
    cases e1 : look ρ i with
    | none => simp only [e1] at w; exact w.elim
    | some d =>
      simp only [e1] at w
      cases e : items d with
      | none => simp only [e] at w; exact w.elim
      | some ds =>
        simp only [e] at w
        have aB : Aft F H S F1 H1 B := a.sub fun _ => .inr
        by_cases hi : imm d = true
        · simp only [hi, if_true] at w
          obtain ⟨v, e2, o⟩ := s.at e1
          rw [r1'] at e2; cases e2
          refine wok_froz aB.fix (o.free hi) hi e R fun J wk => ?_
          exact w J _ _ B (fun _ => False) (aB.sub fun c z => z.elim (fun y => y) fun y => y.elim) (fun _ _ z => z) s trivial wk
        · simp only [if_neg hi] at w
          by_cases hh : (imms ds && !has i) = true
          · simp only [hh, if_true] at w
            rw [Bool.and_eq_true] at hh
            obtain ⟨v, A', B', b, e2, o, s'⟩ := s.take e1
            rw [r1'] at e2; cases e2
            have fin : ∀ J, Wok K cn F1 H1 B' J ds → R J H1 := fun J wk => w J F1 H1 B' A' (aB.sub fun c z => z.elim (b.r c) (b.l c)) (fun c y z => b.no c z y) s' ⟨x, r1', o⟩ wk
            cases o with
            | str c => exact absurd rfl hi
            | scr q => exact absurd rfl hi
            | lstF q r =>
              cases e
              exact absurd (by rw [imm, hh.1]; rfl) hi
            | tupF q r =>
              cases e
              exact absurd (by rw [imm, hh.1]; rfl) hi
            | @lstO _ T' a' _ vs sa f e3 nt l r =>
              cases e
              exact .inl ⟨_, rfl, ⟨_, SqL.of e3⟩, fin _ (wok_list (fun H2 k => SqL.of (k _ _ e3 fun z => b.no _ sa z)) r hh.1)⟩
            | @tupO _ T' a' _ vs sa f e3 nt l r =>
              cases e
              exact .inr (.inl ⟨_, rfl, ⟨_, SqT.of e3⟩, fin _ (wok_tup (fun H2 k => SqT.of (k _ _ e3 fun z => b.no _ sa z)) r hh.1)⟩)
            | _ => cases e
          · simp only [if_neg hh] at w
            obtain ⟨v, F2, B2, a2, e2, _, s2, o2⟩ := s.freeze aB.fix e1
            rw [r1'] at e2; cases e2
            have al : Aft F H S F2 H1 B2 := aB.trans a2
            refine wok_froz al.fix (o2 _) (imms_fzs.imm_fz d) (items_fz e) R fun J wk => ?_
            exact w J _ _ B2 (fun _ => False) (al.sub fun c z => z.elim (fun y => y) fun y => y.elim) (fun _ _ z => z) s2 trivial wk
theorem okW_bind {α : Type} {r : Res (Opd × Env)} {f : Opd × Env → Res Wk} (h : okW K cn F H S σ (r.bind f) R) {Q : VK}
    (k : ∀ p v F' H' (A B : AS), r = .ok p → Aft F H S F' H' (A.or B) → (∀ a, A a → B a → False) → OpdR K cn F' H' A σ p.1 v → SL K cn F' H' B p.2 σ → okW K cn F H S σ (f p) R → Q v H') : okO K cn F H S σ r Q := by
  cases r with
  | ok p => exact fun v F' H' A B a n o s => k p v F' H' A B rfl a n o s h
  | err c d e => exact h.elim
  | bad => exact h.elim
end
theorem pix_seq {tg x : Expr} {ea : Ex} {has : Nat → Bool} (ha : POx cn Φ X x ea) : PIx cn Φ X tg x has (.seq ea) := by
  refine PI.mono (pi_seq ha) fun σ H R ⟨F, S, ρ, fx, sl, w⟩ => ?_
  rw [evI] at w
  exact ⟨F, S, ρ, fx, sl, okW_bind (α := Unit) w fun p v F' H' A B _ a n o s q => walk1_ok a n o s q⟩
theorem OR.int_inv {K : PySem.W.Frag} {F H : Hp} {S : AS} {i : Int} {v : V} (h : OR K cn F H S (.int i) v) : v = .int i := by cases h; rfl
/-- range of one or two ends -/
theorem rngOf_inv {K : PySem.W.Frag} {F H : Hp} {S : AS} {σ : L2.St} {R : L2.It → Hp → Prop} {e : Env} {a b : Option D} (h : okW K cn F H S σ (rngOf e a b) R) :
    ∃ i j, a = some (.int i) ∧ b = some (.int j) ∧ (-(2 ^ 62) ≤ i ∧ i < 2 ^ 62 ∧ -(2 ^ 62) ≤ j ∧ j < 2 ^ 62) ∧ okW K cn F H S σ (.ok ⟨rangeD i j, e, none⟩) R := by
  unfold rngOf at h
  split at h
  · rename_i i j
    by_cases hr : (inR i && inR j) = true
    · rw [if_pos hr] at h
      rw [Bool.and_eq_true, inR, inR, Bool.and_eq_true, Bool.and_eq_true, decide_eq_true_eq, decide_eq_true_eq, decide_eq_true_eq, decide_eq_true_eq] at hr
      exact ⟨i, j, rfl, rfl, ⟨hr.1.1, hr.1.2, hr.2.1, hr.2.2⟩, h⟩
    · rw [if_neg hr] at h; exact h.elim
  · exact h.elim
theorem pix_rng1 {tg a : Expr} {eb : Ex} {has : Nat → Bool} {p pos : Pos} (hg : Gl X "range") (hm : X.mg "range" = none) (ha : POx cn Φ X a eb) (hs : notStar a = true) : PIx cn Φ X tg (.Call (.Name "range" p) [a] [] pos) has (.rng (.lit (.int 0)) eb) := by
  refine PI.mono (pi_range1 hg hm (pa_cons ha pa_nil (star_cons hs)) (by rw [star_cons hs]; rfl)) fun σ H R ⟨F, S, ρ, fx, sl, w⟩ => ?_
  rw [evI] at w
  have w' : okW X.K cn F H S σ ((opd eb ρ (evE Φ eb ρ)).bind fun y => rngOf y.2 (some (.int 0)) (y.1.get y.2)) R := w
  refine ⟨F, S, ρ, fx, sl, okW_bind (α := Unit) w' fun p v F' H' A B _ a n o s q => ?_⟩
  obtain ⟨i, j, e0, e, hb, w2⟩ := rngOf_inv q
  cases e0
  have ov := (o.get s e (S := A.or B) (fun _ => .inl) fun _ => .inr).int_inv
  subst ov
  refine ⟨j, rfl, hb.2.2.1, hb.2.2.2, ?_⟩
  refine w2 (Itr 0 j.toNat) F' H' B (fun _ => False) (a.sub fun c z => z.elim .inr fun y => y.elim) (fun _ _ z => z) s trivial ?_
  have hz : rangeD 0 j = (List.range j.toNat).map fun k => D.int (0 + (k : Nat)) := by unfold rangeD; rw [Int.sub_zero]
  show Wok _ _ _ _ _ _ (rangeD 0 j)
  rw [hz]
  exact wok_range
theorem pix_rng2 {tg a b : Expr} {ea eb : Ex} {has : Nat → Bool} {p pos : Pos} (hg : Gl X "range") (hm : X.mg "range" = none) (ha : POx cn Φ X a ea) (hb : POx cn Φ X b eb) (hs : notStar a = true) (hs2 : notStar b = true) : PIx cn Φ X tg (.Call (.Name "range" p) [a, b] [] pos) has (.rng ea eb) := by
  refine PI.mono (pi_range2 hg hm (pa_cons ha (pa_cons hb pa_nil (star_cons hs2)) (star_cons hs)) (by rw [star_cons hs, star_cons hs2]; rfl) (by rw [star_cons hs2]; rfl)) fun σ H R ⟨F, S, ρ, fx, sl, w⟩ => ?_
  rw [evI] at w
  refine ⟨F, S, ρ, fx, sl, okW_bind (α := Unit) w fun p x F1 H1 A1 B1 _ a1 n1 o1 s1 w1 => ?_⟩
  refine ⟨F1, B1, p.2, a1.fix.sub fun _ => .inr, s1, ?_⟩
  show okO _ _ _ _ _ _ (opd eb p.2 (evE Φ eb p.2)) _
  cases eq : opd eb p.2 (evE Φ eb p.2) with
  | err c d e => rw [eq] at w1; exact w1.elim
  | bad => rw [eq] at w1; exact w1.elim
  | ok r =>
    rw [eq] at w1
    simp only [Res.bind] at w1
    intro y F2 H2 A2 B2 a2 n2 o2 s2
    have fr := a2.frame (a1.fix.sub (T := A1) fun _ => .inl) fun a y z => n1 a z y
    have al : Aft F H S F2 H2 ((A2.or B2).or A1) := a1.trans (Aft.trans (Aft.sub (Aft.refl a1.fix) fun c z => z.elim .inr .inl) fr.aft)
    have o1' := o1.keep fr a2.ff
    obtain ⟨i, j, e1, e2, hb, w2⟩ := rngOf_inv w1
    have v1 := (o1'.get s2 e1 (S := (A2.or B2).or A1) (fun _ => .inr) fun _ z => .inl (.inr z)).int_inv
    have v2 := (o2.get s2 e2 (S := (A2.or B2).or A1) (fun _ z => .inl (.inl z)) fun _ z => .inl (.inr z)).int_inv
    subst v1 v2
    exact ⟨i, j, rfl, hb, w2 (Itr i (j - i).toNat) F2 H2 B2 (fun _ => False) (al.sub fun c z => z.elim (fun y => .inl (.inr y)) fun y => y.elim) (fun _ _ z => z) s2 trivial wok_range⟩

/-- zip of two texts -/
theorem zipOf_inv {K : PySem.W.Frag} {F H : Hp} {S : AS} {σ : L2.St} {R : L2.It → Hp → Prop} {e : Env} {a b : Option D} (h : okW K cn F H S σ (zipOf e a b) R) :
    ∃ x y, a = some (.str x) ∧ b = some (.str y) ∧ okW K cn F H S σ (.ok ⟨pairs (x.map fun c => .str [c]) (y.map fun c => .str [c]), e, none⟩) R := by
  unfold zipOf at h
  split at h
  · exact ⟨_, _, rfl, rfl, h⟩
  · exact h.elim
theorem OR.str_inv {K : PySem.W.Frag} {F H : Hp} {S : AS} {x : List Nat} {v : V} (h : OR K cn F H S (.str x) v) : v = .str ⟨x.toArray⟩ := by cases h; rfl
theorem pairs_len : ∀ {xs ys : List D}, (pairs xs ys).length = min xs.length ys.length
  | [], _ => by rw [pairs]; simp; intros; contradiction
  | _ :: _, [] => by rw [pairs]; simp; intros; contradiction
  | x :: xs, y :: ys => by rw [pairs, List.length_cons, pairs_len]; simp only [List.length_cons]; omega
theorem pairs_at : ∀ {xs ys : List D} {i : Nat} {d : D}, (pairs xs ys)[i]? = some d → ∃ a b, xs[i]? = some a ∧ ys[i]? = some b ∧ d = .tup false [a, b]
  | [], _, i, d, h => by rw [pairs] at h; simp at h; intros; contradiction
  | _ :: _, [], i, d, h => by rw [pairs] at h; simp at h; intros; contradiction
  | x :: xs, y :: ys, 0, d, h => by rw [pairs] at h; simp at h; exact ⟨x, y, rfl, rfl, h.symm⟩
  | x :: xs, y :: ys, i + 1, d, h => by
    rw [pairs] at h
    obtain ⟨a, b, e1, e2, e3⟩ := pairs_at (i := i) (by simpa using h)
    exact ⟨a, b, by simpa using e1, by simpa using e2, e3⟩
section
variable {K : PySem.W.Frag} {F H : Hp} {S T : AS}
theorem wok_zip {x y : List Nat} : Wok K cn F H S (ZS.ItzS ⟨x.toArray⟩ ⟨y.toArray⟩) (pairs (x.map fun c => .str [c]) (y.map fun c => .str [c])) := by
  refine ⟨fun i H1 hlt k => ?_, fun H1 k => ?_, fun i H1 v H2 F1 d hd k f1 f2 y' => ?_⟩
  · rw [pairs_len, List.length_map, List.length_map] at hlt
    exact ⟨by show i < x.toArray.size; simp; omega, by show i < y.toArray.size; simp; omega⟩
  · rw [pairs_len, List.length_map, List.length_map]
    show min _ _ = x.toArray.size ∨ (min _ _ < x.toArray.size ∧ min _ _ = y.toArray.size)
    simp only [List.size_toArray]
    omega
  · obtain ⟨a, b, e1, e2, rfl⟩ := pairs_at hd
    obtain ⟨P, c, e, rfl, hn, rfl, g1, g2⟩ := y'
    have g1' : x[i]? = some c := by simpa using g1
    have g2' : y[i]? = some e := by simpa using g2
    rw [List.getElem?_map, g1'] at e1
    rw [List.getElem?_map, g2'] at e2
    cases e1
    cases e2
    have N := New.frz (o := .tup [.str ⟨#[c]⟩, .str ⟨#[e]⟩]) f2 hn
    refine ⟨_, N, ?_⟩
    refine .tupF (.inl (.inl upd_same)) ?_
    have no : ∀ {A B : AS}, Apart (fun _ => False) (fun _ => False) (fun _ : Addr => False) := ⟨fun _ z => z.elim, fun _ z => z.elim, fun _ z => z.elim⟩
    exact .cons (A := fun _ => False) (B := fun _ => False) ⟨fun _ z => z.elim, fun _ z => z.elim, fun _ z => z.elim⟩ (OR.str [c]) (.cons (A := fun _ => False) (B := fun _ => False) ⟨fun _ z => z.elim, fun _ z => z.elim, fun _ z => z.elim⟩ (OR.str [e]) .nil)
end
theorem pix_zip {elts : List Expr} {kk : Nat} {tpos : Pos} {a b : Expr} {ea eb : Ex} {has : Nat → Bool} {p pos : Pos} (hg : Gl X "zip") (hm : X.mg "zip" = none) (ha : POx cn Φ X a ea) (hb : POx cn Φ X b eb) (hs : notStar a = true) (hs2 : notStar b = true) :
    PIx cn Φ X (.Tuple elts kk tpos) (.Call (.Name "zip" p) [a, b] [] pos) has (.zip ea eb) := by
  refine PI.mono (ZS.pi_zipS hg hm (pa_cons ha (pa_cons hb pa_nil (star_cons hs2)) (star_cons hs)) (by rw [star_cons hs]) (by rw [star_cons hs2]; rfl)) fun σ H R ⟨F, S, ρ, fx, sl, w⟩ => ?_
  rw [evI] at w
  refine ⟨F, S, ρ, fx, sl, okW_bind (α := Unit) w fun p x F1 H1 A1 B1 _ a1 n1 o1 s1 w1 => ?_⟩
  refine ⟨F1, B1, p.2, a1.fix.sub fun _ => .inr, s1, ?_⟩
  show okO _ _ _ _ _ _ (opd eb p.2 (evE Φ eb p.2)) _
  cases eq : opd eb p.2 (evE Φ eb p.2) with
  | err c d e => rw [eq] at w1; exact w1.elim
  | bad => rw [eq] at w1; exact w1.elim
  | ok r =>
    rw [eq] at w1
    simp only [Res.bind] at w1
    intro y F2 H2 A2 B2 a2 n2 o2 s2
    have fr := a2.frame (a1.fix.sub (T := A1) fun _ => .inl) fun a y z => n1 a z y
    have al : Aft F H S F2 H2 ((A2.or B2).or A1) := a1.trans (Aft.trans (Aft.sub (Aft.refl a1.fix) fun c z => z.elim .inr .inl) fr.aft)
    obtain ⟨u, v, e1, e2, w2⟩ := zipOf_inv w1
    have v1 := ((o1.keep fr a2.ff).get s2 e1 (S := (A2.or B2).or A1) (fun _ => .inr) fun c z => .inl (.inr z)).str_inv
    have v2 := (o2.get s2 e2 (S := (A2.or B2).or A1) (fun c z => .inl (.inl z)) fun c z => .inl (.inr z)).str_inv
    subst v1
    subst v2
    exact ⟨_, _, rfl, w2 _ F2 H2 B2 (fun _ => False) (al.sub fun c z => z.elim (fun q => .inl (.inr q)) fun y => y.elim) (fun _ _ z => z) s2 trivial wok_zip⟩
end DL

namespace DL
open PySem PySem.Spec PyProof.Rows L2
variable {cn : CN} {Φ : Tb} {X : Cx}
section
variable {K : PySem.W.Frag} {F H F' H' F1 H1 : Hp} {S T A B C U : AS} {ρ e : Env} {σ : L2.St}
theorem SL.both {i : Nat} (x : Option V) (s : SL K cn F H S ρ σ) : SL K cn F H S (ρ.set i none) (σ.set i x) := (s.drop i).any x
theorem SL.wipe : ∀ {is : List Nat}, SL K cn F H S ρ σ → SL K cn F H S (wipeE ρ is) (L2.wipe σ is)
  | [], s => s
  | i :: is, s => (s.wipe (is := is)).both none
theorem wipe_sub : ∀ {js is : List Nat} {σ : L2.St}, (∀ j ∈ js, j ∈ is) → L2.wipe (L2.wipe σ js) is = L2.wipe σ is
  | [], _, _, _ => rfl
  | j :: js, is, σ, h => by
    show L2.wipe ((L2.wipe σ js).set j none) is = _
    rw [wipe_comm (h j List.mem_cons_self)]
    exact wipe_sub fun k hk => h k (List.mem_cons_of_mem _ hk)
theorem ORs.snoc : ∀ {ds : List D} {vs : List V} {A : AS} {d : D} {v : V}, ORs K cn F H A ds vs → OR K cn F H B d v → (∀ a, A a → B a → False) → ORs K cn F H (A.or B) (ds ++ [d]) (vs ++ [v])
  | _, _, A, d, v, .nil, o, n => .cons (A := B) (B := fun _ => False) ⟨fun _ => .inr, fun _ z => z.elim, fun _ _ z => z⟩ o .nil
  | _, _, A, d, v, .cons (A := P) (B := R) a x y, o, n => .cons (A := P) (B := R.or B) ⟨fun c z => .inl (a.l c z), fun c z => z.elim (fun w => .inl (a.r c w)) .inr, fun c z w => w.elim (a.no c z) (n c (a.l c z))⟩ x (y.snoc o fun c z => n c (a.r c z))
theorem Aft.put {p : Addr} {o : HO} (h : Aft F H S F1 H1 U) (hp : U p) : Aft F H S F1 (upd H1 p o) U := by
  have hn := h.dj p hp
  refine ⟨h.ff, fun b x e => ?_, fun a x e n => ?_, h.ow, h.nw, h.dj, fun a z => ?_⟩
  · rw [upd_ne (ne_of_none e hn)]
    exact h.fh b x e
  · have hne : a ≠ p := fun q => by
      subst q
      exact (h.ow a hp).elim n fun w => by rw [e] at w; cases w
    rw [upd_ne hne]
    exact h.fr a x e n
  · by_cases hne : a = p
    · subst hne; rw [upd_same]; exact fun q => by cases q
    · rw [upd_ne hne]; exact h.dm a z
theorem backE_set {e0 : Env} {i : Nat} {a z : Option D} : ∀ {is : List Nat} {ρ : Env}, (backE e0 (ρ.set i a) is).set i z = (backE e0 ρ is).set i z
  | [], ρ => by
    show (ρ.set i a).set i z = ρ.set i z
    rw [List.set_set]
  | j :: js, ρ => by
    show ((backE e0 (ρ.set i a) js).set j (look e0 j)).set i z = ((backE e0 ρ js).set j (look e0 j)).set i z
    by_cases h : j = i
    · subst h
      rw [List.set_set, List.set_set, backE_set]
    · rw [List.set_comm _ _ h, List.set_comm _ _ h, backE_set]
theorem set_self {α : Type} : ∀ {l : List α} {i : Nat} {x : α}, l[i]? = some x → l.set i x = l
  | [], _, _, h => by simp at h
  | a :: l, 0, x, h => by simp at h; subst h; rfl
  | a :: l, i + 1, x, h => by
    show a :: l.set i x = a :: l
    rw [set_self (by simpa using h)]
theorem SL.unwipe {e0 : Env} : ∀ {is : List Nat} {ρ : Env}, SL K cn F H S ρ (L2.wipe σ is) → (∀ i ∈ is, ∀ d, look e0 i = some d → ∃ v, σ[i]? = some (some v) ∧ OR K cn F H (fun _ => False) d v) → SL K cn F H S (backE e0 ρ is) σ
  | [], ρ, s, _ => s
  | i :: is, ρ, s, h => by
    have s1 : SL K cn F H S (ρ.set i none) (L2.wipe σ is) := by
      cases e : (L2.wipe σ is)[i]? with
      | none =>
        have l : (L2.wipe σ is).length ≤ i := List.getElem?_eq_none_iff.mp e
        have s' : SL K cn F H S ρ ((L2.wipe σ is).set i none) := s
        rw [List.set_eq_of_length_le l] at s'
        exact s'.drop i
      | some x =>
        have s' : SL K cn F H S ρ ((L2.wipe σ is).set i none) := s
        have := s'.both (i := i) x
        rw [List.set_set, set_self e] at this
        exact this
    have ih := s1.unwipe fun j hj => h j (List.mem_cons_of_mem _ hj)
    show SL K cn F H S ((backE e0 ρ is).set i (look e0 i)) σ
    rw [← backE_set (a := none)]
    cases e : look e0 i with
    | none => exact ih.drop i
    | some d =>
      obtain ⟨v, e1, o⟩ := h i List.mem_cons_self d e
      exact ((ih.drop i).back o (fun _ z => z.elim) e1).mono fun c z => z.elim (fun q => q.elim) fun q => q
theorem immAt_at {e0 : Env} {is : List Nat} (h : immAt e0 is = true) {i : Nat} (hi : i ∈ is) {d : D} (e : look e0 i = some d) : imm d = true := by
  unfold immAt at h
  rw [List.all_eq_true] at h
  have := h i hi
  rw [e] at this
  exact this
end
theorem PTs.mono {ifs : List Expr} {t t' : TT} (h : PTs X ifs t) (k : ∀ σ H Q, t' σ H Q → t σ H Q) : PTs X ifs t' := ⟨fun pins s σ H Q I w => h.run pins s σ H Q I (k σ H Q w)⟩
def PTsx (cn : CN) (Φ : Tb) (X : Cx) (ifs : List Expr) (t : Tx) : Prop := PTs X ifs (tT X.K cn (evT Φ t))
theorem ptsx_nil : PTsx cn Φ X [] .yes := PTs.mono pts_nil fun σ H Q ⟨F, S, ρ, fx, sl, w⟩ => by
  rw [evT] at w
  exact w F H S (Aft.refl fx) sl
theorem ptsx_one {c : Expr} {t : Tx} (h : PTx cn Φ X c t) : PTsx cn Φ X [c] t := pts_one h

theorem lc_mono {wi : TI} {is : List Nat} {ee : Ex} {tc : Tx} {it : It} {has : Nat → Bool} {K : PySem.W.Frag} {F H : Hp} {S : AS} {ρ : Env} {σ : L2.St} {Q : VK} (fx : Fix F H S) (sl : SL K cn F H S ρ σ)
    (w : okE K cn F H S σ ((evI Φ has it ρ).bind fun w => if immAt w.e is then
      (loopC is (fun e => evT Φ tc e) (fun e => evE Φ ee e) w.ds (wipeE w.e is) []).bind fun r => .ok (.lst true r.1, unhide w.hid (backE w.e r.2 is)) else .bad) Q) :
    tLc (tI K cn (evI Φ has it)) (tG K cn is) (tT K cn (evT Φ tc)) (tE K cn (evE Φ ee)) is σ H Q := by
  refine ⟨F, S, ρ, fx, sl, ?_⟩
  cases ei : evI Φ has it ρ with
  | err c d e => rw [ei] at w; exact w.elim
  | bad => rw [ei] at w; exact w.elim
  | ok wk =>
    rw [ei] at w
    simp only [Res.bind] at w
    intro J F1 H1 B T a1 n1 s1 hid wok D hD
    by_cases him : immAt wk.e is = true
    · rw [if_pos him] at w
      cases eL : loopC is (fun e => evT Φ tc e) (fun e => evE Φ ee e) wk.ds (wipeE wk.e is) [] with
      | err c d e => rw [eL] at w; exact w.elim
      | bad => rw [eL] at w; exact w.elim
      | ok R0 =>
        rw [eL] at w
        simp only at w
        have fx1 : Fix F1 H1 B := a1.fix.sub fun _ => .inl
        let Pv : Nat → Hp → Prop := fun i Hc => ∃ F2 A B2 ρ2 acc vs, Aft F1 H1 B F2 Hc (AS.or (fun a => a = D) (A.or B2)) ∧ Hc D = some (.lst vs) ∧ ORs K cn F2 Hc A acc vs ∧ ¬ A D ∧ ¬ B2 D ∧ (∀ a, A a → B2 a → False) ∧
          SL K cn F2 Hc B2 ρ2 (L2.wipe σ is) ∧ loopC is (fun e => evT Φ tc e) (fun e => evE Φ ee e) (wk.ds.drop i) ρ2 acc = .ok R0
        refine ⟨fun i m Hc => m = wk.ds.length - i ∧ i ≤ wk.ds.length ∧ Pv i Hc, ⟨wk.ds.length, by simp, Nat.zero_le _, ?_⟩, ?_⟩
        · -- the start
          have N := New.own (o := .lst []) fx1.fh hD
          obtain ⟨a2, n2⟩ := N.aft fx1
          obtain ⟨m1, m2⟩ := N.move fx1
          refine ⟨F1, fun _ => False, B, wipeE wk.e is, [], [], a2.sub fun c z => z.elim .inl fun y => y.elim (fun q => q.elim) .inr, upd_same, .nil, fun z => z, not_S fx1 hD, fun _ z => z.elim, (s1.move N.ff m1 m2).wipe, ?_⟩
          simpa using eL
        · rintro i m Hc ⟨rfl, hi, F2, A, B2, ρ2, acc, vs, a2, eD, oa, nA, nB, nAB, s2, el⟩
          have kp : Keeps H1 B Hc := fun a o e n => a2.fr a o e n
          by_cases hlt : i < wk.ds.length
          · refine .inr ⟨wok.goes i Hc hlt kp, Pv (i + 1), fun H' p' => ⟨wk.ds.length - (i + 1), by omega, rfl, hlt, p'⟩, fun x H3 y => ?_⟩
            obtain ⟨d, hd⟩ : ∃ d, wk.ds[i]? = some d := ⟨wk.ds[i], by simp [hlt]⟩
            rw [show wk.ds.drop i = d :: wk.ds.drop (i + 1) by
              rw [List.drop_eq_getElem_cons hlt]
              congr 1
              rw [List.getElem?_eq_getElem hlt] at hd
              exact Option.some.inj hd] at el
            obtain ⟨F3, N, ox⟩ := wok.yields i Hc x H3 F2 d hd kp a2.ff a2.fh y
            have fx2 := a2.fix
            obtain ⟨m1, m2⟩ := N.move fx2
            have a3 : Aft F1 H1 B F3 H3 (AS.or (fun a => a = D) (A.or B2)) := a2.trans ((N.aft fx2).1.sub fun c z => .inr z)
            have eD3 : H3 D = some (.lst vs) := N.hh _ _ eD
            have oa3 : ORs K cn F3 H3 A acc vs := oa.move N.ff (fun c z => m1 c (.inr (.inl z))) fun c z => m2 c (.inr (.inl z))
            have s3 : SL K cn F3 H3 B2 ρ2 (L2.wipe σ is) := s2.move N.ff (fun c z => m1 c (.inr (.inr z))) fun c z => m2 c (.inr (.inr z))
            rw [loopC] at el
            cases eb : bindT is d ρ2 with
            | none => simp only [eb] at el; cases el
            | some e1 =>
              simp only [eb] at el
              refine ⟨F3, B2, ρ2, d, e1, a3.fix.sub fun c z => .inr (.inr z), s3, ox, eb, fun σ' s4 hw => ⟨by rw [hw]; exact wipe_sub fun j h => h, ?_⟩⟩
              have hw' : L2.wipe σ' is = L2.wipe σ is := by rw [hw]; exact wipe_sub fun j h => h
              refine ⟨F3, B2, e1, a3.fix.sub fun c z => .inr (.inr z), s4, ?_⟩
              cases et : evT Φ tc e1 with
              | err c d e => rw [et] at el; cases el
              | bad => rw [et] at el; cases el
              | ok p =>
                obtain ⟨b, e2⟩ := p
                rw [et] at el
                simp only [Res.bind] at el
                intro F4 H4 B4 a4 s5
                have fr4 := a4.frame (T := AS.or (fun a => a = D) A) (a3.fix.sub fun c z => z.elim .inl fun q => .inr (.inl q)) fun c z q => q.elim (fun w => nB (w ▸ z)) fun w => nAB c w z
                have a5 : Aft F1 H1 B F4 H4 (AS.or (fun a => a = D) (A.or B4)) := a3.trans ((Aft.trans (Aft.sub (Aft.refl a3.fix) fun c z => z.elim (fun q => .inr (.inr q)) fun q => q.elim .inl fun w => .inr (.inl w)) fr4.aft).sub fun c z => z.elim (fun q => .inr (.inl q)) fun q => q.elim (fun w => .inr (.inr w)) .inl)
                have eD4 : H4 D = some (.lst vs) := (fr4.h D (.inl rfl)).trans eD3
                have oa4 : ORs K cn F4 H4 A acc vs := oa3.move a4.ff (fun c z => fr4.h c (.inr z)) fun c z => fr4.f c (.inr z)
                cases b with
                | false =>
                  simp only [Bool.false_eq_true, if_false] at el ⊢
                  refine ⟨F4, A, B4, wipeE e2 is, acc, vs, a5, eD4, oa4, nA, fun z => fr4.no D z (.inl rfl), fun c z q => fr4.no c q (.inr z), ?_, el⟩
                  rw [← hw']
                  exact s5.wipe
                | true =>
                  simp only [if_true] at el ⊢
                  refine ⟨F4, B4, e2, a4.fix, s5, ?_⟩
                  cases ev : evE Φ ee e2 with
                  | err c d e => rw [ev] at el; cases el
                  | bad => rw [ev] at el; cases el
                  | ok r =>
                    obtain ⟨r, e3⟩ := r
                    rw [ev] at el
                    simp only at el
                    intro yv F5 H5 A5 B5 a6 n6 o6 s6
                    by_cases hl : okLen acc.length = true
                    · rw [if_pos hl] at el
                      have fr6 := a6.frame (T := AS.or (fun a => a = D) A) (a5.fix.sub fun c z => z.elim .inl fun q => .inr (.inl q)) fun c z q => q.elim (fun w => fr4.no c z (.inl w)) fun w => fr4.no c z (.inr w)
                      have a7 : Aft F1 H1 B F5 H5 (AS.or (fun a => a = D) ((A.or A5).or B5)) := a5.trans ((Aft.trans (Aft.sub (Aft.refl a5.fix) fun c z => z.elim (fun q => .inr (.inr q)) fun q => q.elim .inl fun w => .inr (.inl w)) fr6.aft).sub
                        fun c z => z.elim (fun q => .inr (.inl q)) fun q => q.elim (fun w => w.elim (fun u => .inr (.inr u)) fun u => .inl (.inl u)) fun w => .inl (.inr w))
                      have eD5 : H5 D = some (.lst vs) := (fr6.h D (.inl rfl)).trans eD4
                      have oa5 : ORs K cn F5 H5 A acc vs := oa4.move a6.ff (fun c z => fr6.h c (.inr z)) fun c z => fr6.f c (.inr z)
                      have hne : ∀ {c : Addr}, (A c ∨ A5 c) ∨ B5 c → c ≠ D := fun {c} z q => by
                        subst q
                        rcases z with (z | z) | z
                        · exact nA z
                        · exact fr6.no _ (.inl z) (.inl rfl)
                        · exact fr6.no _ (.inr z) (.inl rfl)
                      refine ⟨vs, eD5, by rw [← oa5.len]; exact okLen_lt hl, F5, A.or A5, B5, wipeE e3 is, acc ++ [r], vs ++ [yv], a7.put (.inl rfl), upd_same, ?_, fun z => hne (.inl z) rfl, fun z => hne (.inr z) rfl, fun c z q => z.elim (fun w => fr6.no c (.inr q) (.inr w)) fun w => n6 c w q, ?_, el⟩
                      · refine (oa5.snoc o6 fun c z q => fr6.no c (.inl q) (.inr z)).move (Same.refl _) (fun c z => upd_ne (hne (.inl z))) fun c z => a7.dj c (.inr (.inl z))
                      · rw [← hw']
                        exact (s6.move (Same.refl _) (fun c z => upd_ne (hne (.inr z))) fun c z => a7.dj c (.inr (.inr z))).wipe
                    · rw [if_neg hl] at el; cases el
          · -- the end
            have ei : i = wk.ds.length := by omega
            subst ei
            refine .inl ⟨wok.stops Hc kp, ?_⟩
            rw [List.drop_length, loopC] at el
            injection el with el
            subst el
            have fr := a2.frame (T := T) (a1.fix.sub fun _ => .inr) fun c z q => n1 c z q
            have al := a1.trans fr.aft
            refine w (.ref D) F2 Hc (AS.or (fun a => a = D) A) (B2.or T) (al.sub fun c z => z.elim (fun q => .inl (q.elim .inl fun w => .inr (.inl w))) fun q => q.elim (fun w => .inl (.inr (.inr w))) .inr) (fun c z q => ?_) (.lstO (T := A) (.inl rfl) (a2.dj D (.inl rfl)) eD nA (fun _ => .inr) oa) ?_
            · rcases z with z | z
              · rcases q with q | q
                · exact nB (z ▸ q)
                · exact fr.no c (.inl z) q
              · rcases q with q | q
                · exact nAB c z q
                · exact fr.no c (.inr (.inl z)) q
            · have sb : SL K cn F2 Hc B2 (backE wk.e ρ2 is) σ := s2.unwipe fun j hj d hd => by
                obtain ⟨v, e1, o⟩ := s1.at hd
                exact ⟨v, e1, (OR.free (S' := fun _ => False) (H' := Hc) (immAt_at him hj hd) o).move a2.ff (fun _ z => z.elim) fun _ z => z.elim⟩
              cases hh : wk.hid with
              | none => exact sb.mono fun _ => .inl
              | some p =>
                obtain ⟨j, dj⟩ := p
                rw [hh] at hid
                obtain ⟨v, e1, o⟩ := hid
                show SL K cn F2 Hc (B2.or T) ((backE wk.e ρ2 is).set j (some dj)) σ
                exact ((sb.drop j).back (fr.or a2.ff o) (fun c z q => fr.no c (.inr (.inr q)) z) e1).mono fun c z => z.elim .inr .inl
    · rw [if_neg him] at w; exact w.elim
theorem pex_lc {elt tg iter : Expr} {ifs : List Expr} {scope : Scope} {own : List (Str × Nat)} {pos : Pos} {is : List Nat} {ee : Ex} {it : It} {tc : Tx} (hc : X.calm = true) (hN : X.N.Nodup) (hi : PIx cn Φ X tg iter (fun i => ee.has i || is.contains i || tc.has i) it) (ok : BlkOk X.N X.env.scope scope own) (hw : own.map (·.2) = is)
    (hg : ∀ (s : Shared) (H : Hp) (C : Addr) (cl : List (Str × Addr)) (fp : List Addr), PGx cn (X.blk s H scope (compEnvC scope cl C X.env) fp) tg is) (ht : ∀ (s : Shared) (H : Hp) (C : Addr) (cl : List (Str × Addr)) (fp : List Addr), PTsx cn Φ (X.blk s H scope (compEnvC scope cl C X.env) fp) ifs tc)
    (he : ∀ (s : Shared) (H : Hp) (C : Addr) (cl : List (Str × Addr)) (fp : List Addr), PEx cn Φ (X.blk s H scope (compEnvC scope cl C X.env) fp) elt ee) (hs : ∀ x, foldedSetIterable iter X.env x = pure x) :
    PEx cn Φ X (.ListComp elt [⟨tg, iter, ifs, 0⟩] scope pos) (.lc ee is it tc) := by
  refine PE.mono (pe_lc (g := tG X.K cn is) (tt := tT X.K cn (evT Φ tc)) (te := tE X.K cn (evE Φ ee)) hc hN hi ok hg ht he hs) fun σ H Q ⟨F, S, ρ, fx, sl, w⟩ => ?_
  rw [evE] at w
  rw [hw]
  exact lc_mono (wi := fun _ _ _ => True) fx sl w
end DL

namespace DL
open PySem PySem.Spec PyProof.Rows L2
variable {cn : CN} {Φ : Tb} {X : Cx} {lk : List Bool}

def Lk (lk : List Bool) (σ σ' : L2.St) : Prop := ∀ i, lkAt lk i = true → σ'[i]? = σ[i]?
theorem Lk.refl {σ : L2.St} : Lk lk σ σ := fun _ _ => rfl
theorem Lk.trans {σ σ1 σ2 : L2.St} (h : Lk lk σ σ1) (k : Lk lk σ1 σ2) : Lk lk σ σ2 := fun i l => (k i l).trans (h i l)
theorem Lk.set {σ : L2.St} {i : Nat} {x : Option V} (h : lkAt lk i = false) : Lk lk σ (σ.set i x) := fun j l => by
  have : i ≠ j := fun e => by subst e; rw [h] at l; cases l
  rw [List.getElem?_set_ne this]
section
variable (K : PySem.W.Frag) (cn : CN) (lk : List Bool)
def okS (F H : Hp) (S : AS) (σ : L2.St) (o : Out) (D : Ends) : Prop := match o with
  | .nx ρ' => ∀ σ' F' H' B, Aft F H S F' H' B → SL K cn F' H' B ρ' σ' → Lk lk σ σ' → D.nx σ' H'
  | .brk ρ' => ∀ σ' F' H' B, Aft F H S F' H' B → SL K cn F' H' B ρ' σ' → Lk lk σ σ' → D.bk σ' H'
  | .cnt ρ' => ∀ σ' F' H' B, Aft F H S F' H' B → SL K cn F' H' B ρ' σ' → Lk lk σ σ' → D.ct σ' H'
  | .ret d ρ' => ∀ v σ' F' H' (A B : AS), Aft F H S F' H' (A.or B) → (∀ a, A a → B a → False) → OR K cn F' H' A d v → SL K cn F' H' B ρ' σ' → Lk lk σ σ' → D.rt v H'
  | _ => False
def tSx (f : Env → Out) : TS := fun D σ H => ∃ F S ρ, Fix F H S ∧ SL K cn F H S ρ σ ∧ okS K cn lk F H S σ (f ρ) D
end
def PSx (cn : CN) (Φ : Tb) (lk : List Bool) (X : Cx) (st : Stmt) (s : Sx) : Prop := PS X st (tSx X.K cn lk (evS Φ lk s))
def PSsx (cn : CN) (Φ : Tb) (lk : List Bool) (X : Cx) (st : List Stmt) (s : Ss) : Prop := PSs X st (tSx X.K cn lk (evB Φ lk s))
section
variable {K : PySem.W.Frag} {F H F' H' F1 H1 : Hp} {S T A B C U : AS} {ρ e : Env} {σ σ1 : L2.St} {D D' : Ends} {o : Out}
theorem okS_from {S1 : AS} (a : Aft F H S F1 H1 S1) (l : Lk lk σ σ1) (h : okS K cn lk F H S σ o D) : okS K cn lk F1 H1 S1 σ1 o D := by
  cases o with
  | nx ρ => exact fun σ' F' H' B a' s l' => h σ' F' H' B (a.trans a') s (l.trans l')
  | brk ρ => exact fun σ' F' H' B a' s l' => h σ' F' H' B (a.trans a') s (l.trans l')
  | cnt ρ => exact fun σ' F' H' B a' s l' => h σ' F' H' B (a.trans a') s (l.trans l')
  | ret d ρ => exact fun v σ' F' H' A B a' n o s l' => h v σ' F' H' A B (a.trans a') n o s (l.trans l')
  | _ => exact h
theorem okS_expr {r : Res (DL.D × Env)} {f : DL.D × Env → Out} (h : okS K cn lk F H S σ (r.out f) D) {Q : VK}
    (k : ∀ p v F' H' (A B : AS), r = .ok p → Aft F H S F' H' (A.or B) → (∀ a, A a → B a → False) → OR K cn F' H' A p.1 v → SL K cn F' H' B p.2 σ → okS K cn lk F H S σ (f p) D → Q v H') : okE K cn F H S σ r Q := by
  cases r with
  | ok p => exact fun v F' H' A B a n o s => k p v F' H' A B rfl a n o s h
  | err c d e => exact h
  | bad => exact h
theorem okS_test {r : Res (Bool × Env)} {f : Bool × Env → Out} (h : okS K cn lk F H S σ (r.out f) D) {Q : Bool → Hp → Prop}
    (k : ∀ p F' H' B, r = .ok p → Aft F H S F' H' B → SL K cn F' H' B p.2 σ → okS K cn lk F H S σ (f p) D → Q p.1 H') : okT K cn F H S σ r Q := by
  cases r with
  | ok p => exact fun F' H' B a s => k p F' H' B rfl a s h
  | err c d e => exact h
  | bad => exact h
theorem SL.store {i : Nat} {d : DL.D} {v : V} (s : SL K cn F H B ρ σ) (o : OR K cn F H A d v) (n : ∀ a, A a → B a → False) : SL K cn F H (A.or B) (ρ.set i (some d)) (σ.set i (some v)) := by
  by_cases l : i < ρ.length
  · exact (s.drop i).give o n l
  · rw [List.set_eq_of_length_le (by omega), List.set_eq_of_length_le (by rw [← s.len]; omega)]
    exact s.mono fun _ => .inr
end
/-- not a comprehension -/
def notComp : Expr → Bool
  | .ListComp .. => false
  | .SetComp .. => false
  | .DictComp .. => false
  | _ => true
theorem sw_false {e : Expr} {t : Option Expr} {l : Nat} {env : PySem.Env} (h : notComp e = true) : swapsWith e t l env = pure false := by
  cases e <;> first | rfl | cases h
theorem psx_pass {pos : Pos} : PSx cn Φ lk X (.Pass pos) .pass := PS.mono ps_pass fun D σ H ⟨F, S, ρ, fx, sl, w⟩ => by
  rw [evS] at w
  exact w σ F H S (Aft.refl fx) sl Lk.refl
theorem psx_doc {x j pos pos'} : PSx cn Φ lk X (.Expr (.Constant (.str x) j pos) pos') .pass := PS.mono ps_doc fun D σ H ⟨F, S, ρ, fx, sl, w⟩ => by
  rw [evS] at w
  exact w σ F H S (Aft.refl fx) sl Lk.refl
theorem psx_brk {pos : Pos} : PSx cn Φ lk X (.Break pos) .brk := PS.mono ps_break fun D σ H ⟨F, S, ρ, fx, sl, w⟩ => by
  rw [evS] at w
  exact w σ F H S (Aft.refl fx) sl Lk.refl
theorem psx_cnt {pos : Pos} : PSx cn Φ lk X (.Continue pos) .cnt := PS.mono ps_continue fun D σ H ⟨F, S, ρ, fx, sl, w⟩ => by
  rw [evS] at w
  exact w σ F H S (Aft.refl fx) sl Lk.refl
theorem psx_expr {e : Expr} {ea : Ex} {pos : Pos} (he : PEx cn Φ X e ea) (hc : notComp e = true) : PSx cn Φ lk X (.Expr e pos) (.expr ea) := by
  refine PS.mono (ps_expr he (sw_false hc)) fun D σ H ⟨F, S, ρ, fx, sl, w⟩ => ?_
  rw [evS] at w
  exact ⟨F, S, ρ, fx, sl, okS_expr w fun p v F' H' A B _ a n o s q => q σ F' H' B (a.sub fun _ => .inr) s Lk.refl⟩
theorem set_mono {K : PySem.W.Frag} {F H : Hp} {S : AS} {ρ : Env} {σ : L2.St} {i : Nat} {ea : Ex} {D : Ends} (w : okS K cn lk F H S σ (evS Φ lk (.set i ea) ρ) D) :
    okE K cn F H S σ (evE Φ ea ρ) (fun x H1 => D.nx (σ.set i (some x)) H1) := by
  rw [evS] at w
  by_cases hl : lkAt lk i = true
  · rw [if_pos hl] at w; exact w.elim
  · rw [if_neg hl] at w
    have hl' : lkAt lk i = false := by simpa using hl
    exact okS_expr w fun p v F' H' A B _ a n o s q => q _ F' H' (A.or B) a (s.store o n) (Lk.set hl')
theorem psx_set {i : Nat} {x : Str} {e : Expr} {ea : Ex} {pos pos' : Pos} (hN : X.N.Nodup) (hi : X.N[i]? = some x) (hx : Loc X.env.scope x) (hf : X.fn x = true ∨ X.env.scope.names.lookup x = some .local) (he : PEx cn Φ X e ea) (hc : notComp e = true) :
    PSx cn Φ lk X (.Assign [.Name x pos'] e pos) (.set i ea) :=
  PS.mono (ps_set hN hi hx he (sw_false hc) hf) fun D σ H ⟨F, S, ρ, fx, sl, w⟩ => ⟨F, S, ρ, fx, sl, set_mono w⟩
theorem psx_setLc {i : Nat} {y : Str} {py : Pos} {elt tg iter : Expr} {ifs : List Expr} {scope : Scope} {own : List (Str × Nat)} {pos spos : Pos} {is : List Nat} {ee : Ex} {it : It} {tc : Tx} (hc : X.calm = true) (hN : X.N.Nodup) (hy : X.N[i]? = some y) (hyl : X.env.scope.names.lookup y = some .local)
    (hsw : swapsWith (.ListComp elt [⟨tg, iter, ifs, 0⟩] scope pos) (some (.Name y py)) spos.line X.env = pure true) (hi : PIx cn Φ X tg iter (fun i => ee.has i || is.contains i || tc.has i) it) (ok : BlkOk X.N X.env.scope scope own) (hw : own.map (·.2) = is)
    (hg : ∀ (s : Shared) (H : Hp) (C : Addr) (cl : List (Str × Addr)) (fp : List Addr), PGx cn (X.blk s H scope (compEnvC scope cl C X.env) fp) tg is) (ht : ∀ (s : Shared) (H : Hp) (C : Addr) (cl : List (Str × Addr)) (fp : List Addr), PTsx cn Φ (X.blk s H scope (compEnvC scope cl C X.env) fp) ifs tc)
    (he : ∀ (s : Shared) (H : Hp) (C : Addr) (cl : List (Str × Addr)) (fp : List Addr), PEx cn Φ (X.blk s H scope (compEnvC scope cl C X.env) fp) elt ee) (hs : ∀ x, foldedSetIterable iter X.env x = pure x) :
    PSx cn Φ lk X (.Assign [.Name y py] (.ListComp elt [⟨tg, iter, ifs, 0⟩] scope pos) spos) (.set i (.lc ee is it tc)) := by
  refine PS.mono (ps_setLc (g := tG X.K cn is) (tt := tT X.K cn (evT Φ tc)) (te := tE X.K cn (evE Φ ee)) hc hN hy hyl hsw hi ok hg ht he hs) fun D σ H ⟨F, S, ρ, fx, sl, w⟩ => ?_
  have w2 := set_mono w
  rw [evE] at w2
  rw [hw]
  exact lc_mono (wi := fun _ _ _ => True) fx sl w2
theorem psx_ret {e : Expr} {ea : Ex} {pos : Pos} (hs : ea.isSlot = false) (he : PEx cn Φ X e ea) : PSx cn Φ lk X (.Return (some e) pos) (.ret ea) := by
  refine PS.mono (ps_ret he) fun D σ H ⟨F, S, ρ, fx, sl, w⟩ => ?_
  have w' : okS X.K cn lk F H S σ ((evE Φ ea ρ).out fun x => .ret x.1 x.2) D := by
    cases ea <;> first | exact w | cases hs
  exact ⟨F, S, ρ, fx, sl, okS_expr w' fun p v F' H' A B _ a n o s q => q v σ F' H' A B a n o s Lk.refl⟩
theorem psx_retN {pos : Pos} : PSx cn Φ lk X (.Return none pos) (.ret (.lit .non)) := PS.mono ps_retN fun D σ H ⟨F, S, ρ, fx, sl, w⟩ => by
  have w' : okS X.K cn lk F H S σ (.ret .non ρ) D := w
  exact w' .non σ F H (fun _ => False) S (Aft.sub (Aft.refl fx) fun a z => z.elim (fun y => y.elim) fun y => y) (fun _ z => z.elim) .non sl Lk.refl
theorem psx_retS {i : Nat} {x : Str} {pos pos' : Pos} (hN : X.N[i]? = some x) (hv : Vis X.env.scope x) (hd : (x == ("__debug__" : Str)) = false) (hcd : (x == ("__classdict__" : Str)) = false) : PSx cn Φ lk X (.Return (some (.Name x pos)) pos') (.ret (.slot i)) := by
  refine PS.mono (ps_ret (pe_var hN hv hd hcd)) fun D σ H ⟨F, S, ρ, fx, sl, w⟩ => ?_
  rw [evS] at w
  cases q : look ρ i with
  | none => simp only [q] at w; exact w.elim
  | some d =>
    simp only [q] at w
    by_cases hi : imm d = true
    · rw [if_pos hi] at w
      obtain ⟨v, e1, o⟩ := sl.at q
      exact ⟨v, e1, w v σ F H (fun _ => False) S (Aft.sub (Aft.refl fx) fun a z => z.elim (fun y => y.elim) fun y => y) (fun _ z => z.elim) (o.free hi) sl Lk.refl⟩
    · rw [if_neg hi] at w
      by_cases hl : lkAt lk i = true
      · rw [if_pos hl] at w
        obtain ⟨v, F', B, a, e1, _, s, o⟩ := sl.freeze fx q
        exact ⟨v, e1, w v σ F' H (fun _ => False) B (a.sub fun c z => z.elim (fun y => y.elim) fun y => y) (fun _ z => z.elim) (o _) s Lk.refl⟩
      · rw [if_neg hl] at w
        obtain ⟨v, A, B, a, e1, o, s⟩ := sl.take q
        exact ⟨v, e1, w v σ F H A B (Aft.sub (Aft.refl fx) fun c z => z.elim (a.l c) (a.r c)) a.no o s Lk.refl⟩
theorem psx_if {c : Expr} {t : Tx} {a b : List Stmt} {sa sb : Ss} {pos : Pos} (hc : PTx cn Φ X c t) (ha : PSsx cn Φ lk X a sa) (hb : PSsx cn Φ lk X b sb) : PSx cn Φ lk X (.If c a b pos) (.iff t sa sb) := by
  refine PS.mono (ps_if hc ha hb) fun D σ H ⟨F, S, ρ, fx, sl, w⟩ => ?_
  rw [evS] at w
  refine ⟨F, S, ρ, fx, sl, okS_test (Q := fun b H1 => if b = true then tSx X.K cn lk (evB Φ lk sa) D σ H1 else tSx X.K cn lk (evB Φ lk sb) D σ H1) w fun p F' H' B _ a s q => ?_⟩
  obtain ⟨b, ρ'⟩ := p
  cases b with
  | true => exact iteT ⟨F', B, ρ', a.fix, s, okS_from a Lk.refl q⟩
  | false => exact iteF ⟨F', B, ρ', a.fix, s, okS_from a Lk.refl q⟩
theorem pssx_nil : PSsx cn Φ lk X [] .nil := PSs.mono pss_nil fun D σ H ⟨F, S, ρ, fx, sl, w⟩ => by
  rw [evB] at w
  exact w σ F H S (Aft.refl fx) sl Lk.refl
theorem pssx_cons {st : Stmt} {rest : List Stmt} {s : Sx} {b : Ss} (h1 : PSx cn Φ lk X st s) (h2 : PSsx cn Φ lk X rest b) : PSsx cn Φ lk X (st :: rest) (.cons s b) := by
  refine PSs.mono (pss_cons h1 h2) fun D σ H ⟨F, S, ρ, fx, sl, w⟩ => ?_
  rw [evB] at w
  refine ⟨F, S, ρ, fx, sl, ?_⟩
  cases e : evS Φ lk s ρ with
  | nx ρ' =>
    rw [e] at w
    exact fun σ' F' H' B a s' l => ⟨F', B, ρ', a.fix, s', okS_from a l w⟩
  | brk ρ' => rw [e] at w; exact w
  | cnt ρ' => rw [e] at w; exact w
  | ret d ρ' => rw [e] at w; exact w
  | err c d ρ' => rw [e] at w; exact w
  | bad => rw [e] at w; exact w
theorem lk_wipe {σ σ' : L2.St} {tg : List Nat} (h : tg.any (lkAt lk) = false) (w : L2.wipe σ' tg = L2.wipe σ tg) : Lk lk σ σ' := fun i l => by
  have hn : i ∉ tg := fun hm => by
    rw [List.any_eq_false] at h
    exact h i hm l
  rw [← wipe_out hn, w, wipe_out hn]
theorem psx_for {tg iter : Expr} {body : List Stmt} {is : List Nat} {it : It} {b : Ss} {pos : Pos} (hp : PassesOwn (model X.prog X.w) X.A X.env X.xe) (hc : X.calm = true) (hi : PIx cn Φ X tg iter (fun _ => true) it) (hg : PGx cn X tg is) (hb : PSsx cn Φ lk X body b)
    (hs : ∀ x, foldedSetIterable iter X.env x = pure x) : PSx cn Φ lk X (.For tg iter body [] pos) (.for is it b) := by
  refine PS.mono (ps_for hp hc hi hg hb hs) fun D σ H ⟨F, S, ρ, fx, sl, w⟩ => ?_
  rw [evS] at w
  by_cases hlk : is.any (lkAt lk) = true
  · rw [if_pos hlk] at w; exact w.elim
  · rw [if_neg hlk] at w
    have hlk' : is.any (lkAt lk) = false := by simpa using hlk
    refine ⟨F, S, ρ, fx, sl, ?_⟩
    cases ei : evI Φ (fun _ => true) it ρ with
    | err c d e => rw [ei] at w; exact w.elim
    | bad => rw [ei] at w; exact w.elim
    | ok wk =>
      rw [ei] at w
      simp only [Res.out] at w
      intro J F1 H1 B T a1 n1 s1 hid wok
      have aB : Aft F H S F1 H1 B := a1.sub fun _ => .inl
      let Pv : Nat → L2.St → Hp → Prop := fun i σ' Hc => ∃ F2 B2 ρ2, Aft F1 H1 B F2 Hc B2 ∧ SL X.K cn F2 Hc B2 ρ2 σ' ∧ Lk lk σ σ' ∧ loopF (bindT is) (fun e => evB Φ lk b e) (wk.ds.drop i) ρ2 = loopF (bindT is) (fun e => evB Φ lk b e) wk.ds wk.e
      refine ⟨fun i m σ' Hc => m = wk.ds.length - i ∧ i ≤ wk.ds.length ∧ Pv i σ' Hc, ⟨wk.ds.length, by simp, Nat.zero_le _, F1, B, wk.e, Aft.refl aB.fix, s1, Lk.refl, by simp⟩, ?_⟩
      rintro i m σ' Hc ⟨rfl, hle, F2, B2, ρ2, a2, s2, l2, el⟩
      have kp : Keeps H1 B Hc := fun a o e n => a2.fr a o e n
      by_cases hlt : i < wk.ds.length
      · refine .inr ⟨wok.goes i Hc hlt kp, Pv (i + 1), fun σ3 H3 p' => ⟨wk.ds.length - (i + 1), by omega, rfl, hlt, p'⟩, fun x H3 y => ?_⟩
        obtain ⟨d, hd⟩ : ∃ d, wk.ds[i]? = some d := ⟨wk.ds[i], by simp [hlt]⟩
        rw [show wk.ds.drop i = d :: wk.ds.drop (i + 1) by
          rw [List.drop_eq_getElem_cons hlt]
          congr 1
          rw [List.getElem?_eq_getElem hlt] at hd
          exact Option.some.inj hd] at el
        obtain ⟨F3, N, ox⟩ := wok.yields i Hc x H3 F2 d hd kp a2.ff a2.fh y
        obtain ⟨m1, m2⟩ := N.move a2.fix
        have a3 : Aft F1 H1 B F3 H3 B2 := a2.trans ((N.aft a2.fix).1.sub fun c z => .inr z)
        have s3 : SL X.K cn F3 H3 B2 ρ2 σ' := s2.move N.ff m1 m2
        rw [loopF] at el
        rw [← el] at w
        cases eb : bindT is d ρ2 with
        | none => simp only [eb] at w; exact w.elim
        | some e1 =>
          simp only [eb] at w el
          refine ⟨F3, B2, ρ2, d, e1, a3.fix, s3, ox, eb, fun σ6 s6 hw => ?_⟩
          have l6 : Lk lk σ σ6 := l2.trans (lk_wipe hlk' hw)
          refine ⟨F3, B2, e1, a3.fix, s6, ?_⟩
          cases ev : evB Φ lk b e1 with
          | nx e2 =>
            simp only [ev] at el
            exact fun σ7 F' H' B' a' s' l' => ⟨F', B', e2, a3.trans a', s', l6.trans l', el⟩
          | cnt e2 =>
            simp only [ev] at el
            exact fun σ7 F' H' B' a' s' l' => ⟨F', B', e2, a3.trans a', s', l6.trans l', el⟩
          | brk e2 =>
            simp only [ev] at w
            exact fun σ7 F' H' B' a' s' l' => okS_from (aB.trans a3) l6 w σ7 F' H' B' a' s' l'
          | ret r e2 =>
            simp only [ev] at w
            exact fun v σ7 F' H' A' B' a' n' o' s' l' => okS_from (aB.trans a3) l6 w v σ7 F' H' A' B' a' n' o' s' l'
          | err c r e2 => simp only [ev] at w; exact w.elim
          | bad => simp only [ev] at w; exact w.elim
      · have ei' : i = wk.ds.length := by omega
        subst ei'
        rw [List.drop_length, loopF] at el
        rw [← el] at w
        exact .inl ⟨wok.stops Hc kp, okS_from aB Lk.refl w σ' F2 Hc B2 a2 s2 l2⟩

/-! ### a list's own methods -/
theorem psx_app {i : Nat} {x : Str} {p1 p2 p3 p4 : Pos} {a : Expr} {ea : Ex} (hN : X.N[i]? = some x) (hv : Vis X.env.scope x) (hd : (x == ("__debug__" : Str)) = false) (hcd : (x == ("__classdict__" : Str)) = false) (ha : PEx cn Φ X a ea) (hs : notStar a = true) (hline : (p2.endLine == p3.line) = true) :
    PSx cn Φ lk X (.Expr (.Call (.Attribute (.Name x p1) "append" p2) [a] [] p3) p4) (.app i [] ea) := by
  refine PS.mono (ps_expr (pe_bm PySem.F.plainAttrs_list PySem.F.slot_list_append PySem.F.type_list_append mt_append (pe_var hN hv hd hcd) (pa_cons ha pa_nil (star_cons hs)) rfl (by rw [star_cons hs]; rfl) hline (star_cons hs) rfl) rfl) fun D σ H ⟨F, S, ρ, fx, sl, w⟩ => ?_
  rw [evS] at w
  cases q : look ρ i with
  | none => simp only [q, Option.bind_none] at w; exact w.elim
  | some d0 =>
    simp only [q, Option.bind_some, sub] at w
    obtain ⟨v0, e0, o0⟩ := sl.at q
    refine ⟨v0, e0, ?_⟩
    cases o0 with
    | @lstO _ T a' ds vs sa f e nt l r =>
      simp only at w
      refine ⟨.inl ⟨rfl, _, SqL.of e⟩, F, S, ρ, fx, sl, okS_expr w fun p y F' H' A B _ a n o s q2 => ?_⟩
      unfold chg at q2
      cases q' : look p.2 i with
      | none => simp only [q'] at q2; exact q2.elim
      | some d1 =>
        simp only [q', sub] at q2
        obtain ⟨v1, A1, B1, b, e1, o1, s1⟩ := s.take q'
        rw [e0] at e1
        cases e1
        cases o1 with
        | @lstO _ T1 _ ds1 vs1 sa1 f1 e1 nt1 l1 r1 =>
          simp only at q2
          by_cases hl : okLen ds1.length = true
          · simp only [hl, if_true] at q2
            have nA : ∀ c, A c → A1 c → False := fun c z y' => n c z (b.l c y')
            have hnp : ∀ {c : Addr}, A c ∨ T1 c ∨ B1 c → c ≠ a' := fun {c} z q => by
              subst q
              rcases z with z | z | z
              · exact nA _ z sa1
              · exact nt1 z
              · exact b.no _ sa1 z
            have a2 : Aft F H S F' (upd H' a' (.lst (vs1 ++ [y]))) (AS.or (fun c => c = a') (A.or (T1.or B1))) :=
              (Aft.put (p := a') (a.sub (T := AS.or (fun c => c = a') (A.or (T1.or B1))) fun c z => z.elim (fun q => .inr (b.l c (q ▸ sa1))) fun z => z.elim .inl fun z => .inr (z.elim (fun q => b.l c (l1 c q)) (b.r c))) (.inl rfl))
            refine ⟨a', vs1, y, rfl, rfl, e1, by rw [← r1.len]; exact okLen_lt hl, ?_⟩
            refine q2 σ F' _ _ a2 ?_ Lk.refl
            have or2 : ORs X.K cn F' (upd H' a' (.lst (vs1 ++ [y]))) (T1.or A) (ds1 ++ [p.1]) (vs1 ++ [y]) :=
              (r1.snoc o fun c z q => nA c q (l1 c z)).move (Same.refl _) (fun c z => upd_ne (hnp (z.elim (fun q => .inr (.inl q)) .inl))) fun c z => a2.dj c (.inr (z.elim (fun q => .inr (.inl q)) .inl))
            have ol : OR X.K cn F' (upd H' a' (.lst (vs1 ++ [y]))) (AS.or (fun c => c = a') (T1.or A)) (.lst true (ds1 ++ [p.1])) (.ref a') :=
              .lstO (T := T1.or A) (.inl rfl) (a2.dj _ (.inl rfl)) upd_same (fun z => z.elim nt1 fun q => nA _ q sa1) (fun _ => .inr) or2
            have s2 : SL X.K cn F' (upd H' a' (.lst (vs1 ++ [y]))) B1 (p.2.set i none) σ := s1.move (Same.refl _) (fun c z => upd_ne (hnp (.inr (.inr z)))) fun c z => a2.dj c (.inr (.inr (.inr z)))
            exact (s2.back ol (fun c z q => z.elim (fun w => b.no c (w ▸ sa1) q) fun w => w.elim (fun u => b.no c (l1 c u) q) fun u => n c u (b.r c q)) e0).mono fun c z => z.elim (fun q => q.elim .inl fun u => .inr (u.elim (fun t => .inr (.inl t)) .inl)) fun q => .inr (.inr (.inr q))
          · simp only [if_neg hl] at q2; exact q2.elim
        | _ => exact q2.elim
    | _ => exact w.elim
end DL

namespace DL
open PySem PySem.Spec PyProof.Rows L2
variable {cn : CN} {X : Cx}
section
variable {K : PySem.W.Frag} {F H : Hp} {S : AS}
/-- an operation of two places: its data, its end -/
theorem op2_of {f : Value → Value → Sem Value} {g : D → D → Option D}
    (k : ∀ (pins : List (Addr × Obj)) (s : Shared) (σ : L2.St) (F H : Hp) (S : AS) (d1 d2 : D) (x y : V) (v u : Value) (Q : VK) (r : D), Inv X pins σ H s → RelV x v → RelV y u → Fix F H S → OR X.K cn F H S d1 x → OR X.K cn F H S d2 y → g d1 d2 = some r →
      (∀ v F' H' S', New F H F' H' S' → OR X.K cn F' H' S' r v → Q v H') → wpAny (model X.prog X.w) X.A (f v u) (EP X pins σ Q) X.xe s) :
    OpR X f (fun x y => rB X.K cn (two g) [x, y]) := by
  intro pins s σ H x y v u Q I rx ry h
  obtain ⟨F, S, ds, fx, vw, r, e, q⟩ := h
  cases vw with
  | cons a1 t =>
    cases t with
    | cons a2 t =>
      cases t
      exact k pins s σ F H S _ _ x y v u Q r I rx ry fx a1 a2 e q
theorem call_of {f : Value} {g : List D → Option D}
    (k : ∀ (pins : List (Addr × Obj)) (s : Shared) (σ : L2.St) (F H : Hp) (S : AS) (ds : List D) (xs : List V) (us : List Value) (Q : VK) (r : D), Inv X pins σ H s → Vals xs us → Fix F H S → Paired (fun d v => OR X.K cn F H S d v) ds xs → g ds = some r →
      (∀ v F' H' S', New F H F' H' S' → OR X.K cn F' H' S' r v → Q v H') → wpAny (model X.prog X.w) X.A (call f us) (EP X pins σ Q) X.xe s) :
    CallR X f (rB X.K cn g) := by
  intro pins s σ H xs us Q I r0 h
  obtain ⟨F, S, ds, fx, vw, r, e, q⟩ := h
  exact k pins s σ F H S ds xs us Q r I r0 fx vw e q
abbrev noS : AS := fun _ => False
theorem smallI_of {i : Int} (h : smallI i = true) : -(2 ^ 64) < i ∧ i < 2 ^ 64 := by
  rw [smallI, Bool.and_eq_true, decide_eq_true_eq, decide_eq_true_eq] at h
  exact h
theorem str_app {a b : List Nat} : ((⟨a.toArray⟩ : Str) ++ (⟨b.toArray⟩ : Str)) = ⟨(a ++ b).toArray⟩ := by
  show (⟨a.toArray ++ b.toArray⟩ : Str) = _
  congr 1
  simp
theorem str_len {a : List Nat} : (⟨a.toArray⟩ : Str).length = a.length := by
  show a.toArray.size = _
  simp
/-- a list of any kind that is read: its very object -/
theorem rd_list {pins : List (Addr × Obj)} {σ : L2.St} {s : Shared} {a : Addr} {xs : List V} (I : Inv X pins σ H s) (h : Rd H a (.lst xs)) :
    xs.length ≤ sizeLine ∧ ∃ (its : List Value) (n : Nat), Vals xs its ∧ s.heap.get? a = some { cls := .type "list", data := .seq its.toArray n } := h.ok I.hok
theorem OR.rdL {o : Bool} {ds : List D} {x : V} (fx : Fix F H S) (h : OR K cn F H S (.lst o ds) x) : ∃ a vs, x = .ref a ∧ Rd H a (.lst vs) ∧ ORs K cn F H S ds vs := by
  cases h with
  | lstF q r => exact ⟨_, _, rfl, Same.rd fx.fh q, r⟩
  | lstO q f e n l r => exact ⟨_, _, rfl, .inl e, r.mono l⟩
theorem OR.rdT {o : Bool} {ds : List D} {x : V} (fx : Fix F H S) (h : OR K cn F H S (.tup o ds) x) : ∃ a vs, x = .ref a ∧ SqT K H a vs ∧ ORs K cn F H S ds vs := by
  cases h with
  | tupF q r => exact ⟨_, _, rfl, Same.seqT fx.fh q, r⟩
  | tupO q f e n l r => exact ⟨_, _, rfl, SqT.of e, r.mono l⟩
theorem ORs.app : ∀ {ds es : List D} {vs ws : List V}, ORs K cn F H noS ds vs → ORs K cn F H noS es ws → ORs K cn F H noS (ds ++ es) (vs ++ ws)
  | _, _, _, _, .nil, s => s
  | _, _, _, _, .cons a x y, s => .cons (A := noS) (B := noS) ⟨fun _ z => z, fun _ z => z, fun _ z => z.elim⟩ (x.mono a.l) ((y.mono a.r).app s)
/-- a new list of frozen items -/
theorem new_lst {pins : List (Addr × Obj)} {σ : L2.St} {s : Shared} {ds : List D} {vs : List V} {its : List Value} {t' : Nat} {Q : VK} (I : Inv X pins σ H s) (fx : Fix F H S) (hv : Vals vs its) (hz : vs.length ≤ sizeLine) (o : ORs X.K cn F H noS ds vs)
    (q : ∀ v F' H' S', New F H F' H' S' → OR X.K cn F' H' S' (.lst true ds) v → Q v H') :
    EP X pins σ Q (.ref s.heap.objs.size) { s with heap := s.heap.push { cls := .type "list", data := .seq its.toArray }, toks := t' } := by
  have hn := I.fresh
  refine ⟨.ref _, _, I.lnew hv hz, rfl, q _ F _ _ (New.own fx.fh hn) ?_⟩
  exact .lstO (T := noS) rfl (fx.fh.free hn) upd_same (fun z => z) (fun _ z => z.elim) (o.move (Same.refl _) (fun _ z => z.elim) fun _ z => z.elim)
theorem cat_rd {pins : List (Addr × Obj)} {σ : L2.St} {s : Shared} {a b : Addr} {xs ys : List V} {Q : Value → Shared → Prop} (I : Inv X pins σ H s) (ha : Rd H a (.lst xs)) (hb : Rd H b (.lst ys)) (hz : xs.length + ys.length ≤ sizeLine)
    (h : ∀ its : List Value, Vals (xs ++ ys) its → Q (.ref s.heap.objs.size) { s with heap := s.heap.push { cls := .type "list", data := .seq its.toArray } }) : wpAny (model X.prog X.w) X.A (binaryOp .Add (.ref a) (.ref b)) Q X.xe s := by
  obtain ⟨z, its, n, r, e⟩ := rd_list I ha
  obtain ⟨z2, its2, n2, r2, e2⟩ := rd_list I hb
  have l1 := r.length
  have l2 := r2.length
  refine PySem.P.add_list e e2 ?_ (by rw [List.size_toArray, List.size_toArray]; omega)
  have ea : its.toArray ++ its2.toArray = (its ++ its2).toArray := by simp
  rw [ea]
  exact h _ (r.append r2)
theorem b2_add : OpR X (binaryOp .Add) (fun x y => rB X.K cn (two (run2 .add)) [x, y]) := op2_of fun pins s σ F H S d1 d2 x y v u Q r I rx ry fx o1 o2 e q => by
  cases d1 with
  | int i =>
    cases d2 with
    | int j =>
      cases o1; cases o2; cases e
      exact op_add pins s σ H _ _ v u Q I rx ry ⟨i, j, rfl, rfl, q _ F H noS (New.refl fx.fh) (.int _)⟩
    | _ => cases e
  | str a =>
    cases d2 with
    | str b =>
      cases o1; cases o2
      rw [run2] at e
      split at e
      · rename_i hl
        cases e
        refine op_add_str pins s σ H _ _ v u Q I rx ry ⟨_, _, rfl, rfl, ?_, ?_⟩
        · rw [str_len, str_len]; exact okLen_le hl
        · rw [str_app]
          exact q _ F H noS (New.refl fx.fh) (.str _)
      · cases e
    | _ => cases e
  | lst oa a =>
    cases d2 with
    | lst ob b =>
      rw [run2] at e
      split at e
      · rename_i hl
        cases e
        rw [Bool.and_eq_true, Bool.and_eq_true] at hl
        obtain ⟨a1, vs, rfl, ra, r1⟩ := o1.rdL fx
        obtain ⟨a2, ws, rfl, rb, r2⟩ := o2.rdL fx
        cases rx; cases ry
        have hlen : vs.length + ws.length ≤ sizeLine := by rw [← r1.len, ← r2.len]; exact okLen_le hl.1.1
        refine cat_rd I ra rb hlen fun its hv => ?_
        exact new_lst (t' := s.toks) I fx hv (by rw [List.length_append]; exact hlen) ((r1.free hl.1.2).app (r2.free hl.2)) q
      · cases e
    | _ => cases e
  | _ => cases d2 <;> cases e
theorem b2_sub : OpR X (binaryOp .Sub) (fun x y => rB X.K cn (two (run2 .sub)) [x, y]) := op2_of fun pins s σ F H S d1 d2 x y v u Q r I rx ry fx o1 o2 e q => by
  cases d1 with
  | int i =>
    cases d2 with
    | int j =>
      cases o1; cases o2; cases e
      exact op_sub pins s σ H _ _ v u Q I rx ry ⟨i, j, rfl, rfl, q _ F H noS (New.refl fx.fh) (.int _)⟩
    | _ => cases e
  | _ => cases d2 <;> cases e
theorem b2_fdiv : OpR X (binaryOp .FloorDiv) (fun x y => rB X.K cn (two (run2 .fdiv)) [x, y]) := op2_of fun pins s σ F H S d1 d2 x y v u Q r I rx ry fx o1 o2 e q => by
  cases d1 with
  | int i =>
    cases d2 with
    | int j =>
      cases o1; cases o2
      rw [run2] at e
      split at e
      · rename_i hl
        cases e
        rw [Bool.and_eq_true, decide_eq_true_eq, decide_eq_true_eq] at hl
        exact op_fdiv pins s σ H _ _ v u Q I rx ry ⟨i, j, rfl, rfl, hl, q _ F H noS (New.refl fx.fh) (.int _)⟩
      · cases e
    | _ => cases e
  | _ => cases d2 <;> cases e
theorem b2_mod : OpR X (binaryOp .Mod) (fun x y => rB X.K cn (two (run2 .mod)) [x, y]) := op2_of fun pins s σ F H S d1 d2 x y v u Q r I rx ry fx o1 o2 e q => by
  cases d1 with
  | int i =>
    cases d2 with
    | int j =>
      cases o1; cases o2
      rw [run2] at e
      split at e
      · rename_i hl
        cases e
        rw [decide_eq_true_eq] at hl
        exact op_mod pins s σ H _ _ v u Q I rx ry ⟨i, j, rfl, rfl, hl, q _ F H noS (New.refl fx.fh) (.int _)⟩
      · cases e
    | _ => cases e
  | _ => cases d2 <;> cases e
theorem b2_pow : OpR X (binaryOp .Pow) (fun x y => rB X.K cn (two (run2 .pow)) [x, y]) := op2_of fun pins s σ F H S d1 d2 x y v u Q r I rx ry fx o1 o2 e q => by
  cases d1 with
  | int i =>
    cases d2 with
    | int j =>
      cases o1; cases o2
      rw [run2] at e
      split at e
      · rename_i hl
        cases e
        rw [Bool.and_eq_true, Bool.and_eq_true, decide_eq_true_eq, decide_eq_true_eq] at hl
        have hs := smallI_of hl.2
        exact op_pow pins s σ H _ _ v u Q I rx ry ⟨i, j, rfl, rfl, ⟨hl.1.1, by omega, by omega⟩, q _ F H noS (New.refl fx.fh) (.int _)⟩
      · cases e
    | _ => cases e
  | _ => cases d2 <;> cases e
theorem b2_mulI : OpR X (binaryOp .Mult) (fun x y => rB X.K cn (two fun a b => match a, b with | .int i, .int j => run2 .mul (.int i) (.int j) | _, _ => none) [x, y]) := op2_of fun pins s σ F H S d1 d2 x y v u Q r I rx ry fx o1 o2 e q => by
  cases d1 with
  | int i =>
    cases d2 with
    | int j =>
      cases o1; cases o2
      simp only [run2] at e
      split at e
      · rename_i hl
        cases e
        rw [Bool.or_eq_true] at hl
        exact op_mul pins s σ H _ _ v u Q I rx ry ⟨i, j, rfl, rfl, hl.elim (fun z => .inl (smallI_of z)) fun z => .inr (smallI_of z), q _ F H noS (New.refl fx.fh) (.int _)⟩
      · cases e
    | _ => cases e
  | _ => cases d2 <;> cases e
theorem ORs.rep {ds : List D} {vs : List V} (h : ORs K cn F H noS ds vs) : ∀ k : Nat, ORs K cn F H noS (List.replicate k ds).flatten (List.replicate k vs).flatten
  | 0 => .nil
  | k + 1 => by
    rw [List.replicate_succ, List.replicate_succ, List.flatten_cons, List.flatten_cons]
    exact h.app (h.rep k)
theorem b2_mulL : OpR X (binaryOp .Mult) (fun x y => rB X.K cn (two fun a b => match a, b with | .lst true i, .int j => run2 .mul (.lst true i) (.int j) | _, _ => none) [x, y]) := op2_of fun pins s σ F H S d1 d2 x y v u Q r I rx ry fx o1 o2 e q => by
  cases d1 with
  | lst oa ds =>
    cases oa with
    | false => cases d2 <;> cases e
    | true =>
    cases d2 with
    | int j =>
      simp only [run2] at e
      split at e
      · rename_i hl
        cases e
        simp only [Bool.and_eq_true, decide_eq_true_eq] at hl
        obtain ⟨⟨⟨h0, h1⟩, h2⟩, h3⟩ := hl
        cases o2
        cases o1 with
        | @lstO _ T a _ vs sa f ea nt l r =>
          have hlen : vs.length < 1000 := by rw [← r.len]; exact h2
          have hm : vs.length * j.toNat ≤ sizeLine := by
            rw [sizeLine_eq]
            have : vs.length * j.toNat ≤ 1000 * 1000 := Nat.mul_le_mul (by omega) (by omega)
            omega
          refine op_rep pins s σ H _ _ v u Q I rx ry ⟨a, j, vs, rfl, rfl, ea, by omega, by omega, hm, fun p hp => ?_⟩
          refine q _ F _ _ (New.own fx.fh hp) ?_
          exact .lstO (T := noS) rfl (fx.fh.free hp) upd_same (fun z => z) (fun _ z => z.elim) (((r.free (S' := noS) (H' := H) h3).rep j.toNat).move (Same.refl _) (fun _ z => z.elim) fun _ z => z.elim)
      · cases e
    | _ => cases e
  | _ => cases d2 <;> cases e
theorem b2_lt : OpR X (compareOp .Lt) (fun x y => rB X.K cn (two (run2 .lt)) [x, y]) := op2_of fun pins s σ F H S d1 d2 x y v u Q r I rx ry fx o1 o2 e q => by
  cases d1 with
  | int i =>
    cases d2 with
    | int j =>
      cases o1; cases o2; cases e
      exact op_lt pins s σ H _ _ v u Q I rx ry ⟨i, j, rfl, rfl, q _ F H noS (New.refl fx.fh) (.bl _)⟩
    | _ => cases e
  | _ => cases d2 <;> cases e
theorem b2_le : OpR X (compareOp .LtE) (fun x y => rB X.K cn (two (run2 .le)) [x, y]) := op2_of fun pins s σ F H S d1 d2 x y v u Q r I rx ry fx o1 o2 e q => by
  cases d1 with
  | int i =>
    cases d2 with
    | int j =>
      cases o1; cases o2; cases e
      exact op_le pins s σ H _ _ v u Q I rx ry ⟨i, j, rfl, rfl, q _ F H noS (New.refl fx.fh) (.bl _)⟩
    | _ => cases e
  | _ => cases d2 <;> cases e
theorem b2_gt : OpR X (compareOp .Gt) (fun x y => rB X.K cn (two (run2 .gt)) [x, y]) := op2_of fun pins s σ F H S d1 d2 x y v u Q r I rx ry fx o1 o2 e q => by
  cases d1 with
  | int i =>
    cases d2 with
    | int j =>
      cases o1; cases o2; cases e
      exact op_gt pins s σ H _ _ v u Q I rx ry ⟨i, j, rfl, rfl, q _ F H noS (New.refl fx.fh) (.bl _)⟩
    | _ => cases e
  | _ => cases d2 <;> cases e
theorem b2_ge : OpR X (compareOp .GtE) (fun x y => rB X.K cn (two (run2 .ge)) [x, y]) := op2_of fun pins s σ F H S d1 d2 x y v u Q r I rx ry fx o1 o2 e q => by
  cases d1 with
  | int i =>
    cases d2 with
    | int j =>
      cases o1; cases o2; cases e
      exact op_ge pins s σ H _ _ v u Q I rx ry ⟨i, j, rfl, rfl, q _ F H noS (New.refl fx.fh) (.bl _)⟩
    | _ => cases e
  | _ => cases d2 <;> cases e

/-! ### == -/
mutual
def toP : D → PyData
  | .non => .none
  | .bl b => .bool b
  | .int i => .int i
  | .str x => .str ⟨x.toArray⟩
  | .tup _ ds => .tuple (toPs ds)
  | .lst _ ds => .list (toPs ds)
  | .ins .. => .none
  | .scr _ => .none
def toPs : List D → List PyData
  | [] => []
  | d :: ds => toP d :: toPs ds
end
mutual
theorem OR.dp (fx : Fix F H S) {n : Nat} {T : AS} {d : D} {x : V} (h : shp n d = true) : OR K cn F H T d x → (∀ a, T a → S a) → Dp K H x (toP d)
  | .non, _ => .non
  | .bl b, _ => .bl b
  | .int i, _ => .int i
  | .str x, _ => .str _
  | .scr q, _ => by cases h
  | .tupF q r, l => by
    rw [shp, Bool.and_eq_true] at h
    exact .tup (Same.seqT fx.fh q) (r.dp fx h.2 l)
  | .tupO q f e nt lt r, l => by
    rw [shp, Bool.and_eq_true] at h
    exact .tup (SqT.of e) (r.dp fx h.2 fun a z => l a (lt a z))
  | .lstF q r, l => by
    rw [shp, Bool.and_eq_true] at h
    exact .lst (.inl (Same.rd fx.fh q)) (r.dp fx h.2 l)
  | .lstO q f e nt lt r, l => by
    rw [shp, Bool.and_eq_true] at h
    exact .lst (SqL.of e) (r.dp fx h.2 fun a z => l a (lt a z))
  | .insF .., _ => by cases h
  | .insO .., _ => by cases h
theorem ORs.dp (fx : Fix F H S) {n : Nat} {T : AS} {ds : List D} {xs : List V} (h : shps n ds = true) : ORs K cn F H T ds xs → (∀ a, T a → S a) → DpAll K H xs (toPs ds)
  | .nil, _ => .nil
  | .cons a x y, l => by
    rw [shps, Bool.and_eq_true] at h
    exact .cons (x.dp fx h.1 fun b z => l b (a.l b z)) (y.dp fx h.2 fun b z => l b (a.r b z))
end
end
mutual
theorem shp_lay : ∀ {d : D} {n : Nat}, shp n d = true → (toP d).canLay0 = true ∧ (toP d).depth ≤ n
  | .non, _, _ => ⟨rfl, Nat.zero_le _⟩
  | .bl _, _, _ => ⟨rfl, Nat.zero_le _⟩
  | .int _, _, _ => ⟨rfl, Nat.zero_le _⟩
  | .str x, _, h => ⟨by
      rw [shp] at h
      show PyData.strOk _ = true
      unfold PyData.strOk
      simpa using h, Nat.zero_le _⟩
  | .tup _ ds, n, h => by
    rw [shp, Bool.and_eq_true, decide_eq_true_eq] at h
    obtain ⟨a, b⟩ := shps_lay h.2
    refine ⟨a, ?_⟩
    have : PyData.depthAll (toPs ds) + 1 ≤ n := by omega
    exact this
  | .lst _ ds, n, h => by
    rw [shp, Bool.and_eq_true, decide_eq_true_eq] at h
    obtain ⟨a, b⟩ := shps_lay h.2
    refine ⟨a, ?_⟩
    have : PyData.depthAll (toPs ds) + 1 ≤ n := by omega
    exact this
  | .ins .., _, h => by cases h
  | .scr _, _, h => by cases h
theorem shps_lay : ∀ {ds : List D} {n : Nat}, shps n ds = true → PyData.canLayAll0 (toPs ds) = true ∧ PyData.depthAll (toPs ds) ≤ n
  | [], _, _ => ⟨rfl, Nat.zero_le _⟩
  | d :: ds, n, h => by
    rw [shps, Bool.and_eq_true] at h
    obtain ⟨a, b⟩ := shp_lay h.1
    obtain ⟨a2, b2⟩ := shps_lay h.2
    refine ⟨?_, ?_⟩
    · show ((toP d).canLay0 && PyData.canLayAll0 (toPs ds)) = true
      rw [a, a2]; rfl
    · exact Nat.max_le.mpr ⟨b, b2⟩
end
theorem shp_shaped {d : D} (h : shp 60 d = true) : SeqAt.shaped (toP d) = true := by
  obtain ⟨a, b⟩ := shp_lay h
  unfold SeqAt.shaped
  rw [a, Bool.true_and, decide_eq_true_eq]
  omega
theorem str_beq {a b : List Nat} : ((⟨a.toArray⟩ : Str) == ⟨b.toArray⟩) = (a == b) := by
  rw [Bool.eq_iff_iff, beq_iff_eq, beq_iff_eq]
  constructor
  · intro h
    injection h with h
    simpa using h
  · rintro rfl; rfl
mutual
theorem eqv_deq : ∀ {a b : D} {n m : Nat}, shp n a = true → shp m b = true → PyData.eqv (toP a) (toP b) = deq a b
  | .ins .., _, _, _, h, _ => by cases h
  | .scr _, _, _, _, h, _ => by cases h
  | .non, b, _, _, _, h => by cases b <;> first | rfl | cases h
  | .bl _, b, _, _, _, h => by cases b <;> first | rfl | cases h
  | .int _, b, _, _, _, h => by cases b <;> first | rfl | cases h
  | .str x, b, _, _, _, h => by
    cases b with
    | str y => exact str_beq
    | _ => first | rfl | cases h
  | .tup _ ds, b, n, m, h, h2 => by
    rw [shp, Bool.and_eq_true] at h
    cases b with
    | tup _ es =>
      rw [shp, Bool.and_eq_true] at h2
      exact eqvs_deqs h.2 h2.2
    | ins => cases h2
    | scr => cases h2
    | _ => rfl
  | .lst _ ds, b, n, m, h, h2 => by
    rw [shp, Bool.and_eq_true] at h
    cases b with
    | lst _ es =>
      rw [shp, Bool.and_eq_true] at h2
      exact eqvs_deqs h.2 h2.2
    | ins => cases h2
    | scr => cases h2
    | _ => rfl
theorem eqvs_deqs : ∀ {a b : List D} {n m : Nat}, shps n a = true → shps m b = true → PyData.eqvAll (toPs a) (toPs b) = deqs a b
  | [], [], _, _, _, _ => rfl
  | [], _ :: _, _, _, _, _ => rfl
  | _ :: _, [], _, _, _, _ => rfl
  | a :: as, b :: bs, n, m, h, h2 => by
    rw [shps, Bool.and_eq_true] at h h2
    show (PyData.eqv (toP a) (toP b) && PyData.eqvAll (toPs as) (toPs bs)) = _
    rw [eqv_deq h.1 h2.1, eqvs_deqs h.2 h2.2, deqs]
end
theorem flat_eq {K : PySem.W.Frag} {F H : Hp} {S T : AS} {a b : D} {x y : V} (o1 : OR K cn F H S a x) (o2 : OR K cn F H T b y) (h : (isFlat a && isFlat b && !mixed a b) = true) : scal x y = true ∧ decide (x = y) = deq a b := by
  rw [Bool.and_eq_true, Bool.and_eq_true] at h
  obtain ⟨⟨h1, h2⟩, h3⟩ := h
  cases a with
  | non => cases b <;> first | (cases o1; cases o2; exact ⟨rfl, by simp [deq]⟩) | cases h2
  | bl p =>
    cases b with
    | non => cases o1; cases o2; exact ⟨rfl, by simp [deq]⟩
    | bl q => cases o1; cases o2; exact ⟨rfl, dec_bl⟩
    | int q => cases h3
    | str q => cases o1; cases o2; exact ⟨rfl, by simp [deq]⟩
    | _ => cases h2
  | int p =>
    cases b with
    | non => cases o1; cases o2; exact ⟨rfl, by simp [deq]⟩
    | bl q => cases h3
    | int q => cases o1; cases o2; exact ⟨rfl, dec_int⟩
    | str q => cases o1; cases o2; exact ⟨rfl, by simp [deq]⟩
    | _ => cases h2
  | str p =>
    cases b with
    | non => cases o1; cases o2; exact ⟨rfl, by simp [deq]⟩
    | bl q => cases o1; cases o2; exact ⟨rfl, by simp [deq]⟩
    | int q => cases o1; cases o2; exact ⟨rfl, by simp [deq]⟩
    | str q => cases o1; cases o2; exact ⟨rfl, by rw [dec_str, str_beq]; rfl⟩
    | _ => cases h2
  | _ => cases h1
theorem b2_eq (hu : X.A.units + 64 < cLine) : OpR X (compareOp .Eq) (fun x y => rB X.K cn (two (run2 .eq)) [x, y]) := op2_of fun pins s σ F H S d1 d2 x y v u Q r I rx ry fx o1 o2 e q => by
  rw [run2] at e
  split at e
  · rename_i hl
    cases e
    by_cases h : (isFlat d1 && isFlat d2 && !mixed d1 d2) = true
    · obtain ⟨a, b⟩ := flat_eq o1 o2 h
      refine op_eq pins s σ H x y v u Q I rx ry ⟨a, ?_⟩
      rw [b]
      exact q _ F H noS (New.refl fx.fh) (.bl _)
    · rw [Bool.or_eq_true] at hl
      have hl := hl.resolve_left h
      rw [Bool.and_eq_true] at hl
      refine op_eqD hu pins s σ H x y v u Q I rx ry ⟨_, _, o1.dp fx hl.1 fun _ z => z, o2.dp fx hl.2 fun _ z => z, shp_shaped hl.1, shp_shaped hl.2, ?_⟩
      rw [eqv_deq hl.1 hl.2]
      exact q _ F H noS (New.refl fx.fh) (.bl _)
  · cases e
theorem b2_ne (hu : X.A.units + 64 < cLine) : OpR X (compareOp .NotEq) (fun x y => rB X.K cn (two (run2 .ne)) [x, y]) := op2_of fun pins s σ F H S d1 d2 x y v u Q r I rx ry fx o1 o2 e q => by
  rw [run2] at e
  split at e
  · rename_i hl
    cases e
    by_cases h : (isFlat d1 && isFlat d2 && !mixed d1 d2) = true
    · obtain ⟨a, b⟩ := flat_eq o1 o2 h
      refine op_ne pins s σ H x y v u Q I rx ry ⟨a, ?_⟩
      rw [b]
      exact q _ F H noS (New.refl fx.fh) (.bl _)
    · rw [Bool.or_eq_true] at hl
      have hl := hl.resolve_left h
      rw [Bool.and_eq_true] at hl
      refine op_neD hu pins s σ H x y v u Q I rx ry ⟨_, _, o1.dp fx hl.1 fun _ z => z, o2.dp fx hl.2 fun _ z => z, shp_shaped hl.1, shp_shaped hl.2, ?_⟩
      rw [eqv_deq hl.1 hl.2]
      exact q _ F H noS (New.refl fx.fh) (.bl _)
  · cases e
end DL

namespace DL
open PySem PySem.Spec PyProof.Rows L2
variable {cn : CN} {Φ : Tb} {X : Cx}

/-! ### is, in -/
theorem beq_dec (a b : Bool) : decide (a = b) = (a == b) := by cases a <;> cases b <;> rfl
theorem b2_is : OpR X (compareOp .Is) (fun x y => rB X.K cn (two (run2 .is)) [x, y]) := op2_of fun pins s σ F H S d1 d2 x y v u Q r I rx ry fx o1 o2 e q => by
  cases d2 with
  | non =>
    cases o2
    refine op_isN pins s σ H x _ v u Q I rx ry ⟨rfl, ?_⟩
    cases d1 <;> cases o1 <;> cases e <;> exact q _ F H noS (New.refl fx.fh) (by first | exact .bl _ | (simp; exact .bl _))
  | bl b =>
    cases d1 with
    | bl a =>
      cases o1; cases o2; cases e
      refine op_isBl pins s σ H _ _ v u Q I rx ry ⟨a, b, rfl, rfl, ?_⟩
      rw [beq_dec]
      exact q _ F H noS (New.refl fx.fh) (.bl _)
    | _ => cases e
  | _ => cases d1 <;> cases e
theorem b2_isnot : OpR X (compareOp .IsNot) (fun x y => rB X.K cn (two (run2 .isnot)) [x, y]) := op2_of fun pins s σ F H S d1 d2 x y v u Q r I rx ry fx o1 o2 e q => by
  cases d2 with
  | non =>
    cases o2
    refine op_notN pins s σ H x _ v u Q I rx ry ⟨rfl, ?_⟩
    cases d1 <;> cases o1 <;> cases e <;> exact q _ F H noS (New.refl fx.fh) (by first | exact .bl _ | (simp; exact .bl _))
  | bl b =>
    cases d1 with
    | bl a =>
      cases o1; cases o2; cases e
      refine op_notBl pins s σ H _ _ v u Q I rx ry ⟨a, b, rfl, rfl, ?_⟩
      rw [beq_dec]
      exact q _ F H noS (New.refl fx.fh) (.bl _)
    | _ => cases e
  | _ => cases d1 <;> cases e
section
variable {K : PySem.W.Frag} {F H : Hp} {S T : AS}
theorem flat_v {d : D} {x : V} (o : OR K cn F H S d x) (h : isFlat d = true) : flatV x = true := by
  cases o <;> first | rfl | cases h
theorem eqV_deq {a b : D} {x y : V} (o1 : OR K cn F H S a x) (o2 : OR K cn F H T b y) (h1 : isFlat a = true) (h2 : isFlat b = true) : eqV x y = deq a b := by
  cases a with
  | non => cases b <;> first | (cases h2; done) | (cases o1; cases o2; rfl)
  | bl p => cases b <;> first | (cases h2; done) | (cases o1; cases o2; rfl)
  | int p => cases b <;> first | (cases h2; done) | (cases o1; cases o2; rfl)
  | str p =>
    cases b with
    | str q => cases o1; cases o2; exact str_beq
    | _ => first | (cases h2; done) | (cases o1; cases o2; rfl)
  | _ => cases h1
theorem flats_v : ∀ {ds : List D} {vs : List V} {S : AS}, ORs K cn F H S ds vs → ds.all isFlat = true → vs.all flatV = true
  | _, _, _, .nil, _ => rfl
  | _, _, _, .cons a x y, h => by
    rw [List.all_cons, Bool.and_eq_true] at h ⊢
    exact ⟨flat_v x h.1, flats_v y h.2⟩
theorem inV_any {a : D} {x : V} (o : OR K cn F H T a x) (hf : isFlat a = true) : ∀ {ds : List D} {vs : List V} {S : AS}, ORs K cn F H S ds vs → ds.all isFlat = true → inV x vs = ds.any fun y => deq y a
  | _, _, _, .nil, _ => rfl
  | _, _, _, .cons b y z, h => by
    rw [List.all_cons, Bool.and_eq_true] at h
    show (eqV _ x || inV x _) = _
    rw [List.any_cons, eqV_deq y o h.1 hf, inV_any o hf z h.2]
end
theorem b2_in : OpR X (compareOp .In) (fun x y => rB X.K cn (two (run2 .isin)) [x, y]) := op2_of fun pins s σ F H S d1 d2 x y v u Q r I rx ry fx o1 o2 e q => by
  have seq : ∀ {ds : List D} {a : Addr} {vs : List V}, ORs X.K cn F H S ds vs → (SqL X.K H a vs ∨ SqT X.K H a vs) → y = .ref a → (if isFlat d1 && ds.all isFlat then some (D.bl (ds.any fun y => deq y d1)) else none) = some r →
      wpAny (model X.prog X.w) X.A (compareOp .In v u) (EP X pins σ Q) X.xe s := by
    intro ds a vs r' hq hy e'
    split at e'
    · rename_i hl
      rw [Bool.and_eq_true] at hl
      cases e'
      refine op_in_seq pins s σ H x y v u Q I rx ry ⟨a, vs, hy, hq, flat_v o1 hl.1, flats_v r' hl.2, ?_⟩
      rw [if_neg (by decide), inV_any o1 hl.1 r' hl.2]
      exact q _ F H noS (New.refl fx.fh) (.bl _)
    · cases e'
  cases d2 with
  | str b =>
    cases d1 with
    | str a =>
      match a with
      | [c] =>
        cases o1; cases o2; cases e
        refine op_in_sign pins s σ H _ _ v u Q I rx ry ⟨c, _, rfl, rfl, ?_⟩
        have : decide (c ∈ (⟨b.toArray⟩ : Str).cps.toList) = b.contains c := by simp
        rw [this]
        exact q _ F H noS (New.refl fx.fh) (.bl _)
      | [] => cases e
      | _ :: _ :: _ => cases e
    | _ => cases e
  | tup o ds =>
    obtain ⟨a, vs, rfl, hq, r'⟩ := o2.rdT fx
    have e' : (if isFlat d1 && ds.all isFlat then some (D.bl (ds.any fun y => deq y d1)) else none) = some r := by
      rw [← e]; cases d1 with
      | str z => match z with
        | [] => rfl
        | [_] => rfl
        | _ :: _ :: _ => rfl
      | _ => rfl
    exact seq r' (.inr hq) rfl e'
  | lst o ds =>
    obtain ⟨a, vs, rfl, hq, r'⟩ := o2.rdL fx
    have e' : (if isFlat d1 && ds.all isFlat then some (D.bl (ds.any fun y => deq y d1)) else none) = some r := by
      rw [← e]; cases d1 with
      | str z => match z with
        | [] => rfl
        | [_] => rfl
        | _ :: _ :: _ => rfl
      | _ => rfl
    exact seq r' (.inl (.inl hq)) rfl e'
  | _ => cases d1 with
    | str z => match z with
      | [] => cases e
      | [_] => cases e
      | _ :: _ :: _ => cases e
    | _ => cases e
theorem b2_notin : OpR X (compareOp .NotIn) (fun x y => rB X.K cn (two (run2 .notin)) [x, y]) := op2_of fun pins s σ F H S d1 d2 x y v u Q r I rx ry fx o1 o2 e q => by
  have seq : ∀ {ds : List D} {a : Addr} {vs : List V}, ORs X.K cn F H S ds vs → (SqL X.K H a vs ∨ SqT X.K H a vs) → y = .ref a → (if isFlat d1 && ds.all isFlat then some (D.bl (!(ds.any fun y => deq y d1))) else none) = some r →
      wpAny (model X.prog X.w) X.A (compareOp .NotIn v u) (EP X pins σ Q) X.xe s := by
    intro ds a vs r' hq hy e'
    split at e'
    · rename_i hl
      rw [Bool.and_eq_true] at hl
      cases e'
      refine op_notIn_seq pins s σ H x y v u Q I rx ry ⟨a, vs, hy, hq, flat_v o1 hl.1, flats_v r' hl.2, ?_⟩
      rw [if_pos rfl, inV_any o1 hl.1 r' hl.2]
      exact q _ F H noS (New.refl fx.fh) (.bl _)
    · cases e'
  cases d2 with
  | str b =>
    cases d1 with
    | str a =>
      match a with
      | [c] =>
        cases o1; cases o2; cases e
        refine op_notIn_sign pins s σ H _ _ v u Q I rx ry ⟨c, _, rfl, rfl, ?_⟩
        have : decide (c ∈ (⟨b.toArray⟩ : Str).cps.toList) = b.contains c := by simp
        rw [this]
        exact q _ F H noS (New.refl fx.fh) (.bl _)
      | [] => cases e
      | _ :: _ :: _ => cases e
    | _ => cases e
  | tup o ds =>
    obtain ⟨a, vs, rfl, hq, r'⟩ := o2.rdT fx
    have e' : (if isFlat d1 && ds.all isFlat then some (D.bl (!(ds.any fun y => deq y d1))) else none) = some r := by
      rw [← e]; cases d1 with
      | str z => match z with
        | [] => rfl
        | [_] => rfl
        | _ :: _ :: _ => rfl
      | _ => rfl
    exact seq r' (.inr hq) rfl e'
  | lst o ds =>
    obtain ⟨a, vs, rfl, hq, r'⟩ := o2.rdL fx
    have e' : (if isFlat d1 && ds.all isFlat then some (D.bl (!(ds.any fun y => deq y d1))) else none) = some r := by
      rw [← e]; cases d1 with
      | str z => match z with
        | [] => rfl
        | [_] => rfl
        | _ :: _ :: _ => rfl
      | _ => rfl
    exact seq r' (.inl (.inl hq)) rfl e'
  | _ => cases d1 with
    | str z => match z with
      | [] => cases e
      | [_] => cases e
      | _ :: _ :: _ => cases e
    | _ => cases e

/-! ### len, int, all, any, isinstance -/
section
variable {K : PySem.W.Frag} {F H : Hp} {S T : AS}
theorem strsV : ∀ {ds : List D} {xs : List (List Nat)} {vs : List V} {S : AS}, ORs K cn F H S ds vs → strsD ds = some xs → vs = (xs.map fun x => (⟨x.toArray⟩ : Str)).map V.str
  | _, _, _, _, .nil, e => by cases e; rfl
  | d :: ds, xs, _, _, .cons a x y, e => by
    cases d with
    | str i =>
      rw [strsD] at e
      cases e2 : strsD ds with
      | none => rw [e2] at e; cases e
      | some ys =>
        rw [e2] at e
        cases e
        cases x
        rw [strsV y e2]
        rfl
    | _ => cases e
theorem blsV : ∀ {ds : List D} {xs : List Bool} {vs : List V} {S : AS}, ORs K cn F H S ds vs → bls ds = some xs → vs = xs.map V.bl
  | _, _, _, _, .nil, e => by cases e; rfl
  | d :: ds, xs, _, _, .cons a x y, e => by
    cases d with
    | bl i =>
      rw [bls] at e
      cases e2 : bls ds with
      | none => rw [e2] at e; cases e
      | some ys =>
        rw [e2] at e
        cases e
        cases x
        rw [blsV y e2]
        rfl
    | _ => cases e
theorem intsV : ∀ {ds : List D} {xs : List Int} {vs : List V} {S : AS}, ORs K cn F H S ds vs → intsD ds = some xs → vs = xs.map V.int
  | _, _, _, _, .nil, e => by cases e; rfl
  | d :: ds, xs, _, _, .cons a x y, e => by
    cases d with
    | int i =>
      rw [intsD] at e
      cases e2 : intsD ds with
      | none => rw [e2] at e; cases e
      | some ys =>
        rw [e2] at e
        cases e
        cases x
        rw [intsV y e2]
        rfl
    | _ => cases e
end
/-- a built-in function of one argument -/
theorem call1_of {f : Value} {b : BF} (h2 : ∀ d e, runB2 b d e = none) (h3 : ∀ d e g, runB3 b d e g = none)
    (k : ∀ (pins : List (Addr × Obj)) (s : Shared) (σ : L2.St) (F H : Hp) (S : AS) (d : D) (x : V) (us : List Value) (Q : VK) (r : D), Inv X pins σ H s → Vals [x] us → Fix F H S → OR X.K cn F H S d x → runB1 b d = some r →
      (∀ v F' H' S', New F H F' H' S' → OR X.K cn F' H' S' r v → Q v H') → wpAny (model X.prog X.w) X.A (call f us) (EP X pins σ Q) X.xe s) :
    CallR X f (rB X.K cn (runB b)) := call_of fun pins s σ F H S ds xs us Q r I rs fx vw e q => by
  cases vw with
  | nil => cases e
  | cons o t =>
    cases t with
    | nil => exact k pins s σ F H S _ _ us Q r I rs fx o e q
    | cons o2 t =>
      cases t with
      | nil => rw [runB, h2] at e; cases e
      | cons o3 t =>
        cases t with
        | nil => rw [runB, h3] at e; cases e
        | cons => cases e
theorem bf_len : CallR X (.builtin "len") (rB X.K cn (runB .len)) := call1_of (fun _ _ => rfl) (fun _ _ _ => rfl) fun pins s σ F H S d x us Q r I rs fx o e q => by
  cases d with
  | str z =>
    simp only [runB1] at e
    split at e
    · rename_i hl
      cases e; cases o
      refine call_len_str pins s σ H _ us Q I rs ⟨_, rfl, by rw [str_len]; exact okLen_le hl, ?_⟩
      rw [str_len]
      exact q _ F H noS (New.refl fx.fh) (.int _)
    · cases e
  | tup ow l =>
    cases e
    obtain ⟨a, vs, rfl, hq, r'⟩ := o.rdT fx
    refine call_len_seq pins s σ H _ us Q I rs ⟨a, vs, rfl, .inr hq, ?_⟩
    rw [← r'.len]
    exact q _ F H noS (New.refl fx.fh) (.int _)
  | lst ow l =>
    cases e
    obtain ⟨a, vs, rfl, hq, r'⟩ := o.rdL fx
    refine call_len_seq pins s σ H _ us Q I rs ⟨a, vs, rfl, .inl (.inl hq), ?_⟩
    rw [← r'.len]
    exact q _ F H noS (New.refl fx.fh) (.int _)
  | _ => cases e
theorem digit_text {c : Nat} (h1 : 48 ≤ c) (h2 : c ≤ 57) : PySem.intText? ⟨[c].toArray⟩ = some ((c : Int) - 48) := by
  have : ∀ k : Fin 10, PySem.intText? ⟨[48 + k.val].toArray⟩ = some ((48 + k.val : Nat) - 48 : Int) := by decide +kernel
  have h := this ⟨c - 48, by omega⟩
  have e : 48 + (c - 48) = c := by omega
  rw [show (⟨c - 48, by omega⟩ : Fin 10).val = c - 48 from rfl, e] at h
  exact h
theorem bf_int : CallR X (.type "int") (rB X.K cn (runB .int1)) := call1_of (fun _ _ => rfl) (fun _ _ _ => rfl) fun pins s σ F H S d x us Q r I rs fx o e q => by
  cases d with
  | int i => cases e; cases o; exact call_int1 pins s σ H _ us Q I rs (.inl ⟨i, rfl, q _ F H noS (New.refl fx.fh) (.int _)⟩)
  | bl i => cases e; cases o; exact call_int1 pins s σ H _ us Q I rs (.inr ⟨i, rfl, q _ F H noS (New.refl fx.fh) (.int _)⟩)
  | str z =>
    match z with
    | [c] =>
      simp only [runB1] at e
      split at e
      · rename_i hl
        rw [Bool.and_eq_true, decide_eq_true_eq, decide_eq_true_eq] at hl
        cases e; cases o
        exact call_int_str pins s σ H _ us Q I rs ⟨_, _, rfl, digit_text hl.1 hl.2, by rw [str_len]; simp, q _ F H noS (New.refl fx.fh) (.int _)⟩
      · cases e
    | [] => cases e
    | _ :: _ :: _ => cases e
  | _ => cases e
theorem bf_all (hc : X.calm = true) : CallR X (.builtin "all") (rB X.K cn (runB .all)) := call1_of (fun _ _ => rfl) (fun _ _ _ => rfl) fun pins s σ F H S d x us Q r I rs fx o e q => by
  cases d with
  | lst ow l =>
    simp only [runB1] at e
    cases e2 : bls l with
    | none => rw [e2] at e; cases e
    | some bs =>
      rw [e2] at e; cases e
      obtain ⟨a, vs, rfl, hq, r'⟩ := o.rdL fx
      exact cr_all hc pins s σ H _ us Q I rs ⟨a, bs, rfl, .inl (by rw [← blsV r' e2]; exact hq), q _ F H noS (New.refl fx.fh) (.bl _)⟩
  | _ => cases e
theorem bf_any (hc : X.calm = true) : CallR X (.builtin "any") (rB X.K cn (runB .any)) := call1_of (fun _ _ => rfl) (fun _ _ _ => rfl) fun pins s σ F H S d x us Q r I rs fx o e q => by
  cases d with
  | lst ow l =>
    simp only [runB1] at e
    cases e2 : bls l with
    | none => rw [e2] at e; cases e
    | some bs =>
      rw [e2] at e; cases e
      obtain ⟨a, vs, rfl, hq, r'⟩ := o.rdL fx
      exact cr_any hc pins s σ H _ us Q I rs ⟨a, bs, rfl, .inl (by rw [← blsV r' e2]; exact hq), q _ F H noS (New.refl fx.fh) (.bl _)⟩
  | _ => cases e
theorem bf_list : CallR X (.type "list") (rB X.K cn (runB .list)) := call1_of (fun _ _ => rfl) (fun _ _ _ => rfl) fun pins s σ F H S d x us Q r I rs fx o e q => by
  have fin : ∀ {ds : List D} {vs : List V}, imms ds = true → ORs X.K cn F H S ds vs → r = .lst true ds → ∀ l, H l = none → Q (.ref l) (upd H l (.lst vs)) := fun {ds vs} hi o' er l hl => by
    subst er
    refine q _ F _ _ (New.own fx.fh hl) ?_
    exact .lstO (T := noS) rfl (fx.fh.free hl) upd_same (fun z => z) (fun _ z => z.elim) ((o'.free (S' := noS) (H' := H) hi).move (Same.refl _) (fun _ z => z.elim) fun _ z => z.elim)
  cases d with
  | tup ow l =>
    simp only [runB1] at e
    split at e
    · rename_i hi
      obtain ⟨a, vs, rfl, hq, r'⟩ := o.rdT fx
      exact call_list_of pins s σ H _ us Q I rs ⟨a, vs, rfl, .inr hq, fin hi r' (Option.some.inj e).symm⟩
    · cases e
  | lst ow l =>
    simp only [runB1] at e
    split at e
    · rename_i hi
      obtain ⟨a, vs, rfl, hq, r'⟩ := o.rdL fx
      exact call_list_of pins s σ H _ us Q I rs ⟨a, vs, rfl, .inl (.inl hq), fin hi r' (Option.some.inj e).symm⟩
    · cases e
  | _ => cases e

/-- isinstance(x, T), T a built-in class -/
theorem sqt_ty {K : PySem.W.Frag} {H : Hp} {a : Addr} {vs : List V} (h : SqT K H a vs) : TyX K H (.ref a) (.type "tuple") := by
  rcases h with (h | ⟨o, h⟩) | ⟨o, its, n, h, c, _⟩
  · exact .base (.tup h)
  · exact .fTuple h
  · exact .kTuple h c
theorem rd_ty {K : PySem.W.Frag} {H : Hp} {a : Addr} {vs : List V} (h : Rd H a (.lst vs)) : TyX K H (.ref a) (.type "list") := by
  rcases h with h | ⟨o, h⟩
  · exact .base (.lst h)
  · exact .base (.frz h)
theorem kit_all : ∀ a ∈ kinds, ∀ t ∈ asked, kitB a t = some (a == t || (a == "bool" && t == "int")) := by decide +kernel
theorem isOf_kit {K : PySem.W.Frag} {t : String} {d : D} {b : Bool} (h : isOf t d = some b) : PySem.W.kitOne K (.type (kindOf d)) (.type t) = some b := by
  unfold isOf at h
  split at h
  · rename_i hl
    rw [Bool.and_eq_true, List.contains_iff_mem, List.contains_iff_mem] at hl
    cases h
    exact kit_ty (kit_all _ hl.1 _ hl.2)
  · cases h
theorem kind_ty {K : PySem.W.Frag} {F H : Hp} {S : AS} {d : D} {x : V} (fx : Fix F H S) (o : OR K cn F H S d x) (h : kinds.contains (kindOf d) = true) : TyX K H x (.type (kindOf d)) := by
  cases d with
  | non => cases o; exact .base .non
  | bl b => cases o; exact .base (.bl _)
  | int b => cases o; exact .base (.int _)
  | str b => cases o; exact .base (.str _)
  | tup ow l =>
    obtain ⟨a, vs, rfl, hq, _⟩ := o.rdT fx
    exact sqt_ty hq
  | lst ow l =>
    obtain ⟨a, vs, rfl, hq, _⟩ := o.rdL fx
    exact rd_ty hq
  | ins => exact absurd (show kinds.contains "" = true from h) (by decide)
  | scr => exact absurd (show kinds.contains "" = true from h) (by decide)
/-- isinstance(x, T) -/
theorem pex_isinst {x T : Str} {t : String} {p p2 pos : Pos} {e : Expr} {ea : Ex} (hg : Gl X x) (hm : X.mg x = none) (hv : bootBuiltins x = some (.builtin "isinstance")) (hn : x ≠ "__name__") (hdb : (x == ("__debug__" : Str)) = false)
    (hgT : Gl X T) (hmT : X.mg T = none) (hvT : bootBuiltins T = some (.type t)) (hnT : T ≠ "__name__") (hdT : (T == ("__debug__" : Str)) = false) (ha : POx cn Φ X e ea) (hs : notStar e = true) :
    PEx cn Φ X (.Call (.Name x p) [e, .Name T p2] [] pos) (.bcall (.isinst t) (.cons ea .nil)) := by
  refine PE.mono (pe_callB call_isi hg hm hv (pa_cons ha (pa_cons (pe_bltn (v := .ty t) hgT hmT hvT rfl hnT hdT) pa_nil) (star_cons hs)) hn hdb (star_cons hs) rfl) fun σ H Q ⟨F, S, ρ, fx, sl, w⟩ => ?_
  have w2 := os_cons (bcall_mono fx sl w)
  obtain ⟨F1, S1, ρ1, fx1, sl1, w3⟩ := w2
  refine ⟨F1, S1, ρ1, fx1, sl1, ?_⟩
  refine okO_imp w3 fun v H' z => ?_
  obtain ⟨F2, S2, ds, fx2, vw, r, e2, q⟩ := os_nil z
  cases vw with
  | cons o t' =>
    cases t'
    rename_i d
    rw [runB, runB1] at e2
    cases e3 : isOf t d with
    | none => rw [e3] at e2; cases e2
    | some b =>
      rw [e3] at e2
      cases e2
      have hk : kinds.contains (kindOf d) = true := by
        unfold isOf at e3
        split at e3
        · rename_i hl; rw [Bool.and_eq_true] at hl; exact hl.1
        · cases e3
      exact ⟨v, .ty t, _, _, b, rfl, .ty t, kind_ty fx2 o hk, isOf_kit e3, q _ F2 H' noS (New.refl fx2.fh) (.bl _)⟩

/-! ### slices -/
section
variable {K : PySem.W.Frag} {F H : Hp} {S T : AS}
theorem ORs.cut {ds : List D} {vs : List V} (h : ORs K cn F H noS ds vs) (lo hi : Option Int) : ORs K cn F H noS (cutL ds lo hi) (cutV vs lo hi) := by
  have dr : ∀ {ds : List D} {vs : List V} (n : Nat), ORs K cn F H noS ds vs → ORs K cn F H noS (ds.drop n) (vs.drop n) := by
    intro ds vs n
    induction n generalizing ds vs with
    | zero => exact fun h => h
    | succ n ih =>
      intro h
      cases h with
      | nil => exact .nil
      | cons a x y => exact ih (y.mono a.r)
  have tk : ∀ {ds : List D} {vs : List V} (n : Nat), ORs K cn F H noS ds vs → ORs K cn F H noS (ds.take n) (vs.take n) := by
    intro ds vs n
    induction n generalizing ds vs with
    | zero => exact fun h => .nil
    | succ n ih =>
      intro h
      cases h with
      | nil => exact .nil
      | cons a x y => exact .cons a x ((ih (y.mono a.r)).mono fun _ z => z.elim)
  unfold cutL cutV
  rw [h.len]
  exact tk _ (dr _ h)
end
/-- what a slice asks -/
def rSlD (K : PySem.W.Frag) (cn : CN) : V → Option Int → Option Int → Hp → VK → Prop := fun x lo hi H Q => ∃ F S d r, Fix F H S ∧ OR K cn F H S d x ∧ sliceD d lo hi = some r ∧ ∀ v F' H' S', New F H F' H' S' → OR K cn F' H' S' r v → Q v H'
theorem sl_data : SlR X (rSlD X.K cn) := by
  intro pins s σ H x v vl vu lo hi sl Q I rx hs pl pu h
  obtain ⟨F, S, d, r, fx, o, e, q⟩ := h
  cases d with
  | lst ow ds =>
    rw [sliceD] at e
    split at e
    · rename_i hi'
      cases e
      obtain ⟨a, vs, rfl, hq, r'⟩ := o.rdL fx
      refine sl_list pins s σ H _ v vl vu lo hi sl Q I rx hs pl pu ⟨a, vs, rfl, .inl hq, fun p hp => ?_⟩
      refine q _ F _ _ (New.own fx.fh hp) ?_
      exact .lstO (T := noS) rfl (fx.fh.free hp) upd_same (fun z => z) (fun _ z => z.elim) ((ORs.cut (r'.free (S' := noS) (H' := H) hi') lo hi).move (Same.refl _) (fun _ z => z.elim) fun _ z => z.elim)
    · cases e
  | scr ns =>
    cases e
    cases o with
    | scr hq =>
      rename_i a
      refine sl_list pins s σ H _ v vl vu lo hi sl Q I rx hs pl pu ⟨a, _, rfl, fx.fh.seq hq, fun p hp => ?_⟩
      refine q _ F _ _ (New.own fx.fh hp) ?_
      have : cutV (ns.map V.int) lo hi = (cutL ns lo hi).map V.int := by
        unfold cutV cutL
        rw [List.length_map, List.map_take, List.map_drop]
        rfl
      rw [this]
      exact .lstO (T := noS) rfl (fx.fh.free hp) upd_same (fun z => z) (fun _ z => z.elim) ORs.ints
  | str z =>
    rw [sliceD] at e
    split at e
    · rename_i hl
      cases e
      cases o
      refine sl_str pins s σ H _ v vl vu lo hi sl Q I rx hs pl pu ⟨_, rfl, by rw [str_len]; exact okLen_le hl, ?_⟩
      have : cutS ⟨z.toArray⟩ lo hi = ⟨(cutL z lo hi).toArray⟩ := by
        unfold cutS cutL
        rw [str_len]
        rfl
      rw [this]
      exact q _ F H noS (New.refl fx.fh) (.str _)
    · cases e
  | _ => cases e
end DL

namespace DL
open PySem PySem.Spec PyProof.Rows L2
variable {cn : CN} {Φ : Tb} {X : Cx}
theorem b2_mul : OpR X (binaryOp .Mult) (fun x y => rB X.K cn (two (run2 .mul)) [x, y]) := op2_of fun pins s σ F H S d1 d2 x y v u Q r I rx ry fx o1 o2 e q => by
  cases d1 with
  | int i => exact b2_mulI (cn := cn) pins s σ H x y v u Q I rx ry ⟨F, S, [.int i, d2], fx, .cons o1 (.cons o2 .nil), r, (by cases d2 <;> first | exact e | cases e), q⟩
  | lst ow l => exact b2_mulL (cn := cn) pins s σ H x y v u Q I rx ry ⟨F, S, [.lst ow l, d2], fx, .cons o1 (.cons o2 .nil), r, (by cases ow <;> cases d2 <;> first | exact e | cases e), q⟩
  | _ => cases d2 <;> cases e

/-! ### slices -/
theorem slice_end {F H : Hp} {S : AS} {b : BF} {d : D} {lo hi : Option Int} {x : V} {Q : VK} (fx : Fix F H S) (o : OR X.K cn F H S d x) {r : D} (e : sliceD d lo hi = some r) (q : ∀ v F' H' S', New F H F' H' S' → OR X.K cn F' H' S' r v → Q v H') : rSlD X.K cn x lo hi H Q :=
  ⟨F, S, d, r, fx, o, e, q⟩
theorem pex_slice00 {e : Expr} {ea : Ex} {p2 pos : Pos} (he : POx cn Φ X e ea) : PEx cn Φ X (.Subscript e (.Slice none none none p2) pos) (.bcall (.slice false false) (.cons ea .nil)) := by
  refine PE.mono (pe_slice (sl_data (cn := cn)) he po_none po_none) fun σ H Q ⟨F, S, ρ, fx, sl, w⟩ => ?_
  obtain ⟨F1, S1, ρ1, fx1, sl1, w3⟩ := os_cons (bcall_mono fx sl w)
  refine ⟨F1, S1, ρ1, fx1, sl1, okO_imp w3 fun x H' z => ?_⟩
  obtain ⟨F2, S2, ds, fx2, vw, r, e2, q⟩ := os_nil z
  cases vw with
  | cons o t => cases t; exact ⟨F2, S2, _, r, fx2, o, e2, q⟩
theorem pex_slice10 {e lo : Expr} {ea el : Ex} {p2 pos : Pos} (he : POx cn Φ X e ea) (hl : POx cn Φ X lo el) : PEx cn Φ X (.Subscript e (.Slice (some lo) none none p2) pos) (.bcall (.slice true false) (.cons ea (.cons el .nil))) := by
  refine PE.mono (pe_slice (sl_data (cn := cn)) he (po_some hl) po_none) fun σ H Q ⟨F, S, ρ, fx, sl, w⟩ => ?_
  obtain ⟨F1, S1, ρ1, fx1, sl1, w3⟩ := os_cons (bcall_mono fx sl w)
  refine ⟨F1, S1, ρ1, fx1, sl1, okO_imp w3 fun x H' z => ?_⟩
  obtain ⟨F3, S3, ρ3, fx3, sl3, w4⟩ := os_cons z
  refine ⟨F3, S3, ρ3, fx3, sl3, okO_imp w4 fun y H3 z3 => ?_⟩
  obtain ⟨F2, S2, ds, fx2, vw, r, e2, q⟩ := os_nil z3
  cases vw with
  | cons o t =>
    cases t with
    | cons o2 t =>
      cases t
      rename_i d1 d2
      cases d2 with
      | int i => cases o2; exact ⟨i, rfl, F2, S2, _, r, fx2, o, e2, q⟩
      | _ => cases e2
theorem pex_slice01 {e lo : Expr} {ea el : Ex} {p2 pos : Pos} (he : POx cn Φ X e ea) (hl : POx cn Φ X lo el) : PEx cn Φ X (.Subscript e (.Slice none (some lo) none p2) pos) (.bcall (.slice false true) (.cons ea (.cons el .nil))) := by
  refine PE.mono (pe_slice (sl_data (cn := cn)) he po_none (po_some hl)) fun σ H Q ⟨F, S, ρ, fx, sl, w⟩ => ?_
  obtain ⟨F1, S1, ρ1, fx1, sl1, w3⟩ := os_cons (bcall_mono fx sl w)
  refine ⟨F1, S1, ρ1, fx1, sl1, okO_imp w3 fun x H' z => ?_⟩
  obtain ⟨F3, S3, ρ3, fx3, sl3, w4⟩ := os_cons z
  refine ⟨F3, S3, ρ3, fx3, sl3, okO_imp w4 fun y H3 z3 => ?_⟩
  obtain ⟨F2, S2, ds, fx2, vw, r, e2, q⟩ := os_nil z3
  cases vw with
  | cons o t =>
    cases t with
    | cons o2 t =>
      cases t
      rename_i d1 d2
      cases d2 with
      | int i => cases o2; exact ⟨i, rfl, F2, S2, _, r, fx2, o, e2, q⟩
      | _ => cases e2
theorem pex_slice11 {e lo hi : Expr} {ea el eh : Ex} {p2 pos : Pos} (he : POx cn Φ X e ea) (hl : POx cn Φ X lo el) (hh : POx cn Φ X hi eh) : PEx cn Φ X (.Subscript e (.Slice (some lo) (some hi) none p2) pos) (.sl2 ea el eh) := by
  refine PE.mono (pe_slice (sl_data (cn := cn)) he (po_some hl) (po_some hh)) fun σ H Q ⟨F, S, ρ, fx, sl, w⟩ => ?_
  rw [evE] at w
  refine bin_mono (G := fun x y e => match y.get e with
    | some (.int i) => (opd eh e (evE Φ eh e)).bind fun z => match x.get z.2, z.1.get z.2 with
      | some d, some (.int j) => done z.2 (sliceD d (some i) (some j))
      | _, _ => .bad
    | _ => .bad) fx sl w fun x y F' H' A B ρ' o1 o2 a n r1 r2 s q => ?_
  cases e2 : o2.get ρ' with
  | none => simp only [e2] at q; exact q.elim
  | some d2 =>
    simp only [e2] at q
    cases d2 with
    | int i =>
      simp only at q
      have v2 := (r2.get s e2 (S := A.or B) (fun _ => .inl) fun _ => .inr).int_inv
      subst v2
      refine ⟨i, rfl, F', B, ρ', a.fix.sub fun _ => .inr, s, ?_⟩
      refine okO_bind (P := fun r => okE X.K cn F H S σ r Q) (fun z => z) (fun _ _ _ z => z) q fun z w' F4 H4 A4 B4 _ a4 n4 o4 s4 q4 => ?_
      have fr := a4.frame (a.fix.sub (T := A) fun _ => .inl) fun c y' z' => n c z' y'
      have al : Aft F H S F4 H4 ((A4.or B4).or A) := a.trans (Aft.trans (Aft.sub (Aft.refl a.fix) fun c z => z.elim .inr .inl) fr.aft)
      have r1' := r1.keep fr a4.ff
      cases e4 : o1.get z.2 with
      | none => simp only [e4] at q4; exact q4.elim
      | some d =>
        cases e5 : z.1.get z.2 with
        | none => simp only [e4, e5] at q4; exact q4.elim
        | some d3 =>
          simp only [e4, e5] at q4
          cases d3 with
          | int j =>
            simp only at q4
            have v3 := (o4.get s4 e5 (S := (A4.or B4).or A) (fun _ z => .inl (.inl z)) fun _ z => .inl (.inr z)).int_inv
            subst v3
            refine ⟨j, rfl, ?_⟩
            cases e6 : sliceD d (some i) (some j) with
            | none => rw [e6] at q4; exact (show False from q4).elim
            | some r =>
              obtain ⟨F2, S2, ds, fx2, vw, r', e7, q'⟩ := fin_done (A := A4.or A) (B := B4) (f := one fun d => sliceD d (some i) (some j)) (ds := [d]) (xs := [x]) (al.sub fun c z => z.elim (fun y => y.elim (fun q => .inl (.inl q)) .inr) fun y => .inl (.inr y)) (fun c z y => z.elim (fun q => n4 c q y) fun q => fr.no c (.inr y) q) s4
                  (.cons (r1'.get s4 e4 (fun _ z => .inl (.inr z)) fun _ z => .inr z) .nil) q4
              cases vw with
              | cons o t => cases t; exact ⟨F2, S2, _, r', fx2, o, e7, q'⟩
          | _ => exact (show False from q4).elim
    | _ => exact (show False from q).elim

/-! ### sep.join(list of texts) -/
theorem join_mk (s : List Nat) : ∀ xs : List (List Nat), Str.join ⟨s.toArray⟩ (xs.map fun x => (⟨x.toArray⟩ : Str)) = ⟨(joinS s xs).toArray⟩
  | [] => rfl
  | [_] => rfl
  | x :: y :: r => by
    rw [joinS, List.map_cons, List.map_cons, Str.join]
    · rw [← List.map_cons (f := fun x : List Nat => (⟨x.toArray⟩ : Str)), join_mk s (y :: r)]
      show (⟨x.toArray ++ s.toArray ++ (joinS s (y :: r)).toArray⟩ : Str) = _
      congr 1
      simp
    · intro h; cases h
theorem pex_join {x : Str} {j : Nat} {p apos pos : Pos} {e : Expr} {ea : Ex} (he : POx cn Φ X e ea) (hs : notStar e = true) (hl : (apos.endLine == pos.line) = true) :
    PEx cn Φ X (.Call (.Attribute (.Constant (.str x) j p) "join" apos) [e] [] pos) (.bcall .join (.cons (.lit (.str x.cps.toList)) (.cons ea .nil))) := by
  refine PE.mono (pe_join pe_str he (star_cons hs) rfl hl) fun σ H Q ⟨F, S, ρ, fx, sl, w⟩ => ?_
  obtain ⟨F1, S1, ρ1, fx1, sl1, w1⟩ := os_cons (bcall_mono fx sl w)
  refine ⟨⟨x, rfl⟩, ?_⟩
  obtain ⟨cps⟩ := x
  obtain ⟨F3, S3, ρ3, fx3, sl3, w4⟩ := os_cons (w1 (.str ⟨cps⟩) F1 H (fun _ => False) S1 (Aft.sub (Aft.refl fx1) fun a z => z.elim (fun y => y.elim) fun y => y) (fun _ z => z.elim) (OR.str cps.toList) sl1)
  refine ⟨F3, S3, ρ3, fx3, sl3, okO_imp w4 fun y H3 z3 => ?_⟩
  obtain ⟨F2, S2, ds, fx2, vw, r, e2, q⟩ := os_nil z3
  cases vw with
  | cons o t =>
    cases t with
    | cons o2 t =>
      cases t
      rename_i d1 d2
      cases d1 with
      | str s =>
        cases d2 with
        | lst ow l =>
          obtain ⟨a, vs, rfl, hq, r'⟩ := o2.rdL fx2
          simp only [runB, runB2] at e2
          cases e3 : strsD l with
          | none => rw [e3] at e2; cases e2
          | some xs =>
            rw [e3] at e2
            simp only at e2
            split at e2
            · rename_i hz
              cases e2
              cases o
              refine ⟨_, a, xs.map fun x => (⟨x.toArray⟩ : Str), rfl, rfl, .inl (.inl (by rw [← strsV r' e3]; exact hq)), ?_, ?_⟩
              · rw [decide_eq_true_eq] at hz
                have e4 : (xs.map fun x => (⟨x.toArray⟩ : Str)).map (·.length) = xs.map List.length := by
                  rw [List.map_map]
                  exact List.map_congr_left fun z _ => str_len
                rw [e4, List.length_map, str_len]
                exact hz
              · rw [TL.join_eq, join_mk]
                exact q _ F2 H3 noS (New.refl fx2.fh) (.str _)
            · cases e2
        | _ => cases e2
      | _ => cases e2

/-! ### two comparisons in a chain -/
theorem pex_chain {o p : B2} {op op' : CmpOp} {a b c : Expr} {ea eb ec : Ex} {pos : Pos} (ho : OpR X (compareOp op) (fun x y => rB X.K cn (two (run2 o)) [x, y])) (ho' : OpR X (compareOp op') (fun x y => rB X.K cn (two (run2 p)) [x, y])) (ha : POx cn Φ X a ea) (hb : POx cn Φ X b eb) (hc : POx cn Φ X c ec)
    (hm : lastMarks [op, op'] [b, c] = false) : PEx cn Φ X (.Compare a [op, op'] [b, c] pos) (.chain o p ea eb ec) := by
  refine PE.mono (pe_chain ho ho' ha hb hc hm) fun σ H Q ⟨F, S, ρ, fx, sl, w⟩ => ?_
  rw [evE] at w
  refine bin_mono (G := fun x y e => match x.get e, y.get e with
    | some d1, some d2 => match run2 o d1 d2 with
      | some (.bl true) => (opd ec e (evE Φ ec e)).bind fun z => match y.get z.2, z.1.get z.2 with
        | some d2, some d3 => done z.2 (run2 p d2 d3)
        | _, _ => .bad
      | some (.bl false) => .ok (.bl false, e)
      | _ => .bad
    | _, _ => .bad) fx sl w fun x y F' H' A B ρ' o1 o2 a n r1 r2 s q => ?_
  cases e1 : o1.get ρ' with
  | none => simp only [e1] at q; exact q.elim
  | some d1 =>
    cases e2 : o2.get ρ' with
    | none => simp only [e1, e2] at q; exact q.elim
    | some d2 =>
      simp only [e1, e2] at q
      cases e3 : run2 o d1 d2 with
      | none => simp only [e3] at q; exact q.elim
      | some r =>
        simp only [e3] at q
        refine ⟨F', A.or B, [d1, d2], a.fix, .cons (r1.get s e1 (fun _ => .inl) fun _ => .inr) (.cons (r2.get s e2 (fun _ => .inl) fun _ => .inr) .nil), r, e3, fun v F2 H2 S2 N ov => ?_⟩
        cases r with
        | bl k =>
          cases ov
          refine ⟨k, rfl, ?_⟩
          obtain ⟨m1, m2⟩ := N.move a.fix
          obtain ⟨a2, n2⟩ := N.aft a.fix
          have a3 : Aft F H S F2 H2 (A.or B) := a.trans (a2.sub fun c z => .inr z)
          have s2 := s.move N.ff (fun c z => m1 c (.inr z)) fun c z => m2 c (.inr z)
          cases k with
          | false =>
            exact iteF (q (.bl false) F2 H2 noS B (a3.sub fun c z => z.elim (fun y => y.elim) .inr) (fun _ z => z.elim) (.bl _) s2)
          | true =>
            refine iteT ⟨F2, B, ρ', a3.fix.sub fun _ => .inr, s2, ?_⟩
            simp only at q
            refine okO_bind (P := fun r => okE X.K cn F H S σ r Q) (fun z => z) (fun _ _ _ z => z) q fun z w' F4 H4 A4 B4 _ a4 n4 o4 s4 q4 => ?_
            have fr := a4.frame (a3.fix.sub (T := A) fun _ => .inl) fun c y' z' => n c z' y'
            have al : Aft F H S F4 H4 ((A4.or B4).or A) := a3.trans (Aft.trans (Aft.sub (Aft.refl a3.fix) fun c z => z.elim .inr .inl) fr.aft)
            have r2' : OpdR X.K cn F2 H2 A σ o2 y := by
              cases o2 with
              | val d => exact (show OR X.K cn F' H' A d y from r2).move N.ff (fun c z => m1 c (.inl z)) fun c z => m2 c (.inl z)
              | ref i => exact r2
            have r2'' := r2'.keep fr a4.ff
            cases e4 : o2.get z.2 with
            | none => simp only [e4] at q4; exact q4.elim
            | some d2' =>
              cases e5 : z.1.get z.2 with
              | none => simp only [e4, e5] at q4; exact q4.elim
              | some d3 =>
                simp only [e4, e5] at q4
                exact fin_done (A := A4.or A) (B := B4) (f := two (run2 p)) (ds := [d2', d3]) (al.sub fun c z => z.elim (fun y => y.elim (fun q => .inl (.inl q)) .inr) fun y => .inl (.inr y)) (fun c z y => z.elim (fun q => n4 c q y) fun q => fr.no c (.inr y) q) s4
                  (.cons (r2''.get s4 e4 (fun _ z => .inl (.inr z)) fun _ z => .inr z) (.cons (o4.get s4 e5 (fun _ z => .inl (.inl z)) fun _ z => .inr z) .nil)) q4
        | _ => exact (show False from q).elim
end DL

namespace DL
open PySem PySem.Spec PyProof.Rows L2
variable {cn : CN} {Φ : Tb} {X : Cx}

/-! ### where a text stands: names, scope, what is global -/
structure G where
  N : List Str
  sc : Scope
  blk : Bool
  bl : List Str
  gc : List (Str × D)
  fn : List (Str × Nat)
structure FnAt (Φ : Tb) (cn : CN) (X : Cx) (k : Nat) (x : Str) (f : Nat) : Prop where
  ex : ∃ (fa : Addr) (fd : FuncData) (ps : List Str), X.mg x = some (.ref fa) ∧ PySem.W.keepIn X.K (.ref fa) = true ∧ Binds X.K fd ps [] ∧ FnOk X.prog X.w X.K X.mg X.base CX0 k fa fd ps (spF X.K cn (Φ.fn f))
structure XOk (Φ : Tb) (cn : CN) (g : G) (X : Cx) (k : Nat) : Prop where
  N : X.N = g.N
  sc : X.env.scope = g.sc
  nd : g.N.Nodup
  calm : X.calm = true
  fnb : g.blk = false → ∀ x, X.fn x = true
  bl : ∀ x ∈ g.bl, X.mg x = none
  gc : ∀ p ∈ g.gc, ∃ u v, X.mg p.1 = some u ∧ RelV v u ∧ ∀ F H S, OR X.K cn F H S p.2 v
  fn : ∀ p ∈ g.fn, FnAt Φ cn X k p.1 p.2
  room : Room k X.A
def G.inner (g : G) (scope : Scope) : G := { g with sc := relS scope g.sc, blk := true }
theorem XOk.inner {g : G} {k : Nat} (h : XOk Φ cn g X k) (s : Shared) (H : Hp) (scope : Scope) (C : Addr) (cl : List (Str × Addr)) (fp : List Addr) : XOk Φ cn (g.inner scope) (X.blk s H scope (compEnvC scope cl C X.env) fp) k where
  N := h.N
  sc := by
    show relS scope X.env.scope = relS scope g.sc
    rw [h.sc]
  nd := h.nd
  calm := h.calm
  fnb := fun e => by cases e
  bl := h.bl
  gc := h.gc
  fn := fun p hp => ⟨(h.fn p hp).ex⟩
  room := h.room
theorem XOk.kind {g : G} {k : Nat} (h : XOk Φ cn g X k) (x : Str) : X.env.kindOf x = g.sc.names.lookup x := by
  show X.env.scope.names.lookup x = _
  rw [h.sc]

def lk? (g : G) (x : Str) : Option NameKind := g.sc.names.lookup x
def visK : Option NameKind → Bool
  | some .local => true
  | some .cell => true
  | some .free => true
  | _ => false
def locK (blk : Bool) : Option NameKind → Bool
  | some .local => true
  | some .cell => !blk
  | _ => false
def glK : Option NameKind → Bool
  | some .globalImplicit => true
  | _ => false
theorem visK_ok {o : Option NameKind} (h : visK o = true) : o = some .local ∨ o = some .cell ∨ o = some .free := by
  unfold visK at h
  split at h
  · exact .inl rfl
  · exact .inr (.inl rfl)
  · exact .inr (.inr rfl)
  · cases h
theorem locK_ok {b : Bool} {o : Option NameKind} (h : locK b o = true) : o = some .local ∨ (o = some .cell ∧ b = false) := by
  unfold locK at h
  split at h
  · exact .inl rfl
  · exact .inr ⟨rfl, by simpa using h⟩
  · cases h
theorem glK_ok {o : Option NameKind} (h : glK o = true) : o = some .globalImplicit := by
  unfold glK at h
  split at h
  · rfl
  · cases h
/-- the slot of a name of the def -/
def slotOf (g : G) (x : Str) : Option Nat := (g.N.idxOf? x).bind fun i => if decide (g.N[i]? = some x) && !(x == ("__debug__" : Str)) && !(x == ("__classdict__" : Str)) && visK (lk? g x) then some i else none
/-- .. that is stored -/
def storeOf (g : G) (x : Str) : Option Nat := (g.N.idxOf? x).bind fun i => if decide (g.N[i]? = some x) && locK g.blk (lk? g x) then some i else none
def isGl (g : G) (x : Str) : Bool := glK (lk? g x) && !(x == ("__debug__" : Str)) && !decide (x = "__name__")
theorem slotOf_ok {g : G} {k : Nat} {x : Str} {i : Nat} (h : XOk Φ cn g X k) (e : slotOf g x = some i) : X.N[i]? = some x ∧ Vis X.env.scope x ∧ (x == ("__debug__" : Str)) = false ∧ (x == ("__classdict__" : Str)) = false := by
  unfold slotOf at e
  obtain ⟨j, _, e⟩ := Option.bind_eq_some_iff.mp e
  by_cases hc : (decide (g.N[j]? = some x) && !(x == ("__debug__" : Str)) && !(x == ("__classdict__" : Str)) && visK (lk? g x)) = true
  · rw [if_pos hc] at e
    cases e
    simp only [Bool.and_eq_true, decide_eq_true_eq, Bool.not_eq_true'] at hc
    obtain ⟨⟨⟨h1, h2⟩, h3⟩, h4⟩ := hc
    refine ⟨by rw [h.N]; exact h1, ?_, h2, h3⟩
    have := visK_ok h4
    unfold Vis
    rw [h.sc]
    exact this
  · rw [if_neg hc] at e; cases e
theorem storeOf_ok {g : G} {k : Nat} {x : Str} {i : Nat} (h : XOk Φ cn g X k) (e : storeOf g x = some i) : X.N[i]? = some x ∧ Loc X.env.scope x ∧ (X.fn x = true ∨ X.env.scope.names.lookup x = some .local) := by
  unfold storeOf at e
  obtain ⟨j, _, e⟩ := Option.bind_eq_some_iff.mp e
  by_cases hc : (decide (g.N[j]? = some x) && locK g.blk (lk? g x)) = true
  · rw [if_pos hc] at e
    cases e
    simp only [Bool.and_eq_true, decide_eq_true_eq] at hc
    obtain ⟨h1, h4⟩ := hc
    refine ⟨by rw [h.N]; exact h1, ?_⟩
    unfold L2.Loc
    rw [h.sc]
    rcases locK_ok h4 with z | ⟨z, w⟩
    · exact ⟨.inl z, .inr z⟩
    · exact ⟨.inr z, .inl (h.fnb w x)⟩
  · rw [if_neg hc] at e; cases e
theorem isGl_ok {g : G} {k : Nat} {x : Str} (h : XOk Φ cn g X k) (e : isGl g x = true) : Gl X x ∧ (x == ("__debug__" : Str)) = false ∧ x ≠ "__name__" := by
  unfold isGl at e
  simp only [Bool.and_eq_true, Bool.not_eq_true', decide_eq_false_iff_not] at e
  obtain ⟨⟨h1, h2⟩, h3⟩ := e
  refine ⟨?_, h2, h3⟩
  show X.env.kindOf x = some .globalImplicit
  rw [h.kind]
  exact glK_ok h1

/-! ### from the text to the terms -/
def opB : Operator → Option B2
  | .Add => some .add
  | .Sub => some .sub
  | .Mult => some .mul
  | .FloorDiv => some .fdiv
  | .Mod => some .mod
  | .Pow => some .pow
  | _ => none
def opC : CmpOp → Option B2
  | .Eq => some .eq
  | .NotEq => some .ne
  | .Lt => some .lt
  | .LtE => some .le
  | .Gt => some .gt
  | .GtE => some .ge
  | .In => some .isin
  | .NotIn => some .notin
  | .Is => some .is
  | .IsNot => some .isnot
def notSet : Expr → Bool
  | .Set .. => false
  | _ => true
theorem marks {b : Expr} {op : CmpOp} (h : notSet b = true) : behindInMarks op b = false := by
  cases b <;> first | rfl | cases h
theorem opB_ok {op : Operator} {o : B2} (h : opB op = some o) : OpR X (binaryOp op) (fun x y => rB X.K cn (two (run2 o)) [x, y]) := by
  cases op <;> cases h
  · exact b2_add
  · exact b2_sub
  · exact b2_mul
  · exact b2_mod
  · exact b2_pow
  · exact b2_fdiv
theorem opC_ok (hu : X.A.units + 64 < cLine) {op : CmpOp} {o : B2} (h : opC op = some o) : OpR X (compareOp op) (fun x y => rB X.K cn (two (run2 o)) [x, y]) := by
  cases op <;> cases h
  · exact b2_eq hu
  · exact b2_ne hu
  · exact b2_lt
  · exact b2_le
  · exact b2_gt
  · exact b2_ge
  · exact b2_is
  · exact b2_isnot
  · exact b2_in
  · exact b2_notin
theorem opC_bl {op : CmpOp} {o : B2} (h : opC op = some o) : ∀ a b r, run2 o a b = some r → ∃ k, r = .bl k := by
  have st : ∀ {c : Bool} {k : Bool} {r : D}, (if c then some (D.bl k) else none) = some r → ∃ k, r = .bl k := by
    intro c k r e
    split at e
    · exact ⟨_, (Option.some.inj e).symm⟩
    · cases e
  cases op <;> cases h <;> intro a b r e
  · rw [run2] at e; exact st e
  · rw [run2] at e; exact st e
  · cases a <;> cases b <;> first | (exact ⟨_, (Option.some.inj e).symm⟩) | cases e
  · cases a <;> cases b <;> first | (exact ⟨_, (Option.some.inj e).symm⟩) | cases e
  · cases a <;> cases b <;> first | (exact ⟨_, (Option.some.inj e).symm⟩) | cases e
  · cases a <;> cases b <;> first | (exact ⟨_, (Option.some.inj e).symm⟩) | cases e
  · cases a <;> cases b <;> first | (exact ⟨_, (Option.some.inj e).symm⟩) | cases e
  · cases a <;> cases b <;> first | (exact ⟨_, (Option.some.inj e).symm⟩) | cases e
  · cases b with
    | str z =>
      cases a with
      | str y =>
        match y with
        | [c] => exact ⟨_, (Option.some.inj e).symm⟩
        | [] => cases e
        | _ :: _ :: _ => cases e
      | _ => cases e
    | tup o ds => cases a <;> first | exact st e | (cases e; done) | (rename_i y; match y with | [] => exact st e | [_] => exact st e | _ :: _ :: _ => exact st e)
    | lst o ds => cases a <;> first | exact st e | (cases e; done) | (rename_i y; match y with | [] => exact st e | [_] => exact st e | _ :: _ :: _ => exact st e)
    | _ => cases a <;> first | (cases e; done) | (rename_i y; match y with | [] => cases e | [_] => cases e | _ :: _ :: _ => cases e)
  · cases b with
    | str z =>
      cases a with
      | str y =>
        match y with
        | [c] => exact ⟨_, (Option.some.inj e).symm⟩
        | [] => cases e
        | _ :: _ :: _ => cases e
      | _ => cases e
    | tup o ds => cases a <;> first | exact st e | (cases e; done) | (rename_i y; match y with | [] => exact st e | [_] => exact st e | _ :: _ :: _ => exact st e)
    | lst o ds => cases a <;> first | exact st e | (cases e; done) | (rename_i y; match y with | [] => exact st e | [_] => exact st e | _ :: _ :: _ => exact st e)
    | _ => cases a <;> first | (cases e; done) | (rename_i y; match y with | [] => cases e | [_] => cases e | _ :: _ :: _ => cases e)
/-- a built-in function of one argument, by name -/
def bfOf (x : Str) : Option (BF × String × Bool) :=
  if x = "len" then some (.len, "len", true) else if x = "int" then some (.int1, "int", false) else if x = "all" then some (.all, "all", true) else if x = "any" then some (.any, "any", true)
  else if x = "list" then some (.list, "list", false) else none
def tyOf (x : Str) : Option String :=
  if x = "int" then some "int" else if x = "bool" then some "bool" else if x = "str" then some "str" else if x = "list" then some "list" else if x = "tuple" then some "tuple" else none
theorem boot_fn : bootBuiltins "len" = some (.builtin "len") ∧ bootBuiltins "int" = some (.type "int") ∧ bootBuiltins "all" = some (.builtin "all") ∧ bootBuiltins "any" = some (.builtin "any") ∧ bootBuiltins "list" = some (.type "list") ∧
    bootBuiltins "bool" = some (.type "bool") ∧ bootBuiltins "str" = some (.type "str") ∧ bootBuiltins "tuple" = some (.type "tuple") ∧ bootBuiltins "isinstance" = some (.builtin "isinstance") := by decide +kernel
theorem tyOf_ok {x : Str} {t : String} (h : tyOf x = some t) : bootBuiltins x = some (.type t) := by
  obtain ⟨_, b2, _, _, b5, b6, b7, b8, _⟩ := boot_fn
  unfold tyOf at h
  repeat' (split at h)
  all_goals first | (cases h; done) | (rename_i q; subst q; cases h; assumption) | (cases h; subst_vars; assumption)
def ownOf (g : G) : Expr → Option (List (Str × Nat))
  | .Name x _ => (g.N.idxOf? x).map fun i => [(x, i)]
  | .Tuple es _ _ => es.mapM fun e => match e with
    | .Name x _ => (g.N.idxOf? x).map fun i => (x, i)
    | _ => none
  | _ => none
def tgOf (g : G) : Expr → Option (List Nat)
  | .Name x _ => (storeOf g x).map fun i => [i]
  | .Tuple es _ _ => match es.mapM fun e => (match e with
    | .Name x _ => storeOf g x
    | _ => none) with
    | some is => if is.length = 1 then none else some is
    | none => none
  | _ => none
def isTup : Expr → Bool
  | .Tuple .. => true
  | _ => false
def noneC : Expr → Bool
  | .Constant .none _ _ => true
  | _ => false
/-- not a test of its own kind -/
def plainT : Expr → Bool
  | .UnaryOp .Not _ _ => false
  | .BoolOp .. => false
  | .IfExp .. => false
  | .Compare .. => false
  | _ => true
mutual
def cE : Nat → G → Expr → Option Ex
  | 0, _, _ => none
  | n + 1, g, e => match e with
    | .Constant c _ _ => match c with
      | .int i => some (.lit (.int i))
      | .bool b => some (.lit (.bl b))
      | .none => some (.lit .non)
      | .str x => some (.lit (.str x.cps.toList))
      | _ => none
    | .Name x _ => match slotOf g x with
      | some i => some (.slot i)
      | none => if isGl g x then (g.gc.lookup x).map Ex.lit else none
    | .BinOp a op b _ => match opB op, cE n g a, cE n g b with
      | some o, some ea, some eb => some (.op2 o ea eb)
      | _, _, _ => none
    | .Compare a ops bs _ => match ops, bs with
      | [op], [b] => match opC op, cE n g a, cE n g b with
        | some o, some ea, some eb => if notSet b then some (.op2 o ea eb) else none
        | _, _, _ => none
      | [op, op'], [b, c] => match opC op, opC op', cE n g a, cE n g b, cE n g c with
        | some o, some p, some ea, some eb, some ec => if notSet b && notSet c then some (.chain o p ea eb ec) else none
        | _, _, _, _, _ => none
      | _, _ => none
    | .BoolOp op vs pos => match op, vs with
      | _, [a] => cE n g a
      | .And, a :: b :: rest => match cE n g a, cE n g (.BoolOp .And (b :: rest) pos) with
        | some ea, some eb => some (.and ea eb)
        | _, _ => none
      | .Or, a :: b :: rest => match cE n g a, cE n g (.BoolOp .Or (b :: rest) pos) with
        | some ea, some eb => some (.or ea eb)
        | _, _ => none
      | _, _ => none
    | .UnaryOp op a _ => match op with
      | .Not => (cE n g a).map (Ex.op1 .notv)
      | _ => none
    | .IfExp c a b _ => match cT n g c, cE n g a, cE n g b with
      | some t, some ea, some eb => some (.ife t ea eb)
      | _, _, _ => none
    | .Tuple es _ _ => if es.all notStar then (cEs n g es).map Ex.tup else none
    | .List es _ => if es.all notStar then (cEs n g es).map Ex.lst else none
    | .Subscript a b _ => match b with
      | .Slice lo hi st _ => match st with
        | some _ => none
        | none => match lo, hi with
          | none, none => (cE n g a).map fun ea => .bcall (.slice false false) (.cons ea .nil)
          | some l, none => match cE n g a, cE n g l with
            | some ea, some el => some (.bcall (.slice true false) (.cons ea (.cons el .nil)))
            | _, _ => none
          | none, some l => match cE n g a, cE n g l with
            | some ea, some el => some (.bcall (.slice false true) (.cons ea (.cons el .nil)))
            | _, _ => none
          | some l, some h => match cE n g a, cE n g l, cE n g h with
            | some ea, some el, some eh => some (.sl2 ea el eh)
            | _, _, _ => none
      | b => match cE n g a, cE n g b with
        | some ea, some eb => if notSlice b then some (.idx ea eb) else none
        | _, _ => none
    | .Call f args kws pos => match kws with
      | _ :: _ => none
      | [] => match f with
        | .Name x _ => if isGl g x && args.all notStar then match args with
          | [] => none
          | a :: rest => match g.fn.lookup x with
            | some i => (cEs n g (a :: rest)).map (Ex.call i)
            | none => if g.bl.contains x then match rest with
              | [] => match bfOf x with
                | some b => (cE n g a).map fun ea => .bcall b.1 (.cons ea .nil)
                | none => none
              | [.Name t _] => if decide (x = "isinstance") && isGl g t && g.bl.contains t then match tyOf t, cE n g a with
                | some ty, some ea => some (.bcall (.isinst ty) (.cons ea .nil))
                | _, _ => none else none
              | _ => none else none else none
        | .Attribute (.Constant (.str x) _ _) m ap => match args with
          | [a] => if decide (m = "join") && notStar a && (ap.endLine == pos.line) then (cE n g a).map fun ea => .bcall .join (.cons (.lit (.str x.cps.toList)) (.cons ea .nil)) else none
          | _ => none
        | _ => none
    | .ListComp elt gens scope _ => match gens with
      | [⟨tg, iter, ifs, 0⟩] => match ownOf g tg, tgOf (g.inner scope) tg with
        | some own, some is => if blkC g.N g.sc scope own && decide (own.map (·.2) = is) && notSet iter then match cE n (g.inner scope) elt, cI n g tg iter, (match ifs with | [] => some .yes | [c] => cT n (g.inner scope) c | _ => none) with
          | some ee, some it, some tc => some (.lc ee is it tc)
          | _, _, _ => none else none
        | _, _ => none
      | _ => none
    | _ => none
def cT : Nat → G → Expr → Option Tx
  | 0, _, _ => none
  | n + 1, g, e => match e with
    | .BoolOp op vs pos => match op, vs with
      | _, [a] => cT n g a
      | .And, a :: b :: rest => match cT n g a, cT n g (.BoolOp .And (b :: rest) pos) with
        | some ea, some eb => some (.and ea eb)
        | _, _ => none
      | .Or, a :: b :: rest => match cT n g a, cT n g (.BoolOp .Or (b :: rest) pos) with
        | some ea, some eb => some (.or ea eb)
        | _, _ => none
      | _, _ => none
    | .UnaryOp .Not a _ => (cT n g a).map Tx.not
    | .Compare a [op] [b] _ => match opC op, cE n g a, cE n g b with
      | some o, some ea, some eb => if notSet b then some (.val (.op2 o ea eb)) else none
      | _, _, _ => none
    | e => if plainT e then (cE n g e).map Tx.val else none
def cEs : Nat → G → List Expr → Option Exs
  | 0, _, _ => none
  | _ + 1, _, [] => some .nil
  | n + 1, g, e :: es => match cE n g e, cEs n g es with
    | some a, some b => some (.cons a b)
    | _, _ => none
def cI : Nat → G → Expr → Expr → Option It
  | 0, _, _, _ => none
  | n + 1, g, tg, e => match e with
    | .Call (.Name x _) args [] _ => if decide (x = "range") && isGl g x && g.bl.contains x then match args with
        | [a] => if notStar a then (cE n g a).map fun ea => .rng (.lit (.int 0)) ea else none
        | [a, b] => if notStar a && notStar b then match cE n g a, cE n g b with
          | some ea, some eb => some (.rng ea eb)
          | _, _ => none else none
        | _ => none
      else if decide (x = "zip") && isGl g x && g.bl.contains x && isTup tg then match args with
        | [a, b] => if notStar a && notStar b then match cE n g a, cE n g b with
          | some ea, some eb => some (.zip ea eb)
          | _, _ => none else none
        | _ => none
      else (cE n g e).map It.seq
    | e => (cE n g e).map It.seq
end
end DL

namespace DL
open PySem PySem.Spec PyProof.Rows L2
variable {cn : CN} {Φ : Tb} {X : Cx} {k : Nat}

theorem fset {iter : Expr} (h : notSet iter = true) (env : PySem.Env) (x : Value) : foldedSetIterable iter env x = pure x := by
  cases iter <;> first | rfl | cases h
theorem plainT_ok {e : Expr} (h : plainT e = true) (env : PySem.Env) (whole : Sem Value) : isTrue e env whole = (do let v ← whole; standAt e.pos; holding [v] (truthy v)) := by
  cases e with
  | UnaryOp op a pos => cases op <;> first | rfl | cases h
  | BoolOp => cases h
  | IfExp => cases h
  | Compare => cases h
  | _ => rfl
abbrev Both (cn : CN) (Φ : Tb) (X : Cx) (e : Expr) (ex : Ex) : Prop := PEx cn Φ X e ex ∧ POx cn Φ X e ex
theorem both {e : Expr} {ex : Ex} (hs : ex.isSlot = false) (h : PEx cn Φ X e ex) : Both cn Φ X e ex := ⟨h, pox_of hs h⟩
def OkE (cn : CN) (Φ : Tb) (k n : Nat) : Prop := ∀ {g : G} {X : Cx} {e : Expr} {ex : Ex}, XOk Φ cn g X k → cE n g e = some ex → Both cn Φ X e ex
def isBoolOp : Expr → Bool
  | .BoolOp .. => true
  | _ => false
def OkT (cn : CN) (Φ : Tb) (k n : Nat) : Prop := ∀ {g : G} {X : Cx} {e : Expr} {t : Tx}, XOk Φ cn g X k → cT n g e = some t → PTx cn Φ X e t ∧ (isBoolOp e = true → PW X e (tT X.K cn (evT Φ t)))
def OkEs (cn : CN) (Φ : Tb) (k n : Nat) : Prop := ∀ {g : G} {X : Cx} {es : List Expr} {ex : Exs}, XOk Φ cn g X k → es.all notStar = true → cEs n g es = some ex → POsx cn Φ X es ex ∧ PDx cn Φ X es ex
def OkI (cn : CN) (Φ : Tb) (k n : Nat) : Prop := ∀ {g : G} {X : Cx} {tg e : Expr} {it : It}, XOk Φ cn g X k → cI n g tg e = some it → ∀ has, PIx cn Φ X tg e has it

section
variable {n : Nat} {g : G} {ex : Ex}
theorem okE_const (h : XOk Φ cn g X k) {c : Const} {j : Nat} {pos : Pos} (e : cE (n + 1) g (.Constant c j pos) = some ex) : Both cn Φ X (.Constant c j pos) ex := by
  cases c with
  | int i => rw [cE] at e; cases e; exact both rfl (pex_lit pe_int fun _ _ _ => .int i)
  | bool b => rw [cE] at e; cases e; exact both rfl (pex_lit pe_bl fun _ _ _ => .bl b)
  | none => rw [cE] at e; cases e; exact both rfl (pex_lit pe_non fun _ _ _ => .non)
  | str x =>
    rw [cE] at e
    cases e
    exact both rfl (pex_lit pe_str fun _ _ _ => by
      obtain ⟨cps⟩ := x
      exact OR.str cps.toList)
  | _ => simp [cE] at e
theorem okE_name (h : XOk Φ cn g X k) {x : Str} {pos : Pos} (e : cE (n + 1) g (.Name x pos) = some ex) : Both cn Φ X (.Name x pos) ex := by
  rw [cE] at e
  cases q : slotOf g x with
  | some i =>
    simp only [q] at e
    cases e
    obtain ⟨a, b, c, d⟩ := slotOf_ok h q
    exact ⟨pex_slot a b c d, pox_slot a b c d⟩
  | none =>
    simp only [q] at e
    by_cases hg : isGl g x = true
    · rw [if_pos hg] at e
      obtain ⟨d, hd, rfl⟩ := Option.map_eq_some_iff.mp e
      obtain ⟨a, b, c⟩ := isGl_ok h hg
      have mem : (x, d) ∈ g.gc := by
        have : ∀ l : List (Str × D), l.lookup x = some d → (x, d) ∈ l := by
          intro l
          induction l with
          | nil => intro h; cases h
          | cons p l ih =>
            intro h
            obtain ⟨y, z⟩ := p
            rw [List.lookup_cons] at h
            split at h
            · rename_i hb
              cases h
              have : x = y := by simpa using hb
              subst this
              exact List.mem_cons_self
            · exact List.mem_cons_of_mem _ (ih h)
        exact this _ hd
      obtain ⟨u, v, hm, r, o⟩ := h.gc _ mem
      exact both rfl (pex_lit (pe_glob a hm r b) o)
    · rw [if_neg hg] at e; cases e
theorem okE_bin (h : XOk Φ cn g X k) (ihE : OkE cn Φ k n) {a b : Expr} {op : Operator} {pos : Pos} (e : cE (n + 1) g (.BinOp a op b pos) = some ex) : Both cn Φ X (.BinOp a op b pos) ex := by
  rw [cE] at e
  cases q1 : opB op with
  | none => simp only [q1] at e; cases e
  | some o =>
    cases q2 : cE n g a with
    | none => simp only [q1, q2] at e; cases e
    | some ea =>
      cases q3 : cE n g b with
      | none => simp only [q1, q2, q3] at e; cases e
      | some eb =>
        simp only [q1, q2, q3] at e
        cases e
        exact both rfl (pex_op2 (opB_ok q1) (ihE h q2).2 (ihE h q3).2)
theorem okE_cmp (h : XOk Φ cn g X k) (ihE : OkE cn Φ k n) {a : Expr} {ops : List CmpOp} {bs : List Expr} {pos : Pos} (e : cE (n + 1) g (.Compare a ops bs pos) = some ex) : Both cn Φ X (.Compare a ops bs pos) ex := by
  match ops, bs with
  | [op], [b] =>
    rw [cE] at e
    cases q1 : opC op with
    | none => simp only [q1] at e; cases e
    | some o =>
      cases q2 : cE n g a with
      | none => simp only [q1, q2] at e; cases e
      | some ea =>
        cases q3 : cE n g b with
        | none => simp only [q1, q2, q3] at e; cases e
        | some eb =>
          simp only [q1, q2, q3] at e
          by_cases hm : notSet b = true
          · rw [if_pos hm] at e
            cases e
            exact both rfl (pex_cmp (opC_ok h.room.units q1) (ihE h q2).2 (ihE h q3).2 (marks hm))
          · rw [if_neg hm] at e; cases e
  | [op, op'], [b, c] =>
    rw [cE] at e
    cases q1 : opC op with
    | none => simp only [q1] at e; cases e
    | some o =>
      cases q1' : opC op' with
      | none => simp only [q1, q1'] at e; cases e
      | some o' =>
        cases q2 : cE n g a with
        | none => simp only [q1, q1', q2] at e; cases e
        | some ea =>
          cases q3 : cE n g b with
          | none => simp only [q1, q1', q2, q3] at e; cases e
          | some eb =>
            cases q4 : cE n g c with
            | none => simp only [q1, q1', q2, q3, q4] at e; cases e
            | some ec =>
              simp only [q1, q1', q2, q3, q4] at e
              by_cases hm : (notSet b && notSet c) = true
              · rw [if_pos hm] at e
                cases e
                rw [Bool.and_eq_true] at hm
                refine both rfl (pex_chain (opC_ok h.room.units q1) (opC_ok h.room.units q1') (ihE h q2).2 (ihE h q3).2 (ihE h q4).2 ?_)
                exact marks hm.2
              · rw [if_neg hm] at e; cases e
  | [], _ => simp [cE] at e
  | [_], [] => simp [cE] at e
  | [_], _ :: _ :: _ => simp [cE] at e
  | [_, _], [] => simp [cE] at e
  | [_, _], [_] => simp [cE] at e
  | [_, _], _ :: _ :: _ :: _ => simp [cE] at e
  | _ :: _ :: _ :: _, _ => simp [cE] at e
theorem okE_bool (h : XOk Φ cn g X k) (ihE : OkE cn Φ k n) {op : BoolOp} {vs : List Expr} {pos : Pos} (e : cE (n + 1) g (.BoolOp op vs pos) = some ex) : Both cn Φ X (.BoolOp op vs pos) ex := by
  match op, vs with
  | .And, [a] => rw [cE] at e; exact ⟨pex_one (ihE h e).1, pe_one (ihE h e).2⟩
  | .Or, [a] => rw [cE] at e; exact ⟨pex_one (ihE h e).1, pe_one (ihE h e).2⟩
  | .And, a :: b :: rest =>
    rw [cE] at e
    cases q2 : cE n g a with
    | none => simp only [q2] at e; cases e
    | some ea =>
      cases q3 : cE n g (.BoolOp .And (b :: rest) pos) with
      | none => simp only [q2, q3] at e; cases e
      | some eb =>
        simp only [q2, q3] at e
        cases e
        exact both rfl (pex_and (ihE h q2).1 (ihE h q3).1)
  | .Or, a :: b :: rest =>
    rw [cE] at e
    cases q2 : cE n g a with
    | none => simp only [q2] at e; cases e
    | some ea =>
      cases q3 : cE n g (.BoolOp .Or (b :: rest) pos) with
      | none => simp only [q2, q3] at e; cases e
      | some eb =>
        simp only [q2, q3] at e
        cases e
        exact both rfl (pex_or (ihE h q2).1 (ihE h q3).1)
  | .And, [] => simp [cE] at e
  | .Or, [] => simp [cE] at e
theorem okE_un (h : XOk Φ cn g X k) (ihE : OkE cn Φ k n) {op : UnaryOp} {a : Expr} {pos : Pos} (e : cE (n + 1) g (.UnaryOp op a pos) = some ex) : Both cn Φ X (.UnaryOp op a pos) ex := by
  cases op with
  | Not =>
    rw [cE] at e
    obtain ⟨ea, q, rfl⟩ := Option.map_eq_some_iff.mp e
    exact both rfl (pex_not (ihE h q).2)
  | _ => simp [cE] at e
theorem okE_ife (h : XOk Φ cn g X k) (ihE : OkE cn Φ k n) (ihT : OkT cn Φ k n) {c a b : Expr} {pos : Pos} (e : cE (n + 1) g (.IfExp c a b pos) = some ex) : Both cn Φ X (.IfExp c a b pos) ex := by
  rw [cE] at e
  cases q1 : cT n g c with
  | none => simp only [q1] at e; cases e
  | some t =>
    cases q2 : cE n g a with
    | none => simp only [q1, q2] at e; cases e
    | some ea =>
      cases q3 : cE n g b with
      | none => simp only [q1, q2, q3] at e; cases e
      | some eb =>
        simp only [q1, q2, q3] at e
        cases e
        exact both rfl (pex_ife (ihT h q1).1 (ihE h q2).1 (ihE h q3).1)
theorem okE_tup (h : XOk Φ cn g X k) (ihD : OkEs cn Φ k n) {es : List Expr} {m : Nat} {pos : Pos} (e : cE (n + 1) g (.Tuple es m pos) = some ex) : Both cn Φ X (.Tuple es m pos) ex := by
  rw [cE] at e
  by_cases hs : es.all notStar = true
  · rw [if_pos hs] at e
    obtain ⟨ea, q, rfl⟩ := Option.map_eq_some_iff.mp e
    exact both rfl (pex_tup (ihD h hs q).2)
  · rw [if_neg hs] at e; cases e
theorem okE_lst (h : XOk Φ cn g X k) (ihD : OkEs cn Φ k n) {es : List Expr} {pos : Pos} (e : cE (n + 1) g (.List es pos) = some ex) : Both cn Φ X (.List es pos) ex := by
  rw [cE] at e
  by_cases hs : es.all notStar = true
  · rw [if_pos hs] at e
    obtain ⟨ea, q, rfl⟩ := Option.map_eq_some_iff.mp e
    exact both rfl (pex_lst (ihD h hs q).2)
  · rw [if_neg hs] at e; cases e
theorem okE_idx {a b : Expr} {pos : Pos} (h : XOk Φ cn g X k) (ihE : OkE cn Φ k n) (e : (match cE n g a, cE n g b with | some ea, some eb => if notSlice b then some (Ex.idx ea eb) else none | _, _ => none) = some ex) : Both cn Φ X (.Subscript a b pos) ex := by
  cases q2 : cE n g a with
  | none => simp only [q2] at e; cases e
  | some ea =>
    cases q3 : cE n g b with
    | none => simp only [q2, q3] at e; cases e
    | some eb =>
      simp only [q2, q3] at e
      by_cases hs : notSlice b = true
      · rw [if_pos hs] at e
        cases e
        exact both rfl (pex_idx (ihE h q2).2 (ihE h q3).2 hs)
      · rw [if_neg hs] at e; cases e
theorem okE_sub (h : XOk Φ cn g X k) (ihE : OkE cn Φ k n) {a b : Expr} {pos : Pos} (e : cE (n + 1) g (.Subscript a b pos) = some ex) : Both cn Φ X (.Subscript a b pos) ex := by
  cases b with
  | Slice lo hi st p2 =>
    cases st with
    | some _ => simp [cE] at e
    | none =>
      cases lo with
      | none =>
        cases hi with
        | none =>
          rw [cE] at e
          obtain ⟨ea, q, rfl⟩ := Option.map_eq_some_iff.mp e
          exact both rfl (pex_slice00 (ihE h q).2)
        | some l =>
          rw [cE] at e
          cases q2 : cE n g a with
          | none => simp only [q2] at e; cases e
          | some ea =>
            cases q3 : cE n g l with
            | none => simp only [q2, q3] at e; cases e
            | some eb =>
              simp only [q2, q3] at e
              cases e
              exact both rfl (pex_slice01 (ihE h q2).2 (ihE h q3).2)
      | some l =>
        cases hi with
        | none =>
          rw [cE] at e
          cases q2 : cE n g a with
          | none => simp only [q2] at e; cases e
          | some ea =>
            cases q3 : cE n g l with
            | none => simp only [q2, q3] at e; cases e
            | some eb =>
              simp only [q2, q3] at e
              cases e
              exact both rfl (pex_slice10 (ihE h q2).2 (ihE h q3).2)
        | some r =>
          rw [cE] at e
          cases q2 : cE n g a with
          | none => simp only [q2] at e; cases e
          | some ea =>
            cases q3 : cE n g l with
            | none => simp only [q2, q3] at e; cases e
            | some eb =>
              cases q4 : cE n g r with
              | none => simp only [q2, q3, q4] at e; cases e
              | some ec =>
                simp only [q2, q3, q4] at e
                cases e
                exact both rfl (pex_slice11 (ihE h q2).2 (ihE h q3).2 (ihE h q4).2)
  | _ => rw [cE] at e <;> first | exact okE_idx h ihE e | (intros; contradiction)
end
end DL

namespace DL
open PySem PySem.Spec PyProof.Rows L2
variable {cn : CN} {Φ : Tb} {X : Cx} {k : Nat}

theorem lookup_mem {α : Type} {x : Str} {d : α} : ∀ {l : List (Str × α)}, l.lookup x = some d → (x, d) ∈ l
  | [], h => by cases h
  | (y, z) :: l, h => by
    rw [List.lookup_cons] at h
    split at h
    · rename_i hb
      cases h
      have : x = y := by simpa using hb
      subst this
      exact List.mem_cons_self
    · exact List.mem_cons_of_mem _ (lookup_mem h)
theorem bfOf_ok (hc : X.calm = true) {x : Str} {b : BF × String × Bool} (h : bfOf x = some b) :
    (bootBuiltins x = some (.builtin b.2.1) ∧ CallR X (.builtin b.2.1) (rB X.K cn (runB b.1))) ∨ (bootBuiltins x = some (.type b.2.1) ∧ CallR X (.type b.2.1) (rB X.K cn (runB b.1))) := by
  obtain ⟨b1, b2, b3, b4, b5, _⟩ := boot_fn
  unfold bfOf at h
  split at h
  · rename_i q; subst q; cases h; exact .inl ⟨b1, bf_len⟩
  · split at h
    · rename_i q; subst q; cases h; exact .inr ⟨b2, bf_int⟩
    · split at h
      · rename_i q; subst q; cases h; exact .inl ⟨b3, bf_all hc⟩
      · split at h
        · rename_i q; subst q; cases h; exact .inl ⟨b4, bf_any hc⟩
        · split at h
          · rename_i q; subst q; cases h; exact .inr ⟨b5, bf_list⟩
          · cases h
theorem names_ok {g : G} (h : XOk Φ cn g X k) : ∀ {es : List Expr} {is : List Nat}, es.mapM (fun e => (match e with | .Name x _ => storeOf g x | _ => none : Option Nat)) = some is → PGN X es is
  | [], is, e => by
    have : is = [] := by simpa using e.symm
    subst this
    exact .nil
  | e0 :: es, is, e => by
    rw [List.mapM_cons] at e
    obtain ⟨i, h1, e⟩ := Option.bind_eq_some_iff.mp e
    obtain ⟨js, h2, e⟩ := Option.bind_eq_some_iff.mp e
    cases e
    cases e0 with
    | Name x pos =>
      obtain ⟨a, b, c⟩ := storeOf_ok h h1
      exact .cons a b c (names_ok h h2)
    | _ => cases h1
theorem tg_ok {g : G} (h : XOk Φ cn g X k) {tg : Expr} {is : List Nat} (e : tgOf g tg = some is) : PGx cn X tg is := by
  have hN : X.N.Nodup := by rw [h.N]; exact h.nd
  cases tg with
  | Name x pos =>
    obtain ⟨i, h1, rfl⟩ := Option.map_eq_some_iff.mp e
    obtain ⟨a, b, c⟩ := storeOf_ok h h1
    exact pgx_name hN a b c
  | Tuple es m pos =>
    have e' : (match es.mapM (fun e => (match e with | .Name x _ => storeOf g x | _ => none : Option Nat)) with
      | some is => if is.length = 1 then none else some is
      | none => none) = some is := e
    cases q : es.mapM (fun e => (match e with | .Name x _ => storeOf g x | _ => none : Option Nat)) with
    | none => rw [q] at e'; cases e'
    | some js =>
      rw [q] at e'
      simp only at e'
      by_cases hl : js.length = 1
      · rw [if_pos hl] at e'; cases e'
      · rw [if_neg hl] at e'
        cases e'
        exact pgx_tup h.calm hN (names_ok h q) hl
  | _ => cases e

section
variable {n : Nat} {g : G} {ex : Ex}
theorem okE_call (h : XOk Φ cn g X k) (ihE : OkE cn Φ k n) (ihD : OkEs cn Φ k n) {f : Expr} {args : List Expr} {kws : List Keyword} {pos : Pos} (e : cE (n + 1) g (.Call f args kws pos) = some ex) : Both cn Φ X (.Call f args kws pos) ex := by
  cases kws with
  | cons _ _ => simp [cE] at e
  | nil =>
    cases f with
    | Name x p =>
      rw [cE.eq_def] at e
      simp only at e
      by_cases hc : (isGl g x && args.all notStar) = true
      · rw [if_pos hc] at e
        rw [Bool.and_eq_true] at hc
        obtain ⟨hgl, hst⟩ := hc
        obtain ⟨ga, gb, gn⟩ := isGl_ok h hgl
        match args with
        | [] => cases e
        | a :: rest =>
          simp only at e
          cases q : g.fn.lookup x with
          | some i =>
            simp only [q] at e
            obtain ⟨ea, q2, rfl⟩ := Option.map_eq_some_iff.mp e
            obtain ⟨fa, fd, ps, hm, hk, hb, G⟩ := (h.fn _ (lookup_mem q)).ex
            exact both rfl (pex_call G h.room ga hm hk hb (ihD h hst q2).1 hst gb)
          | none =>
            simp only [q] at e
            by_cases hb : g.bl.contains x = true
            · rw [if_pos hb] at e
              have hm : X.mg x = none := h.bl x (by simpa using hb)
              match rest with
              | [] =>
                simp only at e
                cases q2 : bfOf x with
                | none => simp only [q2] at e; cases e
                | some b =>
                  simp only [q2] at e
                  obtain ⟨ea, q3, rfl⟩ := Option.map_eq_some_iff.mp e
                  have hs : notStar a = true := by simpa using hst
                  have hos : POsx cn Φ X [a] (.cons ea .nil) := posx_cons hs (ihE h q3).2 posx_nil
                  rcases bfOf_ok (cn := cn) h.calm q2 with ⟨v, c⟩ | ⟨v, c⟩
                  · exact both rfl (pex_bcallB c ga hm v hos hst gn gb)
                  · exact both rfl (pex_bcallT c ga hm v hos hst gn gb)
              | [r] =>
                cases r with
                | Name t p2 =>
                  simp only at e
                  by_cases hc2 : (decide (x = "isinstance") && isGl g t && g.bl.contains t) = true
                  · rw [if_pos hc2] at e
                    simp only [Bool.and_eq_true, decide_eq_true_eq] at hc2
                    obtain ⟨⟨hx, hgt⟩, hbt⟩ := hc2
                    subst hx
                    cases q2 : tyOf t with
                    | none => simp only [q2] at e; cases e
                    | some ty =>
                      cases q3 : cE n g a with
                      | none => simp only [q2, q3] at e; cases e
                      | some ea =>
                        simp only [q2, q3] at e
                        cases e
                        obtain ⟨ta, tb, tn⟩ := isGl_ok h hgt
                        obtain ⟨_, _, _, _, _, _, _, _, b9⟩ := boot_fn
                        have hs : notStar a = true := by
                          rw [List.all_cons, Bool.and_eq_true] at hst
                          exact hst.1
                        exact both rfl (pex_isinst ga hm b9 gn gb ta (h.bl t (by simpa using hbt)) (tyOf_ok q2) tn tb (ihE h q3).2 hs)
                  · rw [if_neg hc2] at e; cases e
                | _ => cases e
              | _ :: _ :: _ => simp only at e; cases e
            · rw [if_neg hb] at e; cases e
      · rw [if_neg hc] at e; cases e
    | Attribute o m ap =>
      rw [cE.eq_def] at e
      cases o with
      | Constant c j p =>
        cases c with
        | str x =>
          simp only at e
          match args with
          | [a] =>
            simp only at e
            by_cases hc : (decide (m = "join") && notStar a && (ap.endLine == pos.line)) = true
            · rw [if_pos hc] at e
              simp only [Bool.and_eq_true, decide_eq_true_eq] at hc
              obtain ⟨⟨hx, hs⟩, hl⟩ := hc
              subst hx
              obtain ⟨ea, q3, rfl⟩ := Option.map_eq_some_iff.mp e
              exact both rfl (pex_join (ihE h q3).2 hs hl)
            · rw [if_neg hc] at e; cases e
          | [] => cases e
          | _ :: _ :: _ => cases e
        | _ => cases e
      | _ => cases e
    | _ => simp [cE] at e
theorem okE_lc (h : XOk Φ cn g X k) (ihE : OkE cn Φ k n) (ihT : OkT cn Φ k n) (ihI : OkI cn Φ k n) {elt : Expr} {gens : List Comprehension} {scope : Scope} {pos : Pos} (e : cE (n + 1) g (.ListComp elt gens scope pos) = some ex) :
    ∃ tg iter ifs is ee it tc own, gens = [⟨tg, iter, ifs, 0⟩] ∧ ex = .lc ee is it tc ∧ PIx cn Φ X tg iter (fun i => ee.has i || is.contains i || tc.has i) it ∧ BlkOk X.N X.env.scope scope own ∧ own.map (·.2) = is ∧
      (∀ (s : Shared) (H : Hp) (C : Addr) (cl : List (Str × Addr)) (fp : List Addr), PGx cn (X.blk s H scope (compEnvC scope cl C X.env) fp) tg is) ∧ (∀ (s : Shared) (H : Hp) (C : Addr) (cl : List (Str × Addr)) (fp : List Addr), PTsx cn Φ (X.blk s H scope (compEnvC scope cl C X.env) fp) ifs tc) ∧
      (∀ (s : Shared) (H : Hp) (C : Addr) (cl : List (Str × Addr)) (fp : List Addr), PEx cn Φ (X.blk s H scope (compEnvC scope cl C X.env) fp) elt ee) ∧ (∀ x, foldedSetIterable iter X.env x = pure x) := by
  rw [cE.eq_def] at e
  simp only at e
  split at e
  · rename_i tg iter ifs
    cases q1 : ownOf g tg with
    | none => simp only [q1] at e; cases e
    | some own =>
      cases q2 : tgOf (g.inner scope) tg with
      | none => simp only [q1, q2] at e; cases e
      | some is =>
        simp only [q1, q2] at e
        by_cases hc : (blkC g.N g.sc scope own && decide (own.map (·.2) = is) && notSet iter) = true
        · rw [if_pos hc] at e
          simp only [Bool.and_eq_true, decide_eq_true_eq] at hc
          obtain ⟨⟨hb, hw⟩, hn⟩ := hc
          cases q3 : cE n (g.inner scope) elt with
          | none => simp only [q3] at e; cases e
          | some ee =>
            cases q4 : cI n g tg iter with
            | none => simp only [q3, q4] at e; cases e
            | some it =>
              simp only [q3, q4] at e
              have fin : ∀ tc, (∀ (s : Shared) (H : Hp) (C : Addr) (cl : List (Str × Addr)) (fp : List Addr), PTsx cn Φ (X.blk s H scope (compEnvC scope cl C X.env) fp) ifs tc) → some (Ex.lc ee is it tc) = some ex →
                  ∃ tg' iter' ifs' is ee it tc own, [(⟨tg, iter, ifs, 0⟩ : Comprehension)] = [⟨tg', iter', ifs', 0⟩] ∧ ex = .lc ee is it tc ∧ PIx cn Φ X tg' iter' (fun i => ee.has i || is.contains i || tc.has i) it ∧ BlkOk X.N X.env.scope scope own ∧ own.map (·.2) = is ∧
                    (∀ (s : Shared) (H : Hp) (C : Addr) (cl : List (Str × Addr)) (fp : List Addr), PGx cn (X.blk s H scope (compEnvC scope cl C X.env) fp) tg' is) ∧ (∀ (s : Shared) (H : Hp) (C : Addr) (cl : List (Str × Addr)) (fp : List Addr), PTsx cn Φ (X.blk s H scope (compEnvC scope cl C X.env) fp) ifs' tc) ∧
                    (∀ (s : Shared) (H : Hp) (C : Addr) (cl : List (Str × Addr)) (fp : List Addr), PEx cn Φ (X.blk s H scope (compEnvC scope cl C X.env) fp) elt ee) ∧ (∀ x, foldedSetIterable iter' X.env x = pure x) := by
                intro tc ht e
                cases e
                exact ⟨tg, iter, ifs, is, ee, it, tc, own, rfl, rfl, ihI h q4 _, blkOk_by (by rw [h.N, h.sc]; exact hb), hw, fun s H C cl fp => tg_ok (h.inner s H scope C cl fp) q2, ht, fun s H C cl fp => (ihE (h.inner s H scope C cl fp) q3).1, fun x => fset hn _ x⟩
              cases ifs with
              | nil => exact fin .yes (fun s H C cl fp => ptsx_nil) e
              | cons c r =>
                cases r with
                | nil =>
                  simp only at e
                  cases q5 : cT n (g.inner scope) c with
                  | none => simp only [q5] at e; cases e
                  | some tc =>
                    simp only [q5] at e
                    exact fin tc (fun s H C cl fp => ptsx_one (ihT (h.inner s H scope C cl fp) q5).1) e
                | cons _ _ => simp only at e; cases e
        · rw [if_neg hc] at e; cases e
  · cases e
theorem okE_step (ihE : OkE cn Φ k n) (ihT : OkT cn Φ k n) (ihD : OkEs cn Φ k n) (ihI : OkI cn Φ k n) : OkE cn Φ k (n + 1) := by
  intro g X e ex h q
  cases e with
  | Constant => exact okE_const h q
  | Name => exact okE_name h q
  | BinOp => exact okE_bin h ihE q
  | Compare => exact okE_cmp h ihE q
  | BoolOp => exact okE_bool h ihE q
  | UnaryOp => exact okE_un h ihE q
  | IfExp => exact okE_ife h ihE ihT q
  | Tuple => exact okE_tup h ihD q
  | List => exact okE_lst h ihD q
  | Subscript => exact okE_sub h ihE q
  | Call => exact okE_call h ihE ihD q
  | ListComp =>
    obtain ⟨tg, iter, ifs, is, ee, it, tc, own, rfl, rfl, h1, h2, h3, h4, h5, h6, h7⟩ := okE_lc h ihE ihT ihI q
    exact both rfl (pex_lc h.calm (by rw [h.N]; exact h.nd) h1 h2 h3 h4 h5 h6 h7)
  | _ => simp [cE] at q
theorem okEs_step (ihE : OkE cn Φ k n) (ihD : OkEs cn Φ k n) : OkEs cn Φ k (n + 1) := by
  intro g X es ex h hs q
  cases es with
  | nil => rw [cEs] at q; cases q; exact ⟨posx_nil, pdx_nil⟩
  | cons e es =>
    rw [cEs] at q
    rw [List.all_cons, Bool.and_eq_true] at hs
    cases q1 : cE n g e with
    | none => simp only [q1] at q; cases q
    | some a =>
      cases q2 : cEs n g es with
      | none => simp only [q1, q2] at q; cases q
      | some b =>
        simp only [q1, q2] at q
        cases q
        exact ⟨posx_cons hs.1 (ihE h q1).2 (ihD h hs.2 q2).1, pdx_cons hs.1 (ihE h q1).1 (ihD h hs.2 q2).2⟩
end
end DL

namespace DL
open PySem PySem.Spec PyProof.Rows L2
variable {cn : CN} {Φ : Tb} {X : Cx} {k : Nat}
section
variable {n : Nat} {g : G}
theorem okT_plain (h : XOk Φ cn g X k) (ihE : OkE cn Φ k n) {e : Expr} {t : Tx} (hb : isBoolOp e = false) (q : (if plainT e then (cE n g e).map Tx.val else none) = some t) : PTx cn Φ X e t ∧ (isBoolOp e = true → PW X e (tT X.K cn (evT Φ t))) := by
  refine ⟨?_, fun z => by rw [hb] at z; cases z⟩
  by_cases hp : plainT e = true
  · rw [if_pos hp] at q
    obtain ⟨ea, q1, rfl⟩ := Option.map_eq_some_iff.mp q
    exact ptx_val (ihE h q1).2 (plainT_ok hp X.env)
  · rw [if_neg hp] at q; cases q
theorem okT_step (ihE : OkE cn Φ k n) (ihT : OkT cn Φ k n) : OkT cn Φ k (n + 1) := by
  intro g X e t h q
  rw [cT.eq_def] at q
  cases e with
  | BoolOp op vs pos =>
    simp only at q
    suffices PW X (.BoolOp op vs pos) (tT X.K cn (evT Φ t)) from ⟨this.pt, fun _ => this⟩
    match op, vs with
    | .And, [a] => exact ptx_and1 (ihT h q).1
    | .Or, [a] => exact ptx_or1 (ihT h q).1
    | .And, a :: b :: rest =>
      simp only at q
      cases q2 : cT n g a with
      | none => simp only [q2] at q; cases q
      | some ea =>
        cases q3 : cT n g (.BoolOp .And (b :: rest) pos) with
        | none => simp only [q2, q3] at q; cases q
        | some eb =>
          simp only [q2, q3] at q
          cases q
          exact ptx_and (ihT h q2).1 ((ihT h q3).2 rfl)
    | .Or, a :: b :: rest =>
      simp only at q
      cases q2 : cT n g a with
      | none => simp only [q2] at q; cases q
      | some ea =>
        cases q3 : cT n g (.BoolOp .Or (b :: rest) pos) with
        | none => simp only [q2, q3] at q; cases q
        | some eb =>
          simp only [q2, q3] at q
          cases q
          exact ptx_or (ihT h q2).1 ((ihT h q3).2 rfl)
    | .And, [] => cases q
    | .Or, [] => cases q
  | UnaryOp op a pos =>
    cases op with
    | Not =>
      obtain ⟨ea, q1, rfl⟩ := Option.map_eq_some_iff.mp q
      exact ⟨ptx_not (ihT h q1).1, fun z => by cases z⟩
    | _ => exact okT_plain h ihE rfl q
  | Compare a ops bs pos =>
    refine ⟨?_, fun z => by cases z⟩
    match ops, bs with
    | [op], [b] =>
      simp only at q
      cases q1 : opC op with
      | none => simp only [q1] at q; cases q
      | some o =>
        cases q2 : cE n g a with
        | none => simp only [q1, q2] at q; cases q
        | some ea =>
          cases q3 : cE n g b with
          | none => simp only [q1, q2, q3] at q; cases q
          | some eb =>
            simp only [q1, q2, q3] at q
            by_cases hm : notSet b = true
            · rw [if_pos hm] at q
              cases q
              exact ptx_cmp (opC_ok h.room.units q1) (opC_bl q1) (ihE h q2).2 (ihE h q3).2 (marks hm)
            · rw [if_neg hm] at q; cases q
    | [], _ => simp [plainT] at q
    | [_], [] => simp [plainT] at q
    | [_], _ :: _ :: _ => simp [plainT] at q
    | _ :: _ :: _, _ => simp [plainT] at q
  | _ => exact okT_plain h ihE rfl q
theorem okI_step (ihE : OkE cn Φ k n) : OkI cn Φ k (n + 1) := by
  intro g X tg e it h q has
  have gen : (cE n g e).map It.seq = some it → PIx cn Φ X tg e has it := fun q => by
    obtain ⟨ea, q1, rfl⟩ := Option.map_eq_some_iff.mp q
    exact pix_seq (ihE h q1).2
  rw [cI.eq_def] at q
  simp only at q
  split at q
  · rename_i x _ args _
    by_cases hc : (decide (x = "range") && isGl g x && g.bl.contains x) = true
    · rw [if_pos hc] at q
      simp only [Bool.and_eq_true, decide_eq_true_eq] at hc
      obtain ⟨⟨hx, hg⟩, hb⟩ := hc
      subst hx
      obtain ⟨ga, gb, gn⟩ := isGl_ok h hg
      have hm := h.bl _ (show ("range" : Str) ∈ g.bl by simpa using hb)
      match args with
      | [] => cases q
      | [a] =>
        simp only at q
        by_cases hs : notStar a = true
        · rw [if_pos hs] at q
          obtain ⟨ea, q1, rfl⟩ := Option.map_eq_some_iff.mp q
          exact pix_rng1 ga hm (ihE h q1).2 hs
        · rw [if_neg hs] at q; cases q
      | [a, b] =>
        simp only at q
        by_cases hs : (notStar a && notStar b) = true
        · rw [if_pos hs] at q
          rw [Bool.and_eq_true] at hs
          cases q2 : cE n g a with
          | none => simp only [q2] at q; cases q
          | some ea =>
            cases q3 : cE n g b with
            | none => simp only [q2, q3] at q; cases q
            | some eb =>
              simp only [q2, q3] at q
              cases q
              exact pix_rng2 ga hm (ihE h q2).2 (ihE h q3).2 hs.1 hs.2
        · rw [if_neg hs] at q; cases q
      | _ :: _ :: _ :: _ => simp only at q; cases q
    · rw [if_neg hc] at q
      by_cases hc2 : (decide (x = "zip") && isGl g x && g.bl.contains x && isTup tg) = true
      · rw [if_pos hc2] at q
        simp only [Bool.and_eq_true, decide_eq_true_eq] at hc2
        obtain ⟨⟨⟨hx, hg⟩, hb⟩, ht⟩ := hc2
        subst hx
        obtain ⟨ga, gb, gn⟩ := isGl_ok h hg
        have hm := h.bl _ (show ("zip" : Str) ∈ g.bl by simpa using hb)
        match args with
        | [] => cases q
        | [_] => simp only at q; cases q
        | [a, b] =>
          simp only at q
          by_cases hs : (notStar a && notStar b) = true
          · rw [if_pos hs] at q
            rw [Bool.and_eq_true] at hs
            cases q2 : cE n g a with
            | none => simp only [q2] at q; cases q
            | some ea =>
              cases q3 : cE n g b with
              | none => simp only [q2, q3] at q; cases q
              | some eb =>
                simp only [q2, q3] at q
                cases q
                cases tg with
                | Tuple elts kk tpos => exact pix_zip ga hm (ihE h q2).2 (ihE h q3).2 hs.1 hs.2
                | _ => cases ht
          · rw [if_neg hs] at q; cases q
        | _ :: _ :: _ :: _ => simp only at q; cases q
      · rw [if_neg hc2] at q
        exact gen q
  · exact gen q
end
theorem ok_all (cn : CN) (Φ : Tb) (k : Nat) : ∀ n, OkE cn Φ k n ∧ OkT cn Φ k n ∧ OkEs cn Φ k n ∧ OkI cn Φ k n
  | 0 => ⟨fun _ q => by simp [cE] at q, fun _ q => by simp [cT] at q, fun _ _ q => by simp [cEs] at q, fun _ q => by simp [cI] at q⟩
  | n + 1 => by
    obtain ⟨a, b, c, d⟩ := ok_all cn Φ k n
    exact ⟨okE_step a b c d, okT_step a b, okEs_step a c, okI_step a⟩
end DL

namespace DL
open PySem PySem.Spec PyProof.Rows L2
variable {cn : CN} {Φ : Tb} {X : Cx} {k : Nat} {lk : List Bool}

/-- a statement that the runs never come to -/
def Sx.never : Sx := .augI 0 [] (.lit .non) .add (.lit .non)
theorem psx_never {st : Stmt} : PSx cn Φ lk X st .never := PS.mono ps_never fun D σ H ⟨F, S, ρ, fx, sl, w⟩ => by
  have w' : okS X.K cn lk F H S σ .bad D := by
    have e : evS Φ lk .never ρ = .bad := by rw [Sx.never, evS]
    rw [e] at w
    exact w
  exact w'.elim
def isFun : ScopeKind → Bool
  | .function => true
  | _ => false
theorem isFun_ok {s : ScopeKind} (h : isFun s = true) : s = .function := by
  unfold isFun at h
  split at h
  · rfl
  · cases h
def lcOk (g : G) (y : Str) (py : Pos) : Expr → Bool
  | .ListComp _ _ scope pos => isFun g.sc.kind && decide (lk? g y = some .local) && (py.line == pos.line) && !(scope.names.any fun (n, k) => n == y && (k == .local || k == .cell))
  | e => notComp e
mutual
def cS : Nat → G → Stmt → Option Sx
  | 0, _, _ => none
  | n + 1, g, st => match st with
    | .Pass _ => some .pass
    | .Break _ => some .brk
    | .Continue _ => some .cnt
    | .Raise .. => some .never
    | .Expr e _ => match e with
      | .Constant (.str _) _ _ => some .pass
      | .Call (.Attribute (.Name x _) m p2) [a] [] p3 => if decide (m = "append") && notStar a && (p2.endLine == p3.line) then match slotOf g x, cE n g a with
          | some i, some ea => some (.app i [] ea)
          | _, _ => none else none
      | e => if notComp e then (cE n g e).map Sx.expr else none
    | .Assign [.Name y py] e _ => match storeOf g y, cE n g e with
      | some i, some ea => if lcOk g y py e then some (.set i ea) else none
      | _, _ => none
    | .Return none _ => some (.ret (.lit .non))
    | .Return (some e) _ => match e with
      | .Name x _ => match slotOf g x with
        | some i => some (.ret (.slot i))
        | none => match cE n g e with
          | some ea => if ea.isSlot then none else some (.ret ea)
          | none => none
      | e => match cE n g e with
          | some ea => if ea.isSlot then none else some (.ret ea)
          | none => none
    | .If c a b _ => match cT n g c, cB n g a, cB n g b with
      | some t, some sa, some sb => some (.iff t sa sb)
      | _, _, _ => none
    | .For tg iter body [] _ => match tgOf g tg, cI n g tg iter, cB n g body with
      | some is, some it, some b => if notSet iter then some (.for is it b) else none
      | _, _, _ => none
    | _ => none
def cB : Nat → G → List Stmt → Option Ss
  | 0, _, _ => none
  | _ + 1, _, [] => some .nil
  | n + 1, g, s :: b => match cS n g s, cB n g b with
    | some x, some y => some (.cons x y)
    | _, _ => none
end
def OkS (cn : CN) (Φ : Tb) (k n : Nat) : Prop := ∀ {g : G} {X : Cx} {st : Stmt} {s : Sx} (lk : List Bool), XOk Φ cn g X k → PassesOwn (model X.prog X.w) X.A X.env X.xe → cS n g st = some s → PSx cn Φ lk X st s
def OkB (cn : CN) (Φ : Tb) (k n : Nat) : Prop := ∀ {g : G} {X : Cx} {st : List Stmt} {s : Ss} (lk : List Bool), XOk Φ cn g X k → PassesOwn (model X.prog X.w) X.A X.env X.xe → cB n g st = some s → PSsx cn Φ lk X st s
section
variable {n : Nat} {g : G}
theorem okS_retE (h : XOk Φ cn g X k) {e : Expr} {s : Sx} {pos : Pos} (q : (match cE n g e with
          | some ea => if ea.isSlot then none else some (Sx.ret ea)
          | none => none) = some s) : PSx cn Φ lk X (.Return (some e) pos) s := by
  cases q1 : cE n g e with
  | none => simp only [q1] at q; cases q
  | some ea =>
    simp only [q1] at q
    by_cases hs : ea.isSlot = true
    · rw [if_pos hs] at q; cases q
    · rw [if_neg hs] at q
      cases q
      exact psx_ret (by simpa using hs) ((ok_all cn Φ k n).1 h q1).1
theorem okS_stE (h : XOk Φ cn g X k) {e : Expr} {s : Sx} {pos : Pos} (q : (if notComp e then (cE n g e).map Sx.expr else none) = some s) : PSx cn Φ lk X (.Expr e pos) s := by
  by_cases hc : notComp e = true
  · rw [if_pos hc] at q
    obtain ⟨ea, q1, rfl⟩ := Option.map_eq_some_iff.mp q
    exact psx_expr ((ok_all cn Φ k n).1 h q1).1 hc
  · rw [if_neg hc] at q; cases q
theorem okS_set (h : XOk Φ cn g X k) {y : Str} {py : Pos} {e : Expr} {i : Nat} {ea : Ex} {pos : Pos} (q1 : storeOf g y = some i) (q2 : cE n g e = some ea) (hl : lcOk g y py e = true) : PSx cn Φ lk X (.Assign [.Name y py] e pos) (.set i ea) := by
  obtain ⟨a, b, c⟩ := storeOf_ok h q1
  have hN : X.N.Nodup := by rw [h.N]; exact h.nd
  have gen : notComp e = true → PSx cn Φ lk X (.Assign [.Name y py] e pos) (.set i ea) := fun hc => psx_set hN a b c ((ok_all cn Φ k n).1 h q2).1 hc
  cases e with
  | ListComp elt gens scope lp =>
    simp only [lcOk, Bool.and_eq_true, decide_eq_true_eq, Bool.not_eq_true'] at hl
    obtain ⟨⟨⟨h1, h2⟩, h3⟩, h4⟩ := hl
    cases n with
    | zero => simp [cE] at q2
    | succ n =>
      obtain ⟨iE, iT, _, iI⟩ := ok_all cn Φ k n
      have hn : X.env.scope.names.lookup y = some .local := by rw [h.sc]; exact h2
      obtain ⟨tg, iter, ifs, is, ee, it, tc, own, rfl, rfl, p1, p2, p3, p4, p5, p6, p7⟩ := okE_lc h iE iT iI q2
      exact psx_setLc h.calm hN a hn (sw_true (by rw [h.sc]; exact isFun_ok h1) hn h3 h4) p1 p2 p3 p4 p5 p6 p7
  | _ => exact gen hl
theorem okS_step (ihB : OkB cn Φ k n) : OkS cn Φ k (n + 1) := by
  intro g X st s lk h hp q
  obtain ⟨iE, iT, _, iI⟩ := ok_all cn Φ k n
  rw [cS.eq_def] at q
  simp only at q
  split at q
  · cases q; exact psx_pass
  · cases q; exact psx_brk
  · cases q; exact psx_cnt
  · cases q; exact psx_never
  · split at q
    · cases q; exact psx_doc
    · rename_i x _ m p2 a p3
      by_cases hc : (decide (m = "append") && notStar a && (p2.endLine == p3.line)) = true
      · rw [if_pos hc] at q
        simp only [Bool.and_eq_true, decide_eq_true_eq] at hc
        obtain ⟨⟨hm, hs⟩, hl⟩ := hc
        subst hm
        cases q1 : slotOf g x with
        | none => simp only [q1] at q; cases q
        | some i =>
          cases q2 : cE n g a with
          | none => simp only [q1, q2] at q; cases q
          | some ea =>
            simp only [q1, q2] at q
            cases q
            obtain ⟨a1, a2, a3, a4⟩ := slotOf_ok h q1
            exact psx_app a1 a2 a3 a4 (iE h q2).1 hs hl
      · rw [if_neg hc] at q; cases q
    · exact okS_stE h q
  · rename_i y py e _
    cases q1 : storeOf g y with
    | none => simp only [q1] at q; cases q
    | some i =>
      cases q2 : cE n g e with
      | none => simp only [q1, q2] at q; cases q
      | some ea =>
        simp only [q1, q2] at q
        by_cases hl : lcOk g y py e = true
        · rw [if_pos hl] at q
          cases q
          exact okS_set h q1 q2 hl
        · rw [if_neg hl] at q; cases q
  · cases q; exact psx_retN
  · split at q
    · rename_i x _
      cases q1 : slotOf g x with
      | some i =>
        simp only [q1] at q
        cases q
        obtain ⟨a1, a2, a3, a4⟩ := slotOf_ok h q1
        exact psx_retS a1 a2 a3 a4
      | none =>
        simp only [q1] at q
        exact okS_retE h q
    · exact okS_retE h q
  · rename_i c a b _
    cases q1 : cT n g c with
    | none => simp only [q1] at q; cases q
    | some t =>
      cases q2 : cB n g a with
      | none => simp only [q1, q2] at q; cases q
      | some sa =>
        cases q3 : cB n g b with
        | none => simp only [q1, q2, q3] at q; cases q
        | some sb =>
          simp only [q1, q2, q3] at q
          cases q
          exact psx_if (iT h q1).1 (ihB lk h hp q2) (ihB lk h hp q3)
  · rename_i tg iter body _
    cases q1 : tgOf g tg with
    | none => simp only [q1] at q; cases q
    | some is =>
      cases q2 : cI n g tg iter with
      | none => simp only [q1, q2] at q; cases q
      | some it =>
        cases q3 : cB n g body with
        | none => simp only [q1, q2, q3] at q; cases q
        | some b =>
          simp only [q1, q2, q3] at q
          by_cases hn : notSet iter = true
          · rw [if_pos hn] at q
            cases q
            exact psx_for hp h.calm (iI h q2 _) (tg_ok h q1) (ihB lk h hp q3) fun x => fset hn _ x
          · rw [if_neg hn] at q; cases q
  · cases q
theorem okB_step (ihS : OkS cn Φ k n) (ihB : OkB cn Φ k n) : OkB cn Φ k (n + 1) := by
  intro g X st s lk h hp q
  cases st with
  | nil => rw [cB] at q; cases q; exact pssx_nil
  | cons a b =>
    rw [cB] at q
    cases q1 : cS n g a with
    | none => simp only [q1] at q; cases q
    | some x =>
      cases q2 : cB n g b with
      | none => simp only [q1, q2] at q; cases q
      | some y =>
        simp only [q1, q2] at q
        cases q
        exact pssx_cons (ihS lk h hp q1) (ihB lk h hp q2)
end
theorem ok_body (cn : CN) (Φ : Tb) (k : Nat) : ∀ n, OkS cn Φ k n ∧ OkB cn Φ k n
  | 0 => ⟨fun _ _ _ q => by simp [cS] at q, fun _ _ _ q => by simp [cB] at q⟩
  | n + 1 => by
    obtain ⟨a, b⟩ := ok_body cn Φ k n
    exact ⟨okS_step b, okB_step a b⟩
theorem XOk.nox {g : G} (h : XOk Φ cn g X k) : XOk Φ cn g X.nox k where
  N := h.N
  sc := h.sc
  nd := h.nd
  calm := h.calm
  fnb := h.fnb
  bl := h.bl
  gc := h.gc
  fn := fun p hp => ⟨(h.fn p hp).ex⟩
  room := h.room
/-- a def's whole body -/
theorem body_ok {g : G} {n : Nat} {st : List Stmt} {s : Ss} (lk : List Bool) (h : XOk Φ cn g X k) (q : cB n g st = some s) : PSsx cn Φ lk X st s :=
  PSs.nox ((ok_body cn Φ k n).2 lk h.nox PassesOwn.never q)
end DL

namespace DL
open PySem PySem.Spec PyProof.Rows L2
variable {cn : CN}

/-! ### a module: its defs, constants, the built-in names that it leaves alone -/
structure Row where
  nm : Str
  st : Stmt
  N : List Str
  ps : List Str
  body : Ss
def Row.fd (r : Row) : FD := ⟨r.ps.length, r.N.length, r.body⟩
structure Mod where
  rows : List Row
  gc : List (Str × D)
  bl : List Str
def tblOf (rs : List Row) (f : Nat) : Option FD := (rs[f]?).map Row.fd
def fnsFrom : Nat → List Row → List (Str × Nat)
  | _, [] => []
  | n, r :: rs => (r.nm, n) :: fnsFrom (n + 1) rs
def Mod.g (m : Mod) (r : Row) : G := ⟨r.N, defScope r.st, false, m.bl, m.gc, fnsFrom 0 m.rows⟩
theorem fns_at : ∀ {rs : List Row} {n : Nat} {p : Str × Nat}, p ∈ fnsFrom n rs → ∃ i r, p = (r.nm, n + i) ∧ rs[i]? = some r
  | [], _, _, h => by cases h
  | r :: rs, n, p, h => by
    rcases List.mem_cons.mp h with h | h
    · exact ⟨0, r, h, rfl⟩
    · obtain ⟨i, r', e1, e2⟩ := fns_at h
      exact ⟨i + 1, r', by rw [e1]; congr 1; omega, by simpa using e2⟩
def scopeC (N ps : List Str) (sc : Scope) : Bool :=
  isFun sc.kind && !sc.isCoroutine && !sc.isGenerator && decide N.Nodup && decide (N.take ps.length = ps) && (ps.all fun x => decide (sc.names.lookup x = some .local) || decide (sc.names.lookup x = some .cell)) && (sc.names.all fun y => !decide (y.2 = .free))
theorem scopeC_ok {N ps : List Str} {sc : Scope} (h : scopeC N ps sc = true) : FnScope N ps sc := by
  simp only [scopeC, Bool.and_eq_true, Bool.or_eq_true, Bool.not_eq_true', decide_eq_true_eq, List.all_eq_true, decide_eq_false_iff_not] at h
  obtain ⟨⟨⟨⟨⟨⟨h1, h2⟩, h3⟩, h4⟩, h5⟩, h6⟩, h7⟩ := h
  exact ⟨isFun_ok h1, h2, h3, h4, h5, h6, h7⟩
structure TopOk (cn : CN) (K : PySem.W.Frag) (mg : Str → Option Value) (m : Mod) : Prop where
  fns : ∀ r ∈ m.rows, ∃ fa fd, mg r.nm = some (.ref fa) ∧ Fun K r.nm r.nm r.st fa fd ∧ Binds K fd r.ps []
  bl : ∀ x ∈ m.bl, mg x = none
  gc : ∀ p ∈ m.gc, ∃ u v, mg p.1 = some u ∧ RelV v u ∧ ∀ F H S, OR K cn F H S p.2 v
def CompOk (m : Mod) (r : Row) : Prop := scopeC r.N r.ps (defScope r.st) = true ∧ ∃ n, cB n (m.g r) (defBody r.st) = some r.body

section
variable {K : PySem.W.Frag} {F H : Hp} {S B : AS}
theorem sl_nones : ∀ n, SL K cn F H S (List.replicate n none) (List.replicate n none)
  | 0 => .nil
  | n + 1 => .no (sl_nones n)
theorem sl_start {n : Nat} : ∀ {ds : List D} {vs : List V} {S : AS}, ORs K cn F H S ds vs → SL K cn F H S (ds.map some ++ List.replicate n none) (vs.map some ++ List.replicate n none)
  | _, _, _, .nil => sl_nones n
  | _, _, _, .cons a x y => .yes a x (sl_start y)
theorem post_go : ∀ {ds : List D} {vs : List V} {ρ : Env} {σ : L2.St} {B : AS}, ds.length = vs.length → SL K cn F H B ρ σ → (∀ i, (ds.map fun d => !imm d).getD i false = true → σ[i]? = (vs.map some)[i]?) → SL K cn F H B (postOf ds ρ) (vs.map some)
  | [], [], _, _, _, _, _, _ => .nil
  | [], _ :: _, _, _, _, h, _, _ => by simp at h
  | _ :: _, [], _, _, _, h, _, _ => by simp at h
  | d :: ds, v :: vs, _, _, B, h, .nil, lk => by
    have t : SL K cn F H B (postOf ds ([] : Env)) (vs.map some) := post_go (by simpa using h) .nil fun i e => by
      have := lk (i + 1) (by simpa using e)
      simpa using this
    show SL K cn F H B ((if imm d then none else none) :: postOf ds []) (some v :: vs.map some)
    rw [show (if imm d = true then none else none : Option D) = none by split <;> rfl]
    exact .no t
  | d :: ds, v :: vs, _, _, _, h, .no s, lk => by
    have t := post_go (ds := ds) (vs := vs) (by simpa using h) s fun i e => by
      have := lk (i + 1) (by simpa using e)
      simpa using this
    show SL K cn F H _ ((if imm d then none else none) :: postOf ds _) (some v :: vs.map some)
    rw [show (if imm d = true then none else none : Option D) = none by split <;> rfl]
    exact .no t
  | d :: ds, v :: vs, _, _, _, h, .yes (d := d') (v := v') a o s, lk => by
    have t := post_go (ds := ds) (vs := vs) (by simpa using h) s fun i e => by
      have := lk (i + 1) (by simpa using e)
      simpa using this
    show SL K cn F H _ ((if imm d then none else some d') :: postOf ds _) (some v :: vs.map some)
    by_cases hi : imm d = true
    · rw [if_pos hi]
      exact .no (t.mono a.r)
    · rw [if_neg hi]
      have e := lk 0 (by simpa using hi)
      have e' : v' = v := by simpa using e
      subst e'
      exact .yes a o t
end
section
variable {P : Program} {w : World} {K : PySem.W.Frag} {mg : Str → Option Value} {base : Heap} {m : Mod} {fl : Nat → List Nat}
theorem spF_len {g : List D → RF} {vs : List V} {H : Hp} {Q : VK} {E : XK} (n : Nat) (hn : ∀ ds, ds.length ≠ n → g ds = .bad) (h : spF K cn g vs H Q E) : vs.length = n := by
  obtain ⟨F, S, ds, fx, o, q⟩ := h
  by_cases e : ds.length = n
  · rw [← o.len]; exact e
  · rw [hn ds e] at q; exact q.elim
theorem run_len {k f : Nat} {r : Row} (e : m.rows[f]? = some r) (ds : List D) (h : ds.length ≠ r.ps.length) : run fl (tblOf m.rows) k f ds = .bad := by
  cases k with
  | zero => rfl
  | succ k =>
    rw [run]
    simp only [tblOf, e, Option.map_some]
    unfold runF
    rw [if_neg (show ¬ ds.length = r.fd.np from h)]
/-- every def keeps what the pure function says, as deep as k -/
theorem lev (T : TopOk cn K mg m) (C : ∀ r ∈ m.rows, CompOk m r) : ∀ (k f : Nat) (r : Row) (fa : Addr) (fd : FuncData), m.rows[f]? = some r → mg r.nm = some (.ref fa) → Fun K r.nm r.nm r.st fa fd → FnOk P w K mg base CX0 k fa fd r.ps (spF K cn (run fl (tblOf m.rows) k f))
  | 0, f, r, fa, fd, e, hm, F => by
    refine ⟨fun vs H Q E h => spF_len _ (run_len e) h, fun A outer s H args us vs Q E _ _ _ _ h => ?_⟩
    obtain ⟨_, _, _, _, _, q⟩ := h
    exact q.elim
  | k + 1, f, r, fa, fd, e, hm, F => by
    obtain ⟨hsc, n, hcb⟩ := C r (List.mem_of_getElem? e)
    refine F.ok (scopeC_ok hsc) (fun vs H Q E h => spF_len _ (run_len e) h) fun cdv A outer s H vs Q E hr h => ?_
    have hl : vs.length = r.ps.length := spF_len _ (run_len e) h
    obtain ⟨F0, S, ds, fx, o, q⟩ := h
    have hdl : ds.length = r.ps.length := o.len.trans hl
    let Φ : Tb := ⟨run fl (tblOf m.rows) k, fl⟩
    have hx : XOk Φ cn (m.g r) (cxOf CX0 P w K mg base r.N r.nm (defScope r.st) fa cdv A outer s H E).nox k := by
      refine ⟨rfl, rfl, (scopeC_ok hsc).nd, rfl, fun _ _ => rfl, T.bl, T.gc, fun p hp => ?_, hr⟩
      obtain ⟨i, r', rfl, e'⟩ := fns_at hp
      obtain ⟨fa', fd', hm', F', b'⟩ := T.fns r' (List.mem_of_getElem? e')
      refine ⟨fa', fd', r'.ps, hm', F'.kp, b', ?_⟩
      have := lev T C k i r' fa' fd' e' hm' F'
      rw [show (0 + i) = i by omega]
      exact this
    refine ⟨_, body_ok (ds.map fun d => !imm d) hx hcb, ?_⟩
    rw [run] at q
    simp only [tblOf, e, Option.map_some] at q
    unfold runF at q
    rw [if_pos (show ds.length = r.fd.np from hdl)] at q
    have hst : L2.start r.N vs = vs.map some ++ List.replicate (r.N.length - r.ps.length) none := by unfold L2.start; rw [hl]
    have sl0 : SL K cn F0 H S (ds.map some ++ List.replicate (r.fd.nl - r.fd.np) none) (L2.start r.N vs) := by
      rw [hst]
      exact sl_start o
    refine ⟨F0, S, _, fx, sl0, ?_⟩
    have post : ∀ {F' H' : Hp} {B : AS} {ρ' : Env} {σ' : L2.St}, SL K cn F' H' B ρ' σ' → Lk (ds.map fun d => !imm d) (L2.start r.N vs) σ' → SL K cn F' H' B (postOf ds ρ') (vs.map some) := fun {F' H' B ρ' σ'} s l => by
      refine post_go (hdl.trans hl.symm) s fun i hi => ?_
      rw [l i hi, hst]
      refine List.getElem?_append_left ?_
      rw [List.length_map, hl, ← hdl]
      by_cases hlt : i < ds.length
      · exact hlt
      · rw [List.getD_eq_getElem?_getD, List.getElem?_eq_none (by simpa using hlt)] at hi
        cases hi
    show okS _ _ _ _ _ _ _ (evB Φ (ds.map fun d => !imm d) r.body _) _
    cases ev : evB Φ (ds.map fun d => !imm d) r.body (ds.map some ++ List.replicate (r.fd.nl - r.fd.np) none) with
    | nx ρ' =>
      replace ev : evB ⟨run fl (tblOf m.rows) k, fl⟩ (ds.map fun d => !imm d) r.fd.body (ds.map some ++ List.replicate (r.fd.nl - r.fd.np) none) = _ := ev
      rw [ev] at q
      intro σ' F' H' B a s l
      exact q .non F' H' (fun _ => False) B (a.sub fun c z => z.elim (fun y => y.elim) fun y => y) (fun _ z => z.elim) .non (post s l)
    | ret d ρ' =>
      replace ev : evB ⟨run fl (tblOf m.rows) k, fl⟩ (ds.map fun d => !imm d) r.fd.body (ds.map some ++ List.replicate (r.fd.nl - r.fd.np) none) = _ := ev
      rw [ev] at q
      intro v σ' F' H' A' B a n' o' s l
      exact q v F' H' A' B a n' o' (post s l)
    | brk ρ' =>
      replace ev : evB ⟨run fl (tblOf m.rows) k, fl⟩ (ds.map fun d => !imm d) r.fd.body (ds.map some ++ List.replicate (r.fd.nl - r.fd.np) none) = _ := ev
      rw [ev] at q; exact q.elim
    | cnt ρ' =>
      replace ev : evB ⟨run fl (tblOf m.rows) k, fl⟩ (ds.map fun d => !imm d) r.fd.body (ds.map some ++ List.replicate (r.fd.nl - r.fd.np) none) = _ := ev
      rw [ev] at q; exact q.elim
    | err c d ρ' =>
      replace ev : evB ⟨run fl (tblOf m.rows) k, fl⟩ (ds.map fun d => !imm d) r.fd.body (ds.map some ++ List.replicate (r.fd.nl - r.fd.np) none) = _ := ev
      rw [ev] at q; exact q.elim
    | bad =>
      replace ev : evB ⟨run fl (tblOf m.rows) k, fl⟩ (ds.map fun d => !imm d) r.fd.body (ds.map some ++ List.replicate (r.fd.nl - r.fd.np) none) = _ := ev
      rw [ev] at q; exact q.elim
/-- the law's own call: the script -/
theorem law_sp {g : List D → RF} {ns : List Int} {H : Hp} {a : Addr} (hS : SqL K H a (ns.map V.int)) (h : ∃ post, g [.scr ns] = .ok (.bl true) post) : spF K cn g [.ref a] H (fun v _ => v = .bl true) fun _ _ _ => False := by
  obtain ⟨post, e⟩ := h
  refine ⟨H, fun _ => False, [.scr ns], ⟨Same.refl _, fun _ z => z.elim, fun _ z => z.elim⟩, .cons (A := fun _ => False) (B := fun _ => False) ⟨fun _ z => z.elim, fun _ z => z.elim, fun _ z => z.elim⟩ (.scr hS) .nil, ?_⟩
  rw [e]
  intro v F' H' A B _ _ o _
  exact o.bl_inv
end
end DL

namespace DL
open PySem

theorem postOf_imm : ∀ {ds : List D} {e : Env}, imms ds = true → postOf ds e = ds.map fun _ => none
  | [], _, _ => rfl
  | d :: ds, e, h => by
    rw [imms, Bool.and_eq_true] at h
    rw [postOf, postOf_imm h.2, if_pos h.1]
    rfl
theorem lk_imm : ∀ {ds : List D}, imms ds = true → (ds.map fun d => !imm d) = ds.map fun _ => false
  | [], _ => rfl
  | d :: ds, h => by
    rw [imms, Bool.and_eq_true] at h
    rw [List.map_cons, List.map_cons, lk_imm h.2, h.1]
    rfl
/-- a body that returns -/
theorem runF_ret {Φ : Tb} {fd : FD} {ds : List D} {d : D} (hl : ds.length = fd.np) (hi : imms ds = true) (h : ∃ e, evB Φ (ds.map fun _ => false) fd.body (ds.map some ++ List.replicate (fd.nl - fd.np) none) = .ret d e) : runF Φ fd ds = .ok d (ds.map fun _ => none) := by
  obtain ⟨e, h⟩ := h
  unfold runF
  rw [if_pos hl, lk_imm hi, h]
  simp only [postOf_imm hi]
theorem runF_nx {Φ : Tb} {fd : FD} {ds : List D} (hl : ds.length = fd.np) (hi : imms ds = true) (h : ∃ e, evB Φ (ds.map fun _ => false) fd.body (ds.map some ++ List.replicate (fd.nl - fd.np) none) = .nx e) : runF Φ fd ds = .ok .non (ds.map fun _ => none) := by
  obtain ⟨e, h⟩ := h
  unfold runF
  rw [if_pos hl, lk_imm hi, h]
  simp only [postOf_imm hi]
/-- a call of values that are frozen -/
theorem lkF : ∀ (n i : Nat), lkAt (List.replicate n false) i = false
  | 0, _ => rfl
  | _ + 1, 0 => rfl
  | n + 1, i + 1 => lkF n i
theorem smI {i : Int} (h : 0 ≤ i) (h2 : i < 18446744073709551616) : smallI i = true := by
  unfold smallI
  rw [Bool.and_eq_true, decide_eq_true_eq, decide_eq_true_eq]
  exact ⟨by omega, by omega⟩
/-- a walk whose every turn goes on -/
theorem loop_nx {bind : D → Env → Option Env} {body : Env → Out} (Inv : Nat → Env → Prop) {ds : List D} {e : Env} (h0 : Inv 0 e)
    (step : ∀ i x e, ds[i]? = some x → Inv i e → ∃ e1 e2, bind x e = some e1 ∧ (body e1 = .nx e2 ∨ body e1 = .cnt e2) ∧ Inv (i + 1) e2) : ∃ e', loopF bind body ds e = .nx e' ∧ Inv ds.length e' := by
  induction ds generalizing e Inv with
  | nil => exact ⟨e, rfl, h0⟩
  | cons x xs ih =>
    obtain ⟨e1, e2, hb, hn, h1⟩ := step 0 x e rfl h0
    obtain ⟨e', h2, h3⟩ := ih (fun i => Inv (i + 1)) h1 fun i y e' hy h => step (i + 1) y e' hy h
    refine ⟨e', ?_, h3⟩
    rw [loopF]
    simp only [hb]
    rcases hn with hn | hn <;> simp only [hn] <;> exact h2
/-- a walk that ends at the first item without p, by r -/
theorem loop_all {bind : D → Env → Option Env} {body : Env → Out} (Inv : Env → Prop) (p : D → Bool) (r : D) {ds : List D} {e : Env} (h0 : Inv e)
    (step : ∀ x e, x ∈ ds → Inv e → ∃ e1, bind x e = some e1 ∧ ((p x = true ∧ ∃ e2, (body e1 = .nx e2 ∨ body e1 = .cnt e2) ∧ Inv e2) ∨ (p x = false ∧ ∃ e2, body e1 = .ret r e2))) :
    (ds.all p = true ∧ ∃ e', loopF bind body ds e = .nx e' ∧ Inv e') ∨ (ds.all p = false ∧ ∃ e', loopF bind body ds e = .ret r e') := by
  induction ds generalizing e with
  | nil => exact .inl ⟨rfl, e, rfl, h0⟩
  | cons x xs ih =>
    obtain ⟨e1, hb, h⟩ := step x e List.mem_cons_self h0
    rcases h with ⟨hp, e2, hn, h1⟩ | ⟨hp, e2, hn⟩
    · rcases ih h1 fun y e' hy h => step y e' (List.mem_cons_of_mem _ hy) h with ⟨ha, e', h2, h3⟩ | ⟨ha, e', h2⟩
      · refine .inl ⟨by rw [List.all_cons, hp, ha]; rfl, e', ?_, h3⟩
        rw [loopF]
        simp only [hb]
        rcases hn with hn | hn <;> simp only [hn] <;> exact h2
      · refine .inr ⟨by rw [List.all_cons, hp, ha]; rfl, e', ?_⟩
        rw [loopF]
        simp only [hb]
        rcases hn with hn | hn <;> simp only [hn] <;> exact h2
    · refine .inr ⟨by rw [List.all_cons, hp]; rfl, e2, ?_⟩
      rw [loopF]
      simp only [hb, hn]

/-! ### the laws' own numbers -/
def mixedB : Ss := (Ss.cons (Sx.set 2 (Ex.op2 (B2.mod) (Ex.bcall (BF.int1) (Exs.cons (Ex.op2 (B2.mul) (Ex.op2 (B2.add) (Ex.op2 (B2.add) (Ex.slot 0) (Ex.op2 (B2.mul) (Ex.lit (D.int 7919)) (Ex.slot 1))) (Ex.lit (D.int 1))) (Ex.lit (D.int 48271))) (Exs.nil))) (Ex.lit (D.int 2147483647)))) (Ss.cons (Sx.set 3 (Ex.op2 (B2.mod) (Ex.bcall (BF.int1) (Exs.cons (Ex.op2 (B2.mul) (Ex.slot 2) (Ex.op2 (B2.add) (Ex.op2 (B2.fdiv) (Ex.slot 2) (Ex.lit (D.int 1009))) (Ex.lit (D.int 69621)))) (Exs.nil))) (Ex.lit (D.int 2147483647)))) (Ss.cons (Sx.set 4 (Ex.op2 (B2.mod) (Ex.bcall (BF.int1) (Exs.cons (Ex.op2 (B2.mul) (Ex.slot 3) (Ex.op2 (B2.add) (Ex.op2 (B2.fdiv) (Ex.slot 3) (Ex.lit (D.int 2003))) (Ex.lit (D.int 40692)))) (Exs.nil))) (Ex.lit (D.int 2147483399)))) (Ss.cons (Sx.ret (Ex.op2 (B2.mod) (Ex.bcall (BF.int1) (Exs.cons (Ex.op2 (B2.fdiv) (Ex.slot 4) (Ex.lit (D.int 16))) (Exs.nil))) (Ex.lit (D.int 10007)))) (Ss.nil)))))
theorem mixed_ok (Φ : Tb) (a b : Int) : ∃ v : Int, 0 ≤ v ∧ v < 10007 ∧ runF Φ ⟨2, 5, mixedB⟩ [.int a, .int b] = .ok (.int v) [none, none] := by
  have s1 : smallI ((a + 7919 * b + 1) * 48271 % 2147483647) = true := smI (Int.emod_nonneg _ (by decide)) (by have := Int.emod_lt_of_pos ((a + 7919 * b + 1) * 48271) (b := 2147483647) (by decide); omega)
  generalize hx : (a + 7919 * b + 1) * 48271 % 2147483647 = x at s1
  have s2 : smallI (x * (x / 1009 + 69621) % 2147483647) = true := smI (Int.emod_nonneg _ (by decide)) (by have := Int.emod_lt_of_pos (x * (x / 1009 + 69621)) (b := 2147483647) (by decide); omega)
  generalize hy : x * (x / 1009 + 69621) % 2147483647 = y at s2
  refine ⟨(y * (y / 2003 + 40692) % 2147483399) / 16 % 10007, Int.emod_nonneg _ (by decide), Int.emod_lt_of_pos _ (by decide), ?_⟩
  have e1 : smallI 7919 = true := by decide
  have e2 : smallI 48271 = true := by decide
  refine runF_ret rfl rfl ?_
  simp [mixedB, evB, evS, evE, evO, opd, look, Opd.get, gets, runB, runB1, run2, done, Res.bind, Res.out, Out.then, lkAt, imm, e1, e2, hx, s1, hy, s2]
end DL

namespace DL
open PySem

def dInner : Ss := .cons (.iff (.val (.op2 .gt (.slot 5) (.lit (.int 0)))) (.cons (.app 2 [] (.op2 .mod (.bcall .int1 (.cons (.slot 5) .nil)) (.lit (.int 10007)))) (.cons (.set 5 (.op2 .fdiv (.slot 5) (.lit (.int 10007)))) .nil)) .nil) .nil
def dBig : Ss := .cons (.for [6] (.rng (.lit (.int 0)) (.lit (.int 60))) dInner) .nil
def dM1 (i : Nat) : Ex := .call i (.cons (.op2 .mod (.bcall .int1 (.cons (.slot 5) .nil)) (.lit (.int 1000003))) (.cons (.op2 .mul (.lit (.int 2)) (.slot 4)) .nil))
def dM2 (i : Nat) : Ex := .call i (.cons (.op2 .mod (.bcall .int1 (.cons (.slot 5) .nil)) (.lit (.int 1000003))) (.cons (.op2 .add (.op2 .mul (.lit (.int 2)) (.slot 4)) (.lit (.int 1))) .nil))
def dSmall (i : Nat) : Ss := .cons (.app 2 [] (dM1 i)) (.cons (.app 2 [] (dM2 i)) .nil)
def dS5 : Sx := .set 5 (.bcall .int1 (.cons (.idx (.slot 0) (.slot 4)) .nil))
def dS3 : Sx := .set 3 (.op2 .mod (.bcall .int1 (.cons (.op2 .add (.op2 .add (.op2 .mul (.slot 3) (.lit (.int 69621))) (.op2 .mod (.bcall .int1 (.cons (.slot 5) .nil)) (.lit (.int 1000003)))) (.lit (.int 1))) .nil)) (.lit (.int 2147483629)))
def dTest : Tx := .val (.op2 .ge (.slot 5) (.op2 .pow (.lit (.int 10)) (.lit (.int 18))))
def dOuter (i : Nat) : Ss := .cons dS5 (.cons dS3 (.cons (.iff dTest dBig (dSmall i)) .nil))
def dLast (i : Nat) : Ss := .cons (.app 2 [] (.call i (.cons (.slot 3) (.cons (.op2 .add (.slot 6) (.lit (.int 127))) .nil)))) .nil
def dIt : DL.It := .rng (.lit (.int 0)) (.bcall .len (.cons (.bcall (.slice false true) (.cons (.slot 0) (.cons (.lit (.int 63)) .nil))) .nil))
def drawsB (i : Nat) : Ss := .cons (.set 2 (.lst .nil)) (.cons (.set 3 (.lit (.int 1))) (.cons (.for [4] dIt (dOuter i)) (.cons (.for [6] (.rng (.lit (.int 0)) (.slot 1)) (dLast i)) (.cons (.ret (.bcall (.slice false true) (.cons (.slot 2) (.cons (.slot 1) .nil)))) .nil))))
def stringsB : Ss := (Ss.cons (Sx.set 2 (Ex.lst (Exs.cons (Ex.lit (D.str [])) (Exs.nil)))) (Ss.cons (Sx.for [3] (It.rng (Ex.lit (D.int 0)) (Ex.slot 0)) (Ss.cons (Sx.set 4 (Ex.lst (Exs.nil))) (Ss.cons (Sx.for [5] (It.seq (Ex.slot 2)) (Ss.cons (Sx.for [6] (It.seq (Ex.slot 1)) (Ss.cons (Sx.app 4 [] (Ex.op2 (B2.add) (Ex.slot 5) (Ex.slot 6))) (Ss.nil))) (Ss.nil))) (Ss.cons (Sx.set 2 (Ex.slot 4)) (Ss.nil))))) (Ss.cons (Sx.ret (Ex.slot 2)) (Ss.nil))))
def inB : Ss := (Ss.cons (Sx.for [2] (It.rng (Ex.lit (D.int 0)) (Ex.bcall (BF.len) (Exs.cons (Ex.slot 0) (Exs.nil)))) (Ss.cons (Sx.iff (Tx.and (Tx.val (Ex.op2 (B2.ne) (Ex.idx (Ex.slot 0) (Ex.slot 2)) (Ex.lit (D.str [45])))) (Tx.val (Ex.op2 (B2.ne) (Ex.idx (Ex.slot 0) (Ex.slot 2)) (Ex.idx (Ex.slot 1) (Ex.slot 2))))) (Ss.cons (Sx.ret (Ex.lit (D.bl false))) (Ss.nil)) (Ss.nil)) (Ss.nil))) (Ss.cons (Sx.ret (Ex.lit (D.bl true))) (Ss.nil)))
def cubeB : Ss := (Ss.cons (Sx.set 2 (Ex.lit (D.str []))) (Ss.cons (Sx.for [3] (It.rng (Ex.lit (D.int 0)) (Ex.slot 1)) (Ss.cons (Sx.set 2 (Ex.op2 (B2.add) (Ex.slot 2) (Ex.idx (Ex.lit (D.str [48, 49, 45])) (Ex.op2 (B2.mod) (Ex.bcall (BF.int1) (Exs.cons (Ex.slot 0) (Exs.nil))) (Ex.lit (D.int 3)))))) (Ss.cons (Sx.set 0 (Ex.op2 (B2.fdiv) (Ex.slot 0) (Ex.lit (D.int 3)))) (Ss.nil)))) (Ss.cons (Sx.ret (Ex.slot 2)) (Ss.nil))))

def intsOk (xs : List Int) : Prop := ∀ x ∈ xs, 0 ≤ x ∧ x < 10007
theorem intsOk.snoc {xs : List Int} {v : Int} (h : intsOk xs) (a : 0 ≤ v) (b : v < 10007) : intsOk (xs ++ [v]) := fun x hx => by
  rcases List.mem_append.mp hx with q | q
  · exact h x q
  · have : x = v := by simpa using q
    subst this
    exact ⟨a, b⟩
theorem imms_ints : ∀ xs : List Int, imms (xs.map D.int) = true
  | [] => rfl
  | x :: xs => by rw [List.map_cons, imms, imms_ints xs]; rfl
theorem okLen_of {n : Nat} (h : n < 16777216) : okLen n = true := by unfold okLen line; exact decide_eq_true h
theorem place_nat {n i : Nat} (h : i < n) : place n (i : Int) = some i := by
  unfold place
  rw [if_pos (by omega), if_pos (by omega)]
  simp
theorem range_get {n i : Nat} {x : D} (h : (rangeD 0 n)[i]? = some x) : i < n ∧ x = .int i := by
  unfold rangeD at h
  rw [List.getElem?_map] at h
  cases q : (List.range ((n : Int) - 0).toNat)[i]? with
  | none => rw [q] at h; cases h
  | some j =>
    rw [q] at h
    rw [List.getElem?_eq_some_iff] at q
    obtain ⟨h1, h2⟩ := q
    simp at h1 h2
    subst h2
    refine ⟨h1, ?_⟩
    have := Option.some.inj h
    rw [← this]
    show D.int (0 + (i : Int)) = .int i
    rw [Int.zero_add]
theorem range_len (n : Nat) : (rangeD 0 n).length = n := by unfold rangeD; simp
theorem inR_of {i : Int} (h : 0 ≤ i) (h2 : i < 4611686018427387904) : inR i = true := by
  unfold inR
  rw [Bool.and_eq_true, decide_eq_true_eq, decide_eq_true_eq]
  exact ⟨by omega, by omega⟩
theorem cut_take {α : Type} (xs : List α) (m : Nat) : cutL xs none (some (m : Int)) = xs.take m := by
  unfold cutL cutAt
  simp only [List.drop_zero, Nat.sub_zero]
  rw [if_neg (by omega)]
  rw [Int.toNat_natCast]
  by_cases h : m ≤ xs.length
  · rw [Nat.min_eq_left h]
  · rw [Nat.min_eq_right (by omega), List.take_of_length_le (Nat.le_refl _), List.take_of_length_le (by omega)]

section
variable {Φ : Tb} {lk : List Bool} {s : Sx} {b : Ss} {e e' : Env} {d : D} {tg : List Nat} {it : DL.It} {w : Wk}
theorem evB_nx (h : evS Φ lk s e = .nx e') : evB Φ lk (.cons s b) e = evB Φ lk b e' := by rw [evB, h]; rfl
theorem evB_ret (h : evS Φ lk s e = .ret d e') : evB Φ lk (.cons s b) e = .ret d e' := by rw [evB, h]; rfl
theorem evB_one (h : evS Φ lk s e = .nx e') : evB Φ lk (.cons s .nil) e = .nx e' := by rw [evB_nx h, evB]
theorem evS_for (hlk : tg.any (lkAt lk) = false) (hi : evI Φ (fun _ => true) it e = .ok w) : evS Φ lk (.for tg it b) e = loopF (bindT tg) (fun e => evB Φ lk b e) w.ds w.e := by
  rw [evS, hlk, hi]; rfl
end
def denv (ns : List Int) (m : Nat) (rows : List Int) (seed : Int) (x y z : Option D) : Env := [some (.scr ns), some (.int m), some (.lst true (rows.map .int)), some (.int seed), x, y, z]
theorem inner_ok (Φ : Tb) (ns : List Int) (m : Nat) (seed : Int) (x : Option D) (rows : List Int) (c : Int) (z : Option D) (hr : intsOk rows) (hl : rows.length ≤ 4000) :
    ∃ rows' c' z', loopF (bindT [6]) (fun e => evB Φ [false, false] dInner e) (rangeD 0 (60 : Nat)) (denv ns m rows seed x (some (.int c)) z) = .nx (denv ns m rows' seed x (some (.int c')) z') ∧ intsOk rows' ∧ rows'.length ≤ rows.length + 60 := by
  obtain ⟨e', h, rows', c', z', rfl, h2, h3⟩ := loop_nx (bind := bindT [6]) (body := fun e => evB Φ [false, false] dInner e) (ds := rangeD 0 (60 : Nat)) (e := denv ns m rows seed x (some (.int c)) z)
    (fun j e => ∃ rows' c' z', e = denv ns m rows' seed x (some (.int c')) z' ∧ intsOk rows' ∧ rows'.length ≤ rows.length + j) ⟨rows, c, z, rfl, hr, Nat.le_refl _⟩ (by
      rintro j y e hj ⟨rows', c', z', rfl, h2, h3⟩
      obtain ⟨hj1, rfl⟩ := range_get hj
      refine ⟨denv ns m rows' seed x (some (.int c')) (some (.int j)), ?_⟩
      have ol : okLen rows'.length = true := okLen_of (by omega)
      by_cases hc : 0 < c'
      · refine ⟨denv ns m (rows' ++ [c' % 10007]) seed x (some (.int (c' / 10007))) (some (.int j)), rfl, .inl ?_, rows' ++ [c' % 10007], c' / 10007, _, rfl, h2.snoc (Int.emod_nonneg _ (by decide)) (Int.emod_lt_of_pos _ (by decide)), by rw [List.length_append, List.length_singleton]; omega⟩
        simp [denv, dInner, evB, evS, evE, evO, evT, evD, evI, opd, look, Opd.get, gets, runB, runB1, runB2, runB3, run2, done, Res.bind, Res.out, Out.then, lkAt, imm, item, taken, callD, handed, putBack, wipeE, chg, sub, put, truth, imms_ints, sliceD, rngOf, items, hc, ol]
      · refine ⟨denv ns m rows' seed x (some (.int c')) (some (.int j)), rfl, .inl ?_, rows', c', _, rfl, h2, by omega⟩
        simp [denv, dInner, evB, evS, evE, evO, evT, evD, evI, opd, look, Opd.get, gets, runB, runB1, runB2, runB3, run2, done, Res.bind, Res.out, Out.then, lkAt, imm, item, taken, callD, handed, putBack, wipeE, chg, sub, put, truth, imms_ints, sliceD, rngOf, items, hc, ol])
  exact ⟨rows', c', z', h, h2, by rw [range_len] at h3; exact h3⟩
end DL

namespace DL
open PySem
theorem rngOf_ok {e : Env} {i j : Int} (hi : inR i = true) (hj : inR j = true) : rngOf e (some (.int i)) (some (.int j)) = .ok ⟨rangeD i j, e, none⟩ := by
  have h : (inR i && inR j) = true := by rw [hi, hj]; rfl
  exact if_pos h
theorem evI_rng {Φ : Tb} {has : Nat → Bool} {a b : Ex} {e e1 e2 : Env} {x y : Opd} {i j : Int} (ha : opd a e (evE Φ a e) = .ok (x, e1)) (hb : opd b e1 (evE Φ b e1) = .ok (y, e2)) (hx : x.get e2 = some (.int i)) (hy : y.get e2 = some (.int j)) (hi : inR i = true) (hj : inR j = true) :
    evI Φ has (.rng a b) e = .ok ⟨rangeD i j, e2, none⟩ := by
  rw [evI, ha]
  show (opd b e1 (evE Φ b e1)).bind _ = _
  rw [hb]
  show rngOf e2 (x.get e2) (y.get e2) = _
  rw [hx, hy]
  exact rngOf_ok hi hj
abbrev Mix (Φ : Tb) (i : Nat) : Prop := ∀ a b : Int, ∃ v, 0 ≤ v ∧ v < 10007 ∧ Φ.fn i [.int a, .int b] = .ok (.int v) [none, none]
theorem app_mix {Φ : Tb} {i : Nat} (ns : List Int) (m : Nat) (rows : List Int) (seed : Int) (x y z : Option D) (hl : rows.length ≤ 10000) {a b v : Int} {ea eb : Ex}
    (ha : opd ea (denv ns m rows seed x y z) (evE Φ ea (denv ns m rows seed x y z)) = .ok (.val (.int a), denv ns m rows seed x y z)) (hb : opd eb (denv ns m rows seed x y z) (evE Φ eb (denv ns m rows seed x y z)) = .ok (.val (.int b), denv ns m rows seed x y z))
    (hv : Φ.fn i [.int a, .int b] = .ok (.int v) [none, none]) : evS Φ [false, false] (.app 2 [] (.call i (.cons ea (.cons eb .nil)))) (denv ns m rows seed x y z) = .nx (denv ns m (rows ++ [v]) seed x y z) := by
  have ol : okLen rows.length = true := okLen_of (by omega)
  rw [evS, evE, evO, ha]
  simp only [Res.bind, evO, hb]
  simp [evB, evS, evE, evO, evT, evD, evI, opd, look, Opd.get, gets, runB, runB1, runB2, runB3, run2, done, Res.bind, Res.out, Out.then, lkAt, imm, item, taken, callD, handed, putBack, wipeE, chg, sub, put, truth, imms_ints, sliceD, rngOf, items, denv, hv, ol]
theorem app_mixS {Φ : Tb} {i : Nat} (ns : List Int) (m : Nat) (rows : List Int) (seed : Int) (x y z : Option D) (hl : rows.length ≤ 10000) {b v : Int} {eb : Ex}
    (hb : opd eb (denv ns m rows seed x y z) (evE Φ eb (denv ns m rows seed x y z)) = .ok (.val (.int b), denv ns m rows seed x y z))
    (hv : Φ.fn i [.int seed, .int b] = .ok (.int v) [none, none]) : evS Φ [false, false] (.app 2 [] (.call i (.cons (.slot 3) (.cons eb .nil)))) (denv ns m rows seed x y z) = .nx (denv ns m (rows ++ [v]) seed x y z) := by
  have ol : okLen rows.length = true := okLen_of (by omega)
  have h0 : opd (.slot 3) (denv ns m rows seed x y z) (evE Φ (.slot 3) (denv ns m rows seed x y z)) = .ok (.ref 3, denv ns m rows seed x y z) := rfl
  rw [evS, evE, evO, h0]
  simp only [Res.bind, evO, hb]
  simp [evB, evS, evE, evO, evT, evD, evI, opd, look, Opd.get, gets, runB, runB1, runB2, runB3, run2, done, Res.bind, Res.out, Out.then, lkAt, imm, item, taken, callD, handed, putBack, wipeE, chg, sub, put, truth, imms_ints, sliceD, rngOf, items, denv, hv, ol]
theorem outer_ok (Φ : Tb) (i : Nat) (hm : Mix Φ i) (ns : List Int) (m : Nat) (hn : ns.length ≤ 63) (seed : Int) (x y z : Option D) :
    ∃ rows' seed' x' y' z', loopF (bindT [4]) (fun e => evB Φ [false, false] (dOuter i) e) (rangeD 0 (ns.length : Nat)) (denv ns m [] seed x y z) = .nx (denv ns m rows' seed' x' y' z') ∧ intsOk rows' ∧ rows'.length ≤ 3900 := by
  obtain ⟨e', h, rows', seed', x', y', z', rfl, h2, h3⟩ := loop_nx (bind := bindT [4]) (body := fun e => evB Φ [false, false] (dOuter i) e) (ds := rangeD 0 (ns.length : Nat)) (e := denv ns m [] seed x y z)
    (fun j e => ∃ rows' seed' x' y' z', e = denv ns m rows' seed' x' y' z' ∧ intsOk rows' ∧ rows'.length ≤ 60 * j) ⟨[], seed, x, y, z, rfl, fun _ q => by simp at q, by simp⟩ (by
      rintro j d e hj ⟨rows, sd, x', y', z', rfl, h2, h3⟩
      obtain ⟨hj1, rfl⟩ := range_get hj
      obtain ⟨v, hv⟩ : ∃ v, ns[j]? = some v := ⟨ns[j], by simp [hj1]⟩
      have hj2 : j ≤ 62 := by omega
      refine ⟨denv ns m rows sd (some (.int j)) y' z', ?_⟩
      have s5 : evS Φ [false, false] dS5 (denv ns m rows sd (some (.int j)) y' z') = .nx (denv ns m rows sd (some (.int j)) (some (.int v)) z') := by
        simp [dS5, evB, evS, evE, evO, evT, evD, evI, opd, look, Opd.get, gets, runB, runB1, runB2, runB3, run2, done, Res.bind, Res.out, Out.then, lkAt, imm, item, taken, callD, handed, putBack, wipeE, chg, sub, put, truth, imms_ints, sliceD, rngOf, items, denv, place_nat hj1, hv]
      have k1 : smallI 69621 = true := by decide
      have s3 : evS Φ [false, false] dS3 (denv ns m rows sd (some (.int j)) (some (.int v)) z') = .nx (denv ns m rows ((sd * 69621 + v % 1000003 + 1) % 2147483629) (some (.int j)) (some (.int v)) z') := by
        simp [dS3, evB, evS, evE, evO, evT, evD, evI, opd, look, Opd.get, gets, runB, runB1, runB2, runB3, run2, done, Res.bind, Res.out, Out.then, lkAt, imm, item, taken, callD, handed, putBack, wipeE, chg, sub, put, truth, imms_ints, sliceD, rngOf, items, denv, k1]
      generalize ((sd * 69621 + v % 1000003 + 1) % 2147483629) = sd' at s3
      have k2 : smallI 10 = true := by decide
      have tst : evT Φ dTest (denv ns m rows sd' (some (.int j)) (some (.int v)) z') = .ok (decide (1000000000000000000 ≤ v), denv ns m rows sd' (some (.int j)) (some (.int v)) z') := by
        simp [dTest, evB, evS, evE, evO, evT, evD, evI, opd, look, Opd.get, gets, runB, runB1, runB2, runB3, run2, done, Res.bind, Res.out, Out.then, lkAt, imm, item, taken, callD, handed, putBack, wipeE, chg, sub, put, truth, imms_ints, sliceD, rngOf, items, denv, k2]
      by_cases hb : 1000000000000000000 ≤ v
      · obtain ⟨rows', c', z'', hi, g1, g2⟩ := inner_ok Φ ns m sd' (some (.int j)) rows v z' h2 (by omega)
        refine ⟨denv ns m rows' sd' (some (.int j)) (some (.int c')) z'', rfl, .inl ?_, rows', sd', _, _, _, rfl, g1, by omega⟩
        show evB Φ [false, false] (dOuter i) _ = _
        rw [dOuter, evB_nx s5, evB_nx s3, evB_one]
        rw [evS, tst]
        simp only [Res.out, decide_eq_true hb, if_true]
        rw [dBig, evB_one]
        have ev : evI Φ (fun _ => true) (.rng (.lit (.int 0)) (.lit (.int 60))) (denv ns m rows sd' (some (.int j)) (some (.int v)) z') = .ok ⟨rangeD 0 (60 : Nat), denv ns m rows sd' (some (.int j)) (some (.int v)) z', none⟩ := by
          simp [evB, evS, evE, evO, evT, evD, evI, opd, look, Opd.get, gets, runB, runB1, runB2, runB3, run2, done, Res.bind, Res.out, Out.then, lkAt, imm, item, taken, callD, handed, putBack, wipeE, chg, sub, put, truth, imms_ints, sliceD, rngOf, items, inR_of]
        rw [evS_for rfl ev]
        exact hi
      · obtain ⟨v1, p1, p2, f1⟩ := hm (v % 1000003) (2 * (j : Int))
        obtain ⟨v2, p3, p4, f2⟩ := hm (v % 1000003) (2 * (j : Int) + 1)
        refine ⟨denv ns m (rows ++ [v1] ++ [v2]) sd' (some (.int j)) (some (.int v)) z', rfl, .inl ?_, _, sd', _, _, _, rfl, (h2.snoc p1 p2).snoc p3 p4, by simp only [List.length_append, List.length_singleton]; omega⟩
        show evB Φ [false, false] (dOuter i) _ = _
        rw [dOuter, evB_nx s5, evB_nx s3, evB_one]
        rw [evS, tst]
        have hb' : decide (1000000000000000000 ≤ v) = false := decide_eq_false hb
        simp only [Res.out, hb', Bool.false_eq_true, if_false]
        have k3 : smallI 2 = true := by decide
        rw [dSmall, evB_nx (e' := denv ns m (rows ++ [v1]) sd' (some (.int j)) (some (.int v)) z'), evB_one]
        · refine app_mix ns m (rows ++ [v1]) sd' _ _ _ (by rw [List.length_append, List.length_singleton]; omega) ?_ ?_ f2
          · simp [evB, evS, evE, evO, evT, evD, evI, opd, look, Opd.get, gets, runB, runB1, runB2, runB3, run2, done, Res.bind, Res.out, Out.then, lkAt, imm, item, taken, callD, handed, putBack, wipeE, chg, sub, put, truth, imms_ints, sliceD, rngOf, items, denv]
          · simp [evB, evS, evE, evO, evT, evD, evI, opd, look, Opd.get, gets, runB, runB1, runB2, runB3, run2, done, Res.bind, Res.out, Out.then, lkAt, imm, item, taken, callD, handed, putBack, wipeE, chg, sub, put, truth, imms_ints, sliceD, rngOf, items, denv, k3]
        · refine app_mix ns m rows sd' _ _ _ (by omega) ?_ ?_ f1
          · simp [evB, evS, evE, evO, evT, evD, evI, opd, look, Opd.get, gets, runB, runB1, runB2, runB3, run2, done, Res.bind, Res.out, Out.then, lkAt, imm, item, taken, callD, handed, putBack, wipeE, chg, sub, put, truth, imms_ints, sliceD, rngOf, items, denv]
          · simp [evB, evS, evE, evO, evT, evD, evI, opd, look, Opd.get, gets, runB, runB1, runB2, runB3, run2, done, Res.bind, Res.out, Out.then, lkAt, imm, item, taken, callD, handed, putBack, wipeE, chg, sub, put, truth, imms_ints, sliceD, rngOf, items, denv, k3])
  exact ⟨rows', seed', x', y', z', h, h2, by rw [range_len] at h3; omega⟩
theorem last_ok (Φ : Tb) (i : Nat) (hm : Mix Φ i) (ns : List Int) (m : Nat) (hmm : m ≤ 1000) (rows : List Int) (seed : Int) (x y z : Option D) (hr : intsOk rows) (hl : rows.length ≤ 3900) :
    ∃ rows' z', loopF (bindT [6]) (fun e => evB Φ [false, false] (dLast i) e) (rangeD 0 (m : Nat)) (denv ns m rows seed x y z) = .nx (denv ns m rows' seed x y z') ∧ intsOk rows' ∧ rows'.length = rows.length + m := by
  obtain ⟨e', h, rows', z', rfl, h2, h3⟩ := loop_nx (bind := bindT [6]) (body := fun e => evB Φ [false, false] (dLast i) e) (ds := rangeD 0 (m : Nat)) (e := denv ns m rows seed x y z)
    (fun j e => ∃ rows' z', e = denv ns m rows' seed x y z' ∧ intsOk rows' ∧ rows'.length = rows.length + j) ⟨rows, z, rfl, hr, rfl⟩ (by
      rintro j d e hj ⟨rows', z', rfl, h2, h3⟩
      obtain ⟨hj1, rfl⟩ := range_get hj
      obtain ⟨v1, p1, p2, f1⟩ := hm seed ((j : Int) + 127)
      refine ⟨denv ns m rows' seed x y (some (.int j)), denv ns m (rows' ++ [v1]) seed x y (some (.int j)), rfl, .inl ?_, _, _, rfl, h2.snoc p1 p2, by rw [List.length_append, List.length_singleton]; omega⟩
      show evB Φ [false, false] (dLast i) _ = _
      rw [dLast, evB_one]
      refine app_mixS ns m rows' seed _ _ _ (by omega) ?_ f1
      simp [evB, evS, evE, evO, evT, evD, evI, opd, look, Opd.get, gets, runB, runB1, runB2, runB3, run2, done, Res.bind, Res.out, Out.then, lkAt, imm, item, taken, callD, handed, putBack, wipeE, chg, sub, put, truth, imms_ints, sliceD, rngOf, items, denv])
  exact ⟨rows', z', h, h2, by rw [range_len] at h3; exact h3⟩
theorem draws_ok (Φ : Tb) (i : Nat) (hm : Mix Φ i) (ns : List Int) (h : ns.length ≤ 63) (m : Nat) (hmm : m ≤ 1000) :
    ∃ xs : List Int, xs.length = m ∧ intsOk xs ∧ runF Φ ⟨2, 7, drawsB i⟩ [.scr ns, .int m] = .ok (.lst true (xs.map .int)) [none, none] := by
  have hl : (cutL ns none (some (63 : Int))).length = ns.length := by
    have := cut_take ns 63
    rw [show ((63 : Nat) : Int) = 63 from rfl] at this
    rw [this, List.length_take]
    omega
  have i0 : inR 0 = true := inR_of (by omega) (by omega)
  have i1 : inR (ns.length : Int) = true := inR_of (by omega) (by omega)
  have i2 : inR (m : Int) = true := inR_of (by omega) (by omega)
  obtain ⟨r1, s1, x1, y1, z1, h1, q1, l1⟩ := outer_ok Φ i hm ns m h 1 none none none
  obtain ⟨r2, z2, h2, q2, l2⟩ := last_ok Φ i hm ns m hmm r1 s1 x1 y1 z1 q1 l1
  refine ⟨r2.take m, by rw [List.length_take]; omega, fun x hx => q2 x (List.mem_of_mem_take hx), runF_ret rfl rfl ⟨denv ns m r2 s1 x1 y1 z2, ?_⟩⟩
  show evB Φ [false, false] (drawsB i) [some (.scr ns), some (.int m), none, none, none, none, none] = _
  rw [drawsB, evB_nx (e' := [some (.scr ns), some (.int m), some (.lst true []), none, none, none, none]), evB_nx (e' := denv ns m [] 1 none none none)]
  · have ev : evI Φ (fun _ => true) dIt (denv ns m [] 1 none none none) = .ok ⟨rangeD 0 (ns.length : Nat), denv ns m [] 1 none none none, none⟩ := by
      refine evI_rng (x := .val (.int 0)) (y := .val (.int ns.length)) (e1 := denv ns m [] 1 none none none) rfl ?_ rfl rfl i0 i1
      simp [evB, evS, evE, evO, evT, evD, evI, opd, look, Opd.get, gets, runB, runB1, runB2, runB3, run2, done, Res.bind, Res.out, Out.then, lkAt, imm, item, taken, callD, handed, putBack, wipeE, chg, sub, put, truth, imms_ints, sliceD, rngOf, items, denv, hl]
    rw [evB_nx (e' := denv ns m r1 s1 x1 y1 z1) (by rw [evS_for rfl ev]; exact h1)]
    have ev2 : evI Φ (fun _ => true) (.rng (.lit (.int 0)) (.slot 1)) (denv ns m r1 s1 x1 y1 z1) = .ok ⟨rangeD 0 (m : Nat), denv ns m r1 s1 x1 y1 z1, none⟩ := by
      exact evI_rng (x := .val (.int 0)) (y := .ref 1) (e1 := denv ns m r1 s1 x1 y1 z1) rfl rfl rfl rfl i0 i2
    rw [evB_nx (e' := denv ns m r2 s1 x1 y1 z2) (by rw [evS_for rfl ev2]; exact h2)]
    refine evB_ret ?_
    simp [evB, evS, evE, evO, evT, evD, evI, opd, look, Opd.get, gets, runB, runB1, runB2, runB3, run2, done, Res.bind, Res.out, Out.then, lkAt, imm, item, taken, callD, handed, putBack, wipeE, chg, sub, put, truth, imms_ints, sliceD, rngOf, items, denv, cut_take, List.map_take]
  · simp [evB, evS, evE, evO, evT, evD, evI, opd, look, Opd.get, gets, runB, runB1, runB2, runB3, run2, done, Res.bind, Res.out, Out.then, lkAt, imm, item, taken, callD, handed, putBack, wipeE, chg, sub, put, truth, imms_ints, sliceD, rngOf, items, denv]
  · simp [evB, evS, evE, evO, evT, evD, evI, opd, look, Opd.get, gets, runB, runB1, runB2, runB3, run2, done, Res.bind, Res.out, Out.then, lkAt, imm, item, taken, callD, handed, putBack, wipeE, chg, sub, put, truth, imms_ints, sliceD, rngOf, items, denv, imms, show okLen 0 = true from okLen_of (by omega)]
end DL

namespace DL
open PySem
theorem rangeD_nat (n : Nat) : rangeD 0 (n : Nat) = (List.range n).map fun (i : Nat) => D.int (i : Nat) := by
  unfold rangeD
  rw [Int.sub_zero, Int.toNat_natCast]
  simp
def inL (a b : List Nat) : Bool := (List.range a.length).all fun i => (a[i]? == some 45) || (a[i]? == b[i]?)
theorem in_ok (Φ : Tb) (a b : List Nat) (hl : b.length = a.length) (hn : a.length ≤ 1000) : runF Φ ⟨2, 3, inB⟩ [.str a, .str b] = .ok (.bl (inL a b)) [none, none] := by
  refine runF_ret rfl rfl ?_
  show ∃ e, evB Φ [false, false] inB [some (.str a), some (.str b), none] = _
  have ol : okLen a.length = true := okLen_of (by omega)
  have ob : okLen b.length = true := okLen_of (by omega)
  have i0 : inR 0 = true := inR_of (by omega) (by omega)
  have i1 : inR (a.length : Int) = true := inR_of (by omega) (by omega)
  let bd : Ss := .cons (.iff (.and (.val (.op2 .ne (.idx (.slot 0) (.slot 2)) (.lit (.str [45])))) (.val (.op2 .ne (.idx (.slot 0) (.slot 2)) (.idx (.slot 1) (.slot 2))))) (.cons (.ret (.lit (.bl false))) .nil) .nil) .nil
  have step := loop_all (bind := bindT [2]) (body := fun e => evB Φ [false, false] bd e) (ds := rangeD 0 (a.length : Nat)) (e := [some (.str a), some (.str b), none])
    (fun e => ∃ z, e = [some (.str a), some (.str b), z]) (fun d => match d with | .int i => (a[i.toNat]? == some 45) || (a[i.toNat]? == b[i.toNat]?) | _ => true) (.bl false) ⟨none, rfl⟩ (by
      rintro x e hx ⟨z, rfl⟩
      rw [rangeD_nat, List.mem_map] at hx
      obtain ⟨j, hj, rfl⟩ := hx
      have hj : j < a.length := by simpa using hj
      obtain ⟨c, hc⟩ : ∃ c, a[j]? = some c := ⟨a[j], by simp [hj]⟩
      obtain ⟨d, hd⟩ : ∃ d, b[j]? = some d := ⟨b[j]'(by omega), by simp [hl, hj]⟩
      refine ⟨[some (.str a), some (.str b), some (.int j)], rfl, ?_⟩
      simp only [Int.toNat_natCast, hc, hd]
      have pa : place a.length (j : Int) = some j := place_nat hj
      have pb : place b.length (j : Int) = some j := place_nat (by omega)
      by_cases h1 : c = 45
      · refine .inl ⟨by simp [h1], [some (.str a), some (.str b), some (.int j)], .inl ?_, _, rfl⟩
        simp [bd, evB, evS, evE, evO, evT, evD, opd, look, Opd.get, gets, runB, runB1, runB2, runB3, run2, done, Res.bind, Res.out, Out.then, lkAt, imm, item, taken, truth, isFlat, mixed, deq, ol, pa, hc, h1]
      · by_cases h2 : c = d
        · refine .inl ⟨by simp [h2], [some (.str a), some (.str b), some (.int j)], .inl ?_, _, rfl⟩
          simp [bd, evB, evS, evE, evO, evT, evD, opd, look, Opd.get, gets, runB, runB1, runB2, runB3, run2, done, Res.bind, Res.out, Out.then, lkAt, imm, item, taken, truth, isFlat, mixed, deq, ol, ob, pa, pb, hc, hd, h1, h2]
        · refine .inr ⟨by simp [h1, h2], [some (.str a), some (.str b), some (.int j)], ?_⟩
          simp [bd, evB, evS, evE, evO, evT, evD, opd, look, Opd.get, gets, runB, runB1, runB2, runB3, run2, done, Res.bind, Res.out, Out.then, lkAt, imm, item, taken, truth, isFlat, mixed, deq, ol, ob, pa, pb, hc, hd, h1, h2])
  have ev : evI Φ (fun _ => true) (.rng (.lit (.int 0)) (.bcall .len (.cons (.slot 0) .nil))) [some (.str a), some (.str b), none] = .ok ⟨rangeD 0 (a.length : Nat), [some (.str a), some (.str b), none], none⟩ := by
    refine evI_rng (x := .val (.int 0)) (y := .val (.int a.length)) (e1 := [some (.str a), some (.str b), none]) rfl ?_ rfl rfl i0 i1
    simp [evB, evS, evE, evO, evT, evD, opd, look, Opd.get, gets, runB, runB1, runB2, runB3, run2, done, Res.bind, Res.out, Out.then, lkAt, imm, item, taken, truth, isFlat, mixed, deq, ol]
  have pe : (rangeD 0 (a.length : Nat)).all (fun d => match d with | .int i => (a[i.toNat]? == some 45) || (a[i.toNat]? == b[i.toNat]?) | _ => true) = inL a b := by
    rw [rangeD_nat, List.all_map]
    rfl
  rw [pe] at step
  have e0 : inB = .cons (.for [2] (.rng (.lit (.int 0)) (.bcall .len (.cons (.slot 0) .nil))) bd) (.cons (.ret (.lit (.bl true))) .nil) := rfl
  rw [e0]
  rcases step with ⟨h1, e', h2, z, rfl⟩ | ⟨h1, e', h2⟩
  · refine ⟨[some (.str a), some (.str b), z], ?_⟩
    rw [evB_nx (e' := [some (.str a), some (.str b), z]) (by rw [evS_for rfl ev]; exact h2), h1]
    exact evB_ret rfl
  · refine ⟨e', ?_⟩
    rw [h1]
    exact evB_ret (by rw [evS_for rfl ev]; exact h2)
def signs : List Nat := [48, 49, 45]
def isCube (n : Nat) (t : List Nat) : Prop := t.length = n ∧ ∀ c ∈ t, c ∈ signs
theorem isCube.snoc {n : Nat} {t : List Nat} {c : Nat} (h : isCube n t) (hc : c ∈ signs) : isCube (n + 1) (t ++ [c]) :=
  ⟨by rw [List.length_append, h.1]; rfl, fun x hx => (List.mem_append.mp hx).elim (h.2 x) fun q => by rw [List.mem_singleton.mp q]; exact hc⟩
theorem cube_ok (Φ : Tb) (num : Int) (n : Nat) (hn : n ≤ 1000) : ∃ t, isCube n t ∧ runF Φ ⟨2, 4, cubeB⟩ [.int num, .int n] = .ok (.str t) [none, none] := by
  have i0 : inR 0 = true := inR_of (by omega) (by omega)
  have i1 : inR (n : Int) = true := inR_of (by omega) (by omega)
  let bd : Ss := .cons (.set 2 (.op2 .add (.slot 2) (.idx (.lit (.str [48, 49, 45])) (.op2 .mod (.bcall .int1 (.cons (.slot 0) .nil)) (.lit (.int 3)))))) (.cons (.set 0 (.op2 .fdiv (.slot 0) (.lit (.int 3)))) .nil)
  obtain ⟨e', h, num', t, z, rfl, h2⟩ := loop_nx (bind := bindT [3]) (body := fun e => evB Φ [false, false] bd e) (ds := rangeD 0 (n : Nat)) (e := [some (.int num), some (.int n), some (.str []), none])
    (fun j e => ∃ num' t z, e = [some (.int num'), some (.int n), some (.str t), z] ∧ isCube j t) ⟨num, [], none, rfl, rfl, fun _ q => by simp at q⟩ (by
      rintro j y e hj ⟨num', t, z, rfl, h2⟩
      obtain ⟨hj1, rfl⟩ := range_get hj
      have ol : okLen (t.length + 1) = true := okLen_of (by rw [h2.1]; omega)
      have o3 : okLen 3 = true := okLen_of (by omega)
      have m3 : num' % 3 = 0 ∨ num' % 3 = 1 ∨ num' % 3 = 2 := by omega
      obtain ⟨c, hc, hs⟩ : ∃ c, item (.str [48, 49, 45]) (.int (num' % 3)) = some (.str [c]) ∧ c ∈ signs := by
        rcases m3 with q | q | q <;> rw [q]
        · exact ⟨48, by simp [item, o3, place], by decide⟩
        · exact ⟨49, by simp [item, o3, place], by decide⟩
        · exact ⟨45, by simp [item, o3, place], by decide⟩
      refine ⟨[some (.int num'), some (.int n), some (.str t), some (.int j)], [some (.int (num' / 3)), some (.int n), some (.str (t ++ [c])), some (.int j)], rfl, .inl ?_, num' / 3, t ++ [c], _, rfl, h2.snoc hs⟩
      show evB Φ [false, false] bd _ = _
      have s2 : evS Φ [false, false] (.set 2 (.op2 .add (.slot 2) (.idx (.lit (.str [48, 49, 45])) (.op2 .mod (.bcall .int1 (.cons (.slot 0) .nil)) (.lit (.int 3)))))) [some (.int num'), some (.int n), some (.str t), some (.int j)] = .nx [some (.int num'), some (.int n), some (.str (t ++ [c])), some (.int j)] := by
        simp [evB, evS, evE, evO, evT, evD, opd, look, Opd.get, gets, runB, runB1, runB2, runB3, run2, done, Res.bind, Res.out, Out.then, lkAt, imm, taken, truth, isFlat, mixed, deq, hc, ol]
      rw [evB_nx s2, evB_one]
      simp [evB, evS, evE, evO, evT, evD, opd, look, Opd.get, gets, runB, runB1, runB2, runB3, run2, done, Res.bind, Res.out, Out.then, lkAt, imm, item, taken, truth, isFlat, mixed, deq])
  rw [range_len] at h2
  refine ⟨t, h2, runF_ret rfl rfl ⟨[some (.int num'), some (.int n), some (.str t), z], ?_⟩⟩
  show evB Φ [false, false] cubeB [some (.int num), some (.int n), none, none] = _
  have e0 : cubeB = .cons (.set 2 (.lit (.str []))) (.cons (.for [3] (.rng (.lit (.int 0)) (.slot 1)) bd) (.cons (.ret (.slot 2)) .nil)) := rfl
  rw [e0, evB_nx (e' := [some (.int num), some (.int n), some (.str []), none]) rfl]
  have ev : evI Φ (fun _ => true) (.rng (.lit (.int 0)) (.slot 1)) [some (.int num), some (.int n), some (.str []), none] = .ok ⟨rangeD 0 (n : Nat), [some (.int num), some (.int n), some (.str []), none], none⟩ :=
    evI_rng (x := .val (.int 0)) (y := .ref 1) (e1 := [some (.int num), some (.int n), some (.str []), none]) rfl rfl rfl rfl i0 i1
  rw [evB_nx (e' := [some (.int num'), some (.int n), some (.str t), z]) (by rw [evS_for rfl ev]; exact h)]
  exact evB_ret rfl
end DL

namespace DL
open PySem
def toD (xs : List (List Nat)) : List D := xs.map D.str
theorem fzs_strs : ∀ xs, fzs (toD xs) = toD xs
  | [] => rfl
  | x :: xs => by
    show fz (.str x) :: fzs (toD xs) = _
    rw [fzs_strs xs]
    rfl
theorem imms_strs : ∀ xs, imms (toD xs) = true
  | [] => rfl
  | x :: xs => by
    show (imm (.str x) && imms (toD xs)) = true
    rw [imms_strs xs]
    rfl
def ext (sg r : List Nat) : List (List Nat) := sg.map fun c => r ++ [c]
def stringsL (sg : List Nat) : Nat → List (List Nat)
  | 0 => [[]]
  | n + 1 => (stringsL sg n).flatMap (ext sg)
theorem stringsL_len (sg : List Nat) : ∀ n, (stringsL sg n).length = sg.length ^ n
  | 0 => rfl
  | n + 1 => by
    have : ∀ xs : List (List Nat), (xs.flatMap (ext sg)).length = xs.length * sg.length := by
      intro xs
      induction xs with
      | nil => simp
      | cons x xs ih => rw [List.flatMap_cons, List.length_append, ih, List.length_cons, ext, List.length_map, Nat.succ_mul, Nat.add_comm]
    rw [stringsL, this, stringsL_len sg n, Nat.pow_succ]
theorem stringsL_at (sg : List Nat) : ∀ n r, r ∈ stringsL sg n → r.length = n
  | 0, r, h => by rw [List.mem_singleton.mp h]; rfl
  | n + 1, r, h => by
    rw [stringsL, List.mem_flatMap] at h
    obtain ⟨a, ha, hr⟩ := h
    obtain ⟨c, _, rfl⟩ := List.mem_map.mp hr
    rw [List.length_append, stringsL_at sg n a ha]
    rfl
theorem stringsL_mem {sg : List Nat} : ∀ {n : Nat} {t : List Nat}, t.length = n → (∀ c ∈ t, c ∈ sg) → t ∈ stringsL sg n
  | 0, t, h, _ => by
    have : t = [] := List.eq_nil_of_length_eq_zero h
    subst this
    exact List.mem_singleton.mpr rfl
  | n + 1, t, h, hc => by
    have hne : t ≠ [] := fun q => by rw [q] at h; cases h
    rw [stringsL, List.mem_flatMap]
    refine ⟨t.dropLast, stringsL_mem (by rw [List.length_dropLast, h]; rfl) fun c q => hc c (List.dropLast_subset _ q), ?_⟩
    exact List.mem_map.mpr ⟨t.getLast hne, hc _ (List.getLast_mem hne), List.dropLast_concat_getLast hne⟩
def senv (n : Int) (sg : List Nat) (o : Bool) (rows : List (List Nat)) (a : Option D) (lg : List (List Nat)) (r z : Option D) : Env := [some (.int n), some (.str sg), some (.lst o (toD rows)), a, some (.lst true (toD lg)), r, z]
def sB1 : Ss := .cons (.app 4 [] (.op2 .add (.slot 5) (.slot 6))) .nil
def sB2 : Ss := .cons (.for [6] (.seq (.slot 1)) sB1) .nil
def sB3 : Ss := .cons (.set 4 (.lst .nil)) (.cons (.for [5] (.seq (.slot 2)) sB2) (.cons (.set 2 (.slot 4)) .nil))
theorem sign_ok (Φ : Tb) (n : Int) (sg : List Nat) (rows lg : List (List Nat)) (a z : Option D) (r : List Nat) (hr : r.length ≤ 1000) (hl : lg.length ≤ 100000) (hg : sg.length ≤ 1000) :
    ∃ z', loopF (bindT [6]) (fun e => evB Φ [false, false] sB1 e) (sg.map fun c => .str [c]) (senv n sg false rows a lg (some (.str r)) z) = .nx (senv n sg false rows a (lg ++ ext sg r) (some (.str r)) z') := by
  obtain ⟨e', h, z', rfl⟩ := loop_nx (bind := bindT [6]) (body := fun e => evB Φ [false, false] sB1 e) (ds := sg.map fun c => .str [c]) (e := senv n sg false rows a lg (some (.str r)) z)
    (fun j e => ∃ z', e = senv n sg false rows a (lg ++ ext (sg.take j) r) (some (.str r)) z') ⟨z, by simp [ext]⟩ (by
      rintro j y e hj ⟨z', rfl⟩
      rw [List.getElem?_map] at hj
      cases hc : sg[j]? with
      | none => rw [hc] at hj; cases hj
      | some c =>
        rw [hc] at hj
        cases hj
        have hj1 : j < sg.length := by
          rw [List.getElem?_eq_some_iff] at hc
          exact hc.1
        have ol : okLen (r.length + 1) = true := okLen_of (by omega)
        have ll : (lg ++ ext (sg.take j) r).length ≤ 101000 := by rw [List.length_append, ext, List.length_map, List.length_take]; omega
        generalize hx : lg ++ ext (sg.take j) r = xs at ll
        have o2 : okLen (toD xs).length = true := okLen_of (by rw [toD, List.length_map]; omega)
        refine ⟨senv n sg false rows a xs (some (.str r)) (some (.str [c])), senv n sg false rows a (xs ++ [r ++ [c]]) (some (.str r)) (some (.str [c])), rfl, .inl ?_, some (.str [c]), ?_⟩
        · show evB Φ [false, false] sB1 _ = _
          rw [sB1, evB_one]
          simp [senv, evB, evS, evE, evO, evT, evD, opd, look, Opd.get, gets, runB, runB1, runB2, runB3, run2, done, Res.bind, Res.out, Out.then, lkAt, imm, item, taken, truth, isFlat, mixed, deq, callD, handed, putBack, wipeE, chg, sub, put, ol, o2]
          simp [toD]
        · rw [List.take_add_one, hc, ← hx]
          simp [ext])
  rw [List.length_map, List.take_of_length_le (Nat.le_refl _)] at h
  exact ⟨z', h⟩
theorem rows_ok (Φ : Tb) (n : Int) (sg : List Nat) (rows : List (List Nat)) (a r z : Option D) (hr : ∀ x ∈ rows, x.length ≤ 1000) (hl : rows.length ≤ 10000) (hg : sg.length ≤ 3) :
    ∃ r' z', loopF (bindT [5]) (fun e => evB Φ [false, false] sB2 e) (toD rows) (senv n sg false rows a [] r z) = .nx (senv n sg false rows a (rows.flatMap (ext sg)) r' z') := by
  have flen : ∀ xs : List (List Nat), (xs.flatMap (ext sg)).length = xs.length * sg.length := by
    intro xs
    induction xs with
    | nil => simp
    | cons x xs ih => rw [List.flatMap_cons, List.length_append, ih, List.length_cons, ext, List.length_map, Nat.succ_mul, Nat.add_comm]
  obtain ⟨e', h, r', z', rfl⟩ := loop_nx (bind := bindT [5]) (body := fun e => evB Φ [false, false] sB2 e) (ds := toD rows) (e := senv n sg false rows a [] r z)
    (fun j e => ∃ r' z', e = senv n sg false rows a ((rows.take j).flatMap (ext sg)) r' z') ⟨r, z, by simp⟩ (by
      rintro j y e hj ⟨r', z', rfl⟩
      rw [toD, List.getElem?_map] at hj
      cases hc : rows[j]? with
      | none => rw [hc] at hj; cases hj
      | some c =>
        rw [hc] at hj
        cases hj
        have hm : c ∈ rows := List.mem_of_getElem? hc
        have ll : ((rows.take j).flatMap (ext sg)).length ≤ 100000 := by
          rw [flen, List.length_take]
          have : min j rows.length * sg.length ≤ 10000 * 3 := Nat.mul_le_mul (by omega) hg
          omega
        obtain ⟨z'', hh⟩ := sign_ok Φ n sg rows ((rows.take j).flatMap (ext sg)) a z' c (hr c hm) ll (by omega)
        refine ⟨senv n sg false rows a ((rows.take j).flatMap (ext sg)) (some (.str c)) z', _, rfl, .inl ?_, some (.str c), z'', rfl⟩
        show evB Φ [false, false] sB2 _ = _
        have ev : evI Φ (fun _ => true) (.seq (.slot 1)) (senv n sg false rows a ((rows.take j).flatMap (ext sg)) (some (.str c)) z') = .ok ⟨sg.map fun c => .str [c], senv n sg false rows a ((rows.take j).flatMap (ext sg)) (some (.str c)) z', none⟩ := rfl
        rw [sB2, evB_one]
        rw [evS_for rfl ev, hh]
        congr 2
        rw [List.take_add_one, hc]
        simp)
  rw [toD, List.length_map, List.take_of_length_le (Nat.le_refl _)] at h
  exact ⟨r', z', h⟩
theorem strings_ok (Φ : Tb) (n : Nat) (hn : n ≤ 4) (sg : List Nat) (hg : sg.length ≤ 3) : ∃ o, runF Φ ⟨2, 7, stringsB⟩ [.int n, .str sg] = .ok (.lst o (toD (stringsL sg n))) [none, none] := by
  have i0 : inR 0 = true := inR_of (by omega) (by omega)
  have i1 : inR (n : Int) = true := inR_of (by omega) (by omega)
  let E (o : Bool) (rows : List (List Nat)) (a l r z : Option D) : Env := [some (.int n), some (.str sg), some (.lst o (toD rows)), a, l, r, z]
  obtain ⟨e', h, o, a, l, r, z, rfl⟩ := loop_nx (bind := bindT [3]) (body := fun e => evB Φ [false, false] sB3 e) (ds := rangeD 0 (n : Nat)) (e := E true [[]] none none none none)
    (fun j e => ∃ o a l r z, e = E o (stringsL sg j) a l r z) ⟨true, none, none, none, none, rfl⟩ (by
      rintro j y e hj ⟨o, a, l, r, z, rfl⟩
      obtain ⟨hj1, rfl⟩ := range_get hj
      have hlen : (stringsL sg j).length ≤ 10000 := by
        rw [stringsL_len]
        have h1 : sg.length ^ j ≤ 3 ^ j := Nat.pow_le_pow_left hg j
        have h2 : 3 ^ j ≤ 3 ^ 4 := Nat.pow_le_pow_right (by omega) (by omega)
        omega
      obtain ⟨r', z', hh⟩ := rows_ok Φ n sg (stringsL sg j) (some (.int j)) r z (fun x hx => by rw [stringsL_at sg j x hx]; omega) hlen hg
      refine ⟨E o (stringsL sg j) (some (.int j)) l r z, E false (stringsL sg (j + 1)) (some (.int j)) (some (.lst false (toD (stringsL sg (j + 1))))) r' z', rfl, .inl ?_, _, _, _, _, _, rfl⟩
      show evB Φ [false, false] sB3 _ = _
      have o0 : okLen 0 = true := okLen_of (by omega)
      have s4 : evS Φ [false, false] (.set 4 (.lst .nil)) (E o (stringsL sg j) (some (.int j)) l r z) = .nx (E o (stringsL sg j) (some (.int j)) (some (.lst true [])) r z) := by
        simp [E, evB, evS, evE, evO, evT, evD, opd, look, Opd.get, gets, runB, runB1, runB2, runB3, run2, done, Res.bind, Res.out, Out.then, lkAt, imm, item, taken, truth, isFlat, mixed, deq, callD, handed, putBack, wipeE, chg, sub, put, o0]
      rw [sB3, evB_nx s4]
      have ev : evI Φ (fun _ => true) (.seq (.slot 2)) (E o (stringsL sg j) (some (.int j)) (some (.lst true [])) r z) = .ok ⟨toD (stringsL sg j), senv n sg false (stringsL sg j) (some (.int j)) [] r z, none⟩ := by
        cases o with
        | true =>
          simp only [evI, opd, E, look, Res.bind, walk1, items, List.getElem?_cons_succ, List.getElem?_cons_zero, Option.join]
          simp [imm, fz, fzs_strs, senv]
          rfl
        | false =>
          simp only [evI, opd, E, look, Res.bind, walk1, items, List.getElem?_cons_succ, List.getElem?_cons_zero, Option.join]
          simp [imm, imms_strs, senv]
          rfl
      rw [evB_nx (e' := senv n sg false (stringsL sg j) (some (.int j)) ((stringsL sg j).flatMap (ext sg)) r' z') (by rw [evS_for rfl ev]; exact hh), evB_one]
      simp [senv, E, evB, evS, evE, evO, evT, evD, opd, look, Opd.get, gets, runB, runB1, runB2, runB3, run2, done, Res.bind, Res.out, Out.then, lkAt, imm, item, taken, truth, isFlat, mixed, deq, callD, handed, putBack, wipeE, chg, sub, put, fz, fzs_strs, stringsL])
  rw [range_len] at h
  refine ⟨o, runF_ret rfl rfl ?_⟩
  show ∃ e, evB Φ [false, false] stringsB [some (.int n), some (.str sg), none, none, none, none, none] = _
  have e0 : stringsB = .cons (.set 2 (.lst (.cons (.lit (.str [])) .nil))) (.cons (.for [3] (.rng (.lit (.int 0)) (.slot 0)) sB3) (.cons (.ret (.slot 2)) .nil)) := rfl
  have o1 : okLen 1 = true := okLen_of (by omega)
  have s2 : evS Φ [false, false] (.set 2 (.lst (.cons (.lit (.str [])) .nil))) [some (.int n), some (.str sg), none, none, none, none, none] = .nx (E true [[]] none none none none) := by
    simp [evB, evS, evE, evO, evT, evD, opd, look, Opd.get, gets, runB, runB1, runB2, runB3, run2, done, Res.bind, Res.out, Out.then, lkAt, imm, item, taken, truth, isFlat, mixed, deq, callD, handed, putBack, wipeE, chg, sub, put, E, toD, o1]
  have ev : evI Φ (fun _ => true) (.rng (.lit (.int 0)) (.slot 0)) (E true [[]] none none none none) = .ok ⟨rangeD 0 (n : Nat), E true [[]] none none none none, none⟩ :=
    evI_rng (x := .val (.int 0)) (y := .ref 0) (e1 := E true [[]] none none none none) rfl rfl rfl rfl i0 i1
  rw [e0, evB_nx s2, evB_nx (e' := E o (stringsL sg n) a l r z) (by rw [evS_for rfl ev]; exact h)]
  cases o with
  | true => exact ⟨_, evB_ret rfl⟩
  | false =>
    refine ⟨E false (stringsL sg n) a l r z, evB_ret ?_⟩
    rw [evS]
    simp [E, look, imm, imms_strs]
end DL

namespace DL
open PySem
/-! ### the program's defs on cubes -/
def c_is_whole : Ss := (Ss.cons (Sx.ret (Ex.and (Ex.bcall (BF.isinst "int") (Exs.cons (Ex.slot 0) (Exs.nil))) (Ex.op1 (B1.notv) (Ex.bcall (BF.isinst "bool") (Exs.cons (Ex.slot 0) (Exs.nil)))))) (Ss.nil))
def c_is_size (f_is_whole : Nat) : Ss := (Ss.cons (Sx.ret (Ex.and (Ex.call f_is_whole (Exs.cons (Ex.slot 0) (Exs.nil))) (Ex.chain (B2.le) (B2.le) (Ex.lit (D.int 1)) (Ex.slot 0) (Ex.lit (D.int 4))))) (Ss.nil))
def c_has_only : Ss := (Ss.cons (Sx.ret (Ex.bcall (BF.all) (Exs.cons (Ex.lc (Ex.op2 (B2.isin) (Ex.slot 2) (Ex.slot 1)) [2] (It.seq (Ex.slot 0)) (Tx.yes)) (Exs.nil)))) (Ss.nil))
def c_is_cube (f_has_only : Nat) : Ss := (Ss.cons (Sx.ret (Ex.and (Ex.bcall (BF.isinst "str") (Exs.cons (Ex.slot 0) (Exs.nil))) (Ex.and (Ex.op2 (B2.eq) (Ex.bcall (BF.len) (Exs.cons (Ex.slot 0) (Exs.nil))) (Ex.slot 1)) (Ex.call f_has_only (Exs.cons (Ex.slot 0) (Exs.cons (Ex.lit (D.str [45, 48, 49])) (Exs.nil))))))) (Ss.nil))
def c_check_cube (f_is_size : Nat) (f_is_cube : Nat) : Ss := (Ss.cons (Sx.iff (Tx.or (Tx.not (Tx.val (Ex.bcall (BF.isinst "str") (Exs.cons (Ex.slot 0) (Exs.nil))))) (Tx.or (Tx.not (Tx.val (Ex.call f_is_size (Exs.cons (Ex.bcall (BF.len) (Exs.cons (Ex.slot 0) (Exs.nil))) (Exs.nil))))) (Tx.not (Tx.val (Ex.call f_is_cube (Exs.cons (Ex.slot 0) (Exs.cons (Ex.bcall (BF.len) (Exs.cons (Ex.slot 0) (Exs.nil))) (Exs.nil)))))))) (Ss.cons (Sx.augI 0 [] (Ex.lit (D.non)) (B2.add) (Ex.lit (D.non))) (Ss.nil)) (Ss.nil)) (Ss.nil))
def c_check_cubes (f_check_cube : Nat) (f_is_cube : Nat) : Ss := (Ss.cons (Sx.expr (Ex.call f_check_cube (Exs.cons (Ex.slot 0) (Exs.nil)))) (Ss.cons (Sx.iff (Tx.not (Tx.val (Ex.call f_is_cube (Exs.cons (Ex.slot 1) (Exs.cons (Ex.bcall (BF.len) (Exs.cons (Ex.slot 0) (Exs.nil))) (Exs.nil)))))) (Ss.cons (Sx.augI 0 [] (Ex.lit (D.non)) (B2.add) (Ex.lit (D.non))) (Ss.nil)) (Ss.nil)) (Ss.nil)))
def c_holds (f_check_cubes : Nat) : Ss := (Ss.cons (Sx.expr (Ex.call f_check_cubes (Exs.cons (Ex.slot 0) (Exs.cons (Ex.slot 1) (Exs.nil))))) (Ss.cons (Sx.ret (Ex.bcall (BF.all) (Exs.cons (Ex.lc (Ex.op2 (B2.isin) (Ex.slot 2) (Ex.tup (Exs.cons (Ex.lit (D.str [45])) (Exs.cons (Ex.slot 3) (Exs.nil))))) [2, 3] (It.zip (Ex.slot 0) (Ex.slot 1)) (Tx.yes)) (Exs.nil)))) (Ss.nil)))
def c_distance (f_check_cubes : Nat) : Ss := (Ss.cons (Sx.expr (Ex.call f_check_cubes (Exs.cons (Ex.slot 0) (Exs.cons (Ex.slot 1) (Exs.nil))))) (Ss.cons (Sx.ret (Ex.bcall (BF.len) (Exs.cons (Ex.lc (Ex.slot 2) [2, 3] (It.zip (Ex.slot 0) (Ex.slot 1)) (Tx.and (Tx.val (Ex.op2 (B2.notin) (Ex.lit (D.str [45])) (Ex.tup (Exs.cons (Ex.slot 2) (Exs.cons (Ex.slot 3) (Exs.nil)))))) (Tx.val (Ex.op2 (B2.ne) (Ex.slot 2) (Ex.slot 3))))) (Exs.nil)))) (Ss.nil)))
def c_meet (f_distance : Nat) (f_known_to_both : Nat) : Ss := (Ss.cons (Sx.ret (Ex.ife (Tx.val (Ex.op2 (B2.eq) (Ex.call f_distance (Exs.cons (Ex.slot 0) (Exs.cons (Ex.slot 1) (Exs.nil)))) (Ex.lit (D.int 0)))) (Ex.call f_known_to_both (Exs.cons (Ex.slot 0) (Exs.cons (Ex.slot 1) (Exs.nil)))) (Ex.lit (D.non)))) (Ss.nil))
def c_known_to_both (f_known_sign : Nat) : Ss := (Ss.cons (Sx.ret (Ex.bcall (BF.join) (Exs.cons (Ex.lit (D.str [])) (Exs.cons (Ex.lc (Ex.call f_known_sign (Exs.cons (Ex.slot 2) (Exs.cons (Ex.slot 3) (Exs.nil)))) [2, 3] (It.zip (Ex.slot 0) (Ex.slot 1)) (Tx.yes)) (Exs.nil))))) (Ss.nil))
def c_known_sign : Ss := (Ss.cons (Sx.iff (Tx.val (Ex.op2 (B2.eq) (Ex.slot 0) (Ex.lit (D.str [45])))) (Ss.cons (Sx.ret (Ex.slot 1)) (Ss.nil)) (Ss.nil)) (Ss.cons (Sx.ret (Ex.ife (Tx.val (Ex.op2 (B2.isin) (Ex.slot 1) (Ex.tup (Exs.cons (Ex.lit (D.str [45])) (Exs.cons (Ex.slot 0) (Exs.nil)))))) (Ex.slot 0) (Ex.lit (D.str [45])))) (Ss.nil)))
def c_span (f_check_cubes : Nat) : Ss := (Ss.cons (Sx.expr (Ex.call f_check_cubes (Exs.cons (Ex.slot 0) (Exs.cons (Ex.slot 1) (Exs.nil))))) (Ss.cons (Sx.ret (Ex.bcall (BF.join) (Exs.cons (Ex.lit (D.str [])) (Exs.cons (Ex.lc (Ex.ife (Tx.val (Ex.op2 (B2.eq) (Ex.slot 2) (Ex.slot 3))) (Ex.slot 2) (Ex.lit (D.str [45]))) [2, 3] (It.zip (Ex.slot 0) (Ex.slot 1)) (Tx.yes)) (Exs.nil))))) (Ss.nil)))
def c_consensus (f_distance : Nat) (f_known_to_both : Nat) : Ss := (Ss.cons (Sx.ret (Ex.ife (Tx.val (Ex.op2 (B2.eq) (Ex.call f_distance (Exs.cons (Ex.slot 0) (Exs.cons (Ex.slot 1) (Exs.nil)))) (Ex.lit (D.int 1)))) (Ex.call f_known_to_both (Exs.cons (Ex.slot 0) (Exs.cons (Ex.slot 1) (Exs.nil)))) (Ex.lit (D.non)))) (Ss.nil))

theorem is_int (i : Int) : isOf "int" (.int i) = some true := by kernel_rfl
theorem bool_int (i : Int) : isOf "bool" (.int i) = some false := by kernel_rfl
theorem str_str (t : List Nat) : isOf "str" (.str t) = some true := by kernel_rfl
theorem str_non : isOf "str" .non = some false := by kernel_rfl
theorem bool_bl (b : Bool) : isOf "bool" (.bl b) = some true := by kernel_rfl
/-- a comprehension: what passes the test, one by one -/
theorem loopC_gen {tg : List Nat} {test : Env → Res (Bool × Env)} {elt : Env → Res (D × Env)} {p : D → Bool} {f : D → D} {e : Env} : ∀ {ds acc : List D},
    (∀ x, x ∈ ds → ∃ e1 e2, bindT tg x e = some e1 ∧ test e1 = .ok (p x, e2) ∧ ((p x = false ∧ wipeE e2 tg = e) ∨ (p x = true ∧ ∃ e3, elt e2 = .ok (f x, e3) ∧ wipeE e3 tg = e))) → acc.length + ds.length ≤ 1000000 →
    loopC tg test elt ds e acc = .ok (acc ++ (ds.filter p).map f, e)
  | [], acc, _, _ => by rw [loopC]; simp
  | x :: xs, acc, step, hl => by
    obtain ⟨e1, e2, h1, h2, h3⟩ := step x List.mem_cons_self
    rw [List.length_cons] at hl
    have ol : okLen acc.length = true := okLen_of (by omega)
    rw [loopC]
    rcases h3 with ⟨h3, h4⟩ | ⟨h3, e3, h4, h5⟩
    · simp only [h1, h2, Res.bind, h3, Bool.false_eq_true, if_false, h4]
      rw [loopC_gen (fun y hy => step y (List.mem_cons_of_mem _ hy)) (by omega), List.filter_cons_of_neg (by simp [h3])]
    · simp only [h1, h2, Res.bind, h3, if_true, h4, ol, h5]
      rw [loopC_gen (fun y hy => step y (List.mem_cons_of_mem _ hy)) (by rw [List.length_append, List.length_singleton]; omega), List.filter_cons_of_pos h3]
      simp
theorem lc_ok {Φ : Tb} {elt : Ex} {tg : List Nat} {it : It} {c : Tx} {e e0 : Env} {ds : List D} (p : D → Bool) (f : D → D) (hi : ∀ has, evI Φ has it e = .ok ⟨ds, e, none⟩) (hm : immAt e tg = true) (hw : wipeE e tg = e0) (hb : backE e e0 tg = e)
    (step : ∀ x, x ∈ ds → ∃ e1 e2, bindT tg x e0 = some e1 ∧ evT Φ c e1 = .ok (p x, e2) ∧ ((p x = false ∧ wipeE e2 tg = e0) ∨ (p x = true ∧ ∃ e3, evE Φ elt e2 = .ok (f x, e3) ∧ wipeE e3 tg = e0))) (hl : ds.length ≤ 1000000) :
    evE Φ (.lc elt tg it c) e = .ok (.lst true ((ds.filter p).map f), e) := by
  rw [evE, hi]
  show (if immAt e tg = true then (loopC tg (fun e => evT Φ c e) (fun e => evE Φ elt e) ds (wipeE e tg) []).bind _ else _) = _
  rw [if_pos hm, hw, loopC_gen step (by simp; omega)]
  show Res.ok (D.lst true _, unhide none (backE e e0 tg)) = _
  rw [hb]
  rfl
theorem opd_lc {elt : Ex} {tg : List Nat} {it : It} {c : Tx} {e : Env} {r : Res (D × Env)} : opd (.lc elt tg it c) e r = r.bind fun p => .ok (.val p.1, p.2) := rfl
theorem bls_map : ∀ xs : List Bool, bls (xs.map D.bl) = some xs
  | [] => rfl
  | x :: xs => by rw [List.map_cons, bls, bls_map xs]; rfl
theorem strsD_map : ∀ xs : List (List Nat), strsD (xs.map D.str) = some xs
  | [] => rfl
  | x :: xs => by rw [List.map_cons, strsD, strsD_map xs]; rfl
theorem filter_true {α : Type} (ds : List α) : ds.filter (fun _ => true) = ds := by simp
theorem joinS_nil : ∀ xs : List Nat, joinS [] (xs.map fun c => [c]) = xs
  | [] => rfl
  | [_] => rfl
  | x :: y :: r => by
    show [x] ++ [] ++ joinS [] ((y :: r).map fun c => [c]) = _
    rw [joinS_nil (y :: r)]
    rfl
theorem zip_pairs : ∀ c d : List Nat, pairs (c.map fun x => .str [x]) (d.map fun x => .str [x]) = (c.zip d).map fun p => .tup false [.str [p.1], .str [p.2]]
  | [], d => by rw [List.map_nil, pairs]; rfl; intros; contradiction
  | _ :: _, [] => by rw [List.map_nil, pairs]; rfl; intros; contradiction
  | x :: c, y :: d => by rw [List.map_cons, List.map_cons, pairs, zip_pairs c d]; rfl
/-- the two texts' signs, side by side -/
def P2 (p : Nat × Nat) : D := .tup false [.str [p.1], .str [p.2]]
/-- a comprehension over two texts' signs, in slots 0 and 1 -/
theorem lc_zip {Φ : Tb} {elt : Ex} {c : Tx} (a b : List Nat) (p : Nat → Nat → Bool) (f : Nat → Nat → D) (hl : a.length ≤ 1000)
    (ht : ∀ x y, evT Φ c [some (.str a), some (.str b), some (.str [x]), some (.str [y])] = .ok (p x y, [some (.str a), some (.str b), some (.str [x]), some (.str [y])]))
    (he : ∀ x y, x ∈ a → y ∈ b → p x y = true → evE Φ elt [some (.str a), some (.str b), some (.str [x]), some (.str [y])] = .ok (f x y, [some (.str a), some (.str b), some (.str [x]), some (.str [y])])) :
    evE Φ (.lc elt [2, 3] (.zip (.slot 0) (.slot 1)) c) [some (.str a), some (.str b), none, none] = .ok (.lst true (((a.zip b).filter fun q => p q.1 q.2).map fun q => f q.1 q.2), [some (.str a), some (.str b), none, none]) := by
  have h := lc_ok (Φ := Φ) (elt := elt) (tg := [2, 3]) (it := .zip (.slot 0) (.slot 1)) (c := c) (e := [some (.str a), some (.str b), none, none]) (e0 := [some (.str a), some (.str b), none, none]) (ds := (a.zip b).map P2)
    (fun d => match d with | .tup _ [.str [x], .str [y]] => p x y | _ => true) (fun d => match d with | .tup _ [.str [x], .str [y]] => f x y | _ => .non)
    (fun has => by
      show Res.ok (Wk.mk (pairs (a.map fun c => .str [c]) (b.map fun c => .str [c])) _ none) = _
      rw [zip_pairs]
      rfl) rfl rfl rfl (by
    intro x hx
    obtain ⟨⟨u, v⟩, hm, rfl⟩ := List.mem_map.mp hx
    have hm := List.of_mem_zip hm
    refine ⟨_, _, rfl, ht u v, ?_⟩
    cases q : p u v with
    | false => exact .inl ⟨q, rfl⟩
    | true => exact .inr ⟨q, _, he u v hm.1 hm.2 q, rfl⟩) (by rw [List.length_map, List.length_zip]; omega)
  rw [h, List.filter_map, List.map_map]
  rfl
theorem isCube.len {n : Nat} {t : List Nat} (h : isCube n t) : t.length = n := h.1

section
variable (Φ : Tb)
theorem ret_lc {lk : List Bool} {elt : Ex} {tg : List Nat} {it : It} {c : Tx} {e : Env} {bs : List Bool} (h : evE Φ (.lc elt tg it c) e = .ok (.lst true (bs.map D.bl), e)) :
    evS Φ lk (.ret (.bcall .all (.cons (.lc elt tg it c) .nil))) e = .ret (.bl (bs.all id)) e := by
  have hr : runB .all [.lst true (bs.map D.bl)] = some (.bl (bs.all id)) := by
    show (bls (bs.map D.bl)).map (fun bs => D.bl (bs.all id)) = _
    rw [bls_map]
    rfl
  rw [evS]
  · have : evE Φ (.bcall .all (.cons (.lc elt tg it c) .nil)) e = .ok (.bl (bs.all id), e) := by
      rw [evE, evO, opd_lc, h]
      show done e (runB .all [.lst true (bs.map D.bl)]) = _
      rw [hr]
      rfl
    rw [this]
    rfl
  · intro i q; cases q
theorem ret_len {lk : List Bool} {elt : Ex} {tg : List Nat} {it : It} {c : Tx} {e : Env} {ds : List D} (h : evE Φ (.lc elt tg it c) e = .ok (.lst true ds, e)) :
    evS Φ lk (.ret (.bcall .len (.cons (.lc elt tg it c) .nil))) e = .ret (.int ds.length) e := by
  rw [evS]
  · have : evE Φ (.bcall .len (.cons (.lc elt tg it c) .nil)) e = .ok (.int ds.length, e) := by
      rw [evE, evO, opd_lc, h]
      rfl
    rw [this]
    rfl
  · intro i q; cases q
theorem whole_ok (i : Int) : runF Φ ⟨1, 1, c_is_whole⟩ [.int i] = .ok (.bl true) [none] := by
  refine runF_ret rfl rfl ?_
  simp [evB, evS, evE, evO, evT, evD, opd, look, Opd.get, gets, runB, runB1, runB2, runB3, run2, run1, done, Res.bind, Res.out, Out.then, lkAt, imm, item, taken, truth, isFlat, mixed, deq, callD, handed, putBack, wipeE, chg, sub, put, c_is_whole, is_int, bool_int]
theorem size_ok {w : Nat} (hw : ∀ i : Int, Φ.fn w [.int i] = .ok (.bl true) [none]) (n : Nat) (h1 : 1 ≤ n) (h4 : n ≤ 4) : runF Φ ⟨1, 1, c_is_size w⟩ [.int n] = .ok (.bl true) [none] := by
  refine runF_ret rfl rfl ?_
  have a1 : (1 : Int) ≤ n := by omega
  have a4 : (n : Int) ≤ 4 := by omega
  simp [evB, evS, evE, evO, evT, evD, opd, look, Opd.get, gets, runB, runB1, runB2, runB3, run2, run1, done, Res.bind, Res.out, Out.then, lkAt, imm, item, taken, truth, isFlat, mixed, deq, callD, handed, putBack, wipeE, chg, sub, put, c_is_size, hw, a1, a4]
theorem only_ok (t sg : List Nat) (hn : t.length ≤ 1000) : runF Φ ⟨2, 3, c_has_only⟩ [.str t, .str sg] = .ok (.bl (t.all fun c => sg.contains c)) [none, none] := by
  refine runF_ret rfl rfl ⟨[some (.str t), some (.str sg), none], ?_⟩
  show evB Φ [false, false] c_has_only [some (.str t), some (.str sg), none] = _
  have h := lc_ok (Φ := Φ) (elt := .op2 .isin (.slot 2) (.slot 1)) (tg := [2]) (it := .seq (.slot 0)) (c := .yes) (e := [some (.str t), some (.str sg), none]) (e0 := [some (.str t), some (.str sg), none]) (ds := t.map fun c => .str [c])
    (fun _ => true) (fun d => match d with | .str [x] => .bl (sg.contains x) | _ => .non) (fun has => rfl) rfl rfl rfl (by
    intro x hx
    obtain ⟨u, hm, rfl⟩ := List.mem_map.mp hx
    exact ⟨_, _, rfl, rfl, .inr ⟨rfl, _, rfl, rfl⟩⟩) (by rw [List.length_map]; omega)
  rw [filter_true, List.map_map] at h
  have h2 : (t.map ((fun d => match d with | D.str [x] => D.bl (sg.contains x) | _ => .non) ∘ fun c => .str [c])) = (t.map fun c => sg.contains c).map D.bl := by
    rw [List.map_map]
    rfl
  rw [h2] at h
  rw [c_has_only]
  refine evB_ret ?_
  rw [ret_lc Φ h, List.all_map]
  rfl
theorem cube_is {o : Nat} (ho : ∀ t sg : List Nat, t.length ≤ 1000 → Φ.fn o [.str t, .str sg] = .ok (.bl (t.all fun c => sg.contains c)) [none, none]) (n : Nat) (t : List Nat) (h : isCube n t) (h4 : n ≤ 4) : runF Φ ⟨2, 2, c_is_cube o⟩ [.str t, .int n] = .ok (.bl true) [none, none] := by
  refine runF_ret rfl rfl ?_
  have ol : okLen t.length = true := okLen_of (by rw [h.1]; omega)
  have e1 : Φ.fn o [.str t, .str [45, 48, 49]] = .ok (.bl true) [none, none] := by
    rw [ho t _ (by rw [h.1]; omega)]
    have : (t.all fun c => [45, 48, 49].contains c) = true := by
      rw [List.all_eq_true]
      intro c hc
      have := h.2 c hc
      simp [signs] at this
      simp
      omega
    rw [this]
  have e2 : (t.length : Int) = n := by rw [h.1]
  simp [evB, evS, evE, evO, evT, evD, opd, look, Opd.get, gets, runB, runB1, runB2, runB3, run2, run1, done, Res.bind, Res.out, Out.then, lkAt, imm, item, taken, truth, isFlat, mixed, deq, callD, handed, putBack, wipeE, chg, sub, put, c_is_cube, str_str, ol, e1, e2]
abbrev IsC (Φ : Tb) (i : Nat) : Prop := ∀ n t, isCube n t → n ≤ 4 → Φ.fn i [.str t, .int n] = .ok (.bl true) [none, none]
abbrev Chk (Φ : Tb) (i : Nat) : Prop := ∀ n c d, isCube n c → isCube n d → 1 ≤ n → n ≤ 4 → Φ.fn i [.str c, .str d] = .ok .non [none, none]
theorem check_ok {s o : Nat} (hs : ∀ n : Nat, 1 ≤ n → n ≤ 4 → Φ.fn s [.int n] = .ok (.bl true) [none]) (ho : IsC Φ o) (n : Nat) (t : List Nat) (h : isCube n t) (h1 : 1 ≤ n) (h4 : n ≤ 4) : runF Φ ⟨1, 1, c_check_cube s o⟩ [.str t] = .ok .non [none] := by
  refine runF_nx rfl rfl ?_
  have ol : okLen t.length = true := okLen_of (by rw [h.1]; omega)
  have e1 := hs n h1 h4
  have e2 := ho n t h h4
  have e3 : (t.length : Int) = n := by rw [h.1]
  simp [evB, evS, evE, evO, evT, evD, opd, look, Opd.get, gets, runB, runB1, runB2, runB3, run2, run1, done, Res.bind, Res.out, Out.then, lkAt, imm, item, taken, truth, isFlat, mixed, deq, callD, handed, putBack, wipeE, chg, sub, put, c_check_cube, str_str, ol, e1, e2, e3]
theorem checks_ok {s o : Nat} (hs : ∀ n t, isCube n t → 1 ≤ n → n ≤ 4 → Φ.fn s [.str t] = .ok .non [none]) (ho : IsC Φ o) (n : Nat) (c d : List Nat) (h : isCube n c) (g : isCube n d) (h1 : 1 ≤ n) (h4 : n ≤ 4) : runF Φ ⟨2, 2, c_check_cubes s o⟩ [.str c, .str d] = .ok .non [none, none] := by
  refine runF_nx rfl rfl ?_
  have ol : okLen c.length = true := okLen_of (by rw [h.1]; omega)
  have e1 := hs n c h h1 h4
  have e2 := ho n d g h4
  have e3 : (c.length : Int) = n := by rw [h.1]
  simp [evB, evS, evE, evO, evT, evD, opd, look, Opd.get, gets, runB, runB1, runB2, runB3, run2, run1, done, Res.bind, Res.out, Out.then, lkAt, imm, item, taken, truth, isFlat, mixed, deq, callD, handed, putBack, wipeE, chg, sub, put, c_check_cubes, ol, e1, e2, e3]
def holdsL (c d : List Nat) : Bool := (c.zip d).all fun p => (45 == p.1) || (p.2 == p.1)
def distL (c d : List Nat) : Nat := ((c.zip d).filter fun q => !(q.1 == 45 || q.2 == 45) && !(q.1 == q.2)).length
def ksL (a b : Nat) : Nat := if a == 45 then b else if b == 45 || a == b then a else 45
def kbL (c d : List Nat) : List Nat := (c.zip d).map fun q => ksL q.1 q.2
def spanL (c d : List Nat) : List Nat := (c.zip d).map fun q => if q.1 == q.2 then q.1 else 45
theorem holds_ok {k : Nat} (hk : Chk Φ k) (n : Nat) (c d : List Nat) (h : isCube n c) (g : isCube n d) (h1 : 1 ≤ n) (h4 : n ≤ 4) : runF Φ ⟨2, 4, c_holds k⟩ [.str c, .str d] = .ok (.bl (holdsL c d)) [none, none] := by
  have e1 := hk n c d h g h1 h4
  have o2 : okLen 2 = true := okLen_of (by omega)
  refine runF_ret rfl rfl ⟨[some (.str c), some (.str d), none, none], ?_⟩
  show evB Φ [false, false] (c_holds k) [some (.str c), some (.str d), none, none] = _
  have s1 : evS Φ [false, false] (.expr (.call k (.cons (.slot 0) (.cons (.slot 1) .nil)))) [some (.str c), some (.str d), none, none] = .nx [some (.str c), some (.str d), none, none] := by simp [evB, evS, evE, evO, evT, evD, opd, look, Opd.get, gets, runB, runB1, runB2, runB3, run2, run1, done, Res.bind, Res.out, Out.then, lkAt, imm, item, taken, truth, isFlat, mixed, deq, callD, handed, putBack, wipeE, chg, sub, put, e1]
  have l := lc_zip (Φ := Φ) (elt := .op2 .isin (.slot 2) (.tup (.cons (.lit (.str [45])) (.cons (.slot 3) .nil)))) (c := .yes) c d (fun _ _ => true) (fun a b => .bl ((45 == a) || (b == a))) (by rw [h.1]; omega) (fun _ _ => rfl) (fun x y _ _ _ => by simp [evB, evS, evE, evO, evT, evD, opd, look, Opd.get, gets, runB, runB1, runB2, runB3, run2, run1, done, Res.bind, Res.out, Out.then, lkAt, imm, item, taken, truth, isFlat, mixed, deq, callD, handed, putBack, wipeE, chg, sub, put, o2, imms])
  have h2 : (((c.zip d).filter fun q => true).map fun q => D.bl ((45 == q.1) || (q.2 == q.1))) = ((c.zip d).map fun q => (45 == q.1) || (q.2 == q.1)).map D.bl := by
    rw [List.map_map, filter_true]
    rfl
  rw [h2] at l
  rw [c_holds, evB_nx s1]
  refine evB_ret ?_
  rw [ret_lc Φ l, List.all_map]
  rfl
theorem dist_ok {k : Nat} (hk : Chk Φ k) (n : Nat) (c d : List Nat) (h : isCube n c) (g : isCube n d) (h1 : 1 ≤ n) (h4 : n ≤ 4) : runF Φ ⟨2, 4, c_distance k⟩ [.str c, .str d] = .ok (.int (distL c d)) [none, none] := by
  have e1 := hk n c d h g h1 h4
  have o2 : okLen 2 = true := okLen_of (by omega)
  refine runF_ret rfl rfl ⟨[some (.str c), some (.str d), none, none], ?_⟩
  show evB Φ [false, false] (c_distance k) [some (.str c), some (.str d), none, none] = _
  have s1 : evS Φ [false, false] (.expr (.call k (.cons (.slot 0) (.cons (.slot 1) .nil)))) [some (.str c), some (.str d), none, none] = .nx [some (.str c), some (.str d), none, none] := by simp [evB, evS, evE, evO, evT, evD, opd, look, Opd.get, gets, runB, runB1, runB2, runB3, run2, run1, done, Res.bind, Res.out, Out.then, lkAt, imm, item, taken, truth, isFlat, mixed, deq, callD, handed, putBack, wipeE, chg, sub, put, e1]
  have l := lc_zip (Φ := Φ) (elt := .slot 2) (c := .and (.val (.op2 .notin (.lit (.str [45])) (.tup (.cons (.slot 2) (.cons (.slot 3) .nil))))) (.val (.op2 .ne (.slot 2) (.slot 3)))) c d
    (fun x y => !(x == 45 || y == 45) && !(x == y)) (fun a b => .str [a]) (by rw [h.1]; omega) (fun x y => by
      by_cases p : x = 45
      · simp [evB, evS, evE, evO, evT, evD, opd, look, Opd.get, gets, runB, runB1, runB2, runB3, run2, run1, done, Res.bind, Res.out, Out.then, lkAt, imm, item, taken, truth, isFlat, mixed, deq, callD, handed, putBack, wipeE, chg, sub, put, o2, imms, p]
      · by_cases q : y = 45
        · simp [evB, evS, evE, evO, evT, evD, opd, look, Opd.get, gets, runB, runB1, runB2, runB3, run2, run1, done, Res.bind, Res.out, Out.then, lkAt, imm, item, taken, truth, isFlat, mixed, deq, callD, handed, putBack, wipeE, chg, sub, put, o2, imms, q]
        · by_cases r : x = y
          · subst r
            simp [evB, evS, evE, evO, evT, evD, opd, look, Opd.get, gets, runB, runB1, runB2, runB3, run2, run1, done, Res.bind, Res.out, Out.then, lkAt, imm, item, taken, truth, isFlat, mixed, deq, callD, handed, putBack, wipeE, chg, sub, put, o2, imms, p]
          · simp [evB, evS, evE, evO, evT, evD, opd, look, Opd.get, gets, runB, runB1, runB2, runB3, run2, run1, done, Res.bind, Res.out, Out.then, lkAt, imm, item, taken, truth, isFlat, mixed, deq, callD, handed, putBack, wipeE, chg, sub, put, o2, imms, p, q, r]) (fun x y _ _ _ => rfl)
  rw [c_distance, evB_nx s1]
  refine evB_ret ?_
  rw [ret_len Φ l, List.length_map]
  rfl
theorem ks_ok (a b : Nat) : runF Φ ⟨2, 2, c_known_sign⟩ [.str [a], .str [b]] = .ok (.str [ksL a b]) [none, none] := by
  have o2 : okLen 2 = true := okLen_of (by omega)
  refine runF_ret rfl rfl ?_
  by_cases p : a = 45
  · simp [evB, evS, evE, evO, evT, evD, opd, look, Opd.get, gets, runB, runB1, runB2, runB3, run2, run1, done, Res.bind, Res.out, Out.then, lkAt, imm, item, taken, truth, isFlat, mixed, deq, callD, handed, putBack, wipeE, chg, sub, put, c_known_sign, p, ksL]
  · by_cases q : b = 45
    · simp [evB, evS, evE, evO, evT, evD, opd, look, Opd.get, gets, runB, runB1, runB2, runB3, run2, run1, done, Res.bind, Res.out, Out.then, lkAt, imm, item, taken, truth, isFlat, mixed, deq, callD, handed, putBack, wipeE, chg, sub, put, c_known_sign, p, q, ksL, o2, imms]
    · by_cases r : a = b
      · subst r
        simp [evB, evS, evE, evO, evT, evD, opd, look, Opd.get, gets, runB, runB1, runB2, runB3, run2, run1, done, Res.bind, Res.out, Out.then, lkAt, imm, item, taken, truth, isFlat, mixed, deq, callD, handed, putBack, wipeE, chg, sub, put, c_known_sign, p, ksL, o2, imms]
      · have q' : ¬ 45 = b := fun z => q z.symm
        simp [evB, evS, evE, evO, evT, evD, opd, look, Opd.get, gets, runB, runB1, runB2, runB3, run2, run1, done, Res.bind, Res.out, Out.then, lkAt, imm, item, taken, truth, isFlat, mixed, deq, callD, handed, putBack, wipeE, chg, sub, put, c_known_sign, p, q, q', r, ksL, o2, imms]
/-- the texts of a comprehension's signs are joined -/
theorem ret_join {lk : List Bool} {elt : Ex} {tg : List Nat} {it : It} {c : Tx} {e : Env} {xs : List Nat} (h : evE Φ (.lc elt tg it c) e = .ok (.lst true ((xs.map fun c => [c]).map D.str), e)) (hl : xs.length ≤ 1000) :
    evS Φ lk (.ret (.bcall .join (.cons (.lit (.str [])) (.cons (.lc elt tg it c) .nil)))) e = .ret (.str xs) e := by
  have hz : ((xs.map fun c => [c]).map List.length).sum + (xs.map fun c => [c]).length * ([] : List Nat).length ≤ 16777216 := by
    have : ∀ ys : List Nat, ((ys.map fun c => [c]).map List.length).sum = ys.length := by
      intro ys
      induction ys with
      | nil => rfl
      | cons y ys ih => simp only [List.map_cons, List.sum_cons, ih, List.length_cons, List.length_nil]; omega
    rw [this, List.length_nil, Nat.mul_zero]
    omega
  have hr : runB .join [D.str [], D.lst true ((xs.map fun c => [c]).map D.str)] = some (.str xs) := by
    show (match strsD ((xs.map fun c => [c]).map D.str) with | some ys => if decide ((ys.map List.length).sum + ys.length * ([] : List Nat).length ≤ 16777216) then some (D.str (joinS [] ys)) else none | none => none) = _
    rw [strsD_map]
    simp only [decide_eq_true hz, if_true, joinS_nil]
  rw [evS]
  · have : evE Φ (.bcall .join (.cons (.lit (.str [])) (.cons (.lc elt tg it c) .nil))) e = .ok (.str xs, e) := by
      have ho : evO Φ (.cons (.lit (.str [])) (.cons (.lc elt tg it c) .nil)) e = .ok ([.val (.str []), .val (.lst true ((xs.map fun c => [c]).map D.str))], e) := by
        rw [evO]
        show (evO Φ (.cons (.lc elt tg it c) .nil) e).bind _ = _
        rw [evO, opd_lc, h]
        rfl
      rw [evE, ho]
      show done e (runB .join [D.str [], D.lst true ((xs.map fun c => [c]).map D.str)]) = _
      rw [hr]
      rfl
    rw [this]
    rfl
  · intro i q; cases q
theorem kb_ok {k : Nat} (hk : ∀ a b : Nat, Φ.fn k [.str [a], .str [b]] = .ok (.str [ksL a b]) [none, none]) (c d : List Nat) (hl : c.length ≤ 1000) : runF Φ ⟨2, 4, c_known_to_both k⟩ [.str c, .str d] = .ok (.str (kbL c d)) [none, none] := by
  refine runF_ret rfl rfl ⟨[some (.str c), some (.str d), none, none], ?_⟩
  show evB Φ [false, false] (c_known_to_both k) [some (.str c), some (.str d), none, none] = _
  have l := lc_zip (Φ := Φ) (elt := .call k (.cons (.slot 2) (.cons (.slot 3) .nil))) (c := .yes) c d (fun _ _ => true) (fun a b => .str [ksL a b]) hl (fun _ _ => rfl) (fun x y _ _ _ => by simp [evB, evS, evE, evO, evT, evD, opd, look, Opd.get, gets, runB, runB1, runB2, runB3, run2, run1, done, Res.bind, Res.out, Out.then, lkAt, imm, item, taken, truth, isFlat, mixed, deq, callD, handed, putBack, wipeE, chg, sub, put, hk])
  rw [filter_true] at l
  rw [c_known_to_both]
  refine evB_ret (ret_join Φ ?_ (by rw [kbL, List.length_map, List.length_zip]; omega))
  rw [l, kbL, List.map_map, List.map_map]
  rfl
theorem span_ok {k : Nat} (hk : Chk Φ k) (n : Nat) (c d : List Nat) (h : isCube n c) (g : isCube n d) (h1 : 1 ≤ n) (h4 : n ≤ 4) : runF Φ ⟨2, 4, c_span k⟩ [.str c, .str d] = .ok (.str (spanL c d)) [none, none] := by
  have e1 := hk n c d h g h1 h4
  refine runF_ret rfl rfl ⟨[some (.str c), some (.str d), none, none], ?_⟩
  show evB Φ [false, false] (c_span k) [some (.str c), some (.str d), none, none] = _
  have s1 : evS Φ [false, false] (.expr (.call k (.cons (.slot 0) (.cons (.slot 1) .nil)))) [some (.str c), some (.str d), none, none] = .nx [some (.str c), some (.str d), none, none] := by simp [evB, evS, evE, evO, evT, evD, opd, look, Opd.get, gets, runB, runB1, runB2, runB3, run2, run1, done, Res.bind, Res.out, Out.then, lkAt, imm, item, taken, truth, isFlat, mixed, deq, callD, handed, putBack, wipeE, chg, sub, put, e1]
  have l := lc_zip (Φ := Φ) (elt := .ife (.val (.op2 .eq (.slot 2) (.slot 3))) (.slot 2) (.lit (.str [45]))) (c := .yes) c d (fun _ _ => true) (fun a b => .str [if a == b then a else 45]) (by rw [h.1]; omega) (fun _ _ => rfl) (fun x y _ _ _ => by
    by_cases r : x = y
    · subst r
      simp [evB, evS, evE, evO, evT, evD, opd, look, Opd.get, gets, runB, runB1, runB2, runB3, run2, run1, done, Res.bind, Res.out, Out.then, lkAt, imm, item, taken, truth, isFlat, mixed, deq, callD, handed, putBack, wipeE, chg, sub, put]
    · simp [evB, evS, evE, evO, evT, evD, opd, look, Opd.get, gets, runB, runB1, runB2, runB3, run2, run1, done, Res.bind, Res.out, Out.then, lkAt, imm, item, taken, truth, isFlat, mixed, deq, callD, handed, putBack, wipeE, chg, sub, put, r])
  rw [filter_true] at l
  rw [c_span, evB_nx s1]
  refine evB_ret (ret_join Φ ?_ (by rw [spanL, List.length_map, List.length_zip, h.1]; omega))
  rw [l, spanL, List.map_map, List.map_map]
  rfl
def meetD (c d : List Nat) : D := if distL c d = 0 then .str (kbL c d) else .non
def consD (c d : List Nat) : D := if distL c d = 1 then .str (kbL c d) else .non
abbrev DistF (Φ : Tb) (i : Nat) : Prop := ∀ n c d, isCube n c → isCube n d → 1 ≤ n → n ≤ 4 → Φ.fn i [.str c, .str d] = .ok (.int (distL c d)) [none, none]
abbrev KbF (Φ : Tb) (i : Nat) : Prop := ∀ c d : List Nat, c.length ≤ 1000 → Φ.fn i [.str c, .str d] = .ok (.str (kbL c d)) [none, none]
theorem meet_ok {s o : Nat} (hs : DistF Φ s) (ho : KbF Φ o) (n : Nat) (c d : List Nat) (h : isCube n c) (g : isCube n d) (h1 : 1 ≤ n) (h4 : n ≤ 4) : runF Φ ⟨2, 2, c_meet s o⟩ [.str c, .str d] = .ok (meetD c d) [none, none] := by
  refine runF_ret rfl rfl ?_
  have e1 := hs n c d h g h1 h4
  have e2 := ho c d (by rw [h.1]; omega)
  by_cases q : distL c d = 0
  · have e3 : meetD c d = .str (kbL c d) := if_pos q
    have e4 : ((distL c d : Nat) : Int) = 0 := by omega
    simp [evB, evS, evE, evO, evT, evD, opd, look, Opd.get, gets, runB, runB1, runB2, runB3, run2, run1, done, Res.bind, Res.out, Out.then, lkAt, imm, item, taken, truth, isFlat, mixed, deq, callD, handed, putBack, wipeE, chg, sub, put, c_meet, e1, e2, e3, e4, q]
  · have e3 : meetD c d = .non := if_neg q
    have e4 : ¬ ((distL c d : Nat) : Int) = 0 := by omega
    simp [evB, evS, evE, evO, evT, evD, opd, look, Opd.get, gets, runB, runB1, runB2, runB3, run2, run1, done, Res.bind, Res.out, Out.then, lkAt, imm, item, taken, truth, isFlat, mixed, deq, callD, handed, putBack, wipeE, chg, sub, put, c_meet, e1, e2, e3, e4, q]
theorem cons_ok {s o : Nat} (hs : DistF Φ s) (ho : KbF Φ o) (n : Nat) (c d : List Nat) (h : isCube n c) (g : isCube n d) (h1 : 1 ≤ n) (h4 : n ≤ 4) : runF Φ ⟨2, 2, c_consensus s o⟩ [.str c, .str d] = .ok (consD c d) [none, none] := by
  refine runF_ret rfl rfl ?_
  have e1 := hs n c d h g h1 h4
  have e2 := ho c d (by rw [h.1]; omega)
  by_cases q : distL c d = 1
  · have e3 : consD c d = .str (kbL c d) := if_pos q
    have e4 : ((distL c d : Nat) : Int) = 1 := by omega
    simp [evB, evS, evE, evO, evT, evD, opd, look, Opd.get, gets, runB, runB1, runB2, runB3, run2, run1, done, Res.bind, Res.out, Out.then, lkAt, imm, item, taken, truth, isFlat, mixed, deq, callD, handed, putBack, wipeE, chg, sub, put, c_consensus, e1, e2, e3, e4, q]
  · have e3 : consD c d = .non := if_neg q
    have e4 : ¬ ((distL c d : Nat) : Int) = 1 := by omega
    simp [evB, evS, evE, evO, evT, evD, opd, look, Opd.get, gets, runB, runB1, runB2, runB3, run2, run1, done, Res.bind, Res.out, Out.then, lkAt, imm, item, taken, truth, isFlat, mixed, deq, callD, handed, putBack, wipeE, chg, sub, put, c_consensus, e1, e2, e3, e4, q]
end
end DL

namespace DL
open PySem
/-! ### steps of a law's body, over any table of defs -/
section
variable {Φ : Tb} {e : Env} {ea eb ec X : Ex}
theorem handed_imm : ∀ {os : List Opd} {ds : List D}, gets e os = some ds → imms ds = true → handed e os = some []
  | [], _, _, _ => rfl
  | .val d :: os, ds, h, m => by
    rw [gets] at h
    cases h1 : (Opd.val d).get e with
    | none => simp [h1] at h
    | some x =>
      cases h2 : gets e os with
      | none => simp [h1, h2] at h
      | some y =>
        simp only [h1, h2] at h
        cases h
        rw [imms, Bool.and_eq_true] at m
        rw [handed]
        exact handed_imm h2 m.2
  | .ref i :: os, ds, h, m => by
    rw [gets] at h
    cases h1 : (Opd.ref i).get e with
    | none => simp [h1] at h
    | some x =>
      cases h2 : gets e os with
      | none => simp [h1, h2] at h
      | some y =>
        simp only [h1, h2] at h
        cases h
        rw [imms, Bool.and_eq_true] at m
        have h3 : look e i = some x := h1
        rw [handed, h3, handed_imm h2 m.2]
        simp [m.1]
theorem back_imm : ∀ {os : List Opd} {ds : List D}, gets e os = some ds → imms ds = true → putBack os (ds.map fun _ => none) e = e
  | [], ds, h, _ => by cases ds <;> first | rfl | (simp [gets] at h)
  | o :: os, ds, h, m => by
    rw [gets] at h
    cases h1 : o.get e with
    | none => simp [h1] at h
    | some x =>
      cases h2 : gets e os with
      | none => simp [h1, h2] at h
      | some y =>
        simp only [h1, h2] at h
        cases h
        rw [imms, Bool.and_eq_true] at m
        rw [List.map_cons]
        cases o <;> exact back_imm h2 m.2
/-- a call of values that nobody owns -/
theorem callg {f : Nat} {es : Exs} {os : List Opd} {ds : List D} {r : D} (ho : evO Φ es e = .ok (os, e)) (hg : gets e os = some ds) (hm : imms ds = true) (hf : Φ.fn f ds = .ok r (ds.map fun _ => none)) : evE Φ (.call f es) e = .ok (r, e) := by
  rw [evE, ho]
  show callD Φ.fn f os e = _
  unfold callD
  rw [handed_imm hg hm, hg]
  simp only [hf]
  show Res.ok (r, putBack os (ds.map fun _ => none) e) = _
  rw [back_imm hg hm]
theorem evO_cons {es : Exs} {o : Opd} {os : List Opd} (h : opd X e (evE Φ X e) = .ok (o, e)) (h2 : evO Φ es e = .ok (os, e)) : evO Φ (.cons X es) e = .ok (o :: os, e) := by
  rw [evO, h]
  show (evO Φ es e).bind _ = _
  rw [h2]
  rfl
theorem idx_slot {s : Nat} {d i v : D} (hs : look e s = some d) (ha : opd X e (evE Φ X e) = .ok (.val i, e)) (hi : item d i = some v) (hm : imm v = true) : evE Φ (.idx (.slot s) X) e = .ok (v, e) := by
  have h0 : opd (.slot s) e (evE Φ (.slot s) e) = .ok (.ref s, e) := by simp [opd, hs]
  rw [evE, h0]
  simp only [Res.bind, ha]
  have h1 : Opd.get e (.ref s) = some d := hs
  have h2 : Opd.get e (.val i) = some i := rfl
  rw [h1, h2]
  simp only [hi, taken, hm, if_true]
theorem opd_slot {s : Nat} {d : D} (hs : look e s = some d) : opd (.slot s) e (evE Φ (.slot s) e) = .ok (.ref s, e) := by simp [opd, hs]
theorem opd_call {f : Nat} {xs : Exs} {d : D} (h : evE Φ (.call f xs) e = .ok (d, e)) : opd (.call f xs) e (evE Φ (.call f xs) e) = .ok (.val d, e) := by rw [h]; rfl
theorem opd_bc {b : BF} {xs : Exs} {d : D} (h : evE Φ (.bcall b xs) e = .ok (d, e)) : opd (.bcall b xs) e (evE Φ (.bcall b xs) e) = .ok (.val d, e) := by rw [h]; rfl
theorem opd_op2 {op : B2} {d : D} (h : evE Φ (.op2 op ea eb) e = .ok (d, e)) : opd (.op2 op ea eb) e (evE Φ (.op2 op ea eb) e) = .ok (.val d, e) := by rw [h]; rfl
theorem opd_idx {d : D} (h : evE Φ (.idx ea eb) e = .ok (d, e)) : opd (.idx ea eb) e (evE Φ (.idx ea eb) e) = .ok (.val d, e) := by rw [h]; rfl
theorem opd_lcv {elt : Ex} {tg : List Nat} {it : It} {c : Tx} {d : D} (h : evE Φ (.lc elt tg it c) e = .ok (d, e)) : opd (.lc elt tg it c) e (evE Φ (.lc elt tg it c) e) = .ok (.val d, e) := by rw [h]; rfl
theorem set_ok {lk : List Bool} {i : Nat} {a : Ex} {d : D} (hl : lkAt lk i = false) (h : evE Φ a e = .ok (d, e)) : evS Φ lk (.set i a) e = .nx (e.set i (some d)) := by rw [evS, hl, h]; rfl
theorem bc1 {b : BF} {o : Opd} {d r : D} (ho : opd X e (evE Φ X e) = .ok (o, e)) (g : o.get e = some d) (hr : runB b [d] = some r) : evE Φ (.bcall b (.cons X .nil)) e = .ok (r, e) := by
  rw [evE, evO, ho]
  have hg : gets e [o] = some [d] := by simp [gets, g]
  show (match gets e [o] with | some ds => done e (runB b ds) | none => .bad) = _
  rw [hg]
  show done e (runB b [d]) = _
  rw [hr]
  rfl
theorem op2g {op : B2} {o1 o2 : Opd} {d1 d2 r : D} (ha : opd ea e (evE Φ ea e) = .ok (o1, e)) (hb : opd eb e (evE Φ eb e) = .ok (o2, e)) (g1 : o1.get e = some d1) (g2 : o2.get e = some d2) (hr : run2 op d1 d2 = some r) : evE Φ (.op2 op ea eb) e = .ok (r, e) := by
  rw [evE, ha]
  show (opd eb e (evE Φ eb e)).bind _ = _
  rw [hb]
  show (match o1.get e, o2.get e with | some d1, some d2 => done e (run2 op d1 d2) | _, _ => .bad) = _
  rw [g1, g2]
  show done e (run2 op d1 d2) = _
  rw [hr]
  rfl
theorem valg {o : Opd} {d : D} {b : Bool} (ho : opd X e (evE Φ X e) = .ok (o, e)) (g : o.get e = some d) (ht : truth d = some b) : evT Φ (.val X) e = .ok (b, e) := by
  rw [evT, ho]
  show (match (o.get e).bind truth with | some b => Res.ok (b, e) | none => .bad) = _
  rw [g, Option.bind_some, ht]
/-- an if whose test is known -/
theorem iff_ok {lk : List Bool} {c : Tx} {a b : Ss} {v : Bool} (h : evT Φ c e = .ok (v, e)) : evS Φ lk (.iff c a b) e = if v then evB Φ lk a e else evB Φ lk b e := by
  rw [evS, h]
  rfl
theorem iff_no {lk : List Bool} {c : Tx} {a : Ss} (h : evT Φ c e = .ok (false, e)) : evS Φ lk (.iff c a .nil) e = .nx e := by
  rw [iff_ok h]
  rfl
theorem or_no {a b : Tx} (h1 : evT Φ a e = .ok (false, e)) (h2 : evT Φ b e = .ok (false, e)) : evT Φ (.or a b) e = .ok (false, e) := by
  rw [evT, h1]
  exact h2
theorem not_of {a : Tx} {v : Bool} (h1 : evT Φ a e = .ok (v, e)) : evT Φ (.not a) e = .ok (!v, e) := by
  rw [evT, h1]
  rfl
theorem and_of {a b : Tx} {v w : Bool} (h1 : evT Φ a e = .ok (v, e)) (h2 : evT Φ b e = .ok (w, e)) : evT Φ (.and a b) e = .ok (v && w, e) := by
  rw [evT, h1]
  cases v with
  | false => rfl
  | true => exact h2
/-- the number at place m * k + c of the drawn numbers -/
def XI (w s : Nat) (m c : Int) : Ex := .idx (.slot w) (.op2 .add (.op2 .mul (.lit (.int m)) (.slot s)) (.lit (.int c)))
theorem item_ints {xs : List Int} {i : Nat} {v : Int} (h : xs[i]? = some v) : item (.lst true (xs.map .int)) (.int (i : Int)) = some (.int v) := by
  have hl : i < xs.length := by
    rw [List.getElem?_eq_some_iff] at h
    exact h.1
  have hp : place (xs.map D.int).length (i : Int) = some i := place_nat (by rw [List.length_map]; exact hl)
  simp only [item, hp, Option.bind_some, List.getElem?_map, h, Option.map_some]
theorem XI_ok {w s : Nat} {m c k : Nat} {xs : List Int} {v : Int} (h1 : look e w = some (.lst true (xs.map .int))) (h2 : look e s = some (.int k)) (hm : m < 1000) (h3 : xs[m * k + c]? = some v) : evE Φ (XI w s m c) e = .ok (.int v, e) := by
  have sm : smallI (m : Int) = true := smI (by omega) (by omega)
  have q1 : run2 .mul (.int (m : Int)) (.int (k : Int)) = some (.int ((m * k : Nat) : Int)) := by
    show (if smallI (m : Int) || smallI (k : Int) then some (D.int ((m : Int) * (k : Int))) else none) = _
    rw [sm]
    simp
  refine idx_slot (i := .int ((m * k + c : Nat) : Int)) h1 (opd_op2 (op2g (o2 := .val (.int c)) (opd_op2 (op2g (o1 := .val (.int m)) (o2 := .ref s) rfl (opd_slot h2) rfl h2 q1)) rfl rfl rfl ?_)) (item_ints h3) rfl
  show some (D.int (((m * k : Nat) : Int) + (c : Int))) = _
  simp
theorem XI_opd {w s : Nat} {m c k : Nat} {xs : List Int} {v : Int} (h1 : look e w = some (.lst true (xs.map .int))) (h2 : look e s = some (.int k)) (hm : m < 1000) (h3 : xs[m * k + c]? = some v) : opd (XI w s m c) e (evE Φ (XI w s m c) e) = .ok (.val (.int v), e) := by
  rw [XI_ok h1 h2 hm h3]
  rfl
theorem opd_XI {w s : Nat} {m c : Int} {r : Res (D × Env)} : opd (XI w s m c) e r = r.bind fun p => .ok (.val p.1, p.2) := rfl
/-- 1 + int(rows[0]) % 4 -/
def nE : Ex := .op2 .add (.lit (.int 1)) (.op2 .mod (.bcall .int1 (.cons (.idx (.slot 1) (.lit (.int 0))) .nil)) (.lit (.int 4)))
theorem mod_ok {v m : Int} (hm : 0 < m) (ho : opd X e (evE Φ X e) = .ok (.val (.int v), e)) : evE Φ (.op2 .mod (.bcall .int1 (.cons X .nil)) (.lit (.int m))) e = .ok (.int (v % m), e) :=
  op2g (o2 := .val (.int m)) (opd_bc (bc1 (r := .int v) ho rfl rfl)) rfl rfl rfl (by
    show (if decide (0 < m) then some (D.int (v % m)) else none) = _
    rw [decide_eq_true hm]; rfl)
theorem nE_ok {xs : List Int} {x0 : Int} (h1 : look e 1 = some (.lst true (xs.map .int))) (w0 : xs[0]? = some x0) : evE Φ nE e = .ok (.int (1 + x0 % 4), e) :=
  op2g (o1 := .val (.int 1)) rfl (opd_op2 (mod_ok (by decide) (opd_idx (idx_slot (i := .int 0) h1 rfl (item_ints (i := 0) w0) rfl)))) rfl rfl rfl
end
/-- the law's first two rows: the drawn numbers, and how many inputs -/
theorem start_ok {Φ : Tb} {ns : List Int} {m f : Nat} {lk : List Bool} (hk1 : lkAt lk 1 = false) (hk2 : lkAt lk 2 = false) (hd : ∃ xs : List Int, xs.length = m ∧ Φ.fn f [.scr ns, .int m] = .ok (.lst true (xs.map .int)) [none, none]) (hm : 0 < m) (rest : Env) (s1 s2 : Option D) :
    ∃ (xs : List Int) (n : Nat), xs.length = m ∧ 1 ≤ n ∧ n ≤ 4 ∧ ∀ b : Ss, evB Φ lk (.cons (.set 1 (.call f (.cons (.slot 0) (.cons (.lit (.int m)) .nil)))) (.cons (.set 2 nE) b)) (some (.scr ns) :: s1 :: s2 :: rest) = evB Φ lk b (some (.scr ns) :: some (.lst true (xs.map .int)) :: some (.int n) :: rest) := by
  obtain ⟨xs, hx, hf⟩ := hd
  obtain ⟨x0, w0⟩ : ∃ v, xs[0]? = some v := ⟨xs[0]'(by omega), by simp [hx, hm]⟩
  obtain ⟨n, en⟩ : ∃ n : Nat, (n : Int) = 1 + x0 % 4 := ⟨(1 + x0 % 4).toNat, by omega⟩
  refine ⟨xs, n, hx, by omega, by omega, fun b => ?_⟩
  have c1 : evE Φ (.call f (.cons (.slot 0) (.cons (.lit (.int m)) .nil))) (some (.scr ns) :: s1 :: s2 :: rest) = .ok (.lst true (xs.map .int), some (.scr ns) :: s1 :: s2 :: rest) :=
    callg (os := [.ref 0, .val (.int m)]) (evO_cons (opd_slot rfl) (evO_cons rfl rfl)) rfl rfl hf
  rw [evB_nx (e' := some (.scr ns) :: some (.lst true (xs.map .int)) :: s2 :: rest) (set_ok hk1 c1)]
  have c2 := nE_ok (Φ := Φ) (e := some (.scr ns) :: some (.lst true (xs.map .int)) :: s2 :: rest) rfl w0
  rw [← en] at c2
  rw [evB_nx (e' := some (.scr ns) :: some (.lst true (xs.map .int)) :: some (.int n) :: rest) (set_ok hk2 c2)]
/-- a comprehension that keeps some texts of a list -/
theorem lc_strs {Φ : Tb} {i : Nat} {it : It} {c : Tx} {e e0 : Env} (xs : List (List Nat)) (p : List Nat → Bool) (hi : ∀ has, evI Φ has it e = .ok ⟨toD xs, e, none⟩) (hm : immAt e [i] = true) (hw : wipeE e [i] = e0) (hb : backE e e0 [i] = e)
    (step : ∀ x, x ∈ xs → evT Φ c (e0.set i (some (.str x))) = .ok (p x, e0.set i (some (.str x)))) (hl : xs.length ≤ 1000000) (hs : ∀ x : D, look (e0.set i (some x)) i = some x) (hu : ∀ x : D, wipeE (e0.set i (some x)) [i] = e0) :
    evE Φ (.lc (.slot i) [i] it c) e = .ok (.lst true (toD (xs.filter p)), e) := by
  have h := lc_ok (Φ := Φ) (elt := .slot i) (tg := [i]) (it := it) (c := c) (e := e) (e0 := e0) (ds := toD xs) (fun d => match d with | .str x => p x | _ => true) (fun d => d) hi hm hw hb (by
    intro x hx
    obtain ⟨u, hu', rfl⟩ := List.mem_map.mp hx
    refine ⟨_, _, rfl, step u hu', ?_⟩
    cases q : p u with
    | false => exact .inl ⟨q, hu _⟩
    | true => exact .inr ⟨q, _, by rw [evE, hs]; rfl, hu _⟩) (by rw [toD, List.length_map]; exact hl)
  rw [h, toD, List.filter_map, List.map_map]
  rfl
theorem shps_strs : ∀ {n : Nat} {xs : List (List Nat)}, (∀ x ∈ xs, ∀ c ∈ x, c < 1114112) → shps n (toD xs) = true
  | _, [], _ => rfl
  | n, x :: xs, h => by
    show (shp n (.str x) && shps n (toD xs)) = true
    rw [shps_strs fun y hy => h y (List.mem_cons_of_mem _ hy)]
    have : shp n (.str x) = x.all fun c => decide (c < 0x110000) := by rw [shp]
    rw [this, Bool.and_true, List.all_eq_true]
    exact fun c hc => decide_eq_true (h x List.mem_cons_self c hc)
theorem deqs_strs : ∀ xs ys : List (List Nat), deqs (toD xs) (toD ys) = (xs == ys)
  | [], [] => rfl
  | [], _ :: _ => rfl
  | _ :: _, [] => rfl
  | x :: xs, y :: ys => by
    show (deq (.str x) (.str y) && deqs (toD xs) (toD ys)) = _
    rw [deqs_strs xs ys]
    rfl
theorem eq_strs {o o' : Bool} {xs ys : List (List Nat)} (h1 : ∀ x ∈ xs, ∀ c ∈ x, c < 1114112) (h2 : ∀ x ∈ ys, ∀ c ∈ x, c < 1114112) : run2 .eq (.lst o (toD xs)) (.lst o' (toD ys)) = some (.bl (xs == ys)) := by
  have e1 : shp 60 (.lst o (toD xs)) = true := by
    rw [shp, shps_strs h1]
    rfl
  have e2 : shp 60 (.lst o' (toD ys)) = true := by
    rw [shp, shps_strs h2]
    rfl
  have e3 : deq (.lst o (toD xs)) (.lst o' (toD ys)) = (xs == ys) := by
    rw [deq, deqs_strs]
  rw [run2, e1, e2, e3]
  simp
theorem stringsL_sg (sg : List Nat) : ∀ n r, r ∈ stringsL sg n → ∀ c ∈ r, c ∈ sg
  | 0, r, h, c, hc => by rw [List.mem_singleton.mp h] at hc; cases hc
  | n + 1, r, h, c, hc => by
    rw [stringsL, List.mem_flatMap] at h
    obtain ⟨a, ha, hr⟩ := h
    obtain ⟨d, hd, rfl⟩ := List.mem_map.mp hr
    rcases List.mem_append.mp hc with q | q
    · exact stringsL_sg sg n a ha c q
    · rw [List.mem_singleton.mp q]; exact hd
theorem any_strs (x : List Nat) : ∀ xs : List (List Nat), ((toD xs).any fun y => deq y (.str x)) = xs.contains x
  | [] => rfl
  | y :: xs => by
    show (deq (.str y) (.str x) || (toD xs).any fun y => deq y (.str x)) = _
    rw [any_strs x xs, List.contains_cons]
    show ((y == x) || _) = ((x == y) || _)
    rw [Bool.beq_comm]
theorem flat_strs : ∀ xs : List (List Nat), (toD xs).all isFlat = true
  | [] => rfl
  | x :: xs => by
    show (isFlat (.str x) && (toD xs).all isFlat) = true
    rw [flat_strs xs]
    rfl
abbrev CubeF (Φ : Tb) (i : Nat) : Prop := ∀ (num : Int) (n : Nat), n ≤ 1000 → ∃ t, isCube n t ∧ Φ.fn i [.int num, .int n] = .ok (.str t) [none, none]
abbrev StrF (Φ : Tb) (i : Nat) : Prop := ∀ (n : Nat) (sg : List Nat), n ≤ 4 → sg.length ≤ 3 → ∃ o, Φ.fn i [.int n, .str sg] = .ok (.lst o (toD (stringsL sg n))) [none, none]
abbrev InF (Φ : Tb) (i : Nat) : Prop := ∀ a b : List Nat, b.length = a.length → a.length ≤ 1000 → Φ.fn i [.str a, .str b] = .ok (.bl (inL a b)) [none, none]
abbrev DrawF (Φ : Tb) (i m : Nat) : Prop := ∀ ns : List Int, ns.length ≤ 63 → ∃ xs : List Int, xs.length = m ∧ Φ.fn i [.scr ns, .int m] = .ok (.lst true (xs.map .int)) [none, none]
end DL

namespace DL
open PySem
def c_q_is_cube : Ss := (Ss.cons (Sx.iff (Tx.or (Tx.not (Tx.val (Ex.bcall (BF.isinst "str") (Exs.cons (Ex.slot 0) (Exs.nil))))) (Tx.val (Ex.op2 (B2.ne) (Ex.bcall (BF.len) (Exs.cons (Ex.slot 0) (Exs.nil))) (Ex.slot 1)))) (Ss.cons (Sx.ret (Ex.lit (D.bl false))) (Ss.nil)) (Ss.nil)) (Ss.cons (Sx.for [2] (It.seq (Ex.slot 0)) (Ss.cons (Sx.iff (Tx.val (Ex.op2 (B2.notin) (Ex.slot 2) (Ex.lit (D.str [48, 49, 45])))) (Ss.cons (Sx.ret (Ex.lit (D.bl false))) (Ss.nil)) (Ss.nil)) (Ss.nil))) (Ss.cons (Sx.ret (Ex.lit (D.bl true))) (Ss.nil))))
def c_q_meets_well (f_q_strings : Nat) (f_q_in : Nat) (f_q_is_cube : Nat) : Ss := (Ss.cons (Sx.set 3 (Ex.bcall (BF.len) (Exs.cons (Ex.slot 0) (Exs.nil)))) (Ss.cons (Sx.set 4 (Ex.lc (Ex.slot 5) [5] (It.seq (Ex.call f_q_strings (Exs.cons (Ex.slot 3) (Exs.cons (Ex.lit (D.str [48, 49])) (Exs.nil))))) (Tx.and (Tx.val (Ex.call f_q_in (Exs.cons (Ex.slot 0) (Exs.cons (Ex.slot 5) (Exs.nil))))) (Tx.val (Ex.call f_q_in (Exs.cons (Ex.slot 1) (Exs.cons (Ex.slot 5) (Exs.nil)))))))) (Ss.cons (Sx.iff (Tx.val (Ex.op2 (B2.eq) (Ex.bcall (BF.len) (Exs.cons (Ex.slot 4) (Exs.nil))) (Ex.lit (D.int 0)))) (Ss.cons (Sx.ret (Ex.op2 (B2.is) (Ex.slot 2) (Ex.lit (D.non)))) (Ss.nil)) (Ss.nil)) (Ss.cons (Sx.iff (Tx.not (Tx.val (Ex.call f_q_is_cube (Exs.cons (Ex.slot 2) (Exs.cons (Ex.slot 3) (Exs.nil)))))) (Ss.cons (Sx.ret (Ex.lit (D.bl false))) (Ss.nil)) (Ss.nil)) (Ss.cons (Sx.ret (Ex.op2 (B2.eq) (Ex.lc (Ex.slot 5) [5] (It.seq (Ex.call f_q_strings (Exs.cons (Ex.slot 3) (Exs.cons (Ex.lit (D.str [48, 49])) (Exs.nil))))) (Tx.val (Ex.call f_q_in (Exs.cons (Ex.slot 2) (Exs.cons (Ex.slot 5) (Exs.nil)))))) (Ex.slot 4))) (Ss.nil))))))
def c_q_by_points (f_q_strings : Nat) (f_q_in : Nat) : Ss := (Ss.cons (Sx.for [2] (It.seq (Ex.call f_q_strings (Exs.cons (Ex.bcall (BF.len) (Exs.cons (Ex.slot 0) (Exs.nil))) (Exs.cons (Ex.lit (D.str [48, 49])) (Exs.nil))))) (Ss.cons (Sx.iff (Tx.and (Tx.val (Ex.call f_q_in (Exs.cons (Ex.slot 1) (Exs.cons (Ex.slot 2) (Exs.nil))))) (Tx.not (Tx.val (Ex.call f_q_in (Exs.cons (Ex.slot 0) (Exs.cons (Ex.slot 2) (Exs.nil))))))) (Ss.cons (Sx.ret (Ex.lit (D.bl false))) (Ss.nil)) (Ss.nil)) (Ss.nil))) (Ss.cons (Sx.ret (Ex.lit (D.bl true))) (Ss.nil)))
def c_q_near : Ss := (Ss.cons (Sx.set 3 (Ex.lit (D.str []))) (Ss.cons (Sx.for [4] (It.rng (Ex.lit (D.int 0)) (Ex.bcall (BF.len) (Exs.cons (Ex.slot 0) (Exs.nil)))) (Ss.cons (Sx.iff (Tx.and (Tx.val (Ex.op2 (B2.eq) (Ex.slot 4) (Ex.slot 2))) (Tx.val (Ex.op2 (B2.ne) (Ex.idx (Ex.slot 0) (Ex.slot 4)) (Ex.lit (D.str [45]))))) (Ss.cons (Sx.set 3 (Ex.op2 (B2.add) (Ex.slot 3) (Ex.idx (Ex.lit (D.str [49, 48])) (Ex.bcall (BF.int1) (Exs.cons (Ex.idx (Ex.slot 0) (Ex.slot 4)) (Exs.nil)))))) (Ss.nil)) (Ss.cons (Sx.iff (Tx.val (Ex.op2 (B2.eq) (Ex.idx (Ex.slot 0) (Ex.slot 4)) (Ex.lit (D.str [45])))) (Ss.cons (Sx.set 3 (Ex.op2 (B2.add) (Ex.slot 3) (Ex.idx (Ex.slot 1) (Ex.slot 4)))) (Ss.nil)) (Ss.cons (Sx.iff (Tx.val (Ex.op2 (B2.eq) (Ex.idx (Ex.slot 1) (Ex.slot 4)) (Ex.lit (D.str [45])))) (Ss.cons (Sx.set 3 (Ex.op2 (B2.add) (Ex.slot 3) (Ex.lit (D.str [45])))) (Ss.nil)) (Ss.cons (Sx.set 3 (Ex.op2 (B2.add) (Ex.slot 3) (Ex.idx (Ex.slot 0) (Ex.slot 4)))) (Ss.nil))) (Ss.nil))) (Ss.nil))) (Ss.nil))) (Ss.cons (Sx.ret (Ex.slot 3)) (Ss.nil))))
def c_q_in_both (f_q_strings : Nat) (f_q_in : Nat) : Ss := (Ss.cons (Sx.for [3] (It.seq (Ex.call f_q_strings (Exs.cons (Ex.bcall (BF.len) (Exs.cons (Ex.slot 0) (Exs.nil))) (Exs.cons (Ex.lit (D.str [48, 49])) (Exs.nil))))) (Ss.cons (Sx.iff (Tx.and (Tx.val (Ex.call f_q_in (Exs.cons (Ex.slot 2) (Exs.cons (Ex.slot 3) (Exs.nil))))) (Tx.and (Tx.not (Tx.val (Ex.call f_q_in (Exs.cons (Ex.slot 0) (Exs.cons (Ex.slot 3) (Exs.nil)))))) (Tx.not (Tx.val (Ex.call f_q_in (Exs.cons (Ex.slot 1) (Exs.cons (Ex.slot 3) (Exs.nil)))))))) (Ss.cons (Sx.ret (Ex.lit (D.bl false))) (Ss.nil)) (Ss.nil)) (Ss.nil))) (Ss.cons (Sx.ret (Ex.lit (D.bl true))) (Ss.nil)))
def c_q_right (f_q_strings : Nat) (f_q_in_both : Nat) (f_q_in : Nat) : Ss := (Ss.cons (Sx.set 3 (Ex.bcall (BF.len) (Exs.cons (Ex.slot 0) (Exs.nil)))) (Ss.cons (Sx.set 4 (Ex.call f_q_strings (Exs.cons (Ex.slot 3) (Exs.cons (Ex.lit (D.str [45, 48, 49])) (Exs.nil))))) (Ss.cons (Sx.set 5 (Ex.bcall (BF.len) (Exs.cons (Ex.lc (Ex.slot 6) [6] (It.rng (Ex.lit (D.int 0)) (Ex.slot 3)) (Tx.val (Ex.op2 (B2.isin) (Ex.op2 (B2.add) (Ex.idx (Ex.slot 0) (Ex.slot 6)) (Ex.idx (Ex.slot 1) (Ex.slot 6))) (Ex.lst (Exs.cons (Ex.lit (D.str [48, 49])) (Exs.cons (Ex.lit (D.str [49, 48])) (Exs.nil))))))) (Exs.nil)))) (Ss.cons (Sx.iff (Tx.val (Ex.op2 (B2.ne) (Ex.slot 5) (Ex.lit (D.int 1)))) (Ss.cons (Sx.ret (Ex.op2 (B2.is) (Ex.slot 2) (Ex.lit (D.non)))) (Ss.nil)) (Ss.nil)) (Ss.cons (Sx.iff (Tx.or (Tx.not (Tx.val (Ex.bcall (BF.isinst "str") (Exs.cons (Ex.slot 2) (Exs.nil))))) (Tx.or (Tx.val (Ex.op2 (B2.notin) (Ex.slot 2) (Ex.slot 4))) (Tx.not (Tx.val (Ex.call f_q_in_both (Exs.cons (Ex.slot 0) (Exs.cons (Ex.slot 1) (Exs.cons (Ex.slot 2) (Exs.nil))))))))) (Ss.cons (Sx.ret (Ex.lit (D.bl false))) (Ss.nil)) (Ss.nil)) (Ss.cons (Sx.for [7] (It.seq (Ex.slot 4)) (Ss.cons (Sx.iff (Tx.val (Ex.call f_q_in_both (Exs.cons (Ex.slot 0) (Exs.cons (Ex.slot 1) (Exs.cons (Ex.slot 7) (Exs.nil)))))) (Ss.cons (Sx.iff (Tx.and (Tx.not (Tx.val (Ex.call f_q_in (Exs.cons (Ex.slot 0) (Exs.cons (Ex.slot 7) (Exs.nil)))))) (Tx.and (Tx.not (Tx.val (Ex.call f_q_in (Exs.cons (Ex.slot 1) (Exs.cons (Ex.slot 7) (Exs.nil)))))) (Tx.not (Tx.val (Ex.call f_q_in (Exs.cons (Ex.slot 2) (Exs.cons (Ex.slot 7) (Exs.nil)))))))) (Ss.cons (Sx.ret (Ex.lit (D.bl false))) (Ss.nil)) (Ss.nil)) (Ss.nil)) (Ss.nil)) (Ss.nil))) (Ss.cons (Sx.ret (Ex.lit (D.bl true))) (Ss.nil))))))))
def c_q_inner : Ss := (Ss.cons (Sx.set 2 (Ex.lit (D.str []))) (Ss.cons (Sx.for [3] (It.rng (Ex.lit (D.int 0)) (Ex.bcall (BF.len) (Exs.cons (Ex.slot 0) (Exs.nil)))) (Ss.cons (Sx.iff (Tx.val (Ex.op2 (B2.eq) (Ex.idx (Ex.slot 0) (Ex.slot 3)) (Ex.lit (D.str [45])))) (Ss.cons (Sx.set 2 (Ex.op2 (B2.add) (Ex.slot 2) (Ex.idx (Ex.slot 1) (Ex.slot 3)))) (Ss.nil)) (Ss.cons (Sx.set 2 (Ex.op2 (B2.add) (Ex.slot 2) (Ex.idx (Ex.slot 0) (Ex.slot 3)))) (Ss.nil))) (Ss.nil))) (Ss.cons (Sx.ret (Ex.slot 2)) (Ss.nil))))
section
variable {Φ : Tb}
/-- a walk over texts that returns False at the first one without p -/
theorem loop_strs {lk : List Bool} {i : Nat} {t : Tx} {E : Option D → Env} (xs : List (List Nat)) (p : List Nat → Bool) (hb : ∀ x z, bindT [i] (.str x) (E z) = some (E (some (.str x)))) (ht : ∀ x ∈ xs, evT Φ t (E (some (.str x))) = .ok (!p x, E (some (.str x)))) (z : Option D) :
    (xs.all p = true ∧ ∃ z', loopF (bindT [i]) (fun e => evB Φ lk (.cons (.iff t (.cons (.ret (.lit (.bl false))) .nil) .nil) .nil) e) (toD xs) (E z) = .nx (E z')) ∨ (xs.all p = false ∧ ∃ z', loopF (bindT [i]) (fun e => evB Φ lk (.cons (.iff t (.cons (.ret (.lit (.bl false))) .nil) .nil) .nil) e) (toD xs) (E z) = .ret (.bl false) (E z')) := by
  induction xs generalizing z with
  | nil => exact .inl ⟨rfl, z, rfl⟩
  | cons x xs ih =>
    have h := ht x List.mem_cons_self
    have st : loopF (bindT [i]) (fun e => evB Φ lk (.cons (.iff t (.cons (.ret (.lit (.bl false))) .nil) .nil) .nil) e) (toD (x :: xs)) (E z) = (match evB Φ lk (.cons (.iff t (.cons (.ret (.lit (.bl false))) .nil) .nil) .nil) (E (some (.str x))) with
      | .nx e2 => loopF (bindT [i]) (fun e => evB Φ lk (.cons (.iff t (.cons (.ret (.lit (.bl false))) .nil) .nil) .nil) e) (toD xs) e2
      | .cnt e2 => loopF (bindT [i]) (fun e => evB Φ lk (.cons (.iff t (.cons (.ret (.lit (.bl false))) .nil) .nil) .nil) e) (toD xs) e2
      | .brk e2 => .nx e2
      | o => o) := by
      rw [toD, List.map_cons, loopF]
      simp only [hb] <;> rfl
    rw [st]
    cases q : p x with
    | true =>
      rw [q] at h
      have h2 : evB Φ lk (.cons (.iff t (.cons (.ret (.lit (.bl false))) .nil) .nil) .nil) (E (some (.str x))) = .nx (E (some (.str x))) := evB_one (iff_no h)
      rw [h2, List.all_cons, q]
      exact ih (fun y hy => ht y (List.mem_cons_of_mem _ hy)) _
    | false =>
      rw [q] at h
      have h2 : evB Φ lk (.cons (.iff t (.cons (.ret (.lit (.bl false))) .nil) .nil) .nil) (E (some (.str x))) = .ret (.bl false) (E (some (.str x))) := by
        refine evB_ret ?_
        rw [iff_ok h]
        rfl
      rw [h2, List.all_cons, q]
      exact .inr ⟨rfl, _, rfl⟩
/-- .. and then returns True -/
theorem for_strs {lk : List Bool} {i : Nat} {it : It} {t : Tx} {E : Option D → Env} (xs : List (List Nat)) (p : List Nat → Bool) (z : Option D) (hl : [i].any (lkAt lk) = false) (hi : evI Φ (fun _ => true) it (E z) = .ok ⟨toD xs, E z, none⟩) (hb : ∀ x z, bindT [i] (.str x) (E z) = some (E (some (.str x)))) (ht : ∀ x ∈ xs, evT Φ t (E (some (.str x))) = .ok (!p x, E (some (.str x)))) :
    ∃ e', evB Φ lk (.cons (.for [i] it (.cons (.iff t (.cons (.ret (.lit (.bl false))) .nil) .nil) .nil)) (.cons (.ret (.lit (.bl true))) .nil)) (E z) = .ret (.bl (xs.all p)) e' := by
  rcases loop_strs (lk := lk) xs p hb ht z with ⟨h, z', h2⟩ | ⟨h, z', h2⟩
  · refine ⟨E z', ?_⟩
    rw [h, evB_nx (e' := E z') (by rw [evS_for hl hi]; exact h2)]
    exact evB_ret rfl
  · refine ⟨E z', ?_⟩
    rw [h]
    exact evB_ret (by rw [evS_for hl hi]; exact h2)
/-- a walk over texts whose every turn goes on -/
theorem loop_nxs {lk : List Bool} {i : Nat} {b : Ss} {E : Option D → Env} (xs : List (List Nat)) (hb : ∀ x z, bindT [i] (.str x) (E z) = some (E (some (.str x)))) (ht : ∀ x ∈ xs, evB Φ lk b (E (some (.str x))) = .nx (E (some (.str x)))) (z : Option D) : ∃ z', loopF (bindT [i]) (fun e => evB Φ lk b e) (toD xs) (E z) = .nx (E z') := by
  induction xs generalizing z with
  | nil => exact ⟨z, rfl⟩
  | cons x xs ih =>
    have h := ht x List.mem_cons_self
    have st : loopF (bindT [i]) (fun e => evB Φ lk b e) (toD (x :: xs)) (E z) = (match evB Φ lk b (E (some (.str x))) with
      | .nx e2 => loopF (bindT [i]) (fun e => evB Φ lk b e) (toD xs) e2
      | .cnt e2 => loopF (bindT [i]) (fun e => evB Φ lk b e) (toD xs) e2
      | .brk e2 => .nx e2
      | o => o) := by
      rw [toD, List.map_cons, loopF]
      simp only [hb] <;> rfl
    rw [st, h]
    exact ih (fun y hy => ht y (List.mem_cons_of_mem _ hy)) _
/-- strings(len(x), signs), walked -/
theorem evI_strs {s : Nat} (hs : StrF Φ s) {e : Env} {X : Ex} {n : Nat} {sg : List Nat} (hX : opd X e (evE Φ X e) = .ok (.val (.int n), e)) (hn : n ≤ 4) (hg : sg.length ≤ 3) (has : Nat → Bool) : evI Φ has (.seq (.call s (.cons X (.cons (.lit (.str sg)) .nil)))) e = .ok ⟨toD (stringsL sg n), e, none⟩ := by
  obtain ⟨o, ho⟩ := hs n sg hn hg
  have c : evE Φ (.call s (.cons X (.cons (.lit (.str sg)) .nil))) e = .ok (.lst o (toD (stringsL sg n)), e) := callg (os := [.val (.int n), .val (.str sg)]) (evO_cons hX (evO_cons rfl rfl)) rfl rfl ho
  rw [evI, opd_call c]
  show Res.ok (Wk.mk (fzs (toD (stringsL sg n))) e none) = _
  rw [fzs_strs]
theorem evI_strs' {s : Nat} (hs : StrF Φ s) {e : Env} {i : Nat} {n : Nat} {sg : List Nat} (hX : look e i = some (.int n)) (hn : n ≤ 4) (hg : sg.length ≤ 3) (has : Nat → Bool) : evI Φ has (.seq (.call s (.cons (.slot i) (.cons (.lit (.str sg)) .nil)))) e = .ok ⟨toD (stringsL sg n), e, none⟩ := by
  obtain ⟨o, ho⟩ := hs n sg hn hg
  have hg' : gets e [.ref i, .val (.str sg)] = some [.int n, .str sg] := by
    simp [gets, Opd.get, hX]
  have c : evE Φ (.call s (.cons (.slot i) (.cons (.lit (.str sg)) .nil))) e = .ok (.lst o (toD (stringsL sg n)), e) := callg (os := [.ref i, .val (.str sg)]) (evO_cons (opd_slot hX) (evO_cons rfl rfl)) hg' rfl ho
  rw [evI, opd_call c]
  show Res.ok (Wk.mk (fzs (toD (stringsL sg n))) e none) = _
  rw [fzs_strs]
theorem len_slot {e : Env} {i : Nat} {t : List Nat} (h : look e i = some (.str t)) (hl : t.length ≤ 1000) : evE Φ (.bcall .len (.cons (.slot i) .nil)) e = .ok (.int t.length, e) := by
  refine bc1 (o := .ref i) (d := .str t) (opd_slot h) h ?_
  have ol : okLen t.length = true := okLen_of (by omega)
  show (if okLen t.length then some (D.int t.length) else none) = _
  rw [ol]
  rfl
theorem call2s {f : Nat} {e : Env} {i j : Nat} {a b r : D} (h1 : look e i = some a) (h2 : look e j = some b) (m1 : imm a = true) (m2 : imm b = true) (hf : Φ.fn f [a, b] = .ok r [none, none]) : evE Φ (.call f (.cons (.slot i) (.cons (.slot j) .nil))) e = .ok (r, e) := by
  have g1 : Opd.get e (.ref i) = some a := h1
  have g2 : Opd.get e (.ref j) = some b := h2
  exact callg (os := [.ref i, .ref j]) (evO_cons (opd_slot h1) (evO_cons (opd_slot h2) rfl)) (by simp [gets, g1, g2]) (by simp [imms, m1, m2]) hf
theorem call3s {f : Nat} {e : Env} {i j k : Nat} {a b c r : D} (h1 : look e i = some a) (h2 : look e j = some b) (h3 : look e k = some c) (m1 : imm a = true) (m2 : imm b = true) (m3 : imm c = true) (hf : Φ.fn f [a, b, c] = .ok r [none, none, none]) : evE Φ (.call f (.cons (.slot i) (.cons (.slot j) (.cons (.slot k) .nil)))) e = .ok (r, e) := by
  have g1 : Opd.get e (.ref i) = some a := h1
  have g2 : Opd.get e (.ref j) = some b := h2
  have g3 : Opd.get e (.ref k) = some c := h3
  exact callg (os := [.ref i, .ref j, .ref k]) (evO_cons (opd_slot h1) (evO_cons (opd_slot h2) (evO_cons (opd_slot h3) rfl))) (by simp [gets, g1, g2, g3]) (by simp [imms, m1, m2, m3]) hf
theorem vcall {f : Nat} {es : Exs} {e : Env} {b : Bool} (h : evE Φ (.call f es) e = .ok (.bl b, e)) : evT Φ (.val (.call f es)) e = .ok (b, e) := valg (opd_call h) rfl rfl
theorem vin {i : Nat} (hi : InF Φ i) {e : Env} {a b : Nat} {x y : List Nat} (h1 : look e a = some (.str x)) (h2 : look e b = some (.str y)) (hl : y.length = x.length) (hn : x.length ≤ 1000) : evT Φ (.val (.call i (.cons (.slot a) (.cons (.slot b) .nil)))) e = .ok (inL x y, e) :=
  vcall (call2s h1 h2 rfl rfl (hi x y hl hn))
variable (Φ)
def dueL (c d : List Nat) : Bool := (stringsL [48, 49] c.length).all fun p => !(inL d p && !inL c p)
theorem due_ok {s i : Nat} (hs : StrF Φ s) (hi : InF Φ i) (n : Nat) (c d : List Nat) (h : isCube n c) (g : isCube n d) (h4 : n ≤ 4) : runF Φ ⟨2, 3, c_q_by_points s i⟩ [.str c, .str d] = .ok (.bl (dueL c d)) [none, none] := by
  refine runF_ret rfl rfl ?_
  have hl := h.1
  have gl := g.1
  refine for_strs (lk := [false, false]) (i := 2) (E := fun z => [some (.str c), some (.str d), z]) (stringsL [48, 49] c.length) (fun p => !(inL d p && !inL c p)) none rfl (evI_strs hs (opd_bc (len_slot rfl (by omega))) (by omega) (by decide) _) (fun _ _ => rfl) ?_
  intro x hx
  have xl := stringsL_at _ _ _ hx
  rw [and_of (vin hi (a := 1) (b := 2) rfl rfl (by omega) (by omega)) (not_of (vin hi (a := 0) (b := 2) rfl rfl (by omega) (by omega)))]
  simp
def bothL (c d x : List Nat) : Bool := (stringsL [48, 49] c.length).all fun p => !(inL x p && (!inL c p && !inL d p))
theorem both_ok {s i : Nat} (hs : StrF Φ s) (hi : InF Φ i) (n : Nat) (c d x : List Nat) (h : isCube n c) (g : isCube n d) (f : isCube n x) (h4 : n ≤ 4) : runF Φ ⟨3, 4, c_q_in_both s i⟩ [.str c, .str d, .str x] = .ok (.bl (bothL c d x)) [none, none, none] := by
  refine runF_ret rfl rfl ?_
  have hl := h.1
  have gl := g.1
  have fl := f.1
  refine for_strs (lk := [false, false, false]) (i := 3) (E := fun z => [some (.str c), some (.str d), some (.str x), z]) (stringsL [48, 49] c.length) (fun p => !(inL x p && (!inL c p && !inL d p))) none rfl (evI_strs hs (opd_bc (len_slot rfl (by omega))) (by omega) (by decide) _) (fun _ _ => rfl) ?_
  intro y hy
  have xl := stringsL_at _ _ _ hy
  rw [and_of (vin hi (a := 2) (b := 3) rfl rfl (by omega) (by omega)) (and_of (not_of (vin hi (a := 0) (b := 3) rfl rfl (by omega) (by omega))) (not_of (vin hi (a := 1) (b := 3) rfl rfl (by omega) (by omega))))]
  simp
theorem lcube_ok (n : Nat) (t : List Nat) (h : isCube n t) (hn : n ≤ 1000) : runF Φ ⟨2, 3, c_q_is_cube⟩ [.str t, .int n] = .ok (.bl true) [none, none] := by
  have hl := h.1
  refine runF_ret rfl rfl ?_
  have ol : okLen t.length = true := okLen_of (by omega)
  have e2 : (t.length : Int) = n := by omega
  have s1 : evS Φ [false, false] (.iff (.or (.not (.val (.bcall (.isinst "str") (.cons (.slot 0) .nil)))) (.val (.op2 .ne (.bcall .len (.cons (.slot 0) .nil)) (.slot 1)))) (.cons (.ret (.lit (.bl false))) .nil) .nil) [some (.str t), some (.int n), none] = .nx [some (.str t), some (.int n), none] := by
    simp [evB, evS, evE, evO, evT, evD, opd, look, Opd.get, gets, runB, runB1, runB2, runB3, run2, run1, done, Res.bind, Res.out, Out.then, lkAt, imm, item, taken, truth, isFlat, mixed, deq, callD, handed, putBack, wipeE, chg, sub, put, str_str, ol, e2]
  have ev : evI Φ (fun _ => true) (.seq (.slot 0)) [some (.str t), some (.int n), none] = .ok ⟨toD (t.map fun c => [c]), [some (.str t), some (.int n), none], none⟩ := by
    rw [toD, List.map_map]
    rfl
  have := for_strs (Φ := Φ) (lk := [false, false]) (i := 2) (it := .seq (.slot 0)) (t := .val (.op2 .notin (.slot 2) (.lit (.str [48, 49, 45])))) (E := fun z => [some (.str t), some (.int n), z]) (t.map fun c => [c]) (fun _ => true) none rfl ev (fun _ _ => rfl) (by
    intro x hx
    obtain ⟨c, hc, rfl⟩ := List.mem_map.mp hx
    have := h.2 c hc
    simp [signs] at this
    simp [evB, evS, evE, evO, evT, evD, opd, look, Opd.get, gets, runB, runB1, runB2, runB3, run2, run1, done, Res.bind, Res.out, Out.then, lkAt, imm, item, taken, truth, isFlat, mixed, deq, callD, handed, putBack, wipeE, chg, sub, put]
    omega)
  obtain ⟨e', he⟩ := this
  refine ⟨e', ?_⟩
  show evB Φ [false, false] c_q_is_cube [some (.str t), some (.int n), none] = _
  rw [c_q_is_cube, evB_nx s1]
  refine he.trans ?_
  have : (t.map fun c => [c]).all (fun _ => true) = true := by simp
  rw [this]
end
end DL

namespace DL
open PySem
theorem isCube.cons {n x : Nat} {xs : List Nat} (h : isCube n (x :: xs)) : ∃ m, n = m + 1 ∧ x ∈ signs ∧ isCube m xs := by
  obtain ⟨h1, h2⟩ := h
  rw [List.length_cons] at h1
  exact ⟨xs.length, h1.symm, h2 x List.mem_cons_self, rfl, fun c hc => h2 c (List.mem_cons_of_mem _ hc)⟩
theorem zip_cube {f : Nat → Nat → Nat} (hf : ∀ a b, a ∈ signs → b ∈ signs → f a b ∈ signs) {n : Nat} {c d : List Nat} (h : isCube n c) (g : isCube n d) : isCube n ((c.zip d).map fun q => f q.1 q.2) := by
  refine ⟨by rw [List.length_map, List.length_zip, h.1, g.1, Nat.min_self], fun x hx => ?_⟩
  obtain ⟨⟨a, b⟩, hm, rfl⟩ := List.mem_map.mp hx
  have := List.of_mem_zip hm
  exact hf a b (h.2 a this.1) (g.2 b this.2)
theorem kb_cube {n : Nat} {c d : List Nat} (h : isCube n c) (g : isCube n d) : isCube n (kbL c d) := zip_cube (f := ksL) (fun a b ha hb => by
  unfold ksL
  split
  · exact hb
  · split
    · exact ha
    · decide) h g
theorem span_cube {n : Nat} {c d : List Nat} (h : isCube n c) (g : isCube n d) : isCube n (spanL c d) := zip_cube (f := fun a b => if a == b then a else 45) (fun a b ha hb => by
  show (if a == b then a else 45) ∈ signs
  split
  · exact ha
  · decide) h g
/-- opposite signs -/
def oppL (x y : Nat) : Bool := [48, 49] == [x, y] || [49, 48] == [x, y]
def manyL (c d : List Nat) : Nat := ((List.range c.length).filter fun i => oppL (c.getD i 0) (d.getD i 0)).length
def oppE (a b s : Nat) : Tx := .val (.op2 .isin (.op2 .add (.idx (.slot a) (.slot s)) (.idx (.slot b) (.slot s))) (.lst (.cons (.lit (.str [48, 49])) (.cons (.lit (.str [49, 48])) .nil))))
theorem idx_str {Φ : Tb} {e : Env} {a s i x : Nat} {t : List Nat} (ha : look e a = some (.str t)) (hs : look e s = some (.int i)) (hx : t[i]? = some x) (hl : t.length ≤ 1000) : evE Φ (.idx (.slot a) (.slot s)) e = .ok (.str [x], e) := by
  have hi : i < t.length := by
    rw [List.getElem?_eq_some_iff] at hx
    exact hx.1
  have h0 : opd (.slot a) e (evE Φ (.slot a) e) = .ok (.ref a, e) := opd_slot ha
  have h1 : opd (.slot s) e (evE Φ (.slot s) e) = .ok (.ref s, e) := opd_slot hs
  have ol : okLen t.length = true := okLen_of (by omega)
  have hp : place t.length (i : Int) = some i := place_nat hi
  rw [evE, h0]
  simp only [Res.bind, h1]
  have g1 : Opd.get e (.ref a) = some (.str t) := ha
  have g2 : Opd.get e (.ref s) = some (.int i) := hs
  rw [g1, g2]
  simp [item, ol, hp, hx, taken, imm]
theorem opp_ok {Φ : Tb} {e : Env} {a b s i x y : Nat} {t u : List Nat} (ha : look e a = some (.str t)) (hb : look e b = some (.str u)) (hs : look e s = some (.int i)) (hx : t[i]? = some x) (hy : u[i]? = some y) (h1 : t.length ≤ 1000) (h2 : u.length ≤ 1000) : evT Φ (oppE a b s) e = .ok (oppL x y, e) := by
  have o2 : okLen (1 + 1) = true := okLen_of (by omega)
  have c1 : evE Φ (.op2 .add (.idx (.slot a) (.slot s)) (.idx (.slot b) (.slot s))) e = .ok (.str [x, y], e) :=
    op2g (opd_idx (idx_str ha hs hx h1)) (opd_idx (idx_str hb hs hy h2)) rfl rfl (by
      show (if okLen (1 + 1) then some (D.str ([x] ++ [y])) else none) = _
      rw [o2]
      rfl)
  have c2 : opd (.lst (.cons (.lit (.str [48, 49])) (.cons (.lit (.str [49, 48])) .nil))) e (evE Φ (.lst (.cons (.lit (.str [48, 49])) (.cons (.lit (.str [49, 48])) .nil))) e) = .ok (.val (.lst true [.str [48, 49], .str [49, 48]]), e) := by
    have v : evE Φ (.lst (.cons (.lit (.str [48, 49])) (.cons (.lit (.str [49, 48])) .nil))) e = .ok (.lst true [.str [48, 49], .str [49, 48]], e) := by
      have o2' : okLen 2 = true := o2
      simp [evB, evS, evE, evO, evT, evD, opd, look, Opd.get, gets, runB, runB1, runB2, runB3, run2, run1, done, Res.bind, Res.out, Out.then, lkAt, imm, item, taken, truth, isFlat, mixed, deq, callD, handed, putBack, wipeE, chg, sub, put, o2']
    rw [v]
    rfl
  refine valg (d := .bl (oppL x y)) (opd_op2 (op2g (opd_op2 c1) c2 rfl rfl ?_)) rfl rfl
  show some (D.bl (deq (.str [48, 49]) (.str [x, y]) || (deq (.str [49, 48]) (.str [x, y]) || false))) = _
  rw [Bool.or_false]
  rfl
theorem many_ok {Φ : Tb} {e e0 : Env} {a b s nn n : Nat} {c d : List Nat} (hc : c.length = n) (hd : d.length = n) (h4 : n ≤ 4) (hn : look e nn = some (.int n)) (hm : immAt e [s] = true) (hw : wipeE e [s] = e0) (hb : backE e e0 [s] = e)
    (hs : ∀ x : D, look (e0.set s (some x)) s = some x) (hu : ∀ x : D, wipeE (e0.set s (some x)) [s] = e0) (h1 : ∀ x : D, look (e0.set s (some x)) a = some (.str c)) (h2 : ∀ x : D, look (e0.set s (some x)) b = some (.str d)) :
    evE Φ (.bcall .len (.cons (.lc (.slot s) [s] (.rng (.lit (.int 0)) (.slot nn)) (oppE a b s)) .nil)) e = .ok (.int (manyL c d), e) := by
  have i0 : inR 0 = true := inR_of (by omega) (by omega)
  have i1 : inR (n : Int) = true := inR_of (by omega) (by omega)
  have h := lc_ok (Φ := Φ) (elt := .slot s) (tg := [s]) (it := .rng (.lit (.int 0)) (.slot nn)) (c := oppE a b s) (e := e) (e0 := e0) (ds := rangeD 0 (n : Nat)) (fun x => match x with | .int i => oppL (c.getD i.toNat 0) (d.getD i.toNat 0) | _ => true) (fun x => x)
    (fun has => evI_rng (x := .val (.int 0)) (y := .ref nn) (e1 := e) rfl (opd_slot hn) rfl hn i0 i1) hm hw hb (by
      intro x hx
      rw [rangeD_nat, List.mem_map] at hx
      obtain ⟨j, hj, rfl⟩ := hx
      have hj : j < n := by simpa using hj
      have q1 : c[j]? = some (c.getD j 0) := by simp [List.getD, hc, hj]
      have q2 : d[j]? = some (d.getD j 0) := by simp [List.getD, hd, hj]
      refine ⟨_, _, rfl, opp_ok (h1 _) (h2 _) (hs _) q1 q2 (by omega) (by omega), ?_⟩
      show (oppL (c.getD j 0) (d.getD j 0) = false ∧ _) ∨ (oppL (c.getD j 0) (d.getD j 0) = true ∧ _)
      cases q : oppL (c.getD j 0) (d.getD j 0) with
      | false => exact .inl ⟨rfl, hu _⟩
      | true => exact .inr ⟨rfl, _, by rw [evE, hs]; rfl, hu _⟩) (by
      rw [rangeD_nat, List.length_map, List.length_range]
      omega)
  refine (bc1 (opd_lcv h) rfl (r := .int (manyL c d)) ?_)
  have : (((rangeD 0 (n : Nat)).filter fun x => match x with | .int i => oppL (c.getD i.toNat 0) (d.getD i.toNat 0) | _ => true).map fun x => x).length = manyL c d := by
    rw [rangeD_nat, List.map_id', List.filter_map, List.length_map, manyL, hc]
    rfl
  show some (D.int (((rangeD 0 (n : Nat)).filter fun x => match x with | .int i => oppL (c.getD i.toNat 0) (d.getD i.toNat 0) | _ => true).map fun x => x).length) = _
  rw [this]
def comL (c d : List Nat) : List (List Nat) := (stringsL [48, 49] c.length).filter fun p => inL c p && inL d p
def inPts (t : List Nat) (n : Nat) : List (List Nat) := (stringsL [48, 49] n).filter fun p => inL t p
def wellL (c d : List Nat) : Bool := if distL c d = 0 then !(comL c d).isEmpty && inPts (kbL c d) c.length == comL c d else (comL c d).isEmpty
theorem sg_small {n : Nat} {P : List Nat → Bool} : ∀ x ∈ (stringsL [48, 49] n).filter P, ∀ c ∈ x, c < 1114112 := by
  intro x hx c hc
  have := stringsL_sg [48, 49] n x (List.mem_filter.mp hx).1 c hc
  simp at this
  omega
theorem well_ok {Φ : Tb} {s i k : Nat} (hs : StrF Φ s) (hi : InF Φ i) (hk : ∀ n t, isCube n t → n ≤ 1000 → Φ.fn k [.str t, .int n] = .ok (.bl true) [none, none]) (n : Nat) (c d : List Nat) (h : isCube n c) (g : isCube n d) (h4 : n ≤ 4) (hw : wellL c d = true) :
    runF Φ ⟨3, 6, c_q_meets_well s i k⟩ [.str c, .str d, meetD c d] = .ok (.bl true) [none, none, none] := by
  have hl := h.1
  have gl := g.1
  have o1 : okLen c.length = true := okLen_of (by omega)
  have mi : imm (meetD c d) = true := by
    unfold meetD
    split <;> rfl
  refine runF_ret rfl (by simp [imms, imm, mi]) ?_
  show ∃ e, evB Φ [false, false, false] (c_q_meets_well s i k) [some (.str c), some (.str d), some (meetD c d), none, none, none] = _
  have s3 : evS Φ [false, false, false] (.set 3 (.bcall .len (.cons (.slot 0) .nil))) [some (.str c), some (.str d), some (meetD c d), none, none, none] = .nx [some (.str c), some (.str d), some (meetD c d), some (.int c.length), none, none] := set_ok rfl (len_slot rfl (by omega))
  have lcc := fun (cm : Option D) (hcm : immAt [some (.str c), some (.str d), some (meetD c d), some (.int c.length), cm, none] [5] = true) => lc_strs (Φ := Φ) (i := 5) (it := .seq (.call s (.cons (.slot 3) (.cons (.lit (.str [48, 49])) .nil)))) (c := .and (.val (.call i (.cons (.slot 0) (.cons (.slot 5) .nil)))) (.val (.call i (.cons (.slot 1) (.cons (.slot 5) .nil)))))
    (e := [some (.str c), some (.str d), some (meetD c d), some (.int c.length), cm, none]) (e0 := [some (.str c), some (.str d), some (meetD c d), some (.int c.length), cm, none]) (stringsL [48, 49] c.length) (fun p => inL c p && inL d p) (fun has => evI_strs' hs rfl (by omega) (by decide) has) hcm rfl rfl (by
      intro x hx
      have xl := stringsL_at _ _ _ hx
      exact and_of (vin hi (a := 0) (b := 5) rfl rfl (by omega) (by omega)) (vin hi (a := 1) (b := 5) rfl rfl (by omega) (by omega))) (by
      rw [stringsL_len, hl]
      have : 2 ^ n ≤ 2 ^ 4 := Nat.pow_le_pow_right (by omega) h4
      show 2 ^ n ≤ 1000000
      omega) (fun _ => rfl) (fun _ => rfl)
  have s4 := set_ok (lk := [false, false, false]) (i := 4) rfl (lcc none rfl)
  have E : ([some (.str c), some (.str d), some (meetD c d), some (.int c.length), none, none] : Env).set 4 (some (.lst true (toD (comL c d)))) = [some (.str c), some (.str d), some (meetD c d), some (.int c.length), some (.lst true (toD (comL c d))), none] := rfl
  have tl : (toD (comL c d)).length = (comL c d).length := by rw [toD, List.length_map]
  have t5 : evT Φ (.val (.op2 .eq (.bcall .len (.cons (.slot 4) .nil)) (.lit (.int 0)))) [some (.str c), some (.str d), some (meetD c d), some (.int c.length), some (.lst true (toD (comL c d))), none] = .ok ((comL c d).isEmpty, [some (.str c), some (.str d), some (meetD c d), some (.int c.length), some (.lst true (toD (comL c d))), none]) := by
    refine valg (d := .bl ((comL c d).isEmpty)) (opd_op2 (op2g (o2 := .val (.int 0)) (opd_bc (bc1 (o := .ref 4) (d := .lst true (toD (comL c d))) (r := .int (comL c d).length) (opd_slot rfl) rfl (by
      show some (D.int (toD (comL c d)).length) = _
      rw [tl]))) rfl rfl rfl ?_)) rfl rfl
    show some (D.bl (((comL c d).length : Int) == 0)) = _
    cases q : comL c d with
    | nil => rfl
    | cons x xs => congr 2
  rw [c_q_meets_well, evB_nx s3, evB_nx s4]
  show ∃ e, evB Φ [false, false, false] _ [some (.str c), some (.str d), some (meetD c d), some (.int c.length), some (.lst true (toD (comL c d))), none] = _
  cases q0 : (comL c d).isEmpty with
  | true =>
    rw [q0] at t5
    refine ⟨[some (.str c), some (.str d), some (meetD c d), some (.int c.length), some (.lst true (toD (comL c d))), none], evB_ret ?_⟩
    rw [iff_ok t5]
    have wv : run2 .is (meetD c d) .non = some (.bl true) := by
      unfold wellL at hw
      unfold meetD
      split
      · rename_i q1
        rw [if_pos q1, q0] at hw
        cases hw
      · rfl
    have := op2g (Φ := Φ) (op := .is) (ea := .slot 2) (eb := .lit .non) (e := [some (.str c), some (.str d), some (meetD c d), some (.int c.length), some (.lst true (toD (comL c d))), none]) (o1 := .ref 2) (o2 := .val .non) (opd_slot rfl) rfl rfl rfl wv
    refine evB_ret ?_
    rw [evS, this]
    · rfl
    · intro i q; cases q
  | false =>
    rw [q0] at t5
    rw [evB_nx (iff_no t5)]
    by_cases q1 : distL c d = 0
    · have md : meetD c d = .str (kbL c d) := if_pos q1
      have kl := kb_cube h g
      have l2 := lc_strs (Φ := Φ) (i := 5) (it := .seq (.call s (.cons (.slot 3) (.cons (.lit (.str [48, 49])) .nil)))) (c := .val (.call i (.cons (.slot 2) (.cons (.slot 5) .nil))))
        (e := [some (.str c), some (.str d), some (meetD c d), some (.int c.length), some (.lst true (toD (comL c d))), none]) (e0 := [some (.str c), some (.str d), some (meetD c d), some (.int c.length), some (.lst true (toD (comL c d))), none]) (stringsL [48, 49] c.length) (fun p => inL (kbL c d) p) (fun has => evI_strs' hs rfl (by omega) (by decide) has) rfl rfl rfl (by
          intro x hx
          have xl := stringsL_at _ _ _ hx
          have kl' := kl.1
          rw [md]
          exact vin hi (a := 2) (b := 5) rfl rfl (by omega) (by omega)) (by
          rw [stringsL_len, hl]
          have : 2 ^ n ≤ 2 ^ 4 := Nat.pow_le_pow_right (by omega) h4
          show 2 ^ n ≤ 1000000
          omega) (fun _ => rfl) (fun _ => rfl)
      have ck : evT Φ (.val (.call k (.cons (.slot 2) (.cons (.slot 3) .nil)))) [some (.str c), some (.str d), some (meetD c d), some (.int c.length), some (.lst true (toD (comL c d))), none] = .ok (true, [some (.str c), some (.str d), some (meetD c d), some (.int c.length), some (.lst true (toD (comL c d))), none]) := by
        refine vcall (call2s (i := 2) (j := 3) (a := .str (kbL c d)) (b := .int (n : Nat)) ?_ ?_ rfl rfl (hk n _ kl (by omega)))
        · rw [md]; rfl
        · rw [hl]; rfl
      have wv : run2 .eq (.lst true (toD (inPts (kbL c d) c.length))) (.lst true (toD (comL c d))) = some (.bl true) := by
        rw [wellL, if_pos q1, q0] at hw
        rw [inPts, comL, eq_strs sg_small sg_small]
        exact congrArg (fun b => some (D.bl b)) hw
      have := op2g (Φ := Φ) (op := .eq) (o2 := .ref 4) (opd_lcv l2) (opd_slot (s := 4) (d := .lst true (toD (comL c d))) rfl) rfl rfl wv
      refine ⟨[some (.str c), some (.str d), some (meetD c d), some (.int c.length), some (.lst true (toD (comL c d))), none], ?_⟩
      rw [evB_nx (iff_no (not_of ck))]
      refine evB_ret ?_
      rw [evS, this]
      · rfl
      · intro i q; cases q
    · rw [wellL, if_neg q1, q0] at hw
      cases hw
end DL

namespace DL
open PySem
def T2 (a b : List Nat) : D := .tup false [.str a, .str b]
/-- a walk over values, with one slot more that changes -/
theorem loop_ds {Φ : Tb} {lk : List Bool} {i : Nat} {b : Ss} {E : Option D → Option D → Env} (ds : List D) (hb : ∀ y ∈ ds, ∀ z w, bindT [i] y (E z w) = some (E (some y) w)) (ht : ∀ y ∈ ds, ∀ w, ∃ w', evB Φ lk b (E (some y) w) = .nx (E (some y) w')) (z w : Option D) : ∃ z' w', loopF (bindT [i]) (fun e => evB Φ lk b e) ds (E z w) = .nx (E z' w') := by
  induction ds generalizing z w with
  | nil => exact ⟨z, w, rfl⟩
  | cons y ds ih =>
    obtain ⟨w', h⟩ := ht y List.mem_cons_self w
    have st : loopF (bindT [i]) (fun e => evB Φ lk b e) (y :: ds) (E z w) = (match evB Φ lk b (E (some y) w) with
      | .nx e2 => loopF (bindT [i]) (fun e => evB Φ lk b e) ds e2
      | .cnt e2 => loopF (bindT [i]) (fun e => evB Φ lk b e) ds e2
      | .brk e2 => .nx e2
      | o => o) := by
      rw [loopF]
      simp only [hb y List.mem_cons_self] <;> rfl
    rw [st, h]
    exact ih (fun y hy => hb y (List.mem_cons_of_mem _ hy)) (fun y hy => ht y (List.mem_cons_of_mem _ hy)) _ _
def L3 : Ex := .lst (.cons (.tup (.cons (.slot 4) (.cons (.slot 5) .nil))) (.cons (.tup (.cons (.slot 5) (.cons (.slot 4) .nil))) (.cons (.tup (.cons (.slot 4) (.cons (.slot 4) .nil))) .nil)))
def L2' : Ex := .lst (.cons (.tup (.cons (.slot 4) (.cons (.slot 5) .nil))) (.cons (.tup (.cons (.slot 5) (.cons (.slot 4) .nil))) .nil))
def i0 (s : Nat) : Ex := .idx (.slot s) (.lit (.int 0))
def i1 (s : Nat) : Ex := .idx (.slot s) (.lit (.int 1))
def retF : Ss := .cons (.ret (.lit (.bl false))) .nil
section
variable {Φ : Tb}
theorem i_ok {e : Env} {s : Nat} {a b : List Nat} (h : look e s = some (T2 a b)) : evE Φ (i0 s) e = .ok (.str a, e) ∧ evE Φ (i1 s) e = .ok (.str b, e) :=
  ⟨idx_slot (d := T2 a b) (i := .int 0) h rfl rfl rfl, idx_slot (d := T2 a b) (i := .int 1) h rfl rfl rfl⟩
theorem imm_meetD (c d : List Nat) : imm (meetD c d) = true := by
  unfold meetD
  split <;> rfl
theorem calli {f s : Nat} {e : Env} {a b : List Nat} {r : D} (h : look e s = some (T2 a b)) (hf : Φ.fn f [.str a, .str b] = .ok r [none, none]) : evE Φ (.call f (.cons (i0 s) (.cons (i1 s) .nil))) e = .ok (r, e) :=
  callg (os := [.val (.str a), .val (.str b)]) (evO_cons (opd_idx (i_ok h).1) (evO_cons (opd_idx (i_ok h).2) rfl)) rfl rfl hf
end
end DL

namespace LR
open PySem PySem.Spec PyProof.Rows L2 DL
def top (i : Nat) : Stmt := PySem.Challenge.pw_steadycover_k04_whole_consensus.main.body.getD i (.Pass ⟨0, 0, 0, 0⟩)
def gcs : List (Str × D) := [("CUBE_SIGNS", .str [45, 48, 49]), ("MOST_INPUTS", .int 4)]
def bls0 : List Str := ["all", "bool", "int", "isinstance", "len", "range", "str", "zip"]
def fns0 : List (Str × Nat) := [("is_whole", 0), ("is_size", 1), ("has_only", 2), ("is_cube", 3), ("check_cube", 4), ("check_cubes", 5), ("distance", 6), ("consensus", 7), ("_known_to_both", 8), ("_known_sign", 9), ("_law_mixed", 10), ("_law_draws", 11), ("_law_strings", 12), ("_law_in", 13), ("_law_cube", 14), ("_law_near", 15), ("_law_in_both", 16), ("_law_right", 17), ("law", 18)]
def bris_whole : Ss := (Ss.cons (Sx.ret (Ex.and (Ex.bcall (BF.isinst "int") (Exs.cons (Ex.slot 0) (Exs.nil))) (Ex.op1 (B1.notv) (Ex.bcall (BF.isinst "bool") (Exs.cons (Ex.slot 0) (Exs.nil)))))) (Ss.nil))
def ris_whole : DL.Row := ⟨"is_whole", top 6, ["thing"], ["thing"], bris_whole⟩
def bris_size : Ss := (Ss.cons (Sx.ret (Ex.and (Ex.call 0 (Exs.cons (Ex.slot 0) (Exs.nil))) (Ex.chain (B2.le) (B2.le) (Ex.lit (D.int 1)) (Ex.slot 0) (Ex.lit (D.int 4))))) (Ss.nil))
def ris_size : DL.Row := ⟨"is_size", top 7, ["n"], ["n"], bris_size⟩
def brhas_only : Ss := (Ss.cons (Sx.ret (Ex.bcall (BF.all) (Exs.cons (Ex.lc (Ex.op2 (B2.isin) (Ex.slot 2) (Ex.slot 1)) [2] (It.seq (Ex.slot 0)) (Tx.yes)) (Exs.nil)))) (Ss.nil))
def rhas_only : DL.Row := ⟨"has_only", top 8, ["text", "signs", "sign"], ["text", "signs"], brhas_only⟩
def bris_cube : Ss := (Ss.cons (Sx.ret (Ex.and (Ex.bcall (BF.isinst "str") (Exs.cons (Ex.slot 0) (Exs.nil))) (Ex.and (Ex.op2 (B2.eq) (Ex.bcall (BF.len) (Exs.cons (Ex.slot 0) (Exs.nil))) (Ex.slot 1)) (Ex.call 2 (Exs.cons (Ex.slot 0) (Exs.cons (Ex.lit (D.str [45, 48, 49])) (Exs.nil))))))) (Ss.nil))
def ris_cube : DL.Row := ⟨"is_cube", top 9, ["thing", "n"], ["thing", "n"], bris_cube⟩
def brcheck_cube : Ss := (Ss.cons (Sx.iff (Tx.or (Tx.not (Tx.val (Ex.bcall (BF.isinst "str") (Exs.cons (Ex.slot 0) (Exs.nil))))) (Tx.or (Tx.not (Tx.val (Ex.call 1 (Exs.cons (Ex.bcall (BF.len) (Exs.cons (Ex.slot 0) (Exs.nil))) (Exs.nil))))) (Tx.not (Tx.val (Ex.call 3 (Exs.cons (Ex.slot 0) (Exs.cons (Ex.bcall (BF.len) (Exs.cons (Ex.slot 0) (Exs.nil))) (Exs.nil)))))))) (Ss.cons (Sx.augI 0 [] (Ex.lit (D.non)) (B2.add) (Ex.lit (D.non))) (Ss.nil)) (Ss.nil)) (Ss.nil))
def rcheck_cube : DL.Row := ⟨"check_cube", top 10, ["cube"], ["cube"], brcheck_cube⟩
def brcheck_cubes : Ss := (Ss.cons (Sx.expr (Ex.call 4 (Exs.cons (Ex.slot 0) (Exs.nil)))) (Ss.cons (Sx.iff (Tx.not (Tx.val (Ex.call 3 (Exs.cons (Ex.slot 1) (Exs.cons (Ex.bcall (BF.len) (Exs.cons (Ex.slot 0) (Exs.nil))) (Exs.nil)))))) (Ss.cons (Sx.augI 0 [] (Ex.lit (D.non)) (B2.add) (Ex.lit (D.non))) (Ss.nil)) (Ss.nil)) (Ss.nil)))
def rcheck_cubes : DL.Row := ⟨"check_cubes", top 11, ["c", "d"], ["c", "d"], brcheck_cubes⟩
def brdistance : Ss := (Ss.cons (Sx.expr (Ex.call 5 (Exs.cons (Ex.slot 0) (Exs.cons (Ex.slot 1) (Exs.nil))))) (Ss.cons (Sx.ret (Ex.bcall (BF.len) (Exs.cons (Ex.lc (Ex.slot 2) [2, 3] (It.zip (Ex.slot 0) (Ex.slot 1)) (Tx.and (Tx.val (Ex.op2 (B2.notin) (Ex.lit (D.str [45])) (Ex.tup (Exs.cons (Ex.slot 2) (Exs.cons (Ex.slot 3) (Exs.nil)))))) (Tx.val (Ex.op2 (B2.ne) (Ex.slot 2) (Ex.slot 3))))) (Exs.nil)))) (Ss.nil)))
def rdistance : DL.Row := ⟨"distance", top 12, ["c", "d", "a", "b"], ["c", "d"], brdistance⟩
def brconsensus : Ss := (Ss.cons (Sx.ret (Ex.ife (Tx.val (Ex.op2 (B2.eq) (Ex.call 6 (Exs.cons (Ex.slot 0) (Exs.cons (Ex.slot 1) (Exs.nil)))) (Ex.lit (D.int 1)))) (Ex.call 8 (Exs.cons (Ex.slot 0) (Exs.cons (Ex.slot 1) (Exs.nil)))) (Ex.lit (D.non)))) (Ss.nil))
def rconsensus : DL.Row := ⟨"consensus", top 13, ["c", "d"], ["c", "d"], brconsensus⟩
def brknown_to_both : Ss := (Ss.cons (Sx.ret (Ex.bcall (BF.join) (Exs.cons (Ex.lit (D.str [])) (Exs.cons (Ex.lc (Ex.call 9 (Exs.cons (Ex.slot 2) (Exs.cons (Ex.slot 3) (Exs.nil)))) [2, 3] (It.zip (Ex.slot 0) (Ex.slot 1)) (Tx.yes)) (Exs.nil))))) (Ss.nil))
def rknown_to_both : DL.Row := ⟨"_known_to_both", top 14, ["c", "d", "a", "b"], ["c", "d"], brknown_to_both⟩
def brknown_sign : Ss := (Ss.cons (Sx.iff (Tx.val (Ex.op2 (B2.eq) (Ex.slot 0) (Ex.lit (D.str [45])))) (Ss.cons (Sx.ret (Ex.slot 1)) (Ss.nil)) (Ss.nil)) (Ss.cons (Sx.ret (Ex.ife (Tx.val (Ex.op2 (B2.isin) (Ex.slot 1) (Ex.tup (Exs.cons (Ex.lit (D.str [45])) (Exs.cons (Ex.slot 0) (Exs.nil)))))) (Ex.slot 0) (Ex.lit (D.str [45])))) (Ss.nil)))
def rknown_sign : DL.Row := ⟨"_known_sign", top 15, ["a", "b"], ["a", "b"], brknown_sign⟩
def bq_mixed : Ss := (Ss.cons (Sx.set 2 (Ex.op2 (B2.mod) (Ex.bcall (BF.int1) (Exs.cons (Ex.op2 (B2.mul) (Ex.op2 (B2.add) (Ex.op2 (B2.add) (Ex.slot 0) (Ex.op2 (B2.mul) (Ex.lit (D.int 7919)) (Ex.slot 1))) (Ex.lit (D.int 1))) (Ex.lit (D.int 48271))) (Exs.nil))) (Ex.lit (D.int 2147483647)))) (Ss.cons (Sx.set 3 (Ex.op2 (B2.mod) (Ex.bcall (BF.int1) (Exs.cons (Ex.op2 (B2.mul) (Ex.slot 2) (Ex.op2 (B2.add) (Ex.op2 (B2.fdiv) (Ex.slot 2) (Ex.lit (D.int 1009))) (Ex.lit (D.int 69621)))) (Exs.nil))) (Ex.lit (D.int 2147483647)))) (Ss.cons (Sx.set 4 (Ex.op2 (B2.mod) (Ex.bcall (BF.int1) (Exs.cons (Ex.op2 (B2.mul) (Ex.slot 3) (Ex.op2 (B2.add) (Ex.op2 (B2.fdiv) (Ex.slot 3) (Ex.lit (D.int 2003))) (Ex.lit (D.int 40692)))) (Exs.nil))) (Ex.lit (D.int 2147483399)))) (Ss.cons (Sx.ret (Ex.op2 (B2.mod) (Ex.bcall (BF.int1) (Exs.cons (Ex.op2 (B2.fdiv) (Ex.slot 4) (Ex.lit (D.int 16))) (Exs.nil))) (Ex.lit (D.int 10007)))) (Ss.nil)))))
def q_mixed : DL.Row := ⟨"_law_mixed", top 17, ["_law_seed", "_law_k", "_law_one", "_law_two", "_law_three"], ["_law_seed", "_law_k"], bq_mixed⟩
def bq_draws : Ss := (Ss.cons (Sx.set 2 (Ex.lst (Exs.nil))) (Ss.cons (Sx.set 3 (Ex.lit (D.int 1))) (Ss.cons (Sx.for [4] (It.rng (Ex.lit (D.int 0)) (Ex.bcall (BF.len) (Exs.cons (Ex.bcall (BF.slice false true) (Exs.cons (Ex.slot 0) (Exs.cons (Ex.lit (D.int 63)) (Exs.nil)))) (Exs.nil)))) (Ss.cons (Sx.set 5 (Ex.bcall (BF.int1) (Exs.cons (Ex.idx (Ex.slot 0) (Ex.slot 4)) (Exs.nil)))) (Ss.cons (Sx.set 3 (Ex.op2 (B2.mod) (Ex.bcall (BF.int1) (Exs.cons (Ex.op2 (B2.add) (Ex.op2 (B2.add) (Ex.op2 (B2.mul) (Ex.slot 3) (Ex.lit (D.int 69621))) (Ex.op2 (B2.mod) (Ex.bcall (BF.int1) (Exs.cons (Ex.slot 5) (Exs.nil))) (Ex.lit (D.int 1000003)))) (Ex.lit (D.int 1))) (Exs.nil))) (Ex.lit (D.int 2147483629)))) (Ss.cons (Sx.iff (Tx.val (Ex.op2 (B2.ge) (Ex.slot 5) (Ex.op2 (B2.pow) (Ex.lit (D.int 10)) (Ex.lit (D.int 18))))) (Ss.cons (Sx.for [6] (It.rng (Ex.lit (D.int 0)) (Ex.lit (D.int 60))) (Ss.cons (Sx.iff (Tx.val (Ex.op2 (B2.gt) (Ex.slot 5) (Ex.lit (D.int 0)))) (Ss.cons (Sx.app 2 [] (Ex.op2 (B2.mod) (Ex.bcall (BF.int1) (Exs.cons (Ex.slot 5) (Exs.nil))) (Ex.lit (D.int 10007)))) (Ss.cons (Sx.set 5 (Ex.op2 (B2.fdiv) (Ex.slot 5) (Ex.lit (D.int 10007)))) (Ss.nil))) (Ss.nil)) (Ss.nil))) (Ss.nil)) (Ss.cons (Sx.app 2 [] (Ex.call 10 (Exs.cons (Ex.op2 (B2.mod) (Ex.bcall (BF.int1) (Exs.cons (Ex.slot 5) (Exs.nil))) (Ex.lit (D.int 1000003))) (Exs.cons (Ex.op2 (B2.mul) (Ex.lit (D.int 2)) (Ex.slot 4)) (Exs.nil))))) (Ss.cons (Sx.app 2 [] (Ex.call 10 (Exs.cons (Ex.op2 (B2.mod) (Ex.bcall (BF.int1) (Exs.cons (Ex.slot 5) (Exs.nil))) (Ex.lit (D.int 1000003))) (Exs.cons (Ex.op2 (B2.add) (Ex.op2 (B2.mul) (Ex.lit (D.int 2)) (Ex.slot 4)) (Ex.lit (D.int 1))) (Exs.nil))))) (Ss.nil)))) (Ss.nil))))) (Ss.cons (Sx.for [6] (It.rng (Ex.lit (D.int 0)) (Ex.slot 1)) (Ss.cons (Sx.app 2 [] (Ex.call 10 (Exs.cons (Ex.slot 3) (Exs.cons (Ex.op2 (B2.add) (Ex.slot 6) (Ex.lit (D.int 127))) (Exs.nil))))) (Ss.nil))) (Ss.cons (Sx.ret (Ex.bcall (BF.slice false true) (Exs.cons (Ex.slot 2) (Exs.cons (Ex.slot 1) (Exs.nil))))) (Ss.nil))))))
def q_draws : DL.Row := ⟨"_law_draws", top 18, ["_law_script", "_law_many", "_law_rows", "_law_seed", "_law_at", "_law_cell", "_law_k"], ["_law_script", "_law_many"], bq_draws⟩
def bq_strings : Ss := (Ss.cons (Sx.set 2 (Ex.lst (Exs.cons (Ex.lit (D.str [])) (Exs.nil)))) (Ss.cons (Sx.for [3] (It.rng (Ex.lit (D.int 0)) (Ex.slot 0)) (Ss.cons (Sx.set 4 (Ex.lst (Exs.nil))) (Ss.cons (Sx.for [5] (It.seq (Ex.slot 2)) (Ss.cons (Sx.for [6] (It.seq (Ex.slot 1)) (Ss.cons (Sx.app 4 [] (Ex.op2 (B2.add) (Ex.slot 5) (Ex.slot 6))) (Ss.nil))) (Ss.nil))) (Ss.cons (Sx.set 2 (Ex.slot 4)) (Ss.nil))))) (Ss.cons (Sx.ret (Ex.slot 2)) (Ss.nil))))
def q_strings : DL.Row := ⟨"_law_strings", top 19, ["_law_n", "_law_signs", "_law_rows", "_law_at", "_law_longer", "_law_row", "_law_sign"], ["_law_n", "_law_signs"], bq_strings⟩
def bq_in : Ss := (Ss.cons (Sx.for [2] (It.rng (Ex.lit (D.int 0)) (Ex.bcall (BF.len) (Exs.cons (Ex.slot 0) (Exs.nil)))) (Ss.cons (Sx.iff (Tx.and (Tx.val (Ex.op2 (B2.ne) (Ex.idx (Ex.slot 0) (Ex.slot 2)) (Ex.lit (D.str [45])))) (Tx.val (Ex.op2 (B2.ne) (Ex.idx (Ex.slot 0) (Ex.slot 2)) (Ex.idx (Ex.slot 1) (Ex.slot 2))))) (Ss.cons (Sx.ret (Ex.lit (D.bl false))) (Ss.nil)) (Ss.nil)) (Ss.nil))) (Ss.cons (Sx.ret (Ex.lit (D.bl true))) (Ss.nil)))
def q_in : DL.Row := ⟨"_law_in", top 20, ["_law_cube_here", "_law_inner", "_law_at"], ["_law_cube_here", "_law_inner"], bq_in⟩
def bq_cube : Ss := (Ss.cons (Sx.set 2 (Ex.lit (D.str []))) (Ss.cons (Sx.for [3] (It.rng (Ex.lit (D.int 0)) (Ex.slot 1)) (Ss.cons (Sx.set 2 (Ex.op2 (B2.add) (Ex.slot 2) (Ex.idx (Ex.lit (D.str [48, 49, 45])) (Ex.op2 (B2.mod) (Ex.bcall (BF.int1) (Exs.cons (Ex.slot 0) (Exs.nil))) (Ex.lit (D.int 3)))))) (Ss.cons (Sx.set 0 (Ex.op2 (B2.fdiv) (Ex.slot 0) (Ex.lit (D.int 3)))) (Ss.nil)))) (Ss.cons (Sx.ret (Ex.slot 2)) (Ss.nil))))
def q_cube : DL.Row := ⟨"_law_cube", top 21, ["_law_number", "_law_n", "_law_text", "_law_at"], ["_law_number", "_law_n"], bq_cube⟩
def bq_near : Ss := (Ss.cons (Sx.set 3 (Ex.lit (D.str []))) (Ss.cons (Sx.for [4] (It.rng (Ex.lit (D.int 0)) (Ex.bcall (BF.len) (Exs.cons (Ex.slot 0) (Exs.nil)))) (Ss.cons (Sx.iff (Tx.and (Tx.val (Ex.op2 (B2.eq) (Ex.slot 4) (Ex.slot 2))) (Tx.val (Ex.op2 (B2.ne) (Ex.idx (Ex.slot 0) (Ex.slot 4)) (Ex.lit (D.str [45]))))) (Ss.cons (Sx.set 3 (Ex.op2 (B2.add) (Ex.slot 3) (Ex.idx (Ex.lit (D.str [49, 48])) (Ex.bcall (BF.int1) (Exs.cons (Ex.idx (Ex.slot 0) (Ex.slot 4)) (Exs.nil)))))) (Ss.nil)) (Ss.cons (Sx.iff (Tx.val (Ex.op2 (B2.eq) (Ex.idx (Ex.slot 0) (Ex.slot 4)) (Ex.lit (D.str [45])))) (Ss.cons (Sx.set 3 (Ex.op2 (B2.add) (Ex.slot 3) (Ex.idx (Ex.slot 1) (Ex.slot 4)))) (Ss.nil)) (Ss.cons (Sx.iff (Tx.val (Ex.op2 (B2.eq) (Ex.idx (Ex.slot 1) (Ex.slot 4)) (Ex.lit (D.str [45])))) (Ss.cons (Sx.set 3 (Ex.op2 (B2.add) (Ex.slot 3) (Ex.lit (D.str [45])))) (Ss.nil)) (Ss.cons (Sx.set 3 (Ex.op2 (B2.add) (Ex.slot 3) (Ex.idx (Ex.slot 0) (Ex.slot 4)))) (Ss.nil))) (Ss.nil))) (Ss.nil))) (Ss.nil))) (Ss.cons (Sx.ret (Ex.slot 3)) (Ss.nil))))
def q_near : DL.Row := ⟨"_law_near", top 22, ["_law_c", "_law_d", "_law_at", "_law_text", "_law_k"], ["_law_c", "_law_d", "_law_at"], bq_near⟩
def bq_in_both : Ss := (Ss.cons (Sx.for [3] (It.seq (Ex.call 12 (Exs.cons (Ex.bcall (BF.len) (Exs.cons (Ex.slot 0) (Exs.nil))) (Exs.cons (Ex.lit (D.str [48, 49])) (Exs.nil))))) (Ss.cons (Sx.iff (Tx.and (Tx.val (Ex.call 13 (Exs.cons (Ex.slot 2) (Exs.cons (Ex.slot 3) (Exs.nil))))) (Tx.and (Tx.not (Tx.val (Ex.call 13 (Exs.cons (Ex.slot 0) (Exs.cons (Ex.slot 3) (Exs.nil)))))) (Tx.not (Tx.val (Ex.call 13 (Exs.cons (Ex.slot 1) (Exs.cons (Ex.slot 3) (Exs.nil)))))))) (Ss.cons (Sx.ret (Ex.lit (D.bl false))) (Ss.nil)) (Ss.nil)) (Ss.nil))) (Ss.cons (Sx.ret (Ex.lit (D.bl true))) (Ss.nil)))
def q_in_both : DL.Row := ⟨"_law_in_both", top 23, ["_law_c", "_law_d", "_law_cube_here", "_law_point"], ["_law_c", "_law_d", "_law_cube_here"], bq_in_both⟩
def bq_right : Ss := (Ss.cons (Sx.set 3 (Ex.bcall (BF.len) (Exs.cons (Ex.slot 0) (Exs.nil)))) (Ss.cons (Sx.set 4 (Ex.call 12 (Exs.cons (Ex.slot 3) (Exs.cons (Ex.lit (D.str [45, 48, 49])) (Exs.nil))))) (Ss.cons (Sx.set 5 (Ex.bcall (BF.len) (Exs.cons (Ex.lc (Ex.slot 6) [6] (It.rng (Ex.lit (D.int 0)) (Ex.slot 3)) (Tx.val (Ex.op2 (B2.isin) (Ex.op2 (B2.add) (Ex.idx (Ex.slot 0) (Ex.slot 6)) (Ex.idx (Ex.slot 1) (Ex.slot 6))) (Ex.lst (Exs.cons (Ex.lit (D.str [48, 49])) (Exs.cons (Ex.lit (D.str [49, 48])) (Exs.nil))))))) (Exs.nil)))) (Ss.cons (Sx.iff (Tx.val (Ex.op2 (B2.ne) (Ex.slot 5) (Ex.lit (D.int 1)))) (Ss.cons (Sx.ret (Ex.op2 (B2.is) (Ex.slot 2) (Ex.lit (D.non)))) (Ss.nil)) (Ss.nil)) (Ss.cons (Sx.iff (Tx.or (Tx.not (Tx.val (Ex.bcall (BF.isinst "str") (Exs.cons (Ex.slot 2) (Exs.nil))))) (Tx.or (Tx.val (Ex.op2 (B2.notin) (Ex.slot 2) (Ex.slot 4))) (Tx.not (Tx.val (Ex.call 16 (Exs.cons (Ex.slot 0) (Exs.cons (Ex.slot 1) (Exs.cons (Ex.slot 2) (Exs.nil))))))))) (Ss.cons (Sx.ret (Ex.lit (D.bl false))) (Ss.nil)) (Ss.nil)) (Ss.cons (Sx.for [7] (It.seq (Ex.slot 4)) (Ss.cons (Sx.iff (Tx.val (Ex.call 16 (Exs.cons (Ex.slot 0) (Exs.cons (Ex.slot 1) (Exs.cons (Ex.slot 7) (Exs.nil)))))) (Ss.cons (Sx.iff (Tx.and (Tx.not (Tx.val (Ex.call 13 (Exs.cons (Ex.slot 0) (Exs.cons (Ex.slot 7) (Exs.nil)))))) (Tx.and (Tx.not (Tx.val (Ex.call 13 (Exs.cons (Ex.slot 1) (Exs.cons (Ex.slot 7) (Exs.nil)))))) (Tx.not (Tx.val (Ex.call 13 (Exs.cons (Ex.slot 2) (Exs.cons (Ex.slot 7) (Exs.nil)))))))) (Ss.cons (Sx.ret (Ex.lit (D.bl false))) (Ss.nil)) (Ss.nil)) (Ss.nil)) (Ss.nil)) (Ss.nil))) (Ss.cons (Sx.ret (Ex.lit (D.bl true))) (Ss.nil))))))))
def q_right : DL.Row := ⟨"_law_right", top 24, ["_law_c", "_law_d", "_law_told", "_law_n", "_law_cubes", "_law_far", "_law_at", "_law_cube_here"], ["_law_c", "_law_d", "_law_told"], bq_right⟩
def brlaw : Ss := (Ss.cons (Sx.set 1 (Ex.call 11 (Exs.cons (Ex.slot 0) (Exs.cons (Ex.lit (D.int 19)) (Exs.nil))))) (Ss.cons (Sx.set 2 (Ex.op2 (B2.add) (Ex.lit (D.int 1)) (Ex.op2 (B2.mod) (Ex.bcall (BF.int1) (Exs.cons (Ex.idx (Ex.slot 1) (Ex.lit (D.int 0))) (Exs.nil))) (Ex.lit (D.int 4))))) (Ss.cons (Sx.for [3] (It.rng (Ex.lit (D.int 0)) (Ex.lit (D.int 6))) (Ss.cons (Sx.set 4 (Ex.call 14 (Exs.cons (Ex.idx (Ex.slot 1) (Ex.op2 (B2.add) (Ex.op2 (B2.mul) (Ex.lit (D.int 3)) (Ex.slot 3)) (Ex.lit (D.int 1)))) (Exs.cons (Ex.slot 2) (Exs.nil))))) (Ss.cons (Sx.set 5 (Ex.call 14 (Exs.cons (Ex.idx (Ex.slot 1) (Ex.op2 (B2.add) (Ex.op2 (B2.mul) (Ex.lit (D.int 3)) (Ex.slot 3)) (Ex.lit (D.int 2)))) (Exs.cons (Ex.slot 2) (Exs.nil))))) (Ss.cons (Sx.iff (Tx.val (Ex.op2 (B2.gt) (Ex.op2 (B2.mod) (Ex.bcall (BF.int1) (Exs.cons (Ex.idx (Ex.slot 1) (Ex.op2 (B2.add) (Ex.op2 (B2.mul) (Ex.lit (D.int 3)) (Ex.slot 3)) (Ex.lit (D.int 3)))) (Exs.nil))) (Ex.lit (D.int 3))) (Ex.lit (D.int 0)))) (Ss.cons (Sx.set 5 (Ex.call 15 (Exs.cons (Ex.slot 4) (Exs.cons (Ex.slot 5) (Exs.cons (Ex.op2 (B2.mod) (Ex.bcall (BF.int1) (Exs.cons (Ex.op2 (B2.fdiv) (Ex.idx (Ex.slot 1) (Ex.op2 (B2.add) (Ex.op2 (B2.mul) (Ex.lit (D.int 3)) (Ex.slot 3)) (Ex.lit (D.int 3)))) (Ex.lit (D.int 3))) (Exs.nil))) (Ex.slot 2)) (Exs.nil)))))) (Ss.nil)) (Ss.nil)) (Ss.cons (Sx.set 6 (Ex.call 7 (Exs.cons (Ex.slot 4) (Exs.cons (Ex.slot 5) (Exs.nil))))) (Ss.cons (Sx.iff (Tx.not (Tx.val (Ex.call 17 (Exs.cons (Ex.slot 4) (Exs.cons (Ex.slot 5) (Exs.cons (Ex.slot 6) (Exs.nil))))))) (Ss.cons (Sx.ret (Ex.lit (D.bl false))) (Ss.nil)) (Ss.nil)) (Ss.cons (Sx.iff (Tx.val (Ex.op2 (B2.ne) (Ex.call 7 (Exs.cons (Ex.slot 5) (Exs.cons (Ex.slot 4) (Exs.nil)))) (Ex.slot 6))) (Ss.cons (Sx.ret (Ex.lit (D.bl false))) (Ss.nil)) (Ss.nil)) (Ss.nil)))))))) (Ss.cons (Sx.ret (Ex.lit (D.bl true))) (Ss.nil)))))
def rlaw : DL.Row := ⟨"law", top 25, ["_law_script", "_law_draws_here", "_law_n", "_law_k", "_law_c", "_law_d", "_law_told"], ["_law_script"], brlaw⟩
def md : Mod := ⟨[ris_whole, ris_size, rhas_only, ris_cube, rcheck_cube, rcheck_cubes, rdistance, rconsensus, rknown_to_both, rknown_sign, q_mixed, q_draws, q_strings, q_in, q_cube, q_near, q_in_both, q_right, rlaw], gcs, bls0⟩
theorem cris_whole : CompOk md ris_whole := ⟨by kernel_rfl, 60, by kernel_rfl⟩
theorem cris_size : CompOk md ris_size := ⟨by kernel_rfl, 60, by kernel_rfl⟩
theorem crhas_only : CompOk md rhas_only := ⟨by kernel_rfl, 60, by kernel_rfl⟩
theorem cris_cube : CompOk md ris_cube := ⟨by kernel_rfl, 60, by kernel_rfl⟩
theorem crcheck_cube : CompOk md rcheck_cube := ⟨by kernel_rfl, 60, by kernel_rfl⟩
theorem crcheck_cubes : CompOk md rcheck_cubes := ⟨by kernel_rfl, 60, by kernel_rfl⟩
theorem crdistance : CompOk md rdistance := ⟨by kernel_rfl, 60, by kernel_rfl⟩
theorem crconsensus : CompOk md rconsensus := ⟨by kernel_rfl, 60, by kernel_rfl⟩
theorem crknown_to_both : CompOk md rknown_to_both := ⟨by kernel_rfl, 60, by kernel_rfl⟩
theorem crknown_sign : CompOk md rknown_sign := ⟨by kernel_rfl, 60, by kernel_rfl⟩
theorem cq_mixed : CompOk md q_mixed := ⟨by kernel_rfl, 60, by kernel_rfl⟩
theorem cq_draws : CompOk md q_draws := ⟨by kernel_rfl, 60, by kernel_rfl⟩
theorem cq_strings : CompOk md q_strings := ⟨by kernel_rfl, 60, by kernel_rfl⟩
theorem cq_in : CompOk md q_in := ⟨by kernel_rfl, 60, by kernel_rfl⟩
theorem cq_cube : CompOk md q_cube := ⟨by kernel_rfl, 60, by kernel_rfl⟩
theorem cq_near : CompOk md q_near := ⟨by kernel_rfl, 60, by kernel_rfl⟩
theorem cq_in_both : CompOk md q_in_both := ⟨by kernel_rfl, 60, by kernel_rfl⟩
theorem cq_right : CompOk md q_right := ⟨by kernel_rfl, 60, by kernel_rfl⟩
theorem crlaw : CompOk md rlaw := ⟨by kernel_rfl, 60, by kernel_rfl⟩
theorem comp : ∀ r ∈ md.rows, CompOk md r := by
  intro r h
  simp only [md, List.mem_cons, List.not_mem_nil, or_false] at h
  rcases h with rfl | rfl | rfl | rfl | rfl | rfl | rfl | rfl | rfl | rfl | rfl | rfl | rfl | rfl | rfl | rfl | rfl | rfl | rfl
  · exact cris_whole
  · exact cris_size
  · exact crhas_only
  · exact cris_cube
  · exact crcheck_cube
  · exact crcheck_cubes
  · exact crdistance
  · exact crconsensus
  · exact crknown_to_both
  · exact crknown_sign
  · exact cq_mixed
  · exact cq_draws
  · exact cq_strings
  · exact cq_in
  · exact cq_cube
  · exact cq_near
  · exact cq_in_both
  · exact cq_right
  · exact crlaw
def cnX : DL.CN := fun _ => none
theorem all_mk {l : PySem.W.OpenLaw} {w : World} {K : PySem.W.Frag} {h : Heap} {mg : Str → Option Value} {fa : Addr} (X : K.In h) (G : h.Ns mainGlobals mg) (hfa : mg "law" = some (.ref fa))
    {f0 : Addr} {oc0 kV0 dc0 pm0 cd0 ct0 : Value} {od0 an0 : Option Addr} {sl0 : Array (Option Value)}
    {f1 : Addr} {oc1 kV1 dc1 pm1 cd1 ct1 : Value} {od1 an1 : Option Addr} {sl1 : Array (Option Value)}
    {f2 : Addr} {oc2 kV2 dc2 pm2 cd2 ct2 : Value} {od2 an2 : Option Addr} {sl2 : Array (Option Value)}
    {f3 : Addr} {oc3 kV3 dc3 pm3 cd3 ct3 : Value} {od3 an3 : Option Addr} {sl3 : Array (Option Value)}
    {f4 : Addr} {oc4 kV4 dc4 pm4 cd4 ct4 : Value} {od4 an4 : Option Addr} {sl4 : Array (Option Value)}
    {f5 : Addr} {oc5 kV5 dc5 pm5 cd5 ct5 : Value} {od5 an5 : Option Addr} {sl5 : Array (Option Value)}
    {f6 : Addr} {oc6 kV6 dc6 pm6 cd6 ct6 : Value} {od6 an6 : Option Addr} {sl6 : Array (Option Value)}
    {f7 : Addr} {oc7 kV7 dc7 pm7 cd7 ct7 : Value} {od7 an7 : Option Addr} {sl7 : Array (Option Value)}
    {f8 : Addr} {oc8 kV8 dc8 pm8 cd8 ct8 : Value} {od8 an8 : Option Addr} {sl8 : Array (Option Value)}
    {f9 : Addr} {oc9 kV9 dc9 pm9 cd9 ct9 : Value} {od9 an9 : Option Addr} {sl9 : Array (Option Value)}
    {f10 : Addr} {oc10 kV10 dc10 pm10 cd10 ct10 : Value} {od10 an10 : Option Addr} {sl10 : Array (Option Value)}
    {f11 : Addr} {oc11 kV11 dc11 pm11 cd11 ct11 : Value} {od11 an11 : Option Addr} {sl11 : Array (Option Value)}
    {f12 : Addr} {oc12 kV12 dc12 pm12 cd12 ct12 : Value} {od12 an12 : Option Addr} {sl12 : Array (Option Value)}
    {f13 : Addr} {oc13 kV13 dc13 pm13 cd13 ct13 : Value} {od13 an13 : Option Addr} {sl13 : Array (Option Value)}
    {f14 : Addr} {oc14 kV14 dc14 pm14 cd14 ct14 : Value} {od14 an14 : Option Addr} {sl14 : Array (Option Value)}
    {f15 : Addr} {oc15 kV15 dc15 pm15 cd15 ct15 : Value} {od15 an15 : Option Addr} {sl15 : Array (Option Value)}
    {f16 : Addr} {oc16 kV16 dc16 pm16 cd16 ct16 : Value} {od16 an16 : Option Addr} {sl16 : Array (Option Value)}
    {f17 : Addr} {oc17 kV17 dc17 pm17 cd17 ct17 : Value} {od17 an17 : Option Addr} {sl17 : Array (Option Value)}
    {f18 : Addr} {oc18 kV18 dc18 pm18 cd18 ct18 : Value} {od18 an18 : Option Addr} {sl18 : Array (Option Value)}
    {t0 : Tok}
    {t1 : Tok}
    (a0 : PySem.W.nsIn K mainGlobals "is_whole" = some (some (.ref f0))) (l0 : K.lookup f0 = some ⟨oc0, od0, .func (PySem.W.fnOf "is_whole" "is_whole" (defArgs (top 6)) (defBody (top 6)) (defScope (top 6)) .none kV0 dc0 pm0 an0 cd0 ct0), sl0⟩) (c0 : PySem.W.codeIn K cd0 "is_whole" = true) (k0 : PySem.W.keepIn K (.ref f0) = true)
    (a1 : PySem.W.nsIn K mainGlobals "is_size" = some (some (.ref f1))) (l1 : K.lookup f1 = some ⟨oc1, od1, .func (PySem.W.fnOf "is_size" "is_size" (defArgs (top 7)) (defBody (top 7)) (defScope (top 7)) .none kV1 dc1 pm1 an1 cd1 ct1), sl1⟩) (c1 : PySem.W.codeIn K cd1 "is_size" = true) (k1 : PySem.W.keepIn K (.ref f1) = true)
    (a2 : PySem.W.nsIn K mainGlobals "has_only" = some (some (.ref f2))) (l2 : K.lookup f2 = some ⟨oc2, od2, .func (PySem.W.fnOf "has_only" "has_only" (defArgs (top 8)) (defBody (top 8)) (defScope (top 8)) .none kV2 dc2 pm2 an2 cd2 ct2), sl2⟩) (c2 : PySem.W.codeIn K cd2 "has_only" = true) (k2 : PySem.W.keepIn K (.ref f2) = true)
    (a3 : PySem.W.nsIn K mainGlobals "is_cube" = some (some (.ref f3))) (l3 : K.lookup f3 = some ⟨oc3, od3, .func (PySem.W.fnOf "is_cube" "is_cube" (defArgs (top 9)) (defBody (top 9)) (defScope (top 9)) .none kV3 dc3 pm3 an3 cd3 ct3), sl3⟩) (c3 : PySem.W.codeIn K cd3 "is_cube" = true) (k3 : PySem.W.keepIn K (.ref f3) = true)
    (a4 : PySem.W.nsIn K mainGlobals "check_cube" = some (some (.ref f4))) (l4 : K.lookup f4 = some ⟨oc4, od4, .func (PySem.W.fnOf "check_cube" "check_cube" (defArgs (top 10)) (defBody (top 10)) (defScope (top 10)) .none kV4 dc4 pm4 an4 cd4 ct4), sl4⟩) (c4 : PySem.W.codeIn K cd4 "check_cube" = true) (k4 : PySem.W.keepIn K (.ref f4) = true)
    (a5 : PySem.W.nsIn K mainGlobals "check_cubes" = some (some (.ref f5))) (l5 : K.lookup f5 = some ⟨oc5, od5, .func (PySem.W.fnOf "check_cubes" "check_cubes" (defArgs (top 11)) (defBody (top 11)) (defScope (top 11)) .none kV5 dc5 pm5 an5 cd5 ct5), sl5⟩) (c5 : PySem.W.codeIn K cd5 "check_cubes" = true) (k5 : PySem.W.keepIn K (.ref f5) = true)
    (a6 : PySem.W.nsIn K mainGlobals "distance" = some (some (.ref f6))) (l6 : K.lookup f6 = some ⟨oc6, od6, .func (PySem.W.fnOf "distance" "distance" (defArgs (top 12)) (defBody (top 12)) (defScope (top 12)) .none kV6 dc6 pm6 an6 cd6 ct6), sl6⟩) (c6 : PySem.W.codeIn K cd6 "distance" = true) (k6 : PySem.W.keepIn K (.ref f6) = true)
    (a7 : PySem.W.nsIn K mainGlobals "consensus" = some (some (.ref f7))) (l7 : K.lookup f7 = some ⟨oc7, od7, .func (PySem.W.fnOf "consensus" "consensus" (defArgs (top 13)) (defBody (top 13)) (defScope (top 13)) .none kV7 dc7 pm7 an7 cd7 ct7), sl7⟩) (c7 : PySem.W.codeIn K cd7 "consensus" = true) (k7 : PySem.W.keepIn K (.ref f7) = true)
    (a8 : PySem.W.nsIn K mainGlobals "_known_to_both" = some (some (.ref f8))) (l8 : K.lookup f8 = some ⟨oc8, od8, .func (PySem.W.fnOf "_known_to_both" "_known_to_both" (defArgs (top 14)) (defBody (top 14)) (defScope (top 14)) .none kV8 dc8 pm8 an8 cd8 ct8), sl8⟩) (c8 : PySem.W.codeIn K cd8 "_known_to_both" = true) (k8 : PySem.W.keepIn K (.ref f8) = true)
    (a9 : PySem.W.nsIn K mainGlobals "_known_sign" = some (some (.ref f9))) (l9 : K.lookup f9 = some ⟨oc9, od9, .func (PySem.W.fnOf "_known_sign" "_known_sign" (defArgs (top 15)) (defBody (top 15)) (defScope (top 15)) .none kV9 dc9 pm9 an9 cd9 ct9), sl9⟩) (c9 : PySem.W.codeIn K cd9 "_known_sign" = true) (k9 : PySem.W.keepIn K (.ref f9) = true)
    (a10 : PySem.W.nsIn K mainGlobals "_law_mixed" = some (some (.ref f10))) (l10 : K.lookup f10 = some ⟨oc10, od10, .func (PySem.W.fnOf "_law_mixed" "_law_mixed" (defArgs (top 17)) (defBody (top 17)) (defScope (top 17)) .none kV10 dc10 pm10 an10 cd10 ct10), sl10⟩) (c10 : PySem.W.codeIn K cd10 "_law_mixed" = true) (k10 : PySem.W.keepIn K (.ref f10) = true)
    (a11 : PySem.W.nsIn K mainGlobals "_law_draws" = some (some (.ref f11))) (l11 : K.lookup f11 = some ⟨oc11, od11, .func (PySem.W.fnOf "_law_draws" "_law_draws" (defArgs (top 18)) (defBody (top 18)) (defScope (top 18)) .none kV11 dc11 pm11 an11 cd11 ct11), sl11⟩) (c11 : PySem.W.codeIn K cd11 "_law_draws" = true) (k11 : PySem.W.keepIn K (.ref f11) = true)
    (a12 : PySem.W.nsIn K mainGlobals "_law_strings" = some (some (.ref f12))) (l12 : K.lookup f12 = some ⟨oc12, od12, .func (PySem.W.fnOf "_law_strings" "_law_strings" (defArgs (top 19)) (defBody (top 19)) (defScope (top 19)) .none kV12 dc12 pm12 an12 cd12 ct12), sl12⟩) (c12 : PySem.W.codeIn K cd12 "_law_strings" = true) (k12 : PySem.W.keepIn K (.ref f12) = true)
    (a13 : PySem.W.nsIn K mainGlobals "_law_in" = some (some (.ref f13))) (l13 : K.lookup f13 = some ⟨oc13, od13, .func (PySem.W.fnOf "_law_in" "_law_in" (defArgs (top 20)) (defBody (top 20)) (defScope (top 20)) .none kV13 dc13 pm13 an13 cd13 ct13), sl13⟩) (c13 : PySem.W.codeIn K cd13 "_law_in" = true) (k13 : PySem.W.keepIn K (.ref f13) = true)
    (a14 : PySem.W.nsIn K mainGlobals "_law_cube" = some (some (.ref f14))) (l14 : K.lookup f14 = some ⟨oc14, od14, .func (PySem.W.fnOf "_law_cube" "_law_cube" (defArgs (top 21)) (defBody (top 21)) (defScope (top 21)) .none kV14 dc14 pm14 an14 cd14 ct14), sl14⟩) (c14 : PySem.W.codeIn K cd14 "_law_cube" = true) (k14 : PySem.W.keepIn K (.ref f14) = true)
    (a15 : PySem.W.nsIn K mainGlobals "_law_near" = some (some (.ref f15))) (l15 : K.lookup f15 = some ⟨oc15, od15, .func (PySem.W.fnOf "_law_near" "_law_near" (defArgs (top 22)) (defBody (top 22)) (defScope (top 22)) .none kV15 dc15 pm15 an15 cd15 ct15), sl15⟩) (c15 : PySem.W.codeIn K cd15 "_law_near" = true) (k15 : PySem.W.keepIn K (.ref f15) = true)
    (a16 : PySem.W.nsIn K mainGlobals "_law_in_both" = some (some (.ref f16))) (l16 : K.lookup f16 = some ⟨oc16, od16, .func (PySem.W.fnOf "_law_in_both" "_law_in_both" (defArgs (top 23)) (defBody (top 23)) (defScope (top 23)) .none kV16 dc16 pm16 an16 cd16 ct16), sl16⟩) (c16 : PySem.W.codeIn K cd16 "_law_in_both" = true) (k16 : PySem.W.keepIn K (.ref f16) = true)
    (a17 : PySem.W.nsIn K mainGlobals "_law_right" = some (some (.ref f17))) (l17 : K.lookup f17 = some ⟨oc17, od17, .func (PySem.W.fnOf "_law_right" "_law_right" (defArgs (top 24)) (defBody (top 24)) (defScope (top 24)) .none kV17 dc17 pm17 an17 cd17 ct17), sl17⟩) (c17 : PySem.W.codeIn K cd17 "_law_right" = true) (k17 : PySem.W.keepIn K (.ref f17) = true)
    (a18 : PySem.W.nsIn K mainGlobals "law" = some (some (.ref f18))) (l18 : K.lookup f18 = some ⟨oc18, od18, .func (PySem.W.fnOf "law" "law" (defArgs (top 25)) (defBody (top 25)) (defScope (top 25)) .none kV18 dc18 pm18 an18 cd18 ct18), sl18⟩) (c18 : PySem.W.codeIn K cd18 "law" = true) (k18 : PySem.W.keepIn K (.ref f18) = true)
    (g0 : PySem.W.nsIn K mainGlobals "CUBE_SIGNS" = some (some (.str "-01" t0)))
    (g1 : PySem.W.nsIn K mainGlobals "MOST_INPUTS" = some (some (.int 4 t1)))
    (z0 : PySem.W.nsIn K mainGlobals "all" = some none)
    (z1 : PySem.W.nsIn K mainGlobals "bool" = some none)
    (z2 : PySem.W.nsIn K mainGlobals "int" = some none)
    (z3 : PySem.W.nsIn K mainGlobals "isinstance" = some none)
    (z4 : PySem.W.nsIn K mainGlobals "len" = some none)
    (z5 : PySem.W.nsIn K mainGlobals "range" = some none)
    (z6 : PySem.W.nsIn K mainGlobals "str" = some none)
    (z7 : PySem.W.nsIn K mainGlobals "zip" = some none)
    : ∃ fd : FuncData, (∀ (s : Shared) (v : Value), BindsTo s fd ⟨[v], []⟩ [("_law_script", v)]) ∧ ∀ base : Heap, K.In base → base.Ns mainGlobals mg → FnOk l.prog w K mg base CX0 9 fa fd ["_law_script"] (spF K cnX (run (fun _ => []) (tblOf md.rows) 9 18)) := by
  have e := hfa.symm.trans (PySem.W.mg_of X G a18)
  cases e
  have F0 := fun_mk (st := top 6) l0 c0 k0
  have b0 := F0.binds (ps := ["thing"]) fun _ _ _ _ _ _ us hl => match us, hl with | [_], _ => rfl
  have F1 := fun_mk (st := top 7) l1 c1 k1
  have b1 := F1.binds (ps := ["n"]) fun _ _ _ _ _ _ us hl => match us, hl with | [_], _ => rfl
  have F2 := fun_mk (st := top 8) l2 c2 k2
  have b2 := F2.binds (ps := ["text", "signs"]) fun _ _ _ _ _ _ us hl => match us, hl with | [_, _], _ => rfl
  have F3 := fun_mk (st := top 9) l3 c3 k3
  have b3 := F3.binds (ps := ["thing", "n"]) fun _ _ _ _ _ _ us hl => match us, hl with | [_, _], _ => rfl
  have F4 := fun_mk (st := top 10) l4 c4 k4
  have b4 := F4.binds (ps := ["cube"]) fun _ _ _ _ _ _ us hl => match us, hl with | [_], _ => rfl
  have F5 := fun_mk (st := top 11) l5 c5 k5
  have b5 := F5.binds (ps := ["c", "d"]) fun _ _ _ _ _ _ us hl => match us, hl with | [_, _], _ => rfl
  have F6 := fun_mk (st := top 12) l6 c6 k6
  have b6 := F6.binds (ps := ["c", "d"]) fun _ _ _ _ _ _ us hl => match us, hl with | [_, _], _ => rfl
  have F7 := fun_mk (st := top 13) l7 c7 k7
  have b7 := F7.binds (ps := ["c", "d"]) fun _ _ _ _ _ _ us hl => match us, hl with | [_, _], _ => rfl
  have F8 := fun_mk (st := top 14) l8 c8 k8
  have b8 := F8.binds (ps := ["c", "d"]) fun _ _ _ _ _ _ us hl => match us, hl with | [_, _], _ => rfl
  have F9 := fun_mk (st := top 15) l9 c9 k9
  have b9 := F9.binds (ps := ["a", "b"]) fun _ _ _ _ _ _ us hl => match us, hl with | [_, _], _ => rfl
  have F10 := fun_mk (st := top 17) l10 c10 k10
  have b10 := F10.binds (ps := ["_law_seed", "_law_k"]) fun _ _ _ _ _ _ us hl => match us, hl with | [_, _], _ => rfl
  have F11 := fun_mk (st := top 18) l11 c11 k11
  have b11 := F11.binds (ps := ["_law_script", "_law_many"]) fun _ _ _ _ _ _ us hl => match us, hl with | [_, _], _ => rfl
  have F12 := fun_mk (st := top 19) l12 c12 k12
  have b12 := F12.binds (ps := ["_law_n", "_law_signs"]) fun _ _ _ _ _ _ us hl => match us, hl with | [_, _], _ => rfl
  have F13 := fun_mk (st := top 20) l13 c13 k13
  have b13 := F13.binds (ps := ["_law_cube_here", "_law_inner"]) fun _ _ _ _ _ _ us hl => match us, hl with | [_, _], _ => rfl
  have F14 := fun_mk (st := top 21) l14 c14 k14
  have b14 := F14.binds (ps := ["_law_number", "_law_n"]) fun _ _ _ _ _ _ us hl => match us, hl with | [_, _], _ => rfl
  have F15 := fun_mk (st := top 22) l15 c15 k15
  have b15 := F15.binds (ps := ["_law_c", "_law_d", "_law_at"]) fun _ _ _ _ _ _ us hl => match us, hl with | [_, _, _], _ => rfl
  have F16 := fun_mk (st := top 23) l16 c16 k16
  have b16 := F16.binds (ps := ["_law_c", "_law_d", "_law_cube_here"]) fun _ _ _ _ _ _ us hl => match us, hl with | [_, _, _], _ => rfl
  have F17 := fun_mk (st := top 24) l17 c17 k17
  have b17 := F17.binds (ps := ["_law_c", "_law_d", "_law_told"]) fun _ _ _ _ _ _ us hl => match us, hl with | [_, _, _], _ => rfl
  have F18 := fun_mk (st := top 25) l18 c18 k18
  have b18 := F18.binds (ps := ["_law_script"]) fun _ _ _ _ _ _ us hl => match us, hl with | [_], _ => rfl
  have T : TopOk cnX K mg md := by
    refine ⟨fun r hr => ?_, fun x hx => ?_, fun p hp => ?_⟩
    · simp only [md, List.mem_cons, List.not_mem_nil, or_false] at hr
      rcases hr with rfl | rfl | rfl | rfl | rfl | rfl | rfl | rfl | rfl | rfl | rfl | rfl | rfl | rfl | rfl | rfl | rfl | rfl | rfl
      · exact ⟨_, _, PySem.W.mg_of X G a0, F0, b0⟩
      · exact ⟨_, _, PySem.W.mg_of X G a1, F1, b1⟩
      · exact ⟨_, _, PySem.W.mg_of X G a2, F2, b2⟩
      · exact ⟨_, _, PySem.W.mg_of X G a3, F3, b3⟩
      · exact ⟨_, _, PySem.W.mg_of X G a4, F4, b4⟩
      · exact ⟨_, _, PySem.W.mg_of X G a5, F5, b5⟩
      · exact ⟨_, _, PySem.W.mg_of X G a6, F6, b6⟩
      · exact ⟨_, _, PySem.W.mg_of X G a7, F7, b7⟩
      · exact ⟨_, _, PySem.W.mg_of X G a8, F8, b8⟩
      · exact ⟨_, _, PySem.W.mg_of X G a9, F9, b9⟩
      · exact ⟨_, _, PySem.W.mg_of X G a10, F10, b10⟩
      · exact ⟨_, _, PySem.W.mg_of X G a11, F11, b11⟩
      · exact ⟨_, _, PySem.W.mg_of X G a12, F12, b12⟩
      · exact ⟨_, _, PySem.W.mg_of X G a13, F13, b13⟩
      · exact ⟨_, _, PySem.W.mg_of X G a14, F14, b14⟩
      · exact ⟨_, _, PySem.W.mg_of X G a15, F15, b15⟩
      · exact ⟨_, _, PySem.W.mg_of X G a16, F16, b16⟩
      · exact ⟨_, _, PySem.W.mg_of X G a17, F17, b17⟩
      · exact ⟨_, _, PySem.W.mg_of X G a18, F18, b18⟩
    · simp only [md, bls0, List.mem_cons, List.not_mem_nil, or_false] at hx
      rcases hx with rfl | rfl | rfl | rfl | rfl | rfl | rfl | rfl
      · exact PySem.W.mg_none_of X G z0
      · exact PySem.W.mg_none_of X G z1
      · exact PySem.W.mg_none_of X G z2
      · exact PySem.W.mg_none_of X G z3
      · exact PySem.W.mg_none_of X G z4
      · exact PySem.W.mg_none_of X G z5
      · exact PySem.W.mg_none_of X G z6
      · exact PySem.W.mg_none_of X G z7
    · simp only [md, gcs, List.mem_cons, List.not_mem_nil, or_false] at hp
      rcases hp with rfl | rfl
      · exact ⟨_, .str "-01", PySem.W.mg_of X G g0, ⟨_, rfl⟩, fun _ _ _ => OR.str [45, 48, 49]⟩
      · exact ⟨_, .int 4, PySem.W.mg_of X G g1, ⟨_, rfl⟩, fun _ _ _ => .int _⟩
  exact ⟨PySem.W.fnOf "law" "law" (defArgs (top 25)) (defBody (top 25)) (defScope (top 25)) .none kV18 dc18 pm18 an18 cd18 ct18, fun s v => .of_eq rfl, fun base _ _ => lev (fl := fun _ => []) T comp 9 18 rlaw _ _ rfl (PySem.W.mg_of X G a18) F18⟩
end LR

namespace DL
open PySem
def c_law_k04 (f_q_draws : Nat) (f_q_cube : Nat) (f_q_near : Nat) (f_consensus : Nat) (f_q_right : Nat) : Ss := (Ss.cons (Sx.set 1 (Ex.call f_q_draws (Exs.cons (Ex.slot 0) (Exs.cons (Ex.lit (D.int 19)) (Exs.nil))))) (Ss.cons (Sx.set 2 (Ex.op2 (B2.add) (Ex.lit (D.int 1)) (Ex.op2 (B2.mod) (Ex.bcall (BF.int1) (Exs.cons (Ex.idx (Ex.slot 1) (Ex.lit (D.int 0))) (Exs.nil))) (Ex.lit (D.int 4))))) (Ss.cons (Sx.for [3] (It.rng (Ex.lit (D.int 0)) (Ex.lit (D.int 6))) (Ss.cons (Sx.set 4 (Ex.call f_q_cube (Exs.cons (Ex.idx (Ex.slot 1) (Ex.op2 (B2.add) (Ex.op2 (B2.mul) (Ex.lit (D.int 3)) (Ex.slot 3)) (Ex.lit (D.int 1)))) (Exs.cons (Ex.slot 2) (Exs.nil))))) (Ss.cons (Sx.set 5 (Ex.call f_q_cube (Exs.cons (Ex.idx (Ex.slot 1) (Ex.op2 (B2.add) (Ex.op2 (B2.mul) (Ex.lit (D.int 3)) (Ex.slot 3)) (Ex.lit (D.int 2)))) (Exs.cons (Ex.slot 2) (Exs.nil))))) (Ss.cons (Sx.iff (Tx.val (Ex.op2 (B2.gt) (Ex.op2 (B2.mod) (Ex.bcall (BF.int1) (Exs.cons (Ex.idx (Ex.slot 1) (Ex.op2 (B2.add) (Ex.op2 (B2.mul) (Ex.lit (D.int 3)) (Ex.slot 3)) (Ex.lit (D.int 3)))) (Exs.nil))) (Ex.lit (D.int 3))) (Ex.lit (D.int 0)))) (Ss.cons (Sx.set 5 (Ex.call f_q_near (Exs.cons (Ex.slot 4) (Exs.cons (Ex.slot 5) (Exs.cons (Ex.op2 (B2.mod) (Ex.bcall (BF.int1) (Exs.cons (Ex.op2 (B2.fdiv) (Ex.idx (Ex.slot 1) (Ex.op2 (B2.add) (Ex.op2 (B2.mul) (Ex.lit (D.int 3)) (Ex.slot 3)) (Ex.lit (D.int 3)))) (Ex.lit (D.int 3))) (Exs.nil))) (Ex.slot 2)) (Exs.nil)))))) (Ss.nil)) (Ss.nil)) (Ss.cons (Sx.set 6 (Ex.call f_consensus (Exs.cons (Ex.slot 4) (Exs.cons (Ex.slot 5) (Exs.nil))))) (Ss.cons (Sx.iff (Tx.not (Tx.val (Ex.call f_q_right (Exs.cons (Ex.slot 4) (Exs.cons (Ex.slot 5) (Exs.cons (Ex.slot 6) (Exs.nil))))))) (Ss.cons (Sx.ret (Ex.lit (D.bl false))) (Ss.nil)) (Ss.nil)) (Ss.cons (Sx.iff (Tx.val (Ex.op2 (B2.ne) (Ex.call f_consensus (Exs.cons (Ex.slot 5) (Exs.cons (Ex.slot 4) (Exs.nil)))) (Ex.slot 6))) (Ss.cons (Sx.ret (Ex.lit (D.bl false))) (Ss.nil)) (Ss.nil)) (Ss.nil)))))))) (Ss.cons (Sx.ret (Ex.lit (D.bl true))) (Ss.nil)))))
theorem inL_cons (x y : Nat) (a b : List Nat) : inL (x :: a) (y :: b) = ((x == 45 || x == y) && inL a b) := by
  unfold inL
  rw [List.length_cons, List.range_succ_eq_map, List.all_cons, List.all_map]
  rfl
theorem holdsL_cons (x y : Nat) (a b : List Nat) : holdsL (x :: a) (y :: b) = ((45 == x || y == x) && holdsL a b) := by
  unfold holdsL
  rw [List.zip_cons_cons, List.all_cons]
theorem in_holds : ∀ a b : List Nat, b.length = a.length → inL a b = holdsL a b
  | [], _, _ => by simp [inL, holdsL]
  | x :: a, [], h => by cases h
  | x :: a, y :: b, h => by
    rw [inL_cons, holdsL_cons, in_holds a b (Nat.succ.inj h), Bool.beq_comm (a := 45), Bool.beq_comm (a := y)]
theorem notin_strs (t : List Nat) (o : Bool) (xs : List (List Nat)) : run2 .notin (.str t) (.lst o (toD xs)) = some (.bl (!(xs.contains t))) := by
  have h : run2 .notin (.str t) (.lst o (toD xs)) = if isFlat (.str t) && (toD xs).all isFlat then some (.bl (!((toD xs).any fun y => deq y (.str t)))) else none := by
    match t with
    | [] => rfl
    | [_] => rfl
    | _ :: _ :: _ => rfl
  rw [h, flat_strs, any_strs]
  rfl
theorem cubes_mem {n : Nat} {t : List Nat} (h : isCube n t) : (stringsL [45, 48, 49] n).contains t = true := by
  rw [List.contains_iff_mem]
  refine stringsL_mem h.1 fun c hc => ?_
  have := h.2 c hc
  simp [signs] at this ⊢
  omega
theorem cubes_is {n : Nat} {t : List Nat} (h : t ∈ stringsL [45, 48, 49] n) : isCube n t := by
  refine ⟨stringsL_at _ _ _ h, fun c hc => ?_⟩
  have := stringsL_sg _ _ _ h c hc
  simp [signs] at this ⊢
  omega

theorem ks_comm (a b : Nat) : ksL a b = ksL b a := by
  unfold ksL
  by_cases h : a = 45
  · by_cases g : b = 45
    · simp [h, g]
    · simp [h, g]
  · by_cases g : b = 45
    · simp [h, g]
    · by_cases q : a = b
      · subst q; simp
      · have q' : ¬ b = a := fun z => q z.symm
        simp [h, g, q, q']
theorem kbL_cons (x y : Nat) (a b : List Nat) : kbL (x :: a) (y :: b) = ksL x y :: kbL a b := rfl
theorem kb_comm : ∀ a b : List Nat, kbL a b = kbL b a
  | [], [] => rfl
  | [], _ :: _ => rfl
  | _ :: _, [] => rfl
  | x :: a, y :: b => by rw [kbL_cons, kbL_cons, kb_comm a b, ks_comm x y]
theorem dist_comm : ∀ a b : List Nat, distL a b = distL b a
  | [], [] => rfl
  | [], _ :: _ => rfl
  | _ :: _, [] => rfl
  | x :: a, y :: b => by
    have ih := dist_comm a b
    unfold distL at ih ⊢
    rw [List.zip_cons_cons, List.zip_cons_cons, List.filter_cons, List.filter_cons]
    have e : (!(x == 45 || y == 45) && !(x == y)) = (!(y == 45 || x == 45) && !(y == x)) := by
      rw [Bool.or_comm, Bool.beq_comm (a := x) (b := y)]
    simp only [e]
    split
    · rw [List.length_cons, List.length_cons, ih]
    · exact ih
theorem consD_comm (a b : List Nat) : consD a b = consD b a := by
  unfold consD
  rw [dist_comm, kb_comm]
/-- the same, quick to reckon -/
def inZ : List Nat → List Nat → Bool
  | a :: as, b :: bs => (Nat.beq a 45 || Nat.beq a b) && inZ as bs
  | _, _ => true
theorem inZ_eq : ∀ a b : List Nat, b.length = a.length → inL a b = inZ a b
  | [], _, _ => by simp [inL, inZ]
  | x :: a, [], h => by cases h
  | x :: a, y :: b, h => by
    have bq : ∀ u v : Nat, (u == v) = Nat.beq u v := fun u v => by rw [Bool.eq_iff_iff, beq_iff_eq, Nat.beq_eq]
    rw [inL_cons, inZ, inZ_eq a b (Nat.succ.inj h), bq, bq]
def bothZ (pts : List (List Nat)) (c d x : List Nat) : Bool := pts.all fun p => !inZ x p || (inZ c p || inZ d p)
theorem bothZ_eq {n : Nat} {c d x : List Nat} (h : isCube n c) (g : isCube n d) (f : isCube n x) : bothL c d x = bothZ (stringsL [48, 49] n) c d x := by
  have hl := h.1
  have gl := g.1
  have fl := f.1
  unfold bothL bothZ
  rw [hl]
  rw [Bool.eq_iff_iff, List.all_eq_true, List.all_eq_true]
  refine forall_congr' fun p => forall_congr' fun hp => ?_
  have pl := stringsL_at _ _ _ hp
  rw [inZ_eq x p (by omega), inZ_eq c p (by omega), inZ_eq d p (by omega)]
  cases inZ x p <;> cases inZ c p <;> cases inZ d p <;> simp
def stepZ (pts cs : List (List Nat)) (a b : List Nat) : Bool := Nat.beq (manyL a b) (distL a b) && (!(Nat.beq (distL a b) 1) || (bothZ pts a b (kbL a b) && cs.all fun x => inZ a x || (inZ b x || (inZ (kbL a b) x || !bothZ pts a b x))))
def rightL (c d : List Nat) : Prop := manyL c d = distL c d ∧ (distL c d = 1 → bothL c d (kbL c d) = true ∧ ∀ x, isCube c.length x → bothL c d x = true → (inL c x || (inL d x || inL (kbL c d) x)) = true)
theorem step_right {n : Nat} {a b : List Nat} (h : isCube n a) (g : isCube n b) (s : stepZ (stringsL [48, 49] n) (stringsL [45, 48, 49] n) a b = true) : rightL a b := by
  have kc := kb_cube h g
  have hl := h.1
  have gl := g.1
  have kl := kc.1
  unfold stepZ at s
  rw [Bool.and_eq_true] at s
  refine ⟨Nat.eq_of_beq_eq_true s.1, fun h1 => ?_⟩
  have s2 := s.2
  have e1 : Nat.beq (distL a b) 1 = true := by rw [h1]; rfl
  rw [e1, Bool.not_true, Bool.false_or, Bool.and_eq_true] at s2
  refine ⟨by rw [bothZ_eq h g kc]; exact s2.1, fun x hx hb => ?_⟩
  rw [hl] at hx
  have xl := hx.1
  have := List.all_eq_true.mp s2.2 x (List.contains_iff_mem.mp (cubes_mem hx))
  rw [bothZ_eq h g hx] at hb
  rw [hb, Bool.not_true, Bool.or_false] at this
  rw [inZ_eq a x (by omega), inZ_eq b x (by omega), inZ_eq (kbL a b) x (by omega)]
  exact this
section
variable {Φ : Tb}
theorem near_is (n : Nat) (c d : List Nat) (at' : Int) (h : isCube n c) (g : isCube n d) (h4 : n ≤ 4) : ∃ t, isCube n t ∧ runF Φ ⟨3, 5, c_q_near⟩ [.str c, .str d, .int at'] = .ok (.str t) [none, none, none] := by
  have i0 : inR 0 = true := inR_of (by omega) (by omega)
  have hcl := h.1
  have hdl := g.1
  have i1 : inR (c.length : Int) = true := inR_of (by omega) (by omega)
  have ol : okLen c.length = true := okLen_of (by omega)
  have od : okLen d.length = true := okLen_of (by omega)
  have o2 : okLen 2 = true := okLen_of (by omega)
  let bd : Ss := .cons (.iff (.and (.val (.op2 .eq (.slot 4) (.slot 2))) (.val (.op2 .ne (.idx (.slot 0) (.slot 4)) (.lit (.str [45]))))) (.cons (.set 3 (.op2 .add (.slot 3) (.idx (.lit (.str [49, 48])) (.bcall .int1 (.cons (.idx (.slot 0) (.slot 4)) .nil))))) .nil) (.cons (.iff (.val (.op2 .eq (.idx (.slot 0) (.slot 4)) (.lit (.str [45])))) (.cons (.set 3 (.op2 .add (.slot 3) (.idx (.slot 1) (.slot 4)))) .nil) (.cons (.iff (.val (.op2 .eq (.idx (.slot 1) (.slot 4)) (.lit (.str [45])))) (.cons (.set 3 (.op2 .add (.slot 3) (.lit (.str [45])))) .nil) (.cons (.set 3 (.op2 .add (.slot 3) (.idx (.slot 0) (.slot 4)))) .nil)) .nil)) .nil)) .nil
  obtain ⟨e', hh, t, z, rfl, h2⟩ := loop_nx (bind := bindT [4]) (body := fun e => evB Φ [false, false, false] bd e) (ds := rangeD 0 (c.length : Nat)) (e := [some (.str c), some (.str d), some (.int at'), some (.str []), none])
    (fun j e => ∃ t z, e = [some (.str c), some (.str d), some (.int at'), some (.str t), z] ∧ isCube j t) ⟨[], none, rfl, rfl, fun _ q => by simp at q⟩ (by
      rintro j y e hj ⟨t, z, rfl, h2⟩
      obtain ⟨hj1, rfl⟩ := range_get hj
      obtain ⟨x, hx⟩ : ∃ x, c[j]? = some x := ⟨c[j], by simp [hj1]⟩
      obtain ⟨w, hw⟩ : ∃ w, d[j]? = some w := ⟨d[j]'(by omega), by simp [show j < d.length by omega]⟩
      have pa : place c.length (j : Int) = some j := place_nat hj1
      have pb : place d.length (j : Int) = some j := place_nat (by omega)
      have ot : okLen (t.length + 1) = true := okLen_of (by rw [h2.1]; omega)
      have ix : item (.str c) (.int j) = some (.str [x]) := by simp [item, ol, pa, hx]
      have iw : item (.str d) (.int j) = some (.str [w]) := by simp [item, od, pb, hw]
      have j0 : item (.str [49, 48]) (.int 0) = some (.str [49]) := by simp [item, o2, place]
      have j1 : item (.str [49, 48]) (.int 1) = some (.str [48]) := by simp [item, o2, place]
      have sx := h.2 x (List.mem_of_getElem? hx)
      have sw := g.2 w (List.mem_of_getElem? hw)
      have fin : ∀ r, r ∈ signs → evB Φ [false, false, false] bd [some (.str c), some (.str d), some (.int at'), some (.str t), some (.int j)] = .nx [some (.str c), some (.str d), some (.int at'), some (.str (t ++ [r])), some (.int j)] → ∃ e1 e2, bindT [4] (.int j) [some (.str c), some (.str d), some (.int at'), some (.str t), z] = some e1 ∧ (evB Φ [false, false, false] bd e1 = .nx e2 ∨ evB Φ [false, false, false] bd e1 = .cnt e2) ∧ ∃ t z, e2 = [some (.str c), some (.str d), some (.int at'), some (.str t), z] ∧ isCube (j + 1) t :=
        fun r hr hq => ⟨_, _, rfl, .inl hq, t ++ [r], _, rfl, h2.snoc hr⟩
      by_cases q : x = 45
      · refine fin w sw ?_
        simp [bd, evB, evS, evE, evO, evT, evD, opd, look, Opd.get, gets, runB, runB1, runB2, runB3, run2, run1, done, Res.bind, Res.out, Out.then, lkAt, imm, taken, truth, isFlat, mixed, deq, callD, handed, putBack, wipeE, chg, sub, put, ix, iw, ot, q]
      · by_cases a1 : (j : Int) = at'
        · subst a1
          have : x = 48 ∨ x = 49 := by
            simp [signs] at sx
            omega
          rcases this with rfl | rfl
          · refine fin 49 (by decide) ?_
            simp [bd, evB, evS, evE, evO, evT, evD, opd, look, Opd.get, gets, runB, runB1, runB2, runB3, run2, run1, done, Res.bind, Res.out, Out.then, lkAt, imm, taken, truth, isFlat, mixed, deq, callD, handed, putBack, wipeE, chg, sub, put, ix, iw, ot, j0, j1]
          · refine fin 48 (by decide) ?_
            simp [bd, evB, evS, evE, evO, evT, evD, opd, look, Opd.get, gets, runB, runB1, runB2, runB3, run2, run1, done, Res.bind, Res.out, Out.then, lkAt, imm, taken, truth, isFlat, mixed, deq, callD, handed, putBack, wipeE, chg, sub, put, ix, iw, ot, j0, j1]
        · by_cases b1 : w = 45
          · refine fin 45 (by decide) ?_
            simp [bd, evB, evS, evE, evO, evT, evD, opd, look, Opd.get, gets, runB, runB1, runB2, runB3, run2, run1, done, Res.bind, Res.out, Out.then, lkAt, imm, taken, truth, isFlat, mixed, deq, callD, handed, putBack, wipeE, chg, sub, put, ix, iw, ot, q, a1, b1]
          · refine fin x sx ?_
            simp [bd, evB, evS, evE, evO, evT, evD, opd, look, Opd.get, gets, runB, runB1, runB2, runB3, run2, run1, done, Res.bind, Res.out, Out.then, lkAt, imm, taken, truth, isFlat, mixed, deq, callD, handed, putBack, wipeE, chg, sub, put, ix, iw, ot, q, a1, b1])
  rw [range_len, hcl] at h2
  refine ⟨t, h2, ?_⟩
  refine runF_ret rfl rfl ⟨[some (.str c), some (.str d), some (.int at'), some (.str t), z], ?_⟩
  show evB Φ [false, false, false] c_q_near [some (.str c), some (.str d), some (.int at'), none, none] = _
  have e0 : c_q_near = .cons (.set 3 (.lit (.str []))) (.cons (.for [4] (.rng (.lit (.int 0)) (.bcall .len (.cons (.slot 0) .nil))) bd) (.cons (.ret (.slot 3)) .nil)) := rfl
  rw [e0, evB_nx (e' := [some (.str c), some (.str d), some (.int at'), some (.str []), none]) rfl]
  have ev : evI Φ (fun _ => true) (.rng (.lit (.int 0)) (.bcall .len (.cons (.slot 0) .nil))) [some (.str c), some (.str d), some (.int at'), some (.str []), none] = .ok ⟨rangeD 0 (c.length : Nat), [some (.str c), some (.str d), some (.int at'), some (.str []), none], none⟩ :=
    evI_rng (x := .val (.int 0)) (y := .val (.int c.length)) (e1 := [some (.str c), some (.str d), some (.int at'), some (.str []), none]) rfl (opd_bc (len_slot rfl (by omega))) rfl rfl i0 i1
  rw [evB_nx (e' := [some (.str c), some (.str d), some (.int at'), some (.str t), z]) (by rw [evS_for rfl ev]; exact hh)]
  exact evB_ret rfl
variable {S B I : Nat}
def bothE (B k : Nat) : Tx := .val (.call B (.cons (.slot 0) (.cons (.slot 1) (.cons (.slot k) .nil))))
def innT (I : Nat) : Tx := .and (.not (.val (.call I (.cons (.slot 0) (.cons (.slot 7) .nil))))) (.and (.not (.val (.call I (.cons (.slot 1) (.cons (.slot 7) .nil))))) (.not (.val (.call I (.cons (.slot 2) (.cons (.slot 7) .nil))))))
def rB4 (B I : Nat) : Ss := .cons (.iff (bothE B 7) (.cons (.iff (innT I) retF .nil) .nil) .nil) .nil
def formT (B : Nat) : Tx := .or (.not (.val (.bcall (.isinst "str") (.cons (.slot 2) .nil)))) (.or (.val (.op2 .notin (.slot 2) (.slot 4))) (.not (bothE B 2)))
def farT : Tx := .val (.op2 .ne (.slot 5) (.lit (.int 1)))
theorem right_body (S B I : Nat) : c_q_right S B I = .cons (.set 3 (.bcall .len (.cons (.slot 0) .nil))) (.cons (.set 4 (.call S (.cons (.slot 3) (.cons (.lit (.str [45, 48, 49])) .nil)))) (.cons (.set 5 (.bcall .len (.cons (.lc (.slot 6) [6] (.rng (.lit (.int 0)) (.slot 3)) (oppE 0 1 6)) .nil)))
  (.cons (.iff farT (.cons (.ret (.op2 .is (.slot 2) (.lit .non))) .nil) .nil) (.cons (.iff (formT B) retF .nil) (.cons (.for [7] (.seq (.slot 4)) (rB4 B I)) (.cons (.ret (.lit (.bl true))) .nil)))))) := rfl
theorem vboth (hB : ∀ n c d x, isCube n c → isCube n d → isCube n x → n ≤ 4 → Φ.fn B [.str c, .str d, .str x] = .ok (.bl (bothL c d x)) [none, none, none]) {e : Env} {k n : Nat} {c d x : List Nat} (h : isCube n c) (g : isCube n d) (f : isCube n x) (h4 : n ≤ 4) (l0 : look e 0 = some (.str c)) (l1 : look e 1 = some (.str d)) (lk : look e k = some (.str x)) : evT Φ (bothE B k) e = .ok (bothL c d x, e) :=
  vcall (call3s l0 l1 lk rfl rfl rfl (hB n c d x h g f h4))
theorem right_ok (hS : StrF Φ S) (hI : InF Φ I) (hB : ∀ n c d x, isCube n c → isCube n d → isCube n x → n ≤ 4 → Φ.fn B [.str c, .str d, .str x] = .ok (.bl (bothL c d x)) [none, none, none])
    (n : Nat) (c d : List Nat) (h : isCube n c) (g : isCube n d) (h4 : n ≤ 4) (hr : rightL c d) : runF Φ ⟨3, 8, c_q_right S B I⟩ [.str c, .str d, consD c d] = .ok (.bl true) [none, none, none] := by
  have hl := h.1
  have gl := g.1
  have mi : imm (consD c d) = true := by
    unfold consD
    split <;> rfl
  refine runF_ret rfl (by simp [imms, imm, mi]) ?_
  show ∃ e, evB Φ [false, false, false] (c_q_right S B I) [some (.str c), some (.str d), some (consD c d), none, none, none, none, none] = _
  obtain ⟨o, ho⟩ := hS c.length [45, 48, 49] (by omega) (by decide)
  have s3 : evS Φ [false, false, false] (.set 3 (.bcall .len (.cons (.slot 0) .nil))) [some (.str c), some (.str d), some (consD c d), none, none, none, none, none] = .nx [some (.str c), some (.str d), some (consD c d), some (.int c.length), none, none, none, none] := set_ok rfl (len_slot rfl (by omega))
  have s4 : evS Φ [false, false, false] (.set 4 (.call S (.cons (.slot 3) (.cons (.lit (.str [45, 48, 49])) .nil)))) [some (.str c), some (.str d), some (consD c d), some (.int c.length), none, none, none, none] = .nx [some (.str c), some (.str d), some (consD c d), some (.int c.length), some (.lst o (toD (stringsL [45, 48, 49] c.length))), none, none, none] :=
    set_ok rfl (callg (os := [.ref 3, .val (.str [45, 48, 49])]) (evO_cons (opd_slot (d := .int c.length) rfl) (evO_cons rfl rfl)) rfl rfl ho)
  have s5 : evS Φ [false, false, false] (.set 5 (.bcall .len (.cons (.lc (.slot 6) [6] (.rng (.lit (.int 0)) (.slot 3)) (oppE 0 1 6)) .nil))) [some (.str c), some (.str d), some (consD c d), some (.int c.length), some (.lst o (toD (stringsL [45, 48, 49] c.length))), none, none, none] = .nx [some (.str c), some (.str d), some (consD c d), some (.int c.length), some (.lst o (toD (stringsL [45, 48, 49] c.length))), some (.int (manyL c d)), none, none] :=
    set_ok rfl (many_ok (n := c.length) (e0 := [some (.str c), some (.str d), some (consD c d), some (.int c.length), some (.lst o (toD (stringsL [45, 48, 49] c.length))), none, none, none]) rfl (by omega) (by omega) rfl rfl rfl rfl (fun _ => rfl) (fun _ => rfl) (fun _ => rfl) fun _ => rfl)
  rw [hr.1] at s5
  rw [right_body, evB_nx s3, evB_nx s4, evB_nx s5]
  have ft : evT Φ farT [some (.str c), some (.str d), some (consD c d), some (.int c.length), some (.lst o (toD (stringsL [45, 48, 49] c.length))), some (.int (distL c d)), none, none] = .ok (!(distL c d == 1), [some (.str c), some (.str d), some (consD c d), some (.int c.length), some (.lst o (toD (stringsL [45, 48, 49] c.length))), some (.int (distL c d)), none, none]) := by
    refine valg (d := .bl (!(distL c d == 1))) (opd_op2 (op2g (o1 := .ref 5) (o2 := .val (.int 1)) (d1 := .int (distL c d)) (opd_slot rfl) rfl rfl rfl ?_)) rfl rfl
    show some (D.bl (!(((distL c d : Nat) : Int) == 1))) = _
    have : (((distL c d : Nat) : Int) == 1) = (distL c d == 1) := by
      rw [Bool.eq_iff_iff, beq_iff_eq, beq_iff_eq]
      omega
    rw [this]
  by_cases q : distL c d = 1
  · have e1 : consD c d = .str (kbL c d) := if_pos q
    have kc := kb_cube h g
    obtain ⟨r1, r2⟩ := hr.2 q
    rw [show (!(distL c d == 1)) = false by rw [q]; rfl] at ft
    rw [evB_nx (iff_no ft), e1]
    have t1 : ∀ e : Env, look e 0 = some (.str c) → look e 1 = some (.str d) → look e 2 = some (.str (kbL c d)) → look e 4 = some (.lst o (toD (stringsL [45, 48, 49] c.length))) → evT Φ (formT B) e = .ok (false, e) := fun e l0 l1 l2 l4 =>
      or_no (not_of (v := true) (valg (d := .bl true) (opd_bc (bc1 (o := .ref 2) (d := .str (kbL c d)) (opd_slot l2) l2 (by
        show (isOf "str" (.str (kbL c d))).map D.bl = _
        rw [str_str]; rfl))) rfl rfl)) (or_no (valg (d := .bl false) (opd_op2 (op2g (o1 := .ref 2) (o2 := .ref 4) (opd_slot l2) (opd_slot l4) l2 l4 (by
        rw [notin_strs, cubes_mem (by rw [hl]; exact kc)]; rfl))) rfl rfl) (not_of (v := true) (by rw [vboth hB h g kc h4 l0 l1 l2, r1])))
    rw [evB_nx (iff_no (t1 _ rfl rfl rfl rfl))]
    have ev : evI Φ (fun _ => true) (.seq (.slot 4)) [some (.str c), some (.str d), some (.str (kbL c d)), some (.int c.length), some (.lst o (toD (stringsL [45, 48, 49] c.length))), some (.int (distL c d)), none, none] = .ok ⟨toD (stringsL [45, 48, 49] c.length), [some (.str c), some (.str d), some (.str (kbL c d)), some (.int c.length), some (.lst false (toD (stringsL [45, 48, 49] c.length))), some (.int (distL c d)), none, none], none⟩ := by
      cases o with
      | true =>
        simp only [evI, opd, look, Res.bind, walk1, items, List.getElem?_cons_succ, List.getElem?_cons_zero, Option.join]
        simp [imm, fz, fzs_strs]
      | false =>
        simp only [evI, opd, look, Res.bind, walk1, items, List.getElem?_cons_succ, List.getElem?_cons_zero, Option.join]
        simp [imm, imms_strs]
    obtain ⟨u', l1⟩ := loop_nxs (Φ := Φ) (lk := [false, false, false]) (i := 7) (b := rB4 B I) (E := fun u => [some (.str c), some (.str d), some (.str (kbL c d)), some (.int c.length), some (.lst false (toD (stringsL [45, 48, 49] c.length))), some (.int (distL c d)), none, u]) (stringsL [45, 48, 49] c.length) (fun _ _ => rfl) (by
      intro x hx
      have qx := cubes_is hx
      have lx := qx.1
      have lk' := kc.1
      rw [hl] at qx
      have td := vboth hB (e := [some (.str c), some (.str d), some (.str (kbL c d)), some (.int c.length), some (.lst false (toD (stringsL [45, 48, 49] c.length))), some (.int (distL c d)), none, some (.str x)]) (k := 7) h g qx h4 rfl rfl rfl
      refine evB_one ?_
      cases q : bothL c d x with
      | false => exact iff_no (by rw [td, q])
      | true =>
        rw [q] at td
        rw [iff_ok td]
        have := r2 x (by rw [hl]; exact qx) q
        refine evB_one (iff_no ?_)
        rw [innT, and_of (not_of (vin hI (a := 0) (b := 7) rfl rfl (by omega) (by omega))) (and_of (not_of (vin hI (a := 1) (b := 7) rfl rfl (by omega) (by omega))) (not_of (vin hI (a := 2) (b := 7) rfl rfl (by omega) (by omega))))]
        have q3 : (!inL c x && (!inL d x && !inL (kbL c d) x)) = false := by
          revert this
          cases inL c x <;> cases inL d x <;> cases inL (kbL c d) x <;> simp
        rw [q3]) none
    refine ⟨[some (.str c), some (.str d), some (.str (kbL c d)), some (.int c.length), some (.lst false (toD (stringsL [45, 48, 49] c.length))), some (.int (distL c d)), none, u'], ?_⟩
    rw [evB_nx (e' := [some (.str c), some (.str d), some (.str (kbL c d)), some (.int c.length), some (.lst false (toD (stringsL [45, 48, 49] c.length))), some (.int (distL c d)), none, u']) (by rw [evS_for rfl ev]; exact l1)]
    exact evB_ret rfl
  · have e1 : consD c d = .non := if_neg q
    have q' : (!(distL c d == 1)) = true := by simp [q]
    rw [q'] at ft
    refine ⟨[some (.str c), some (.str d), some (consD c d), some (.int c.length), some (.lst o (toD (stringsL [45, 48, 49] c.length))), some (.int (distL c d)), none, none], evB_ret ?_⟩
    rw [iff_ok ft, e1]
    refine evB_ret ?_
    rw [evS]
    · rfl
    · intro i q; cases q
variable {Dr C N K R : Nat}
def turnT : Tx := .val (.op2 .gt (.op2 .mod (.bcall .int1 (.cons (XI 1 3 3 3) .nil)) (.lit (.int 3))) (.lit (.int 0)))
def nearE (N : Nat) : Ex := .call N (.cons (.slot 4) (.cons (.slot 5) (.cons (.op2 .mod (.bcall .int1 (.cons (.op2 .fdiv (XI 1 3 3 3) (.lit (.int 3))) .nil)) (.slot 2)) .nil)))
def rT (R : Nat) : Tx := .not (.val (.call R (.cons (.slot 4) (.cons (.slot 5) (.cons (.slot 6) .nil)))))
def sT (K : Nat) : Tx := .val (.op2 .ne (.call K (.cons (.slot 5) (.cons (.slot 4) .nil))) (.slot 6))
def kB4 (C N K R : Nat) : Ss := .cons (.set 4 (.call C (.cons (XI 1 3 3 1) (.cons (.slot 2) .nil)))) (.cons (.set 5 (.call C (.cons (XI 1 3 3 2) (.cons (.slot 2) .nil)))) (.cons (.iff turnT (.cons (.set 5 (nearE N)) .nil) .nil)
  (.cons (.set 6 (.call K (.cons (.slot 4) (.cons (.slot 5) .nil)))) (.cons (.iff (rT R) retF .nil) (.cons (.iff (sT K) retF .nil) .nil)))))
theorem law4_body (Dr C N K R : Nat) : c_law_k04 Dr C N K R = .cons (.set 1 (.call Dr (.cons (.slot 0) (.cons (.lit (.int (19 : Nat))) .nil)))) (.cons (.set 2 nE) (.cons (.for [3] (.rng (.lit (.int 0)) (.lit (.int 6))) (kB4 C N K R)) (.cons (.ret (.lit (.bl true))) .nil))) := rfl
structure F4 (Φ : Tb) (Dr C N K R : Nat) : Prop where
  D : DrawF Φ Dr 19
  C : CubeF Φ C
  N : ∀ n c d (i : Int), isCube n c → isCube n d → n ≤ 4 → ∃ t, isCube n t ∧ Φ.fn N [.str c, .str d, .int i] = .ok (.str t) [none, none, none]
  K : ∀ n c d, isCube n c → isCube n d → 1 ≤ n → n ≤ 4 → Φ.fn K [.str c, .str d] = .ok (consD c d) [none, none]
  R : ∀ n c d, isCube n c → isCube n d → n ≤ 4 → rightL c d → Φ.fn R [.str c, .str d, consD c d] = .ok (.bl true) [none, none, none]
def e4 (ns xs : List Int) (n : Nat) (k c d t : Option D) : Env := [some (.scr ns), some (.lst true (xs.map .int)), some (.int n), k, c, d, t]
theorem imm_consD (c d : List Nat) : imm (consD c d) = true := by
  unfold consD
  split <;> rfl
theorem turns4 (G : F4 Φ Dr C N K R) (hfin : ∀ n a b, isCube n a → isCube n b → 1 ≤ n → n ≤ 4 → rightL a b) (ns xs : List Int) (n : Nat) (h1 : 1 ≤ n) (h4 : n ≤ 4) (hx : xs.length = 19) :
    ∃ k c d t, loopF (bindT [3]) (fun e => evB Φ [false] (kB4 C N K R) e) (rangeD 0 (6 : Nat)) (e4 ns xs n none none none none) = .nx (e4 ns xs n k c d t) := by
  obtain ⟨e', h, k, c, d, t, rfl⟩ := loop_nx (bind := bindT [3]) (body := fun e => evB Φ [false] (kB4 C N K R) e) (ds := rangeD 0 (6 : Nat)) (e := e4 ns xs n none none none none)
    (fun j e => ∃ k c d t, e = e4 ns xs n k c d t) ⟨none, none, none, none, rfl⟩ (by
      rintro j y e hj ⟨k, c, d, t, rfl⟩
      obtain ⟨hj1, rfl⟩ := range_get hj
      have at' : ∀ i, i < 19 → ∃ v, xs[i]? = some v := fun i hi => ⟨xs[i]'(by omega), by simp [hx, hi]⟩
      obtain ⟨v1, w1⟩ := at' (3 * j + 1) (by omega)
      obtain ⟨v2, w2⟩ := at' (3 * j + 2) (by omega)
      obtain ⟨v3, w3⟩ := at' (3 * j + 3) (by omega)
      obtain ⟨a, qa, fa⟩ := G.C v1 n (by omega)
      obtain ⟨b0, qb0, fb0⟩ := G.C v2 n (by omega)
      obtain ⟨b1, qb1, fb1⟩ := G.N n a b0 (v3 / 3 % n) qa qb0 h4
      have s4 : evS Φ [false] (.set 4 (.call C (.cons (XI 1 3 3 1) (.cons (.slot 2) .nil)))) (e4 ns xs n (some (.int j)) c d t) = .nx (e4 ns xs n (some (.int j)) (some (.str a)) d t) :=
        set_ok rfl (callg (os := [.val (.int v1), .ref 2]) (evO_cons (XI_opd (m := 3) (c := 1) (k := j) (xs := xs) rfl rfl (by omega) w1) (evO_cons (opd_slot (d := .int n) rfl) rfl)) rfl rfl fa)
      have s5 : evS Φ [false] (.set 5 (.call C (.cons (XI 1 3 3 2) (.cons (.slot 2) .nil)))) (e4 ns xs n (some (.int j)) (some (.str a)) d t) = .nx (e4 ns xs n (some (.int j)) (some (.str a)) (some (.str b0)) t) :=
        set_ok rfl (callg (os := [.val (.int v2), .ref 2]) (evO_cons (XI_opd (m := 3) (c := 2) (k := j) (xs := xs) rfl rfl (by omega) w2) (evO_cons (opd_slot (d := .int n) rfl) rfl)) rfl rfl fb0)
      have x3 := fun (c d t : Option D) => XI_opd (Φ := Φ) (e := e4 ns xs n (some (.int j)) c d t) (w := 1) (s := 3) (m := 3) (c := 3) (k := j) (xs := xs) rfl rfl (by omega) w3
      have tt : evT Φ turnT (e4 ns xs n (some (.int j)) (some (.str a)) (some (.str b0)) t) = .ok (decide (0 < v3 % 3), e4 ns xs n (some (.int j)) (some (.str a)) (some (.str b0)) t) :=
        valg (d := .bl (decide (0 < v3 % 3))) (opd_op2 (op2g (o2 := .val (.int 0)) (opd_op2 (mod_ok (by decide) (x3 _ _ _))) rfl rfl rfl (by rfl))) rfl rfl
      have ne : evE Φ (nearE N) (e4 ns xs n (some (.int j)) (some (.str a)) (some (.str b0)) t) = .ok (.str b1, e4 ns xs n (some (.int j)) (some (.str a)) (some (.str b0)) t) := by
        have m1 : evE Φ (.op2 .fdiv (XI 1 3 3 3) (.lit (.int 3))) (e4 ns xs n (some (.int j)) (some (.str a)) (some (.str b0)) t) = .ok (.int (v3 / 3), _) := op2g (o2 := .val (.int 3)) (x3 _ _ _) rfl rfl rfl rfl
        have m2 : evE Φ (.op2 .mod (.bcall .int1 (.cons (.op2 .fdiv (XI 1 3 3 3) (.lit (.int 3))) .nil)) (.slot 2)) (e4 ns xs n (some (.int j)) (some (.str a)) (some (.str b0)) t) = .ok (.int (v3 / 3 % n), _) :=
          op2g (o2 := .ref 2) (d2 := .int n) (opd_bc (bc1 (r := .int (v3 / 3)) (opd_op2 m1) rfl rfl)) (opd_slot rfl) rfl rfl (by
            show (if decide (0 < (n : Int)) then some (D.int (v3 / 3 % n)) else none) = _
            rw [decide_eq_true (by omega)]; rfl)
        exact callg (os := [.ref 4, .ref 5, .val (.int (v3 / 3 % n))]) (evO_cons (opd_slot (d := .str a) rfl) (evO_cons (opd_slot (d := .str b0) rfl) (evO_cons (opd_op2 m2) rfl))) rfl rfl fb1
      have s6 : ∃ b, isCube n b ∧ evS Φ [false] (.iff turnT (.cons (.set 5 (nearE N)) .nil) .nil) (e4 ns xs n (some (.int j)) (some (.str a)) (some (.str b0)) t) = .nx (e4 ns xs n (some (.int j)) (some (.str a)) (some (.str b)) t) := by
        cases hb : decide (0 < v3 % 3) with
        | true =>
          rw [hb] at tt
          refine ⟨b1, qb1, ?_⟩
          rw [iff_ok tt]
          exact evB_one (set_ok rfl ne)
        | false =>
          rw [hb] at tt
          exact ⟨b0, qb0, iff_no tt⟩
      obtain ⟨b, qb, s6⟩ := s6
      have s7 : evS Φ [false] (.set 6 (.call K (.cons (.slot 4) (.cons (.slot 5) .nil)))) (e4 ns xs n (some (.int j)) (some (.str a)) (some (.str b)) t) = .nx (e4 ns xs n (some (.int j)) (some (.str a)) (some (.str b)) (some (consD a b))) :=
        set_ok rfl (call2s rfl rfl rfl rfl (G.K n a b qa qb h1 h4))
      have t8 : evT Φ (rT R) (e4 ns xs n (some (.int j)) (some (.str a)) (some (.str b)) (some (consD a b))) = .ok (false, e4 ns xs n (some (.int j)) (some (.str a)) (some (.str b)) (some (consD a b))) :=
        not_of (v := true) (vcall (call3s rfl rfl rfl rfl rfl (imm_consD a b) (G.R n a b qa qb h4 (hfin n a b qa qb h1 h4))))
      have t9 : evT Φ (sT K) (e4 ns xs n (some (.int j)) (some (.str a)) (some (.str b)) (some (consD a b))) = .ok (false, e4 ns xs n (some (.int j)) (some (.str a)) (some (.str b)) (some (consD a b))) := by
        have c1 : Φ.fn K [.str b, .str a] = .ok (consD a b) [none, none] := by
          rw [G.K n b a qb qa h1 h4, consD_comm]
        refine valg (d := .bl false) (opd_op2 (op2g (o2 := .ref 6) (opd_call (call2s (i := 5) (j := 4) rfl rfl rfl rfl c1)) (opd_slot (d := consD a b) rfl) rfl rfl ?_)) rfl rfl
        unfold consD
        split
        · show some (D.bl (!(kbL a b == kbL a b))) = _
          simp
        · rfl
      refine ⟨e4 ns xs n (some (.int j)) c d t, e4 ns xs n (some (.int j)) (some (.str a)) (some (.str b)) (some (consD a b)), rfl, .inl ?_, _, _, _, _, rfl⟩
      show evB Φ [false] (kB4 C N K R) _ = _
      rw [kB4, evB_nx s4, evB_nx s5, evB_nx s6, evB_nx s7, evB_nx (iff_no t8)]
      exact evB_one (iff_no t9))
  exact ⟨k, c, d, t, h⟩
theorem law_run4 (G : F4 Φ Dr C N K R) (hfin : ∀ n a b, isCube n a → isCube n b → 1 ≤ n → n ≤ 4 → rightL a b) (ns : List Int) (hn : ns.length ≤ 63) : runF Φ ⟨1, 7, c_law_k04 Dr C N K R⟩ [.scr ns] = .ok (.bl true) [none] := by
  refine runF_ret rfl rfl ?_
  obtain ⟨xs, n, hx, h1, h4, st⟩ := start_ok (Φ := Φ) (ns := ns) (lk := [false]) rfl rfl (G.D ns hn) (by decide) [none, none, none, none] none none
  obtain ⟨k, c, d, t, hh⟩ := turns4 G hfin ns xs n h1 h4 hx
  refine ⟨e4 ns xs n k c d t, ?_⟩
  have i0 : inR 0 = true := inR_of (by omega) (by omega)
  have i6 : inR 6 = true := inR_of (by omega) (by omega)
  rw [law4_body]
  refine (st _).trans ?_
  have ev : evI Φ (fun _ => true) (.rng (.lit (.int 0)) (.lit (.int 6))) (e4 ns xs n none none none none) = .ok ⟨rangeD 0 (6 : Nat), e4 ns xs n none none none none, none⟩ :=
    evI_rng (x := .val (.int 0)) (y := .val (.int 6)) (e1 := e4 ns xs n none none none none) rfl rfl rfl rfl i0 i6
  refine (evB_nx (e' := e4 ns xs n k c d t) ?_).trans (evB_ret rfl)
  refine (evS_for rfl ev).trans ?_
  exact hh
end
end DL

namespace LR
open PySem DL
abbrev R (k f : Nat) (ds : List D) : RF := run (fun _ => []) (tblOf md.rows) k f ds
abbrev P (k : Nat) : Tb := ⟨R k, fun _ => []⟩
theorem fnP (k f : Nat) (ds : List D) : (P k).fn f ds = R k f ds := rfl
theorem at0 (k : Nat) (ds : List D) : R (k + 1) 0 ds = runF (P k) ⟨1, 1, c_is_whole⟩ ds := rfl
theorem at1 (k : Nat) (ds : List D) : R (k + 1) 1 ds = runF (P k) ⟨1, 1, (c_is_size 0)⟩ ds := rfl
theorem at2 (k : Nat) (ds : List D) : R (k + 1) 2 ds = runF (P k) ⟨2, 3, c_has_only⟩ ds := rfl
theorem at3 (k : Nat) (ds : List D) : R (k + 1) 3 ds = runF (P k) ⟨2, 2, (c_is_cube 2)⟩ ds := rfl
theorem at4 (k : Nat) (ds : List D) : R (k + 1) 4 ds = runF (P k) ⟨1, 1, (c_check_cube 1 3)⟩ ds := rfl
theorem at5 (k : Nat) (ds : List D) : R (k + 1) 5 ds = runF (P k) ⟨2, 2, (c_check_cubes 4 3)⟩ ds := rfl
theorem at6 (k : Nat) (ds : List D) : R (k + 1) 6 ds = runF (P k) ⟨2, 4, (c_distance 5)⟩ ds := rfl
theorem at7 (k : Nat) (ds : List D) : R (k + 1) 7 ds = runF (P k) ⟨2, 2, (c_consensus 6 8)⟩ ds := rfl
theorem at8 (k : Nat) (ds : List D) : R (k + 1) 8 ds = runF (P k) ⟨2, 4, (c_known_to_both 9)⟩ ds := rfl
theorem at9 (k : Nat) (ds : List D) : R (k + 1) 9 ds = runF (P k) ⟨2, 2, c_known_sign⟩ ds := rfl
theorem at10 (k : Nat) (ds : List D) : R (k + 1) 10 ds = runF (P k) ⟨2, 5, mixedB⟩ ds := rfl
theorem at11 (k : Nat) (ds : List D) : R (k + 1) 11 ds = runF (P k) ⟨2, 7, (drawsB 10)⟩ ds := rfl
theorem at12 (k : Nat) (ds : List D) : R (k + 1) 12 ds = runF (P k) ⟨2, 7, stringsB⟩ ds := rfl
theorem at13 (k : Nat) (ds : List D) : R (k + 1) 13 ds = runF (P k) ⟨2, 3, inB⟩ ds := rfl
theorem at14 (k : Nat) (ds : List D) : R (k + 1) 14 ds = runF (P k) ⟨2, 4, cubeB⟩ ds := rfl
theorem at15 (k : Nat) (ds : List D) : R (k + 1) 15 ds = runF (P k) ⟨3, 5, c_q_near⟩ ds := rfl
theorem at16 (k : Nat) (ds : List D) : R (k + 1) 16 ds = runF (P k) ⟨3, 4, (c_q_in_both 12 13)⟩ ds := rfl
theorem at17 (k : Nat) (ds : List D) : R (k + 1) 17 ds = runF (P k) ⟨3, 8, (c_q_right 12 16 13)⟩ ds := rfl
theorem at18 (k : Nat) (ds : List D) : R (k + 1) 18 ds = runF (P k) ⟨1, 7, (c_law_k04 11 14 15 7 17)⟩ ds := rfl
theorem F_is_whole (k : Nat) : ∀ i : Int, (P (k + 1)).fn 0 [.int i] = .ok (.bl true) [none] := fun i => (fnP _ _ _).trans <| (at0 (k + 0) _).trans <| (whole_ok _ i)
theorem F_is_size (k : Nat) : ∀ n : Nat, 1 ≤ n → n ≤ 4 → (P (k + 2)).fn 1 [.int n] = .ok (.bl true) [none] := fun n h1 h4 => (fnP _ _ _).trans <| (at1 (k + 1) _).trans <| (size_ok _ (F_is_whole (k + 0)) n h1 h4)
theorem F_has_only (k : Nat) : ∀ t sg : List Nat, t.length ≤ 1000 → (P (k + 1)).fn 2 [.str t, .str sg] = .ok (.bl (t.all fun c => sg.contains c)) [none, none] := fun t sg h => (fnP _ _ _).trans <| (at2 (k + 0) _).trans <| (only_ok _ t sg h)
theorem F_is_cube (k : Nat) : IsC (P (k + 2)) 3 := fun n t h h4 => (fnP _ _ _).trans <| (at3 (k + 1) _).trans <| (cube_is _ (F_has_only (k + 0)) n t h h4)
theorem F_check_cube (k : Nat) : ∀ n t, isCube n t → 1 ≤ n → n ≤ 4 → (P (k + 3)).fn 4 [.str t] = .ok .non [none] := fun n t h h1 h4 => (fnP _ _ _).trans <| (at4 (k + 2) _).trans <| (check_ok _ (F_is_size (k + 0)) (F_is_cube (k + 0)) n t h h1 h4)
theorem F_check_cubes (k : Nat) : Chk (P (k + 4)) 5 := fun n c d h g h1 h4 => (fnP _ _ _).trans <| (at5 (k + 3) _).trans <| (checks_ok _ (F_check_cube (k + 0)) (F_is_cube (k + 1)) n c d h g h1 h4)
theorem F_distance (k : Nat) : DistF (P (k + 5)) 6 := fun n c d h g h1 h4 => (fnP _ _ _).trans <| (at6 (k + 4) _).trans <| (dist_ok _ (F_check_cubes (k + 0)) n c d h g h1 h4)
theorem F_known_sign (k : Nat) : ∀ a b : Nat, (P (k + 1)).fn 9 [.str [a], .str [b]] = .ok (.str [ksL a b]) [none, none] := fun a b => (fnP _ _ _).trans <| (at9 (k + 0) _).trans <| (ks_ok _ a b)
theorem F_known_to_both (k : Nat) : KbF (P (k + 2)) 8 := fun c d h => (fnP _ _ _).trans <| (at8 (k + 1) _).trans <| (kb_ok _ (F_known_sign (k + 0)) c d h)
theorem F_consensus (k : Nat) : ∀ n c d, isCube n c → isCube n d → 1 ≤ n → n ≤ 4 → (P (k + 6)).fn 7 [.str c, .str d] = .ok (consD c d) [none, none] := fun n c d h g h1 h4 => (fnP _ _ _).trans <| (at7 (k + 5) _).trans <| (cons_ok _ (F_distance (k + 0)) (F_known_to_both (k + 3)) n c d h g h1 h4)
theorem F_q_mixed (k : Nat) : Mix (P (k + 1)) 10 := fun a b => by
  obtain ⟨v, p, q, r⟩ := mixed_ok (P k) a b
  exact ⟨v, p, q, (fnP _ _ _).trans <| (at10 (k + 0) _).trans <| r⟩
theorem F_q_draws (k : Nat) : ∀ m, m ≤ 1000 → DrawF (P (k + 2)) 11 m := fun m hm ns h => by
  obtain ⟨xs, h1, _, h3⟩ := draws_ok (P (k + 1)) 10 (F_q_mixed (k + 0)) ns h m hm
  exact ⟨xs, h1, (fnP _ _ _).trans <| (at11 (k + 1) _).trans <| h3⟩
theorem F_q_strings (k : Nat) : StrF (P (k + 1)) 12 := fun n sg h g => by
  obtain ⟨o, h1⟩ := strings_ok (P k) n h sg g
  exact ⟨o, (fnP _ _ _).trans <| (at12 (k + 0) _).trans <| h1⟩
theorem F_q_in (k : Nat) : InF (P (k + 1)) 13 := fun a b h g => (fnP _ _ _).trans <| (at13 (k + 0) _).trans <| (in_ok (P k) a b h g)
theorem F_q_cube (k : Nat) : CubeF (P (k + 1)) 14 := fun num n h => by
  obtain ⟨t, q, r⟩ := cube_ok (P k) num n h
  exact ⟨t, q, (fnP _ _ _).trans <| (at14 (k + 0) _).trans <| r⟩
theorem F_q_near (k : Nat) : ∀ n c d (i : Int), isCube n c → isCube n d → n ≤ 4 → ∃ t, isCube n t ∧ (P (k + 1)).fn 15 [.str c, .str d, .int i] = .ok (.str t) [none, none, none] := fun n c d i h g h4 => by
  obtain ⟨t, q, r⟩ := near_is (Φ := P k) n c d i h g h4
  exact ⟨t, q, (fnP _ _ _).trans <| (at15 (k + 0) _).trans <| r⟩
theorem F_q_in_both (k : Nat) : ∀ n c d x, isCube n c → isCube n d → isCube n x → n ≤ 4 → (P (k + 2)).fn 16 [.str c, .str d, .str x] = .ok (.bl (bothL c d x)) [none, none, none] := fun n c d x h g f h4 => (fnP _ _ _).trans <| (at16 (k + 1) _).trans <| (both_ok _ (F_q_strings (k + 0)) (F_q_in (k + 0)) n c d x h g f h4)
theorem F_q_right (k : Nat) : ∀ n c d, isCube n c → isCube n d → n ≤ 4 → rightL c d → (P (k + 3)).fn 17 [.str c, .str d, consD c d] = .ok (.bl true) [none, none, none] := fun n c d h g h4 hr => (fnP _ _ _).trans <| (at17 (k + 2) _).trans <| (right_ok (F_q_strings (k + 1)) (F_q_in (k + 1)) (F_q_in_both (k + 0)) n c d h g h4 hr)
theorem fin_small : ∀ n ∈ [1, 2, 3], (stringsL signs n).all (fun a => (stringsL signs n).all (fun b => stepZ (stringsL [48, 49] n) (stringsL [45, 48, 49] n) a b)) = true := by decide +kernel
theorem fin_p0 : (((stringsL signs 4).drop 0).take 3).all (fun a => (stringsL signs 4).all (fun b => stepZ (stringsL [48, 49] 4) (stringsL [45, 48, 49] 4) a b)) = true := by decide +kernel
theorem fin_p1 : (((stringsL signs 4).drop 3).take 3).all (fun a => (stringsL signs 4).all (fun b => stepZ (stringsL [48, 49] 4) (stringsL [45, 48, 49] 4) a b)) = true := by decide +kernel
theorem fin_p2 : (((stringsL signs 4).drop 6).take 3).all (fun a => (stringsL signs 4).all (fun b => stepZ (stringsL [48, 49] 4) (stringsL [45, 48, 49] 4) a b)) = true := by decide +kernel
theorem fin_p3 : (((stringsL signs 4).drop 9).take 3).all (fun a => (stringsL signs 4).all (fun b => stepZ (stringsL [48, 49] 4) (stringsL [45, 48, 49] 4) a b)) = true := by decide +kernel
theorem fin_p4 : (((stringsL signs 4).drop 12).take 3).all (fun a => (stringsL signs 4).all (fun b => stepZ (stringsL [48, 49] 4) (stringsL [45, 48, 49] 4) a b)) = true := by decide +kernel
theorem fin_p5 : (((stringsL signs 4).drop 15).take 3).all (fun a => (stringsL signs 4).all (fun b => stepZ (stringsL [48, 49] 4) (stringsL [45, 48, 49] 4) a b)) = true := by decide +kernel
theorem fin_p6 : (((stringsL signs 4).drop 18).take 3).all (fun a => (stringsL signs 4).all (fun b => stepZ (stringsL [48, 49] 4) (stringsL [45, 48, 49] 4) a b)) = true := by decide +kernel
theorem fin_p7 : (((stringsL signs 4).drop 21).take 3).all (fun a => (stringsL signs 4).all (fun b => stepZ (stringsL [48, 49] 4) (stringsL [45, 48, 49] 4) a b)) = true := by decide +kernel
theorem fin_p8 : (((stringsL signs 4).drop 24).take 3).all (fun a => (stringsL signs 4).all (fun b => stepZ (stringsL [48, 49] 4) (stringsL [45, 48, 49] 4) a b)) = true := by decide +kernel
theorem fin_p9 : (((stringsL signs 4).drop 27).take 3).all (fun a => (stringsL signs 4).all (fun b => stepZ (stringsL [48, 49] 4) (stringsL [45, 48, 49] 4) a b)) = true := by decide +kernel
theorem fin_p10 : (((stringsL signs 4).drop 30).take 3).all (fun a => (stringsL signs 4).all (fun b => stepZ (stringsL [48, 49] 4) (stringsL [45, 48, 49] 4) a b)) = true := by decide +kernel
theorem fin_p11 : (((stringsL signs 4).drop 33).take 3).all (fun a => (stringsL signs 4).all (fun b => stepZ (stringsL [48, 49] 4) (stringsL [45, 48, 49] 4) a b)) = true := by decide +kernel
theorem fin_p12 : (((stringsL signs 4).drop 36).take 3).all (fun a => (stringsL signs 4).all (fun b => stepZ (stringsL [48, 49] 4) (stringsL [45, 48, 49] 4) a b)) = true := by decide +kernel
theorem fin_p13 : (((stringsL signs 4).drop 39).take 3).all (fun a => (stringsL signs 4).all (fun b => stepZ (stringsL [48, 49] 4) (stringsL [45, 48, 49] 4) a b)) = true := by decide +kernel
theorem fin_p14 : (((stringsL signs 4).drop 42).take 3).all (fun a => (stringsL signs 4).all (fun b => stepZ (stringsL [48, 49] 4) (stringsL [45, 48, 49] 4) a b)) = true := by decide +kernel
theorem fin_p15 : (((stringsL signs 4).drop 45).take 3).all (fun a => (stringsL signs 4).all (fun b => stepZ (stringsL [48, 49] 4) (stringsL [45, 48, 49] 4) a b)) = true := by decide +kernel
theorem fin_p16 : (((stringsL signs 4).drop 48).take 3).all (fun a => (stringsL signs 4).all (fun b => stepZ (stringsL [48, 49] 4) (stringsL [45, 48, 49] 4) a b)) = true := by decide +kernel
theorem fin_p17 : (((stringsL signs 4).drop 51).take 3).all (fun a => (stringsL signs 4).all (fun b => stepZ (stringsL [48, 49] 4) (stringsL [45, 48, 49] 4) a b)) = true := by decide +kernel
theorem fin_p18 : (((stringsL signs 4).drop 54).take 3).all (fun a => (stringsL signs 4).all (fun b => stepZ (stringsL [48, 49] 4) (stringsL [45, 48, 49] 4) a b)) = true := by decide +kernel
theorem fin_p19 : (((stringsL signs 4).drop 57).take 3).all (fun a => (stringsL signs 4).all (fun b => stepZ (stringsL [48, 49] 4) (stringsL [45, 48, 49] 4) a b)) = true := by decide +kernel
theorem fin_p20 : (((stringsL signs 4).drop 60).take 3).all (fun a => (stringsL signs 4).all (fun b => stepZ (stringsL [48, 49] 4) (stringsL [45, 48, 49] 4) a b)) = true := by decide +kernel
theorem fin_p21 : (((stringsL signs 4).drop 63).take 3).all (fun a => (stringsL signs 4).all (fun b => stepZ (stringsL [48, 49] 4) (stringsL [45, 48, 49] 4) a b)) = true := by decide +kernel
theorem fin_p22 : (((stringsL signs 4).drop 66).take 3).all (fun a => (stringsL signs 4).all (fun b => stepZ (stringsL [48, 49] 4) (stringsL [45, 48, 49] 4) a b)) = true := by decide +kernel
theorem fin_p23 : (((stringsL signs 4).drop 69).take 3).all (fun a => (stringsL signs 4).all (fun b => stepZ (stringsL [48, 49] 4) (stringsL [45, 48, 49] 4) a b)) = true := by decide +kernel
theorem fin_p24 : (((stringsL signs 4).drop 72).take 3).all (fun a => (stringsL signs 4).all (fun b => stepZ (stringsL [48, 49] 4) (stringsL [45, 48, 49] 4) a b)) = true := by decide +kernel
theorem fin_p25 : (((stringsL signs 4).drop 75).take 3).all (fun a => (stringsL signs 4).all (fun b => stepZ (stringsL [48, 49] 4) (stringsL [45, 48, 49] 4) a b)) = true := by decide +kernel
theorem fin_p26 : (((stringsL signs 4).drop 78).take 3).all (fun a => (stringsL signs 4).all (fun b => stepZ (stringsL [48, 49] 4) (stringsL [45, 48, 49] 4) a b)) = true := by decide +kernel
theorem fin_four : (stringsL signs 4).all (fun a => (stringsL signs 4).all (fun b => stepZ (stringsL [48, 49] 4) (stringsL [45, 48, 49] 4) a b)) = true := by
  have cut : ∀ (f : List Nat → Bool) (l : List (List Nat)), l.length = 81 → (∀ q, q < 27 → ((l.drop (3 * q)).take 3).all f = true) → l.all f = true := by
    intro f l hl h
    rw [List.all_eq_true]
    intro x hx
    obtain ⟨i, hi, rfl⟩ := List.getElem_of_mem hx
    refine List.all_eq_true.mp (h (i / 3) (by omega)) _ ?_
    rw [List.mem_take_iff_getElem]
    refine ⟨i % 3, by rw [List.length_drop]; omega, ?_⟩
    rw [List.getElem_drop]
    congr 1
    omega
  refine cut _ _ (by rw [stringsL_len]; rfl) fun q hq => ?_
  have : q = 0 ∨ q = 1 ∨ q = 2 ∨ q = 3 ∨ q = 4 ∨ q = 5 ∨ q = 6 ∨ q = 7 ∨ q = 8 ∨ q = 9 ∨ q = 10 ∨ q = 11 ∨ q = 12 ∨ q = 13 ∨ q = 14 ∨ q = 15 ∨ q = 16 ∨ q = 17 ∨ q = 18 ∨ q = 19 ∨ q = 20 ∨ q = 21 ∨ q = 22 ∨ q = 23 ∨ q = 24 ∨ q = 25 ∨ q = 26 := by omega
  rcases this with rfl | rfl | rfl | rfl | rfl | rfl | rfl | rfl | rfl | rfl | rfl | rfl | rfl | rfl | rfl | rfl | rfl | rfl | rfl | rfl | rfl | rfl | rfl | rfl | rfl | rfl | rfl
  · exact fin_p0
  · exact fin_p1
  · exact fin_p2
  · exact fin_p3
  · exact fin_p4
  · exact fin_p5
  · exact fin_p6
  · exact fin_p7
  · exact fin_p8
  · exact fin_p9
  · exact fin_p10
  · exact fin_p11
  · exact fin_p12
  · exact fin_p13
  · exact fin_p14
  · exact fin_p15
  · exact fin_p16
  · exact fin_p17
  · exact fin_p18
  · exact fin_p19
  · exact fin_p20
  · exact fin_p21
  · exact fin_p22
  · exact fin_p23
  · exact fin_p24
  · exact fin_p25
  · exact fin_p26
theorem fin_ok : ∀ n ∈ [1, 2, 3, 4], (stringsL signs n).all (fun a => (stringsL signs n).all (fun b => stepZ (stringsL [48, 49] n) (stringsL [45, 48, 49] n) a b)) = true := by
  intro n hn
  simp only [List.mem_cons, List.not_mem_nil, or_false] at hn
  rcases hn with rfl | rfl | rfl | rfl
  · exact fin_small 1 (by simp)
  · exact fin_small 2 (by simp)
  · exact fin_small 3 (by simp)
  · exact fin_four
theorem fin (n : Nat) (a b : List Nat) (h : isCube n a) (g : isCube n b) (h1 : 1 ≤ n) (h4 : n ≤ 4) : rightL a b := by
  have := List.all_eq_true.mp (List.all_eq_true.mp (fin_ok n (by simp; omega)) a (stringsL_mem h.1 h.2)) b (stringsL_mem g.1 g.2)
  exact step_right h g this
theorem fns_ok (k : Nat) : F4 (P (k + 6)) 11 14 15 7 17 where
  D := F_q_draws (k + 4) 19 (by omega)
  C := F_q_cube (k + 5)
  N := F_q_near (k + 5)
  K := F_consensus k
  R := F_q_right (k + 3)
theorem law_true (ns : List Int) (h : ns.length ≤ 63) : ∃ post, DL.run (fun _ => []) (DL.tblOf LR.md.rows) 9 18 [.scr ns] = .ok (.bl true) post :=
  ⟨[none], (at18 8 _).trans (law_run4 (fns_ok 2) fin ns h)⟩
end LR

open PySem PySem.W PyProof.Rows
set_option maxHeartbeats 0 in
theorem PySem.Challenge.cw_steadycover_k04_whole_consensus_holds : PySem.Challenge.rw_steadycover_k04_whole_consensus.Holds := by
  w_on; o_law; k_head; (case hw => w_witness2)
  k_fill
  refine L2.walk_of (l := PySem.Challenge.rw_steadycover_k04_whole_consensus) (n := 63) (k := 9) (x := "_law_script") (CX := fun _ => L2.CX0) (sp := fun w => DL.spF _ LR.cnX (DL.run (fun _ => []) (DL.tblOf LR.md.rows) 9 18)) rfl (by decide) rfl ⟨rfl, by decide, by decide⟩ (fun w h Y => PySem.W.kIn_of Y) ?F (fun _ _ a ns hl _ hS => DL.law_sp hS (LR.law_true ns hl)) (fun _ _ _ _ _ h => h)
  case F =>
    intro w mg fa h KX G hmg
    refine' LR.all_mk KX G hmg ?xa0 ?xl0 ?xc0 ?xk0 ?xa1 ?xl1 ?xc1 ?xk1 ?xa2 ?xl2 ?xc2 ?xk2 ?xa3 ?xl3 ?xc3 ?xk3 ?xa4 ?xl4 ?xc4 ?xk4 ?xa5 ?xl5 ?xc5 ?xk5 ?xa6 ?xl6 ?xc6 ?xk6 ?xa7 ?xl7 ?xc7 ?xk7 ?xa8 ?xl8 ?xc8 ?xk8 ?xa9 ?xl9 ?xc9 ?xk9 ?xa10 ?xl10 ?xc10 ?xk10 ?xa11 ?xl11 ?xc11 ?xk11 ?xa12 ?xl12 ?xc12 ?xk12 ?xa13 ?xl13 ?xc13 ?xk13 ?xa14 ?xl14 ?xc14 ?xk14 ?xa15 ?xl15 ?xc15 ?xk15 ?xa16 ?xl16 ?xc16 ?xk16 ?xa17 ?xl17 ?xc17 ?xk17 ?xa18 ?xl18 ?xc18 ?xk18 ?xg0 ?xg1 ?xz0 ?xz1 ?xz2 ?xz3 ?xz4 ?xz5 ?xz6 ?xz7
    (case xa0 => k_is); (case xl0 => k_is); (case xc0 => k_is); (case xk0 => k_is); (case xa1 => k_is); (case xl1 => k_is); (case xc1 => k_is); (case xk1 => k_is); (case xa2 => k_is); (case xl2 => k_is); (case xc2 => k_is); (case xk2 => k_is); (case xa3 => k_is); (case xl3 => k_is); (case xc3 => k_is); (case xk3 => k_is); (case xa4 => k_is); (case xl4 => k_is); (case xc4 => k_is); (case xk4 => k_is); (case xa5 => k_is); (case xl5 => k_is); (case xc5 => k_is); (case xk5 => k_is); (case xa6 => k_is); (case xl6 => k_is); (case xc6 => k_is); (case xk6 => k_is); (case xa7 => k_is); (case xl7 => k_is); (case xc7 => k_is); (case xk7 => k_is); (case xa8 => k_is); (case xl8 => k_is); (case xc8 => k_is); (case xk8 => k_is); (case xa9 => k_is); (case xl9 => k_is); (case xc9 => k_is); (case xk9 => k_is); (case xa10 => k_is); (case xl10 => k_is); (case xc10 => k_is); (case xk10 => k_is); (case xa11 => k_is); (case xl11 => k_is); (case xc11 => k_is); (case xk11 => k_is); (case xa12 => k_is); (case xl12 => k_is); (case xc12 => k_is); (case xk12 => k_is); (case xa13 => k_is); (case xl13 => k_is); (case xc13 => k_is); (case xk13 => k_is); (case xa14 => k_is); (case xl14 => k_is); (case xc14 => k_is); (case xk14 => k_is); (case xa15 => k_is); (case xl15 => k_is); (case xc15 => k_is); (case xk15 => k_is); (case xa16 => k_is); (case xl16 => k_is); (case xc16 => k_is); (case xk16 => k_is); (case xa17 => k_is); (case xl17 => k_is); (case xc17 => k_is); (case xk17 => k_is); (case xa18 => k_is); (case xl18 => k_is); (case xc18 => k_is); (case xk18 => k_is); (case xg0 => k_is); (case xg1 => k_is); (case xz0 => k_is); (case xz1 => k_is); (case xz2 => k_is); (case xz3 => k_is); (case xz4 => k_is); (case xz5 => k_is); (case xz6 => k_is); (case xz7 => k_is)
