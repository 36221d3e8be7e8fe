import PyProof.Rows.All
import Wide.All
import OpenK.AllK
import Wide.FinOn
import HandS.ForMost
import HandS.OwnEq
import HandS.IterVal
import HandS.ClsMeth
import HandS.IsInst
import HandS.Codes
import HandS.Walk
import HandS.Iter
import HandS.RaiseMore
import HandS.DictComp
import HandS.Property
import HandS.WordsDict
import HandS.IterNext
import HandS.Text
import HandS.More
import KE.KExcSuper
import HandS.Nested
import HandS.ExcInit
import PyProof.StrLawsRepr
import HandS.FStr
import HandS.ExcField
import HandS.ExcIs
import HandS.WordsExc
import HandS.ForExc
import HandS.ExcOwn
import KE.KExcIs
import HandS.MethStar
import HandS.Star
import HandS.Flow
import HandS.Steps
import HandS.TryMany
import HandS.Style
import PySem.Challenge.RW_growingrecords_k05_fields_changed
set_option Elab.async false
set_option linter.all false
set_option maxRecDepth 100000
set_option maxHeartbeats 4000000
/-! Values of the law as plain data: an int, or fields by name; how dicts and records of the heap bear them. -/
namespace GrT
open PySem L2
/-- a value: an int, or fields in their order -/
inductive T where
  | int (i : Int)
  | fds (fs : List (Str × T))
/-! ### lists by name -/
section
variable {α β : Type}
def look (x : Str) : List (Str × α) → Option α
  | [] => none
  | (z, w) :: r => if z = x then some w else look x r
def put (x : Str) (y : α) : List (Str × α) → List (Str × α)
  | [] => [(x, y)]
  | (z, w) :: r => if z = x then (x, y) :: r else (z, w) :: put x y r
abbrev names (l : List (Str × α)) : List Str := l.map (·.1)
theorem look_mem {x : Str} {w : α} : ∀ {l : List (Str × α)}, look x l = some w → (x, w) ∈ l
  | (z, y) :: r, h => by
    unfold look at h
    split at h
    · rename_i e
      subst e
      cases h
      exact List.mem_cons_self
    · exact List.mem_cons_of_mem _ (look_mem h)
theorem look_none {x : Str} : ∀ {l : List (Str × α)}, look x l = none ↔ x ∉ names l
  | [] => by simp [look, names]
  | (z, y) :: r => by
    unfold look
    by_cases e : z = x
    · subst e
      simp
    · rw [if_neg e, look_none (l := r)]
      simp only [names, List.map_cons, List.mem_cons, not_or]
      exact ⟨fun h => ⟨fun q => e q.symm, h⟩, fun h => h.2⟩
theorem look_some {x : Str} {l : List (Str × α)} (h : x ∈ names l) : ∃ w, look x l = some w := by
  cases e : look x l with
  | some w => exact ⟨w, rfl⟩
  | none => exact absurd h (look_none.mp e)
theorem mem_look {x : Str} {w : α} : ∀ {l : List (Str × α)}, (names l).Nodup → (x, w) ∈ l → look x l = some w
  | (z, y) :: r, nd, h => by
    have nd' := List.nodup_cons.mp nd
    rcases List.mem_cons.mp h with e | e
    · cases e
      unfold look
      rw [if_pos rfl]
    · have hz : z ≠ x := fun q => nd'.1 (by rw [q]; exact List.mem_map.mpr ⟨_, e, rfl⟩)
      unfold look
      rw [if_neg hz]
      exact mem_look nd'.2 e
theorem names_put {x : Str} {y : α} : ∀ {l : List (Str × α)}, names (put x y l) = if x ∈ names l then names l else names l ++ [x]
  | [] => by simp [put, names]
  | (z, w) :: r => by
    unfold put
    by_cases e : z = x
    · subst e
      simp
    · have ih := names_put (x := x) (y := y) (l := r)
      rw [if_neg e]
      have hm : (x ∈ names ((z, w) :: r)) = (x ∈ names r) := by
        simp only [names, List.map_cons, List.mem_cons, eq_iff_iff]
        exact ⟨fun h => h.elim (fun q => absurd q.symm e) id, .inr⟩
      show z :: names (put x y r) = _
      rw [ih]
      simp only [hm]
      split <;> rfl
theorem nodup_put {x : Str} {y : α} {l : List (Str × α)} (h : (names l).Nodup) : (names (put x y l)).Nodup := by
  rw [names_put]
  split
  · exact h
  · rename_i q
    refine List.nodup_append.mpr ⟨h, by simp, fun a ha b hb => ?_⟩
    simp at hb
    subst hb
    exact fun e => q (e ▸ ha)
theorem length_put {x : Str} {y : α} {l : List (Str × α)} : (put x y l).length ≤ l.length + 1 := by
  have e : (names (put x y l)).length = (put x y l).length := List.length_map _
  rw [← e, names_put]
  split
  · simp
  · simp
theorem mem_put {x : Str} {y : α} : ∀ {l : List (Str × α)} {p}, p ∈ put x y l → p = (x, y) ∨ p ∈ l
  | [], p, h => by
    simp [put] at h
    exact .inl h
  | (z, w) :: r, p, h => by
    unfold put at h
    split at h
    · rcases List.mem_cons.mp h with q | q
      · exact .inl q
      · exact .inr (List.mem_cons_of_mem _ q)
    · rcases List.mem_cons.mp h with q | q
      · exact .inr (q ▸ List.mem_cons_self)
      · rcases mem_put q with q | q
        · exact .inl q
        · exact .inr (List.mem_cons_of_mem _ q)
theorem look_put {x z : Str} {y : α} : ∀ {l : List (Str × α)}, look z (put x y l) = if z = x then some y else look z l
  | [] => by
    simp only [put, look]
    by_cases e : z = x
    · subst e
      simp
    · rw [if_neg (fun q => e q.symm), if_neg e]
  | (u, w) :: r => by
    unfold put
    by_cases e : u = x
    · subst e
      rw [if_pos rfl]
      simp only [look]
      by_cases q : u = z
      · subst q
        simp
      · rw [if_neg q, if_neg (fun h => q h.symm), if_neg q]
    · rw [if_neg e]
      simp only [look]
      by_cases q : u = z
      · subst q
        rw [if_pos rfl, if_neg e, if_pos rfl]
      · rw [if_neg q, look_put, if_neg q]
end
/-! ### the dict that bears such a list -/
def dk (l : List (Str × V)) : List (Key × V) := l.map fun p => (Sum.inr p.1, p.2)
theorem dk_len (l : List (Str × V)) : (dk l).length = l.length := List.length_map _
theorem dk_val (x : Str) : ∀ l : List (Str × V), valV (dk l) (Sum.inr x : Key) = look x l
  | [] => rfl
  | (z, w) :: r => by
    show valV ((Sum.inr z, w) :: dk r) (Sum.inr x : Key) = if z = x then some w else look x r
    by_cases e : z = x
    · subst e
      rw [if_pos rfl, valV_pos rfl]
    · rw [if_neg e, valV_neg (fun q => e (Sum.inr.inj q)), dk_val x r]
theorem dk_put (x : Str) (y : V) : ∀ l : List (Str × V), (names l).Nodup → putK (dk l) (Sum.inr x : Key) y = dk (put x y l) := by
  intro l nd
  cases e : look x l with
  | none =>
    have h0 : valV (dk l) (Sum.inr x : Key) = none := by rw [dk_val, e]
    rw [putK_new _ h0]
    have hp : ∀ l : List (Str × V), look x l = none → put x y l = l ++ [(x, y)] := by
      intro l
      induction l with
      | nil => intro _; rfl
      | cons p r ih =>
        obtain ⟨z, w⟩ := p
        intro h
        unfold look at h
        split at h
        · cases h
        · rename_i q
          unfold put
          rw [if_neg q, ih h]
          rfl
    rw [hp l e]
    simp [dk]
  | some w =>
    have h1 : (dk l).any (fun kv => decide (kv.1 = (Sum.inr x : Key))) = true := by rw [valV_any, dk_val, e]; rfl
    unfold putK
    rw [if_pos h1]
    clear h1
    induction l with
    | nil => cases e
    | cons p r ih =>
      obtain ⟨z, u⟩ := p
      have nd' := List.nodup_cons.mp nd
      unfold look at e
      unfold put
      by_cases q : z = x
      · subst q
        rw [if_pos rfl]
        have hr : ∀ r : List (Str × V), z ∉ names r → (dk r).map (fun kv => if kv.1 = (Sum.inr z : Key) then (kv.1, y) else kv) = dk r := by
          intro r
          induction r with
          | nil => intro _; rfl
          | cons p r ih =>
            obtain ⟨a, b⟩ := p
            intro h
            have h' : z ≠ a ∧ z ∉ names r := by simpa [names] using h
            show (if (Sum.inr a : Key) = Sum.inr z then ((Sum.inr a : Key), y) else (Sum.inr a, b)) :: (dk r).map _ = (Sum.inr a, b) :: dk r
            rw [if_neg (fun q => h'.1 (Sum.inr.inj q).symm), ih h'.2]
        show (if (Sum.inr z : Key) = Sum.inr z then ((Sum.inr z : Key), y) else (Sum.inr z, u)) :: (dk r).map _ = (Sum.inr z, y) :: dk r
        rw [if_pos rfl, hr r nd'.1]
      · rw [if_neg q] at e
        rw [if_neg q]
        show (if (Sum.inr z : Key) = Sum.inr x then ((Sum.inr z : Key), y) else (Sum.inr z, u)) :: (dk r).map _ = (Sum.inr z, u) :: dk (put x y r)
        rw [if_neg (fun h => q (Sum.inr.inj h)), ih nd'.2 e]
/-! ### two lists by name, alike by R -/
def Al (R : V → T → Prop) : List (Str × V) → List (Str × T) → Prop := Paired fun p q => p.1 = q.1 ∧ R p.2 q.2
section
variable {R S : V → T → Prop} {l : List (Str × V)} {fs : List (Str × T)}
theorem Al.imp (h : Al R l fs) (f : ∀ p ∈ fs, ∀ v, R v p.2 → S v p.2) : Al S l fs := by
  induction h with
  | nil => exact .nil
  | @cons p q l fs r t ih => exact .cons ⟨r.1, f _ List.mem_cons_self _ r.2⟩ (ih fun p hp => f p (List.mem_cons_of_mem _ hp))
theorem Al.names (h : Al R l fs) : names l = names fs := by
  induction h with
  | nil => rfl
  | @cons p q l fs r t ih =>
    show p.1 :: GrT.names l = q.1 :: GrT.names fs
    rw [r.1, ih]
theorem Al.len (h : Al R l fs) : l.length = fs.length := Paired.length h
theorem Al.get (h : Al R l fs) {x : Str} {t : T} (e : look x fs = some t) : ∃ v, look x l = some v ∧ R v t := by
  induction h with
  | nil => cases e
  | @cons p q l fs r t' ih =>
    obtain ⟨z, v⟩ := p
    obtain ⟨z', u⟩ := q
    obtain ⟨rfl, r⟩ := r
    unfold look at e ⊢
    by_cases hz : z = x
    · rw [if_pos hz] at e ⊢
      cases e
      exact ⟨v, rfl, r⟩
    · rw [if_neg hz] at e ⊢
      exact ih e
theorem Al.get' (h : Al R l fs) {x : Str} {v : V} (e : look x l = some v) : ∃ t, look x fs = some t ∧ R v t := by
  induction h with
  | nil => cases e
  | @cons p q l fs r t' ih =>
    obtain ⟨z, v'⟩ := p
    obtain ⟨z', u⟩ := q
    obtain ⟨rfl, r⟩ := r
    unfold look at e ⊢
    by_cases hz : z = x
    · rw [if_pos hz] at e ⊢
      cases e
      exact ⟨u, rfl, r⟩
    · rw [if_neg hz] at e ⊢
      exact ih e
theorem Al.none (h : Al R l fs) {x : Str} : look x l = none ↔ look x fs = none := by rw [look_none, look_none, h.names]
theorem Al.put (h : Al R l fs) (x : Str) {v : V} {t : T} (r : R v t) : Al R (put x v l) (put x t fs) := by
  induction h with
  | nil => exact .cons ⟨rfl, r⟩ .nil
  | @cons p q l fs r' t' ih =>
    obtain ⟨z, v'⟩ := p
    obtain ⟨z', u⟩ := q
    obtain ⟨rfl, r'⟩ := r'
    unfold GrT.put
    by_cases hz : z = x
    · rw [if_pos hz, if_pos hz]
      exact .cons ⟨rfl, r⟩ t'
    · rw [if_neg hz, if_neg hz]
      exact .cons ⟨rfl, r'⟩ ih
end
/-! ### names, fields -/
def letter (c : Nat) : Prop := 97 ≤ c ∧ c ≤ 122
def Good (x : Str) : Prop := 1 ≤ x.length ∧ x.length ≤ 30 ∧ ∀ c ∈ x.cps.toList, letter c
structure Wf (L : Nat) (fs : List (Str × T)) : Prop where
  nd : (names fs).Nodup
  ln : fs.length ≤ L
  gd : ∀ p ∈ fs, Good p.1
theorem Wf.mono {L M : Nat} {fs : List (Str × T)} (h : Wf L fs) (hl : L ≤ M) : Wf M fs := ⟨h.nd, Nat.le_trans h.ln hl, h.gd⟩
theorem Wf.put {L : Nat} {fs : List (Str × T)} (h : Wf L fs) {x : Str} {t : T} (g : Good x) : Wf (L + 1) (put x t fs) :=
  ⟨nodup_put h.nd, Nat.le_trans length_put (Nat.add_le_add_right h.ln 1), fun p hp => by
    rcases mem_put hp with e | e
    · rw [e]
      exact g
    · exact h.gd p e⟩
theorem Wf.nil {L : Nat} : Wf L [] := ⟨by simp [names], Nat.zero_le _, fun p hp => by cases hp⟩
/-! ### a value as dicts -/
/-- v is t: ints and dicts, at most n deep, at most L fields each, the dicts all within S -/
def Tr (S : Addr → Prop) (H : Hp) (L : Nat) : Nat → V → T → Prop
  | 0, v, t => ∃ i, v = .int i ∧ t = .int i
  | n + 1, v, t => (∃ i, v = .int i ∧ t = .int i) ∨ ∃ a l fs, v = .ref a ∧ t = .fds fs ∧ S a ∧ H a = some (.dK (dk l)) ∧ Wf L fs ∧ Al (Tr S H L n) l fs
section
variable {S S' : Addr → Prop} {H H' : Hp} {L M n m : Nat} {v : V} {t u : T} {a : Addr}
theorem Tr.int (i : Int) : Tr S H L n (.int i) (.int i) := by
  cases n with
  | zero => exact ⟨i, rfl, rfl⟩
  | succ n => exact .inl ⟨i, rfl, rfl⟩
theorem Tr.cases {P : Prop} (h : Tr S H L n v t) (h1 : ∀ i, v = .int i → t = .int i → P)
    (h2 : ∀ k a l fs, n = k + 1 → v = .ref a → t = .fds fs → S a → H a = some (.dK (dk l)) → Wf L fs → Al (Tr S H L k) l fs → P) : P := by
  cases n with
  | zero =>
    obtain ⟨i, e1, e2⟩ := h
    exact h1 i e1 e2
  | succ k =>
    rcases h with ⟨i, e1, e2⟩ | ⟨a, l, fs, e1, e2, es, e3, e4, e5⟩
    · exact h1 i e1 e2
    · exact h2 k a l fs rfl e1 e2 es e3 e4 e5
theorem Tr.keep : ∀ {n : Nat} {v : V} {t : T}, Tr S H L n v t → (∀ b kvs, S b → H b = some (.dK kvs) → H' b = some (.dK kvs)) → Tr S H' L n v t
  | 0, _, _, h, _ => h
  | n + 1, v, t, h, k => by
    rcases h with h | ⟨a, l, fs, e1, e2, es, e3, e4, e5⟩
    · exact .inl h
    · exact .inr ⟨a, l, fs, e1, e2, es, k _ _ es e3, e4, e5.imp fun _ _ _ q => Tr.keep q k⟩
theorem Tr.mono : ∀ {n m L M : Nat} {v : V} {t : T}, Tr S H L n v t → n ≤ m → L ≤ M → Tr S H M m v t
  | 0, m, L, M, v, t, ⟨i, e1, e2⟩, _, _ => by
    rw [e1, e2]
    exact Tr.int i
  | n + 1, 0, _, _, _, _, _, h, _ => absurd h (Nat.not_succ_le_zero _)
  | n + 1, m + 1, L, M, v, t, h, h1, h2 => by
    rcases h with h | ⟨a, l, fs, e1, e2, es, e3, e4, e5⟩
    · exact .inl h
    · exact .inr ⟨a, l, fs, e1, e2, es, e3, e4.mono h2, e5.imp fun _ _ _ q => Tr.mono q (Nat.le_of_succ_le_succ h1) h2⟩
theorem dk_inj : ∀ {l l' : List (Str × V)}, dk l = dk l' → l = l'
  | [], [], _ => rfl
  | [], _ :: _, h => by cases h
  | _ :: _, [], h => by cases h
  | (x, v) :: l, (y, w) :: l', h => by
    have h' : ((Sum.inr x : Key), v) :: dk l = (Sum.inr y, w) :: dk l' := h
    injection h' with h1 h2
    injection h1 with h3 h4
    injection h3 with h3
    rw [h3, h4, dk_inj h2]
theorem al_inj {n m L M : Nat} (ih : ∀ {v : V} {t u : T}, Tr S H L n v t → Tr S' H M m v u → t = u) : ∀ {l : List (Str × V)} {fs gs : List (Str × T)}, Al (Tr S H L n) l fs → Al (Tr S' H M m) l gs → fs = gs
  | [], _, _, .nil, .nil => rfl
  | _ :: _, (x, t) :: fs, (y, u) :: gs, .cons r1 t1, .cons r2 t2 => by
    have e : x = y := r1.1.symm.trans r2.1
    have e2 : t = u := ih r1.2 r2.2
    rw [e, e2, al_inj ih t1 t2]
theorem Tr.inj : ∀ {n m L M : Nat} {v : V} {t u : T}, Tr S H L n v t → Tr S' H M m v u → t = u
  | 0, m, L, M, v, t, u, ⟨i, e1, e2⟩, h => by
    refine h.cases (fun j q1 q2 => ?_) fun k a l fs _ q => ?_
    · rw [e1] at q1
      cases q1
      rw [e2, q2]
    · rw [e1] at q
      cases q
  | n + 1, m, L, M, v, t, u, h0, h => by
    refine h.cases (fun j q1 q2 => ?_) fun k a l fs _ q1 q2 qs q3 q4 q5 => ?_
    · rcases h0 with ⟨i, e1, e2⟩ | ⟨a, l, fs, e1, _⟩
      · rw [e1] at q1
        cases q1
        rw [e2, q2]
      · rw [e1] at q1
        cases q1
    · rcases h0 with ⟨i, e1, e2⟩ | ⟨b, l', gs, e1, e2, es, e3, e4, e5⟩
      · rw [e1] at q1
        cases q1
      · rw [e1] at q1
        cases q1
        rw [e3] at q3
        have z := dk_inj (HO.dK.inj (Option.some.inj q3))
        subst z
        rw [e2, q2, al_inj (fun a b => Tr.inj a b) e5 q5]
theorem size_mem {x : Str} {t : T} {fs : List (Str × T)} (h : (x, t) ∈ fs) : sizeOf t < sizeOf (T.fds fs) := by
  have h1 := List.sizeOf_lt_of_mem h
  have h2 : sizeOf (x, t) = 1 + sizeOf x + sizeOf t := by simp
  have h3 : sizeOf (T.fds fs) = 1 + sizeOf fs := by simp
  omega
/-- what is smaller than the value at a has no place at a -/
theorem Tr.away : ∀ {n : Nat} {v : V} {t : T}, Tr S H L n v t → Tr S' H M m (.ref a) u → sizeOf t < sizeOf u → ∀ o, Tr S (upd H a o) L n v t
  | 0, _, _, h, _, _, _ => h
  | n + 1, v, t, h, q, hs, o => by
    rcases id h with h' | ⟨b, l, fs, e1, e2, es, e3, e4, e5⟩
    · exact .inl h'
    · have hb : b ≠ a := fun z => by
        subst z
        rw [e1] at h
        have := Tr.inj h q
        subst this
        exact absurd hs (Nat.lt_irrefl _)
      refine .inr ⟨b, l, fs, e1, e2, es, by rw [upd_ne hb]; exact e3, e4, e5.imp fun p hp _ z => Tr.away z q (Nat.lt_trans ?_ hs) o⟩
      rw [e2]
      exact size_mem (x := p.1) (t := p.2) hp
/-- the children of the dict at a, while it is locked -/
theorem al_away (es : S a) {l : List (Str × V)} {fs : List (Str × T)} (e : H a = some (.dK (dk l))) (w : Wf L fs) (h : Al (Tr S H L n) l fs) (o : HO) : Al (Tr S (upd H a o) L n) l fs :=
  h.imp fun p hp _ z => z.away (m := n + 1) (M := L) (u := .fds fs) (a := a) (.inr ⟨a, l, fs, rfl, rfl, es, e, w, h⟩) (size_mem (x := p.1) (t := p.2) hp) o
theorem Tr.wid : ∀ {n : Nat} {v : V} {t : T}, Tr S H L n v t → (∀ b, S b → S' b) → Tr S' H L n v t
  | 0, _, _, h, _ => h
  | n + 1, v, t, h, k => by
    rcases h with h | ⟨a, l, fs, e1, e2, es, e3, e4, e5⟩
    · exact .inl h
    · exact .inr ⟨a, l, fs, e1, e2, k _ es, e3, e4, e5.imp fun _ _ _ q => Tr.wid q k⟩
end
end GrT
/-! An own class's in, [..], len, for, == and static methods, as rules over the layer. -/
namespace GrOwn
open PySem PySem.Spec PyProof.Rows L2
section
variable {X : Cx} {CX : CXT} {k : Nat} {C f : Addr} {fd : FuncData} {ps : List Str} {sp : Sp} {E : XK}
/-- a def runs in any room that bears the same frames -/
theorem run_at {A : Around} {pins : List (Addr × Obj)} {σ : L2.St} {H : Hp} {s : Shared} {Q : VK} {us : List Value} {vs : List V} (F : FnOk X.prog X.w X.K X.mg X.base CX k f fd ps sp)
    (hr : Room k A) (e0 : Env0 X.prog X.w X.K X.mg X.base A X.stack s H) (hb : Binds X.K fd ps []) (hx : Passes CX X E) (I : Inv X pins σ H s) (r : Vals vs us) (h : sp vs H Q E) :
    wpAny (model X.prog X.w) A (call (.ref f) us) (EP X pins σ Q) X.xe s := by
  have hl : (us ++ []).length = ps.length := by
    rw [List.append_nil, ← r.length]
    exact F.len _ _ _ _ h
  have b := hb s us I.kIn hl
  rw [List.append_nil] at b
  refine wpAny_call (codeAny_mono (F.run A X.stack s H ⟨us, []⟩ us vs Q E hr e0 b r h) fun r s' hq => ?_)
  match r, hq with
  | .error e, hq => exact hx pins σ H s e s' I hq
  | .ok (.ret u), hq => exact I.after hq
/-- what the class says of one of its special defs -/
structure Sm (K : PySem.W.Frag) (C : Addr) (n : Str) (f : Addr) : Prop where
  at_ : PySem.W.findIn K (.ref C) n = some (some (.ref f))
  fn : PySem.W.isFn K (.ref f) = true
theorem inst {pins : List (Addr × Obj)} {σ : L2.St} {H : Hp} {s : Shared} {a dx : Addr} {fs : List (Str × V)} (I : Inv X pins σ H s) (e : H a = some (.ins C dx fs)) : ∃ od, PySem.W.InstAt s.heap a (PySem.W.instObj C dx) C (some od) := by
  obtain ⟨mA, J, _⟩ := ins_get I.hok e
  obtain ⟨od, J, _⟩ := J.look
  exact ⟨od, J⟩
/-- x in r -/
def rInO (neg : Bool) (C : Addr) (sp : Sp) (E : XK) : R2 := fun x y H Q => ∃ a dx fs, y = .ref a ∧ H a = some (.ins C dx fs) ∧ sp [.ref a, x] H (fun v H' => ∃ b, v = .bl b ∧ Q (.bl (if neg then !b else b)) H') E
theorem op_inO (m : Sm X.K C "__contains__" f) (F : FnOk X.prog X.w X.K X.mg X.base CX k f fd ps sp) (hr : Room k X.A) (hb : Binds X.K fd ps []) (hx : Passes CX X E) : OpR X (compareOp .In) (rInO false C sp E) := by
  intro pins s σ H x y v u Q I rx ry h
  obtain ⟨a, dx, fs, rfl, ea, q⟩ := h
  cases ry
  obtain ⟨od, J⟩ := inst I ea
  obtain ⟨m0, hF⟩ := I.fr
  refine PySem.W.in_K hF I.ok.mod.kin J m.at_ m.fn (thn (run_at (vs := [V.ref a, x]) F hr I.env0 hb hx I (.cons rfl (.cons rx .nil)) q) fun r s' hq => ?_)
  obtain ⟨z, H', I', rz, b, rfl, qq⟩ := hq
  cases rz
  exact wpAny_truthy_bool ⟨.bl b, H', I', rfl, qq⟩
theorem op_notInO (m : Sm X.K C "__contains__" f) (F : FnOk X.prog X.w X.K X.mg X.base CX k f fd ps sp) (hr : Room k X.A) (hb : Binds X.K fd ps []) (hx : Passes CX X E) : OpR X (compareOp .NotIn) (rInO true C sp E) := by
  intro pins s σ H x y v u Q I rx ry h
  obtain ⟨a, dx, fs, rfl, ea, q⟩ := h
  cases ry
  obtain ⟨od, J⟩ := inst I ea
  obtain ⟨m0, hF⟩ := I.fr
  refine PySem.W.notIn_K hF I.ok.mod.kin J m.at_ m.fn (thn (run_at (vs := [V.ref a, x]) F hr I.env0 hb hx I (.cons rfl (.cons rx .nil)) q) fun r s' hq => ?_)
  obtain ⟨z, H', I', rz, b, rfl, qq⟩ := hq
  cases rz
  exact wpAny_truthy_bool ⟨.bl (!b), H', I', rfl, qq⟩
/-- r[x] -/
def tIxO (C : Addr) (sp : Sp) (E : XK) (ta tb : TE) : TE := fun σ H Q => ta σ H fun x H1 => tb σ H1 fun y H2 => ∃ a dx fs, x = .ref a ∧ H2 a = some (.ins C dx fs) ∧ sp [.ref a, y] H2 Q E
theorem pe_ixO {a b : Expr} {ta tb : TE} {pos : Pos} (m : Sm X.K C "__getitem__" f) (hfn : PySem.W.fnIn X.K f = true) (F : FnOk X.prog X.w X.K X.mg X.base CX k f fd ps sp) (hr : Room (k + 1) X.A) (hb : Binds X.K fd ps []) (hx : Passes CX X E)
    (ha : PE X a ta) (hb' : PE X b tb) (hsl : ∀ (q : Addr) (i : Value), subscripted b true (.ref q) i = runValue (.builtin "lifetime.subscript" ⟨[.ref q, i], []⟩) := by intro _ _; with_unfolding_all rfl) :
    PE X (.Subscript a b pos) (tIxO C sp E ta tb) := by
  refine ⟨fun pins s σ H Q I h => Subscript_ (binT ha hb' I h fun v u s2 x y H2 I2 rx ry q => ?_)⟩
  obtain ⟨p, dx, fs, rfl, ea, q⟩ := q
  cases rx
  obtain ⟨od, J⟩ := inst I2 ea
  obtain ⟨m0, hF⟩ := I2.fr
  exact PySem.W.sub_K hF I2.ok.mod.kin J m.at_ hfn m.fn (run_at (vs := [V.ref p, y]) F hr.in1 I2.env0.in1 hb hx I2 (.cons rfl (.cons ry .nil)) q) (hsl _ _)
/-- len(r) -/
def rLenO (C : Addr) (sp : Sp) (E : XK) : List V → Hp → VK → Prop := fun xs H Q => ∃ a dx fs, xs = [.ref a] ∧ H a = some (.ins C dx fs) ∧ sp [.ref a] H (fun v H' => ∃ n : Int, v = .int n ∧ 0 ≤ n ∧ n < 2 ^ 63 ∧ Q (.int n) H') E
theorem call_lenO (m : Sm X.K C "__len__" f) (F : FnOk X.prog X.w X.K X.mg X.base CX k f fd ps sp) (hr : Room (k + 1) X.A) (hb : Binds X.K fd ps []) (hx : Passes CX X E) : CallR X (.builtin "len") (rLenO C sp E) := by
  intro pins s σ H xs us Q I r h
  obtain ⟨a, dx, fs, rfl, ea, q⟩ := h
  obtain ⟨u, rfl, ru⟩ := vals1 r
  cases ru
  obtain ⟨od, J⟩ := inst I ea
  obtain ⟨m0, hF⟩ := I.fr
  refine PySem.W.len_K hF I.ok.mod.kin J m.at_ m.fn (thn (run_at (vs := [V.ref a]) F hr.in1 I.env0.in1 hb hx I (.cons rfl .nil) q) fun r s' hq => ?_)
  obtain ⟨z, H', I', rz, n, rfl, n0, n1, qq⟩ := hq
  obtain ⟨t, rfl⟩ := rz
  exact ⟨⟨n0, n1⟩, .int n, H', I'.tok _, ⟨_, rfl⟩, qq⟩
end

/-! ### for x in r, where __iter__ hands back a tuple's iterator -/
/-- at it: an iterator over the tuple at t, not yet begun -/
def TiO (t it : Addr) : HO := .ext fun h => h.IsTupleIter it t 0
theorem tiO_ok {P : Program} {w : World} {H : Hp} {h : Heap} {t it : Addr} (e : h.IsTupleIter it t 0) : ObjOk P w H h it (TiO t it) := by
  obtain ⟨o, ho, z⟩ := id e
  exact ⟨e, ⟨o, ho⟩, fun h1 h2 q k => q.at fun o e => k o e⟩
/-- a promise that may speak of the heap's size at the call -/
structure FnS (P : Program) (w : World) (K : PySem.W.Frag) (mg : Str → Option Value) (base : Heap) (CX : CXT) (k : Nat) (f : Addr) (fd : FuncData) (ps : List Str) (sp : Nat → Sp) : Prop where
  len : ∀ n vs H Q E, sp n vs H Q E → vs.length = ps.length
  run : ∀ (A : Around) (outer : List Env) (s : Shared) (H : Hp) (args : Args) (us : List Value) (vs : List V) (Q : VK) (E : XK), Room k A → Env0 P w K mg base A outer s H → BindsTo s fd args (ps.zip us) → Vals vs us → sp s.heap.objs.size vs H Q E →
    codeAny (model P w) A (.call (.ref f) args) (CR CX outer P w H s Q E) s
theorem Fun.okS {P : Program} {w : World} {K : PySem.W.Frag} {mg : Str → Option Value} {base : Heap} {CX : CXT} {x qual : Str} {st : Stmt} {f : Addr} {fd : FuncData} {N ps : List Str} {k : Nat} {sp : Nat → Sp} (F : L2.Fun K x qual st f fd) (S : FnScope N ps (defScope st))
    (len : ∀ n vs H Q E, sp n vs H Q E → vs.length = ps.length)
    (body : ∀ (cdv : Value) (A : Around) (outer : List Env) (s : Shared) (H : Hp) (vs : List V) (Q : VK) (E : XK), Room k (A.deeper (envOfC qual (defScope st) s.heap.objs.size f cdv)) → sp s.heap.objs.size vs H Q E →
      ∃ t, PSs (cxOf CX P w K mg base N qual (defScope st) f cdv A outer s H E) (defBody st) t ∧ t { nx := fun _ H' => Q .non H', rt := Q } (start N vs) H) : FnS P w K mg base CX (k + 1) f fd ps sp := by
  obtain ⟨oc, od, kV, doc, pm, an, cdv, ct, osl, rfl, lk, hcd⟩ := F.ex
  refine ⟨len, fun A outer s H args us vs Q E hr e0 hb r q => ?_⟩
  -- for this one heap the promise is a plain one
  have G : ∀ n : Nat, n = s.heap.objs.size → codeAny (model P w) A (.call (.ref f) args) (CR CX outer P w H s Q E) s := fun n hn => by
    have hl := len _ _ _ _ _ q
    have kb : ∀ b o, base.get? b = some o → s.heap.get? b = some o := fun b o e => (e0.bs b o e).1
    have KX : K.In s.heap := e0.mod.kin.keeps kb
    have lim : s.heap.NoLimit := e0.mod.nolimit.keeps kb
    have hkind : ∀ y ∈ ps.zip us, (defScope st).names.lookup y.1 = some .local ∨ ((defScope st).names.lookup y.1 = some .cell ∧ ((cellsFrom (s.heap.objs.size + 1) (defScope st).names []).lookup y.1).isSome = true) := by
      rintro ⟨n, v⟩ hy
      rcases S.par n (List.of_mem_zip hy).1 with q | q
      · exact .inl q
      · exact .inr ⟨q, PySem.W.cellsFrom_some _ _ _ (.inl q)⟩
    refine codeAny_call_function hr.depth (KX _ _ lk) rfl S.co S.gen rfl (PySem.W.codeRec_of KX hcd) (hb _ _ _ _ ?_)
    refine wpAny_newFunctionEnv_cells S.kind hkind fun env he s1 x => ?_
    subst he
    refine ⟨lim.keeps x.toInCall.keep, codeAny_func ?_⟩
    obtain ⟨t, ht, hq⟩ := body cdv A outer s H vs Q E (hr.deeper _) q
    have I := inv_start (CX := CX) (w := w) (mg := mg) (E := E) S hr.hd e0 hl r x
    refine wpAny_mono (ht.run [] s1 (start N vs) H _ I hq) (fun fl s' hs => ?_) fun e s' hs => hs
    match fl, hs with
    | .ret u, ⟨v, σ', H', J, rv, q⟩ => exact ⟨v, H', J.os, J.bare, J.base, J.hok, rv, q⟩
    | .next, ⟨σ', H', J, q⟩ => exact ⟨V.non, H', J.os, J.bare, J.base, J.hok, rfl, q⟩
    | .brk, ⟨_, _, _, q⟩ => exact q.elim
    | .cont, ⟨_, _, _, q⟩ => exact q.elim
  exact G _ rfl
/-- iter(t), t a tuple -/
def rIterT (K : PySem.W.Frag) (n : Nat) : List V → Hp → VK → Prop := fun xs H Q => ∃ (t : Addr) (zs : List V), xs = [.ref t] ∧ SqT K H t zs ∧ ∀ it, H it = none → n ≤ it → Q (.ref it) (upd H it (TiO t it))
theorem call_iterT {X : Cx} : CallR X (.builtin "iter") (rIterT X.K X.s_0.heap.objs.size) := by
  intro pins s σ H xs us Q I r h
  obtain ⟨t, zs, rfl, hq, q⟩ := h
  obtain ⟨u, rfl, ru⟩ := vals1 r
  cases ru
  obtain ⟨its, rv, p, hz⟩ := I.tuple hq
  refine Calls.call_function_entry (by decide +kernel) (by decide +kernel) PySem.W.kdk_entry_iter (PySem.W.kdk_args_iter _) ?_
  unfold Builtin.«iter»
  refine wpAny_bind (m := someArgs "iter" 1 2 _) (wpAny_of_eq (a := [Value.ref t]) (by first | rfl | kernel_rfl!) ?_)
  refine wpAny_bind (m := pyIter (.ref t)) (wpAny_pyIter_tuple p ?_)
  exact wpAny_pure ⟨_, rfl, .ref s.heap.objs.size, _, I.laid (t' := s.toks) (fun b u e => Heap.get?_push_of_some _ e) (Nat.le_refl _) (tiO_ok ⟨_, Heap.get?_push_size _ rfl, rfl, rfl⟩), rfl, q _ (I.hok.fresh (Nat.le_refl _)) I.sz⟩
/-- what such an __iter__ promises -/
def spIt (K : PySem.W.Frag) (n : Nat) : Sp := fun vs H Q _ => ∃ (a C dx : Addr) (fs : List (Str × V)) (t : Addr) (zs : List V), vs = [.ref a] ∧ H a = some (.ins C dx fs) ∧ Cls K C ∧ NoAttr K C "names" ∧ fs.lookup ("names" : Str) = some (.ref t) ∧ SqT K H t zs ∧
  ∀ it, H it = none → n ≤ it → Q (.ref it) (upd H it (TiO t it))
section
variable {X : Cx} {CX : CXT} {k : Nat} {C f : Addr} {fd : FuncData} {ps : List Str} {E : XK} {tg e : Expr} {te : TE}
def iOwn (K : PySem.W.Frag) (te : TE) (C : Addr) : TI := fun σ H R => te σ H fun x H1 => ∃ (a dx : Addr) (fs : List (Str × V)) (t : Addr) (zs : List V), x = .ref a ∧ H1 a = some (.ins C dx fs) ∧ fs.lookup ("names" : Str) = some (.ref t) ∧ SqT K H1 t zs ∧ R (Itt K t) H1
theorem pi_own (m : Sm X.K C "__iter__" f) (c : Cls X.K C) (na : NoAttr X.K C "names") (F : FnS X.prog X.w X.K X.mg X.base CX k f fd ps (spIt X.K)) (hr : Room k X.A) (hb : Binds X.K fd ps []) (hx : Passes CX X E) (he : PE X e te) : PI X tg e (iOwn X.K te C) := by
  refine ⟨fun pins s σ H R I h => thn (he.run pins s σ H _ I h) fun v s1 hv => ?_⟩
  obtain ⟨x, H1, I1, rx, a, dx, fs, t, zs, rfl, ea, el, hq, q⟩ := hv
  cases rx
  obtain ⟨od, J⟩ := inst I1 ea
  obtain ⟨m0, hF⟩ := I1.fr
  refine PySem.W.owit_iter hF I1.ok.mod.kin J m.at_ m.fn ?_
  have hsp : spIt X.K s1.heap.objs.size [V.ref a] H1 (fun v H2 => ∃ it, v = .ref it ∧ H1 it = none ∧ s1.heap.objs.size ≤ it ∧ H2 = upd H1 it (TiO t it)) E :=
    ⟨a, C, dx, fs, t, zs, rfl, ea, c, na, el, hq, fun it h0 h1 => ⟨it, rfl, h0, h1, rfl⟩⟩
  have hl := F.len _ _ _ _ _ hsp
  have b := hb s1 [Value.ref a] I1.kIn (by simpa using hl)
  rw [List.append_nil] at b
  refine wpAny_call (codeAny_mono (F.run X.A X.stack s1 H1 ⟨[.ref a], []⟩ [.ref a] [.ref a] _ E hr I1.env0 b (.cons rfl .nil) hsp) fun r s' hq' => ?_)
  match r, hq' with
  | .error er, hq' => exact hx pins σ H1 s1 er s' I1 hq'
  | .ok (.ret u), hq' =>
    obtain ⟨z, H2, I2, rz, it, rfl, n0, n1, rfl⟩ := I1.after hq'
    cases rz
    have e2 : (upd H1 it (TiO t it)) it = some (TiO t it) := upd_same
    have ti : s'.heap.IsTupleIter it t 0 := (I2.hok it _ e2).1
    refine wpAny_specialOf ti.typeIs PySem.F.slot_tuple_iterator_next.lookup ?_
    have ed : ItX.dropH (upd H1 it (TiO t it)) it = H1 := ItX.dropH_upd n0
    have I3 := ItX.inv_drop I2 e2
    have fp := ItX.inv_fp I2 e2 (Nat.le_trans I1.sz n1)
    rw [ed] at I3 fp
    refine ⟨it, [it], _, Itt X.K t, H1, rfl, I3, turn_tuple t it, ti, fun b hb => ?_, q⟩
    have eb : b = it := by simpa using hb
    rw [eb]
    exact fp
end

/-! ### C.m(..), m a static method -/
structure SMet (K : PySem.W.Frag) (C : Addr) (mc : Value) (m : Str) (p g : Addr) : Prop where
  rd : ClX.CRead K C mc
  at_ : PySem.W.findCls K (.ref C) mc m = some (.get (.builtin "staticmethod.__get__") (.ref p) .none (.ref C))
  rc : ∃ rest, PySem.W.recIn K p "staticmethod" = some (.ref g :: rest)
  kp : PySem.W.keepIn K (.ref g) = true
def tSMet (C : Addr) (sp : Sp) (E : XK) (ta : TE) (t : TA) : TE := fun σ H Q => ta σ H fun x H1 => x = .ref C ∧ t σ H1 fun vs H2 => sp vs H2 Q E
section
variable {X : Cx} {CX : CXT} {k : Nat} {C p g : Addr} {mc : Value} {fd : FuncData} {ps : List Str} {sp : Sp} {E : XK} {o e : Expr} {es : List Expr} {m : Str} {pos apos : Pos} {ta : TE} {t : TA} {pl : Sem Bool}
theorem pe_sm (he : PE X o ta) (c : SMet X.K C mc m p g) (F : FnOk X.prog X.w X.K X.mg X.base CX k g fd ps sp) (hr : Room k X.A) (hb : Binds X.K fd ps []) (hx : Passes CX X E) (ha : PA X (e :: es) t)
    (hst : starEach (e :: es) X.env = (false, eval e X.env) :: starEach es X.env := by rfl) (hpl : (backTo pos (starEach es X.env)).any (·.1) = false := by rfl)
    (ht : eval (.Call (.Attribute o m apos) (e :: es) [] pos) X.env = (do
      let ov ← eval o X.env
      standAt apos.atName
      let (f, first) ← holding [ov] (getMethod ov m pl)
      callWith pos f first (backTo pos (starEach (e :: es) X.env)) (backToKw pos (keywordEach [] X.env))) := by rfl) :
    PE X (.Call (.Attribute o m apos) (e :: es) [] pos) (tSMet C sp E ta t) := by
  refine ⟨fun pins s σ H Q I h => PySem.W.methodCall_KW (pl := pl) (thn (he.run pins s σ H _ I h) fun u s1 hv => ?_) ht⟩
  obtain ⟨x, H1, I1, rx, rfl, q⟩ := hv
  obtain rfl : u = Value.ref C := rx
  obtain ⟨rest, hp⟩ := c.rc
  refine PySem.W.method_cls I1.kIn c.rd.ga (PySem.W.cls_bind I1.kIn c.rd.rd c.at_ ?_)
  refine wpAny_call (PySem.W.sm_get (s := { s1 with toks := s1.toks + 1 }) I1.kIn hp (PySem.W.handed_on rfl ?_))
  have I2 := I1.tok (s1.toks + 1)
  refine PySem.W.callWith_K (h₀ := X.base) I2.ok.mod.kin c.kp (thn (ha.run pos pins _ σ H1 _ I2 q) fun us s2 h2 => ?_) hst hpl
  obtain ⟨vs, H2, I3, rv, q2⟩ := h2
  exact ⟨I3.kIn, run_at F hr I3.env0 hb hx I3 rv q2⟩
end

/-! ### == where one side is an int and the other one of an own class -/
theorem int_eq_ins {prog : Program} {w : World} {A : Around} {E : Value → Shared → Prop} {s : Shared} {a : Int} {t : Tok} {l : Addr} {ox : Obj} {Q : Value → Shared → Prop} (ho : s.heap.get? l = some ox) (hd : ox.data = .plain) (h : Q .notImplemented s) :
    wpAny (model prog w) A (call (.builtin "int.__eq__") [.int a t, .ref l]) Q E s := by
  refine GQ.call_here PySem.F.slot_int_eq (typeIs_int s a t) PySem.F.entry_int_eq (PySem.F.args_int_eq_2 _ _) ?_
  obtain ⟨hp, g, d, tk, os⟩ := s
  obtain ⟨oc, od, oda, osl⟩ := ox
  dsimp only at hd
  subst hd
  wp_walk
  exact h
section
variable {X : Cx} {CX : CXT} {k : Nat} {C f : Addr} {fd : FuncData} {ps : List Str} {sp : Sp} {E : XK}
/-- r == y, by r's own def -/
def rEqOL (K : PySem.W.Frag) (C : Addr) (sp : Sp) (E : XK) : R2 := fun x y H Q => ∃ a dx fs, x = .ref a ∧ H a = some (.ins C dx fs) ∧
  ((∃ i, y = .int i) ∨ ∃ b dy gs, y = .ref b ∧ H b = some (.ins C dy gs)) ∧ sp [.ref a, y] H (fun v H' => ∃ b, v = .bl b ∧ Q (.bl b) H') E
theorem op_eqOL (m : Sm X.K C "__eq__" f) (hi : PySem.W.subIn X.K (.type "int") (.ref C) = some false) (F : FnOk X.prog X.w X.K X.mg X.base CX k f fd ps sp) (hr : Room k X.A) (hb : Binds X.K fd ps []) (hx : Passes CX X E) :
    OpR X (compareOp .Eq) (rEqOL X.K C sp E) := by
  intro pins s σ H x y v u Q I rx ry h
  obtain ⟨a, dx, fs, rfl, ea, hy, q⟩ := h
  cases rx
  obtain ⟨od, J⟩ := inst I ea
  obtain ⟨m0, hF⟩ := I.fr
  have fin : wpAny (model X.prog X.w) X.A (call (.ref f) [.ref a, u]) (PySem.W.CmpBack (EP X pins σ Q)) X.xe s := by
    refine thn (run_at (vs := [V.ref a, y]) F hr I.env0 hb hx I (.cons rfl (.cons ry .nil)) q) fun r s' hq => ?_
    obtain ⟨z, H', I', rz, b, rfl, qq⟩ := hq
    cases rz
    exact ⟨.bl b, H', I', rfl, qq⟩
  show wpAny _ _ (richCompare .Eq (.ref a) u) _ _ _
  rcases hy with ⟨i, rfl⟩ | ⟨b, dy, gs, rfl, eb⟩
  · obtain ⟨t, rfl⟩ := ry
    refine PySem.W.cmp_K (op := .Eq) (tb := .type "int") hr.units0 hF I.ok.mod.kin J .now ?_ m.at_ m.fn fin
    unfold PySem.W.notFirst
    rw [hi]
    rfl
  · cases ry
    obtain ⟨oe, J2⟩ := inst I eb
    exact PySem.W.cmp_K (op := .Eq) (tb := .ref C) hr.units0 hF I.ok.mod.kin J J2.type (by simp [PySem.W.notFirst]) m.at_ m.fn fin
/-- i == r: int declines, then r's own def is asked -/
def rEqOR (C : Addr) (sp : Sp) (E : XK) : R2 := fun x y H Q => ∃ i a dx fs, x = .int i ∧ y = .ref a ∧ H a = some (.ins C dx fs) ∧ sp [.ref a, .int i] H (fun v H' => ∃ b, v = .bl b ∧ Q (.bl b) H') E
theorem op_eqOR (m : Sm X.K C "__eq__" f) (hi : PySem.W.subIn X.K (.ref C) (.type "int") = some false) (F : FnOk X.prog X.w X.K X.mg X.base CX k f fd ps sp) (hr : Room k X.A) (hb : Binds X.K fd ps []) (hx : Passes CX X E) :
    OpR X (compareOp .Eq) (rEqOR C sp E) := by
  intro pins s σ H x y v u Q I rx ry h
  obtain ⟨i, a, dx, fs, rfl, rfl, ea, q⟩ := h
  cases ry
  obtain ⟨t, rfl⟩ := rx
  obtain ⟨od, J⟩ := inst I ea
  obtain ⟨m0, hF⟩ := I.fr
  have K0 := I.kIn
  have one : wpAny (model X.prog X.w) X.A (tryCompare (.ref a) "__eq__" (.int i t)) (fun r s' => ∃ v, r = some v ∧ EP X pins σ Q v s') X.xe s := by
    unfold tryCompare
    refine wpAny_bind (PySem.W.ifBound_K K0 J m.at_ m.fn (thn (run_at (vs := [V.ref a, V.int i]) F hr I.env0 hb hx I (.cons rfl (.cons ⟨t, rfl⟩ .nil)) q) fun r s' hq => ?_))
    obtain ⟨z, H', I', rz, b, rfl, qq⟩ := hq
    cases rz
    exact wpAny_pure ⟨_, rfl, .bl b, H', I', rfl, qq⟩
  show wpAny _ _ (richCompare .Eq (.int i t) (.ref a)) _ _ _
  have o0 : oneThing? .Eq (.int i t) (.ref a) = none := by first | rfl | decide +kernel
  have ne : (Value.type "int" != Value.ref C) = true := by simp
  unfold richCompare
  simp only [o0]
  refine wpAny_holding (wpAny_bind (wpAny_cRoomFor hr.units0 ?_))
  refine wpAny_bind (wpAny_typeOf (T := "int") (PySem.typeIs_int s i t) (wpAny_bind (J.type.here ?_)))
  simp only [ne, if_true]
  refine wpAny_bind ((PySem.W.looks_subIn K0 hi).here ?_)
  simp only [Bool.false_eq_true, if_false, Bool.not_false, if_true]
  refine wpAny_bind (m := tryCompare (.int i t) _ (.ref a)) (wpAny_tryCompare_declines (PySem.typeIs_int s i t) PySem.F.slot_int_eq (int_eq_ins J.at_ rfl ⟨rfl, ?_⟩))
  refine wpAny_bind (m := tryCompare (.ref a) _ (.int i t)) (wpAny_mono one (fun r s' z => ?_) fun _ _ e => e)
  obtain ⟨v, rfl, hq⟩ := z
  exact wpAny_pure hq
end
end GrOwn
/-! The law's own helpers: cells, the tape, what is drawn from it. -/
namespace Lw
open PySem PySem.Spec PyProof.Rows L2 GrT
def top (i : Nat) : Stmt := PySem.Challenge.pw_growingrecords_k05_fields_changed.main.body.getD i (.Pass ⟨0, 0, 0, 0⟩)
abbrev sCell : Stmt := top 13
abbrev sMixed : Stmt := top 14
abbrev sTape : Stmt := top 15
abbrev sTake : Stmt := top 16
abbrev sNumber : Stmt := top 17
abbrev sWord : Stmt := top 18
abbrev sWords : Stmt := top 19
/-- a def of the module's top, by its name -/
structure Dfn (K : PySem.W.Frag) (mg : Str → Option Value) (x : Str) (st : Stmt) (ps : List Str) : Prop where
  ex : ∃ f fd, mg x = some (.ref f) ∧ L2.Fun K x x st f fd ∧ Binds K fd ps []
/-- the def called x keeps the promise sp, at level k -/
structure Cal (P : Program) (w : World) (K : PySem.W.Frag) (mg : Str → Option Value) (base : Heap) (k : Nat) (x : Str) (sp : Sp) : Prop where
  ex : ∃ (f : Addr) (fd : FuncData) (ps : List Str), FnOk P w K mg base CX0 k f fd ps sp ∧ mg x = some (.ref f) ∧ PySem.W.keepIn K (.ref f) = true ∧ Binds K fd ps []
theorem pe_c {X : Cx} {k j : Nat} {x : Str} {sp : Sp} {p pos : Pos} {e : Expr} {es : List Expr} {t : TA} (c : Cal X.prog X.w X.K X.mg X.base k x sp) (hr : Room j X.A) (hk : k ≤ j) (hg : Gl X x) (ha : PA X (e :: es) t)
    (hdb : (x == ("__debug__" : Str)) = false := by decide) (he : starEach (e :: es) X.env = (false, eval e X.env) :: starEach es X.env := by rfl) (hpl : (backTo pos (starEach es X.env)).any (·.1) = false := by rfl) :
    PE X (.Call (.Name x p) (e :: es) [] pos) (tCall sp [] E0 t) := by
  obtain ⟨f, fd, ps, F, hm, kp, b⟩ := c.ex
  exact pe_call F (hr.mono hk) hg hm kp b .nil pass0 ha hdb he hpl
/-- what the top leaves of the built-ins that the helpers ask -/
structure Bt (mg : Str → Option Value) : Prop where
  b_len : mg "len" = none
  b_int : mg "int" = none
  b_range : mg "range" = none
section
variable {P : Program} {w : World} {K : PySem.W.Frag} {mg : Str → Option Value} {base : Heap}
theorem Dfn.cal {x : Str} {st : Stmt} {N ps : List Str} {k : Nat} {sp : Sp} (D : Dfn K mg x st ps) (S : FnScope N ps (defScope st)) (len : ∀ vs H Q E, sp vs H Q E → vs.length = ps.length)
    (body : ∀ (f : Addr) (cdv : Value) (A : Around) (outer : List Env) (s : Shared) (H : Hp) (vs : List V) (Q : VK) (E : XK), Room k (A.deeper (envOfC x (defScope st) s.heap.objs.size f cdv)) → sp vs H Q E →
      ∃ t, PSs (cxOf CX0 P w K mg base N x (defScope st) f cdv A outer s H E).nox (defBody st) t ∧ t { nx := fun _ H' => Q .non H', rt := Q } (start N vs) H) : Cal P w K mg base (k + 1) x sp := by
  obtain ⟨f, fd, hm, F, b⟩ := D.ex
  exact ⟨f, fd, ps, F.ok S len (body f), hm, F.kp, b⟩
end
/-! ### what is promised -/
/-- all but the object at T stands -/
def Fx (T : Addr) (H H' : Hp) : Prop := ∀ b o, b ≠ T → H b = some o → H' b = some o
theorem Fx.refl {T : Addr} {H : Hp} : Fx T H H := fun _ _ _ e => e
theorem Fx.trans {T : Addr} {H H1 H2 : Hp} (a : Fx T H H1) (b : Fx T H1 H2) : Fx T H H2 := fun c o n e => b c o n (a c o n e)
theorem Fx.set {T : Addr} {H : Hp} {o : HO} : Fx T H (upd H T o) := fun b u n e => by
  rw [upd_ne n]
  exact e
theorem Fx.same {T : Addr} {H H' : Hp} (s : Same H H') : Fx T H H' := fun b o _ e => s b o e
theorem Fx.new {T a : Addr} {H H1 : Hp} {o : HO} (x : Fx T H H1) (n : H1 a = none) : Fx T H (upd H1 a o) := fun b u ne e => by
  have q := x b u ne e
  rw [upd_ne (ne_of_none q n)]
  exact q
/-- the tape: ints below 720720 -/
def Tape (H : Hp) (T : Addr) : Prop := ∃ ns : List Int, H T = some (.lst (ns.map V.int)) ∧ ns.length ≤ 1000 ∧ ∀ n ∈ ns, 0 ≤ n ∧ n < 720720
theorem Tape.new {H : Hp} {T a : Addr} {o : HO} (t : Tape H T) (n : H a = none) : Tape (upd H a o) T := by
  obtain ⟨ns, e, z⟩ := t
  exact ⟨ns, by rw [upd_ne (ne_of_none e n)]; exact e, z⟩
theorem Tape.ne {H : Hp} {T a : Addr} {o : HO} (t : Tape H T) (e : H a = some o) (d : ∀ xs, o ≠ .lst xs) : a ≠ T := by
  obtain ⟨ns, q, _⟩ := t
  exact ne_of e q (d _)
theorem Tape.put {H : Hp} {T a : Addr} {o : HO} (t : Tape H T) (n : a ≠ T) : Tape (upd H a o) T := by
  obtain ⟨ns, e, z⟩ := t
  exact ⟨ns, by rw [upd_ne n.symm]; exact e, z⟩
def spCell (K : PySem.W.Frag) : Sp := fun vs H Q _ => ∃ (a : Addr) (ns : List Int) (k : Int), vs = [.ref a, .int k] ∧ SqL K H a (ns.map V.int) ∧ 0 ≤ k ∧ ∀ i, Q (.int i) H
def spMixed : Sp := fun vs H Q _ => ∃ c k : Int, vs = [.int c, .int k] ∧ 0 ≤ k ∧ k < 10000 ∧ ∀ i, 0 ≤ i → i < 720720 → Q (.int i) H
def spTape : Sp := fun vs H Q _ => ∃ g l c : Int, vs = [.int g, .int l, .int c] ∧ 0 ≤ c ∧ c ≤ 1000 ∧ ∀ T H', H T = none → Tape H' T → Same H H' → Q (.ref T) H'
def spTake : Sp := fun vs H Q _ => ∃ (T : Addr) (m : Int), vs = [.ref T, .int m] ∧ Tape H T ∧ 0 < m ∧ ∀ i H', 0 ≤ i → i < m → Fx T H H' → Tape H' T → Q (.int i) H'
def spNumber : Sp := fun vs H Q _ => ∃ T : Addr, vs = [.ref T] ∧ Tape H T ∧ ∀ i H', 0 ≤ i → i < 2 ^ 100 → Fx T H H' → Tape H' T → Q (.int i) H'
/-- a text of signs a to z -/
def Az (x : Str) : Prop := ∀ c ∈ x.cps.toList, letter c
def spWord : Sp := fun vs H Q _ => ∃ (T : Addr) (m : Int), vs = [.ref T, .int m] ∧ Tape H T ∧ 0 < m ∧ m ≤ 100 ∧ ∀ (x : Str) H', 1 ≤ x.length → (x.length : Int) ≤ m → Az x → Fx T H H' → Tape H' T → Q (.str x) H'
section
variable {P : Program} {w : World} {K : PySem.W.Frag} {mg : Str → Option Value} {base : Heap}
/-! ### the defs -/
theorem scCell : FnScope ["script", "k"] ["script", "k"] (defScope sCell) := ⟨rfl, rfl, rfl, by decide +kernel, rfl, by decide +kernel, by decide +kernel⟩
theorem c_cell (T : Bt mg) (D : Dfn K mg "_law_cell" sCell ["script", "k"]) : Cal P w K mg base 1 "_law_cell" (spCell K) := by
  refine D.cal scCell (fun vs H Q E h => ?_) (fun f cdv A outer s H vs Q E hr h => ?_)
  · obtain ⟨a, ns, k, rfl, _⟩ := h
    rfl
  · obtain ⟨a, ns, k, rfl, hS, k0, q⟩ := h
    refine ⟨_, (pss_cons (ps_if (pt_cmpR op_lt (pv 1) (pe_callB call_len_seq (by rfl) T.b_len PySem.boot_len (pa_cons (pv 0) pa_nil)) (nomark _))
      (pss_one (ps_ret (pe_ix ix_list (pv 0) (pv 1) (fun _ _ => rfl))))
      pss_nil)
      (pss_one (ps_ret pe_int))), ?_⟩
    refine ⟨_, rfl, _, rfl, a, _, rfl, .inl hS, _, _, rfl, rfl, _, rfl, ?_⟩
    refine ite2 (fun hk => ?_) (fun _ => q 0)
    have hk' := of_decide_eq_true hk
    rw [List.length_map] at hk'
    have e1 : k.toNat < ns.length := by omega
    refine ⟨_, rfl, _, rfl, a, _, _, _, rfl, rfl, hS, ?_, q (ns[k.toNat]'e1)⟩
    obtain ⟨j, rfl⟩ : ∃ j : Nat, k = (j : Int) := ⟨k.toNat, by omega⟩
    refine atI_nat ?_
    rw [List.getElem?_map]
    have e3 : j < ns.length := by omega
    simp [List.getElem?_eq_getElem e3]
theorem scMixed : FnScope ["cell", "k", "first", "second"] ["cell", "k"] (defScope sMixed) := ⟨rfl, rfl, rfl, by decide +kernel, rfl, by decide +kernel, by decide +kernel⟩
theorem c_mixed (T : Bt mg) (D : Dfn K mg "_law_mixed" sMixed ["cell", "k"]) : Cal P w K mg base 1 "_law_mixed" spMixed := by
  refine D.cal scMixed (fun vs H Q E h => ?_) (fun f cdv A outer s H vs Q E hr h => ?_)
  · obtain ⟨c, k, rfl, _⟩ := h
    rfl
  · obtain ⟨c, k, rfl, k0, k1, q⟩ := h
    refine ⟨_, (pss_cons (ps_set (i := 2) scMixed.nd rfl (Or.inl rfl) (pe_op op_mod (pe_callTy call_int1 (by rfl) T.b_int (by decide +kernel) (pa_cons (pe_op op_add (pe_op op_add (pe_op op_mul (pv 0) pe_int) (pe_op op_mul (pv 1) pe_int)) pe_int) pa_nil)) pe_int))
      (pss_cons (ps_set (i := 3) scMixed.nd rfl (Or.inl rfl) (pe_op op_mod (pe_callTy call_int1 (by rfl) T.b_int (by decide +kernel) (pa_cons (pe_op op_add (pe_op op_add (pe_op op_mul (pv 2) (pv 2)) (pe_op op_mul pe_int (pv 2))) (pe_op op_mul (pv 1) pe_int)) pa_nil)) pe_int))
      (pss_one (ps_ret (pe_op op_mod (pe_callTy call_int1 (by rfl) T.b_int (by decide +kernel) (pa_cons (pv 3) pa_nil)) pe_int))))), ?_⟩
    have p31 : (0 : Int) < 2147483647 := by decide
    have f0 : ∀ z : Int, 0 ≤ z % 2147483647 ∧ z % 2147483647 < 2147483647 := fun z => ⟨Int.emod_nonneg z (by decide), Int.emod_lt_of_pos z p31⟩
    refine ⟨_, rfl, _, _, rfl, rfl, .inr ⟨by decide, by decide⟩, _, rfl, _, _, rfl, rfl, .inr ⟨by decide, by decide⟩, _, _, rfl, rfl, _, _, rfl, rfl, .inl ⟨_, rfl, _, _, rfl, rfl, p31, ?_⟩⟩
    generalize hz : (c * 48271 + k * 69621 + 7) % 2147483647 = z
    have hf := f0 (c * 48271 + k * 69621 + 7)
    rw [hz] at hf
    refine ⟨_, rfl, _, rfl, _, _, rfl, rfl, .inl ⟨by omega, by omega⟩, _, rfl, _, _, rfl, rfl, .inl ⟨by decide, by decide⟩, _, _, rfl, rfl, _, rfl, _, _, rfl, rfl, .inr ⟨by decide, by decide⟩, _, _, rfl, rfl, .inl ⟨_, rfl, _, _, rfl, rfl, (by decide : (0 : Int) < 2147483629), ?_⟩⟩
    exact ⟨_, rfl, .inl ⟨_, rfl, _, _, rfl, rfl, (by decide : (0 : Int) < 720720), q _ (Int.emod_nonneg _ (by decide)) (Int.emod_lt_of_pos _ (by decide))⟩⟩
theorem scTape : FnScope ["great", "lesser", "count", "tape", "rest", "k", "drawn"] ["great", "lesser", "count"] (defScope sTape) := ⟨rfl, rfl, rfl, by decide +kernel, rfl, by decide +kernel, by decide +kernel⟩
theorem p72 : (0 : Int) < 720720 := by decide
theorem c_tape (T : Bt mg) (D : Dfn K mg "_law_tape" sTape ["great", "lesser", "count"]) (c_law_mixed : Cal P w K mg base 1 "_law_mixed" spMixed) : Cal P w K mg base 2 "_law_tape" spTape := by
  refine D.cal scTape (fun vs H Q E h => ?_) (fun f cdv A outer s H vs Q E hr h => ?_)
  · obtain ⟨g, l, c, rfl, _⟩ := h
    rfl
  · obtain ⟨g, l, c, rfl, c0, c1, q⟩ := h
    refine ⟨_, (pss_cons (ps_set (i := 3) scTape.nd rfl (Or.inl rfl) (pe_lst pa_nil))
      (pss_cons (ps_set (i := 4) scTape.nd rfl (Or.inl rfl) (pv 0))
      (pss_cons (ps_for PassesOwn.never rfl (pi_range1 (by rfl) T.b_range (pa_cons (pv 2) pa_nil)) (pg_name (i := 5) scTape.nd rfl (Or.inl rfl))
      (pss_cons (ps_set (i := 6) scTape.nd rfl (Or.inl rfl) (pe_c c_law_mixed hr (by decide) rfl (pa_cons (pv 1) (pa_cons (pv 5) pa_nil))))
      (pss_cons (ps_if (pt_cmpR op_ge (pv 0) (pe_op op_pow pe_int pe_int) (nomark _))
      (pss_cons (ps_set (i := 6) scTape.nd rfl (Or.inl rfl) (pe_op op_add (pv 6) (pe_op op_mod (pe_callTy call_int1 (by rfl) T.b_int (by decide +kernel) (pa_cons (pv 4) pa_nil)) pe_int)))
      (pss_one (ps_set (i := 4) scTape.nd rfl (Or.inl rfl) (pe_op op_fdiv (pv 4) pe_int))))
      (pss_one (ps_set (i := 6) scTape.nd rfl (Or.inl rfl) (pe_op op_add (pv 6) (pe_c c_law_mixed hr (by decide) rfl (pa_cons (pv 0) (pa_cons (pe_op op_add (pv 5) pe_int) pa_nil)))))))
      (pss_one (ps_expr (pe_bm PySem.F.plainAttrs_list PySem.F.slot_list_append PySem.F.type_list_append mt_append (pv 3) (pa_cons (pe_op op_mod (pe_callTy call_int1 (by rfl) T.b_int (by decide +kernel) (pa_cons (pv 6) pa_nil)) pe_int) pa_nil)))))))
      (pss_one (ps_ret (pv 3)))))), ?_⟩
    refine ⟨Nat.zero_le _, fun p hp => ?_⟩
    refine ⟨_, rfl, _, rfl, c, rfl, by omega, by omega, for_range (lo := 0) (n := c.toNat) (fun i σ H' => ∃ (r : Int) (kv dv : Option V) (ns : List Int), σ = [some (.int g), some (.int l), some (.int c), some (.ref p), some (.int r), kv, dv] ∧
      H' p = some (.lst (ns.map V.int)) ∧ ns.length = i ∧ (∀ n ∈ ns, 0 ≤ n ∧ n < 720720) ∧ Same H H') ⟨g, none, none, [], rfl, upd_same, rfl, (fun n hn => by cases hn), (fun b o e => by rw [upd_ne (ne_of_none e hp)]; exact e)⟩ ?_ ?_⟩
    · rintro i σ H' hi ⟨r, kv, dv, ns, rfl, hl, hn, hb, hs⟩
      refine ⟨_, rfl, _, rfl, _, _, rfl, by omega, by omega, fun d1 hd1 hd2 => ?_⟩
      refine ⟨_, rfl, _, _, rfl, rfl, ⟨by decide, by decide, by decide⟩, _, _, rfl, rfl, _, rfl, ite2 (fun _ => ?_) (fun _ => ?_)⟩
      · refine ⟨_, rfl, _, rfl, .inl ⟨_, rfl, _, _, rfl, rfl, p72, _, _, rfl, rfl, _, rfl, _, _, rfl, rfl, ⟨by decide, by decide⟩, ?_⟩⟩
        refine ⟨_, rfl, .inl ⟨rfl, _, .inl (.inl hl)⟩, _, rfl, .inl ⟨_, rfl, _, _, rfl, rfl, p72, p, _, _, rfl, rfl, hl, small1000 (by rw [List.length_map]; omega), ?_⟩⟩
        refine ⟨_, _, _, ns ++ [(d1 + r % 720720) % 720720], rfl, ?_, by rw [List.length_append, hn]; rfl, fun n h => ?_, fun b o e => ?_⟩
        · rw [upd_same, List.map_append]
          rfl
        · rcases List.mem_append.mp h with h | h
          · exact hb n h
          · have e := List.mem_singleton.mp h
            rw [e]
            exact ⟨Int.emod_nonneg _ (by decide), Int.emod_lt_of_pos _ p72⟩
        · rw [upd_ne (ne_of_none e hp)]
          exact hs b o e
      · refine ⟨_, rfl, _, rfl, _, rfl, _, _, rfl, rfl, _, _, rfl, by omega, by omega, fun d2 hd3 hd4 => ⟨_, _, rfl, rfl, ?_⟩⟩
        refine ⟨_, rfl, .inl ⟨rfl, _, .inl (.inl hl)⟩, _, rfl, .inl ⟨_, rfl, _, _, rfl, rfl, p72, p, _, _, rfl, rfl, hl, small1000 (by rw [List.length_map]; omega), ?_⟩⟩
        refine ⟨_, _, _, ns ++ [(d1 + d2) % 720720], rfl, ?_, by rw [List.length_append, hn]; rfl, fun n h => ?_, fun b o e => ?_⟩
        · rw [upd_same, List.map_append]
          rfl
        · rcases List.mem_append.mp h with h | h
          · exact hb n h
          · have e := List.mem_singleton.mp h
            rw [e]
            exact ⟨Int.emod_nonneg _ (by decide), Int.emod_lt_of_pos _ p72⟩
        · rw [upd_ne (ne_of_none e hp)]
          exact hs b o e
    · rintro σ H' ⟨r, kv, dv, ns, rfl, hl, hn, hb, hs⟩
      exact ⟨_, rfl, q p H' hp ⟨ns, hl, by omega, hb⟩ hs⟩
theorem scTake : FnScope ["tape", "many"] ["tape", "many"] (defScope sTake) := ⟨rfl, rfl, rfl, by decide +kernel, rfl, by decide +kernel, by decide +kernel⟩
theorem type_pop : typeOf (.builtin "list.pop") = pure (.type "method_descriptor") := by
  show builtinType _ = _
  rw [builtinType_eq_fast]
  kernel_rfl
theorem c_take (T : Bt mg) (D : Dfn K mg "_law_take" sTake ["tape", "many"]) : Cal P w K mg base 1 "_law_take" spTake := by
  refine D.cal scTake (fun vs H Q E h => ?_) (fun f cdv A outer s H vs Q E hr h => ?_)
  · obtain ⟨p, m, rfl, _⟩ := h
    rfl
  · obtain ⟨p, m, rfl, ⟨ns, hl, hn, hb⟩, m0, q⟩ := h
    refine ⟨_, (pss_cons (ps_if (pt_not (pt_truth (pv 0) (by intro _; rfl)))
      (pss_one (ps_ret pe_int))
      pss_nil)
      (pss_one (ps_ret (pe_op op_mod (pe_callTy call_int1 (by rfl) T.b_int (by decide +kernel) (pa_cons (pe_bm PySem.F.plainAttrs_list PySem.F.slot_list_pop type_pop mt_popAt (pv 0) (pa_cons pe_int pa_nil)) pa_nil)) (pv 1))))), ?_⟩
    refine ⟨_, rfl, !(ns.map V.int).isEmpty, .inl ⟨_, SqL.of hl, rfl⟩, ?_⟩
    cases ns with
    | nil => exact iteT (q 0 H (Int.le_refl _) m0 Fx.refl ⟨[], hl, hn, hb⟩)
    | cons n ns =>
      refine iteF ?_
      refine ⟨_, rfl, .inl ⟨rfl, _, .inl (.inl hl)⟩, p, _, 0, 0, .int n, rfl, rfl, hl, by decide, by decide, by simp [seqIndex?], rfl, ?_⟩
      refine .inl ⟨n, rfl, _, rfl, n, m, rfl, rfl, m0, ?_⟩
      refine q _ _ (Int.emod_nonneg _ (by omega)) (Int.emod_lt_of_pos _ m0) Fx.set ⟨ns, upd_same, ?_, fun z hz => hb z (List.mem_cons_of_mem _ hz)⟩
      rw [List.length_cons] at hn
      omega
end
end Lw
namespace Lw
open PySem PySem.Spec PyProof.Rows L2 GrT
section
variable {P : Program} {w : World} {K : PySem.W.Frag} {mg : Str → Option Value} {base : Heap}
theorem scNumber : FnScope ["tape", "number", "k"] ["tape"] (defScope sNumber) := ⟨rfl, rfl, rfl, by decide +kernel, rfl, by decide +kernel, by decide +kernel⟩
theorem pow_step {m d : Int} {i : Nat} (h0 : 0 ≤ m) (h : m < 720720 ^ i) (d0 : 0 ≤ d) (d1 : d < 720720) : 0 ≤ m * 720720 + d ∧ m * 720720 + d < 720720 ^ (i + 1) := by
  have e : (720720 : Int) ^ (i + 1) = 720720 ^ i * 720720 := Int.pow_succ _ _
  rw [e]
  generalize (720720 : Int) ^ i = q at h
  omega
theorem c_number (T : Bt mg) (D : Dfn K mg "_law_number" sNumber ["tape"]) (c_law_take : Cal P w K mg base 1 "_law_take" spTake) : Cal P w K mg base 2 "_law_number" spNumber := by
  refine D.cal scNumber (fun vs H Q E h => ?_) (fun f cdv A outer s H vs Q E hr h => ?_)
  · obtain ⟨p, rfl, _⟩ := h
    rfl
  · obtain ⟨p, rfl, tp, q⟩ := h
    refine ⟨_, (pss_cons (ps_if (pt_cmpR op_lt (pe_c c_law_take hr (by decide) rfl (pa_cons (pv 0) (pa_cons pe_int pa_nil))) pe_int (nomark _))
      (pss_one (ps_ret (pe_c c_law_take hr (by decide) rfl (pa_cons (pv 0) (pa_cons pe_int pa_nil)))))
      pss_nil)
      (pss_cons (ps_set (i := 1) scNumber.nd rfl (Or.inl rfl) pe_int)
      (pss_cons (ps_for PassesOwn.never rfl (pi_range1 (by rfl) T.b_range (pa_cons pe_int pa_nil)) (pg_name (i := 2) scNumber.nd rfl (Or.inl rfl))
      (pss_one (ps_set (i := 1) scNumber.nd rfl (Or.inl rfl) (pe_op op_add (pe_op op_mul (pv 1) pe_int) (pe_c c_law_take hr (by decide) rfl (pa_cons (pv 0) (pa_cons pe_int pa_nil)))))))
      (pss_one (ps_ret (pv 1)))))), ?_⟩
    refine ⟨_, rfl, p, 4, rfl, tp, by decide, fun i H1 i0 i1 x1 t1 => ⟨_, _, rfl, rfl, _, rfl, ite2 (fun _ => ?_) (fun _ => ?_)⟩⟩
    · exact ⟨_, rfl, p, 10, rfl, t1, by decide, fun j H2 j0 j1 x2 t2 => q j H2 j0 (by omega) (x1.trans x2) t2⟩
    · refine ⟨5, rfl, by decide, by decide, for_range (lo := 0) (n := 5) (fun i σ H' => ∃ (m : Int) (kv : Option V), σ = [some (.ref p), some (.int m), kv] ∧ 0 ≤ m ∧ m < 720720 ^ i ∧ Fx p H H' ∧ Tape H' p)
        ⟨0, none, rfl, by decide, by decide, x1, t1⟩ ?_ ?_⟩
      · rintro i σ H' hi ⟨m, kv, rfl, m0, m1, x2, t2⟩
        refine ⟨_, rfl, _, _, rfl, rfl, .inr ⟨by decide, by decide⟩, _, rfl, p, 720720, rfl, t2, p72, fun d H3 d0 d1 x3 t3 => ⟨_, _, rfl, rfl, ?_⟩⟩
        have hp := pow_step m0 m1 d0 d1
        exact ⟨m * 720720 + d, _, rfl, hp.1, hp.2, x2.trans x3, t3⟩
      · rintro σ H' ⟨m, kv, rfl, m0, m1, x2, t2⟩
        have e5 : (720720 : Int) ^ 5 < 2 ^ 100 := by decide
        exact ⟨_, rfl, q m H' m0 (by omega) x2 t2⟩
theorem scWord : FnScope ["tape", "longest", "letters", "size", "word", "drawn", "k"] ["tape", "longest"] (defScope sWord) := ⟨rfl, rfl, rfl, by decide +kernel, rfl, by decide +kernel, by decide +kernel⟩
theorem abc_at : ∀ j : Nat, j < 26 → ((Str.ofString "abcdefghijklmnopqrstuvwxyz").cps.toList)[j]? = some (97 + j) := by decide +kernel
theorem abc_len : (Str.ofString "abcdefghijklmnopqrstuvwxyz").length = 26 := by decide +kernel
theorem abc_mod (d : Int) : ∃ c, letter c ∧ atI (Str.ofString "abcdefghijklmnopqrstuvwxyz").cps.toList (d % 26) = some c := by
  have h0 : 0 ≤ d % 26 := Int.emod_nonneg _ (by decide)
  have h1 : d % 26 < 26 := Int.emod_lt_of_pos _ (by decide)
  obtain ⟨j, hj⟩ : ∃ j : Nat, d % 26 = (j : Int) := ⟨(d % 26).toNat, by omega⟩
  refine ⟨97 + j, ⟨by omega, by omega⟩, ?_⟩
  rw [hj]
  exact atI_nat (abc_at j (by omega))
theorem len_tl (x : Str) : x.length = x.cps.toList.length := by simp [Str.length]
theorem cat_tl (x y : Str) : (x ++ y).cps.toList = x.cps.toList ++ y.cps.toList := SX.S_inj (by rw [SX.S_tl, ← SX.S_cat, SX.S_tl, SX.S_tl])
theorem cat_len (x y : Str) : (x ++ y).length = x.length + y.length := by rw [len_tl, len_tl x, len_tl y, cat_tl, List.length_append]
theorem Az.cat {x y : Str} (a : Az x) (b : Az y) : Az (x ++ y) := fun c hc => by
  rw [cat_tl] at hc
  rcases List.mem_append.mp hc with h | h
  · exact a c h
  · exact b c h
theorem cut_tl (x : Str) {i : Int} (h : 0 ≤ i) : (Txt.slice x none (some i)).cps.toList = x.cps.toList.take i.toNat := by
  have e := SX.slice_to (a := x.cps.toList) h
  rw [SX.S_tl] at e
  rw [e]
theorem Az.cut {x : Str} (a : Az x) {i : Int} (h : 0 ≤ i) : Az (Txt.slice x none (some i)) := fun c hc => by
  rw [cut_tl x h] at hc
  exact a c (List.mem_of_mem_take hc)
theorem cut_len (x : Str) {i : Int} (h : 0 ≤ i) : (Txt.slice x none (some i)).length = min i.toNat x.length := by rw [len_tl, cut_tl x h, List.length_take, len_tl x]
theorem one_len (c : Nat) : (⟨#[c]⟩ : Str).length = 1 := rfl
theorem Az.one {c : Nat} (h : letter c) : Az ⟨#[c]⟩ := fun d hd => by
  have e : d = c := by simpa using hd
  rw [e]
  exact h
theorem line_big {n : Nat} (h : n ≤ 100000) : n ≤ sizeLine := Nat.le_trans h (by rw [sizeLine_eq]; decide)
theorem c_word (T : Bt mg) (D : Dfn K mg "_law_word" sWord ["tape", "longest"]) (c_law_take : Cal P w K mg base 1 "_law_take" spTake) : Cal P w K mg base 2 "_law_word" spWord := by
  refine D.cal scWord (fun vs H Q E h => ?_) (fun f cdv A outer s H vs Q E hr h => ?_)
  · obtain ⟨p, m, rfl, _⟩ := h
    rfl
  · obtain ⟨p, m, rfl, tp, m0, m1, q⟩ := h
    refine ⟨_, (pss_cons (ps_set (i := 2) scWord.nd rfl (Or.inl rfl) pe_str)
      (pss_cons (ps_set (i := 3) scWord.nd rfl (Or.inl rfl) (pe_op op_add pe_int (pe_c c_law_take hr (by decide) rfl (pa_cons (pv 0) (pa_cons (pv 1) pa_nil)))))
      (pss_cons (ps_set (i := 4) scWord.nd rfl (Or.inl rfl) pe_str)
      (pss_cons (ps_while PassesOwn.never (pt_cmpR op_lt (pe_callB call_len_str (by rfl) T.b_len PySem.boot_len (pa_cons (pv 4) pa_nil)) (pv 3) (nomark _))
      (pss_cons (ps_set (i := 5) scWord.nd rfl (Or.inl rfl) (pe_c c_law_take hr (by decide) rfl (pa_cons (pv 0) (pa_cons pe_int pa_nil))))
      (pss_one (ps_for PassesOwn.never rfl (pi_range1 (by rfl) T.b_range (pa_cons pe_int pa_nil)) (pg_name (i := 6) scWord.nd rfl (Or.inl rfl))
      (pss_cons (ps_set (i := 4) scWord.nd rfl (Or.inl rfl) (pe_op op_add_str (pv 4) (pe_ix ix_str (pv 2) (pe_op op_mod (pe_callTy call_int1 (by rfl) T.b_int (by decide +kernel) (pa_cons (pv 5) pa_nil)) pe_int) (fun _ _ => rfl))))
      (pss_one (ps_set (i := 5) scWord.nd rfl (Or.inl rfl) (pe_op op_fdiv (pv 5) pe_int))))))))
      (pss_one (ps_ret (pe_slice C8.sl_txt (pv 4) po_none (po_some (pv 3))))))))), ?_⟩
    refine ⟨_, rfl, _, rfl, p, m, rfl, tp, m0, fun z H1 z0 z1 x1 t1 => ⟨_, _, rfl, rfl, ?_⟩⟩
    refine ⟨fun n σ H' => ∃ (x : Str) (dv kv : Option V), σ = [some (.ref p), some (.int m), some (.str "abcdefghijklmnopqrstuvwxyz"), some (.int (1 + z)), some (.str x), dv, kv] ∧ n = 200 - x.length ∧ x.length ≤ 150 ∧ Az x ∧ Fx p H H' ∧ Tape H' p,
      ⟨_, Str.ofString "", none, none, rfl, rfl, by decide, (fun c hc => by cases hc), x1, t1⟩, ?_⟩
    rintro n σ H' ⟨x, dv, kv, rfl, rfl, xl, xa, x2, t2⟩
    refine ⟨_, rfl, x, rfl, line_big (by omega), _, rfl, _, _, rfl, rfl, _, rfl, ite2 (fun hlt => ?_) (fun hge => ?_)⟩
    · have hlt' := of_decide_eq_true hlt
      refine ⟨fun σ' H2 => ∃ (y : Str) (dv kv : Option V), σ' = [some (.ref p), some (.int m), some (.str "abcdefghijklmnopqrstuvwxyz"), some (.int (1 + z)), some (.str y), dv, kv] ∧ y.length = x.length + 4 ∧ Az y ∧ Fx p H H2 ∧ Tape H2 p,
        fun σ' H2 hN => ?_, ?_⟩
      · obtain ⟨y, dv, kv, rfl, yl, ya, x3, t3⟩ := hN
        exact ⟨200 - y.length, by omega, y, dv, kv, rfl, rfl, by omega, ya, x3, t3⟩
      · refine ⟨_, rfl, p, 720720, rfl, t2, p72, fun d H3 d0 d1 x3 t3 => ?_⟩
        refine ⟨4, rfl, by decide, by decide, for_range (lo := 0) (n := 4) (fun i σ' H2 => ∃ (y : Str) (d : Int) (kv : Option V), σ' = [some (.ref p), some (.int m), some (.str "abcdefghijklmnopqrstuvwxyz"), some (.int (1 + z)), some (.str y), some (.int d), kv] ∧ y.length = x.length + i ∧ Az y ∧ Fx p H H2 ∧ Tape H2 p)
          ⟨x, d, kv, rfl, rfl, xa, x2.trans x3, t3⟩ ?_ ?_⟩
        · rintro i σ' H2 hi ⟨y, d, kv, rfl, yl, ya, x4, t4⟩
          obtain ⟨c, hc, hat⟩ := abc_mod d
          refine ⟨_, rfl, _, rfl, _, rfl, .inl ⟨_, rfl, _, _, rfl, rfl, (by decide : (0 : Int) < 26), ?_⟩⟩
          refine ⟨_, _, c, rfl, rfl, by rw [abc_len]; exact line_big (by decide), hat, _, _, rfl, rfl, ?_, ?_⟩
          · rw [one_len]
            exact line_big (by omega)
          · refine ⟨_, rfl, _, _, rfl, rfl, ⟨by decide, by decide⟩, ?_⟩
            exact ⟨_, _, _, rfl, by rw [cat_len, yl, one_len]; omega, ya.cat (Az.one hc), x4, t4⟩
        · rintro σ' H2 ⟨y, d, kv, rfl, yl, ya, x4, t4⟩
          exact ⟨y, _, _, rfl, yl, ya, x4, t4⟩
    · have hge' : ¬ ((x.length : Int) < 1 + z) := fun c => hge (decide_eq_true c)
      refine ⟨_, rfl, _, rfl, _, rfl, x, rfl, line_big (by omega), ?_⟩
      have h1z : 0 ≤ 1 + z := by omega
      refine q _ H' ?_ ?_ (xa.cut h1z) x2 t2
      · rw [cut_len x h1z]
        omega
      · rw [cut_len x h1z]
        omega
end
end Lw
namespace Lw
open PySem PySem.Spec PyProof.Rows L2 GrT
/-! ### texts in a list, counted -/
theorem inV_str {a : Str} : ∀ {bs : List Str}, inV (.str a) (bs.map V.str) = true ↔ a ∈ bs
  | [] => by simp [inV]
  | b :: bs => by
    have ih := inV_str (a := a) (bs := bs)
    unfold inV at ih ⊢
    rw [List.map_cons, List.any_cons, Bool.or_eq_true, ih, List.mem_cons]
    have e : eqV (.str b) (.str a) = true ↔ a = b := by
      show (b == a) = true ↔ a = b
      rw [beq_iff_eq]
      exact eq_comm
    rw [e]
theorem flat_str (bs : List Str) : (bs.map V.str).all flatV = true := by
  rw [List.all_map, List.all_eq_true]
  intro x _
  rfl
theorem sub_len {α : Type} [DecidableEq α] : ∀ {l m : List α}, l.Nodup → (∀ x ∈ l, x ∈ m) → l.length ≤ m.length
  | [], m, _, _ => Nat.zero_le _
  | a :: l, m, nd, h => by
    have nd' := List.nodup_cons.mp nd
    have hm := h a List.mem_cons_self
    have ih := sub_len (l := l) (m := m.erase a) nd'.2 fun x hx => by
      have ne : x ≠ a := fun e => nd'.1 (e ▸ hx)
      exact (List.mem_erase_of_ne ne).mpr (h x (List.mem_cons_of_mem _ hx))
    rw [List.length_erase_of_mem hm] at ih
    have : 0 < m.length := List.length_pos_of_mem hm
    rw [List.length_cons]
    omega
theorem nodup_map {α β : Type} {f : α → β} : ∀ {l : List α}, l.Nodup → (∀ a ∈ l, ∀ b ∈ l, f a = f b → a = b) → (l.map f).Nodup
  | [], _, _ => List.nodup_nil
  | a :: l, nd, h => by
    have nd' := List.nodup_cons.mp nd
    rw [List.map_cons]
    refine List.nodup_cons.mpr ⟨fun hm => ?_, nodup_map nd'.2 fun x hx y hy => h x (List.mem_cons_of_mem _ hx) y (List.mem_cons_of_mem _ hy)⟩
    obtain ⟨b, hb, e⟩ := List.mem_map.mp hm
    have := h b (List.mem_cons_of_mem _ hb) a List.mem_cons_self e
    exact nd'.1 (this ▸ hb)
/-- a text and one of the twenty-six signs behind it -/
def cand (u : Str) (j : Nat) : Str := u ++ ⟨#[97 + j]⟩
theorem cand_inj {u : Str} {i j : Nat} (h : cand u i = cand u j) : i = j := by
  have e := congrArg (fun x : Str => x.cps.toList) h
  simp only [cand, cat_tl] at e
  have e2 := List.append_cancel_left e
  simp at e2
  exact e2
theorem some_free (u : Str) (bs : List Str) (h : bs.length < 26) : ∃ j, j < 26 ∧ cand u j ∉ bs := by
  by_cases q : ∃ j, j < 26 ∧ cand u j ∉ bs
  · exact q
  · have all : ∀ x ∈ (List.range 26).map (cand u), x ∈ bs := fun x hx => by
      obtain ⟨j, hj, rfl⟩ := List.mem_map.mp hx
      by_cases m : cand u j ∈ bs
      · exact m
      · exact absurd ⟨j, List.mem_range.mp hj, m⟩ q
    have nd : ((List.range 26).map (cand u)).Nodup := nodup_map List.nodup_range fun a _ b _ e => cand_inj e
    have := sub_len nd all
    rw [List.length_map, List.length_range] at this
    omega
/-! ### rules where the written part is named (within a comprehension's block) -/
theorem op_notInK {X : Cx} {K : PySem.W.Frag} (h : X.K = K) : OpR X (compareOp .NotIn) (rIn K true) := h ▸ op_notIn_seq
theorem op_inK {X : Cx} {K : PySem.W.Frag} (h : X.K = K) : OpR X (compareOp .In) (rIn K false) := h ▸ op_in_seq
theorem ix_listK {X : Cx} {K : PySem.W.Frag} (h : X.K = K) : IxR X (rIxL K) := h ▸ ix_list
/-! ### tests of which nothing is told -/
def tU (R : L2.St → Hp → Prop) : TT := fun σ H Q => R σ H ∧ Q true H ∧ Q false H
def quiet (t : TT) : L2.St → Hp → Prop := fun σ H => t σ H fun _ H1 => H1 = H
theorem pt_U {X : Cx} {e : Expr} {t : TT} (h : PT X e t) : PT X e (tU (quiet t)) := ⟨fun pins s σ H Q I q => thn (h.run pins s σ H _ I q.1) fun b s1 hb => by
  obtain ⟨H1, I1, rfl⟩ := hb
  cases b
  · exact ⟨_, I1, q.2.2⟩
  · exact ⟨_, I1, q.2.1⟩⟩
theorem pw_orU1 {X : Cx} {a : Expr} {t : TT} {pos : Pos} (h : PT X a t) : PW X (.BoolOp .Or [a] pos) (tU (quiet t)) := pw_or1 (pt_U h)
theorem pw_orU {X : Cx} {a b : Expr} {rest : List Expr} {t : TT} {R : L2.St → Hp → Prop} {pos : Pos} (ha : PT X a t) (hb : PW X (.BoolOp .Or (b :: rest) pos) (tU R)) : PW X (.BoolOp .Or (a :: b :: rest) pos) (tU fun σ H => quiet t σ H ∧ R σ H) := by
  have z := pw_or (pt_U ha) hb
  refine ⟨fun wh pins s σ H Q I q => z.run wh pins s σ H Q I ?_⟩
  obtain ⟨⟨q1, q2⟩, q3, q4⟩ := q
  exact ⟨q1, iteT q3, iteF ⟨q2, q3, q4⟩⟩
theorem un_ne {H : Hp} {a b : Addr} {o : HO} (h : upd H a o b = none) : b ≠ a := fun e => by
  rw [e, upd_same] at h
  cases h
theorem un {H : Hp} {a b : Addr} {o : HO} (h : upd H a o b = none) : H b = none := by
  exact (upd_ne (o := o) (un_ne h)).symm.trans h
theorem Tape.ne'' {H : Hp} {p a : Addr} (t : Tape H p) (h : H a = none) : a ≠ p := fun e => by
  obtain ⟨ns, q, _⟩ := t
  rw [e, q] at h
  cases h
theorem Tape.ne' {H H' : Hp} {p a : Addr} (_ : Tape H' p) (h : H a = none) (t : Tape H p) : a ≠ p := t.ne'' h
/-- a drawn name -/
structure Nm (x : Str) : Prop where
  one : 1 ≤ x.length
  eight : x.length ≤ 8
  az : Az x
def spWords : Sp := fun vs H Q _ => ∃ (p tk : Addr) (m : Int) (ts : List Str), vs = [.ref p, .int m, .ref tk] ∧ Tape H p ∧ H tk = some (.lst (ts.map V.str)) ∧ tk ≠ p ∧ 0 ≤ m ∧ m + ts.length ≤ 20 ∧
  ∀ (W : Addr) (ws : List Str) H', H W = none → H' W = some (.lst (ws.map V.str)) → (ws.length : Int) = m → (∀ x ∈ ws, Nm x) → Fx p H H' → Tape H' p → Q (.ref W) H'
section
variable {P : Program} {w : World} {K : PySem.W.Frag} {mg : Str → Option Value} {base : Heap}
theorem scWords : FnScope ["tape", "many", "taken", "reserved", "words", "k", "word", "barred", "ends", "letter"] ["tape", "many", "taken"] (defScope sWords) := ⟨rfl, rfl, rfl, by decide +kernel, rfl, by decide +kernel, by decide +kernel⟩
theorem q_one : (Str.ofString "q").cps.toList = [113] := by decide +kernel
theorem q_len : (Str.ofString "q").length = 1 := by decide +kernel
theorem q_az : Az (Str.ofString "q") := fun c hc => by
  rw [q_one] at hc
  have e : c = 113 := by simpa using hc
  rw [e]
  exact ⟨by decide, by decide⟩
theorem words_cut {σ : L2.St} {i : Nat} : True := trivial
theorem c_words (T : Bt mg) (D : Dfn K mg "_law_words" sWords ["tape", "many", "taken"]) (c_law_word : Cal P w K mg base 2 "_law_word" spWord) : Cal P w K mg base 3 "_law_words" spWords := by
  refine D.cal scWords (fun vs H Q E h => ?_) (fun f cdv A outer s H vs Q E hr h => ?_)
  · obtain ⟨p, tk, m, ts, rfl, _⟩ := h
    rfl
  · obtain ⟨p, tk, m, ts, rfl, tp, htk, tkp, m0, m1, q⟩ := h
    refine ⟨_, (pss_cons (ps_set (i := 3) scWords.nd rfl (Or.inl rfl) (pe_lst (pa_cons pe_str (pa_cons pe_str (pa_cons pe_str (pa_cons pe_str (pa_cons pe_str (pa_cons pe_str (pa_cons pe_str (pa_cons pe_str (pa_cons pe_str (pa_cons pe_str (pa_cons pe_str (pa_cons pe_str (pa_cons pe_str (pa_cons pe_str pa_nil))))))))))))))))
      (pss_cons (ps_set (i := 3) scWords.nd rfl (Or.inl rfl) (pe_op op_cat (pv 3) (pe_lst (pa_cons pe_str (pa_cons pe_str (pa_cons pe_str (pa_cons pe_str pa_nil)))))))
      (pss_cons (ps_set (i := 4) scWords.nd rfl (Or.inl rfl) (pe_lst pa_nil))
      (pss_cons (ps_for PassesOwn.never rfl (pi_range1 (by rfl) T.b_range (pa_cons (pv 1) pa_nil)) (pg_name (i := 5) scWords.nd rfl (Or.inl rfl))
      (pss_cons (ps_set (i := 6) scWords.nd rfl (Or.inr rfl) (pe_c c_law_word hr (by decide) rfl (pa_cons (pv 0) (pa_cons pe_int pa_nil))))
      (C8.pss_cut (ps_if (PW.pt (pw_orU (pt_cmpR op_in_seq (pv 6) (pv 3) (by rfl)) (pw_orU (pt_cmpR op_in_seq (pv 6) (pv 4) (by rfl)) (pw_orU1 (pt_cmpR op_in_seq (pv 6) (pv 2) (by rfl))))))
      (pss_cons (ps_set (i := 7) scWords.nd rfl (Or.inr rfl) (pe_op op_cat (pv 4) (pv 2)))
      (pss_cons (ps_setLc (i := 8) (own := [("letter", 9)]) (g := gName 9) rfl scWords.nd rfl rfl (sw_true rfl rfl rfl (by decide +kernel)) (pi_str pe_str) (blkOk_by (own := [("letter", 9)]) (N := ["tape", "many", "taken", "reserved", "words", "k", "word", "barred", "ends", "letter"]) (sc := defScope sWords) (by decide +kernel)) (fun _ _ _ _ _ => pg_name (i := 9) scWords.nd rfl (Or.inl rfl)) (fun _ _ _ _ _ => (by exact (pts_one (pt_cmpR (op_notInK (K := K) rfl) (pe_op op_add_str (pe_op op_add_str (pe_slice C8.sl_txt (pv 6) po_none (po_some pe_int)) pe_str) (pv 9)) (pv 7) (by rfl))))) (fun _ _ _ _ _ => (pv 9)))
      (pss_one (ps_set (i := 6) scWords.nd rfl (Or.inr rfl) (pe_op op_add_str (pe_op op_add_str (pe_slice C8.sl_txt (pv 6) po_none (po_some pe_int)) pe_str) (pe_ix ix_list (pv 8) pe_int (fun _ _ => rfl)))))))
      pss_nil)
      (pss_one (ps_expr (pe_bm PySem.F.plainAttrs_list PySem.F.slot_list_append PySem.F.type_list_append mt_append (pv 4) (pa_cons (pv 6) pa_nil)))))))
      (pss_one (ps_ret (pv 4))))))), ?_⟩
    refine ⟨by rw [sizeLine_eq]; decide, fun r1 hr1 => ?_⟩
    refine ⟨_, rfl, by rw [sizeLine_eq]; decide, fun r2 hr2 => ?_⟩
    have r12 : r1 ≠ r2 := ne_of_none upd_same hr2
    refine ⟨r1, r2, _, _, rfl, rfl, by rw [upd_ne r12]; exact upd_same, upd_same, by rw [sizeLine_eq]; decide, fun R hR => ?_⟩
    refine ⟨Nat.zero_le _, fun W hW => ?_⟩
    have hR0 := un (un hR)
    have hW0 := un (un (un hW))
    have eR : (upd (upd (upd (upd H r1 (.lst [V.str "add", V.str "and", V.str "cut", V.str "def", V.str "drop", V.str "else", V.str "has", V.str "if", V.str "in", V.str "is", V.str "let", V.str "not", V.str "only", V.str "put"])) r2 (.lst [V.str "record", V.str "rename", V.str "then", V.str "to"])) R
      (.lst ([V.str "add", V.str "and", V.str "cut", V.str "def", V.str "drop", V.str "else", V.str "has", V.str "if", V.str "in", V.str "is", V.str "let", V.str "not", V.str "only", V.str "put"] ++ [V.str "record", V.str "rename", V.str "then", V.str "to"]))) W (.lst [])) R = some (.lst ([V.str "add", V.str "and", V.str "cut", V.str "def", V.str "drop", V.str "else", V.str "has", V.str "if", V.str "in", V.str "is", V.str "let", V.str "not", V.str "only", V.str "put"] ++ [V.str "record", V.str "rename", V.str "then", V.str "to"])) := by
      rw [upd_ne (un_ne hW).symm]
      exact upd_same
    generalize hrs : ([V.str "add", V.str "and", V.str "cut", V.str "def", V.str "drop", V.str "else", V.str "has", V.str "if", V.str "in", V.str "is", V.str "let", V.str "not", V.str "only", V.str "put"] ++ [V.str "record", V.str "rename", V.str "then", V.str "to"] : List V) = rs at eR hR hW ⊢
    have hfl : rs.all flatV = true := by
      rw [← hrs]
      rfl
    have x0 := (((((Fx.refl (T := p) (H := H)).new (o := .lst [V.str "add", V.str "and", V.str "cut", V.str "def", V.str "drop", V.str "else", V.str "has", V.str "if", V.str "in", V.str "is", V.str "let", V.str "not", V.str "only", V.str "put"]) hr1).new (o := .lst [V.str "record", V.str "rename", V.str "then", V.str "to"]) hr2).new (o := .lst rs) hR).new (o := .lst []) hW)
    have t0 := ((((tp.new (o := .lst [V.str "add", V.str "and", V.str "cut", V.str "def", V.str "drop", V.str "else", V.str "has", V.str "if", V.str "in", V.str "is", V.str "let", V.str "not", V.str "only", V.str "put"]) hr1).new (o := .lst [V.str "record", V.str "rename", V.str "then", V.str "to"]) hr2).new (o := .lst rs) hR).new (o := .lst []) hW)
    generalize hH0 : upd (upd (upd (upd H r1 (.lst [V.str "add", V.str "and", V.str "cut", V.str "def", V.str "drop", V.str "else", V.str "has", V.str "if", V.str "in", V.str "is", V.str "let", V.str "not", V.str "only", V.str "put"])) r2 (.lst [V.str "record", V.str "rename", V.str "then", V.str "to"])) R (.lst rs)) W (.lst []) = H0 at eR x0 t0 ⊢
    have eW : H0 W = some (.lst []) := by
      rw [← hH0]
      exact upd_same
    have RW : R ≠ W := (un_ne hW).symm
    have Rp : R ≠ p := t0.ne' hR0 tp
    have Wp : W ≠ p := t0.ne' hW0 tp
    have kW : tk ≠ W := ne_of_none htk hW0
    refine ⟨_, rfl, m, rfl, by omega, by omega, for_range (lo := 0) (n := m.toNat) (fun i σ H' => ∃ (kv wv bv ev lv : Option V) (ws : List Str), σ = [some (.ref p), some (.int m), some (.ref tk), some (.ref R), some (.ref W), kv, wv, bv, ev, lv] ∧
      H' R = some (.lst rs) ∧ H' W = some (.lst (ws.map V.str)) ∧ H' tk = some (.lst (ts.map V.str)) ∧ ws.length = i ∧ (∀ x ∈ ws, Nm x) ∧ Fx p H H' ∧ Tape H' p)
      ⟨none, none, none, none, none, [], rfl, eR, eW, x0 _ _ tkp htk, rfl, (fun x hx => by cases hx), x0, t0⟩ ?_ ?_⟩
    · rintro i σ H' hi ⟨kv, wv, bv, ev, lv, ws, rfl, aR, aW, ak, wl, wn, x1, t1⟩
      refine ⟨_, rfl, p, 8, rfl, t1, by decide, by decide, fun x H3 xl1 xl8 xa y3 t3 => ?_⟩
      have bR := y3 _ _ Rp aR
      have bW := y3 _ _ Wp aW
      have bk := y3 _ _ tkp ak
      refine ⟨fun σ' H2 => ∃ (kv bv ev lv : Option V) (y : Str), σ' = [some (.ref p), some (.int m), some (.ref tk), some (.ref R), some (.ref W), kv, some (.str y), bv, ev, lv] ∧ Nm y ∧
        H2 R = some (.lst rs) ∧ H2 W = some (.lst (ws.map V.str)) ∧ H2 tk = some (.lst (ts.map V.str)) ∧ Fx p H H2 ∧ Tape H2 p, ⟨⟨⟨_, rfl, _, rfl, R, rs, rfl, .inl (SqL.of bR), rfl, hfl, _, rfl, rfl⟩, ⟨_, rfl, _, rfl, W, _, rfl, .inl (SqL.of bW), rfl, flat_str _, _, rfl, rfl⟩, ⟨_, rfl, _, rfl, tk, _, rfl, .inl (SqL.of bk), rfl, flat_str _, _, rfl, rfl⟩⟩, iteT ?_, iteF ?_⟩, ?_⟩
      · -- a name that is taken: another end
        refine ⟨_, rfl, _, rfl, W, tk, _, _, rfl, rfl, bW, bk, line_big (by rw [List.length_map, List.length_map]; omega), fun B hB => ?_⟩
        have Bp : B ≠ p := t3.ne'' hB
        have x3 : Fx p H (upd H3 B (.lst (ws.map V.str ++ ts.map V.str))) := (x1.trans y3).new hB
        have t4 : Tape (upd H3 B (.lst (ws.map V.str ++ ts.map V.str))) p := t3.new hB
        have eB : ws.map V.str ++ ts.map V.str = (ws ++ ts).map V.str := by rw [List.map_append]
        rw [eB] at x3 t4 ⊢
        have cR : upd H3 B (.lst ((ws ++ ts).map V.str)) R = some (.lst rs) := by rw [upd_ne (ne_of_none bR hB)]; exact bR
        have cW : upd H3 B (.lst ((ws ++ ts).map V.str)) W = some (.lst (ws.map V.str)) := by rw [upd_ne (ne_of_none bW hB)]; exact bW
        have ck : upd H3 B (.lst ((ws ++ ts).map V.str)) tk = some (.lst (ts.map V.str)) := by rw [upd_ne (ne_of_none bk hB)]; exact bk
        generalize hH4 : upd H3 B (.lst ((ws ++ ts).map V.str)) = H4 at x3 t4 cR cW ck ⊢
        have cB : H4 B = some (.lst ((ws ++ ts).map V.str)) := by
          rw [← hH4]
          exact upd_same
        -- the signs that give a free name
        have ul : (Txt.slice x none (some 6) ++ Str.ofString "q").length ≤ 7 := by
          rw [cat_len, cut_len x (by decide), q_len]
          omega
        have ua : Az (Txt.slice x none (some 6) ++ Str.ofString "q") := (xa.cut (by decide)).cat q_az
        obtain ⟨j0, hj0, free⟩ := some_free (Txt.slice x none (some 6) ++ Str.ofString "q") (ws ++ ts) (by rw [List.length_append]; omega)
        refine ⟨_, rfl, fun Z hZ => lc_it walk_str (fun i H5 => ∃ es : List Nat, H5 Z = some (.lst (es.map fun c => V.str ⟨#[c]⟩)) ∧ es.length ≤ i ∧ (∀ c ∈ es, letter c) ∧ (j0 < i → es ≠ []) ∧ (∀ b o, b ≠ Z → H4 b = some o → H5 b = some o))
          ⟨[], upd_same, Nat.le_refl _, (fun c hc => by cases hc), (fun h => absurd h (Nat.not_lt_zero _)), fun b o hb e => by rw [upd_ne hb]; exact e⟩ (fun _ _ _ _ => True.intro) ?_ ?_⟩
        · rintro i5 y5 H5 H6 hi5 ⟨es, e1, e2, e3, e4, e5⟩ ⟨rfl, c, hc, rfl⟩
          have cc : c = 97 + i5 := by
            have h26 : i5 < 26 := by
              have := (Array.getElem?_eq_some_iff.mp hc).1
              have q := abc_len
              unfold Str.length at q
              omega
            have z := abc_at i5 h26
            rw [Array.getElem?_toList, hc] at z
            exact Option.some.inj z
          subst cc
          have h26 : i5 < 26 := by
            have := (Array.getElem?_eq_some_iff.mp hc).1
            have q := abc_len
            unfold Str.length at q
            omega
          have BZ : B ≠ Z := ne_of_none cB hZ
          refine ⟨rfl, _, rfl, _, rfl, x, rfl, line_big (by omega), _, _, rfl, rfl, line_big (by rw [cut_len x (by decide), q_len]; omega), _, rfl, _, _, rfl, rfl, line_big (by rw [one_len]; omega), _, rfl, B, _, rfl, .inl (SqL.of (e5 _ _ BZ cB)), rfl, flat_str _, _, rfl, ?_⟩
          refine ite2 (fun _ => ?_) (fun hno => ?_)
          · refine ⟨_, rfl, _, e1, line_big (by rw [List.length_map]; omega), es ++ [97 + i5], by rw [upd_same, List.map_append]; rfl, by rw [List.length_append]; simpa using e2, fun c h => ?_, fun _ h => ?_, fun b o nb e => by rw [upd_ne nb]; exact e5 b o nb e⟩
            · rcases List.mem_append.mp h with h | h
              · exact e3 c h
              · rw [List.mem_singleton.mp h]
                exact ⟨by omega, by omega⟩
            · simp at h
          · refine ⟨es, e1, by omega, e3, fun h => ?_, e5⟩
            by_cases hj : j0 < i5
            · exact e4 hj
            · have ej : j0 = i5 := by omega
              refine absurd ?_ hno
              show (!inV (V.str (cand (Txt.slice x none (some 6) ++ Str.ofString "q") i5)) ((ws ++ ts).map V.str)) = true
              rw [← ej, Bool.not_eq_true', ← Bool.not_eq_true]
              exact fun z => free (inV_str.mp z)
        · rintro H5 ⟨es, e1, e2, e3, e4, e5⟩
          have ne : es ≠ [] := e4 (by
            have q := abc_len
            unfold Str.length at q
            omega)
          obtain ⟨c, es, rfl⟩ : ∃ c es', es = c :: es' := by
            cases es with
            | nil => exact absurd rfl ne
            | cons c es => exact ⟨c, es, rfl⟩
          have hc := e3 c List.mem_cons_self
          refine ⟨_, rfl, _, rfl, x, rfl, line_big (by omega), _, _, rfl, rfl, line_big (by rw [cut_len x (by decide), q_len]; omega), _, rfl, Z, _, _, _, rfl, rfl, SqL.of e1, atI_nat (j := 0) rfl, _, _, rfl, rfl, line_big (by rw [one_len]; omega), ?_⟩
          have BZ : B ≠ Z := ne_of_none cB hZ
          refine ⟨_, _, _, _, (Txt.slice x none (some 6) ++ Str.ofString "q") ++ ⟨#[c]⟩, rfl, ⟨?_, ?_, ua.cat (Az.one hc)⟩, e5 _ _ (ne_of_none cR hZ) cR, e5 _ _ (ne_of_none cW hZ) cW, e5 _ _ (ne_of_none ck hZ) ck, ?_, ?_⟩
          · rw [cat_len, one_len]
            omega
          · rw [cat_len, one_len]
            omega
          · exact fun b o nb e => e5 b o (ne_of_none (x3 b o nb e) hZ) (x3 b o nb e)
          · obtain ⟨ns, tl, tz⟩ := t4
            exact ⟨ns, e5 p _ (ne_of_none tl hZ) tl, tz⟩
      · exact ⟨_, _, _, _, x, rfl, ⟨xl1, by omega, xa⟩, bR, bW, bk, x1.trans y3, t3⟩
      · rintro σ' H2 ⟨kv, bv, ev, lv, y, rfl, yn, cR, cW, ck, x4, t4⟩
        refine ⟨_, rfl, .inl ⟨rfl, _, .inl (.inl cW)⟩, _, rfl, W, _, _, rfl, rfl, cW, small1000 (by rw [List.length_map]; omega), ?_⟩
        refine ⟨_, _, _, _, _, ws ++ [y], rfl, ?_, ?_, ?_, by rw [List.length_append, wl]; rfl, fun z hz => ?_, fun b o nb e => ?_, t4.put Wp⟩
        · rw [upd_ne RW]
          exact cR
        · rw [upd_same, List.map_append]
          rfl
        · rw [upd_ne kW]
          exact ck
        · rcases List.mem_append.mp hz with h | h
          · exact wn z h
          · rw [List.mem_singleton.mp h]
            exact yn
        · rw [upd_ne (ne_of_none e hW0)]
          exact x4 b o nb e
    · rintro σ H' ⟨kv, wv, bv, ev, lv, ws, rfl, aR, aW, ak, wl, wn, x1, t1⟩
      exact ⟨_, rfl, q W ws H' hW0 aW (by omega) wn x1 t1⟩
end
end Lw
namespace Lw
open PySem PySem.Spec PyProof.Rows L2 GrT
abbrev sLong : Stmt := top 21
abbrev sPool : Stmt := top 22
abbrev sFields : Stmt := top 23
abbrev sCount : Stmt := top 25
abbrev sSorted : Stmt := top 26
abbrev sIsInt : Stmt := top 27
abbrev sTold : Stmt := top 28
abbrev sLaw : Stmt := top 39
/-! ### a text some times over -/
theorem op_mul_str {X : Cx} : OpR X (binaryOp .Mult) (fun x y H Q => ∃ i n, x = .str i ∧ y = .int n ∧ MulOk i n ∧ Q (.str (PySem.Txt.mul i n)) H) := by
  intro pins s σ H x y v u Q I rx ry h
  obtain ⟨i, n, rfl, rfl, hz, q⟩ := h
  obtain ⟨t, rfl⟩ := rx
  obtain ⟨t', rfl⟩ := ry
  exact PySem.SB.mul hz (fun t' tk => ⟨.str (PySem.Txt.mul i n), H, I.tok _, ⟨_, rfl⟩, q⟩)
theorem fold_tl (a : Array Nat) : ∀ (k : Nat) (acc : Array Nat), ((List.replicate k a).foldl (· ++ ·) acc).toList = acc.toList ++ (List.replicate k a.toList).flatten
  | 0, acc => by simp
  | k + 1, acc => by
    rw [List.replicate_succ, List.foldl_cons, fold_tl a k, List.replicate_succ, List.flatten_cons, Array.toList_append, List.append_assoc]
theorem mul_tl {x : Str} {n : Int} (h1 : 1 < n) (hx : 1 ≤ x.length) : (PySem.Txt.mul x n).cps.toList = (List.replicate n.toNat x.cps.toList).flatten := by
  unfold PySem.Txt.mul
  rw [if_neg (by omega)]
  have e : ¬ ((n == 1 || x.length == 0) = true) := by
    intro h
    rcases Bool.or_eq_true _ _ ▸ h with h | h
    · have := eq_of_beq h
      omega
    · have := eq_of_beq h
      omega
  rw [if_neg e, fold_tl]
  simp
theorem mul_len {x : Str} {n : Int} (h1 : 1 < n) (hx : 1 ≤ x.length) : (PySem.Txt.mul x n).length = n.toNat * x.length := by
  rw [len_tl, mul_tl h1 hx, List.length_flatten, List.map_replicate, List.sum_replicate_nat, len_tl x]
theorem Az.mul {x : Str} {n : Int} (a : Az x) (h1 : 1 < n) (hx : 1 ≤ x.length) : Az (PySem.Txt.mul x n) := fun c hc => by
  rw [mul_tl h1 hx] at hc
  obtain ⟨l, hl, hcl⟩ := List.mem_flatten.mp hc
  rw [List.eq_of_mem_replicate hl] at hcl
  exact a c hcl
theorem Nm.good {x : Str} (h : Nm x) : Good x := ⟨h.one, Nat.le_trans h.eight (by decide), h.az⟩
def spLong : Sp := fun vs H Q _ => ∃ (p : Addr) (x : Str), vs = [.ref p, .str x] ∧ Tape H p ∧ Nm x ∧ ∀ (y : Str) H', Good y → Fx p H H' → Tape H' p → Q (.str y) H'
def spPool : Sp := fun vs H Q _ => ∃ (p : Addr) (m : Int), vs = [.ref p, .int m] ∧ Tape H p ∧ 0 ≤ m ∧ m ≤ 20 ∧
  ∀ (W : Addr) (ws : List Str) H', H W = none → H' W = some (.lst (ws.map V.str)) → (ws.length : Int) = m → (∀ x ∈ ws, Good x) → Fx p H H' → Tape H' p → Q (.ref W) H'
section
variable {P : Program} {w : World} {K : PySem.W.Frag} {mg : Str → Option Value} {base : Heap}
theorem scLong : FnScope ["tape", "word"] ["tape", "word"] (defScope sLong) := ⟨rfl, rfl, rfl, by decide +kernel, rfl, by decide +kernel, by decide +kernel⟩
theorem mulOk30 {x : Str} (h : x.length ≤ 8) : MulOk x 30 := by
  refine ⟨by decide, fun _ _ => ?_, fun _ _ => ?_⟩
  · have : ((2 : Int) ^ 63 - 1) / 30 = 307445734561825860 := by decide
    omega
  · have e : (30 : Int).toNat = 30 := rfl
    rw [e]
    unfold Builtin.Str.tooLong
    have := line_big (n := x.length * 30) (by omega)
    exact decide_eq_false (by omega)
theorem c_long (T : Bt mg) (D : Dfn K mg "_law_long" sLong ["tape", "word"]) (c_law_take : Cal P w K mg base 1 "_law_take" spTake) : Cal P w K mg base 2 "_law_long" spLong := by
  refine D.cal scLong (fun vs H Q E h => ?_) (fun f cdv A outer s H vs Q E hr h => ?_)
  · obtain ⟨p, x, rfl, _⟩ := h
    rfl
  · obtain ⟨p, x, rfl, tp, nx, q⟩ := h
    refine ⟨_, (pss_cons (ps_if (pt_cmpR op_eq (pe_c c_law_take hr (by decide) rfl (pa_cons (pv 0) (pa_cons pe_int pa_nil))) pe_int (nomark _))
      (pss_one (ps_ret (pe_slice C8.sl_txt (pe_op op_mul_str (pv 1) pe_int) po_none (po_some (pe_op op_add pe_int (pe_c c_law_take hr (by decide) rfl (pa_cons (pv 0) (pa_cons pe_int pa_nil))))))))
      pss_nil)
      (pss_one (ps_ret (pv 1)))), ?_⟩
    refine ⟨_, rfl, p, 4, rfl, tp, by decide, fun i H1 i0 i1 x1 t1 => ⟨rfl, _, rfl, ite2 (fun _ => ?_) (fun _ => ?_)⟩⟩
    · have ml := mul_len (x := x) (n := 30) (by decide) nx.one
      have h30 : (30 : Int).toNat = 30 := rfl
      rw [h30] at ml
      have hx1 := nx.one
      have hx2 := nx.eight
      refine ⟨_, rfl, _, _, rfl, rfl, mulOk30 nx.eight, _, rfl, p, 22, rfl, t1, by decide, fun j H2 j0 j1 x2 t2 => ⟨_, _, rfl, rfl, _, rfl, _, rfl, line_big (by omega), ?_⟩⟩
      have h9 : 0 ≤ 9 + j := by omega
      refine q _ H2 ⟨?_, ?_, (nx.az.mul (by decide) nx.one).cut h9⟩ (x1.trans x2) t2
      · rw [cut_len _ h9, ml]
        omega
      · rw [cut_len _ h9, ml]
        omega
    · exact ⟨_, rfl, q _ H1 nx.good x1 t1⟩
theorem scPool : FnScope ["tape", "many", "pool", "word", "long"] ["tape", "many"] (defScope sPool) := ⟨rfl, rfl, rfl, by decide +kernel, rfl, by decide +kernel, by decide +kernel⟩
theorem c_pool (T : Bt mg) (D : Dfn K mg "_law_pool" sPool ["tape", "many"]) (c_law_words : Cal P w K mg base 3 "_law_words" spWords) (c_law_long : Cal P w K mg base 2 "_law_long" spLong) : Cal P w K mg base 4 "_law_pool" spPool := by
  refine D.cal scPool (fun vs H Q E h => ?_) (fun f cdv A outer s H vs Q E hr h => ?_)
  · obtain ⟨p, m, rfl, _⟩ := h
    rfl
  · obtain ⟨p, m, rfl, tp, m0, m1, q⟩ := h
    refine ⟨_, (pss_cons (ps_set (i := 2) scPool.nd rfl (Or.inl rfl) (pe_lst pa_nil))
      (pss_cons (ps_for PassesOwn.never rfl (pi_list (pe_c c_law_words hr (by decide) rfl (pa_cons (pv 0) (pa_cons (pv 1) (pa_cons (pe_lst pa_nil) pa_nil))))) (pg_name (i := 3) scPool.nd rfl (Or.inl rfl))
      (pss_cons (ps_set (i := 4) scPool.nd rfl (Or.inl rfl) (pe_c c_law_long hr (by decide) rfl (pa_cons (pv 0) (pa_cons (pv 3) pa_nil))))
      (C8.pss_cut (ps_if (pt_U (pt_cmpR op_in_seq (pv 4) (pv 2) (by rfl)))
      (pss_one (ps_set (i := 4) scPool.nd rfl (Or.inl rfl) (pv 3)))
      pss_nil)
      (pss_one (ps_expr (pe_bm PySem.F.plainAttrs_list PySem.F.slot_list_append PySem.F.type_list_append mt_append (pv 2) (pa_cons (pv 4) pa_nil)))))))
      (pss_one (ps_ret (pv 2))))), ?_⟩
    refine ⟨Nat.zero_le _, fun R hR => ?_⟩
    refine ⟨_, rfl, _, rfl, Nat.zero_le _, fun k hk => ?_⟩
    have hk0 := un hk
    have t0 := (tp.new (o := .lst []) hR).new (o := .lst []) hk
    have x0 := ((Fx.refl (T := p) (H := H)).new (o := .lst []) hR).new (o := .lst []) hk
    have eR : (upd (upd H R (.lst [])) k (.lst [])) R = some (.lst []) := by
      rw [upd_ne (un_ne hk).symm]
      exact upd_same
    have ek : (upd (upd H R (.lst [])) k (.lst [])) k = some (.lst (([] : List Str).map V.str)) := upd_same
    generalize upd (upd H R (.lst [])) k (.lst []) = H0 at t0 x0 eR ek ⊢
    have Rp : R ≠ p := tp.ne'' hR
    have kp : k ≠ p := tp.ne'' hk0
    refine ⟨p, k, m, [], rfl, t0, ek, kp, m0, by simpa using m1, fun W ws H1 hW eW wl wn x1 t1 => ?_⟩
    have RW : R ≠ W := ne_of_none eR hW
    have Wp : W ≠ p := t0.ne'' hW
    refine ⟨W, rfl, ⟨_, SqL.of eW⟩, for_list (xs := ws.map V.str) (fun i σ H' => ∃ (wv lv : Option V) (ps : List Str), σ = [some (.ref p), some (.int m), some (.ref R), wv, lv] ∧
      H' R = some (.lst (ps.map V.str)) ∧ H' W = some (.lst (ws.map V.str)) ∧ ps.length = i ∧ (∀ x ∈ ps, Good x) ∧ Fx p H H' ∧ Tape H' p)
      ⟨none, none, [], rfl, x1 _ _ Rp eR, eW, rfl, (fun x hx => by cases hx), x0.trans x1, t1⟩ ?_ ?_ ?_⟩
    · rintro i σ H' _ ⟨wv, lv, ps, rfl, _, aW, _⟩
      exact SqL.of aW
    · rintro i x σ H' hx ⟨wv, lv, ps, rfl, aR, aW, pl, pn, x2, t2⟩
      have hi : i < ws.length := by
        have := (List.getElem?_eq_some_iff.mp hx).1
        rwa [List.length_map] at this
      obtain ⟨z, hz, rfl⟩ : ∃ z, z ∈ ws ∧ x = V.str z := by
        obtain ⟨z, hz, e⟩ := List.mem_map.mp (List.mem_of_getElem? hx)
        exact ⟨z, hz, e.symm⟩
      have nz := wn z hz
      refine ⟨_, rfl, _, rfl, p, z, rfl, t2, nz, fun y H2 gy x3 t3 => ?_⟩
      have bR := x3 _ _ Rp aR
      have bW := x3 _ _ Wp aW
      refine ⟨fun σ' H3 => ∃ (y : Str), σ' = [some (.ref p), some (.int m), some (.ref R), some (.str z), some (.str y)] ∧ H3 = H2 ∧ Good y, ⟨⟨_, rfl, _, rfl, R, _, rfl, .inl (SqL.of bR), rfl, flat_str _, _, rfl, rfl⟩, iteT ?_, iteF ?_⟩, ?_⟩
      · exact ⟨_, rfl, z, rfl, rfl, nz.good⟩
      · exact ⟨y, rfl, rfl, gy⟩
      · rintro σ' H3 ⟨y, rfl, rfl, gy⟩
        refine ⟨_, rfl, .inl ⟨rfl, _, .inl (.inl bR)⟩, _, rfl, R, _, _, rfl, rfl, bR, small1000 (by rw [List.length_map]; omega), ?_⟩
        refine ⟨_, _, ps ++ [y], rfl, by rw [upd_same, List.map_append]; rfl, by rw [upd_ne RW.symm]; exact bW, by rw [List.length_append, pl]; rfl, fun v hv => ?_, ?_, t3.put Rp⟩
        · rcases List.mem_append.mp hv with h | h
          · exact pn v h
          · rw [List.mem_singleton.mp h]
            exact gy
        · intro b o nb e
          rw [upd_ne (ne_of_none e hR)]
          exact (x2.trans x3) b o nb e
    · rintro σ H' ⟨wv, lv, ps, rfl, aR, aW, pl, pn, x2, t2⟩
      rw [List.length_map] at pl
      exact ⟨_, rfl, q R ps H' hR aR (by omega) pn x2 t2⟩
end
end Lw
namespace Lw
open PySem PySem.Spec PyProof.Rows L2 GrT
/-- a promise that nobody asks -/
def spNo : Sp := fun _ _ _ _ => False
theorem Fx.back {p b : Addr} {H H' : Hp} (x : Fx p H H') (t : Tape H' p) (h : H' b = none) : H b = none := by
  cases e : H b with
  | none => rfl
  | some o =>
    by_cases q : b = p
    · obtain ⟨ns, tl, _⟩ := t
      rw [q, tl] at h
      cases h
    · rw [x b o q e] at h
      cases h
/-- the tree stands while nothing but the tape and what is new changes -/
theorem Tr.fx {S : Addr → Prop} {H H' : Hp} {L n : Nat} {v : V} {t : T} {p : Addr} (h : Tr S H L n v t) (tp : Tape H p) (x : Fx p H H') : Tr S H' L n v t :=
  h.keep fun b kvs _ e => x b _ (fun q => by
    obtain ⟨ns, tl, _⟩ := tp
    rw [q, tl] at e
    cases e) e
/-- a test, cut off from what follows: only the outcomes in φ go on -/
def tCut (t : TT) : TT := fun σ H Q => ∃ φ : Bool → Prop, (t σ H fun b H1 => H1 = H ∧ φ b) ∧ ∀ b, φ b → Q b H
theorem pt_cut {X : Cx} {e : Expr} {t : TT} (h : PT X e t) : PT X e (tCut t) := ⟨fun pins s σ H Q I ⟨φ, q, r⟩ => thn (h.run pins s σ H _ I q) fun b s1 ⟨H1, I1, e, hb⟩ => ⟨H1, I1, by
  subst e
  exact r b hb⟩⟩
def spFields (n : Nat) : Sp := fun vs H Q _ => ∃ (p P : Addr) (ps : List Str), vs = [.ref p, .ref P, .int (n : Int)] ∧ Tape H p ∧ H P = some (.lst (ps.map V.str)) ∧ P ≠ p ∧ 1 ≤ ps.length ∧ ps.length ≤ 20 ∧ (∀ x ∈ ps, Good x) ∧
  ∀ (D : Addr) (fs : List (Str × GrT.T)) H', Tr (fun b => H b = none) H' 20 (n + 1) (.ref D) (.fds fs) → Fx p H H' → Tape H' p → Q (.ref D) H'
def spFieldsR : Nat → Sp
  | 0 => spNo
  | n + 1 => spFields n
theorem pick_ix {ps : List Str} {z : Int} (h : 1 ≤ ps.length) : ∃ x ∈ ps, atI (ps.map V.str) (z % (ps.length : Int)) = some (V.str x) := by
  have h0 : (0 : Int) < ps.length := by omega
  have h1 := Int.emod_nonneg z (by omega : (ps.length : Int) ≠ 0)
  have h2 := Int.emod_lt_of_pos z h0
  obtain ⟨j, hj⟩ : ∃ j : Nat, z % (ps.length : Int) = (j : Int) := ⟨(z % (ps.length : Int)).toNat, by omega⟩
  have hl : j < ps.length := by omega
  refine ⟨ps[j], List.getElem_mem hl, ?_⟩
  rw [hj]
  refine atI_nat ?_
  rw [List.getElem?_map, List.getElem?_eq_getElem hl]
  rfl
section
variable {P : Program} {w : World} {K : PySem.W.Frag} {mg : Str → Option Value} {base : Heap}
theorem c_no {k : Nat} {x : Str} {st : Stmt} {N ps : List Str} (D : Dfn K mg x st ps) (S : FnScope N ps (defScope st)) : Cal P w K mg base (k + 1) x spNo :=
  D.cal S (fun _ _ _ _ h => h.elim) (fun _ _ _ _ _ _ _ _ _ _ h => h.elim)
theorem scFields : FnScope ["tape", "names", "depth", "fields", "first", "turn", "k", "name", "choice"] ["tape", "names", "depth"] (defScope sFields) := ⟨rfl, rfl, rfl, by decide +kernel, rfl, by decide +kernel, by decide +kernel⟩
theorem c_fields_step (T : Bt mg) (D : Dfn K mg "_law_fields" sFields ["tape", "names", "depth"]) (c_law_take : Cal P w K mg base 1 "_law_take" spTake) (c_law_number : Cal P w K mg base 2 "_law_number" spNumber)
    (n : Nat) (c_law_fields : Cal P w K mg base (n + 3) "_law_fields" (spFieldsR n)) : Cal P w K mg base (n + 4) "_law_fields" (spFields n) := by
  refine D.cal scFields (fun vs H Q E h => ?_) (fun f cdv A outer s H vs Q E hr h => ?_)
  · obtain ⟨p, P, ps, rfl, _⟩ := h
    rfl
  · obtain ⟨p, P, ps, rfl, tp, eP, Pp, l1, l2, gp, q⟩ := h
    have hu1 : (A.deeper (envOfC "_law_fields" (defScope sFields) s.heap.objs.size f cdv)).units + 1 < cLine := by
      have := hr.units
      omega
    refine ⟨_, (pss_cons (ps_set (i := 3) scFields.nd rfl (Or.inl rfl) pe_dnewK)
      (pss_cons (ps_set (i := 4) scFields.nd rfl (Or.inl rfl) (pe_c c_law_take hr (by omega) rfl (pa_cons (pv 0) (pa_cons pe_int pa_nil))))
      (pss_cons (ps_set (i := 5) scFields.nd rfl (Or.inl rfl) (pe_c c_law_take hr (by omega) rfl (pa_cons (pv 0) (pa_cons pe_int pa_nil))))
      (pss_cons (ps_for PassesOwn.never rfl (pi_range1 (by rfl) T.b_range (pa_cons (pe_callB call_len_seq (by rfl) T.b_len PySem.boot_len (pa_cons (pv 1) pa_nil)) pa_nil)) (pg_name (i := 6) scFields.nd rfl (Or.inl rfl))
      (pss_cons (ps_set (i := 7) scFields.nd rfl (Or.inl rfl) (pe_ix ix_list (pv 1) (pe_op op_mod (pe_op op_add (pv 4) (pe_op op_mul (pe_op op_sub pe_int (pe_op op_mul pe_int (pv 5))) (pv 6))) (pe_callB call_len_seq (by rfl) T.b_len PySem.boot_len (pa_cons (pv 1) pa_nil))) (fun _ _ => rfl)))
      (pss_cons (ps_set (i := 8) scFields.nd rfl (Or.inl rfl) (pe_c c_law_take hr (by omega) rfl (pa_cons (pv 0) (pa_cons pe_int pa_nil))))
      (pss_one (ps_if (pt_cut (PW.pt (pw_or (pt_cmpR op_eq (pv 8) pe_int (nomark _)) (pw_or1 (PW.pt (pw_and (pt_cmpR op_eq (pv 8) pe_int (nomark _)) (pw_and1 (pt_cmpR op_le (pv 2) pe_int (nomark _)))))))))
      (pss_one (ps_dput hu1 (pv 3) (pv 7) (pe_op op_mul (pe_c c_law_number hr (by omega) rfl (pa_cons (pv 0) pa_nil)) (pe_op op_sub pe_int (pe_op op_mul pe_int (pe_c c_law_take hr (by omega) rfl (pa_cons (pv 0) (pa_cons pe_int pa_nil)))))) rfl))
      (pss_one (ps_if (pt_cmpR op_eq (pv 8) pe_int (nomark _))
      (pss_one (ps_dput hu1 (pv 3) (pv 7) (pe_c c_law_fields hr (by omega) rfl (pa_cons (pv 0) (pa_cons (pv 1) (pa_cons (pe_op op_sub (pv 2) pe_int) pa_nil)))) rfl))
      pss_nil)))))))
      (pss_one (ps_ret (pv 3))))))), ?_⟩
    refine fun D hD => ?_
    have Dp : D ≠ p := tp.ne'' hD
    have t0 := tp.new (o := .dK []) hD
    have x0 := (Fx.refl (T := p) (H := H)).new (o := .dK []) hD
    have eD : (upd H D (.dK [])) D = some (.dK (dk [])) := upd_same
    have eP0 := x0 _ _ Pp eP
    generalize upd H D (.dK []) = H0 at t0 x0 eD eP0 ⊢
    refine ⟨_, rfl, p, 720720, rfl, t0, p72, fun i1 H1 _ _ x1 t1 => ?_⟩
    refine ⟨_, rfl, p, 2, rfl, t1, by decide, fun i2 H2 i20 i21 x2 t2 => ?_⟩
    have eP2 := (x1.trans x2) _ _ Pp eP0
    have eD2 := (x1.trans x2) _ _ Dp eD
    refine ⟨_, rfl, P, _, rfl, .inl (SqL.of eP2), ps.length, by rw [List.length_map], by omega, by omega, ?_⟩
    have x02 := (x0.trans x1).trans x2
    refine for_range (lo := 0) (n := ps.length) (fun i σ H' => ∃ (kv nv cv : Option V) (l : List (Str × V)) (fs : List (Str × GrT.T)), σ = [some (.ref p), some (.ref P), some (.int n), some (.ref D), some (.int i1), some (.int i2), kv, nv, cv] ∧
      H' D = some (.dK (dk l)) ∧ H' P = some (.lst (ps.map V.str)) ∧ Wf i fs ∧ Al (Tr (fun b => H b = none ∧ b ≠ D) H' 20 n) l fs ∧ Fx p H H' ∧ Tape H' p)
      ⟨none, none, none, [], [], rfl, eD2, eP2, Wf.nil, .nil, x02, t2⟩ ?_ ?_
    · rintro i σ H' hi ⟨kv, nv, cv, l, fs, rfl, aD, aP, wf, al, x3, t3⟩
      have PD : P ≠ D := fun e => by
        rw [e, aD] at aP
        cases aP
      obtain ⟨x, hx, hat⟩ := pick_ix (ps := ps) (z := i1 + (1 - 2 * i2) * (0 + (i : Int))) l1
      have gx := gp x hx
      refine ⟨_, rfl, _, rfl, _, rfl, _, _, rfl, rfl, .inl ⟨by decide, by decide⟩, _, _, rfl, rfl, _, rfl, _, _, rfl, rfl, .inl ⟨by omega, by omega⟩, _, _, rfl, rfl, _, rfl, P, _, rfl, .inl (SqL.of aP), _, _, rfl, rfl, by rw [List.length_map]; omega, P, _, _, _, rfl, rfl, SqL.of aP, by rw [List.length_map]; exact hat, ?_⟩
      refine ⟨_, rfl, p, 4, rfl, t3, by decide, fun c H4 c0 c1 x4 t4 => ?_⟩
      have bD := x4 _ _ Dp aD
      have bP := x4 _ _ Pp aP
      have al4 : Al (Tr (fun b => H b = none ∧ b ≠ D) H4 20 n) l fs := al.imp fun _ _ _ z => Tr.fx z t3 x4
      have hsz : (dk l).length < sizeLine := by
        have := wf.ln
        rw [dk_len, al.len]
        exact Nat.lt_of_lt_of_le (by omega : fs.length < 100) (line_big (by decide))
      have ndl : (names l).Nodup := by
        rw [al.names]
        exact wf.nd
      have fin : ∀ (v : V) (t : GrT.T) (H5 : Hp), H5 D = some (.dK (dk l)) → H5 P = some (.lst (ps.map V.str)) → Al (Tr (fun b => H b = none ∧ b ≠ D) H5 20 n) l fs → Tr (fun b => H b = none ∧ b ≠ D) H5 20 n v t → Fx p H H5 → Tape H5 p →
          ∃ H6, DPut H5 D (.str x) v H6 ∧ H6 D = some (.dK (dk (put x v l))) ∧ H6 P = some (.lst (ps.map V.str)) ∧ Wf (i + 1) (put x t fs) ∧ Al (Tr (fun b => H b = none ∧ b ≠ D) H6 20 n) (put x v l) (put x t fs) ∧ Fx p H H6 ∧ Tape H6 p := by
        intro v t H5 dD dP a5 r5 x5 t5
        refine ⟨_, DPut.k (k := Sum.inr x) dD hsz, ?_, ?_, wf.put gx, ?_, ?_, t5.put Dp⟩
        · rw [upd_same, dk_put x v l ndl]
        · rw [upd_ne PD]
          exact dP
        · have k : ∀ {v t}, Tr (fun b => H b = none ∧ b ≠ D) H5 20 n v t → Tr (fun b => H b = none ∧ b ≠ D) (upd H5 D (.dK (putK (dk l) (Sum.inr x) v))) 20 n v t := fun z => z.keep fun b kvs sb e => by rw [upd_ne sb.2]; exact e
          refine Al.put (a5.imp fun _ _ _ z => z.keep fun b kvs sb e => by rw [upd_ne sb.2]; exact e) x (r5.keep fun b kvs sb e => by rw [upd_ne sb.2]; exact e)
        · intro b o nb e
          rw [upd_ne (ne_of_none e hD)]
          exact x5 b o nb e
      refine ⟨fun b => b = false → c = 2 → 0 < n, ⟨_, rfl, rfl, _, rfl, ite2 (fun _ => ⟨rfl, fun h => by cases h⟩) (fun _ => ⟨_, rfl, rfl, _, rfl, ite2 (fun _ => ⟨_, rfl, _, _, rfl, rfl, _, rfl, rfl, fun h _ => ?_⟩) (fun h2 => ⟨rfl, fun _ e => ?_⟩)⟩)⟩, fun b hb => ?_⟩
      · have := of_decide_eq_false h
        omega
      · rw [e] at h2
        exact absurd rfl h2
      · cases b
        · refine iteF ⟨_, rfl, rfl, _, rfl, ite2 (fun h2 => ?_) (fun _ => ?_)⟩
          · have e2 : c = 2 := V.int.inj (of_decide_eq_true h2)
            have hn := hb rfl e2
            obtain ⟨m, rfl⟩ : ∃ m, n = m + 1 := ⟨n - 1, by omega⟩
            refine ⟨_, rfl, _, rfl, _, rfl, _, _, rfl, rfl, p, P, ps, by rw [Int.natCast_add]; simp, t4, bP, Pp, l1, l2, gp, fun D2 gs H5 r5 x5 t5 => ?_⟩
            have a5 : Al (Tr (fun b => H b = none ∧ b ≠ D) H5 20 (m + 1)) l fs := al4.imp fun _ _ _ z => Tr.fx z t4 x5
            have r6 : Tr (fun b => H b = none ∧ b ≠ D) H5 20 (m + 1) (.ref D2) (.fds gs) := r5.wid fun b hb => ⟨(x3.trans x4).back t4 hb, fun e => by
              rw [e, bD] at hb
              cases hb⟩
            obtain ⟨H6, dp, cD, cP, cw, ca, cx, ct⟩ := fin _ _ H5 (x5 _ _ Dp bD) (x5 _ _ Pp bP) a5 r6 ((x3.trans x4).trans x5) t5
            exact ⟨_, rfl, _, rfl, D, H6, rfl, dp, _, _, _, _, _, rfl, cD, cP, cw, ca, cx, ct⟩
          · exact ⟨_, _, _, l, fs, rfl, bD, bP, ⟨wf.nd, Nat.le_succ_of_le wf.ln, wf.gd⟩, al4, x3.trans x4, t4⟩
        · refine iteT ⟨_, rfl, p, rfl, t4, fun v H5 v0 v1 x5 t5 => ?_⟩
          refine ⟨_, rfl, p, 2, rfl, t5, by decide, fun u H6 u0 u1 x6 t6 => ?_⟩
          have x46 := x5.trans x6
          obtain ⟨H7, dp, cD, cP, cw, ca, cx, ct⟩ := fin (.int (v * (1 - 2 * u))) (.int (v * (1 - 2 * u))) H6 (x46 _ _ Dp bD) (x46 _ _ Pp bP) (al4.imp fun _ _ _ z => Tr.fx z t4 x46) (Tr.int _) ((x3.trans x4).trans x46) t6
          exact ⟨_, _, rfl, rfl, .inl ⟨by decide, by decide⟩, _, _, rfl, rfl, _, _, rfl, rfl, .inr ⟨by omega, by omega⟩, _, rfl, _, rfl, D, H7, rfl, dp, _, _, _, _, _, rfl, cD, cP, cw, ca, cx, ct⟩
    · rintro σ H' ⟨kv, nv, cv, l, fs, rfl, aD, aP, wf, al, x3, t3⟩
      exact ⟨_, rfl, q D fs H' (.inr ⟨D, l, fs, rfl, rfl, hD, aD, wf.mono l2, al.imp fun _ _ _ z => z.wid fun b h => h.1⟩) x3 t3⟩
end
end Lw
namespace GrT
open PySem L2
mutual
/-- how many fields a value has, on all levels -/
def nf : T → Int
  | .int _ => 0
  | .fds fs => nfs fs
def nfs : List (Str × T) → Int
  | [] => 0
  | (_, t) :: r => 1 + nf t + nfs r
end
mutual
/-- the first value has all that the second one has -/
def ext : T → T → Bool
  | .int i, .int j => decide (i = j)
  | .fds a, .fds b => extL a b
  | .int _, .fds _ => false
  | .fds _, .int _ => false
def extL : List (Str × T) → List (Str × T) → Bool
  | _, [] => true
  | a, (x, t) :: r => (match look x a with | none => false | some u => ext u t) && extL a r
end
theorem nfs_sum : ∀ fs : List (Str × T), nfs fs = (fs.map fun p => 1 + nf p.2).sum
  | [] => by simp [nfs]
  | (x, t) :: r => by
    rw [nfs, List.map_cons, List.sum_cons, nfs_sum r]
theorem extL_iff {a : List (Str × T)} : ∀ {b : List (Str × T)}, extL a b = true ↔ ∀ p ∈ b, ∃ u, look p.1 a = some u ∧ ext u p.2 = true
  | [] => by simp [extL]
  | (x, t) :: r => by
    rw [extL, Bool.and_eq_true, extL_iff (b := r)]
    constructor
    · rintro ⟨h1, h2⟩ p hp
      rcases List.mem_cons.mp hp with e | e
      · rw [e]
        cases q : look x a with
        | none =>
          rw [q] at h1
          cases h1
        | some u =>
          rw [q] at h1
          exact ⟨u, rfl, h1⟩
      · exact h2 p e
    · intro h
      refine ⟨?_, fun p hp => h p (List.mem_cons_of_mem _ hp)⟩
      obtain ⟨u, h1, h2⟩ := h (x, t) List.mem_cons_self
      have h1' : look x a = some u := h1
      rw [h1']
      exact h2
end GrT
namespace Lw
open PySem PySem.Spec PyProof.Rows L2 GrT
theorem upd_back {H : Hp} {d : Addr} {u z : HO} (h : H d = some u) : upd (upd H d z) d u = H := by
  rw [upd_upd]
  funext b
  by_cases e : b = d
  · subst e
    rw [upd_same, h]
  · rw [upd_ne e]
theorem Same.unlock {H H' : Hp} {d : Addr} {u z : HO} (h : H d = some u) (s : Same (upd H d z) H') : Same H (upd H' d u) := fun b o e => by
  by_cases q : b = d
  · subst q
    rw [upd_same, ← h, e]
  · rw [upd_ne q]
    exact s b o (by rw [upd_ne q]; exact e)
theorem Same.new {H H1 : Hp} {a : Addr} {o : HO} (x : Same H H1) (n : H1 a = none) : Same H (upd H1 a o) := fun b u e => by
  have q := x b u e
  rw [upd_ne (ne_of_none q n)]
  exact q
theorem Tr.same {S : Addr → Prop} {H H' : Hp} {L n : Nat} {v : V} {t : T} (h : Tr S H L n v t) (x : Same H H') : Tr S H' L n v t :=
  h.keep fun b kvs _ e => x b _ e
theorem dk_at {l : List (Str × V)} {i : Nat} {k : Key} {v : V} (h : (dk l)[i]? = some (k, v)) : ∃ x, k = Sum.inr x ∧ l[i]? = some (x, v) := by
  unfold dk at h
  rw [List.getElem?_map] at h
  cases e : l[i]? with
  | none =>
    rw [e] at h
    cases h
  | some p =>
    rw [e] at h
    have h' := Option.some.inj h
    obtain ⟨x, w⟩ := p
    injection h' with h1 h2
    exact ⟨x, h1.symm, by rw [show w = v from h2]⟩
theorem Al.at {R : V → T → Prop} : ∀ {l : List (Str × V)} {fs : List (Str × T)} {i : Nat} {x : Str} {v : V}, Al R l fs → l[i]? = some (x, v) → ∃ t, fs[i]? = some (x, t) ∧ R v t
  | _, _, 0, x, v, .cons (a := p) (b := q) r _, h => by
    have e : p = (x, v) := by simpa using h
    subst e
    obtain ⟨z, u⟩ := q
    have e2 : x = z := r.1
    exact ⟨u, by rw [e2]; rfl, r.2⟩
  | _, _, i + 1, x, v, .cons r t, h => by
    have h' := h
    rw [List.getElem?_cons_succ] at h'
    obtain ⟨u, h1, h2⟩ := Al.at t h'
    exact ⟨u, by rw [List.getElem?_cons_succ]; exact h1, h2⟩
/-- further built-ins -/
structure Bu (mg : Str → Option Value) : Prop extends Bt mg where
  b_isinstance : mg "isinstance" = none
  b_dict : mg "dict" = none
  b_tuple : mg "tuple" = none
  b_bool : mg "bool" = none
  b_list : mg "list" = none
  b_str : mg "str" = none
  b_sum : mg "sum" = none
  b_sorted : mg "sorted" = none
theorem bo_isinstance : bootBuiltins "isinstance" = some (.builtin "isinstance") := by decide +kernel
theorem bo_dict : bootBuiltins "dict" = some (.type "dict") := by decide +kernel
theorem bo_tuple : bootBuiltins "tuple" = some (.type "tuple") := by decide +kernel
theorem bo_bool : bootBuiltins "bool" = some (.type "bool") := by decide +kernel
theorem bo_list : bootBuiltins "list" = some (.type "list") := by decide +kernel
theorem bo_str : bootBuiltins "str" = some (.type "str") := by decide +kernel
theorem bo_int : bootBuiltins "int" = some (.type "int") := by decide +kernel
theorem bo_sum : bootBuiltins "sum" = some (.builtin "sum") := by decide +kernel
theorem bo_sorted : bootBuiltins "sorted" = some (.builtin "sorted") := by decide +kernel
def spIsInt : Sp := fun vs H Q _ => ∃ i : Int, vs = [.int i] ∧ Q (.bl true) H
def spCount (n : Nat) : Sp := fun vs H Q _ => ∃ (v : V) (S : Addr → Prop) (t : T), vs = [v] ∧ Tr S H 40 n v t ∧ ∀ H', Same H H' → Q (.int (nf t)) H'
def spCountR : Nat → Sp
  | 0 => spNo
  | n + 1 => spCount n
section
variable {P : Program} {w : World} {K : PySem.W.Frag} {mg : Str → Option Value} {base : Heap}
theorem scIsInt : FnScope ["found"] ["found"] (defScope sIsInt) := ⟨rfl, rfl, rfl, by decide +kernel, rfl, by decide +kernel, by decide +kernel⟩
theorem c_is_integer (T : Bu mg) (D : Dfn K mg "_law_is_integer" sIsInt ["found"]) : Cal P w K mg base 1 "_law_is_integer" spIsInt := by
  refine D.cal scIsInt (fun vs H Q E h => ?_) (fun f cdv A outer s H vs Q E hr h => ?_)
  · obtain ⟨i, rfl, _⟩ := h
    rfl
  · obtain ⟨i, rfl, q⟩ := h
    refine ⟨_, (pss_one (ps_ret (pe_and (pe_callB call_isi (by rfl) T.b_isinstance bo_isinstance (pa_cons (pv 0) (pa_cons (pe_bltn (by rfl) T.b_int bo_int (v := .ty "int") rfl) pa_nil)))
      (pe_one (pe_not (pe_callB call_isi (by rfl) T.b_isinstance bo_isinstance (pa_cons (pv 0) (pa_cons (pe_bltn (by rfl) T.b_bool bo_bool (v := .ty "bool") rfl) pa_nil)))))))), ?_⟩
    exact ⟨_, rfl, _, _, _, _, _, rfl, .ty _, .base (.int i), rfl, _, rfl, iteT ⟨_, rfl, _, _, _, _, _, rfl, .ty _, .base (.int i), rfl, _, rfl, q⟩⟩
theorem scCount : FnScope ["value", "name"] ["value"] (defScope sCount) := ⟨rfl, rfl, rfl, by decide +kernel, rfl, by decide +kernel, by decide +kernel⟩
theorem c_count_step (T : Bu mg) (D : Dfn K mg "_law_count" sCount ["value"]) (n : Nat) (c_law_count : Cal P w K mg base (n + 1) "_law_count" (spCountR n)) : Cal P w K mg base (n + 2) "_law_count" (spCount n) := by
  refine D.cal scCount (fun vs H Q E h => ?_) (fun f cdv A outer s H vs Q E hr h => ?_)
  · obtain ⟨v, S, t, rfl, _⟩ := h
    rfl
  · obtain ⟨v, S, t, rfl, tr, q⟩ := h
    have hu1 : (A.deeper (envOfC "_law_count" (defScope sCount) s.heap.objs.size f cdv)).units + 1 < cLine := by
      have := hr.units
      omega
    refine ⟨_, (pss_cons (ps_if (pt_not (pt_val (pe_callB call_isi (by rfl) T.b_isinstance bo_isinstance (pa_cons (pv 0) (pa_cons (pe_bltn (by rfl) T.b_dict bo_dict (v := .ty "dict") rfl) pa_nil)))))
      (pss_one (ps_ret pe_int))
      pss_nil)
      (pss_one (ps_ret (pe_callB (cr_sum rfl) (by rfl) T.b_sum bo_sum (pa_cons (pe_lock (pe_lc (own := [("name", 1)]) (g := gName 1) (tt := tYes) rfl scCount.nd (pi_keys (pv 0)) (blkOk_by (own := [("name", 1)]) (N := ["value", "name"]) (sc := defScope sCount) (by decide +kernel)) (fun _ _ _ _ _ => pg_name (i := 1) scCount.nd rfl (Or.inl rfl)) (fun _ _ _ _ _ => pts_nil) (fun _ _ _ _ _ => (by exact (pe_op op_add pe_int (pe_c c_law_count hr (by omega) rfl (pa_cons (pe_dget hu1 (pv 0) (pv 1) (fun _ _ => rfl)) pa_nil))))))) pa_nil))))), ?_⟩
    refine tr.cases (fun i e1 e2 => ?_) (fun k a l fs en e1 e2 sa ea wf al => ?_)
    · subst e1 e2
      exact ⟨_, rfl, _, _, _, _, _, rfl, .ty _, .base (.int i), rfl, _, rfl, iteT (q H (Same.refl H))⟩
    · subst en e1 e2
      refine ⟨_, rfl, _, _, _, _, _, rfl, .ty _, .base (.dK ea), rfl, _, rfl, iteF ?_⟩
      refine ⟨a, .dK (dk l), ea, True.intro, fun od => ⟨_, rfl, a, od, rfl, .inl ⟨_, upd_same, fun Z hZ => lc_it walk_keys (fun i H5 => ∃ (fs' : List (Str × GrT.T)), fs' = fs.take i ∧ H5 Z = some (.lst ((fs'.map fun p : Str × GrT.T => 1 + nf p.2).map V.int)) ∧ Same (upd H a (.frz od (.dK (dk l)))) H5)
        ⟨[], rfl, upd_same, Same.new (Same.refl _) hZ⟩ ?_ ?_ ?_⟩⟩⟩
      · rintro i H5 _ ⟨fs', _, _, sm⟩
        exact sm _ _ upd_same
      · rintro i x H5 H6 hi ⟨fs', rfl, eZ, sm⟩ ⟨rfl, k', v', hk, rfl⟩
        obtain ⟨x, rfl, hx⟩ := dk_at hk
        obtain ⟨u, hu, ru⟩ := Lw.Al.at al hx
        have aZ : a ≠ Z := ne_of_none upd_same hZ
        have ea6 := sm _ _ (upd_same (H := H) (a := a) (o := .frz od (.dK (dk l))))
        have nd : (names l).Nodup := by
          rw [al.names]
          exact wf.nd
        have r6 : Tr S H6 40 k v' u := Tr.same ((Lw.Al.at (al_away sa ea wf al (.frz od (.dK (dk l)))) hx).elim fun u' h => by
          have e : u' = u := by
            have := h.1.symm.trans hu
            injection this with this
            injection this
          rw [← e]
          exact h.2) sm
        have hln : fs.length ≤ 40 := wf.ln
        refine ⟨rfl, iteT (A := _) (B := True) (iteT ⟨_, rfl, _, rfl, a, v', rfl, .inl ⟨dk l, Sum.inr x, .inr ⟨od, ea6⟩, rfl, by rw [dk_val, mem_look nd (List.mem_of_getElem? hx)]⟩, v', S, u, rfl, r6, fun H7 s7 => ?_⟩)⟩
        refine ⟨_, _, rfl, rfl, _, s7 _ _ eZ, line_big (by rw [List.length_map, List.length_map, List.length_take]; omega), _, rfl, ?_, ?_⟩
        · rw [upd_same, List.take_add_one, hu]
          simp
        · intro b o e
          rw [upd_ne (ne_of_none e hZ)]
          exact s7 _ _ (sm b o e)
      · rintro H5 ⟨fs', rfl, eZ, sm⟩
        rw [dk_len, al.len, List.take_length] at eZ
        have ea5 := sm _ _ (upd_same (H := H) (a := a) (o := .frz od (.dK (dk l))))
        have aZ : Z ≠ a := (ne_of_none upd_same hZ).symm
        refine ⟨ea5, Z, _, rfl, .of (by rw [upd_ne aZ]; exact eZ), ?_⟩
        rw [← nfs_sum]
        exact q _ (Same.unlock ea sm)
end
end Lw
namespace Lw
open PySem PySem.Spec PyProof.Rows L2 GrT
/-! ### one row of names in ascending order -/
theorem ltc_anti : ∀ a b : List Nat, ltCps a b = false → ltCps b a = false → a = b
  | [], [], _, _ => rfl
  | [], _ :: _, h, _ => by cases h
  | _ :: _, [], _, h => by cases h
  | a :: r, b :: t, h1, h2 => by
    simp only [ltCps, Bool.or_eq_false_iff, decide_eq_false_iff_not, Bool.and_eq_false_iff, beq_eq_false_iff_ne] at h1 h2
    have e : a = b := by omega
    subst e
    have q1 := h1.2.resolve_left (fun h => h rfl)
    have q2 := h2.2.resolve_left (fun h => h rfl)
    rw [ltc_anti r t q1 q2]
theorem ltc_trans : ∀ a b c : List Nat, ltCps b a = false → ltCps c b = false → ltCps c a = false
  | [], _, [], _, _ => rfl
  | [], _, _ :: _, _, _ => rfl
  | _ :: _, [], _, h, _ => by cases h
  | _ :: _, _ :: _, [], _, h => by cases h
  | a :: r, b :: t, c :: u, h1, h2 => by
    simp only [ltCps, Bool.or_eq_false_iff, decide_eq_false_iff_not, Bool.and_eq_false_iff, beq_eq_false_iff_ne] at h1 h2 ⊢
    refine ⟨by omega, ?_⟩
    by_cases e : c = a
    · right
      have e1 : a = b := by omega
      have e2 : c = b := by omega
      exact ltc_trans r t u (h1.2.resolve_left (fun h => h e1.symm)) (h2.2.resolve_left (fun h => h e2))
    · exact .inl e
theorem rising_pw : ∀ (l : List Str) (p : Str), risingS p l = true → (p :: l).Pairwise fun a b => ltCps b.cps.toList a.cps.toList = false
  | [], p, _ => List.pairwise_singleton _ _
  | x :: r, p, h => by
    rw [risingS, Bool.and_eq_true, Bool.not_eq_true'] at h
    have ih := rising_pw r x h.2
    refine List.pairwise_cons.mpr ⟨fun y hy => ?_, ih⟩
    rcases List.mem_cons.mp hy with e | e
    · rw [e]
      exact h.1
    · exact ltc_trans _ _ _ h.1 ((List.pairwise_cons.mp ih).1 y e)
theorem sorted_pw {l : List Str} (h : sortedS l = true) : l.Pairwise fun a b => ltCps b.cps.toList a.cps.toList = false := by
  cases l with
  | nil => exact List.Pairwise.nil
  | cons x r => exact rising_pw r x h
theorem str_tl {x y : Str} (h : x.cps.toList = y.cps.toList) : x = y := by
  obtain ⟨a⟩ := x
  obtain ⟨b⟩ := y
  have e : a.toList = b.toList := h
  rw [Array.toList_inj.mp e]
theorem sorted_one {ys zs : List Str} (hy : sortedS ys = true) (hz : sortedS zs = true) (p : ys.Perm zs) : ys = zs :=
  List.Perm.eq_of_pairwise (fun x y _ _ h1 h2 => str_tl (ltc_anti _ _ h2 h1)) (sorted_pw hy) (sorted_pw hz) p
/-- the names in ascending order, in a new list -/
def spSorted : Sp := fun vs H Q _ => ∃ (a : Addr) (l : List (Str × V)), vs = [.ref a] ∧ H a = some (.dK (dk l)) ∧ l.length < 64 ∧
  ∀ (ys : List Str) (W : Addr) H', ys.Perm (names l) → sortedS ys = true → H' W = some (.lst (ys.map V.str)) → H W = none → Same H H' → Q (.ref W) H'
section
variable {P : Program} {w : World} {K : PySem.W.Frag} {mg : Str → Option Value} {base : Heap}
theorem scSorted : FnScope ["names", "name"] ["names"] (defScope sSorted) := ⟨rfl, rfl, rfl, by decide +kernel, rfl, by decide +kernel, by decide +kernel⟩
theorem c_sorted (T : Bu mg) (D : Dfn K mg "_law_sorted" sSorted ["names"]) : Cal P w K mg base 1 "_law_sorted" spSorted := by
  refine D.cal scSorted (fun vs H Q E h => ?_) (fun f cdv A outer s H vs Q E hr h => ?_)
  · obtain ⟨a, l, rfl, _⟩ := h
    rfl
  · obtain ⟨a, l, rfl, ea, hl, q⟩ := h
    refine ⟨_, (pss_one (ps_ret (pe_callB cr_sortedS (by rfl) T.b_sorted bo_sorted (pa_cons (pe_lock (pe_lc (own := [("name", 1)]) (g := gName 1) (tt := tYes) rfl scSorted.nd (pi_keys (pv 0)) (blkOk_by (own := [("name", 1)]) (N := ["names", "name"]) (sc := defScope sSorted) (by decide +kernel)) (fun _ _ _ _ _ => pg_name (i := 1) scSorted.nd rfl (Or.inl rfl)) (fun _ _ _ _ _ => pts_nil) (fun _ _ _ _ _ => (by exact (pe_callTy SkE.call_str_str (by rfl) T.b_str bo_str (pa_cons (pv 1) pa_nil)))))) pa_nil)))), ?_⟩
    refine ⟨a, .dK (dk l), ea, True.intro, fun od => ⟨_, rfl, a, od, rfl, .inl ⟨_, upd_same, fun Z hZ => lc_it walk_keys (fun i H5 => H5 Z = some (.lst (((names l).take i).map V.str)) ∧ Same (upd H a (.frz od (.dK (dk l)))) H5)
      ⟨upd_same, Same.new (Same.refl _) hZ⟩ ?_ ?_ ?_⟩⟩⟩
    · rintro i H5 _ ⟨_, sm⟩
      exact sm _ _ upd_same
    · rintro i x H5 H6 hi ⟨eZ, sm⟩ ⟨rfl, k', v', hk, rfl⟩
      obtain ⟨x, rfl, hx⟩ := dk_at hk
      refine ⟨rfl, iteT (A := _) (B := True) (iteT ⟨_, rfl, x, rfl, _, eZ, line_big (by rw [List.length_map, List.length_take, show (names l).length = l.length from List.length_map _]; omega), ?_, ?_⟩)⟩
      · have hn : (names l)[i]? = some x := by rw [List.getElem?_map, hx]; rfl
        rw [upd_same, List.take_add_one, hn]
        simp
      · intro b o e
        rw [upd_ne (ne_of_none e hZ)]
        exact sm b o e
    · rintro H5 ⟨eZ, sm⟩
      have hn : (names l).length = l.length := List.length_map _
      rw [dk_len, ← hn, List.take_length] at eZ
      have ea5 := sm _ _ (upd_same (H := H) (a := a) (o := .frz od (.dK (dk l))))
      have aZ : Z ≠ a := (ne_of_none upd_same hZ).symm
      have hZ0 : H Z = none := by
        rw [upd_ne aZ] at hZ
        exact hZ
      refine ⟨ea5, Z, _, rfl, .of (by rw [upd_ne aZ]; exact eZ), by rw [hn]; exact hl, fun ys W pm so hW => ?_⟩
      have s1 : Same H (upd H5 a (.dK (dk l))) := Same.unlock ea sm
      exact q ys W _ pm so upd_same (s1.free hW) (Same.new s1 hW)
end
end Lw
namespace Lw
open PySem PySem.Spec PyProof.Rows L2 GrT GrOwn
abbrev sIsName : Stmt := top 9
abbrev sValueSize : Stmt := top 10
abbrev sInit : Stmt := inClass (top 11) 0
abbrev sMake : Stmt := inClass (top 11) 1
abbrev sSize : Stmt := inClass (top 11) 3
abbrev sEq : Stmt := inClass (top 11) 14
abbrev sContains : Stmt := inClass (top 11) 16
abbrev sLen : Stmt := inClass (top 11) 17
abbrev sGet : Stmt := inClass (top 11) 18
abbrev sIter : Stmt := inClass (top 11) 19
/-! ### a record in the heap -/
theorem nSF : ¬ (("_fields" : Str) = "_size") := by decide +kernel
theorem nNS : ¬ (("names" : Str) = "_size") := by decide +kernel
theorem nNF : ¬ (("names" : Str) = "_fields") := by decide +kernel
def rf (t d : Addr) (z : Int) : List (Str × V) := putF "_size" (.int z) (putF "_fields" (.ref d) (putF "names" (.ref t) []))
theorem rf_names (t d : Addr) (z : Int) : (rf t d z).lookup ("names" : Str) = some (.ref t) := by
  unfold rf
  rw [lookup_putF, if_neg nNS, lookup_putF, if_neg nNF, lookup_putF, if_pos rfl]
theorem rf_fields (t d : Addr) (z : Int) : (rf t d z).lookup ("_fields" : Str) = some (.ref d) := by
  unfold rf
  rw [lookup_putF, if_neg nSF, lookup_putF, if_pos rfl]
theorem rf_size (t d : Addr) (z : Int) : (rf t d z).lookup ("_size" : Str) = some (.int z) := by
  unfold rf
  rw [lookup_putF, if_pos rfl]
/-- at a: a record of the class C, its fields l, what it is made of within S -/
structure RA (S : Addr → Prop) (C : Addr) (H : Hp) (a : Addr) (l : List (Str × V)) (z : Int) : Prop where
  ex : ∃ dx tp d, (S a ∧ S tp ∧ S d) ∧ H a = some (.ins C dx (rf tp d z)) ∧ H tp = some (.tup ((names l).map V.str)) ∧ H d = some (.dK (dk l))
  nd : (names l).Nodup
  so : sortedS (names l) = true
def Ro : HO → Prop
  | .ins _ _ _ => True
  | .tup _ => True
  | .dK _ => True
  | _ => False
theorem RA.keep {S : Addr → Prop} {C : Addr} {H H' : Hp} {a : Addr} {l : List (Str × V)} {z : Int} (r : RA S C H a l z) (k : ∀ b o, S b → H b = some o → Ro o → H' b = some o) : RA S C H' a l z := by
  obtain ⟨⟨dx, tp, d, ⟨s1, s2, s3⟩, e1, e2, e3⟩, n, s⟩ := r
  exact ⟨⟨dx, tp, d, ⟨s1, s2, s3⟩, k _ _ s1 e1 True.intro, k _ _ s2 e2 True.intro, k _ _ s3 e3 True.intro⟩, n, s⟩
theorem RA.wid {S S' : Addr → Prop} {C : Addr} {H : Hp} {a : Addr} {l : List (Str × V)} {z : Int} (r : RA S C H a l z) (k : ∀ b, S b → S' b) : RA S' C H a l z := by
  obtain ⟨⟨dx, tp, d, ⟨s1, s2, s3⟩, e1, e2, e3⟩, n, s⟩ := r
  exact ⟨⟨dx, tp, d, ⟨k _ s1, k _ s2, k _ s3⟩, e1, e2, e3⟩, n, s⟩
theorem RA.any {S : Addr → Prop} {C : Addr} {H : Hp} {a : Addr} {l : List (Str × V)} {z : Int} (r : RA S C H a l z) : RA (fun _ => True) C H a l z := r.wid fun _ _ => True.intro
/-- v is t, dicts having become records -/
def Rc (S : Addr → Prop) (C : Addr) (H : Hp) : Nat → V → T → Prop
  | 0, v, t => ∃ i, v = .int i ∧ t = .int i
  | n + 1, v, t => (∃ i, v = .int i ∧ t = .int i) ∨ ∃ a l fs, v = .ref a ∧ t = .fds fs ∧ RA S C H a l (nfs fs) ∧ Wf 40 fs ∧ (names l).Perm (names fs) ∧ ∀ x v u, look x l = some v → look x fs = some u → Rc S C H n v u
section
variable {S S' : Addr → Prop} {C : Addr} {H H' : Hp}
theorem Rc.int {n : Nat} (i : Int) : Rc S C H n (.int i) (.int i) := by
  cases n with
  | zero => exact ⟨i, rfl, rfl⟩
  | succ n => exact .inl ⟨i, rfl, rfl⟩
theorem Rc.cases {n : Nat} {v : V} {t : T} {P : Prop} (h : Rc S C H n v t) (h1 : ∀ i, v = .int i → t = .int i → P)
    (h2 : ∀ k a l fs, n = k + 1 → v = .ref a → t = .fds fs → RA S C H a l (nfs fs) → Wf 40 fs → (names l).Perm (names fs) → (∀ x v u, look x l = some v → look x fs = some u → Rc S C H k v u) → P) : P := by
  cases n with
  | zero =>
    obtain ⟨i, e1, e2⟩ := h
    exact h1 i e1 e2
  | succ k =>
    rcases h with ⟨i, e1, e2⟩ | ⟨a, l, fs, e1, e2, e3, e4, e5, e6⟩
    · exact h1 i e1 e2
    · exact h2 k a l fs rfl e1 e2 e3 e4 e5 e6
theorem Rc.keep : ∀ {n : Nat} {v : V} {t : T}, Rc S C H n v t → (∀ b o, S b → H b = some o → Ro o → H' b = some o) → Rc S C H' n v t
  | 0, _, _, h, _ => h
  | n + 1, v, t, h, k => by
    rcases h with h | ⟨a, l, fs, e1, e2, e3, e4, e5, e6⟩
    · exact .inl h
    · exact .inr ⟨a, l, fs, e1, e2, e3.keep k, e4, e5, fun x v u q1 q2 => (e6 x v u q1 q2).keep k⟩
theorem Rc.wid : ∀ {n : Nat} {v : V} {t : T}, Rc S C H n v t → (∀ b, S b → S' b) → Rc S' C H n v t
  | 0, _, _, h, _ => h
  | n + 1, v, t, h, k => by
    rcases h with h | ⟨a, l, fs, e1, e2, e3, e4, e5, e6⟩
    · exact .inl h
    · exact .inr ⟨a, l, fs, e1, e2, e3.wid k, e4, e5, fun x v u q1 q2 => (e6 x v u q1 q2).wid k⟩
theorem Rc.same {n : Nat} {v : V} {t : T} (h : Rc S C H n v t) (s : Same H H') : Rc S C H' n v t := h.keep fun b o _ e _ => s b o e
theorem Rc.fx {p : Addr} {n : Nat} {v : V} {t : T} (h : Rc S C H n v t) (tp : Tape H p) (s : Fx p H H') : Rc S C H' n v t := h.keep fun b o _ e r => s b o (fun q => by
  obtain ⟨ns, tl, _⟩ := tp
  rw [q, tl] at e
  cases e
  exact r) e
end
/-! ### what the top says of the class -/
structure RecK (K : PySem.W.Frag) (mg : Str → Option Value) (C : Addr) : Prop where
  cl : Cls K C
  nN : NoAttr K C "names"
  nF : NoAttr K C "_fields"
  nS : NoAttr K C "_size"
  ha : PySem.W.findIn K (.ref C) "__class__" = some (some (.builtin "object.__class__"))
  hn : PySem.W.specialIn K (.builtin "object.__class__") "__get__" = some (some (.builtin "getset_descriptor.__get__"))
  htk : PySem.W.takesIn K (.builtin "object.__class__") = some true
  hm : PySem.W.mroIn K C (.type "object") = some true
  kI : PySem.W.kitOne K (.type "int") (.ref C) = some false
  kRD : PySem.W.kitOne K (.ref C) (.type "dict") = some false
  kRC : PySem.W.kitOne K (.ref C) (.ref C) = some true
  sI : PySem.W.subIn K (.type "int") (.ref C) = some false
  sR : PySem.W.subIn K (.ref C) (.type "int") = some false
  mgC : mg "Record" = some (.ref C)
theorem RecK.ty {K : PySem.W.Frag} {mg : Str → Option Value} {C : Addr} {H : Hp} {a dx : Addr} {fs : List (Str × V)} (R : RecK K mg C) (e : H a = some (.ins C dx fs)) : TyX K H (.ref a) (.ref C) := .base (.ins e R.cl R.ha R.hn R.htk R.hm)
/-- a def of the class, by its name -/
structure DfM (K : PySem.W.Frag) (C : Addr) (x q : Str) (st : Stmt) (ps : List Str) : Prop where
  ex : ∃ f fd, Sm K C x f ∧ PySem.W.fnIn K f = true ∧ L2.Fun K x q st f fd ∧ Binds K fd ps []
structure Mth (P : Program) (w : World) (K : PySem.W.Frag) (mg : Str → Option Value) (base : Heap) (C : Addr) (k : Nat) (x : Str) (sp : Sp) : Prop where
  ex : ∃ (f : Addr) (fd : FuncData) (ps : List Str), FnOk P w K mg base CX0 k f fd ps sp ∧ Sm K C x f ∧ PySem.W.fnIn K f = true ∧ Binds K fd ps []
structure MthS (P : Program) (w : World) (K : PySem.W.Frag) (mg : Str → Option Value) (base : Heap) (C : Addr) (k : Nat) (x : Str) (sp : Nat → Sp) : Prop where
  ex : ∃ (f : Addr) (fd : FuncData) (ps : List Str), FnS P w K mg base CX0 k f fd ps sp ∧ Sm K C x f ∧ PySem.W.fnIn K f = true ∧ Binds K fd ps []
section
variable {P : Program} {w : World} {K : PySem.W.Frag} {mg : Str → Option Value} {base : Heap} {C : Addr}
theorem DfM.cal {x qu : Str} {st : Stmt} {N ps : List Str} {k : Nat} {sp : Sp} (D : DfM K C x qu st ps) (S : FnScope N ps (defScope st)) (len : ∀ vs H Q E, sp vs H Q E → vs.length = ps.length)
    (body : ∀ (f : Addr) (cdv : Value) (A : Around) (outer : List Env) (s : Shared) (H : Hp) (vs : List V) (Q : VK) (E : XK), Room k (A.deeper (envOfC qu (defScope st) s.heap.objs.size f cdv)) → sp vs H Q E →
      ∃ t, PSs (cxOf CX0 P w K mg base N qu (defScope st) f cdv A outer s H E).nox (defBody st) t ∧ t { nx := fun _ H' => Q .non H', rt := Q } (start N vs) H) : Mth P w K mg base C (k + 1) x sp := by
  obtain ⟨f, fd, hm, hfn, F, b⟩ := D.ex
  exact ⟨f, fd, ps, F.ok S len (body f), hm, hfn, b⟩
end
section
variable {X : Cx} {C : Addr} {k j : Nat} {sp : Sp}
theorem op_inM (m : Mth X.prog X.w X.K X.mg X.base C k "__contains__" sp) (hr : Room j X.A) (hk : k ≤ j) : OpR X (compareOp .In) (rInO false C sp E0) := by
  obtain ⟨f, fd, ps, F, s, _, b⟩ := m.ex
  exact op_inO s F (hr.mono hk) b pass0
theorem op_notInM (m : Mth X.prog X.w X.K X.mg X.base C k "__contains__" sp) (hr : Room j X.A) (hk : k ≤ j) : OpR X (compareOp .NotIn) (rInO true C sp E0) := by
  obtain ⟨f, fd, ps, F, s, _, b⟩ := m.ex
  exact op_notInO s F (hr.mono hk) b pass0
theorem pe_ixM {a b : Expr} {ta tb : TE} {pos : Pos} (m : Mth X.prog X.w X.K X.mg X.base C k "__getitem__" sp) (hr : Room j X.A) (hk : k + 1 ≤ j) (ha : PE X a ta) (hb : PE X b tb)
    (hsl : ∀ (q : Addr) (i : Value), subscripted b true (.ref q) i = runValue (.builtin "lifetime.subscript" ⟨[.ref q, i], []⟩) := by intro _ _; with_unfolding_all rfl) : PE X (.Subscript a b pos) (tIxO C sp E0 ta tb) := by
  obtain ⟨f, fd, ps, F, s, fn, bd⟩ := m.ex
  exact pe_ixO s fn F (hr.mono hk) bd pass0 ha hb hsl
theorem call_lenM (m : Mth X.prog X.w X.K X.mg X.base C k "__len__" sp) (hr : Room j X.A) (hk : k + 1 ≤ j) : CallR X (.builtin "len") (rLenO C sp E0) := by
  obtain ⟨f, fd, ps, F, s, _, b⟩ := m.ex
  exact call_lenO s F (hr.mono hk) b pass0
theorem op_eqML (R : RecK X.K X.mg C) (m : Mth X.prog X.w X.K X.mg X.base C k "__eq__" sp) (hr : Room j X.A) (hk : k ≤ j) : OpR X (compareOp .Eq) (rEqOL X.K C sp E0) := by
  obtain ⟨f, fd, ps, F, s, _, b⟩ := m.ex
  exact op_eqOL s R.sI F (hr.mono hk) b pass0
theorem op_eqMR (R : RecK X.K X.mg C) (m : Mth X.prog X.w X.K X.mg X.base C k "__eq__" sp) (hr : Room j X.A) (hk : k ≤ j) : OpR X (compareOp .Eq) (rEqOR C sp E0) := by
  obtain ⟨f, fd, ps, F, s, _, b⟩ := m.ex
  exact op_eqOR s R.sR F (hr.mono hk) b pass0
theorem pi_ownM {tg e : Expr} {te : TE} (R : RecK X.K X.mg C) (m : MthS X.prog X.w X.K X.mg X.base C k "__iter__" (spIt X.K)) (hr : Room j X.A) (hk : k ≤ j) (he : PE X e te) : PI X tg e (iOwn X.K te C) := by
  obtain ⟨f, fd, ps, F, s, _, b⟩ := m.ex
  exact pi_own s R.cl R.nN F (hr.mono hk) b pass0 he
theorem ps_no {st : Stmt} : PS X st (fun _ _ _ => False) := ⟨fun _ _ _ _ _ _ h => h.elim⟩
theorem pe_no {e : Expr} : PE X e (fun _ _ _ => False) := ⟨fun _ _ _ _ _ _ h => h.elim⟩
end
end Lw
namespace Lw
open PySem PySem.Spec PyProof.Rows L2 GrT GrOwn
/-! ### the record's own defs -/
def spContains (C : Addr) : Sp := fun vs H Q _ => ∃ (a : Addr) (l : List (Str × V)) (z : Int) (x : Str), vs = [.ref a, .str x] ∧ RA (fun _ => True) C H a l z ∧ Q (.bl (look x l).isSome) H
def spLen (C : Addr) : Sp := fun vs H Q _ => ∃ (a : Addr) (l : List (Str × V)) (z : Int), vs = [.ref a] ∧ RA (fun _ => True) C H a l z ∧ Q (.int l.length) H
def spGet (C : Addr) : Sp := fun vs H Q _ => ∃ (a : Addr) (l : List (Str × V)) (z : Int) (x : Str) (v : V), vs = [.ref a, .str x] ∧ RA (fun _ => True) C H a l z ∧ look x l = some v ∧ Q v H
def spSize (C : Addr) : Sp := fun vs H Q _ => ∃ (a dx tp d : Addr) (z : Int), vs = [.ref a] ∧ H a = some (.ins C dx (rf tp d z)) ∧ Q (.int z) H
def spEq (C : Addr) : Sp := fun vs H Q _ => ∃ (a : Addr) (i : Int), vs = [.ref a, .int i] ∧ Q (.bl false) H
/-- how many fields a value has, as the program asks it -/
def SzV (C : Addr) (H : Hp) (v : V) (z : Int) : Prop := (∃ i, v = .int i ∧ z = 0) ∨ ∃ a dx tp d, v = .ref a ∧ H a = some (.ins C dx (rf tp d z))
def spVs (C : Addr) : Sp := fun vs H Q _ => ∃ (v : V) (z : Int), vs = [v] ∧ SzV C H v z ∧ Q (.int z) H
section
variable {P : Program} {w : World} {K : PySem.W.Frag} {mg : Str → Option Value} {base : Heap} {C : Addr}
theorem scContains : FnScope ["self", "name"] ["self", "name"] (defScope sContains) := ⟨rfl, rfl, rfl, by decide +kernel, rfl, by decide +kernel, by decide +kernel⟩
theorem scLen : FnScope ["self"] ["self"] (defScope sLen) := ⟨rfl, rfl, rfl, by decide +kernel, rfl, by decide +kernel, by decide +kernel⟩
theorem scGet : FnScope ["self", "name"] ["self", "name"] (defScope sGet) := ⟨rfl, rfl, rfl, by decide +kernel, rfl, by decide +kernel, by decide +kernel⟩
theorem scSize : FnScope ["self"] ["self"] (defScope sSize) := ⟨rfl, rfl, rfl, by decide +kernel, rfl, by decide +kernel, by decide +kernel⟩
theorem scIter : FnScope ["self"] ["self"] (defScope sIter) := ⟨rfl, rfl, rfl, by decide +kernel, rfl, by decide +kernel, by decide +kernel⟩
theorem scEq : FnScope ["self", "other"] ["self", "other"] (defScope sEq) := ⟨rfl, rfl, rfl, by decide +kernel, rfl, by decide +kernel, by decide +kernel⟩
theorem scValueSize : FnScope ["value"] ["value"] (defScope sValueSize) := ⟨rfl, rfl, rfl, by decide +kernel, rfl, by decide +kernel, by decide +kernel⟩
theorem m_contains (R : RecK K mg C) (D : DfM K C "__contains__" "Record.__contains__" sContains ["self", "name"]) : Mth P w K mg base C 1 "__contains__" (spContains C) := by
  refine D.cal scContains (fun vs H Q E h => ?_) (fun f cdv A outer s H vs Q E hr h => ?_)
  · obtain ⟨a, l, z, x, rfl, _⟩ := h
    rfl
  · obtain ⟨a, l, z, x, rfl, ⟨⟨dx, tp, d, _, e1, e2, e3⟩, _, _⟩, q⟩ := h
    have hu := hu_of hr
    refine ⟨_, (pss_one (ps_ret (pe_cmp (pc_din hu (pv 1) (pe_fld (pv 0) rfl))))), ?_⟩
    refine ⟨_, rfl, _, rfl, a, C, dx, _, _, rfl, e1, R.cl, R.nF, rf_fields _ _ _, d, _, rfl, DGet.k (k := Sum.inr x) e3, ?_⟩
    rw [dk_val]
    exact q
theorem m_len (T : Bt mg) (R : RecK K mg C) (D : DfM K C "__len__" "Record.__len__" sLen ["self"]) : Mth P w K mg base C 1 "__len__" (spLen C) := by
  refine D.cal scLen (fun vs H Q E h => ?_) (fun f cdv A outer s H vs Q E hr h => ?_)
  · obtain ⟨a, l, z, rfl, _⟩ := h
    rfl
  · obtain ⟨a, l, z, rfl, ⟨⟨dx, tp, d, _, e1, e2, e3⟩, _, _⟩, q⟩ := h
    refine ⟨_, (pss_one (ps_ret (pe_callB call_lenD (by rfl) T.b_len PySem.boot_len (pa_cons (pe_fld (pv 0) rfl) pa_nil)))), ?_⟩
    refine ⟨_, rfl, a, C, dx, _, _, rfl, e1, R.cl, R.nF, rf_fields _ _ _, d, _, rfl, e3, ?_⟩
    rw [dk_len]
    exact q
theorem m_get (R : RecK K mg C) (D : DfM K C "__getitem__" "Record.__getitem__" sGet ["self", "name"]) : Mth P w K mg base C 1 "__getitem__" (spGet C) := by
  refine D.cal scGet (fun vs H Q E h => ?_) (fun f cdv A outer s H vs Q E hr h => ?_)
  · obtain ⟨a, l, z, x, v, rfl, _⟩ := h
    rfl
  · obtain ⟨a, l, z, x, v, rfl, ⟨⟨dx, tp, d, _, e1, e2, e3⟩, _, _⟩, hv, q⟩ := h
    have hu := hu_of hr
    refine ⟨_, (pss_cons (ps_if (pt_cmp (pc_dnotin hu (pv 1) (pe_fld (pv 0) rfl)))
      (pss_one ps_no)
      pss_nil)
      (pss_one (ps_ret (pe_dget hu (pe_fld (pv 0) rfl) (pv 1) (fun _ _ => rfl))))), ?_⟩
    have hg : valV (dk l) (Sum.inr x : Key) = some v := by rw [dk_val, hv]
    have hd := DGet.k (k := Sum.inr x) e3
    rw [hg] at hd
    exact ⟨_, rfl, _, rfl, a, C, dx, _, _, rfl, e1, R.cl, R.nF, rf_fields _ _ _, d, some v, rfl, hd, _, rfl, iteF ⟨_, rfl, a, C, dx, _, _, rfl, e1, R.cl, R.nF, rf_fields _ _ _, _, rfl, d, v, rfl, hd, q⟩⟩
theorem fn_size (R : RecK K mg C) {f : Addr} {fd : FuncData} (F : L2.Fun K "size" "Record.size" sSize f fd) : FnOk P w K mg base CX0 1 f fd ["self"] (spSize C) := by
  refine F.ok scSize (fun vs H Q E h => ?_) (fun cdv A outer s H vs Q E hr h => ?_)
  · obtain ⟨a, dx, tp, d, z, rfl, _⟩ := h
    rfl
  · obtain ⟨a, dx, tp, d, z, rfl, e1, q⟩ := h
    refine ⟨_, (pss_one (ps_ret (pe_fld (pv 0) rfl))), ?_⟩
    exact ⟨_, rfl, a, C, dx, _, _, rfl, e1, R.cl, R.nS, rf_size _ _ _, q⟩
theorem m_iter (hi : mg "iter" = none) (R : RecK K mg C) (D : DfM K C "__iter__" "Record.__iter__" sIter ["self"]) : MthS P w K mg base C 1 "__iter__" (spIt K) := by
  obtain ⟨f, fd, hm, hfn, F, b⟩ := D.ex
  refine ⟨f, fd, ["self"], Fun.okS F scIter (fun n vs H Q E h => ?_) (fun cdv A outer s H vs Q E hr h => ?_), hm, hfn, b⟩
  · obtain ⟨a, C, dx, fs, t, zs, rfl, _⟩ := h
    rfl
  · obtain ⟨a, C, dx, fs, t, zs, rfl, e1, cl, na, el, hq, q⟩ := h
    refine ⟨_, (pss_one (ps_ret (pe_callB call_iterT (by rfl) hi (by decide +kernel) (pa_cons (pe_fld (pv 0) rfl) pa_nil)))), ?_⟩
    exact ⟨_, rfl, a, C, dx, _, _, rfl, e1, cl, na, el, t, zs, rfl, hq, fun it h1 h2 => q it h1 h2⟩
theorem m_eq (T : Bu mg) (R : RecK K mg C) (D : DfM K C "__eq__" "Record.__eq__" sEq ["self", "other"]) : Mth P w K mg base C 1 "__eq__" (spEq C) := by
  refine D.cal scEq (fun vs H Q E h => ?_) (fun f cdv A outer s H vs Q E hr h => ?_)
  · obtain ⟨a, i, rfl, _⟩ := h
    rfl
  · obtain ⟨a, i, rfl, q⟩ := h
    refine ⟨_, (pss_one (ps_ret (pe_and (pe_callB call_isi (by rfl) T.b_isinstance bo_isinstance (pa_cons (pv 1) (pa_cons (pe_glob (by rfl) R.mgC (v := .ref C) rfl) pa_nil))) pe_no))), ?_⟩
    exact ⟨_, rfl, _, _, _, _, _, rfl, .own C, .base (.int i), R.kI, _, rfl, iteF q⟩
theorem pe_size {X : Cx} {e : Expr} {pos : Pos} {ta : TE} {p g : Addr} {fd : FuncData} {j : Nat} (R : RecK X.K X.mg C) (hp : PropOf X.K C "size" p g) (F : L2.Fun X.K "size" "Record.size" sSize g fd) (b : Binds X.K fd ["self"] []) (hr : Room j X.A) (hk : 2 ≤ j) (he : PE X e ta)
    (hab : attributeBase e "size" X.env (eval e X.env) = eval e X.env) : PE X (.Attribute e "size" pos) (tProp C (spSize C) [] E0 ta) :=
  pe_prop he R.cl hp (fn_size R F) (hr.mono hk) b .nil pass0 hab
/-- the property, as the top has made it -/
structure PrK (K : PySem.W.Frag) (C : Addr) : Prop where
  ex : ∃ p g fd, PropOf K C "size" p g ∧ L2.Fun K "size" "Record.size" sSize g fd ∧ Binds K fd ["self"] []
theorem pe_sizeK {X : Cx} {e : Expr} {pos : Pos} {ta : TE} {j : Nat} (R : RecK X.K X.mg C) (h : PrK X.K C) (hr : Room j X.A) (hk : 2 ≤ j) (he : PE X e ta)
    (hab : attributeBase e "size" X.env (eval e X.env) = eval e X.env) : PE X (.Attribute e "size" pos) (tProp C (spSize C) [] E0 ta) := by
  obtain ⟨p, g, fd, hp, F, b⟩ := h.ex
  exact pe_size R hp F b hr hk he hab
theorem c_value_size (T : Bu mg) (R : RecK K mg C) (pr : PrK K C) (D : Dfn K mg "value_size" sValueSize ["value"]) : Cal P w K mg base 3 "value_size" (spVs C) := by
  refine D.cal scValueSize (fun vs H Q E h => ?_) (fun f cdv A outer s H vs Q E hr h => ?_)
  · obtain ⟨v, z, rfl, _⟩ := h
    rfl
  · obtain ⟨v, z, rfl, hv, q⟩ := h
    refine ⟨_, (pss_one (ps_ret (pe_ifExp (pt_val (pe_callB call_isi (by rfl) T.b_isinstance bo_isinstance (pa_cons (pv 0) (pa_cons (pe_glob (by rfl) R.mgC (v := .ref C) rfl) pa_nil)))) (pe_sizeK R pr hr (by decide) (pv 0) rfl) pe_int))), ?_⟩
    rcases hv with ⟨i, rfl, rfl⟩ | ⟨a, dx, tp, d, rfl, e1⟩
    · exact ⟨_, rfl, _, _, _, _, _, rfl, .own C, .base (.int i), R.kI, _, rfl, iteF q⟩
    · exact ⟨_, rfl, _, _, _, _, _, rfl, .own C, R.ty e1, R.kRC, _, rfl, iteT ⟨_, rfl, a, dx, _, rfl, e1, a, dx, tp, d, z, rfl, e1, q⟩⟩
end
end Lw
namespace Lw
open PySem PySem.Spec PyProof.Rows L2 GrT GrOwn
def spIsName : Sp := fun vs H Q _ => ∃ x : Str, vs = [.str x] ∧ Good x ∧ ∀ H', Same H H' → Q (.bl true) H'
theorem a_tl : (Str.ofString "a").cps.toList = [97] := by decide +kernel
theorem z_tl : (Str.ofString "z").cps.toList = [122] := by decide +kernel
theorem ge_a {c : Nat} (h : letter c) : (!decide ((⟨#[c]⟩ : Str).cps.toList < (Str.ofString "a").cps.toList)) = true := by
  rw [a_tl, Bool.not_eq_true', decide_eq_false_iff_not]
  show ¬ ([c] < [97])
  intro q
  have h' := h.1
  rcases List.cons_lt_cons_iff.mp q with e | ⟨_, e⟩
  · omega
  · exact absurd e (List.not_lt_nil _)
theorem le_z {c : Nat} (h : letter c) : (!decide ((Str.ofString "z").cps.toList < (⟨#[c]⟩ : Str).cps.toList)) = true := by
  rw [z_tl, Bool.not_eq_true', decide_eq_false_iff_not]
  show ¬ ([122] < [c])
  intro q
  have h' := h.2
  rcases List.cons_lt_cons_iff.mp q with e | ⟨_, e⟩
  · omega
  · exact absurd e (List.not_lt_nil _)
section
variable {P : Program} {w : World} {K : PySem.W.Frag} {mg : Str → Option Value} {base : Heap} {C : Addr}
theorem scIsName : FnScope ["text", "letter"] ["text"] (defScope sIsName) := ⟨rfl, rfl, rfl, by decide +kernel, rfl, by decide +kernel, by decide +kernel⟩
theorem c_is_name (T : Bu mg) (ba : mg "all" = none) {tL : Tok} (hL : mg "LONGEST_NAME" = some (.int 30 tL)) (D : Dfn K mg "is_name" sIsName ["text"]) : Cal P w K mg base 1 "is_name" spIsName := by
  refine D.cal scIsName (fun vs H Q E h => ?_) (fun f cdv A outer s H vs Q E hr h => ?_)
  · obtain ⟨x, rfl, _⟩ := h
    rfl
  · obtain ⟨x, rfl, ⟨g1, g2, g3⟩, q⟩ := h
    refine ⟨_, (pss_one (ps_ret (pe_and (pe_chain op_le op_le pe_int (pe_callB call_len_str (by rfl) T.b_len PySem.boot_len (pa_cons (pv 0) pa_nil)) (pe_glob (by rfl) hL (v := .int 30) ⟨tL, rfl⟩))
      (pe_one (pe_callB (cr_all rfl) (by rfl) ba (by decide +kernel) (pa_cons (pe_lc (own := [("letter", 1)]) (g := gName 1) (tt := tYes) rfl scIsName.nd (pi_str (pv 0)) (blkOk_by (own := [("letter", 1)]) (N := ["text", "letter"]) (sc := defScope sIsName) (by decide +kernel)) (fun _ _ _ _ _ => pg_name (i := 1) scIsName.nd rfl (Or.inl rfl)) (fun _ _ _ _ _ => pts_nil) (fun _ _ _ _ _ => (by exact (pe_chain op_le_str op_le_str pe_str (pv 1) pe_str)))) pa_nil)))))), ?_⟩
    refine ⟨_, rfl, x, rfl, line_big (by omega), _, _, rfl, rfl, _, rfl, ?_⟩
    rw [if_pos (decide_eq_true (by omega))]
    refine ⟨_, _, rfl, rfl, _, rfl, ?_⟩
    rw [if_pos (decide_eq_true (by omega))]
    refine ⟨_, rfl, _, rfl, fun Z hZ => lc_it walk_str (fun i H5 => H5 Z = some (.lst ((List.replicate i true).map V.bl)) ∧ Same H H5) ⟨upd_same, Same.new (Same.refl _) hZ⟩ (fun _ _ _ _ => True.intro) ?_ ?_⟩
    · rintro i y H5 H6 hi ⟨eZ, sm⟩ ⟨rfl, c, hc, rfl⟩
      have lc : letter c := g3 c (by
        rw [← Array.getElem?_toList] at hc
        exact List.mem_of_getElem? hc)
      have hsz : x.cps.size = x.length := rfl
      refine ⟨rfl, iteT (A := _) (B := True) (iteT ⟨_, rfl, _, _, rfl, rfl, _, rfl, ?_⟩)⟩
      rw [if_pos (ge_a lc)]
      refine ⟨_, _, rfl, rfl, _, eZ, line_big (by rw [List.length_map, List.length_replicate]; omega), ?_, ?_⟩
      · rw [upd_same, le_z lc, List.replicate_succ', List.map_append]
        rfl
      · intro b o e
        rw [upd_ne (ne_of_none e hZ)]
        exact sm b o e
    · rintro H5 ⟨eZ, sm⟩
      refine ⟨Z, _, rfl, .of eZ, ?_⟩
      have e : (List.replicate x.cps.size true).all id = true := by
        rw [List.all_eq_true]
        intro b hb
        rw [List.eq_of_mem_replicate hb]
        rfl
      rw [e]
      exact q _ sm
end
end Lw
namespace Lw
open PySem PySem.Spec PyProof.Rows L2 GrT GrOwn
section
variable {J : It} {n : Nat} {G : Hp → Prop} {Y : Nat → Hp → V → Hp → Prop}
/-- the loop of a dict comprehension, Pv by the turn and the heap -/
theorem dc_it (w : Walk J n G Y) {g : TG} {tt : TT} {tk tv : TE} {vs : List Nat} {σ : L2.St} {H1 : Hp} {D : Addr} {Qd : Hp → Prop} (Pv : Nat → Hp → Prop) (h0 : Pv 0 (upd H1 D (.dK []))) (hG : ∀ i H, i ≤ n → Pv i H → G H)
    (hs : ∀ i x H H', i < n → Pv i H → Y i H x H' → g x (wipe σ vs) H' fun σ2 H2 => wipe σ2 vs = wipe σ vs ∧ tt σ2 H2 fun b H3 =>
      if b = true then tk σ2 H3 fun y H4 => tv σ2 H4 fun z H5 => ∃ kvs k, y = kV k ∧ H5 D = some (.dK kvs) ∧ kvs.length < sizeLine ∧ Pv (i + 1) (upd H5 D (.dK (putK kvs k z))) else Pv (i + 1) H3) (hd : ∀ H, Pv n H → Qd H) :
    ∃ W : Nat → Nat → Hp → Prop, (∃ m, W 0 m (upd H1 D (.dK []))) ∧ ∀ i m H, W i m H →
      (J.stop i H ∧ Qd H) ∨ (J.go i H ∧ ∃ Nx : Hp → Prop, (∀ H', Nx H' → ∃ m', m' < m ∧ W (i + 1) m' H') ∧ ∀ x H', J.yld i H x H' → g x (wipe σ vs) H' fun σ2 H2 => wipe σ2 vs = wipe σ vs ∧ tt σ2 H2 fun b H3 =>
        if b = true then tk σ2 H3 fun y H4 => tv σ2 H4 fun z H5 => ∃ kvs k, y = kV k ∧ H5 D = some (.dK kvs) ∧ kvs.length < sizeLine ∧ Nx (upd H5 D (.dK (putK kvs k z))) else Nx H3) := by
  refine ⟨fun i m H => m = n - i ∧ i ≤ n ∧ Pv i H, ⟨n, by simp, Nat.zero_le _, h0⟩, ?_⟩
  rintro i m H ⟨rfl, hi, p⟩
  have q := hG i H hi p
  by_cases hlt : i < n
  · exact .inr ⟨w.goes i H hlt q, Pv (i + 1), fun H' p' => ⟨n - (i + 1), by omega, rfl, hlt, p'⟩, fun x H' y => hs i x H H' hlt p (w.yields i H x H' hlt q y)⟩
  · have e : i = n := by omega
    subst e
    exact .inl ⟨w.stops H q, hd H p⟩
end
theorem sum_perm {α : Type} {f : α → Int} {l m : List α} (h : l.Perm m) : (l.map f).sum = (m.map f).sum := by
  induction h with
  | nil => rfl
  | cons x _ ih => rw [List.map_cons, List.map_cons, List.sum_cons, List.sum_cons, ih]
  | swap x y l =>
    simp only [List.map_cons, List.sum_cons]
    omega
  | trans _ _ ih1 ih2 => rw [ih1, ih2]
def spInit (C : Addr) : Sp := fun vs H Q _ => ∃ (a dx d0 : Addr) (l0 : List (Str × V)) (sz : Str → Int), vs = [.ref a, .ref d0] ∧ H a = some (.ins C dx []) ∧ H d0 = some (.dK (dk l0)) ∧ (names l0).Nodup ∧ l0.length ≤ 40 ∧
  (∀ x v, look x l0 = some v → SzV C H v (sz x)) ∧
  ∀ (l : List (Str × V)) H', RA (fun b => b = a ∨ H b = none) C H' a l (l0.length + ((names l0).map sz).sum) → (names l).Perm (names l0) → (∀ x, look x l = look x l0) → Fx a H H' → Q .non H'
section
variable {P : Program} {w : World} {K : PySem.W.Frag} {mg : Str → Option Value} {base : Heap} {C : Addr}
theorem scInit : FnScope ["self", "fields", "names", "name"] ["self", "fields"] (defScope sInit) := ⟨rfl, rfl, rfl, by decide +kernel, rfl, by decide +kernel, by decide +kernel⟩
theorem fn_init (T : Bu mg) (R : RecK K mg C) (c_value_size : Cal P w K mg base 3 "value_size" (spVs C)) {f : Addr} {fd : FuncData} (F : L2.Fun K "__init__" "Record.__init__" sInit f fd) : FnOk P w K mg base CX0 4 f fd ["self", "fields"] (spInit C) := by
  refine F.ok scInit (fun vs H Q E h => ?_) (fun cdv A outer s H vs Q E hr h => ?_)
  · obtain ⟨a, dx, d0, l0, sz, rfl, _⟩ := h
    rfl
  · obtain ⟨a, dx, d0, l0, sz, rfl, ea, ed, nd, hl, hsz, q⟩ := h
    have hu := hu_of hr
    refine ⟨_, (pss_cons (ps_set (i := 2) scInit.nd rfl (Or.inl rfl) (pe_callB cr_sortedS (by rfl) T.b_sorted bo_sorted (pa_cons (pe_lock (pe_lc (own := [("name", 3)]) (g := gName 3) (tt := tYes) rfl scInit.nd (pi_keys (pv 1)) (blkOk_by (own := [("name", 3)]) (N := ["self", "fields", "names", "name"]) (sc := defScope sInit) (by decide +kernel)) (fun _ _ _ _ _ => pg_name (i := 3) scInit.nd rfl (Or.inl rfl)) (fun _ _ _ _ _ => pts_nil) (fun _ _ _ _ _ => (by exact (pe_callTy SkE.call_str_str (by rfl) T.b_str bo_str (pa_cons (pv 3) pa_nil)))))) pa_nil)))
      (pss_cons (ps_fld (pv 0) (pe_callTy call_tuple_of (by rfl) T.b_tuple bo_tuple (pa_cons (pv 2) pa_nil)) rfl)
      (pss_cons (ps_fld (pv 0) (pe_dc (own := [("name", 3)]) (g := gName 3) (tt := tYes) rfl scInit.nd (pi_list (pv 2)) (blkOk_by (own := [("name", 3)]) (N := ["self", "fields", "names", "name"]) (sc := defScope sInit) (by decide +kernel)) (fun _ _ _ _ _ => pg_name (i := 3) scInit.nd rfl (Or.inl rfl)) (fun _ _ _ _ _ => pts_nil) (fun _ _ _ _ _ => (by exact (pv 3))) (fun _ _ _ _ _ => (by exact (pe_dget hu (pv 1) (pv 3) (fun _ _ => rfl))))) rfl)
      (pss_one (ps_fld (pv 0) (pe_op op_add (pe_callB call_len_seq (by rfl) T.b_len PySem.boot_len (pa_cons (pv 2) pa_nil)) (pe_callB (cr_sum rfl) (by rfl) T.b_sum bo_sum (pa_cons (pe_lc (own := [("name", 3)]) (g := gName 3) (tt := tYes) rfl scInit.nd (pi_list (pv 2)) (blkOk_by (own := [("name", 3)]) (N := ["self", "fields", "names", "name"]) (sc := defScope sInit) (by decide +kernel)) (fun _ _ _ _ _ => pg_name (i := 3) scInit.nd rfl (Or.inl rfl)) (fun _ _ _ _ _ => pts_nil) (fun _ _ _ _ _ => (by exact (pe_c c_value_size hr (by decide) rfl (pa_cons (pe_dget hu (pv 1) (pv 3) (fun _ _ => rfl)) pa_nil))))) pa_nil))) rfl))))), ?_⟩
    refine ⟨d0, .dK (dk l0), ed, True.intro, fun od => ⟨_, rfl, d0, od, rfl, .inl ⟨_, upd_same, fun Z hZ => lc_it walk_keys (fun i H5 => H5 Z = some (.lst (((names l0).take i).map V.str)) ∧ Same (upd H d0 (.frz od (.dK (dk l0)))) H5)
      ⟨upd_same, Same.new (Same.refl _) hZ⟩ ?_ ?_ ?_⟩⟩⟩
    · rintro i H5 _ ⟨_, sm⟩
      exact sm _ _ upd_same
    · rintro i x H5 H6 hi ⟨eZ, sm⟩ ⟨rfl, k', v', hk, rfl⟩
      obtain ⟨x, rfl, hx⟩ := dk_at hk
      refine ⟨rfl, iteT (A := _) (B := True) (iteT ⟨_, rfl, x, rfl, _, eZ, line_big (by rw [List.length_map, List.length_take, show (names l0).length = l0.length from List.length_map _]; omega), ?_, ?_⟩)⟩
      · have hn : (names l0)[i]? = some x := by rw [List.getElem?_map, hx]; rfl
        rw [upd_same, List.take_add_one, hn]
        simp
      · intro b o e
        rw [upd_ne (ne_of_none e hZ)]
        exact sm b o e
    · rintro H5 ⟨eZ, sm⟩
      have hn : (names l0).length = l0.length := List.length_map _
      rw [dk_len, ← hn, List.take_length] at eZ
      have ea5 := sm _ _ (upd_same (H := H) (a := d0) (o := .frz od (.dK (dk l0))))
      have aZ : Z ≠ d0 := (ne_of_none upd_same hZ).symm
      refine ⟨ea5, Z, _, rfl, .of (by rw [upd_ne aZ]; exact eZ), by rw [hn]; omega, fun ys W pm so hW => ?_⟩
      have s1 : Same H (upd H5 d0 (.dK (dk l0))) := Same.unlock ed sm
      have s2 : Same H (upd (upd H5 d0 (.dK (dk l0))) W (.lst (ys.map V.str))) := Same.new s1 hW
      have eW : (upd (upd H5 d0 (.dK (dk l0))) W (.lst (ys.map V.str))) W = some (.lst (ys.map V.str)) := upd_same
      generalize upd (upd H5 d0 (.dK (dk l0))) W (.lst (ys.map V.str)) = H1 at s2 eW ⊢
      clear sm s1 ea5 eZ hZ hW
      have hyl : ys.length = l0.length := by rw [pm.length_eq, hn]
      have ydn : ys.Nodup := pm.nodup_iff.mpr nd
      have ea1 := s2 _ _ ea
      have ed1 := s2 _ _ ed
      have da : d0 ≠ a := fun e => by
        rw [e, ea] at ed
        cases ed
      have Wa : W ≠ a := fun e => by
        rw [e, ea1] at eW
        cases eW
      -- self.names
      refine ⟨_, rfl, W, _, rfl, .inl ⟨SqL.of eW, fun tp htp => ?_⟩⟩
      have ta : tp ≠ a := (ne_of_none ea1 htp).symm
      have htp0 : H tp = none := s2.free htp
      have s3 : Same H (upd H1 tp (.tup (ys.map V.str))) := Same.new s2 htp
      have eW3 : (upd H1 tp (.tup (ys.map V.str))) W = some (.lst (ys.map V.str)) := by
        rw [upd_ne (ne_of_none eW htp)]
        exact eW
      have et3 : (upd H1 tp (.tup (ys.map V.str))) tp = some (.tup (ys.map V.str)) := upd_same
      generalize upd H1 tp (.tup (ys.map V.str)) = H2 at s3 eW3 et3 ⊢
      refine ⟨_, rfl, a, C, dx, [], rfl, s3 _ _ ea, R.cl, R.nN, (by show 0 < 1000; decide), ?_⟩
      have x4 : Fx a H (upd H2 a (.ins C dx (putF "names" (.ref tp) []))) := fun b o nb e => by
        rw [upd_ne nb]
        exact s3 b o e
      have ea4 : (upd H2 a (.ins C dx (putF "names" (.ref tp) []))) a = some (.ins C dx (putF "names" (.ref tp) [])) := upd_same
      have eW4 : (upd H2 a (.ins C dx (putF "names" (.ref tp) []))) W = some (.lst (ys.map V.str)) := by
        rw [upd_ne Wa]
        exact eW3
      have et4 : (upd H2 a (.ins C dx (putF "names" (.ref tp) []))) tp = some (.tup (ys.map V.str)) := by
        rw [upd_ne ta]
        exact et3
      generalize upd H2 a (.ins C dx (putF "names" (.ref tp) [])) = H3 at x4 ea4 eW4 et4 ⊢
      clear s3 eW3 et3
      -- self._fields
      have get : ∀ x ∈ ys, ∃ v, look x l0 = some v := fun x hx => look_some (pm.mem_iff.mp hx)
      obtain ⟨l, hlY, hlL⟩ : ∃ l : List (Str × V), names l = ys ∧ ∀ p ∈ l, look p.1 l0 = some p.2 := by
        refine ⟨ys.map fun x => (x, (look x l0).getD .non), by simp [names, Function.comp_def], fun p hp => ?_⟩
        obtain ⟨x, hx, rfl⟩ := List.mem_map.mp hp
        obtain ⟨v, hv⟩ := get x hx
        show look x l0 = some ((look x l0).getD .non)
        rw [hv]
        rfl
      have hll : l.length = ys.length := by rw [← hlY]; simp [names]
      refine ⟨_, rfl, W, rfl, ⟨_, SqL.of eW4⟩, fun d hd => dc_it (walk_list (xs := ys.map V.str)) (fun i H5 => H5 d = some (.dK (dk (l.take i))) ∧ Same H3 H5) ⟨upd_same, Same.new (Same.refl _) hd⟩ (fun i H5 _ h => SqL.of (h.2 _ _ eW4)) ?_ ?_⟩
      · rintro i v H5 H6 hi ⟨eZ, sm⟩ ⟨rfl, hk⟩
        have hi2 : i < l.length := by
          rw [List.length_map] at hi
          omega
        obtain ⟨⟨x, u⟩, hx⟩ : ∃ p, l[i]? = some p := ⟨l[i], List.getElem?_eq_getElem hi2⟩
        have hyx : ys[i]? = some x := by
          rw [← hlY]
          show (l.map (·.1))[i]? = some x
          rw [List.getElem?_map, hx]
          rfl
        have ev : v = V.str x := by
          rw [List.getElem?_map, hyx] at hk
          exact (Option.some.inj hk).symm
        subst ev
        have hv := hlL _ (List.mem_of_getElem? hx)
        have hg : valV (dk l0) (Sum.inr x : Key) = some u := by rw [dk_val]; exact hv
        have ed5 : H6 d0 = some (.dK (dk l0)) := sm _ _ (x4 _ _ da ed)
        have hdg := DGet.k (k := Sum.inr x) ed5
        rw [hg] at hdg
        refine ⟨rfl, iteT (A := _) (B := True) (iteT ⟨_, rfl, _, rfl, _, rfl, d0, u, rfl, hdg, _, Sum.inr x, rfl, eZ, Nat.lt_of_lt_of_le (m := 100) (by rw [dk_len, List.length_take]; omega) (line_big (by decide)), ?_, ?_⟩)⟩
        · have hno : valV (dk (l.take i)) (Sum.inr x : Key) = none := by
            rw [dk_val, look_none]
            intro hm
            have e1 : names (l.take i) = (names l).take i := by simp [names, List.map_take]
            rw [e1, hlY] at hm
            obtain ⟨j, hj, ej⟩ := List.mem_take_iff_getElem.mp hm
            have hi3 : i < ys.length := by omega
            have e2 : ys[i] = x := by
              rw [List.getElem?_eq_getElem hi3] at hyx
              exact Option.some.inj hyx
            have := (List.getElem_inj ydn).mp (ej.trans e2.symm)
            omega
          rw [upd_same, putK_new _ hno, List.take_add_one, hx]
          simp [dk]
        · intro b o e
          rw [upd_ne (ne_of_none e hd)]
          exact sm b o e
      · rintro H5 ⟨eZ, sm⟩
        rw [List.length_map, ← hll, List.take_length] at eZ
        have ad : a ≠ d := ne_of_none ea4 hd
        have hd0 : H d = none := by
          cases e : H d with
          | none => rfl
          | some o =>
            rw [x4 d o ad.symm e] at hd
            cases hd
        have ea5 := sm _ _ ea4
        have et5 := sm _ _ et4
        have eW5 := sm _ _ eW4
        have x5 : Fx a H H5 := fun b o nb e => sm _ _ (x4 b o nb e)
        refine ⟨_, rfl, a, C, dx, _, rfl, ea5, R.cl, R.nF, (by show 1 < 1000; decide), ?_⟩
        have x6 : Fx a H (upd H5 a (.ins C dx (putF "_fields" (.ref d) (putF "names" (.ref tp) [])))) := fun b o nb e => by
          rw [upd_ne nb]
          exact x5 b o nb e
        have ea6 : (upd H5 a (.ins C dx (putF "_fields" (.ref d) (putF "names" (.ref tp) [])))) a = some (.ins C dx (putF "_fields" (.ref d) (putF "names" (.ref tp) []))) := upd_same
        have eW6 : (upd H5 a (.ins C dx (putF "_fields" (.ref d) (putF "names" (.ref tp) [])))) W = some (.lst (ys.map V.str)) := by
          rw [upd_ne Wa]
          exact eW5
        have et6 : (upd H5 a (.ins C dx (putF "_fields" (.ref d) (putF "names" (.ref tp) [])))) tp = some (.tup (ys.map V.str)) := by
          rw [upd_ne ta]
          exact et5
        have ed6 : (upd H5 a (.ins C dx (putF "_fields" (.ref d) (putF "names" (.ref tp) [])))) d = some (.dK (dk l)) := by
          rw [upd_ne ad.symm]
          exact eZ
        generalize upd H5 a (.ins C dx (putF "_fields" (.ref d) (putF "names" (.ref tp) []))) = H6 at x6 ea6 eW6 et6 ed6 ⊢
        -- self._size
        refine ⟨_, rfl, W, _, rfl, .inl (SqL.of eW6), _, rfl, W, rfl, ⟨_, SqL.of eW6⟩, fun Z hZ => lc_it (walk_list (xs := ys.map V.str)) (fun i H7 => H7 Z = some (.lst (((ys.map sz).take i).map V.int)) ∧ Same H6 H7) ⟨upd_same, Same.new (Same.refl _) hZ⟩ (fun i H7 _ h => SqL.of (h.2 _ _ eW6)) ?_ ?_⟩
        · rintro i v H7 H8 hi ⟨eZ7, sm7⟩ ⟨rfl, hk⟩
          have hi2 : i < ys.length := by
            rw [List.length_map] at hi
            exact hi
          obtain ⟨x, hyx⟩ : ∃ p, ys[i]? = some p := ⟨ys[i], List.getElem?_eq_getElem hi2⟩
          have ev : v = V.str x := by
            rw [List.getElem?_map, hyx] at hk
            exact (Option.some.inj hk).symm
          subst ev
          obtain ⟨u, hu2⟩ := get x (List.mem_of_getElem? hyx)
          have ed8 : H8 d0 = some (.dK (dk l0)) := sm7 _ _ (x6 _ _ da ed)
          have hdg := DGet.k (k := Sum.inr x) ed8
          rw [dk_val, hu2] at hdg
          have sv : SzV C H8 u (sz x) := by
            rcases hsz x u hu2 with h | ⟨b, dy, tq, dq, e1, e2⟩
            · exact .inl h
            · refine .inr ⟨b, dy, tq, dq, e1, sm7 _ _ (x6 b _ (fun e => ?_) e2)⟩
              rw [e, ea] at e2
              exact absurd (HO.ins.inj (Option.some.inj e2)).2.2 (by
                intro z
                have := congrArg (fun l => List.lookup ("_size" : Str) l) z
                simp only [rf_size] at this
                cases this)
          refine ⟨rfl, iteT (A := _) (B := True) (iteT ⟨_, rfl, _, rfl, d0, u, rfl, hdg, u, sz x, rfl, sv, _, eZ7, line_big (by rw [List.length_map, List.length_take, List.length_map]; omega), ?_, ?_⟩)⟩
          · rw [upd_same, List.take_add_one, List.getElem?_map, hyx]
            simp
          · intro b o e
            rw [upd_ne (ne_of_none e hZ)]
            exact sm7 b o e
        · rintro H7 ⟨eZ7, sm7⟩
          have hys : (ys.map sz).length = ys.length := List.length_map _
          rw [List.length_map, ← hys, List.take_length] at eZ7
          refine ⟨Z, _, rfl, .of eZ7, _, _, rfl, rfl, _, rfl, a, C, dx, _, rfl, sm7 _ _ ea6, R.cl, R.nS, (by show 2 < 1000; decide), ?_⟩
          have hz : ((ys.map V.str).length : Int) + (ys.map sz).sum = (l0.length : Int) + ((names l0).map sz).sum := by
            rw [List.length_map, hyl, sum_perm pm]
          refine q l _ ⟨⟨dx, tp, d, ⟨.inl rfl, .inr htp0, .inr hd0⟩, ?_, ?_, ?_⟩, by rw [hlY]; exact ydn, by rw [hlY]; exact so⟩ (by rw [hlY]; exact pm) (fun x => ?_) fun b o nb e => ?_
          · rw [upd_same, ← hz]
            rfl
          · rw [upd_ne ta, hlY]
            exact sm7 _ _ et6
          · rw [upd_ne ad.symm]
            exact sm7 _ _ ed6
          · cases e : look x l with
            | some v => exact (hlL _ (look_mem e)).symm
            | none =>
              refine (look_none.mpr fun hm => ?_).symm
              exact look_none.mp e (by rw [hlY]; exact pm.mem_iff.mpr hm)
          · rw [upd_ne nb]
            exact sm7 _ _ (x6 b o nb e)
end
end Lw
namespace Lw
open PySem PySem.Spec PyProof.Rows L2 GrT GrOwn
/-- the dicts of a tree all stand in the heap -/
theorem Tr.ex {S : Addr → Prop} {H : Hp} {L : Nat} : ∀ {n : Nat} {v : V} {t : T}, Tr S H L n v t → Tr (fun b => S b ∧ H b ≠ none) H L n v t
  | 0, _, _, h => h
  | n + 1, v, t, h => by
    rcases h with h | ⟨a, l, fs, e1, e2, es, e3, e4, e5⟩
    · exact .inl h
    · exact .inr ⟨a, l, fs, e1, e2, ⟨es, by rw [e3]; exact fun z => by cases z⟩, e3, e4, e5.imp fun _ _ _ q => Tr.ex q⟩
/-- a field's size by its name -/
def szf (fs : List (Str × T)) (x : Str) : Int := match look x fs with | some u => nf u | none => 0
theorem szf_sum : ∀ {gs fs : List (Str × T)}, (∀ p ∈ gs, look p.1 fs = some p.2) → ((names gs).map (szf fs)).sum + gs.length = nfs gs
  | [], _, _ => rfl
  | (x, t) :: r, fs, h => by
    have e : look x fs = some t := h (x, t) List.mem_cons_self
    have ih := szf_sum (gs := r) (fs := fs) fun p hp => h p (List.mem_cons_of_mem _ hp)
    have e2 : szf fs x = nf t := by
      unfold szf
      rw [e]
    show (szf fs x :: (names r).map (szf fs)).sum + ((r.length + 1 : Nat) : Int) = nfs ((x, t) :: r)
    rw [List.sum_cons, e2, nfs]
    omega
theorem nfs_len {fs : List (Str × T)} (nd : (names fs).Nodup) : (fs.length : Int) + ((names fs).map (szf fs)).sum = nfs fs := by
  have := szf_sum (gs := fs) (fs := fs) fun p hp => mem_look nd hp
  omega
theorem put_new {x : Str} {v : V} : ∀ {l : List (Str × V)}, x ∉ names l → put x v l = l ++ [(x, v)]
  | [], _ => rfl
  | (z, w) :: r, h => by
    have h' : z ≠ x ∧ x ∉ names r := ⟨fun e => h (by rw [← e]; exact List.mem_cons_self), fun e => h (List.mem_cons_of_mem _ e)⟩
    unfold put
    rw [if_neg h'.1, put_new h'.2]
    rfl
theorem Al.snoc {R : V → T → Prop} {l : List (Str × V)} {fs : List (Str × T)} {x : Str} {v : V} {t : T} (h : Al R l fs) (r : R v t) : Al R (l ++ [(x, v)]) (fs ++ [(x, t)]) := by
  induction h with
  | nil => exact .cons ⟨rfl, r⟩ .nil
  | cons a _ ih => exact .cons a ih
theorem Rc.sz {S : Addr → Prop} {C : Addr} {H : Hp} {n : Nat} {v : V} {t : T} (h : Rc S C H n v t) : SzV C H v (nf t) := by
  refine h.cases (fun i e1 e2 => .inl ⟨i, e1, by rw [e2, nf]⟩) fun k a l fs _ e1 e2 ra _ _ _ => ?_
  obtain ⟨⟨dx, tp, d, _, q, _⟩, _, _⟩ := ra
  exact .inr ⟨a, dx, tp, d, e1, by rw [e2, nf]; exact q⟩
def spMake (C : Addr) (n : Nat) : Sp := fun vs H Q _ => ∃ (v : V) (S : Addr → Prop) (fs : List (Str × T)), vs = [v] ∧ Tr S H 40 (n + 1) v (.fds fs) ∧ ∀ v' H', Rc (fun b => H b = none) C H' (n + 1) v' (.fds fs) → Same H H' → Q v' H'
def spMakeR (C : Addr) : Nat → Sp
  | 0 => spNo
  | n + 1 => spMake C n
/-- the static method, as the top has made it -/
structure StK (K : PySem.W.Frag) (C : Addr) : Prop where
  ex : ∃ p g fd, SMet K C (.type "type") "make" p g ∧ L2.Fun K "make" "Record.make" sMake g fd ∧ Binds K fd ["fields"] []
structure SCal (P : Program) (w : World) (K : PySem.W.Frag) (mg : Str → Option Value) (base : Heap) (C : Addr) (k : Nat) (sp : Sp) : Prop where
  ex : ∃ p g fd ps, SMet K C (.type "type") "make" p g ∧ FnOk P w K mg base CX0 k g fd ps sp ∧ Binds K fd ps []
/-- the class is made: its __init__ -/
structure InK (K : PySem.W.Frag) (C : Addr) : Prop where
  ex : ∃ f fd, Mk K C f ∧ L2.Fun K "__init__" "Record.__init__" sInit f fd ∧ Binds K fd ["self", "fields"] []
section
variable {X : Cx} {C : Addr} {k j : Nat} {sp : Sp} {o e : Expr} {es : List Expr} {pos apos : Pos} {ta : TE} {t : TA} {pl : Sem Bool}
theorem pe_smC (he : PE X o ta) (c : SCal X.prog X.w X.K X.mg X.base C k sp) (hr : Room j X.A) (hk : k ≤ j) (ha : PA X (e :: es) t)
    (hst : starEach (e :: es) X.env = (false, eval e X.env) :: starEach es X.env := by rfl) (hpl : (backTo pos (starEach es X.env)).any (·.1) = false := by rfl)
    (ht : eval (.Call (.Attribute o "make" apos) (e :: es) [] pos) X.env = (do
      let ov ← eval o X.env
      standAt apos.atName
      let (f, first) ← holding [ov] (getMethod ov "make" pl)
      callWith pos f first (backTo pos (starEach (e :: es) X.env)) (backToKw pos (keywordEach [] X.env))) := by rfl) :
    PE X (.Call (.Attribute o "make" apos) (e :: es) [] pos) (tSMet C sp E0 ta t) := by
  obtain ⟨p, g, fd, ps, m, F, b⟩ := c.ex
  exact pe_sm he m F (hr.mono hk) b pass0 ha hst hpl ht
theorem pe_new {p : Pos} (T : Bu X.mg) (R : RecK X.K X.mg C) (c_value_size : Cal X.prog X.w X.K X.mg X.base 3 "value_size" (spVs C)) (I : InK X.K C) (hr : Room j X.A) (hk : 5 ≤ j) (hg : Gl X "Record") (ha : PA X (e :: es) t)
    (he : starEach (e :: es) X.env = (false, eval e X.env) :: starEach es X.env := by rfl) (hpl : (backTo pos (starEach es X.env)).any (·.1) = false := by rfl) :
    PE X (.Call (.Name "Record" p) (e :: es) [] pos) (tMake C (spInit C) [] E0 t) := by
  obtain ⟨f, fd, M, F, b⟩ := I.ex
  exact pe_make M (fn_init T R c_value_size F) (hr.mono hk) hg R.mgC b .nil pass0 ha (by decide) he hpl
end
section
variable {P : Program} {w : World} {K : PySem.W.Frag} {mg : Str → Option Value} {base : Heap} {C : Addr}
theorem scMake : FnScope ["fields", "made", "name", "value"] ["fields"] (defScope sMake) := ⟨rfl, rfl, rfl, by decide +kernel, rfl, by decide +kernel, by decide +kernel⟩
theorem s_no {k : Nat} (D : StK K C) : SCal P w K mg base C (k + 1) spNo := by
  obtain ⟨p, g, fd, m, F, b⟩ := D.ex
  exact ⟨p, g, fd, _, m, F.ok scMake (fun _ _ _ _ h => h.elim) (fun _ _ _ _ _ _ _ _ _ h => h.elim), b⟩
theorem fn_make_step (T : Bu mg) (R : RecK K mg C) {pD g : Addr} {fd : FuncData} (mD : SMet K C (.type "type") "make" pD g) (F : L2.Fun K "make" "Record.make" sMake g fd) (bD : Binds K fd ["fields"] []) (I : InK K C) (c_value_size : Cal P w K mg base 3 "value_size" (spVs C)) (c_is_name : Cal P w K mg base 1 "is_name" spIsName) (n : Nat)
    (c_make : SCal P w K mg base C (n + 5) (spMakeR C n)) : FnOk P w K mg base CX0 (n + 6) g fd ["fields"] (spMake C n) := by
  refine F.ok scMake (fun vs H Q E h => ?_) (fun cdv A outer s H vs Q E hr h => ?_)
  · obtain ⟨v, S, fs, rfl, _⟩ := h
    rfl
  · obtain ⟨v, S, fs, rfl, tr, q⟩ := h
    have hu := hu_of hr
    refine ⟨_, (pss_cons (ps_set (i := 1) scMake.nd rfl (Or.inl rfl) pe_dnewK)
      (pss_cons (ps_lock (ps_for PassesOwn.never rfl (pi_items (pv 0)) (pg_tup rfl (pgs_cons (pg_name (i := 2) scMake.nd rfl (Or.inl rfl)) (pgs_cons (pg_name (i := 3) scMake.nd rfl (Or.inl rfl)) pgs_nil)))
      (pss_cons (ps_if (pt_not (pt_val (pe_c c_is_name hr (by omega) rfl (pa_cons (pv 2) pa_nil)))) (pss_one ps_no) pss_nil)
      (pss_one (ps_dput hu (pv 1) (pv 2) (pe_ifExp (pt_val (pe_callB call_isi (by rfl) T.b_isinstance bo_isinstance (pa_cons (pv 3) (pa_cons (pe_bltn (by rfl) T.b_dict bo_dict (v := .ty "dict") rfl) pa_nil)))) (pe_smC (pe_glob (by rfl) R.mgC (v := .ref C) rfl) c_make hr (by omega) (pa_cons (pv 3) pa_nil)) (pv 3)) rfl)))))
      (pss_one (ps_ret (pe_new T R c_value_size I hr (by omega) (by rfl) (pa_cons (pv 1) pa_nil)))))), ?_⟩
    refine tr.cases (fun i e1 e2 => by cases e2) (fun k a l fs' en e1 e2 sa ea wf al => ?_)
    cases en
    cases e2
    subst e1
    intro M hM
    have aM : a ≠ M := ne_of_none ea hM
    have s1 : Same H (upd H M (.dK [])) := Same.new (Same.refl _) hM
    have ea1 := s1 _ _ ea
    have eM1 : (upd H M (.dK [])) M = some (.dK (dk [])) := upd_same
    have al0 : Al (Tr (fun b => S b ∧ H b ≠ none) H 40 n) l fs := al.imp fun _ _ _ z => Tr.ex z
    have al1 : Al (Tr (fun b => (S b ∧ H b ≠ none)) (upd H M (.dK [])) 40 n) l fs := al0.imp fun _ _ _ z => Tr.same z s1
    have sa1 : (fun b => S b ∧ H b ≠ none) a := ⟨sa, by rw [ea]; exact fun z => by cases z⟩
    refine ⟨a, .dK (dk l), ea1, True.intro, fun od => ?_⟩
    have alB := al_away sa1 ea1 wf al1 (.frz od (.dK (dk l)))
    have eMB : (upd (upd H M (.dK [])) a (.frz od (.dK (dk l)))) M = some (.dK (dk [])) := by
      rw [upd_ne aM.symm]
      exact eM1
    have eaB : (upd (upd H M (.dK [])) a (.frz od (.dK (dk l)))) a = some (.frz od (.dK (dk l))) := upd_same
    have sB : ∀ b o, H b = some o → b ≠ a → (upd (upd H M (.dK [])) a (.frz od (.dK (dk l)))) b = some o := fun b o e nb => by
      rw [upd_ne nb]
      exact s1 b o e
    generalize upd (upd H M (.dK [])) a (.frz od (.dK (dk l))) = B at alB eMB eaB sB ⊢
    have hfl : fs.length ≤ 40 := wf.ln
    refine ⟨_, rfl, a, od, dk l, rfl, eaB, for_it walk_items (fun i σ H' => ∃ (nv vv : Option V) (lm : List (Str × V)), σ = [some (.ref a), some (.ref M), nv, vv] ∧ H' M = some (.dK (dk lm)) ∧ Al (Rc (fun b => H b = none ∧ b ≠ M) C H' n) lm (fs.take i) ∧ Fx M B H')
      ⟨none, none, [], rfl, eMB, .nil, Fx.refl⟩ ?_ ?_ ?_⟩
    · rintro i σ H' _ ⟨nv, vv, lm, _, _, _, x3⟩
      exact x3 _ _ aM eaB
    · rintro i x σ H' H2 hi ⟨nv, vv, lm, rfl, eM, ar, x3⟩ ⟨Tp, x1, y1, rfl, hT, rfl, hx1, hy1⟩
      have hi2 : i < l.length := by
        rw [dk_len] at hi
        exact hi
      obtain ⟨⟨x, v⟩, hx⟩ : ∃ p, l[i]? = some p := ⟨l[i], List.getElem?_eq_getElem hi2⟩
      have hd : (dk l)[i]? = some (Sum.inr x, v) := by
        unfold dk
        rw [List.getElem?_map, hx]
        rfl
      have hx2 : ((dk l)[i]?).map (fun kv => kV kv.1) = some x1 := hx1
      have hy2 : ((dk l)[i]?).map Prod.snd = some y1 := hy1
      rw [hd] at hx2 hy2
      cases hx2
      cases hy2
      obtain ⟨u, hu2, ru⟩ := Lw.Al.at alB hx
      have eT : (upd H' Tp (.tup [kV (Sum.inr x), v])) Tp = some (.tup [kV (Sum.inr x), v]) := upd_same
      have x4 : Fx M B (upd H' Tp (.tup [kV (Sum.inr x), v])) := x3.new hT
      have eM4 : (upd H' Tp (.tup [kV (Sum.inr x), v])) M = some (.dK (dk lm)) := by
        rw [upd_ne (ne_of_none eM hT)]
        exact eM
      have ar4 : Al (Rc (fun b => H b = none ∧ b ≠ M) C (upd H' Tp (.tup [kV (Sum.inr x), v])) n) lm (fs.take i) := ar.imp fun _ _ _ z => z.same (Same.new (Same.refl _) hT)
      generalize upd H' Tp (.tup [kV (Sum.inr x), v]) = H4 at eT x4 eM4 ar4 ⊢
      have gx : Good x := wf.gd (x, u) (List.mem_of_getElem? hu2)
      refine ⟨Tp, _, rfl, SqT.of eT, rfl, _, _, rfl, _, _, rfl, rfl, ?_⟩
      refine ⟨_, rfl, x, rfl, gx, fun H5 s5 => ⟨_, rfl, iteF ?_⟩⟩
      have x5 : Fx M B H5 := fun b o nb e => s5 _ _ (x4 b o nb e)
      have eM5 := s5 _ _ eM4
      have ar5 : Al (Rc (fun b => H b = none ∧ b ≠ M) C H5 n) lm (fs.take i) := ar4.imp fun _ _ _ z => z.same s5
      have ru5 : Tr (fun b => S b ∧ H b ≠ none) H5 40 n v u := ru.keep fun b kvs sb e => x5 b _ (fun z => sb.2 (by rw [z]; exact hM)) e
      have hno : x ∉ names lm := by
        rw [ar5.names]
        intro hm
        have e1 : names (fs.take i) = (names fs).take i := by simp [names, List.map_take]
        rw [e1] at hm
        obtain ⟨j, hj, ej⟩ := List.mem_take_iff_getElem.mp hm
        have e2 : (names fs)[i]? = some x := by rw [List.getElem?_map, hu2]; rfl
        have hi3 : i < (names fs).length := (List.getElem?_eq_some_iff.mp e2).1
        have e3 : (names fs)[i] = x := (List.getElem?_eq_some_iff.mp e2).2
        have := (List.getElem_inj wf.nd).mp (ej.trans e3.symm)
        omega
      have ndm : (names lm).Nodup := by
        rw [ar5.names]
        have e1 : names (fs.take i) = (names fs).take i := by simp [names, List.map_take]
        rw [e1]
        exact List.Nodup.sublist (List.take_sublist _ _) wf.nd
      have hml : (dk lm).length < sizeLine := by
        rw [dk_len, ar5.len, List.length_take]
        exact Nat.lt_of_lt_of_le (by omega : min i fs.length < 100) (line_big (by decide))
      have fin : ∀ (v' : V) (H6 : Hp), Rc (fun b => H b = none ∧ b ≠ M) C H6 n v' u → Same H5 H6 → ∃ H7, DPut H6 M (.str x) v' H7 ∧ ∃ lm', H7 M = some (.dK (dk lm')) ∧ Al (Rc (fun b => H b = none ∧ b ≠ M) C H7 n) lm' (fs.take (i + 1)) ∧ Fx M B H7 := by
        intro v' H6 r6 s6
        have eM6 := s6 _ _ eM5
        refine ⟨_, DPut.k (k := Sum.inr x) eM6 hml, lm ++ [(x, v')], ?_, ?_, fun b o nb e => by rw [upd_ne nb]; exact s6 _ _ (x5 b o nb e)⟩
        · rw [upd_same, dk_put x v' lm ndm, put_new hno]
        · rw [List.take_add_one, hu2]
          exact Al.snoc (ar5.imp fun _ _ _ z => (z.same s6).keep fun b o sb e _ => by rw [upd_ne sb.2]; exact e) (r6.keep fun b o sb e _ => by rw [upd_ne sb.2]; exact e)
      refine ru5.cases (fun j e1 e2 => ?_) (fun k ca cl cfs en e1 e2 cs ce cw cal => ?_)
      · subst e1 e2
        obtain ⟨H7, dp, lm', g1, g2, g3⟩ := fin (.int j) H5 (Rc.int j) (Same.refl _)
        exact ⟨_, rfl, _, _, _, _, _, rfl, .ty _, .base (.int j), rfl, _, rfl, iteF ⟨_, rfl, _, rfl, _, rfl, M, H7, rfl, dp, _, _, lm', rfl, g1, g2, g3⟩⟩
      · subst en e1 e2
        refine ⟨_, rfl, _, _, _, _, _, rfl, .ty _, .base (.dK ce), rfl, _, rfl, iteT ⟨rfl, _, rfl, .ref ca, _, cfs, rfl, ru5, fun v' H6 r6 s6 => ?_⟩⟩
        obtain ⟨H7, dp, lm', g1, g2, g3⟩ := fin v' H6 (r6.wid fun b hb => by
          refine ⟨?_, fun z => by rw [z, eM5] at hb; cases hb⟩
          cases e : H b with
          | none => rfl
          | some o =>
            by_cases q : b = a
            · have h2 := x5 _ _ aM eaB
              rw [q, h2] at hb
              cases hb
            · have h2 := x5 b o (fun z => by rw [z, hM] at e; cases e) (sB b o e q)
              rw [h2] at hb
              cases hb) s6
        exact ⟨_, rfl, _, rfl, M, H7, rfl, dp, _, _, lm', rfl, g1, g2, g3⟩
    · rintro σ H' ⟨nv, vv, lm, rfl, eM, ar, x3⟩
      have ell : (dk l).length = fs.length := by rw [dk_len, al.len]
      rw [ell, List.take_length] at ar
      have eaL : H' a = some (.frz od (.dK (dk l))) := x3 _ _ aM eaB
      refine ⟨eaL, ?_⟩
      have sU : Same H (upd H' a (.dK (dk l))) := fun b o e => by
        by_cases z : b = a
        · rw [z, upd_same, ← ea, ← z, e]
        · rw [upd_ne z]
          exact x3 b o (fun y => by rw [y, hM] at e; cases e) (sB b o e z)
      have arU : Al (Rc (fun b => H b = none ∧ b ≠ M) C (upd H' a (.dK (dk l))) n) lm fs := ar.imp fun _ _ _ z => z.keep fun b o sb e _ => by
        rw [upd_ne (fun y => by rw [y, ea] at sb; cases sb.1)]
        exact e
      have eMU : (upd H' a (.dK (dk l))) M = some (.dK (dk lm)) := by
        rw [upd_ne aM.symm]
        exact eM
      generalize upd H' a (.dK (dk l)) = HU at sU arU eMU ⊢
      have hnm : names lm = names fs := arU.names
      refine ⟨_, rfl, fun x dx hx hdx hne => ?_⟩
      have eX : (upd (upd HU dx (.own x)) x (.ins C dx [])) x = some (.ins C dx []) := upd_same
      have sX : Same HU (upd (upd HU dx (.own x)) x (.ins C dx [])) := Same.new (Same.new (Same.refl _) hdx) (by rw [upd_ne hne.symm]; exact hx)
      have nX : ∀ b, (upd (upd HU dx (.own x)) x (.ins C dx [])) b = none → HU b = none := fun b h => sX.free h
      generalize upd (upd HU dx (.own x)) x (.ins C dx []) = HX at eX sX nX ⊢
      have arX : Al (Rc (fun b => H b = none ∧ b ≠ M) C HX n) lm fs := arU.imp fun _ _ _ z => z.same sX
      refine ⟨x, dx, M, lm, szf fs, rfl, eX, sX _ _ eMU, by rw [hnm]; exact wf.nd, by rw [arX.len]; exact hfl, fun y v hv => ?_, fun l' H'' ra pm lk fx => ?_⟩
      · obtain ⟨u, hu2, ru⟩ := arX.get' hv
        have := Rc.sz ru
        unfold szf
        rw [hu2]
        exact this
      · refine ⟨rfl, q _ _ (.inr ⟨x, l', fs, rfl, rfl, ?_, wf, by rw [← hnm]; exact pm, fun y v u h1 h2 => ?_⟩) fun b o e => ?_⟩
        · have ez : (lm.length : Int) + ((names lm).map (szf fs)).sum = nfs fs := by
            rw [hnm, arX.len]
            exact nfs_len wf.nd
          rw [ez] at ra
          refine ra.wid fun b hb => ?_
          rcases hb with e | e
          · rw [e]
            exact sU.free hx
          · exact sU.free (nX b e)
        · rw [lk] at h1
          obtain ⟨u', h3, r3⟩ := arU.get' h1
          have e : u' = u := Option.some.inj (h3.symm.trans h2)
          subst e
          exact (r3.keep fun b o sb e _ => fx b o (fun z => by rw [z, hx] at e; cases e) (sX _ _ e)).wid fun b hb => hb.1
        · exact fx b o (fun z => by rw [z, sU.free hx] at e; cases e) (sX _ _ (sU _ _ e))
theorem s_make_step (T : Bu mg) (R : RecK K mg C) (D : StK K C) (I : InK K C) (c_value_size : Cal P w K mg base 3 "value_size" (spVs C)) (c_is_name : Cal P w K mg base 1 "is_name" spIsName) (n : Nat)
    (c_make : SCal P w K mg base C (n + 5) (spMakeR C n)) : SCal P w K mg base C (n + 6) (spMake C n) := by
  obtain ⟨pD, g, fd, mD, F, bD⟩ := D.ex
  exact ⟨pD, g, fd, _, mD, fn_make_step T R mD F bD I c_value_size c_is_name n c_make, bD⟩
theorem fn_make {pD g : Addr} {fd : FuncData} (T : Bu mg) (R : RecK K mg C) (mD : SMet K C (.type "type") "make" pD g) (F : L2.Fun K "make" "Record.make" sMake g fd) (bD : Binds K fd ["fields"] []) (I : InK K C) (c_value_size : Cal P w K mg base 3 "value_size" (spVs C)) (c_is_name : Cal P w K mg base 1 "is_name" spIsName) : ∀ n, FnOk P w K mg base CX0 (n + 6) g fd ["fields"] (spMake C n)
  | 0 => fn_make_step T R mD F bD I c_value_size c_is_name 0 (s_no ⟨pD, g, fd, mD, F, bD⟩)
  | n + 1 => fn_make_step T R mD F bD I c_value_size c_is_name (n + 1) ⟨pD, g, fd, _, mD, fn_make T R mD F bD I c_value_size c_is_name n, bD⟩
end
end Lw
namespace Lw
open PySem PySem.Spec PyProof.Rows L2 GrT GrOwn
theorem op_or {X : Cx} {op : Value → Value → Sem Value} {r1 r2 : R2} (h1 : OpR X op r1) (h2 : OpR X op r2) : OpR X op (fun x y H Q => r1 x y H Q ∨ r2 x y H Q) := by
  intro pins s σ H x y v u Q I rx ry h
  rcases h with h | h
  · exact h1 pins s σ H x y v u Q I rx ry h
  · exact h2 pins s σ H x y v u Q I rx ry h
theorem dint {i j : Int} : decide (V.int i = V.int j) = decide (i = j) := by simp
section
variable {P : Program} {w : World} {K : PySem.W.Frag} {mg : Str → Option Value} {base : Heap} {C : Addr}
theorem s_make (T : Bu mg) (R : RecK K mg C) (D : StK K C) (I : InK K C) (c_value_size : Cal P w K mg base 3 "value_size" (spVs C)) (c_is_name : Cal P w K mg base 1 "is_name" spIsName) : ∀ n, SCal P w K mg base C (n + 6) (spMake C n)
  | 0 => s_make_step T R D I c_value_size c_is_name 0 (s_no D)
  | n + 1 => s_make_step T R D I c_value_size c_is_name (n + 1) (s_make T R D I c_value_size c_is_name n)
theorem c_fields (T : Bt mg) (D : Dfn K mg "_law_fields" sFields ["tape", "names", "depth"]) (ct : Cal P w K mg base 1 "_law_take" spTake) (cn : Cal P w K mg base 2 "_law_number" spNumber) : ∀ n, Cal P w K mg base (n + 4) "_law_fields" (spFields n)
  | 0 => c_fields_step T D ct cn 0 (c_no D scFields)
  | n + 1 => c_fields_step T D ct cn (n + 1) (c_fields T D ct cn n)
theorem c_count (T : Bu mg) (D : Dfn K mg "_law_count" sCount ["value"]) : ∀ n, Cal P w K mg base (n + 2) "_law_count" (spCount n)
  | 0 => c_count_step T D 0 (c_no D scCount)
  | n + 1 => c_count_step T D (n + 1) (c_count T D n)
end
end Lw
namespace Lw
open PySem PySem.Spec PyProof.Rows L2 GrT GrOwn
def spTold (C : Addr) (n : Nat) : Sp := fun vs H Q _ => ∃ (v u : V) (S S' : Addr → Prop) (t : T), vs = [v, u] ∧ Rc S C H n v t ∧ Tr S' H 40 n u t ∧ ∀ H', Same H H' → Q (.bl true) H'
def spToldR (C : Addr) : Nat → Sp
  | 0 => spNo
  | n + 1 => spTold C n
section
variable {P : Program} {w : World} {K : PySem.W.Frag} {mg : Str → Option Value} {base : Heap} {C : Addr}
theorem scTold : FnScope ["record", "plain", "names", "name"] ["record", "plain"] (defScope sTold) := ⟨rfl, rfl, rfl, by decide +kernel, rfl, by decide +kernel, by decide +kernel⟩
theorem dp_strs {H : Hp} : ∀ ys : List Str, DpAll K H (ys.map V.str) (ys.map PyData.str)
  | [] => .nil
  | y :: r => .cons (.str y) (dp_strs r)
theorem lay_strs : ∀ {ys : List Str}, (∀ y ∈ ys, Good y) → PyData.canLayAll0 (ys.map PyData.str) = true
  | [], _ => rfl
  | y :: r, h => by
    have ih := lay_strs (ys := r) fun z hz => h z (List.mem_cons_of_mem _ hz)
    rw [List.map_cons, PyData.canLayAll0, ih, Bool.and_true, PyData.canLay0]
    show y.cps.all (fun c => decide (c < 0x110000)) = true
    rw [← Array.all_toList, List.all_eq_true]
    intro c hc
    have := (h y List.mem_cons_self).2.2 c hc
    exact decide_eq_true (by have := this.2; omega)
theorem dep_strs : ∀ {ys : List Str}, PyData.depthAll (ys.map PyData.str) = 0
  | [] => rfl
  | y :: r => by
    rw [List.map_cons, PyData.depthAll, dep_strs (ys := r)]
    rfl
theorem shaped_strs {ys : List Str} (h : ∀ y ∈ ys, Good y) : SeqAt.shaped (.list (ys.map PyData.str)) = true := by
  unfold SeqAt.shaped
  rw [PyData.canLay0, lay_strs h, PyData.depth, dep_strs]
  rfl
theorem eqv_strs {ys : List Str} (h : ∀ y ∈ ys, Good y) : PyData.eqv (.list (ys.map PyData.str)) (.list (ys.map PyData.str)) = true :=
  PySem.SeqAt.eqv_refl _ (by rw [PyData.canLay0]; exact lay_strs h)
theorem c_told_step (T : Bu mg) (R : RecK K mg C) (pr : PrK K C) (m_len : Mth P w K mg base C 1 "__len__" (spLen C)) (m_contains : Mth P w K mg base C 1 "__contains__" (spContains C)) (m_get : Mth P w K mg base C 1 "__getitem__" (spGet C))
    (c_law_is_integer : Cal P w K mg base 1 "_law_is_integer" spIsInt) (c_law_sorted : Cal P w K mg base 1 "_law_sorted" spSorted) (D : Dfn K mg "_law_told" sTold ["record", "plain"]) (n : Nat)
    (c_law_count : Cal P w K mg base (n + 2) "_law_count" (spCount n)) (c_law_told : Cal P w K mg base (n + 3) "_law_told" (spToldR C n)) : Cal P w K mg base (n + 4) "_law_told" (spTold C n) := by
  refine D.cal scTold (fun vs H Q E h => ?_) (fun f cdv A outer s H vs Q E hr h => ?_)
  · obtain ⟨v, u, S, S', t, rfl, _⟩ := h
    rfl
  · obtain ⟨v, u, S, S', t, rfl, rv, ru, q⟩ := h
    have hu := hu_of hr
    have hu64 := hr.units
    refine ⟨_, (pss_cons (ps_if (pt_not (pt_val (pe_callB call_isi (by rfl) T.b_isinstance bo_isinstance (pa_cons (pv 1) (pa_cons (pe_bltn (by rfl) T.b_dict bo_dict (v := .ty "dict") rfl) pa_nil)))))
      (pss_one (ps_ret (pe_and (pe_c c_law_is_integer hr (by omega) rfl (pa_cons (pv 0) pa_nil)) (pe_one (pe_cmpR op_eq (pv 0) (pv 1) (nomark _))))))
      pss_nil)
      (pss_cons (ps_set (i := 2) scTold.nd rfl (Or.inl rfl) (pe_c c_law_sorted hr (by omega) rfl (pa_cons (pv 1) pa_nil)))
      (pss_cons (ps_if (PW.pt (pw_or (pt_not (pt_val (pe_callB call_isi (by rfl) T.b_isinstance bo_isinstance (pa_cons (pv 0) (pa_cons (pe_glob (by rfl) R.mgC (v := .ref C) rfl) pa_nil))))) (pw_or1 (pt_not (pt_val (pe_callB call_isi (by rfl) T.b_isinstance bo_isinstance (pa_cons (pe_fld (pv 0) rfl) (pa_cons (pe_bltn (by rfl) T.b_tuple bo_tuple (v := .ty "tuple") rfl) pa_nil))))))))
      (pss_one (ps_ret pe_bl))
      pss_nil)
      (pss_cons (ps_if (PW.pt (pw_or (pt_cmpR (op_neD hu64) (pe_callTy call_list_of (by rfl) T.b_list bo_list (pa_cons (pe_fld (pv 0) rfl) pa_nil)) (pv 2) (nomark _)) (pw_or1 (pt_cmpR op_ne (pe_callB (call_lenM m_len hr (by omega)) (by rfl) T.b_len PySem.boot_len (pa_cons (pv 0) pa_nil)) (pe_callB call_len_seq (by rfl) T.b_len PySem.boot_len (pa_cons (pv 2) pa_nil)) (nomark _)))))
      (pss_one (ps_ret pe_bl))
      pss_nil)
      (pss_cons (ps_if (PW.pt (pw_or (pt_not (pt_val (pe_c c_law_is_integer hr (by omega) rfl (pa_cons (pe_sizeK R pr hr (by omega) (pv 0) rfl) pa_nil)))) (pw_or1 (pt_cmpR op_ne (pe_sizeK R pr hr (by omega) (pv 0) rfl) (pe_c c_law_count hr (by omega) rfl (pa_cons (pv 1) pa_nil)) (nomark _)))))
      (pss_one (ps_ret pe_bl))
      pss_nil)
      (pss_cons (ps_for PassesOwn.never rfl (pi_list (pv 2)) (pg_name (i := 3) scTold.nd rfl (Or.inl rfl))
      (pss_one (ps_if (PW.pt (pw_or (pt_cmpR (op_notInM m_contains hr (by omega)) (pv 3) (pv 0) (by rfl)) (pw_or1 (pt_not (pt_val (pe_c c_law_told hr (by omega) rfl (pa_cons (pe_ixM m_get hr (by omega) (pv 0) (pv 3)) (pa_cons (pe_dget hu (pv 1) (pv 3) (fun _ _ => rfl)) pa_nil))))))))
      (pss_one (ps_ret pe_bl))
      pss_nil)))
      (pss_one (ps_ret pe_bl)))))))), ?_⟩
    refine rv.cases (fun i e1 e2 => ?_) (fun k a l fs en e1 e2 ra wf pm ch => ?_)
    · subst e1 e2
      refine ru.cases (fun j e1 e2 => ?_) (fun _ _ _ _ _ _ e2 => by cases e2)
      cases e2
      subst e1
      exact ⟨_, rfl, _, _, _, _, _, rfl, .ty _, .base (.int i), rfl, _, rfl, iteT ⟨_, rfl, i, rfl, _, rfl, iteT ⟨_, rfl, _, rfl, rfl, by rw [dint, decide_eq_true rfl]; exact q H (Same.refl H)⟩⟩⟩
    · subst e1 e2 en
      refine ru.cases (fun j e1 e2 => by cases e2) (fun k' b m gs en e1 e2 sb eb wg ag => ?_)
      cases en
      cases e2
      subst e1
      obtain ⟨⟨dx, tp, d, _, ea, et, _⟩, la, lso⟩ := id ra
      have gy : ∀ y ∈ names l, Good y := fun y hy => by
        obtain ⟨p, hp, e⟩ := List.mem_map.mp (pm.mem_iff.mp hy)
        rw [← e]
        exact wf.gd p hp
      refine ⟨_, rfl, _, _, _, _, _, rfl, .ty _, .base (.dK eb), rfl, _, rfl, iteF ?_⟩
      have hln : fs.length ≤ 40 := wf.ln
      refine ⟨_, rfl, b, m, rfl, eb, by rw [ag.len]; omega, fun ys W H1 pw so eW hW s1 => ?_⟩
      have hys : ys = names l := sorted_one so lso (pw.trans (by rw [ag.names]; exact pm.symm))
      subst hys
      have ea1 := s1 _ _ ea
      have et1 := s1 _ _ et
      refine ⟨_, rfl, _, _, _, _, _, rfl, .own C, R.ty ea1, R.kRC, _, rfl, iteF ⟨_, rfl, a, C, dx, _, _, rfl, ea1, R.cl, R.nN, rf_names _ _ _, _, _, _, _, _, rfl, .ty _, .base (.tup et1), rfl, _, rfl, iteF ?_⟩⟩
      refine ⟨_, rfl, a, C, dx, _, _, rfl, ea1, R.cl, R.nN, rf_names _ _ _, tp, _, rfl, .inr (SqT.of et1), fun W2 hW2 => ?_⟩
      have s2 : Same H1 (upd H1 W2 (.lst ((names l).map V.str))) := Same.new (Same.refl _) hW2
      have eW2 : (upd H1 W2 (.lst ((names l).map V.str))) W2 = some (.lst ((names l).map V.str)) := upd_same
      have eW' := s2 _ _ eW
      generalize upd H1 W2 (.lst ((names l).map V.str)) = H2 at s2 eW2 eW' ⊢
      have s02 := s1.trans s2
      have ea2 := s02 _ _ ea
      have ra2 : RA S C H2 a l (nfs fs) := ra.keep fun b o _ e _ => s02 b o e
      refine ⟨_, rfl, _, _, .lst (SqL.of eW2) (dp_strs _), .lst (SqL.of eW') (dp_strs _), shaped_strs gy, shaped_strs gy, _, rfl, ?_⟩
      rw [eqv_strs gy]
      have hll : (names l).length = l.length := List.length_map _
      refine iteF ⟨_, rfl, a, dx, _, rfl, ea2, a, l, _, rfl, ra2.any, _, rfl, by omega, ?_, _, rfl, W, _, rfl, .inl (SqL.of eW'), rfl, _, rfl, ?_⟩
      · have : l.length ≤ 40 := by rw [← hll, pm.length_eq, List.length_map]; exact hln
        omega
      rw [show ((names l).map V.str).length = l.length by rw [List.length_map, hll], decide_eq_true rfl]
      refine iteF ?_
      refine ⟨_, rfl, a, dx, _, rfl, ea2, a, dx, tp, d, _, rfl, ea2, _, rfl, _, rfl, iteF ⟨_, rfl, a, dx, _, rfl, ea2, a, dx, tp, d, _, rfl, ea2, _, rfl, .ref b, S', .fds fs, rfl, Tr.same ru s02, fun H3 s3 => ⟨rfl, _, rfl, ?_⟩⟩⟩
      rw [show decide (V.int (nfs fs) = V.int (nf (.fds fs))) = true by rw [nf]; exact decide_eq_true rfl]
      refine iteF ?_
      have s03 := s02.trans s3
      have eW3 := s3 _ _ eW'
      refine ⟨_, rfl, W, rfl, ⟨_, SqL.of eW3⟩, for_it (walk_list (xs := (names l).map V.str)) (fun i σ H' => ∃ nv : Option V, σ = [some (.ref a), some (.ref b), some (.ref W), nv] ∧ Same H H' ∧ Same H3 H')
        ⟨none, rfl, s03, Same.refl _⟩ (fun i σ H' _ h => ?_) ?_ ?_⟩
      · obtain ⟨nv, _, _, h⟩ := h
        exact SqL.of (h _ _ eW3)
      · rintro i y σ H' H4 hi ⟨nv, rfl, h1, h2⟩ ⟨rfl, hy⟩
        obtain ⟨x, hx, rfl⟩ : ∃ x, (names l)[i]? = some x ∧ y = V.str x := by
          rw [List.getElem?_map] at hy
          cases e : (names l)[i]? with
          | none =>
            rw [e] at hy
            cases hy
          | some x =>
            rw [e] at hy
            exact ⟨x, rfl, (Option.some.inj hy).symm⟩
        have hxm : x ∈ names l := List.mem_of_getElem? hx
        obtain ⟨va, hva⟩ := look_some hxm
        obtain ⟨tx, htx⟩ := look_some (pm.mem_iff.mp hxm)
        obtain ⟨vb, hvb, rb⟩ := ag.get htx
        have ra4 : RA S C H4 a l (nfs fs) := ra.keep fun b o _ e _ => h1 b o e
        have ea4 := h1 _ _ ea
        have hdb := DGet.k (k := Sum.inr x) (h1 _ _ eb)
        rw [dk_val, hvb] at hdb
        refine ⟨_, rfl, _, rfl, a, dx, _, rfl, ea4, a, l, _, x, rfl, ra4.any, _, rfl, _, rfl, ?_⟩
        rw [hva]
        refine iteF ⟨_, rfl, _, rfl, a, dx, _, rfl, ea4, a, l, _, x, va, rfl, ra4.any, hva, _, rfl, _, rfl, b, vb, rfl, hdb, va, vb, S, S', tx, rfl, (ch x va tx hva htx).same h1, Tr.same rb h1, fun H5 s5 => ⟨_, rfl, iteF ?_⟩⟩
        exact ⟨_, rfl, h1.trans s5, h2.trans s5⟩
      · rintro σ H' ⟨nv, rfl, h1, h2⟩
        exact q _ h1
theorem c_told (T : Bu mg) (R : RecK K mg C) (pr : PrK K C) (m_len : Mth P w K mg base C 1 "__len__" (spLen C)) (m_contains : Mth P w K mg base C 1 "__contains__" (spContains C)) (m_get : Mth P w K mg base C 1 "__getitem__" (spGet C))
    (ci : Cal P w K mg base 1 "_law_is_integer" spIsInt) (cs : Cal P w K mg base 1 "_law_sorted" spSorted) (D : Dfn K mg "_law_told" sTold ["record", "plain"]) (DC : Dfn K mg "_law_count" sCount ["value"]) : ∀ n, Cal P w K mg base (n + 4) "_law_told" (spTold C n)
  | 0 => c_told_step T R pr m_len m_contains m_get ci cs D 0 (c_count T DC 0) (c_no D scTold)
  | n + 1 => c_told_step T R pr m_len m_contains m_get ci cs D (n + 1) (c_count T DC (n + 1)) (c_told T R pr m_len m_contains m_get ci cs D DC n)
end
end Lw
namespace GrT
open PySem L2
/-- alike up to the order of the fields -/
def Sm : Nat → T → T → Prop
  | 0, t, u => ∃ i, t = .int i ∧ u = .int i
  | n + 1, t, u => (∃ i, t = .int i ∧ u = .int i) ∨ ∃ fs gs, t = .fds fs ∧ u = .fds gs ∧ (names fs).Nodup ∧ (names fs).Perm (names gs) ∧ ∀ x v w, look x fs = some v → look x gs = some w → Sm n v w
end GrT
namespace Lw
open PySem PySem.Spec PyProof.Rows L2 GrT GrOwn
theorem Sm.nf : ∀ {n : Nat} {t u : T}, Sm n t u → GrT.nf t = GrT.nf u
  | 0, _, _, ⟨i, e1, e2⟩ => by rw [e1, e2]
  | n + 1, t, u, h => by
    rcases h with ⟨i, e1, e2⟩ | ⟨fs, gs, e1, e2, nd, pm, ch⟩
    · rw [e1, e2]
    · rw [e1, e2, GrT.nf, GrT.nf]
      have nd2 : (names gs).Nodup := pm.nodup_iff.mp nd
      rw [← nfs_len nd, ← nfs_len nd2]
      have hl : fs.length = gs.length := by
        have := pm.length_eq
        rwa [List.length_map, List.length_map] at this
      have hs : ((names fs).map (szf fs)).sum = ((names fs).map (szf gs)).sum := by
        congr 1
        refine List.map_congr_left fun x hx => ?_
        obtain ⟨v, hv⟩ := look_some hx
        obtain ⟨w, hw⟩ := look_some (pm.mem_iff.mp hx)
        unfold szf
        rw [hv, hw]
        exact Sm.nf (ch x v w hv hw)
      rw [hs, sum_perm pm, hl]
theorem Rc.sim {S : Addr → Prop} {C : Addr} {H : Hp} : ∀ {n : Nat} {v : V} {t u : T}, Rc S C H n v t → Sm n t u → Rc S C H n v u
  | 0, v, t, u, ⟨i, e1, e2⟩, ⟨j, f1, f2⟩ => by
    rw [e2] at f1
    cases f1
    exact ⟨i, e1, f2⟩
  | n + 1, v, t, u, h, g => by
    rcases h with ⟨i, e1, e2⟩ | ⟨a, l, fs, e1, e2, ra, wf, pm, ch⟩
    · rcases g with ⟨j, f1, f2⟩ | ⟨_, _, f1, _⟩
      · rw [e2] at f1
        cases f1
        exact .inl ⟨i, e1, f2⟩
      · rw [e2] at f1
        cases f1
    · have hn := Sm.nf g
      rcases g with ⟨j, f1, f2⟩ | ⟨fs', gs, f1, f2, nd, pg, cg⟩
      · rw [e2] at f1
        cases f1
      · rw [e2] at f1
        cases f1
        rw [e2, f2, GrT.nf, GrT.nf] at hn
        rw [hn] at ra
        have hl : fs.length = gs.length := by
          have := pg.length_eq
          rwa [List.length_map, List.length_map] at this
        refine .inr ⟨a, l, gs, e1, f2, ra, ⟨pg.nodup_iff.mp nd, by rw [← hl]; exact wf.ln, fun p hp => ?_⟩, pm.trans pg, fun x v w h1 h2 => ?_⟩
        · obtain ⟨q, hq, e⟩ := List.mem_map.mp (pg.mem_iff.mpr (List.mem_map.mpr ⟨p, hp, rfl⟩))
          rw [← e]
          exact wf.gd q hq
        · obtain ⟨u', hu⟩ := look_some (pg.mem_iff.mpr (List.mem_map.mpr ⟨_, look_mem h2, rfl⟩))
          exact (ch x v u' h1 hu).sim (cg x u' w hu h2)
theorem put_any {α : Type} {x : Str} {v : α} : ∀ {l : List (Str × α)}, x ∉ names l → GrT.put x v l = l ++ [(x, v)]
  | [], _ => rfl
  | (y, u) :: r, h => by
    rw [GrT.put, if_neg (fun z => h (by rw [← z]; exact List.mem_cons_self)), put_any fun z => h (List.mem_cons_of_mem _ z)]
    rfl
theorem look_snoc {α : Type} {x z : Str} {v : α} {l : List (Str × α)} (h : x ∉ names l) : look z (l ++ [(x, v)]) = if z = x then some v else look z l := by
  rw [← put_any h, look_put]
def spTurned (n : Nat) : Sp := fun vs H Q _ => ∃ (v : V) (S : Addr → Prop) (t : T), vs = [v] ∧ Tr S H 20 n v t ∧ ∀ v' t' H', Tr (fun b => H b = none) H' 20 n v' t' → Sm n t' t → Same H H' → Q v' H'
def spTurnedR : Nat → Sp
  | 0 => spNo
  | n + 1 => spTurned n
section
variable {P : Program} {w : World} {K : PySem.W.Frag} {mg : Str → Option Value} {base : Heap} {C : Addr}
theorem Sm.int {n : Nat} (i : Int) : Sm n (.int i) (.int i) := by
  cases n with
  | zero => exact ⟨i, rfl, rfl⟩
  | succ n => exact .inl ⟨i, rfl, rfl⟩
abbrev sTurn : Stmt := top 24
theorem scTurn : FnScope ["value", "fields", "name"] ["value"] (defScope sTurn) := ⟨rfl, rfl, rfl, by decide +kernel, rfl, by decide +kernel, by decide +kernel⟩
theorem c_turned_step (T : Bu mg) (br : mg "reversed" = none) (D : Dfn K mg "_law_turned" sTurn ["value"]) (n : Nat) (c_law_turned : Cal P w K mg base (n + 1) "_law_turned" (spTurnedR n)) : Cal P w K mg base (n + 2) "_law_turned" (spTurned n) := by
  refine D.cal scTurn (fun vs H Q E h => ?_) (fun f cdv A outer s H vs Q E hr h => ?_)
  · obtain ⟨v, S, t, rfl, _⟩ := h
    rfl
  · obtain ⟨v, S, t, rfl, tr, q⟩ := h
    have hu := hu_of hr
    refine ⟨_, (pss_cons (ps_if (pt_not (pt_val (pe_callB call_isi (by rfl) T.b_isinstance bo_isinstance (pa_cons (pv 0) (pa_cons (pe_bltn (by rfl) T.b_dict bo_dict (v := .ty "dict") rfl) pa_nil)))))
      (pss_one (ps_ret (pv 0)))
      pss_nil)
      (pss_cons (ps_set (i := 1) scTurn.nd rfl (Or.inl rfl) pe_dnewK)
      (pss_cons (ps_for PassesOwn.never rfl (pi_reversed (by rfl) br (pa_cons (pe_callTy (call_listD rfl) (by rfl) T.b_list bo_list (pa_cons (pv 0) pa_nil)) pa_nil)) (pg_name (i := 2) scTurn.nd rfl (Or.inl rfl))
      (pss_one (ps_dput hu (pv 1) (pv 2) (pe_c c_law_turned hr (by omega) rfl (pa_cons (pe_dget hu (pv 0) (pv 2) (fun _ _ => rfl)) pa_nil)) rfl)))
      (pss_one (ps_ret (pv 1)))))), ?_⟩
    refine tr.cases (fun i e1 e2 => ?_) (fun k a l fs en e1 e2 sa ea wf al => ?_)
    · subst e1 e2
      exact ⟨_, rfl, _, _, _, _, _, rfl, .ty _, .base (.int i), rfl, _, rfl, iteT ⟨_, rfl, q _ _ H (Tr.int i) (Sm.int i) (Same.refl _)⟩⟩
    · subst en e1 e2
      refine ⟨_, rfl, _, _, _, _, _, rfl, .ty _, .base (.dK ea), rfl, _, rfl, iteF ?_⟩
      intro D hD
      have s0 : Same H (upd H D (.dK [])) := Same.new (Same.refl _) hD
      have eD0 : (upd H D (.dK [])) D = some (.dK (dk [])) := upd_same
      generalize upd H D (.dK []) = H0 at s0 eD0 ⊢
      refine ⟨_, rfl, a, dk l, rfl, .inl (s0 _ _ ea), fun W hW => ?_⟩
      have kn : (dk l).map (fun kv => kV kv.1) = (names l).map V.str := by
        unfold dk names
        rw [List.map_map, List.map_map]
        rfl
      rw [kn]
      have s1 : Same H (upd H0 W (.lst ((names l).map V.str))) := Same.new s0 hW
      have eW : (upd H0 W (.lst ((names l).map V.str))) W = some (.lst ((names l).map V.str)) := upd_same
      have eD1 : (upd H0 W (.lst ((names l).map V.str))) D = some (.dK (dk [])) := by
        rw [upd_ne (ne_of_none eD0 hW)]
        exact eD0
      have WD : W ≠ D := (ne_of_none eD0 hW).symm
      generalize upd H0 W (.lst ((names l).map V.str)) = H1 at s1 eW eD1 ⊢
      have hfl : fs.length ≤ 20 := wf.ln
      have nll : (names l).length = fs.length := by rw [al.names, List.length_map]
      have rl : (names fs).reverse.length = fs.length := by rw [List.length_reverse, List.length_map]
      refine ⟨W, _, rfl, SqL.of eW, for_it (walk_rev (xs := (names l).map V.str)) (fun i σ H' => ∃ (nv : Option V) (lm : List (Str × V)) (fm : List (Str × GrT.T)), σ = [some (.ref a), some (.ref D), nv] ∧ H' D = some (.dK (dk lm)) ∧ H' W = some (.lst ((names l).map V.str)) ∧
          Al (Tr (fun b => H b = none ∧ b ≠ D) H' 20 k) lm fm ∧ names fm = (names fs).reverse.take i ∧ (∀ x v w, look x fm = some v → look x fs = some w → Sm k v w) ∧ Same H H')
        ⟨none, [], [], rfl, eD1, eW, .nil, rfl, (fun x v w h => by cases h), s1⟩ (fun i σ H' _ h => ?_) ?_ ?_⟩
      · obtain ⟨nv, lm, fm, _, _, h, _⟩ := h
        exact SqL.of h
      · rintro i y σ H' H2 hi ⟨nv, lm, fm, rfl, eD, eW', ar, nm, sm, sH⟩ ⟨rfl, hy⟩
        rw [List.length_map, nll] at hi hy
        obtain ⟨x, hx, rfl⟩ : ∃ x, (names l)[fs.length - 1 - i]? = some x ∧ y = V.str x := by
          rw [List.getElem?_map] at hy
          cases e : (names l)[fs.length - 1 - i]? with
          | none =>
            rw [e] at hy
            cases hy
          | some x =>
            rw [e] at hy
            exact ⟨x, rfl, (Option.some.inj hy).symm⟩
        rw [al.names] at hx
        have hrx : (names fs).reverse[i]? = some x := by
          rw [List.getElem?_reverse (by rw [List.length_map]; exact hi), List.length_map]
          exact hx
        have hxm : x ∈ names fs := List.mem_of_getElem? hx
        obtain ⟨u, hu2⟩ := look_some hxm
        obtain ⟨v', hv', rv⟩ := al.get hu2
        have gx : Good x := wf.gd (x, u) (look_mem hu2)
        have hg := DGet.k (k := Sum.inr x) (sH _ _ ea)
        rw [dk_val, hv'] at hg
        refine ⟨_, rfl, _, rfl, a, v', rfl, hg, v', S, u, rfl, Tr.same rv sH, fun w' t' H5 r5 m5 s5 => ?_⟩
        have r6 : Tr (fun b => H b = none ∧ b ≠ D) H5 20 k w' t' := r5.wid fun b hb => ⟨sH.free hb, fun z => by rw [z, eD] at hb; cases hb⟩
        have eD5 := s5 _ _ eD
        have ar5 : Al (Tr (fun b => H b = none ∧ b ≠ D) H5 20 k) lm fm := ar.imp fun _ _ _ z => Tr.same z s5
        have hno : x ∉ names fm := fun hm => by
          rw [nm] at hm
          obtain ⟨j, hj, ej⟩ := List.mem_take_iff_getElem.mp hm
          have hi3 : i < (names fs).reverse.length := (List.getElem?_eq_some_iff.mp hrx).1
          have e3 : (names fs).reverse[i] = x := (List.getElem?_eq_some_iff.mp hrx).2
          have ndr : (names fs).reverse.Nodup := (List.reverse_perm _).nodup_iff.mpr wf.nd
          have := (List.getElem_inj ndr).mp (ej.trans e3.symm)
          omega
        have hnl : x ∉ names lm := by
          rw [ar5.names]
          exact hno
        have ndm : (names lm).Nodup := by
          rw [ar5.names, nm]
          exact ((List.reverse_perm _).nodup_iff.mpr wf.nd).sublist (List.take_sublist _ _)
        have hml : (dk lm).length < sizeLine := by
          have h1 : fm.length ≤ 20 := by
            have z := congrArg List.length nm
            rw [List.length_map, List.length_take, rl] at z
            omega
          rw [dk_len, ar5.len]
          exact Nat.lt_of_lt_of_le (by omega : fm.length < 100) (line_big (by decide))
        refine ⟨_, rfl, _, rfl, D, _, rfl, DPut.k (k := Sum.inr x) eD5 hml, _, lm ++ [(x, w')], fm ++ [(x, t')], rfl, ?_, ?_, ?_, ?_, ?_, ?_⟩
        · rw [upd_same, dk_put x w' lm ndm, put_new hnl]
        · rw [upd_ne WD]
          exact s5 _ _ eW'
        · exact Al.snoc (ar5.imp fun _ _ _ z => z.keep fun b kvs sb e => by rw [upd_ne sb.2]; exact e) (r6.keep fun b kvs sb e => by rw [upd_ne sb.2]; exact e)
        · rw [List.take_add_one, hrx, ← nm]
          simp [names]
        · intro z v w h1 h2
          by_cases ez : z = x
          · rw [ez] at h1 h2
            rw [hu2] at h2
            cases h2
            have e0 : look x (fm ++ [(x, t')]) = some t' := by rw [look_snoc hno, if_pos rfl]
            rw [e0] at h1
            cases h1
            exact m5
          · rw [look_snoc hno, if_neg ez] at h1
            exact sm z v w h1 h2
        · intro b o e
          rw [upd_ne (ne_of_none e hD)]
          exact s5 _ _ (sH b o e)
      · rintro σ H' ⟨nv, lm, fm, rfl, eD, eW', ar, nm, sm, sH⟩
        rw [List.length_map, nll, ← rl, List.take_length] at nm
        have hfm : fm.length = fs.length := by
          have z := congrArg List.length nm
          rwa [List.length_map, rl] at z
        have ndf : (names fm).Nodup := by
          rw [nm]
          exact (List.reverse_perm _).nodup_iff.mpr wf.nd
        refine ⟨_, rfl, q _ (.fds fm) H' (.inr ⟨D, lm, fm, rfl, rfl, hD, eD, ⟨ndf, by omega, fun p hp => ?_⟩, ar.imp fun _ _ _ z => z.wid fun b h => h.1⟩) (.inr ⟨fm, fs, rfl, rfl, ndf, by rw [nm]; exact List.reverse_perm _, sm⟩) sH⟩
        have h1 : p.1 ∈ names fs := List.mem_reverse.mp (by rw [← nm]; exact List.mem_map.mpr ⟨p, hp, rfl⟩)
        obtain ⟨q2, hq, e⟩ := List.mem_map.mp h1
        rw [← e]
        exact wf.gd q2 hq
end
end Lw
namespace Lw
open PySem PySem.Spec PyProof.Rows L2 GrT GrOwn
/-- the fields stand in ascending order on every level -/
def Srt : Nat → T → Prop
  | 0, _ => True
  | n + 1, t => ∀ fs, t = .fds fs → sortedS (names fs) = true ∧ ∀ x v, look x fs = some v → Srt n v
def spPT (n : Nat) : Sp := fun vs H Q _ => ∃ (v u : V) (S S' : Addr → Prop) (t' t : T), vs = [v, u] ∧ Tr S H 40 n v t' ∧ Tr S' H 40 n u t ∧ (∀ b, S b → ¬ S' b) ∧ Sm n t' t ∧ Srt n t' ∧ ∀ H', Same H H' → Q (.bl true) H'
def spPTR : Nat → Sp
  | 0 => spNo
  | n + 1 => spPT n
abbrev sPlainTold : Stmt := top 29
section
variable {P : Program} {w : World} {K : PySem.W.Frag} {mg : Str → Option Value} {base : Heap} {C : Addr}
theorem scPlainTold : FnScope ["told", "plain", "name"] ["told", "plain"] (defScope sPlainTold) := ⟨rfl, rfl, rfl, by decide +kernel, rfl, by decide +kernel, by decide +kernel⟩
theorem c_plain_told_step (T : Bu mg) (c_law_is_integer : Cal P w K mg base 1 "_law_is_integer" spIsInt) (c_law_sorted : Cal P w K mg base 1 "_law_sorted" spSorted) (D : Dfn K mg "_law_plain_told" sPlainTold ["told", "plain"]) (n : Nat)
    (c_law_plain_told : Cal P w K mg base (n + 1) "_law_plain_told" (spPTR n)) : Cal P w K mg base (n + 2) "_law_plain_told" (spPT n) := by
  refine D.cal scPlainTold (fun vs H Q E h => ?_) (fun f cdv A outer s H vs Q E hr h => ?_)
  · obtain ⟨v, u, S, S', t', t, rfl, _⟩ := h
    rfl
  · obtain ⟨v, u, S, S', t', t, rfl, rv, ru, ds, sm, so, q⟩ := h
    have hu := hu_of hr
    have hu64 := hr.units
    refine ⟨_, (pss_cons (ps_if (pt_not (pt_val (pe_callB call_isi (by rfl) T.b_isinstance bo_isinstance (pa_cons (pv 1) (pa_cons (pe_bltn (by rfl) T.b_dict bo_dict (v := .ty "dict") rfl) pa_nil)))))
      (pss_one (ps_ret (pe_and (pe_c c_law_is_integer hr (by omega) rfl (pa_cons (pv 0) pa_nil)) (pe_one (pe_cmpR op_eq (pv 0) (pv 1) (nomark _))))))
      pss_nil)
      (pss_cons (ps_if (PW.pt (pw_or (pt_not (pt_val (pe_callB call_isi (by rfl) T.b_isinstance bo_isinstance (pa_cons (pv 0) (pa_cons (pe_bltn (by rfl) T.b_dict bo_dict (v := .ty "dict") rfl) pa_nil))))) (pw_or1 (pt_cmpR (op_neD hu64) (pe_callTy (call_listD rfl) (by rfl) T.b_list bo_list (pa_cons (pv 0) pa_nil)) (pe_c c_law_sorted hr (by omega) rfl (pa_cons (pv 1) pa_nil)) (nomark _)))))
      (pss_one (ps_ret pe_bl))
      pss_nil)
      (pss_cons (ps_lock (ps_for PassesOwn.never rfl (pi_keys (pv 1)) (pg_name (i := 2) scPlainTold.nd rfl (Or.inl rfl))
      (pss_one (ps_if (pt_not (pt_val (pe_c c_law_plain_told hr (by omega) rfl (pa_cons (pe_dget hu (pv 0) (pv 2) (fun _ _ => rfl)) (pa_cons (pe_dget hu (pv 1) (pv 2) (fun _ _ => rfl)) pa_nil)))))
      (pss_one (ps_ret pe_bl))
      pss_nil))))
      (pss_one (ps_ret pe_bl))))), ?_⟩
    refine ru.cases (fun i e1 e2 => ?_) (fun k b m gs en e1 e2 sb eb wg ag => ?_)
    · subst e1 e2
      refine rv.cases (fun j e1 e2 => ?_) (fun _ _ _ _ en e1 e2 => ?_)
      · subst e1 e2
        have hji : j = i := by
          cases n with
          | zero =>
            obtain ⟨z, f1, f2⟩ := sm
            cases f1
            cases f2
            rfl
          | succ n =>
            rcases sm with ⟨z, f1, f2⟩ | ⟨_, _, f1, _⟩
            · cases f1
              cases f2
              rfl
            · cases f1
        subst hji
        exact ⟨_, rfl, _, _, _, _, _, rfl, .ty _, .base (.int j), rfl, _, rfl, iteT ⟨_, rfl, j, rfl, _, rfl, iteT ⟨_, rfl, _, rfl, rfl, by rw [dint, decide_eq_true rfl]; exact q H (Same.refl H)⟩⟩⟩
      · subst en e1 e2
        rcases sm with ⟨z, f1, f2⟩ | ⟨_, _, f1, f2, _⟩
        · cases f1
        · cases f2
    · subst en e1 e2
      refine rv.cases (fun j e1 e2 => ?_) (fun k' a l fs en e1 e2 sa ea wf al => ?_)
      · subst e1 e2
        rcases sm with ⟨z, f1, f2⟩ | ⟨_, _, f1, f2, _⟩
        · cases f2
        · cases f1
      cases en
      subst e1 e2
      have sm' : (names fs).Nodup ∧ (names fs).Perm (names gs) ∧ ∀ x v w, look x fs = some v → look x gs = some w → Sm k v w := by
        rcases sm with ⟨z, f1, f2⟩ | ⟨_, _, f1, f2, h⟩
        · cases f1
        · cases f1
          cases f2
          exact h
      obtain ⟨ndf, pm, ch⟩ := sm'
      obtain ⟨sof, soc⟩ := so fs rfl
      refine ⟨_, rfl, _, _, _, _, _, rfl, .ty _, .base (.dK eb), rfl, _, rfl, iteF ?_⟩
      have gy : ∀ y ∈ names fs, Good y := fun y hy => by
        obtain ⟨p, hp, e⟩ := List.mem_map.mp hy
        rw [← e]
        exact wf.gd p hp
      have nl : names l = names fs := al.names
      have hgl : gs.length ≤ 40 := wg.ln
      refine ⟨_, rfl, _, _, _, _, _, rfl, .ty _, .base (.dK ea), rfl, _, rfl, iteF ⟨_, rfl, a, dk l, rfl, .inl ea, fun W2 hW2 => ?_⟩⟩
      have kn : (dk l).map (fun kv => kV kv.1) = (names l).map V.str := by
        unfold dk names
        rw [List.map_map, List.map_map]
        rfl
      rw [kn, nl]
      have s1 : Same H (upd H W2 (.lst ((names fs).map V.str))) := Same.new (Same.refl _) hW2
      have eW2 : (upd H W2 (.lst ((names fs).map V.str))) W2 = some (.lst ((names fs).map V.str)) := upd_same
      generalize upd H W2 (.lst ((names fs).map V.str)) = H1 at s1 eW2 ⊢
      refine ⟨_, rfl, b, m, rfl, s1 _ _ eb, by rw [ag.len]; omega, fun ys W H2 pw sy eW hW s2 => ?_⟩
      have hys : ys = names fs := sorted_one sy sof (pw.trans (by rw [ag.names]; exact pm.symm))
      subst hys
      refine ⟨_, _, .lst (SqL.of (s2 _ _ eW2)) (dp_strs _), .lst (SqL.of eW) (dp_strs _), shaped_strs gy, shaped_strs gy, _, rfl, ?_⟩
      rw [eqv_strs gy]
      refine iteF ?_
      have s02 := s1.trans s2
      have eb2 := s02 _ _ eb
      have ea2 := s02 _ _ ea
      have ba : b ≠ a := fun z => ds a sa (by rw [← z]; exact sb)
      refine ⟨b, .dK (dk m), eb2, True.intro, fun od => ?_⟩
      have ebB : (upd H2 b (.frz od (.dK (dk m)))) b = some (.frz od (.dK (dk m))) := upd_same
      have eaB : (upd H2 b (.frz od (.dK (dk m)))) a = some (.dK (dk l)) := by
        rw [upd_ne ba.symm]
        exact ea2
      have agB : Al (Tr S' (upd H2 b (.frz od (.dK (dk m)))) 40 k) m gs := al_away sb eb2 wg (ag.imp fun _ _ _ z => Tr.same z s02) (.frz od (.dK (dk m)))
      have alB : Al (Tr S (upd H2 b (.frz od (.dK (dk m)))) 40 k) l fs := al.imp fun _ _ _ z => (Tr.same z s02).keep fun c kvs sc e => by
        rw [upd_ne (fun z => ds c sc (by rw [z]; exact sb))]
        exact e
      refine ⟨_, rfl, b, od, rfl, .inl ⟨_, ebB, for_it walk_keys (fun i σ H' => ∃ nv : Option V, σ = [some (.ref a), some (.ref b), nv] ∧ Same (upd H2 b (.frz od (.dK (dk m)))) H')
        ⟨none, rfl, Same.refl _⟩ (fun i σ H' _ h => ?_) ?_ ?_⟩⟩
      · obtain ⟨nv, _, h⟩ := h
        exact h _ _ ebB
      · rintro i y σ H' H3 hi ⟨nv, rfl, h1⟩ ⟨rfl, k', v', hk, rfl⟩
        obtain ⟨x, rfl, hx⟩ := dk_at hk
        have ndm : (names m).Nodup := by
          rw [ag.names]
          exact wg.nd
        have hlm : look x m = some v' := mem_look ndm (List.mem_of_getElem? hx)
        obtain ⟨tx, htx, rb⟩ := agB.get' hlm
        obtain ⟨ux, hux⟩ := look_some (x := x) (l := fs) (pm.mem_iff.mpr (List.mem_map.mpr ⟨_, look_mem htx, rfl⟩))
        obtain ⟨va, hva, ra⟩ := alB.get hux
        have hda := DGet.k (k := Sum.inr x) (h1 _ _ eaB)
        rw [dk_val, hva] at hda
        refine ⟨_, rfl, _, rfl, a, va, rfl, hda, _, rfl, _, rfl, b, v', rfl, .inl ⟨dk m, Sum.inr x, .inr ⟨od, h1 _ _ ebB⟩, rfl, by rw [dk_val, hlm]⟩, va, v', S, S', ux, tx, rfl, Tr.same ra h1, Tr.same rb h1, ds, ch x ux tx hux htx, soc x ux hux, fun H5 s5 => ⟨_, rfl, iteF ?_⟩⟩
        exact ⟨_, rfl, h1.trans s5⟩
      · rintro σ H' ⟨nv, rfl, h1⟩
        refine ⟨h1 _ _ ebB, ?_⟩
        exact q _ (s02.trans (Same.unlock eb2 h1))
end
end Lw
namespace Lw
open PySem PySem.Spec PyProof.Rows L2 GrT GrOwn
theorem SzV.one {C : Addr} {H : Hp} {v : V} {z y : Int} (h : SzV C H v z) (g : SzV C H v y) : z = y := by
  rcases h with ⟨i, e, e1⟩ | ⟨a, dx, tp, d, e, e1⟩
  · rcases g with ⟨j, f, f1⟩ | ⟨b, dy, tq, c, f, f1⟩
    · rw [e1, f1]
    · rw [e] at f
      cases f
  · rcases g with ⟨j, f, f1⟩ | ⟨b, dy, tq, c, f, f1⟩
    · rw [e] at f
      cases f
    · rw [e] at f
      cases f
      rw [e1] at f1
      have h3 := HO.ins.inj (Option.some.inj f1)
      have h4 : (rf tp d z).lookup ("_size" : Str) = (rf tq c y).lookup ("_size" : Str) := by rw [h3.2.2]
      rw [rf_size, rf_size] at h4
      cases h4
      rfl
theorem nfs_one {C : Addr} {H : Hp} {l : List (Str × V)} {fs gs : List (Str × T)} (nf1 : (names fs).Nodup) (p1 : (names l).Perm (names fs)) (p2 : (names l).Perm (names gs))
    (c1 : ∀ x v u, look x l = some v → look x fs = some u → SzV C H v (nf u)) (c2 : ∀ x v u, look x l = some v → look x gs = some u → SzV C H v (nf u)) : nfs fs = nfs gs := by
  have pm : (names fs).Perm (names gs) := p1.symm.trans p2
  have nd2 : (names gs).Nodup := pm.nodup_iff.mp nf1
  rw [← nfs_len nf1, ← nfs_len nd2]
  have hl : fs.length = gs.length := by
    have := pm.length_eq
    rwa [List.length_map, List.length_map] at this
  have hs : ((names fs).map (szf fs)).sum = ((names fs).map (szf gs)).sum := by
    congr 1
    refine List.map_congr_left fun x hx => ?_
    obtain ⟨v, hv⟩ := look_some hx
    obtain ⟨w, hw⟩ := look_some (pm.mem_iff.mp hx)
    obtain ⟨u, hu⟩ := look_some (p1.mem_iff.mpr hx)
    unfold szf
    rw [hv, hw]
    exact (c1 x u v hu hv).one (c2 x u w hu hw)
  rw [hs, sum_perm pm, hl]
mutual
theorem nf_nn : ∀ t : T, 0 ≤ nf t
  | .int _ => by rw [nf]; exact Int.le_refl 0
  | .fds fs => by rw [nf]; exact nfs_nn fs
theorem nfs_nn : ∀ fs : List (Str × T), 0 ≤ nfs fs
  | [] => by rw [nfs]; exact Int.le_refl 0
  | (x, t) :: r => by
    have h1 := nf_nn t
    have h2 := nfs_nn r
    rw [nfs]
    omega
end
theorem nf_child {x : Str} {u : T} : ∀ {fs : List (Str × T)}, look x fs = some u → nf u < nfs fs
  | [], h => by cases h
  | (y, t) :: r, h => by
    have h1 := nf_nn t
    have h2 := nfs_nn r
    rw [nfs]
    by_cases q : y = x
    · rw [look, if_pos q] at h
      cases h
      omega
    · rw [look, if_neg q] at h
      have := nf_child h
      omega
/-- what is smaller than the record whose fields' dict is d does not reach d -/
theorem Rc.away {S : Addr → Prop} {C d : Addr} {H : Hp} {l : List (Str × V)} {z : Int} (ed : H d = some (.dK (dk l)))
    (hz : ∀ gs, (names gs).Nodup → (names l).Perm (names gs) → (∀ x v u, look x l = some v → look x gs = some u → SzV C H v (nf u)) → nfs gs = z) (o : HO) : ∀ {n : Nat} {v : V} {t : T}, Rc S C H n v t → nf t < z → Rc S C (upd H d o) n v t
  | 0, _, _, h, _ => h
  | n + 1, v, t, h, hs => by
    rcases h with h | ⟨a, m, fs, e1, e2, ra, wf, pm, ch⟩
    · exact .inl h
    · rw [e2, nf] at hs
      obtain ⟨⟨dx, tp, c, ss, f1, f2, f3⟩, nd, so⟩ := ra
      have ha : a ≠ d := fun q => by
        rw [q, ed] at f1
        cases f1
      have ht : tp ≠ d := fun q => by
        rw [q, ed] at f2
        cases f2
      have hc : c ≠ d := fun q => by
        rw [q, ed] at f3
        have hm : dk l = dk m := HO.dK.inj (Option.some.inj f3)
        have hlm : l = m := by
          apply dk_inj hm
        subst hlm
        have := hz fs wf.nd pm fun x v u h1 h2 => (ch x v u h1 h2).sz
        omega
      refine .inr ⟨a, m, fs, e1, e2, ⟨⟨dx, tp, c, ss, by rw [upd_ne ha]; exact f1, by rw [upd_ne ht]; exact f2, by rw [upd_ne hc]; exact f3⟩, nd, so⟩, wf, pm, fun x v u h1 h2 => Rc.away ed hz o (ch x v u h1 h2) ?_⟩
      have := nf_child h2
      omega
end Lw
namespace Lw
open PySem PySem.Spec PyProof.Rows L2 GrT GrOwn
/-- a method that is called by its name -/
structure MthK (P : Program) (w : World) (K : PySem.W.Frag) (mg : Str → Option Value) (base : Heap) (CX : CXT) (C : Addr) (k : Nat) (x : Str) (sp : Sp) : Prop where
  ex : ∃ (f : Addr) (fd : FuncData) (ps : List Str), FnOk P w K mg base CX k f fd ps sp ∧ Meth K C x f ∧ Binds K fd ps []
structure DfK (K : PySem.W.Frag) (C : Addr) (x q : Str) (st : Stmt) (ps : List Str) : Prop where
  ex : ∃ f fd, Meth K C x f ∧ L2.Fun K x q st f fd ∧ Binds K fd ps []
section
variable {X : Cx} {CX : CXT} {C : Addr} {k j : Nat} {sp : Sp} {E : XK} {x : Str} {o e : Expr} {es : List Expr} {pos apos : Pos} {ta : TE} {t : TA} {pl : Sem Bool}
theorem pe_mK0 (R : RecK X.K X.mg C) (c : MthK X.prog X.w X.K X.mg X.base CX C k x sp) (hr : Room j X.A) (hk : k ≤ j) (hx : Passes CX X E) (he : PE X o ta)
    (ht : eval (.Call (.Attribute o x apos) [] [] pos) X.env = (do
      let ov ← eval o X.env
      standAt apos.atName
      let (f, first) ← holding [ov] (getMethod ov x pl)
      callWith pos f first (backTo pos (starEach [] X.env)) (backToKw pos (keywordEach [] X.env))) := by rfl) :
    PE X (.Call (.Attribute o x apos) [] [] pos) (tMeth C x sp [] E ta tNil) := by
  obtain ⟨f, fd, ps, F, m, b⟩ := c.ex
  exact pe_meth0 he R.cl m F (hr.mono hk) b .nil hx ht
end
abbrev sPlain : Stmt := inClass (top 11) 4
def spPlain (C : Addr) (n : Nat) : Sp := fun vs H Q _ => ∃ (a : Addr) (S : Addr → Prop) (fs : List (Str × T)), vs = [.ref a] ∧ Rc S C H (n + 1) (.ref a) (.fds fs) ∧ ∀ v' t' H', Tr (fun b => H b = none) H' 40 (n + 1) v' t' → Sm (n + 1) t' (.fds fs) → Srt (n + 1) t' → Same H H' → Q v' H'
def spPlainR (C : Addr) : Nat → Sp
  | 0 => spNo
  | n + 1 => spPlain C n
theorem rf_no {x : Str} (h1 : x ≠ ("_size" : Str)) (h2 : x ≠ ("_fields" : Str)) (h3 : x ≠ ("names" : Str)) (t d : Addr) (z : Int) : (rf t d z).lookup x = none := by
  unfold rf
  rw [lookup_putF, if_neg h1, lookup_putF, if_neg h2, lookup_putF, if_neg h3]
  rfl
theorem RA.exs {S : Addr → Prop} {C : Addr} {H : Hp} {a : Addr} {l : List (Str × V)} {z : Int} (r : RA S C H a l z) : RA (fun b => S b ∧ H b ≠ none) C H a l z := by
  obtain ⟨⟨dx, tp, d, ⟨s1, s2, s3⟩, e1, e2, e3⟩, n, s⟩ := r
  exact ⟨⟨dx, tp, d, ⟨⟨s1, by rw [e1]; exact fun z => by cases z⟩, ⟨s2, by rw [e2]; exact fun z => by cases z⟩, ⟨s3, by rw [e3]; exact fun z => by cases z⟩⟩, e1, e2, e3⟩, n, s⟩
theorem Rc.exs {S : Addr → Prop} {C : Addr} {H : Hp} : ∀ {n : Nat} {v : V} {t : T}, Rc S C H n v t → Rc (fun b => S b ∧ H b ≠ none) C H n v t
  | 0, _, _, h => h
  | n + 1, v, t, h => by
    rcases h with h | ⟨a, l, fs, e1, e2, e3, e4, e5, e6⟩
    · exact .inl h
    · exact .inr ⟨a, l, fs, e1, e2, e3.exs, e4, e5, fun x v u h1 h2 => Rc.exs (e6 x v u h1 h2)⟩
section
variable {P : Program} {w : World} {K : PySem.W.Frag} {mg : Str → Option Value} {base : Heap} {C : Addr}
theorem scPlain : FnScope ["self", "told", "name", "value"] ["self"] (defScope sPlain) := ⟨rfl, rfl, rfl, by decide +kernel, rfl, by decide +kernel, by decide +kernel⟩
theorem m_plain_step (T : Bu mg) (R : RecK K mg C) (D : DfK K C "plain" "Record.plain" sPlain ["self"]) (n : Nat) (c_plain : MthK P w K mg base CX0 C (n + 1) "plain" (spPlainR C n)) : MthK P w K mg base CX0 C (n + 2) "plain" (spPlain C n) := by
  obtain ⟨g, fd, mD, F, bD⟩ := D.ex
  refine ⟨g, fd, _, F.ok scPlain (fun vs H Q E h => ?_) (fun cdv A outer s H vs Q E hr h => ?_), mD, bD⟩
  · obtain ⟨a, S, fs, rfl, _⟩ := h
    rfl
  · obtain ⟨a, S, fs, rfl, rc, q⟩ := h
    have hu := hu_of hr
    refine ⟨_, (pss_cons (ps_set (i := 1) scPlain.nd rfl (Or.inl rfl) pe_dnewK)
      (pss_cons (ps_lock (ps_for PassesOwn.never rfl (pi_items (pe_fld (pv 0) rfl)) (pg_tup rfl (pgs_cons (pg_name (i := 2) scPlain.nd rfl (Or.inl rfl)) (pgs_cons (pg_name (i := 3) scPlain.nd rfl (Or.inl rfl)) pgs_nil)))
      (pss_one (ps_dput hu (pv 1) (pv 2) (pe_ifExp (pt_val (pe_callB call_isi (by rfl) T.b_isinstance bo_isinstance (pa_cons (pv 3) (pa_cons (pe_glob (by rfl) R.mgC (v := .ref C) rfl) pa_nil)))) (pe_mK0 R c_plain hr (by omega) pass0 (pv 3)) (pv 3)) rfl))))
      (pss_one (ps_ret (pv 1))))), ?_⟩
    refine rc.cases (fun i e _ => by cases e) (fun k a' l fs' en e1 e2 ra wf pm ch => ?_)
    cases en
    cases e1
    cases e2
    obtain ⟨⟨dx, tp, d, _, ea, et, ed⟩, nl, so⟩ := ra
    have ll : l.length = fs.length := by
      have := pm.length_eq
      rwa [List.length_map, List.length_map] at this
    have hfl : fs.length ≤ 40 := wf.ln
    intro M hM
    have s1 : Same H (upd H M (.dK [])) := Same.new (Same.refl _) hM
    have dM : d ≠ M := ne_of_none ed hM
    have ea1 := s1 _ _ ea
    have ed1 := s1 _ _ ed
    have eM1 : (upd H M (.dK [])) M = some (.dK (dk [])) := upd_same
    have ch1 : ∀ x v u, look x l = some v → look x fs = some u → Rc (fun b => S b ∧ H b ≠ none) C (upd H M (.dK [])) n v u := fun x v u h1 h2 => (ch x v u h1 h2).exs.same s1
    generalize upd H M (.dK []) = H1 at s1 ea1 ed1 eM1 ch1 ⊢
    refine ⟨d, .dK (dk l), ed1, True.intro, fun od => ?_⟩
    have ad : a ≠ d := fun z => by
      rw [z, ed] at ea
      cases ea
    have chB : ∀ x v u, look x l = some v → look x fs = some u → Rc (fun b => S b ∧ H b ≠ none) C (upd H1 d (.frz od (.dK (dk l)))) n v u := fun x v u h1 h2 =>
      Rc.away (z := nfs fs) ed1 (fun gs ng pg cg => (nfs_one wf.nd pm pg (fun x v u h1 h2 => (ch1 x v u h1 h2).sz) cg).symm) _ (ch1 x v u h1 h2) (nf_child h2)
    have eaB : (upd H1 d (.frz od (.dK (dk l)))) a = some (.ins C dx (rf tp d (nfs fs))) := by
      rw [upd_ne ad]
      exact ea1
    have eMB : (upd H1 d (.frz od (.dK (dk l)))) M = some (.dK (dk [])) := by
      rw [upd_ne dM.symm]
      exact eM1
    have edB : (upd H1 d (.frz od (.dK (dk l)))) d = some (.frz od (.dK (dk l))) := upd_same
    have nB : ∀ b, (upd H1 d (.frz od (.dK (dk l)))) b = none → H b = none := fun b hb => by
      by_cases z : b = d
      · rw [z, upd_same] at hb
        cases hb
      · rw [upd_ne z] at hb
        exact s1.free hb
    have sU0 : ∀ H', Fx M (upd H1 d (.frz od (.dK (dk l)))) H' → Same H (upd H' d (.dK (dk l))) := fun H' x b o e => by
      by_cases z : b = d
      · rw [z, upd_same, ← ed, ← z, e]
      · rw [upd_ne z]
        exact x b o (fun y => by rw [y, hM] at e; cases e) (by rw [upd_ne z]; exact s1 _ _ e)
    generalize upd H1 d (.frz od (.dK (dk l))) = B at chB eaB eMB edB nB sU0 ⊢
    refine ⟨_, rfl, a, C, dx, _, _, rfl, eaB, R.cl, R.nF, rf_fields _ _ _, d, od, dk l, rfl, edB, for_it walk_items (fun i σ H' => ∃ (nv vv : Option V) (lm : List (Str × V)) (fm : List (Str × GrT.T)), σ = [some (.ref a), some (.ref M), nv, vv] ∧ H' M = some (.dK (dk lm)) ∧
        Al (Tr (fun b => H b = none ∧ b ≠ M) H' 40 n) lm fm ∧ names fm = (names l).take i ∧ (∀ x v w, look x fm = some v → look x fs = some w → GrT.Sm n v w ∧ Srt n v) ∧ Fx M B H')
      ⟨none, none, [], [], rfl, eMB, .nil, rfl, (fun x v w h => by cases h), Fx.refl⟩ (fun i σ H' _ h => ?_) ?_ ?_⟩
    · obtain ⟨nv, vv, lm, fm, _, _, _, _, _, h⟩ := h
      exact h _ _ dM edB
    · rintro i y σ H' H2 hi ⟨nv, vv, lm, fm, rfl, eM, ar, nm, sm, x3⟩ ⟨Tp, x1, y1, rfl, hT, rfl, hx1, hy1⟩
      have hi2 : i < l.length := by
        rw [dk_len] at hi
        exact hi
      obtain ⟨⟨x, v⟩, hx⟩ : ∃ p, l[i]? = some p := ⟨l[i], List.getElem?_eq_getElem hi2⟩
      have hd : (dk l)[i]? = some (Sum.inr x, v) := by
        unfold dk
        rw [List.getElem?_map, hx]
        rfl
      have hx2 : ((dk l)[i]?).map (fun kv => kV kv.1) = some x1 := hx1
      have hy2 : ((dk l)[i]?).map Prod.snd = some y1 := hy1
      rw [hd] at hx2 hy2
      cases hx2
      cases hy2
      have eT : (upd H' Tp (.tup [kV (Sum.inr x), v])) Tp = some (.tup [kV (Sum.inr x), v]) := upd_same
      have x4 : Fx M B (upd H' Tp (.tup [kV (Sum.inr x), v])) := x3.new hT
      have s4 : Same H' (upd H' Tp (.tup [kV (Sum.inr x), v])) := Same.new (Same.refl _) hT
      have eM4 := s4 _ _ eM
      have ar4 : Al (Tr (fun b => H b = none ∧ b ≠ M) (upd H' Tp (.tup [kV (Sum.inr x), v])) 40 n) lm fm := ar.imp fun _ _ _ z => Tr.same z s4
      generalize upd H' Tp (.tup [kV (Sum.inr x), v]) = H4 at eT x4 eM4 ar4 ⊢
      refine ⟨Tp, _, rfl, SqT.of eT, rfl, _, _, rfl, _, _, rfl, rfl, ?_⟩
      have hlx : look x l = some v := mem_look nl (List.mem_of_getElem? hx)
      obtain ⟨u, hu2⟩ := look_some (pm.mem_iff.mp (List.mem_map.mpr ⟨_, List.mem_of_getElem? hx, rfl⟩))
      have ru : Rc (fun b => S b ∧ H b ≠ none) C H4 n v u := (chB x v u hlx hu2).keep fun b o sb e r => x4 b o (fun z => sb.2 (by rw [z]; exact hM)) e
      have hno : x ∉ names fm := by
        rw [nm]
        intro hm
        obtain ⟨j, hj, ej⟩ := List.mem_take_iff_getElem.mp hm
        have e2 : (names l)[i]? = some x := by rw [List.getElem?_map, hx]; rfl
        have hi3 : i < (names l).length := (List.getElem?_eq_some_iff.mp e2).1
        have e3 : (names l)[i] = x := (List.getElem?_eq_some_iff.mp e2).2
        have := (List.getElem_inj nl).mp (ej.trans e3.symm)
        omega
      have hnol : x ∉ names lm := by
        rw [ar4.names]
        exact hno
      have ndm : (names lm).Nodup := by
        rw [ar4.names, nm]
        exact List.Nodup.sublist (List.take_sublist _ _) nl
      have hml : (dk lm).length < sizeLine := by
        have : fm.length = (names fm).length := (List.length_map _).symm
        rw [dk_len, ar4.len, this, nm, List.length_take, List.length_map]
        exact Nat.lt_of_lt_of_le (by omega : min i l.length < 100) (line_big (by decide))
      have fin : ∀ (v' : V) (t' : GrT.T) (H6 : Hp), Tr (fun b => H b = none ∧ b ≠ M) H6 40 n v' t' → GrT.Sm n t' u → Srt n t' → Same H4 H6 → ∃ H7, DPut H6 M (.str x) v' H7 ∧ ∃ lm' fm', H7 M = some (.dK (dk lm')) ∧
          Al (Tr (fun b => H b = none ∧ b ≠ M) H7 40 n) lm' fm' ∧ names fm' = (names l).take (i + 1) ∧ (∀ x v w, look x fm' = some v → look x fs = some w → GrT.Sm n v w ∧ Srt n v) ∧ Fx M B H7 := by
        intro v' t' H6 r6 m6 o6 s6
        have eM6 := s6 _ _ eM4
        refine ⟨_, DPut.k (k := Sum.inr x) eM6 hml, lm ++ [(x, v')], fm ++ [(x, t')], ?_, ?_, ?_, fun z v w h1 h2 => ?_, fun b o nb e => by rw [upd_ne nb]; exact s6 _ _ (x4 b o nb e)⟩
        · rw [upd_same, dk_put x v' lm ndm, put_new hnol]
        · exact Al.snoc (ar4.imp fun _ _ _ z => (Tr.same z s6).keep fun b o sb e => by rw [upd_ne sb.2]; exact e) (r6.keep fun b o sb e => by rw [upd_ne sb.2]; exact e)
        · have e2 : (names l)[i]? = some x := by rw [List.getElem?_map, hx]; rfl
          rw [List.take_add_one, e2, ← nm]
          unfold names
          rw [List.map_append]
          rfl
        · rw [look_snoc hno] at h1
          split at h1
          · rename_i q
            cases h1
            rw [q, hu2] at h2
            cases h2
            exact ⟨m6, o6⟩
          · exact sm z v w h1 h2
      refine ru.cases (fun j e1 e2 => ?_) (fun k ca cl cfs en e1 e2 cra cwf cpm cch => ?_)
      · subst e1 e2
        obtain ⟨H7, dp, lm', fm', g⟩ := fin (.int j) (.int j) H4 (Tr.int j) (Sm.int j) (by
          cases n with
          | zero => exact True.intro
          | succ n => exact fun fs e => by cases e) (Same.refl _)
        exact ⟨_, rfl, _, _, _, _, _, rfl, .own C, .base (.int j), R.kI, _, rfl, iteF ⟨_, rfl, _, rfl, _, rfl, M, H7, rfl, dp, _, _, lm', fm', rfl, g⟩⟩
      · subst en e1 e2
        obtain ⟨⟨cx, ctp, cd, _, ce, _, _⟩, _, _⟩ := id cra
        refine ⟨_, rfl, _, _, _, _, _, rfl, .own C, R.ty ce, R.kRC, _, rfl, iteT ⟨_, rfl, ca, cx, _, rfl, ce, rf_no (by decide) (by decide) (by decide) _ _ _, ca, _, cfs, rfl, ru, fun v' t' H6 r6 m6 o6 s6 => ?_⟩⟩
        obtain ⟨H7, dp, lm', fm', g⟩ := fin v' t' H6 (r6.wid fun b hb => by
          refine ⟨?_, fun z => by rw [z, eM4] at hb; cases hb⟩
          cases e : B b with
          | none => exact nB b e
          | some o =>
            by_cases q : b = M
            · rw [q]
              exact hM
            · have := x4 b o q e
              rw [hb] at this
              cases this) m6 o6 s6
        exact ⟨_, rfl, _, rfl, M, H7, rfl, dp, _, _, lm', fm', rfl, g⟩
    · rintro σ H' ⟨nv, vv, lm, fm, rfl, eM, ar, nm, sm, x3⟩
      have edL : H' d = some (.frz od (.dK (dk l))) := x3 _ _ dM edB
      refine ⟨edL, ?_⟩
      have sU := sU0 H' x3
      have eMU : (upd H' d (.dK (dk l))) M = some (.dK (dk lm)) := by
        rw [upd_ne dM.symm]
        exact eM
      have arU : Al (Tr (fun b => H b = none ∧ b ≠ M) (upd H' d (.dK (dk l))) 40 n) lm fm := ar.imp fun _ _ _ z => z.keep fun b kvs sb e => by
        rw [upd_ne (fun y => by rw [y, ed] at sb; cases sb.1)]
        exact e
      rw [dk_len, List.take_of_length_le (by rw [List.length_map]; exact Nat.le_refl _)] at nm
      have nfm : (names fm).Nodup := by
        rw [nm]
        exact nl
      have lfm : fm.length = fs.length := by
        have : (names fm).length = (names l).length := by rw [nm]
        rw [List.length_map, List.length_map] at this
        omega
      refine ⟨_, rfl, q (.ref M) (.fds fm) _ (.inr ⟨M, lm, fm, rfl, rfl, hM, eMU, ⟨nfm, by omega, fun p hp => ?_⟩, arU.imp fun _ _ _ z => z.wid fun b hb => hb.1⟩) (.inr ⟨fm, fs, rfl, rfl, nfm, by rw [nm]; exact pm, fun x v w h1 h2 => (sm x v w h1 h2).1⟩) (fun f e => ?_) sU⟩
      · obtain ⟨p', hp', e⟩ := List.mem_map.mp (pm.mem_iff.mp (by rw [← nm]; exact List.mem_map.mpr ⟨p, hp, rfl⟩))
        rw [← e]
        exact wf.gd p' hp'
      · cases e
        refine ⟨by rw [nm]; exact so, fun x v h => ?_⟩
        obtain ⟨w', hw'⟩ := look_some (x := x) (l := fs) (pm.mem_iff.mp (by rw [← nm]; exact List.mem_map.mpr ⟨_, look_mem h, rfl⟩))
        exact (sm x v w' h hw').2
end
end Lw
namespace Lw
open PySem PySem.Spec PyProof.Rows L2 GrT GrOwn
/-- v is t: made of dicts (in S) and of records (in R) -/
def Mx (S R : Addr → Prop) (C : Addr) (H : Hp) : Nat → V → T → Prop
  | 0, v, t => ∃ i, v = .int i ∧ t = .int i
  | n + 1, v, t => (∃ i, v = .int i ∧ t = .int i) ∨ (∃ a l fs, v = .ref a ∧ t = .fds fs ∧ S a ∧ H a = some (.dK (dk l)) ∧ Wf 40 fs ∧ Al (Mx S R C H n) l fs) ∨ Rc R C H (n + 1) v t
theorem nf_mem {p : Str × T} : ∀ {fs : List (Str × T)}, p ∈ fs → nf p.2 < nfs fs
  | [], h => by cases h
  | (y, t) :: r, h => by
    have h1 := nf_nn t
    have h2 := nfs_nn r
    rw [nfs]
    rcases List.mem_cons.mp h with e | e
    · subst e
      show nf t < _
      omega
    · have := nf_mem e
      omega
theorem al_nfs {R1 R2 : V → T → Prop} (f : ∀ v t t', R1 v t → R2 v t' → nf t = nf t') : ∀ {l : List (Str × V)} {fs gs : List (Str × T)}, Al R1 l fs → Al R2 l gs → nfs fs = nfs gs
  | _, _, _, .nil, .nil => rfl
  | _, _, _, .cons (b := (x, t)) r h, .cons (b := (y, u)) r' h' => by
    rw [nfs, nfs, al_nfs f h h', f _ _ _ r.2 r'.2]
section
variable {S S' R R' : Addr → Prop} {C : Addr} {H H' : Hp}
theorem Rc.out' {n : Nat} {a : Addr} {fs : List (Str × T)} (h : Rc S C H (n + 1) (.ref a) (.fds fs)) : ∃ l, RA S C H a l (nfs fs) ∧ Wf 40 fs ∧ (names l).Perm (names fs) ∧ ∀ x v u, look x l = some v → look x fs = some u → Rc S C H n v u := by
  refine h.cases (fun i e _ => by cases e) fun k a' l fs' en e1 e2 ra wf pm ch => ?_
  cases en
  cases e1
  cases e2
  exact ⟨l, ra, wf, pm, ch⟩
theorem Mx.int {n : Nat} (i : Int) : Mx S R C H n (.int i) (.int i) := by
  cases n with
  | zero => exact ⟨i, rfl, rfl⟩
  | succ n => exact .inl ⟨i, rfl, rfl⟩
theorem Mx.cases {n : Nat} {v : V} {t : T} {P : Prop} (h : Mx S R C H n v t) (h1 : ∀ i, v = .int i → t = .int i → P)
    (h2 : ∀ k a l fs, n = k + 1 → v = .ref a → t = .fds fs → S a → H a = some (.dK (dk l)) → Wf 40 fs → Al (Mx S R C H k) l fs → P)
    (h3 : ∀ k a fs, n = k + 1 → v = .ref a → t = .fds fs → Rc R C H (k + 1) (.ref a) (.fds fs) → P) : P := by
  cases n with
  | zero =>
    obtain ⟨i, e1, e2⟩ := h
    exact h1 i e1 e2
  | succ k =>
    rcases h with ⟨i, e1, e2⟩ | ⟨a, l, fs, e1, e2, e3, e4, e5, e6⟩ | r
    · exact h1 i e1 e2
    · exact h2 k a l fs rfl e1 e2 e3 e4 e5 e6
    · refine id r |>.cases h1 fun k' a l fs en e1 e2 _ _ _ _ => ?_
      rw [e1, e2] at r
      exact h3 k a fs rfl e1 e2 r
theorem Mx.nf_one : ∀ {n m : Nat} {v : V} {t t' : T}, Mx S R C H n v t → Mx S R C H m v t' → nf t = nf t'
  | n, m, v, t, t', h, g => by
    induction n generalizing m v t t' with
    | zero =>
      obtain ⟨i, e1, e2⟩ := h
      refine g.cases (fun j f1 f2 => ?_) (fun _ _ _ _ _ f1 => by rw [e1] at f1; cases f1) (fun _ _ _ _ f1 => by rw [e1] at f1; cases f1)
      rw [e2, f2, nf, nf]
    | succ n ih =>
      refine h.cases (fun i e1 e2 => ?_) (fun k a l fs en e1 e2 _ ea _ al => ?_) (fun k a fs en e1 e2 r => ?_)
      · refine g.cases (fun j f1 f2 => ?_) (fun _ _ _ _ _ f1 => by rw [e1] at f1; cases f1) (fun _ _ _ _ f1 => by rw [e1] at f1; cases f1)
        rw [e2, f2, nf, nf]
      · cases en
        refine g.cases (fun j f1 f2 => by rw [e1] at f1; cases f1) (fun k' b m' gs _ f1 f2 _ eb _ ag => ?_) (fun k' b gs _ f1 f2 r' => ?_)
        · rw [e1] at f1
          cases f1
          rw [ea] at eb
          have hl : l = m' := dk_inj (HO.dK.inj (Option.some.inj eb))
          subst hl
          rw [e2, f2, nf, nf]
          exact al_nfs (fun v t t' h1 h2 => ih _ v t t' h1 h2) al ag
        · rw [e1] at f1
          cases f1
          obtain ⟨_, ⟨⟨_, _, _, _, q, _⟩, _, _⟩, _⟩ := Rc.out' r'
          rw [ea] at q
          cases q
      · cases en
        refine g.cases (fun j f1 f2 => by rw [e1] at f1; cases f1) (fun k' b m' gs _ f1 f2 _ eb _ ag => ?_) (fun k' b gs _ f1 f2 r' => ?_)
        · rw [e1] at f1
          cases f1
          obtain ⟨_, ⟨⟨_, _, _, _, q, _⟩, _, _⟩, _⟩ := Rc.out' r
          rw [eb] at q
          cases q
        · rw [e1] at f1
          cases f1
          rw [e2, f2]
          exact r.sz.one r'.sz
theorem mx_nfs {n m : Nat} {l : List (Str × V)} {fs gs : List (Str × T)} (h : Al (Mx S R C H n) l fs) (g : Al (Mx S R C H m) l gs) : nfs fs = nfs gs := al_nfs (fun _ _ _ a b => a.nf_one b) h g
theorem Mx.keep : ∀ {n : Nat} {v : V} {t : T}, Mx S R C H n v t → (∀ b o, S b ∨ R b → H b = some o → Ro o → H' b = some o) → Mx S R C H' n v t
  | 0, _, _, h, _ => h
  | n + 1, v, t, h, k => by
    rcases h with h | ⟨a, l, fs, e1, e2, es, e3, e4, e5⟩ | r
    · exact .inl h
    · exact .inr (.inl ⟨a, l, fs, e1, e2, es, k _ _ (.inl es) e3 True.intro, e4, e5.imp fun _ _ _ z => Mx.keep z k⟩)
    · exact .inr (.inr (r.keep fun b o rb e q => k b o (.inr rb) e q))
theorem Mx.same {n : Nat} {v : V} {t : T} (h : Mx S R C H n v t) (s : Same H H') : Mx S R C H' n v t := h.keep fun b o _ e _ => s b o e
theorem Mx.wid : ∀ {n : Nat} {v : V} {t : T}, Mx S R C H n v t → (∀ b, S b → S' b) → (∀ b, R b → R' b) → Mx S' R' C H n v t
  | 0, _, _, h, _, _ => h
  | n + 1, v, t, h, k, k' => by
    rcases h with h | ⟨a, l, fs, e1, e2, es, e3, e4, e5⟩ | r
    · exact .inl h
    · exact .inr (.inl ⟨a, l, fs, e1, e2, k _ es, e3, e4, e5.imp fun _ _ _ z => Mx.wid z k k'⟩)
    · exact .inr (.inr (r.wid k'))
theorem Mx.exs : ∀ {n : Nat} {v : V} {t : T}, Mx S R C H n v t → Mx (fun b => S b ∧ H b ≠ none) (fun b => R b ∧ H b ≠ none) C H n v t
  | 0, _, _, h => h
  | n + 1, v, t, h => by
    rcases h with h | ⟨a, l, fs, e1, e2, es, e3, e4, e5⟩ | r
    · exact .inl h
    · exact .inr (.inl ⟨a, l, fs, e1, e2, ⟨es, by rw [e3]; exact fun z => by cases z⟩, e3, e4, e5.imp fun _ _ _ z => Mx.exs z⟩)
    · exact .inr (.inr r.exs)
theorem Mx.away {a : Addr} {l : List (Str × V)} {z : Int} (dj : ∀ b, S b → ¬ R b) (sa : S a) (ea : H a = some (.dK (dk l))) (hz : ∀ m fs, Al (Mx S R C H m) l fs → nfs fs = z) (o : HO) : ∀ {n : Nat} {v : V} {t : T}, Mx S R C H n v t → nf t < z → Mx S R C (upd H a o) n v t
  | 0, _, _, h, _ => h
  | n + 1, v, t, h, hs => by
    rcases h with h | ⟨b, m, fs, e1, e2, es, e3, e4, e5⟩ | r
    · exact .inl h
    · rw [e2, nf] at hs
      have hb : b ≠ a := fun q => by
        rw [q, ea] at e3
        have hl : l = m := dk_inj (HO.dK.inj (Option.some.inj e3))
        subst hl
        have := hz _ _ e5
        omega
      refine .inr (.inl ⟨b, m, fs, e1, e2, es, by rw [upd_ne hb]; exact e3, e4, e5.imp fun p hp _ y => Mx.away dj sa ea hz o y ?_⟩)
      have := nf_mem hp
      omega
    · exact .inr (.inr (r.keep fun b o' rb e _ => by rw [upd_ne (fun q => dj a sa (by rw [← q]; exact rb))]; exact e))
end
def spMakeM (C : Addr) (n : Nat) : Sp := fun vs H Q _ => ∃ (a : Addr) (S R : Addr → Prop) (l : List (Str × V)) (fs : List (Str × T)), vs = [.ref a] ∧ S a ∧ H a = some (.dK (dk l)) ∧ Wf 40 fs ∧ Al (Mx S R C H n) l fs ∧ (∀ b, S b → ¬ R b) ∧
  ∀ v' H', Rc (fun b => R b ∨ H b = none) C H' (n + 1) v' (.fds fs) → Same H H' → Q v' H'
def spMakeMR (C : Addr) : Nat → Sp
  | 0 => spNo
  | n + 1 => spMakeM C n
section
variable {P : Program} {w : World} {K : PySem.W.Frag} {mg : Str → Option Value} {base : Heap} {C : Addr}
theorem fn_makeM_step (T : Bu mg) (R : RecK K mg C) {pD g : Addr} {fd : FuncData} (mD : SMet K C (.type "type") "make" pD g) (F : L2.Fun K "make" "Record.make" sMake g fd) (bD : Binds K fd ["fields"] []) (I : InK K C) (c_value_size : Cal P w K mg base 3 "value_size" (spVs C)) (c_is_name : Cal P w K mg base 1 "is_name" spIsName) (n : Nat)
    (c_make : SCal P w K mg base C (n + 5) (spMakeMR C n)) : FnOk P w K mg base CX0 (n + 6) g fd ["fields"] (spMakeM C n) := by
  refine F.ok scMake (fun vs H Q E h => ?_) (fun cdv A outer s H vs Q E hr h => ?_)
  · obtain ⟨a, S, Rr, l, fs, rfl, _⟩ := h
    rfl
  · obtain ⟨a, S, Rr, l, fs, rfl, sa, ea, wf, al, dj, q⟩ := h
    have hu := hu_of hr
    refine ⟨_, (pss_cons (ps_set (i := 1) scMake.nd rfl (Or.inl rfl) pe_dnewK)
      (pss_cons (ps_lock (ps_for PassesOwn.never rfl (pi_items (pv 0)) (pg_tup rfl (pgs_cons (pg_name (i := 2) scMake.nd rfl (Or.inl rfl)) (pgs_cons (pg_name (i := 3) scMake.nd rfl (Or.inl rfl)) pgs_nil)))
      (pss_cons (ps_if (pt_not (pt_val (pe_c c_is_name hr (by omega) rfl (pa_cons (pv 2) pa_nil)))) (pss_one ps_no) pss_nil)
      (pss_one (ps_dput hu (pv 1) (pv 2) (pe_ifExp (pt_val (pe_callB call_isi (by rfl) T.b_isinstance bo_isinstance (pa_cons (pv 3) (pa_cons (pe_bltn (by rfl) T.b_dict bo_dict (v := .ty "dict") rfl) pa_nil)))) (pe_smC (pe_glob (by rfl) R.mgC (v := .ref C) rfl) c_make hr (by omega) (pa_cons (pv 3) pa_nil)) (pv 3)) rfl)))))
      (pss_one (ps_ret (pe_new T R c_value_size I hr (by omega) (by rfl) (pa_cons (pv 1) pa_nil)))))), ?_⟩
    intro M hM
    have aM : a ≠ M := ne_of_none ea hM
    have s1 : Same H (upd H M (.dK [])) := Same.new (Same.refl _) hM
    have ea1 := s1 _ _ ea
    have eM1 : (upd H M (.dK [])) M = some (.dK (dk [])) := upd_same
    have al0 : Al (Mx (fun b => S b ∧ H b ≠ none) (fun b => Rr b ∧ H b ≠ none) C H n) l fs := al.imp fun _ _ _ z => Mx.exs z
    have dj' : ∀ b, S b ∧ H b ≠ none → ¬ (Rr b ∧ H b ≠ none) := fun b h g => dj b h.1 g.1
    have al1 : Al (Mx (fun b => S b ∧ H b ≠ none) (fun b => Rr b ∧ H b ≠ none) C (upd H M (.dK [])) n) l fs := al0.imp fun _ _ _ z => Mx.same z s1
    have sa1 : (fun b => S b ∧ H b ≠ none) a := ⟨sa, by rw [ea]; exact fun z => by cases z⟩
    refine ⟨a, .dK (dk l), ea1, True.intro, fun od => ?_⟩
    have alB : Al (Mx (fun b => S b ∧ H b ≠ none) (fun b => Rr b ∧ H b ≠ none) C (upd (upd H M (.dK [])) a (.frz od (.dK (dk l)))) n) l fs := al1.imp fun p hp _ z => Mx.away (z := nfs fs) dj' sa1 ea1 (fun m gs g => mx_nfs g al1) _ z (nf_mem hp)
    have eMB : (upd (upd H M (.dK [])) a (.frz od (.dK (dk l)))) M = some (.dK (dk [])) := by
      rw [upd_ne aM.symm]
      exact eM1
    have eaB : (upd (upd H M (.dK [])) a (.frz od (.dK (dk l)))) a = some (.frz od (.dK (dk l))) := upd_same
    have sB : ∀ b o, H b = some o → b ≠ a → (upd (upd H M (.dK [])) a (.frz od (.dK (dk l)))) b = some o := fun b o e nb => by
      rw [upd_ne nb]
      exact s1 b o e
    generalize upd (upd H M (.dK [])) a (.frz od (.dK (dk l))) = B at alB eMB eaB sB ⊢
    have hfl : fs.length ≤ 40 := wf.ln
    refine ⟨_, rfl, a, od, dk l, rfl, eaB, for_it walk_items (fun i σ H' => ∃ (nv vv : Option V) (lm : List (Str × V)), σ = [some (.ref a), some (.ref M), nv, vv] ∧ H' M = some (.dK (dk lm)) ∧ Al (Rc (fun b => (Rr b ∨ H b = none) ∧ b ≠ M) C H' n) lm (fs.take i) ∧ Fx M B H')
      ⟨none, none, [], rfl, eMB, .nil, Fx.refl⟩ ?_ ?_ ?_⟩
    · rintro i σ H' _ ⟨nv, vv, lm, _, _, _, x3⟩
      exact x3 _ _ aM eaB
    · rintro i x σ H' H2 hi ⟨nv, vv, lm, rfl, eM, ar, x3⟩ ⟨Tp, x1, y1, rfl, hT, rfl, hx1, hy1⟩
      have hi2 : i < l.length := by
        rw [dk_len] at hi
        exact hi
      obtain ⟨⟨x, v⟩, hx⟩ : ∃ p, l[i]? = some p := ⟨l[i], List.getElem?_eq_getElem hi2⟩
      have hd : (dk l)[i]? = some (Sum.inr x, v) := by
        unfold dk
        rw [List.getElem?_map, hx]
        rfl
      have hx2 : ((dk l)[i]?).map (fun kv => kV kv.1) = some x1 := hx1
      have hy2 : ((dk l)[i]?).map Prod.snd = some y1 := hy1
      rw [hd] at hx2 hy2
      cases hx2
      cases hy2
      obtain ⟨u, hu2, ru⟩ := Lw.Al.at alB hx
      have eT : (upd H' Tp (.tup [kV (Sum.inr x), v])) Tp = some (.tup [kV (Sum.inr x), v]) := upd_same
      have x4 : Fx M B (upd H' Tp (.tup [kV (Sum.inr x), v])) := x3.new hT
      have eM4 : (upd H' Tp (.tup [kV (Sum.inr x), v])) M = some (.dK (dk lm)) := by
        rw [upd_ne (ne_of_none eM hT)]
        exact eM
      have ar4 : Al (Rc (fun b => (Rr b ∨ H b = none) ∧ b ≠ M) C (upd H' Tp (.tup [kV (Sum.inr x), v])) n) lm (fs.take i) := ar.imp fun _ _ _ z => z.same (Same.new (Same.refl _) hT)
      generalize upd H' Tp (.tup [kV (Sum.inr x), v]) = H4 at eT x4 eM4 ar4 ⊢
      have gx : Good x := wf.gd (x, u) (List.mem_of_getElem? hu2)
      refine ⟨Tp, _, rfl, SqT.of eT, rfl, _, _, rfl, _, _, rfl, rfl, ?_⟩
      refine ⟨_, rfl, x, rfl, gx, fun H5 s5 => ⟨_, rfl, iteF ?_⟩⟩
      have x5 : Fx M B H5 := fun b o nb e => s5 _ _ (x4 b o nb e)
      have eM5 := s5 _ _ eM4
      have ar5 : Al (Rc (fun b => (Rr b ∨ H b = none) ∧ b ≠ M) C H5 n) lm (fs.take i) := ar4.imp fun _ _ _ z => z.same s5
      have ru5 : Mx (fun b => S b ∧ H b ≠ none) (fun b => Rr b ∧ H b ≠ none) C H5 n v u := ru.keep fun b o sb e r => x5 b _ (fun z => sb.elim (fun h => h.2 (by rw [z]; exact hM)) fun h => h.2 (by rw [z]; exact hM)) e
      have hno : x ∉ names lm := by
        rw [ar5.names]
        intro hm
        have e1 : names (fs.take i) = (names fs).take i := by simp [names, List.map_take]
        rw [e1] at hm
        obtain ⟨j, hj, ej⟩ := List.mem_take_iff_getElem.mp hm
        have e2 : (names fs)[i]? = some x := by rw [List.getElem?_map, hu2]; rfl
        have hi3 : i < (names fs).length := (List.getElem?_eq_some_iff.mp e2).1
        have e3 : (names fs)[i] = x := (List.getElem?_eq_some_iff.mp e2).2
        have := (List.getElem_inj wf.nd).mp (ej.trans e3.symm)
        omega
      have ndm : (names lm).Nodup := by
        rw [ar5.names]
        have e1 : names (fs.take i) = (names fs).take i := by simp [names, List.map_take]
        rw [e1]
        exact List.Nodup.sublist (List.take_sublist _ _) wf.nd
      have hml : (dk lm).length < sizeLine := by
        rw [dk_len, ar5.len, List.length_take]
        exact Nat.lt_of_lt_of_le (by omega : min i fs.length < 100) (line_big (by decide))
      have fin : ∀ (v' : V) (H6 : Hp), Rc (fun b => (Rr b ∨ H b = none) ∧ b ≠ M) C H6 n v' u → Same H5 H6 → ∃ H7, DPut H6 M (.str x) v' H7 ∧ ∃ lm', H7 M = some (.dK (dk lm')) ∧ Al (Rc (fun b => (Rr b ∨ H b = none) ∧ b ≠ M) C H7 n) lm' (fs.take (i + 1)) ∧ Fx M B H7 := by
        intro v' H6 r6 s6
        have eM6 := s6 _ _ eM5
        refine ⟨_, DPut.k (k := Sum.inr x) eM6 hml, lm ++ [(x, v')], ?_, ?_, fun b o nb e => by rw [upd_ne nb]; exact s6 _ _ (x5 b o nb e)⟩
        · rw [upd_same, dk_put x v' lm ndm, put_new hno]
        · rw [List.take_add_one, hu2]
          exact Al.snoc (ar5.imp fun _ _ _ z => (z.same s6).keep fun b o sb e _ => by rw [upd_ne sb.2]; exact e) (r6.keep fun b o sb e _ => by rw [upd_ne sb.2]; exact e)
      have nH : ∀ b, H5 b = none → H b = none ∧ b ≠ M := fun b hb => by
        refine ⟨?_, fun z => by rw [z, eM5] at hb; cases hb⟩
        cases e : H b with
        | none => rfl
        | some o =>
          by_cases q : b = a
          · have h2 := x5 _ _ aM eaB
            rw [q, h2] at hb
            cases hb
          · have h2 := x5 b o (fun z => by rw [z, hM] at e; cases e) (sB b o e q)
            rw [h2] at hb
            cases hb
      refine ru5.cases (fun j e1 e2 => ?_) (fun k ca cl cfs en e1 e2 cs ce cw cal => ?_) (fun k ca cfs en e1 e2 crc => ?_)
      · subst e1 e2
        obtain ⟨H7, dp, lm', g1, g2, g3⟩ := fin (.int j) H5 (Rc.int j) (Same.refl _)
        exact ⟨_, rfl, _, _, _, _, _, rfl, .ty _, .base (.int j), rfl, _, rfl, iteF ⟨_, rfl, _, rfl, _, rfl, M, H7, rfl, dp, _, _, lm', rfl, g1, g2, g3⟩⟩
      · subst en e1 e2
        refine ⟨_, rfl, _, _, _, _, _, rfl, .ty _, .base (.dK ce), rfl, _, rfl, iteT ⟨rfl, _, rfl, ca, _, _, cl, cfs, rfl, cs, ce, cw, cal, dj', fun v' H6 r6 s6 => ?_⟩⟩
        obtain ⟨H7, dp, lm', g1, g2, g3⟩ := fin v' H6 (r6.wid fun b hb => hb.elim (fun h => ⟨.inl h.1, fun z => h.2 (by rw [z]; exact hM)⟩) fun h => ⟨.inr (nH b h).1, (nH b h).2⟩) s6
        exact ⟨_, rfl, _, rfl, M, H7, rfl, dp, _, _, lm', rfl, g1, g2, g3⟩
      · subst en e1 e2
        obtain ⟨cl', ⟨⟨cx, ctp, cd, _, ce, _, _⟩, _, _⟩, _⟩ := Rc.out' crc
        obtain ⟨H7, dp, lm', g1, g2, g3⟩ := fin (.ref ca) H5 (crc.wid fun b h => ⟨.inl h.1, fun z => h.2 (by rw [z]; exact hM)⟩) (Same.refl _)
        exact ⟨_, rfl, _, _, _, _, _, rfl, .ty _, R.ty ce, R.kRD, _, rfl, iteF ⟨_, rfl, _, rfl, _, rfl, M, H7, rfl, dp, _, _, lm', rfl, g1, g2, g3⟩⟩
    · rintro σ H' ⟨nv, vv, lm, rfl, eM, ar, x3⟩
      have ell : (dk l).length = fs.length := by rw [dk_len, al.len]
      rw [ell, List.take_length] at ar
      have eaL : H' a = some (.frz od (.dK (dk l))) := x3 _ _ aM eaB
      refine ⟨eaL, ?_⟩
      have sU : Same H (upd H' a (.dK (dk l))) := fun b o e => by
        by_cases z : b = a
        · rw [z, upd_same, ← ea, ← z, e]
        · rw [upd_ne z]
          exact x3 b o (fun y => by rw [y, hM] at e; cases e) (sB b o e z)
      have arU : Al (Rc (fun b => (Rr b ∨ H b = none) ∧ b ≠ M) C (upd H' a (.dK (dk l))) n) lm fs := ar.imp fun _ _ _ z => z.keep fun b o sb e _ => by
        rw [upd_ne (fun y => sb.1.elim (fun h => dj a sa (by rw [← y]; exact h)) fun h => by rw [y, ea] at h; cases h)]
        exact e
      have eMU : (upd H' a (.dK (dk l))) M = some (.dK (dk lm)) := by
        rw [upd_ne aM.symm]
        exact eM
      generalize upd H' a (.dK (dk l)) = HU at sU arU eMU ⊢
      have hnm : names lm = names fs := arU.names
      refine ⟨_, rfl, fun x dx hx hdx hne => ?_⟩
      have eX : (upd (upd HU dx (.own x)) x (.ins C dx [])) x = some (.ins C dx []) := upd_same
      have sX : Same HU (upd (upd HU dx (.own x)) x (.ins C dx [])) := Same.new (Same.new (Same.refl _) hdx) (by rw [upd_ne hne.symm]; exact hx)
      have nX : ∀ b, (upd (upd HU dx (.own x)) x (.ins C dx [])) b = none → HU b = none := fun b h => sX.free h
      generalize upd (upd HU dx (.own x)) x (.ins C dx []) = HX at eX sX nX ⊢
      have arX : Al (Rc (fun b => (Rr b ∨ H b = none) ∧ b ≠ M) C HX n) lm fs := arU.imp fun _ _ _ z => z.same sX
      refine ⟨x, dx, M, lm, szf fs, rfl, eX, sX _ _ eMU, by rw [hnm]; exact wf.nd, by rw [arX.len]; exact hfl, fun y v hv => ?_, fun l' H'' ra pm lk fx => ?_⟩
      · obtain ⟨u, hu2, ru⟩ := arX.get' hv
        have := Rc.sz ru
        unfold szf
        rw [hu2]
        exact this
      · refine ⟨rfl, q _ _ (.inr ⟨x, l', fs, rfl, rfl, ?_, wf, by rw [← hnm]; exact pm, fun y v u h1 h2 => ?_⟩) fun b o e => ?_⟩
        · have ez : (lm.length : Int) + ((names lm).map (szf fs)).sum = nfs fs := by
            rw [hnm, arX.len]
            exact nfs_len wf.nd
          rw [ez] at ra
          refine ra.wid fun b hb => ?_
          rcases hb with e | e
          · rw [e]
            exact .inr (sU.free hx)
          · exact .inr (sU.free (nX b e))
        · rw [lk] at h1
          obtain ⟨u', h3, r3⟩ := arU.get' h1
          have e : u' = u := Option.some.inj (h3.symm.trans h2)
          subst e
          exact (r3.keep fun b o sb e _ => fx b o (fun z => by rw [z, hx] at e; cases e) (sX _ _ e)).wid fun b hb => hb.1
        · exact fx b o (fun z => by rw [z, sU.free hx] at e; cases e) (sX _ _ (sU _ _ e))
theorem s_makeM_step (T : Bu mg) (R : RecK K mg C) (D : StK K C) (I : InK K C) (c_value_size : Cal P w K mg base 3 "value_size" (spVs C)) (c_is_name : Cal P w K mg base 1 "is_name" spIsName) (n : Nat)
    (c_make : SCal P w K mg base C (n + 5) (spMakeMR C n)) : SCal P w K mg base C (n + 6) (spMakeM C n) := by
  obtain ⟨pD, g, fd, mD, F, bD⟩ := D.ex
  exact ⟨pD, g, fd, _, mD, fn_makeM_step T R mD F bD I c_value_size c_is_name n c_make, bD⟩
theorem fn_makeM {pD g : Addr} {fd : FuncData} (T : Bu mg) (R : RecK K mg C) (mD : SMet K C (.type "type") "make" pD g) (F : L2.Fun K "make" "Record.make" sMake g fd) (bD : Binds K fd ["fields"] []) (I : InK K C) (c_value_size : Cal P w K mg base 3 "value_size" (spVs C)) (c_is_name : Cal P w K mg base 1 "is_name" spIsName) : ∀ n, FnOk P w K mg base CX0 (n + 6) g fd ["fields"] (spMakeM C n)
  | 0 => fn_makeM_step T R mD F bD I c_value_size c_is_name 0 (s_no ⟨pD, g, fd, mD, F, bD⟩)
  | n + 1 => fn_makeM_step T R mD F bD I c_value_size c_is_name (n + 1) ⟨pD, g, fd, _, mD, fn_makeM T R mD F bD I c_value_size c_is_name n, bD⟩
end
section
variable {P : Program} {w : World} {K : PySem.W.Frag} {mg : Str → Option Value} {base : Heap} {C : Addr}
theorem s_makeM (T : Bu mg) (R : RecK K mg C) (D : StK K C) (I : InK K C) (c_value_size : Cal P w K mg base 3 "value_size" (spVs C)) (c_is_name : Cal P w K mg base 1 "is_name" spIsName) : ∀ n, SCal P w K mg base C (n + 6) (spMakeM C n)
  | 0 => s_makeM_step T R D I c_value_size c_is_name 0 (s_no D)
  | n + 1 => s_makeM_step T R D I c_value_size c_is_name (n + 1) (s_makeM T R D I c_value_size c_is_name n)
end
end Lw
namespace Lw
open PySem PySem.Spec PyProof.Rows L2 GrT GrOwn
abbrev sPick : Stmt := top 20
def spPick : Sp := fun vs H Q _ => ∃ (p P : Addr) (ps : List Str), vs = [.ref p, .ref P] ∧ Tape H p ∧ P ≠ p ∧ H P = some (.lst (ps.map V.str)) ∧ 0 < ps.length ∧ ps.length ≤ 64 ∧ ∀ x H', x ∈ ps → Fx p H H' → Tape H' p → Q (.str x) H'
section
variable {P : Program} {w : World} {K : PySem.W.Frag} {mg : Str → Option Value} {base : Heap} {C : Addr}
theorem scPick : FnScope ["tape", "names"] ["tape", "names"] (defScope sPick) := ⟨rfl, rfl, rfl, by decide +kernel, rfl, by decide +kernel, by decide +kernel⟩
theorem c_pick (T : Bu mg) (D : Dfn K mg "_law_pick" sPick ["tape", "names"]) (c_law_take : Cal P w K mg base 1 "_law_take" spTake) : Cal P w K mg base 2 "_law_pick" spPick := by
  refine D.cal scPick (fun vs H Q E h => ?_) (fun f cdv A outer s H vs Q E hr h => ?_)
  · obtain ⟨p, P, ps, rfl, _⟩ := h
    rfl
  · obtain ⟨p, P, ps, rfl, tp, Pp, eP, l1, l2, q⟩ := h
    refine ⟨_, (pss_one (ps_ret (pe_ix ix_list (pv 1) (pe_op op_mod (pe_callTy call_int1 (by rfl) T.b_int (by decide +kernel) (pa_cons (pe_c c_law_take hr (by omega) rfl (pa_cons (pv 0) (pa_cons pe_int pa_nil))) pa_nil)) (pe_callB call_len_seq (by rfl) T.b_len PySem.boot_len (pa_cons (pv 1) pa_nil))) (fun _ _ => rfl)))), ?_⟩
    refine ⟨_, rfl, _, rfl, p, 720720, rfl, tp, p72, fun i H1 i0 i1 x1 t1 => ?_⟩
    have eP1 := x1 _ _ Pp eP
    obtain ⟨x, hx, hat⟩ := pick_ix (ps := ps) (z := i) l1
    exact .inl ⟨_, rfl, _, rfl, P, _, rfl, .inl (SqL.of eP1), _, _, rfl, rfl, by rw [List.length_map]; omega, P, _, _, _, rfl, rfl, SqL.of eP1, by rw [List.length_map]; exact hat, q x H1 hx x1 t1⟩
end
end Lw
/-! An own exception's __init__ that begins with super().__init__(..): its promise. -/
namespace GrEx
open PySem PySem.Spec PyProof.Rows L2 NdefX
abbrev supE (p0 p1 ap pos : Pos) (e : Expr) (es : List Expr) : Expr := .Call (.Attribute (.Call (.Name "super" p0) [] [] p1) "__init__" ap) (e :: es) [] pos
abbrev supNF (name qual : Str) (params : Arguments) (scope : Scope) (p0 p1 ap pos epos : Pos) (e : Expr) (es : List Expr) (rest : List Stmt) (cc cda : Addr) : NF := ⟨name, qual, params, .Expr (supE p0 p1 ap pos e es) epos :: rest, scope, [("__class__", cc)], cda⟩
theorem fn_sup {P : Program} {w : World} {K : PySem.W.Frag} {mg : Str → Option Value} {base : Heap} {CX : CXT} {N ps : List Str} {name qual : Str} {params : Arguments} {scope : Scope} {rest : List Stmt} {e : Expr} {es : List Expr} {p0 p1 ap pos epos : Pos}
    {f C cc cda : Addr} {oc ccl cl kV doc pm ct : Value} {od an cdd cld : Option Addr} {osl ccs csl : Array (Option Value)} {vs0 : Array Value} {file : Str} {tf : Tok} {ar : Arg} {k : Nat} {sp : Sp} {pl : Sem Bool}
    (T : OexC K C) (S : NScope N ps ["__class__"] scope)
    (lk : K.lookup f = some ⟨oc, od, .func (PySem.W.ksFn name qual params (.Expr (supE p0 p1 ap pos e es) epos :: rest) scope .none kV doc pm an (.ref cda) ct cc), osl⟩)
    (hcd : PySem.W.codeIn K (.ref cda) qual = true) (hcode : K.lookup cda = some ⟨ccl, cdd, .fields vs0, ccs⟩) (hvs : vs0[2]? = some (.str file tf)) (hfile : ((P.main.file : Str) == file) = true)
    (hcell : K.lookup cc = some ⟨cl, cld, .cell (some (.ref C)), csl⟩) (hsup : mg "super" = none) (htop : (P.main.scope.names.lookup ("super" : Str)).isSome = false)
    (hks : scope.names.lookup ("super" : Str) = some .globalImplicit) (hp : (params.posonlyargs ++ params.args).head? = some ar) (hps : ps[0]? = some ar.arg)
    (ho : PySem.W.nsIn K cStatics "thirdparty.any" = some none) (hm : PySem.W.ks_superIn K C C "__init__" = some (some (.builtin "ValueError.__init__"))) (hB : PySem.W.subIn K (.ref C) (.type "ValueError") = some true)
    (hmro : PySem.W.mroIn K C (.ref C) = some true)
    (he : ∀ L : Addr, eval (supE p0 p1 ap pos e es) (PySem.W.ksEnv qual scope L f (.ref cda) cc) = (do
      let ov ← attributeBase (.Call (.Name "super" p0) [] [] p1) "__init__" (PySem.W.ksEnv qual scope L f (.ref cda) cc) (eval (.Call (.Name "super" p0) [] [] p1) (PySem.W.ksEnv qual scope L f (.ref cda) cc))
      standAt ap.atName
      let (g, first) ← holding [ov] (getMethod ov "__init__" pl)
      callWith pos g first (backTo pos (starEach (e :: es) (PySem.W.ksEnv qual scope L f (.ref cda) cc))) []))
    (hsw : ∀ L : Addr, swapsWith (supE p0 p1 ap pos e es) none epos.line (PySem.W.ksEnv qual scope L f (.ref cda) cc) = pure false)
    (hst : ∀ L : Addr, starEach (e :: es) (PySem.W.ksEnv qual scope L f (.ref cda) cc) = (false, eval e (PySem.W.ksEnv qual scope L f (.ref cda) cc)) :: starEach es (PySem.W.ksEnv qual scope L f (.ref cda) cc))
    (hpl : ∀ L : Addr, (backTo pos (starEach es (PySem.W.ksEnv qual scope L f (.ref cda) cc))).any (·.1) = false)
    (len : ∀ vs H Q E, sp vs H Q E → vs.length = ps.length)
    (body : ∀ (A : Around) (outer : List Env) (s : Shared) (H : Hp) (vs : List V) (Q : VK) (E : XK), sp vs H Q E → ∃ a ta t, vs[0]? = some (.ref a) ∧ H a = some (exo a C none) ∧
      PA (ncx CX P w K mg base N (supNF name qual params scope p0 p1 ap pos epos e es rest cc cda) f A outer s H E) (e :: es) ta ∧
      PSs (ncx CX P w K mg base N (supNF name qual params scope p0 p1 ap pos epos e es rest cc cda) f A outer s H E) rest t ∧
      ta (startF N vs [some (.ref C)]) H fun ws H1 => ws.length ≤ 1000 ∧ H1 a = some (exo a C none) ∧ t { nx := fun _ H' => Q .non H', rt := Q } (startF N vs [some (.ref C)]) H1) :
    FnOk P w K mg base CX (k + 1) f (PySem.W.ksFn name qual params (.Expr (supE p0 p1 ap pos e es) epos :: rest) scope .none kV doc pm an (.ref cda) ct cc) ps sp := by
  refine ⟨len, fun A outer s H args us vs Q E hr e0 hb r q => ?_⟩
  have hl := len _ _ _ _ q
  have kb : ∀ b o, base.get? b = some o → s.heap.get? b = some o := fun b o z => (e0.bs b o z).1
  have KX : K.In s.heap := e0.mod.kin.keeps kb
  have lim : s.heap.NoLimit := e0.mod.nolimit.keeps kb
  obtain ⟨a, ta, t, ha0, ea, hA, hR, hq⟩ := body A outer s H vs Q E q
  refine PySem.ks_codeAny_call_defAt hr.depth (KX _ _ lk) rfl lim (PySem.W.codeRec_of KX hcd) rfl hb S.nocell (fun y hy => S.par y.1 (List.of_mem_zip hy).1) (fun h₀ hns kp => ?_) S.co S.gen S.kind
  have nop : ∀ b o, K.lookup b = some o → H b = none := fun b o z => (e0.bs b o (e0.mod.kin _ _ z)).2
  have hcl : ∀ {h : Heap}, K.In h → h.IsCell cc (some (.ref C)) := fun {h} X => ⟨_, X _ _ hcell, rfl⟩
  have cells : CellsAt [(("__class__" : Str), cc)] ["__class__"] [some (V.ref C)] s.heap H := by
    refine ⟨rfl, fun y c z => ?_, fun x y c h1 h2 => ?_, fun i y z => ?_⟩
    · have e1 : c = cc := by
        unfold List.lookup at z
        split at z
        · exact (Option.some.inj z).symm
        · cases z
      rw [e1]
      exact ⟨nop _ _ hcell, _, hcl KX⟩
    · have k : ∀ x : Str, List.lookup x [(("__class__" : Str), cc)] = some c → x = "__class__" := fun x h => by
        unfold List.lookup at h
        split at h
        · rename_i q
          exact eq_of_beq q
        · cases h
      rw [k x h1, k y h2]
    · cases i with
      | zero =>
        have e1 : y = "__class__" := (Option.some.inj z).symm
        rw [e1]
        refine ⟨cc, by rfl, fun v hv => ⟨.ref C, ?_, hcl KX⟩⟩
        have e2 : v = V.ref C := (Option.some.inj (Option.some.inj hv)).symm
        rw [e2]
        rfl
      | succ i => cases z
  have I0 := inv_startN (CX := CX) (N := N) (F := supNF name qual params scope p0 p1 ap pos epos e es rest cc cda) (f := f) (E := E) (tk := s.toks + (ps.zip us).length) S hr.hd e0 hl r cells hns kp
  have X0 := I0.kIn
  obtain ⟨nm, qn, Nn, bs, bm, sn, sub, ab, col, dd, k0, k1, k2, k3, k5, hC, hbm⟩ := T.cls
  obtain ⟨t1, hx⟩ := exo_at I0.hok ea
  have hus0 : us[0]? = some (Value.ref a) := by
    obtain ⟨u, h1, h2⟩ := r.get ha0
    rw [h1]
    exact congrArg some h2
  have ndP : ps.Nodup := by
    have z := S.nd.sublist (List.take_sublist (ps.length + ([("__class__" : Str)] : List Str).length) N)
    rw [S.pre] at z
    exact (List.nodup_append.mp z).1
  have hint : interactive (PySem.W.ksEnv qual scope s.heap.objs.size f (.ref cda) cc) = false := by
    unfold interactive
    rw [show (PySem.W.ksEnv qual scope s.heap.objs.size f (.ref cda) cc).scope.kind = .function from S.kind]
    rfl
  refine PySem.ks_wpAt_execs_cons (PySem.ks_wpAt_Expr_any (PySem.ks_wpAt_MethodCall (pl := pl) ?_ (he _)) hint (hsw _))
  have hkc : scope.names.lookup ("__class__" : Str) = some .free := S.frk _ (List.mem_singleton.mpr rfl)
  have hka : scope.names.lookup ar.arg = some .local := S.par _ (List.mem_of_getElem? hps)
  obtain ⟨mb, hb1, hb2⟩ := I0.mod.blt
  refine PySem.ks_wpAt_super_base (env := PySem.W.ksEnv qual scope s.heap.objs.size f (.ref cda) cc) hks hkc (by decide) rfl (X0 _ _ lk) rfl hp rfl (X0 _ _ hcode) rfl hvs hfile htop ?_
  refine PySem.W.ks_loadName_global S.kind hks (Calls.loadGlobal_builtin (env := PySem.W.ksEnv qual scope s.heap.objs.size f (.ref cda) cc) (I0.mod.glob.keeps I0.bk) hsup (hb1.keeps I0.bk) ((hb2 "super" (by decide)).trans (by decide +kernel)) ⟨rfl, ?_⟩)
  refine wpAny_loadName_free S.kind hkc rfl (hcl X0) ?_
  refine wpAny_loadName_local S.kind hka hns (zip_look ndP hps hus0) ?_
  refine ks_wpAny_isType_cls (X0 _ _ hC) rfl ⟨rfl, ?_⟩
  refine ks_wpAny_call_super (X0 _ _ hC) rfl hx rfl (fun c z => by cases z) (PySem.W.looks_mroIn X0 hmro) (fun h1 hso k1 => ?_)
  have I1 : Inv (ncx CX P w K mg base N (supNF name qual params scope p0 p1 ap pos epos e es rest cc cda) f A outer s H E) [] (startF N vs [some (.ref C)]) H ⟨h1, s.gens, s.drawn, s.toks + (ps.zip us).length, s.os⟩ := I0.kept (t' := s.toks + (ps.zip us).length) k1
  have X1 := I1.kIn
  have hcC : PySem.W.clsIn K C = some { name := nm, bases := bs, mro := .ref C :: bm, ns := Nn, qualname := qn, hasDict := true, slotNames := sn, subclasses := sub, abstract := ab, collection := col, hasDel := false } := by unfold PySem.W.clsIn; rw [hC] <;> rfl
  unfold PySem.W.ks_superIn at hm
  rw [hcC] at hm
  have ia : PySem.W.InstAt h1 a { cls := .ref C, dict := none, data := .fields #[.ref t1, .none, .none, .none, .bool false, .none] } C none := ⟨k1 _ _ hx, rfl, rfl, trivial⟩
  have aC : a ≠ C := fun z => by
    rw [z, nop _ _ hC] at ea
    cases ea
  refine PySem.W.kxs_getMethod PySem.W.kxs_ValueError hso (PySem.W.looks_opaque X1 ho) (fun A Q E s k q => wpAny_bind ((PySem.W.looks_clsIn X1 hcC) A _ E s k (wpAny_pure q))) rfl X1 hm (ia.type.andThen (PySem.W.looks_subIn X1 hB)) aC (by decide) ?_
  have hu : (h1.push (PySem.W.kxs_mw "ValueError.__init__" a)).get? h1.objs.size = some (PySem.W.kxs_mw "ValueError.__init__" a) := Heap.get?_push_size h1 rfl
  have I2 : Inv (ncx CX P w K mg base N (supNF name qual params scope p0 p1 ap pos epos e es rest cc cda) f A outer s H E) [(h1.objs.size, PySem.W.kxs_mw "ValueError.__init__" a)] (startF N vs [some (.ref C)]) H ⟨h1.push (PySem.W.kxs_mw "ValueError.__init__" a), s.gens, s.drawn, s.toks + (ps.zip us).length + 1, s.os⟩ := by
    refine (I1.kept (t' := s.toks + (ps.zip us).length + 1) fun b o z => Heap.get?_push_of_some _ z).pins_of fun p hp => ?_
    have e1 : p = (h1.objs.size, PySem.W.kxs_mw "ValueError.__init__" a) := List.mem_singleton.mp hp
    rw [e1]
    exact ⟨hu, I1.hok.fresh (Nat.le_refl _), Nat.ne_of_gt I1.lt, I1.nofs (Nat.le_refl _), fun v z => by cases z⟩
  have key : ∀ {A' : Around} {Q' : Value → Shared → Prop} {E' : Value → Shared → Prop} {s' : Shared}, wpAny (model P w) A' (spliced (backTo pos (starEach (e :: es) (PySem.W.ksEnv qual scope s.heap.objs.size f (.ref cda) cc)))) (fun vs s₁ => PySem.W.KxsAt "ValueError.__init__" h1.objs.size a s₁.heap ∧ wpAny (model P w) A' (call (.ref h1.objs.size) vs) Q' E' s₁) E' s' →
      wpAny (model P w) A' (callWith pos (.ref h1.objs.size) [] (backTo pos (starEach (e :: es) (PySem.W.ksEnv qual scope s.heap.objs.size f (.ref cda) cc))) []) Q' E' s' := by
    intro A' Q' E' s' h
    rw [hst] at h ⊢
    refine PySem.W.kxs_callWith (i := "ValueError.__init__") (x := a) (by show (false || (backTo pos (starEach es _)).any (·.1)) = false; rw [hpl]; rfl) ?_
    exact Calls.evalArgs_plain h
  refine key (thn (hA.run pos _ _ _ _ _ I2 hq) fun us2 s2 hv => ?_)
  obtain ⟨ws, H1, I3, rws, hz, ea1, hq1⟩ := hv
  have hu3 : s2.heap.get? h1.objs.size = some (PySem.W.kxs_mw "ValueError.__init__" a) := (I3.pin (h1.objs.size, PySem.W.kxs_mw "ValueError.__init__" a) (List.mem_append_right _ List.mem_cons_self)).1
  refine ⟨hu3, ?_⟩
  have I4 : Inv (ncx CX P w K mg base N (supNF name qual params scope p0 p1 ap pos epos e es rest cc cda) f A outer s H E) [] (startF N vs [some (.ref C)]) H1 s2 := I3.pins_of fun p hp => by cases hp
  obtain ⟨t2, hx2⟩ := exo_at I4.hok ea1
  have hC2 := I4.kIn _ _ hC
  have hus2 : us2.length ≤ sizeLine := by
    rw [← rws.length, sizeLine_eq]
    omega
  obtain ⟨hp2, g2, d2, tk2, os2⟩ := s2
  refine wpAny_call (codeAny_of_tree ?_)
  show wpAny _ _ (callAny (.ref h1.objs.size) ⟨us2, []⟩) _ _ _
  simp only [callAny]
  refine wpAny_bind (wpAny_load hu3 ?_)
  simp only [PySem.W.kxs_mw, show (Value.type "method-wrapper" == Value.type "method" || Value.type "method-wrapper" == Value.type "builtin_function_or_method" || Value.type "method-wrapper" == Value.type "method-wrapper") = true by decide, if_true]
  refine PySem.W.KFB.if_so (by decide) ?_
  refine wpAny_bind (PySem.W.check_bound_init PySem.F.excBase_ValueError.toExcCallFacts hC2 hx2 rfl ?_)
  refine wpAny_bind (wpAny_pure (wpAny_pure ?_))
  refine ⟨plainId_quiet PySem.F.excBase_ValueError.init.plain _, codeAny_builtin PySem.F.excBase_ValueError.initEntry ?_⟩
  refine PySem.W.exc_init_tree (cls := .ref C) (t0 := t2) (dv := none) (c2 := .none) (c3 := .none) (b4 := .bool false) hx2 hus2 (fun h' kh hxn _ => ?_)
  have J := I4.write (t' := tk2) (x := a) (e := a) (o := exo a C none) (by rw [ea1]; exact True.intro) (.inl rfl) kh ⟨_, hxn⟩ (exo_ok hxn)
  have eu : upd H1 a (exo a C none) = H1 := by
    funext b
    by_cases hb : b = a
    · rw [hb, upd_same, ea1]
    · rw [upd_ne hb]
  rw [eu] at J
  show PySem.wpAt _ _ _ _ _ _ _
  refine PySem.wpAt_of_wpAny (wpAny_mono (hR.run [] _ (startF N vs [some (.ref C)]) H1 _ J hq1) (fun fl s' hs => ?_) fun e s' hs => hs)
  match fl, hs with
  | .ret u, ⟨v, σ', H', J, rv, q⟩ => exact ⟨v, H', J.os, J.bare, J.base, J.hok, rv, q⟩
  | .next, ⟨σ', H', J, q⟩ => exact ⟨V.non, H', J.os, J.bare, J.base, J.hok, rfl, q⟩
  | .brk, ⟨_, _, _, q⟩ => exact q.elim
  | .cont, ⟨_, _, _, q⟩ => exact q.elim
end GrEx
namespace Lw
open PySem PySem.Spec PyProof.Rows L2 GrT GrOwn
/-! ### an exception that bears a name -/
def spEI (C : Addr) : Sp := fun vs H Q _ => ∃ (a : Addr) (x : Str), vs = [.ref a, .str x] ∧ H a = some (exo a C none) ∧ x.length ≤ 1000 ∧ (∀ c ∈ x.cps.toList, c < 16 ^ 8) ∧
  ∀ d, H d = none → d ≠ a → Q .non (upd (upd H d (exd d [("name", .str x)])) a (exo a C (some d)))
/-- what the top says of such a class; st: the text of its __init__ -/
structure ExK (P : Program) (K : PySem.W.Frag) (mg : Str → Option Value) (x q : Str) (st : Stmt) (C : Addr) : Prop where
  T : OexC K C
  ex : ∃ (f cc cda : Addr) (oc ccl cl kV doc pm ct : Value) (od an cdd cld : Option Addr) (osl ccs csl : Array (Option Value)) (vs0 : Array Value) (file : Str) (tf : Tok),
    PySem.W.findIn K (.ref C) "__init__" = some (some (.ref f)) ∧ PySem.W.typeIn K (.ref f) = some (.type "function") ∧
    K.lookup f = some ⟨oc, od, .func (PySem.W.ksFn "__init__" q (defArgs st) (defBody st) (defScope st) .none kV doc pm an (.ref cda) ct cc), osl⟩ ∧ PySem.W.codeIn K (.ref cda) q = true ∧
    K.lookup cda = some ⟨ccl, cdd, .fields vs0, ccs⟩ ∧ vs0[2]? = some (.str file tf) ∧ ((P.main.file : Str) == file) = true ∧ K.lookup cc = some ⟨cl, cld, .cell (some (.ref C)), csl⟩ ∧
    Binds K (PySem.W.ksFn "__init__" q (defArgs st) (defBody st) (defScope st) .none kV doc pm an (.ref cda) ct cc) ["self", "name"] []
  sup : mg "super" = none
  mgC : mg x = some (.ref C)
  top : (P.main.scope.names.lookup ("super" : Str)).isSome = false
  ho : PySem.W.nsIn K cStatics "thirdparty.any" = some none
  hm : PySem.W.ks_superIn K C C "__init__" = some (some (.builtin "ValueError.__init__"))
  hB : PySem.W.subIn K (.ref C) (.type "ValueError") = some true
  mro : PySem.W.mroIn K C (.ref C) = some true
  noN : PySem.W.findIn K (.ref C) "name" = some none
  te : PySem.W.exmOne K (.ref C) (.ref C) = some true
abbrev sBadInit : Stmt := inClass (top 3) 0
section
variable {P : Program} {w : World} {K : PySem.W.Frag} {mg : Str → Option Value} {base : Heap} {C : Addr}
theorem scBadInit : NdefX.NScope ["self", "name", "__class__"] ["self", "name"] ["__class__"] (defScope sBadInit) := NdefX.nscope_by (by decide +kernel)
theorem fn_badname {x q : Str} (Z : ExK P K mg x q sBadInit C) : ∃ (f : Addr) (fd : FuncData), PySem.W.findIn K (.ref C) "__init__" = some (some (.ref f)) ∧ PySem.W.typeIn K (.ref f) = some (.type "function") ∧ FnOk P w K mg base CX0 1 f fd ["self", "name"] (spEI C) ∧ Binds K fd ["self", "name"] [] := by
  obtain ⟨f, cc, cda, oc, ccl, cl, kV, doc, pm, ct, od, an, cdd, cld, osl, ccs, csl, vs0, file, tf, h1, h2, lk, hcd, hcode, hvs, hfile, hcell, hb⟩ := Z.ex
  refine ⟨f, _, h1, h2, ?_, hb⟩
  refine GrEx.fn_sup (N := ["self", "name", "__class__"]) (ar := { arg := "self", annotation := none, pos := ⟨9, 17, 9, 21⟩ }) Z.T scBadInit lk hcd hcode hvs hfile hcell Z.sup Z.top (by rfl) (by rfl) (by rfl) Z.ho Z.hm Z.hB Z.mro (fun L => by rfl) (fun L => by rfl) (fun L => by rfl) (fun L => by rfl) (fun vs H Q E h => ?_) (fun A outer s H vs Q E h => ?_)
  · obtain ⟨a, x, rfl, _⟩ := h
    rfl
  · obtain ⟨a, x, rfl, ea, xl, xc, k⟩ := h
    refine ⟨a, _, _, rfl, ea, pa_cons (pe_joined (PJ.cons pe_str (PJ.cons (pe_fmtR (pv 1)) .nil))) pa_nil, pss_one (ps_ost (pv 0) (pv 1)), ?_⟩
    have rl := PySem.StrLaws.reprText_len x xc
    have cl1 : (Str.empty ++ Str.ofString "not a name of a field: ").length ≤ 100 := by decide +kernel
    refine ⟨_, rfl, line_big (Nat.le_trans cl1 (by decide)), _, rfl, .inl ⟨x, rfl, line_big (by omega), _, rfl, line_big (by rw [cat_len]; omega), by show 1 ≤ 1000; decide, ea, ?_⟩⟩
    exact ⟨_, rfl, _, rfl, a, C, rfl, Z.T, Z.noN, .inl ⟨ea, fun d h1 h2 => k d h1 h2⟩⟩
end
end Lw
namespace GrOwn
open PySem PySem.Spec PyProof.Rows L2
section
variable {X : Cx} {CX : CXT} {k : Nat} {C f : Addr} {fd : FuncData} {ps : List Str} {sp : Sp} {E : XK}
theorem run_atS {A : Around} {pins : List (Addr × Obj)} {σ : L2.St} {H : Hp} {s : Shared} {Q : VK} {us : List Value} {vs : List V} (F : FnOk X.prog X.w X.K X.mg X.base CX k f fd ps sp)
    (hr : Room k A) (e0 : Env0 X.prog X.w X.K X.mg X.base A X.stack s H) (hb : Binds X.K fd ps []) (hx : PassesAt CX X σ E) (I : Inv X pins σ H s) (r : Vals vs us) (h : sp vs H Q E) :
    wpAny (model X.prog X.w) A (call (.ref f) us) (EP X pins σ Q) X.xe s := by
  have hl : (us ++ []).length = ps.length := by
    rw [List.append_nil, ← r.length]
    exact F.len _ _ _ _ h
  have b := hb s us I.kIn hl
  rw [List.append_nil] at b
  refine wpAny_call (codeAny_mono (F.run A X.stack s H ⟨us, []⟩ us vs Q E hr e0 b r h) fun r s' hq => ?_)
  match r, hq with
  | .error e, hq => exact hx pins H s e s' I hq
  | .ok (.ret u), hq => exact I.after hq
end
end GrOwn
namespace Lw
open PySem PySem.Spec PyProof.Rows L2 GrT GrOwn
/-- r[x], which may raise -/
structure MthY (P : Program) (w : World) (K : PySem.W.Frag) (mg : Str → Option Value) (base : Heap) (CX : CXT) (C : Addr) (k : Nat) (x : Str) (sp : Sp) : Prop where
  ex : ∃ (f : Addr) (fd : FuncData) (ps : List Str), FnOk P w K mg base CX k f fd ps sp ∧ Sm K C x f ∧ PySem.W.fnIn K f = true ∧ Binds K fd ps []
def tIxX (C : Addr) (sp : Sp) (E : L2.St → XK) (ta tb : TE) : TE := fun σ H Q => ta σ H fun x H1 => tb σ H1 fun y H2 => ∃ a dx fs, x = .ref a ∧ H2 a = some (.ins C dx fs) ∧ sp [.ref a, y] H2 Q (E σ)
section
variable {X : Cx} {CX : CXT} {C : Addr} {k j : Nat} {sp : Sp} {E : L2.St → XK} {a b : Expr} {ta tb : TE} {pos : Pos}
theorem pe_ixX (m : MthY X.prog X.w X.K X.mg X.base CX C k "__getitem__" sp) (hr : Room j X.A) (hk : k + 1 ≤ j) (hx : ∀ σ, PassesAt CX X σ (E σ)) (ha : PE X a ta) (hb' : PE X b tb)
    (hsl : ∀ (q : Addr) (i : Value), subscripted b true (.ref q) i = runValue (.builtin "lifetime.subscript" ⟨[.ref q, i], []⟩) := by intro _ _; with_unfolding_all rfl) :
    PE X (.Subscript a b pos) (tIxX C sp E ta tb) := by
  obtain ⟨f, fd, ps, F, sm, hfn, bd⟩ := m.ex
  refine ⟨fun pins s σ H Q I h => Subscript_ (binT ha hb' I h fun v u s2 x y H2 I2 rx ry q => ?_)⟩
  obtain ⟨p, dx, fs, rfl, ea, q⟩ := q
  cases rx
  obtain ⟨od, J⟩ := inst I2 ea
  obtain ⟨m0, hF⟩ := I2.fr
  exact PySem.W.sub_K hF I2.ok.mod.kin J sm.at_ hfn sm.fn (run_atS (vs := [V.ref p, y]) F (hr.mono hk).in1 I2.env0.in1 bd (hx σ) I2 (.cons rfl (.cons ry .nil)) q) (hsl _ _)
end
/-- isinstance of the exception in hand, which has a dict -/
def rIsED (K : PySem.W.Frag) (D a : Addr) (cls : Value) (d : Option Addr) : List V → Hp → VK → Prop := fun xs H Q => ∃ (c : V) (cv : Value) (b : Bool) (dd : Addr) (fs : List (Str × V)), xs = [.ref a, c] ∧ ClsV c cv ∧ cls = .ref D ∧ d = some dd ∧ H dd = some (.xd fs) ∧ PySem.W.kitOne K (.ref D) cv = some b ∧ Q (.bl b) H
theorem call_isED {X : Cx} {a D : Addr} {oe : Obj} {cls : Value} {d : Option Addr} {pn : List (Addr × Obj)} (C : ExcC X.K D) (hz : Zc cls d oe) (hf : ∃ vs, oe.data = .fields vs) : CallR (X.suite a ((a, oe) :: pn)) (.builtin "isinstance") (rIsED X.K D a cls d) := by
  intro pins s σ H xs us Q I r h
  obtain ⟨c, cv, b, dd, fs, rfl, hcv, rfl, rfl, hd, e, q⟩ := h
  obtain ⟨u, v, rfl, ru, rv⟩ := vals2 r
  cases ru
  have ev := hcv.eq rv
  subst ev
  obtain ⟨ha, _⟩ := I.pin (a, oe) (List.mem_append_left _ List.mem_cons_self)
  obtain ⟨vs, hv⟩ := hf
  have hx : ObjOk X.prog X.w H s.heap dd (.xd fs) := I.hok dd _ hd
  obtain ⟨mA, hns, _⟩ := hx
  obtain ⟨od, ho, _⟩ := lookIn_ns hns
  have J : PySem.W.InstAt s.heap a oe D (some od) := ⟨ha, hz.1, by unfold PySem.W.notCls; rw [hv] <;> rfl, by rw [hz.2]; exact ho⟩
  exact PySem.W.kia_one (PySem.W.kitx_exc (by obtain ⟨cd, hc, _⟩ := PySem.W.any_some C.hd; rw [hc]; rfl) C.hg C.hk C.hs C.ha C.hn C.ht C.hm) I.kIn J e (fun z => nomatch z) fun tk => ⟨.bl b, H, I.kept (t' := tk) fun _ _ z => z, rfl, q⟩
/-- what the top says further of the error's classes -/
structure ErK (K : PySem.W.Frag) (mg : Str → Option Value) (CS RE : Addr) : Prop where
  xf : XfC K CS
  ex : ExcC K CS
  mgR : mg "RecordsError" = some (.ref RE)
  bV : mg "ValueError" = none
  kR : PySem.W.kitOne K (.ref CS) (.ref RE) = some true
  kV : PySem.W.kitOne K (.ref CS) (.type "ValueError") = some true
theorem bo_VE : bootBuiltins "ValueError" = some (.type "ValueError") := by decide +kernel
end Lw
namespace Lw
open PySem PySem.Spec PyProof.Rows L2 GrT GrOwn
/-! is_name of any text -/
def letterB (c : Nat) : Bool := decide (97 ≤ c) && decide (c ≤ 122)
def goodB (x : Str) : Bool := decide (1 ≤ x.length) && decide (x.length ≤ 30) && x.cps.toList.all letterB
theorem goodB_iff {x : Str} : goodB x = true ↔ GrT.Good x := by
  unfold goodB GrT.Good
  rw [Bool.and_eq_true, Bool.and_eq_true, decide_eq_true_iff, decide_eq_true_iff, List.all_eq_true]
  constructor
  · rintro ⟨⟨h1, h2⟩, h3⟩
    refine ⟨h1, h2, fun c hc => ?_⟩
    have := h3 c hc
    unfold letterB at this
    rw [Bool.and_eq_true, decide_eq_true_iff, decide_eq_true_iff] at this
    exact this
  · rintro ⟨h1, h2, h3⟩
    refine ⟨⟨h1, h2⟩, fun c hc => ?_⟩
    unfold letterB
    rw [Bool.and_eq_true, decide_eq_true_iff, decide_eq_true_iff]
    exact h3 c hc
theorem ge_b (c : Nat) : (!decide ((⟨#[c]⟩ : Str).cps.toList < (Str.ofString "a").cps.toList)) = decide (97 ≤ c) := by
  rw [a_tl]
  show (!decide ([c] < [97])) = decide (97 ≤ c)
  by_cases h : 97 ≤ c
  · rw [decide_eq_true h, Bool.not_eq_true', decide_eq_false_iff_not]
    intro q
    rcases List.cons_lt_cons_iff.mp q with e | ⟨_, e⟩
    · omega
    · exact absurd e (List.not_lt_nil _)
  · rw [decide_eq_false h, Bool.not_eq_false', decide_eq_true_iff]
    exact List.cons_lt_cons_iff.mpr (.inl (by omega))
theorem le_b (c : Nat) : (!decide ((Str.ofString "z").cps.toList < (⟨#[c]⟩ : Str).cps.toList)) = decide (c ≤ 122) := by
  rw [z_tl]
  show (!decide ([122] < [c])) = decide (c ≤ 122)
  by_cases h : c ≤ 122
  · rw [decide_eq_true h, Bool.not_eq_true', decide_eq_false_iff_not]
    intro q
    rcases List.cons_lt_cons_iff.mp q with e | ⟨_, e⟩
    · omega
    · exact absurd e (List.not_lt_nil _)
  · rw [decide_eq_false h, Bool.not_eq_false', decide_eq_true_iff]
    exact List.cons_lt_cons_iff.mpr (.inl (by omega))
def spIsWord : Sp := fun vs H Q _ => ∃ x : Str, vs = [.str x] ∧ x.length ≤ 2000 ∧ ∀ H', Same H H' → Q (.bl (goodB x)) H'
section
variable {P : Program} {w : World} {K : PySem.W.Frag} {mg : Str → Option Value} {base : Heap} {C : Addr}
theorem c_is_word (T : Bu mg) (ba : mg "all" = none) {tL : Tok} (hL : mg "LONGEST_NAME" = some (.int 30 tL)) (D : Dfn K mg "is_name" sIsName ["text"]) : Cal P w K mg base 1 "is_name" spIsWord := by
  refine D.cal scIsName (fun vs H Q E h => ?_) (fun f cdv A outer s H vs Q E hr h => ?_)
  · obtain ⟨x, rfl, _⟩ := h
    rfl
  · obtain ⟨x, rfl, xl, q⟩ := h
    refine ⟨_, (pss_one (ps_ret (pe_and (pe_chain op_le op_le pe_int (pe_callB call_len_str (by rfl) T.b_len PySem.boot_len (pa_cons (pv 0) pa_nil)) (pe_glob (by rfl) hL (v := .int 30) ⟨tL, rfl⟩))
      (pe_one (pe_callB (cr_all rfl) (by rfl) ba (by decide +kernel) (pa_cons (pe_lc (own := [("letter", 1)]) (g := gName 1) (tt := tYes) rfl scIsName.nd (pi_str (pv 0)) (blkOk_by (own := [("letter", 1)]) (N := ["text", "letter"]) (sc := defScope sIsName) (by decide +kernel)) (fun _ _ _ _ _ => pg_name (i := 1) scIsName.nd rfl (Or.inl rfl)) (fun _ _ _ _ _ => pts_nil) (fun _ _ _ _ _ => (by exact (pe_chain op_le_str op_le_str pe_str (pv 1) pe_str)))) pa_nil)))))), ?_⟩
    have hsz : x.cps.size = x.length := rfl
    refine ⟨_, rfl, x, rfl, line_big (by omega), _, _, rfl, rfl, ?_⟩
    by_cases h1 : 1 ≤ x.length
    · refine ⟨_, rfl, ?_⟩
      rw [if_pos (decide_eq_true (by omega))]
      refine ⟨_, _, rfl, rfl, _, rfl, ?_⟩
      by_cases h2 : x.length ≤ 30
      · rw [if_pos (decide_eq_true (by omega))]
        refine ⟨_, rfl, _, rfl, fun Z hZ => lc_it walk_str (fun i H5 => H5 Z = some (.lst (((x.cps.toList.take i).map letterB).map V.bl)) ∧ Same H H5) ⟨upd_same, Same.new (Same.refl _) hZ⟩ (fun _ _ _ _ => True.intro) ?_ ?_⟩
        · rintro i y H5 H6 hi ⟨eZ, sm⟩ ⟨rfl, c, hc, rfl⟩
          have hc2 : x.cps.toList[i]? = some c := by
            rw [Array.getElem?_toList]
            exact hc
          have fin : ∀ b, b = letterB c → ∃ vs, H6 Z = some (.lst vs) ∧ vs.length < sizeLine ∧ (upd H6 Z (.lst (vs ++ [V.bl b]))) Z = some (.lst (((x.cps.toList.take (i + 1)).map letterB).map V.bl)) ∧ Same H (upd H6 Z (.lst (vs ++ [V.bl b]))) := by
            rintro b rfl
            refine ⟨_, eZ, line_big (by rw [List.length_map, List.length_map, List.length_take]; omega), ?_, fun b o e => by rw [upd_ne (ne_of_none e hZ)]; exact sm b o e⟩
            rw [upd_same, List.take_add_one, hc2, Option.toList_some, List.map_append, List.map_append]
            rfl
          refine ⟨rfl, iteT (A := _) (B := True) (iteT ⟨_, rfl, _, _, rfl, rfl, _, rfl, ?_⟩)⟩
          rw [ge_b]
          by_cases h : 97 ≤ c
          · rw [if_pos (decide_eq_true h)]
            obtain ⟨vs, f1, f2, f3, f4⟩ := fin (decide (c ≤ 122)) (by unfold letterB; rw [decide_eq_true h, Bool.true_and])
            refine ⟨_, _, rfl, rfl, vs, f1, f2, ?_, ?_⟩
            · rw [le_b]
              exact f3
            · rw [le_b]
              exact f4
          · rw [if_neg (by rw [decide_eq_false h]; exact Bool.false_ne_true)]
            obtain ⟨vs, f1, f2, f3, f4⟩ := fin false (by unfold letterB; rw [decide_eq_false h, Bool.false_and])
            exact ⟨vs, f1, f2, f3, f4⟩
        · rintro H5 ⟨eZ, sm⟩
          refine ⟨Z, _, rfl, .of eZ, ?_⟩
          have e : (((x.cps.toList.take x.cps.size).map letterB)).all id = goodB x := by
            rw [List.take_of_length_le (by rw [Array.length_toList]; exact Nat.le_refl _), List.all_map]
            unfold goodB
            rw [decide_eq_true h1, decide_eq_true h2, Bool.true_and, Bool.true_and]
            rfl
          rw [e]
          exact q _ sm
      · rw [if_neg (fun z => h2 (by have := of_decide_eq_true z; omega))]
        have e : goodB x = false := by
          rw [← Bool.not_eq_true, goodB_iff]
          exact fun g => h2 g.2.1
        have := q H (Same.refl _)
        rw [e] at this
        exact this
    · have e : goodB x = false := by
        rw [← Bool.not_eq_true, goodB_iff]
        exact fun g => h1 g.1
      have := q H (Same.refl _)
      rw [e] at this
      refine ⟨_, rfl, ?_⟩
      rw [if_neg (fun z => h1 (by have := of_decide_eq_true z; omega))]
      refine ⟨false, rfl, ?_⟩
      rw [if_neg Bool.false_ne_true]
      exact this
end
end Lw
/-! One dict's entries laid into another one, as a displayed dict with two stars does it. -/
namespace GrMg
open PySem PySem.Spec PyProof.Rows
section
variable {prog : Program} {w : World} {K : Type} [DecidableEq K] {knd : KeyKind prog w K} {A : Around} {E : Value → Shared → Prop} {s : Shared}
theorem put_pairs {d : Addr} {m : List (K × Value)} {k : K} {kv v : Value} {Q : Unit → Shared → Prop} (hk : knd.is k kv = true) (D : s.heap.DictOf knd d m) (hz : m.length ≤ sizeLine)
    (q : ∀ h', h'.DictOf knd d (stored m k v) → Heap.SameBut d s.heap h' → Q () { s with heap := h' }) : wpAny (model prog w) A (dictPut d (knd.hash k) kv v) Q E s := by
  obtain ⟨o, es, ep, g1, g2, g3, g4, g5, g6⟩ := D
  have len : es.size ≤ sizeLine := by
    have e1 := g5.length
    rw [Array.length_toList] at e1
    omega
  have ix : (es.findIdx? fun y => knd.is k y.key) = m.findIdx? fun y => decide (y.1 = k) := by
    rw [← g5.findIdx k]
    obtain ⟨z⟩ := es
    simp
  unfold dictPut
  refine wpAny_bind (wpAny_dictFind_of hk g1 g3 g4 ?_)
  cases f : es.findIdx? fun y => knd.is k y.key with
  | some i =>
    have yes : (m.any fun y => decide (y.1 = k)) = true := any_of_findIdx_some (ix ▸ f)
    have st : stored m k v = m.map fun y => if y.1 = k then (y.1, v) else y := by rw [stored, if_pos yes]
    refine wpAny_updateDict g1 g3 (q _ ?_ (Heap.SameBut.update ..))
    refine ⟨_, _, ep, Heap.get?_update_self _ g1 (Obj.isFreed_of_dict (Obj.data_mapDict g3 _)), g2.mapDict _, Obj.data_mapDict g3 _, g4.modify _ _, ?_, ?_⟩
    · have at_ : (es.toList.findIdx? fun y => knd.is k y.key) = some i := by
        rw [← f]
        obtain ⟨z⟩ := es
        simp
      have z := g5.modify g6 at_ v
      rw [st]
      obtain ⟨y⟩ := es
      simpa using z
    · rw [st, keys_map_store]
      exact g6
  | none =>
    have no : k ∉ m.map (·.1) := not_mem_of_findIdx_none (ix ▸ f)
    have no2 : ¬ (m.any fun y => decide (y.1 = k)) = true := fun c => by
      obtain ⟨y, hy, z⟩ := List.any_eq_true.mp c
      exact no (List.mem_map.mpr ⟨y, hy, of_decide_eq_true z⟩)
    have st : stored m k v = m ++ [(k, v)] := by rw [stored, if_neg no2]
    refine wpAny_updateDictKeys (hz := len) g1 g3 (q _ ?_ (Heap.SameBut.update ..))
    refine ⟨_, _, ep + 1, Heap.get?_update_self _ g1 (Obj.isFreed_of_dict (Obj.data_mapDictKeys g3 _)), g2.mapDictKeys _, Obj.data_mapDictKeys g3 _, g4.push hk _, ?_, ?_⟩
    · have z := g5.append hk (knd.hash k) v
      rw [st]
      obtain ⟨y⟩ := es
      simpa using z
    · rw [st, List.map_append]
      refine List.nodup_append.mpr ⟨g6, by simp, fun x hx y hy z => ?_⟩
      have e1 : y = k := by simpa using hy
      exact no (by rw [← e1, ← z]; exact hx)
theorem stored_len {m : List (K × Value)} {k : K} {v : Value} : (stored m k v).length ≤ m.length + 1 := by
  unfold stored
  split
  · rw [List.length_map]
    exact Nat.le_succ _
  · rw [List.length_append]
    exact Nat.le_refl _
/-- where a dict's object stands, it is a dict -/
theorem ty_dict {a : Addr} {ks : List (K × Value)} (B : s.heap.DictOf knd a ks) : s.TypeIs (.ref a) "dict" := B.typeIs
theorem pairs_at : ∀ {es : List DictEntry} {ks : List (K × Value)} {i : Nat} {e : DictEntry}, Pairs knd es ks → es[i]? = some e → ∃ y, ks[i]? = some y ∧ knd.is y.1 e.key = true ∧ e.val = y.2
  | _, _, 0, e, .cons (kv := y) h1 h2 _, h => by
    have z := Option.some.inj h
    subst z
    exact ⟨y, rfl, h1, h2⟩
  | _, _, i + 1, e, .cons _ _ t, h => by
    have h' := h
    rw [List.getElem?_cons_succ] at h'
    obtain ⟨y, a, b⟩ := pairs_at t h'
    exact ⟨y, by rw [List.getElem?_cons_succ]; exact a, b⟩
theorem range_loop {M : Model} {n : Nat} {f : Nat → PUnit → Sem (ForInStep PUnit)} (inv : Nat → Shared → Prop) (h0 : inv 0 s)
    (turn : ∀ i c s', i < n → inv i s' → wpAny M A (f i c) (fun r s2 => r = .yield ⟨⟩ ∧ inv (i + 1) s2) E s') : wpAny M A (forIn (List.range n) PUnit.unit f) (fun _ s' => inv n s') E s := by
  refine wpAny_forIn_list f (fun rest _ s' => ∃ i, rest = (List.range n).drop i ∧ i ≤ n ∧ inv i s') _ (fun x rest c s' hi => ?_) (fun c s' hi => ?_) _ _ ⟨0, rfl, Nat.zero_le _, h0⟩
  · obtain ⟨i, e, le, hv⟩ := hi
    have hlt : i < n := by
      by_cases q : i < n
      · exact q
      · rw [List.drop_eq_nil_of_le (by rw [List.length_range]; omega)] at e
        cases e
    rw [List.drop_eq_getElem_cons (by rw [List.length_range]; exact hlt)] at e
    injection e with e1 e2
    rw [List.getElem_range] at e1
    subst e1
    refine wpAny_mono (turn x c s' hlt hv) (fun r s2 h => ?_) fun _ _ z => z
    obtain ⟨rfl, h2⟩ := h
    exact ⟨x + 1, e2, hlt, h2⟩
  · obtain ⟨i, e, le, hv⟩ := hi
    have hn : i = n := by
      have := congrArg List.length e
      rw [List.length_drop, List.length_range] at this
      simp at this
      omega
    rw [← hn]
    exact hv
theorem merge_pairs {d a : Addr} {m ks : List (K × Value)} {Q : Unit → Shared → Prop} (ne : a ≠ d) (hs : (a == sysModules) = false) (D : s.heap.DictOf knd d m) (B : s.heap.DictOf knd a ks) (hz : m.length + ks.length ≤ sizeLine)
    (nr : ∀ k r, knd.is k (.ref r) = false) (q : ∀ h', h'.DictOf knd d (ks.foldl (fun m y => stored m y.1 y.2) m) → Heap.SameBut d s.heap h' → Q () { s with heap := h' }) :
    wpAny (model prog w) A (mergeMapping d (.ref a) false) Q E s := by
  have ty : s.TypeIs (.ref a) "dict" := B.typeIs
  obtain ⟨ob, eb, nb, b1, b2, b3, b4, b5, b6⟩ := id B
  obtain ⟨od, ed, nd, d1, d2, d3, d4, d5, d6⟩ := id D
  unfold mergeMapping
  refine wpAny_bind (m := isInstance (.ref a) (.type "dict")) ?_
  refine wpAny_isInstance (T := "dict") (U := "dict") (b := true) ty (by rw [isSubtype_type]; kernel_rfl) ?_
  simp only [if_true]
  refine wpAny_bind (m := specialOf (.ref a) "__iter__") ?_
  refine wpAny_specialOf ty PySem.F.slot_dict_iter.lookup ?_
  refine wpAny_bind (wpAny_pure ?_)
  simp only [beq_self_eq_true]
  rw [if_neg (by rw [hs]; exact Bool.false_ne_true)]
  let inv : Nat → Shared → Prop := fun i s' => ∃ h', s' = { s with heap := h' } ∧ h'.DictOf knd d ((ks.take i).foldl (fun m y => stored m y.1 y.2) m) ∧ Heap.SameBut d s.heap h'
  have i0 : inv 0 s := ⟨s.heap, rfl, D, Heap.SameBut.refl _ _⟩
  have kl : eb.size = ks.length := by
    have z := b5.length
    rwa [Array.length_toList] at z
  have fl : ∀ (r : List (K × Value)) (m : List (K × Value)), (r.foldl (fun m y => stored m y.1 y.2) m).length ≤ m.length + r.length := by
    intro r
    induction r with
    | nil => exact fun m => Nat.le_refl _
    | cons y r ih =>
      intro m
      have z := ih (stored m y.1 y.2)
      have z2 := stored_len (m := m) (k := y.1) (v := y.2)
      rw [List.foldl_cons, List.length_cons]
      omega
  have last : ∀ s', inv eb.size s' → Q () s' := fun s' ⟨h', e, x, y⟩ => by
    rw [kl, List.take_length] at x
    rw [e]
    exact q h' x y
  have step : ∀ i s', i < eb.size → inv i s' → ∃ e, eb[i]? = some e ∧ s'.heap.get? a = some ob ∧ ∀ Q' : Unit → Shared → Prop, (∀ s2, s2.heap.get? a = some ob → inv (i + 1) s2 → Q' () s2) → wpAny (model prog w) A (dictPut d e.hash e.key e.val) Q' E s' := by
    rintro i s' hi ⟨h', rfl, x, y⟩
    have ha : h'.get? a = some ob := (y.2 a ne).trans b1
    refine ⟨eb[i], Array.getElem?_eq_getElem hi, ha, fun Q' k => ?_⟩
    obtain ⟨z, hz1, hz2, hz3⟩ := pairs_at b5 (by rw [Array.getElem?_toList, Array.getElem?_eq_getElem hi])
    obtain ⟨k', hk1, hk2⟩ := b4 eb[i] (Array.getElem_mem hi)
    have ek : k' = z.1 := knd.inj _ _ _ hk1 hz2
    rw [hk2, ek, hz3]
    refine put_pairs hz2 x ?_ (fun h2 g1 g2 => k _ ((g2.2 a ne).trans ha) ⟨h2, rfl, ?_, ?_⟩)
    · have := fl (ks.take i) m
      rw [List.length_take] at this
      omega
    · rw [List.take_add_one, hz1, Option.toList_some, List.foldl_append]
      exact g1
    · exact y.trans g2
  refine wpAny_bind (wpAny_dictEntries d1 d3 ?_)
  have turn : True := trivial
  by_cases emp : ed.isEmpty = true
  · rw [if_pos emp]
    refine wpAny_bind (wpAny_dictEntries b1 b3 ?_)
    refine wpAny_bind ?_
    refine wpAny_forIn_array' _ (fun (rest : List DictEntry) (_ : PUnit) (s' : Shared) => s' = s ∧ ∀ e ∈ rest, e ∈ eb.toList) _ ?_ ?_ eb ⟨⟩ ⟨rfl, fun e h => h⟩
    · rintro x rest c s' ⟨rfl, h⟩
      obtain ⟨k', hk1, _⟩ := b4 x (by simpa using h x List.mem_cons_self)
      cases hx : x.key with
      | ref r =>
        rw [hx, nr] at hk1
        cases hk1
      | _ => exact wpAny_pure ⟨rfl, fun e he => h e (List.mem_cons_of_mem _ he)⟩
    · rintro c s' ⟨rfl, _⟩
      refine wpAny_bind (wpAny_dictEntries b1 b3 (wpAny_bind (wpAny_dictEpoch b1 b3 ?_)))
      refine wpAny_bind (wpAny_mono (range_loop inv i0 fun i c s2 hi hv => ?_) (fun _ s2 h => wpAny_pure (last s2 h)) fun _ _ z => z)
      obtain ⟨e, he, ha, k⟩ := step i s2 hi hv
      refine wpAny_bind (wpAny_dictEntries ha b3 ?_)
      rw [he]
      refine wpAny_bind (wpAny_holding ?_)
      simp only [Bool.false_eq_true, if_false]
      refine k _ fun s3 h1 h2 => wpAny_bind (wpAny_dictEpoch h1 b3 ?_)
      simp only [bne_self_eq_false, Bool.false_eq_true, if_false]
      exact wpAny_pure ⟨rfl, h2⟩
  · rw [if_neg emp]
    refine wpAny_bind (wpAny_dictEntries b1 b3 (wpAny_bind (wpAny_dictEpoch b1 b3 ?_)))
    refine wpAny_bind (wpAny_mono (range_loop inv i0 fun i c s2 hi hv => ?_) (fun _ s2 h => wpAny_pure (last s2 h)) fun _ _ z => z)
    obtain ⟨e, he, ha, k⟩ := step i s2 hi hv
    refine wpAny_bind (wpAny_dictEntries ha b3 ?_)
    rw [he]
    refine wpAny_bind (wpAny_holding ?_)
    simp only [Bool.false_eq_true, if_false]
    refine k _ fun s3 h1 h2 => wpAny_bind (wpAny_dictEpoch h1 b3 ?_)
    simp only [bne_self_eq_false, Bool.false_eq_true, if_false]
    exact wpAny_pure ⟨rfl, h2⟩
end
end GrMg
namespace Lw
open PySem PySem.Spec PyProof.Rows L2 GrT GrOwn GrMg
theorem dict2 {prog : Program} {w : World} {A : Around} {E : Value → Shared → Prop} {s : Shared} {t1 t2 : Sem Value} {Q : Value → Shared → Prop}
    (h : wpAny (model prog w) A t1 (fun v s1 => wpAny (model prog w) A (mergeMapping s.heap.objs.size v false) (fun _ s2 => wpAny (model prog w) A t2 (fun u s3 => wpAny (model prog w) A (mergeMapping s.heap.objs.size u false) (fun _ s4 => Q (.ref s.heap.objs.size) s4) (fun _ _ => False) s3) E s2) (fun _ _ => False) s1) E { s with heap := s.heap.push { cls := .type "dict", data := .dict #[] } }) :
    wpAny (model prog w) A (dictDisplay [(none, t1), (none, t2)]) Q E s := by
  unfold dictDisplay
  simp only [List.forIn_cons, List.forIn_nil, List.isEmpty_nil, if_true, pure_bind, bind_assoc]
  have quiet : ∀ {m : Sem Unit} {k1 k3 : Value → Sem Unit} {k2 : Value → Sem Unit} {Q' : Unit → Shared → Prop} {E' : Value → Shared → Prop} {s' : Shared}, wpAny (model prog w) A m Q' (fun _ _ => False) s' → wpAny (model prog w) A (((m.onRaise k1).tryCatch k2).onRaise k3) Q' E' s' := fun {m k1 k3 k2 Q' E' s'} z =>
    wpAny_onRaise (wpAny_tryCatch (wpAny_onRaise (wpAny_mono z (fun _ _ q => q) fun _ _ q => q.elim)))
  refine wpAny_bind (wpAny_alloc (wpAny_bind (wpAny_holding (wpAny_mono h (fun v s1 h1 => ?_) fun _ _ z => z))))
  refine wpAny_bind (quiet (wpAny_holding (wpAny_mono h1 (fun _ s2 h2 => ?_) fun _ _ z => z)))
  refine wpAny_bind (wpAny_holding (wpAny_mono h2 (fun u s3 h3 => ?_) fun _ _ z => z))
  refine wpAny_bind (quiet (wpAny_holding (wpAny_mono h3 (fun _ s4 h4 => ?_) fun _ _ z => z)))
  exact wpAny_pure h4
def mergeK (m ks : List (Key × V)) : List (Key × V) := ks.foldl (fun m y => putK m y.1 y.2) m
section
variable {X : Cx} {pins : List (Addr × Obj)} {σ : L2.St} {H : Hp} {s : Shared}
theorem merge_ok {d a : Addr} {ls ks : List (Key × V)} {Q : Unit → Shared → Prop} (I : Inv X pins σ H s) (hd : H d = some (.dK ls)) (ha : H a = some (.dK ks)) (ne : a ≠ d) (hz : ls.length + ks.length ≤ 1000)
    (q : ∀ s', Inv X pins σ (upd H d (.dK (mergeK ls ks))) s' → Q () s') : wpAny (model X.prog X.w) X.A (mergeMapping d (.ref a) false) Q (fun _ _ => False) s := by
  obtain ⟨z1, y1, v1, r1, D⟩ := dk_of I.hok hd
  obtain ⟨z2, y2, v2, r2, B⟩ := dk_of I.hok ha
  have l1 := r1.length
  have l2 := r2.length
  obtain ⟨hp, g, dr, t, os⟩ := s
  refine merge_pairs ne y2 D B (Nat.le_trans (by omega) (line_big (n := 1000) (by decide))) (fun k r => ?_) fun h' hD hs => q _ ?_
  · cases k <;> rfl
  · have rel : ∀ {ks : List (Key × V)} {v2 : List (Key × Value)} {ls : List (Key × V)} {v1 : List (Key × Value)}, KV ls v1 → KV ks v2 → KV (mergeK ls ks) (v2.foldl (fun m y => stored m y.1 y.2) v1) := by
      intro ks v2 ls v1 h1 h2
      induction h2 generalizing ls v1 with
      | nil => exact h1
      | cons r _ ih => exact ih (by dsimp only; rw [← r.1]; exact h1.put _ r.2)
    have ll : ∀ (ks ls : List (Key × V)), (mergeK ls ks).length ≤ ls.length + ks.length := by
      intro ks
      induction ks with
      | nil => exact fun ls => Nat.le_refl _
      | cons y r ih =>
        intro ls
        have z := ih (putK ls y.1 y.2)
        have z2 := length_putK ls y.1 y.2
        show (mergeK (putK ls y.1 y.2) r).length ≤ _
        rw [List.length_cons]
        omega
    have he : ∃ o, h'.get? d = some o := by
      obtain ⟨o, _, _, e, _⟩ := hD
      exact ⟨o, e⟩
    exact d_write I (t' := t) (by rw [hd]; exact True.intro) hs he (dk_new (Nat.le_trans (ll ks ls) (Nat.le_trans hz (line_big (by decide)))) y1 (rel r1 r2) hD)
end
/-- {**x, **y} -/
def tMrg2 (ta tb : TE) : TE := fun σ H Q => ∀ D, H D = none → ta σ (upd H D (.dK [])) fun x H1 => ∃ a ks, x = .ref a ∧ a ≠ D ∧ H1 a = some (.dK ks) ∧ H1 D = some (.dK []) ∧ ks.length ≤ 400 ∧
  tb σ (upd H1 D (.dK (mergeK [] ks))) fun y H3 => ∃ b ms, y = .ref b ∧ b ≠ D ∧ H3 b = some (.dK ms) ∧ H3 D = some (.dK (mergeK [] ks)) ∧ ms.length ≤ 400 ∧ Q (.ref D) (upd H3 D (.dK (mergeK (mergeK [] ks) ms)))
theorem mergeK_len (ks : List (Key × V)) : ∀ ls : List (Key × V), (mergeK ls ks).length ≤ ls.length + ks.length := by
  induction ks with
  | nil => exact fun ls => Nat.le_refl _
  | cons y r ih =>
    intro ls
    have z := ih (putK ls y.1 y.2)
    have z2 := length_putK ls y.1 y.2
    show (mergeK (putK ls y.1 y.2) r).length ≤ _
    rw [List.length_cons]
    omega
theorem pe_mrg2 {X : Cx} {a b : Expr} {ta tb : TE} {pos : Pos} (ha : PE X a ta) (hb : PE X b tb)
    (he : eval (.Dict [none, none] [a, b] pos) X.env = (do
      standAt pos
      dictDisplay [(none, do let x ← eval a X.env; standAt pos; pure x), (none, do let x ← eval b X.env; standAt pos; pure x)]) := by rfl) : PE X (.Dict [none, none] [a, b] pos) (tMrg2 ta tb) := by
  refine ⟨fun pins s σ H Q I h => ?_⟩
  rw [he]
  have hn : H s.heap.objs.size = none := I.hok.fresh (Nat.le_refl _)
  have I1 := I.laid (a := s.heap.objs.size) (o := .dK []) (t' := s.toks) (fun _ _ q => Heap.get?_push_of_some _ q) (Nat.le_refl _) (dk_empty s.heap I.big)
  refine wpAny_bind (wpAny_standAt (dict2 ?_))
  refine wpAny_bind (thn (ha.run pins _ σ _ _ I1 (h _ hn)) fun v s1 hv => wpAny_bind (wpAny_standAt (wpAny_pure ?_)))
  obtain ⟨x, H1, I2, rx, p, ks, rfl, np, ep, eD, kl, q1⟩ := hv
  cases rx
  refine merge_ok I2 eD ep np (by rw [List.length_nil]; omega) fun s2 I3 => ?_
  refine wpAny_bind (thn (hb.run pins _ σ _ _ I3 q1) fun u s3 hu => wpAny_bind (wpAny_standAt (wpAny_pure ?_)))
  obtain ⟨y, H3, I4, ry, r, ms, rfl, nr, er, eD3, ml, q2⟩ := hu
  cases ry
  have l0 := mergeK_len ks []
  refine merge_ok I4 eD3 er nr (by rw [List.length_nil] at l0; omega) fun s4 I5 => ?_
  exact ⟨.ref s.heap.objs.size, _, I5, rfl, q2⟩
end Lw
namespace Lw
open PySem PySem.Spec PyProof.Rows L2 GrT GrOwn GrMg
/-! ### a def that keeps two promises, one of which may raise -/
theorem FnOk.orX {P : Program} {w : World} {K : PySem.W.Frag} {mg : Str → Option Value} {base : Heap} {CX : CXT} {k : Nat} {f : Addr} {fd : FuncData} {ps : List Str} {sp1 sp2 : Sp}
    (F : L2.FnOk P w K mg base CX0 k f fd ps sp1) (G : L2.FnOk P w K mg base CX k f fd ps sp2) : L2.FnOk P w K mg base CX k f fd ps (fun vs H Q E => sp1 vs H Q E ∨ sp2 vs H Q E) := by
  refine ⟨fun vs H Q E h => h.elim (F.len vs H Q E) (G.len vs H Q E), fun A outer s H args us vs Q E hr e0 hb r h => ?_⟩
  rcases h with h | h
  · refine codeAny_mono (F.run A outer s H args us vs Q E hr e0 hb r h) fun x s' z => ?_
    match x, z with
    | .ok (.ret u), z => exact z
    | .error e, z => exact z.elim
  · exact G.run A outer s H args us vs Q E hr e0 hb r h
/-! ### what is raised while a dict is walked: the walk's lock is gone -/
def WL (X : Cx) (W : WX) : WX := fun c d σ H => W c d σ H ∨ ∃ a od u, H a = some (.frz od u) ∧ (∀ o' u', X.H_0 a ≠ some (.frz o' u')) ∧ W c d σ (upd H a u)
theorem takes_lock {X : Cx} {W : WX} (t : Takes X W) : Takes X (WL X W) := fun u s' ⟨a, B, sI, pins, σ, H, cls, d, e, I, nb, up, sky, na, os, ag, w⟩ => by
  rcases w with w | ⟨b, od, v, hb, hn, w⟩
  · exact t u s' ⟨a, B, sI, pins, σ, H, cls, d, e, I, nb, up, sky, na, os, ag, w⟩
  · exact t u s' ⟨a, B, sI, pins, σ, upd H b v, cls, d, e, I.unlock hb hn, nb, up, sky, by
      rw [upd_ne (fun z => by rw [z, hb] at na; cases na)]
      exact na, os, ag, w⟩
/-! ### calls that may raise -/
def tSMetX (C : Addr) (sp : Sp) (E : L2.St → XK) (ta : TE) (t : TA) : TE := fun σ H Q => ta σ H fun x H1 => x = .ref C ∧ t σ H1 fun vs H2 => sp vs H2 Q (E σ)
def tMethX (C : Addr) (m : Str) (sp : Sp) (E : L2.St → XK) (ta : TE) (t : TA) : TE := fun σ H Q => ta σ H fun x H1 => ∃ a dx fs, x = .ref a ∧ H1 a = some (.ins C dx fs) ∧ fs.lookup m = none ∧ t σ H1 fun vs H2 => sp (x :: vs) H2 Q (E σ)
section
variable {X : Cx} {CX : CXT} {k : Nat} {C p g f : Addr} {mc : Value} {fd : FuncData} {ps : List Str} {sp : Sp} {E : L2.St → XK} {o e : Expr} {es : List Expr} {m : Str} {pos apos : Pos} {ta : TE} {t : TA} {pl : Sem Bool}
theorem pe_smX (he : PE X o ta) (c : SMet X.K C mc m p g) (F : L2.FnOk X.prog X.w X.K X.mg X.base CX k g fd ps sp) (hr : Room k X.A) (hb : Binds X.K fd ps []) (hx : ∀ σ, PassesAt CX X σ (E σ)) (ha : PA X (e :: es) t)
    (hst : starEach (e :: es) X.env = (false, eval e X.env) :: starEach es X.env := by rfl) (hpl : (backTo pos (starEach es X.env)).any (·.1) = false := by rfl)
    (ht : eval (.Call (.Attribute o m apos) (e :: es) [] pos) X.env = (do
      let ov ← eval o X.env
      standAt apos.atName
      let (f, first) ← holding [ov] (getMethod ov m pl)
      callWith pos f first (backTo pos (starEach (e :: es) X.env)) (backToKw pos (keywordEach [] X.env))) := by rfl) :
    PE X (.Call (.Attribute o m apos) (e :: es) [] pos) (tSMetX C sp E ta t) := by
  refine ⟨fun pins s σ H Q I h => PySem.W.methodCall_KW (pl := pl) (thn (he.run pins s σ H _ I h) fun u s1 hv => ?_) ht⟩
  obtain ⟨x, H1, I1, rx, rfl, q⟩ := hv
  obtain rfl : u = Value.ref C := rx
  obtain ⟨rest, hp⟩ := c.rc
  refine PySem.W.method_cls I1.kIn c.rd.ga (PySem.W.cls_bind I1.kIn c.rd.rd c.at_ ?_)
  refine wpAny_call (PySem.W.sm_get (s := { s1 with toks := s1.toks + 1 }) I1.kIn hp (PySem.W.handed_on rfl ?_))
  have I2 := I1.tok (s1.toks + 1)
  refine PySem.W.callWith_K (h₀ := X.base) I2.ok.mod.kin c.kp (thn (ha.run pos pins _ σ H1 _ I2 q) fun us s2 h2 => ?_) hst hpl
  obtain ⟨vs, H2, I3, rv, q2⟩ := h2
  exact ⟨I3.kIn, run_atS F hr I3.env0 hb (hx σ) I3 rv q2⟩
theorem pe_methX (he : PE X o ta) (c : Cls X.K C) (hm : Meth X.K C m f) (F : L2.FnOk X.prog X.w X.K X.mg X.base CX k f fd ps sp) (hr : Room k X.A) (hb : Binds X.K fd ps []) (hx : ∀ σ, PassesAt CX X σ (E σ)) (ha : PA X (e :: es) t)
    (hst : starEach (e :: es) X.env = (false, eval e X.env) :: starEach es X.env := by rfl) (hpl : (backTo pos (starEach es X.env)).any (·.1) = false := by rfl)
    (ht : eval (.Call (.Attribute o m apos) (e :: es) [] pos) X.env = (do
      let ov ← eval o X.env
      standAt apos.atName
      let (f, first) ← holding [ov] (getMethod ov m pl)
      callWith pos f first (backTo pos (starEach (e :: es) X.env)) (backToKw pos (keywordEach [] X.env))) := by rfl) :
    PE X (.Call (.Attribute o m apos) (e :: es) [] pos) (tMethX C m sp E ta t) := by
  refine ⟨fun pins s σ H Q I h => ?_⟩
  refine PySem.W.methodCall_KW (pl := pl) (thn (he.run pins s σ H _ I h) fun u s1 ⟨x, H1, I1, rx, a, dx, fs, ex, ea, l, q⟩ => ?_) ht
  subst ex
  obtain rfl : u = Value.ref a := rx
  refine getmeth_ok I1 ea c hm l ?_
  refine PySem.W.callWith_K (first := [.ref a]) (h₀ := X.base) I.ok.mod.kin hm.kp (thn (ha.run pos pins s1 σ H1 _ I1 q) fun us s2 ⟨vs, H2, I2, r, q2⟩ => ⟨I2.kIn, ?_⟩) hst hpl
  exact run_atS (us := .ref a :: us) (vs := .ref a :: vs) F hr I2.env0 hb (hx σ) I2 (.cons rfl r) q2
end
/-! ### {**a, k: v} -/
theorem dict1k {prog : Program} {w : World} {A : Around} {E : Value → Shared → Prop} {s : Shared} {t1 tk tv : Sem Value} {Q : Value → Shared → Prop}
    (h : wpAny (model prog w) A t1 (fun v s1 => wpAny (model prog w) A (mergeMapping s.heap.objs.size v false) (fun _ s2 => wpAny (model prog w) A (subDict [(tk, tv)]) (fun b s3 => wpAny (model prog w) A (mergeMapping s.heap.objs.size (.ref b) false) (fun _ s4 => Q (.ref s.heap.objs.size) s4) (fun _ _ => False) s3) E s2) (fun _ _ => False) s1) E { s with heap := s.heap.push { cls := .type "dict", data := .dict #[] } }) :
    wpAny (model prog w) A (dictDisplay [(none, t1), (some tk, tv)]) Q E s := by
  unfold dictDisplay
  simp only [List.forIn_cons, List.forIn_nil, List.isEmpty_nil, if_true, pure_bind, bind_assoc]
  have quiet : ∀ {m : Sem Unit} {k1 k3 : Value → Sem Unit} {k2 : Value → Sem Unit} {Q' : Unit → Shared → Prop} {E' : Value → Shared → Prop} {s' : Shared}, wpAny (model prog w) A m Q' (fun _ _ => False) s' → wpAny (model prog w) A (((m.onRaise k1).tryCatch k2).onRaise k3) Q' E' s' := fun {m k1 k3 k2 Q' E' s'} z =>
    wpAny_onRaise (wpAny_tryCatch (wpAny_onRaise (wpAny_mono z (fun _ _ q => q) fun _ _ q => q.elim)))
  refine wpAny_bind (wpAny_alloc (wpAny_bind (wpAny_holding (wpAny_mono h (fun v s1 h1 => ?_) fun _ _ z => z))))
  refine wpAny_bind (quiet (wpAny_holding (wpAny_mono h1 (fun _ s2 h2 => ?_) fun _ _ z => z)))
  have e17 : ((0 + 1 : Nat) == 17) = false := rfl
  simp only [List.nil_append, List.length_cons, List.length_nil, e17, pure_bind, List.isEmpty_cons, Bool.false_eq_true, if_false, bind_assoc]
  refine wpAny_bind (wpAny_holding (wpAny_mono h2 (fun b s3 h3 => ?_) fun _ _ z => z))
  have quiet2 : ∀ {m : Sem Unit} {k1 : Value → Sem Unit} {Q' : Unit → Shared → Prop} {E' : Value → Shared → Prop} {s' : Shared}, wpAny (model prog w) A m Q' (fun _ _ => False) s' → wpAny (model prog w) A (m.onRaise k1) Q' E' s' := fun {m k1 Q' E' s'} z =>
    wpAny_onRaise (wpAny_mono z (fun _ _ q => q) fun _ _ q => q.elim)
  refine wpAny_bind (quiet2 (wpAny_holding (wpAny_mono h3 (fun _ s4 h4 => ?_) fun _ _ z => z)))
  exact wpAny_pure h4
/-- {**x, k: v} -/
def tMrg1 (ta tk tv : TE) : TE := fun σ H Q => ∀ D, H D = none → ta σ (upd H D (.dK [])) fun x H1 => ∃ a ks, x = .ref a ∧ a ≠ D ∧ H1 a = some (.dK ks) ∧ H1 D = some (.dK []) ∧ ks.length ≤ 400 ∧
  ∀ B, upd H1 D (.dK (mergeK [] ks)) B = none → tk σ (upd (upd H1 D (.dK (mergeK [] ks))) B (.dK [])) fun y H2 => tv σ H2 fun z H3 => ∃ k, y = kV k ∧ H3 B = some (.dK []) ∧ H3 D = some (.dK (mergeK [] ks)) ∧ B ≠ D ∧
    Q (.ref D) (upd (upd H3 B (.dK [(k, z)])) D (.dK (putK (mergeK [] ks) k z)))
theorem pe_mrg1 {X : Cx} {a k v : Expr} {ta tk tv : TE} {pos : Pos} (ha : PE X a ta) (hk : PE X k tk) (hv : PE X v tv)
    (he : eval (.Dict [none, some k] [a, v] pos) X.env = (do
      standAt pos
      dictDisplay [(none, do let x ← eval a X.env; standAt pos; pure x), (some (eval k X.env), do let x ← eval v X.env; standAt pos; pure x)]) := by rfl) : PE X (.Dict [none, some k] [a, v] pos) (tMrg1 ta tk tv) := by
  refine ⟨fun pins s σ H Q I h => ?_⟩
  rw [he]
  have hn : H s.heap.objs.size = none := I.hok.fresh (Nat.le_refl _)
  have I1 := I.laid (a := s.heap.objs.size) (o := .dK []) (t' := s.toks) (fun _ _ q => Heap.get?_push_of_some _ q) (Nat.le_refl _) (dk_empty s.heap I.big)
  refine wpAny_bind (wpAny_standAt (dict1k ?_))
  refine wpAny_bind (thn (ha.run pins _ σ _ _ I1 (h _ hn)) fun v s1 hv' => wpAny_bind (wpAny_standAt (wpAny_pure ?_)))
  obtain ⟨x, H1, I2, rx, p, ks, rfl, np, ep, eD, kl, q1⟩ := hv'
  cases rx
  refine merge_ok I2 eD ep np (by rw [List.length_nil]; omega) fun s2 I3 => ?_
  have hn2 : (upd H1 s.heap.objs.size (.dK (mergeK [] ks))) s2.heap.objs.size = none := I3.hok.fresh (Nat.le_refl _)
  have I4 := I3.laid (a := s2.heap.objs.size) (o := .dK []) (t' := s2.toks) (fun _ _ q => Heap.get?_push_of_some _ q) (Nat.le_refl _) (dk_empty s2.heap I3.big)
  refine wpAny_subDict (knd := mixKind X.prog X.w) (by show 1 ≤ 15; decide) ?_
  refine evalPairs_cons (thn (hk.run pins _ σ _ _ I4 (q1 _ hn2)) fun u s3 hu => ?_)
  obtain ⟨y, H2, I5, ry, q2⟩ := hu
  refine wpAny_bind (thn (hv.run pins _ σ _ _ I5 q2) fun u2 s4 hu2 => wpAny_bind (wpAny_standAt (wpAny_pure ?_)))
  obtain ⟨z, H3, I6, rz, kk, rfl, eB, eD3, ne, q3⟩ := hu2
  refine evalPairs_nil ?_
  have rel : VV ([(kk, z)].map (fun kv : Key × V => (kV kv.1, kv.2))) [(u, u2)] := .cons ⟨ry, rz⟩ .nil
  obtain ⟨rs, c, rk⟩ := carries_of (P := X.prog) (w := X.w) rel
  obtain ⟨zz, hd, vs0, r0, dd⟩ := dk_of I6.hok eB
  cases r0
  refine ⟨rs, c, dd, fun h' dd' hs => ?_⟩
  have hez : ∃ q, h'.get? s2.heap.objs.size = some q := let ⟨q, _, _, hq, _⟩ := dd'; ⟨q, hq⟩
  have I7 := d_write I6 (t' := s4.toks + [(u, u2)].length) (by rw [eB]; exact True.intro) hs hez (dk_new (kvs := [(kk, z)]) (by show 1 ≤ sizeLine; rw [sizeLine_eq]; decide) hd (rk.merge .nil) dd')
  have eB7 : (upd H3 s2.heap.objs.size (.dK [(kk, z)])) s2.heap.objs.size = some (.dK [(kk, z)]) := upd_same
  have eD7 : (upd H3 s2.heap.objs.size (.dK [(kk, z)])) s.heap.objs.size = some (.dK (mergeK [] ks)) := by
    rw [upd_ne ne.symm]
    exact eD3
  have l0 := mergeK_len ks []
  refine merge_ok I7 eD7 eB7 ne (by rw [List.length_nil] at l0; show (mergeK [] ks).length + 1 ≤ 1000; omega) fun s5 I8 => ?_
  exact ⟨.ref s.heap.objs.size, _, I8, rfl, q3⟩
end Lw
namespace Lw
open PySem PySem.Spec PyProof.Rows L2 GrT GrOwn GrMg
theorem merge_app : ∀ {l m : List (Str × V)}, (names (m ++ l)).Nodup → mergeK (dk m) (dk l) = dk (m ++ l)
  | [], m, _ => by rw [List.append_nil]; rfl
  | (x, v) :: r, m, h => by
    have h0 : (names m ++ x :: names r).Nodup := by
      have e : names (m ++ (x, v) :: r) = names m ++ x :: names r := by simp [names]
      rw [← e]
      exact h
    have h1 := List.nodup_append.mp h0
    have hx : x ∉ names m := fun z => h1.2.2 x z x List.mem_cons_self rfl
    show mergeK (putK (dk m) (Sum.inr x) v) (dk r) = _
    rw [dk_put x v m h1.1, put_any hx, merge_app (by rw [List.append_assoc]; exact h), List.append_assoc]
    rfl
theorem merge_nil {l : List (Str × V)} (h : (names l).Nodup) : mergeK [] (dk l) = dk l := merge_app (m := []) h
theorem rc_new {S S1 S2 : Addr → Prop} {C a : Addr} {H1 H' : Hp} {n : Nat} {lm l : List (Str × V)} {U : List (Str × T)} (pm : (names lm).Perm (names U)) (wf : Wf 40 U) (ch : ∀ x v u, look x lm = some v → look x U = some u → Rc S C H1 n v u)
    (ra : RA S1 C H' a l (lm.length + ((names lm).map (szf U)).sum)) (pl : (names l).Perm (names lm)) (lk : ∀ x, look x l = look x lm) (k : ∀ b o, S b → H1 b = some o → Ro o → H' b = some o) (w1 : ∀ b, S b → S2 b) (w2 : ∀ b, S1 b → S2 b) : Rc S2 C H' (n + 1) (.ref a) (.fds U) := by
  have e : (lm.length : Int) + ((names lm).map (szf U)).sum = nfs U := by
    have h1 : lm.length = U.length := by
      have := pm.length_eq
      rwa [List.length_map, List.length_map] at this
    rw [sum_perm pm, h1]
    exact nfs_len wf.nd
  rw [e] at ra
  exact .inr ⟨a, l, U, rfl, rfl, ra.wid w2, wf, pl.trans pm, fun x v u h1 h2 => ((ch x v u (by rw [← lk]; exact h1) h2).keep k).wid w1⟩
def All : Addr → Prop := fun _ => True
theorem Rc.out {S : Addr → Prop} {C : Addr} {H : Hp} {n : Nat} {a : Addr} {fs : List (Str × T)} (h : Rc S C H (n + 1) (.ref a) (.fds fs)) : ∃ l, RA S C H a l (nfs fs) ∧ Wf 40 fs ∧ (names l).Perm (names fs) ∧ ∀ x v u, look x l = some v → look x fs = some u → Rc S C H n v u := by
  refine h.cases (fun i e _ => by cases e) fun k a' l fs' en e1 e2 ra wf pm ch => ?_
  cases en
  cases e1
  cases e2
  exact ⟨l, ra, wf, pm, ch⟩
theorem perm_put {α β : Type} {l : List (Str × α)} {fs : List (Str × β)} {x : Str} {v : α} {t : β} (pm : (names l).Perm (names fs)) : (names (GrT.put x v l)).Perm (names (GrT.put x t fs)) := by
  rw [names_put, names_put]
  by_cases h : x ∈ names l
  · rw [if_pos h, if_pos (pm.mem_iff.mp h)]
    exact pm
  · rw [if_neg h, if_neg fun z => h (pm.mem_iff.mpr z)]
    exact pm.append_right _
def spPut (C CB : Addr) (n : Nat) : Sp := fun vs H Q E => ∃ (a : Addr) (fs : List (Str × T)) (x : Str) (v : V) (t : T), vs = [.ref a, .str x, v] ∧ Rc All C H (n + 1) (.ref a) (.fds fs) ∧ Rc All C H n v t ∧ fs.length ≤ 39 ∧ x.length ≤ 1000 ∧ (∀ c ∈ x.cps.toList, c < 16 ^ 8) ∧
  (Good x → ∀ r H', Rc All C H' (n + 1) (.ref r) (.fds (GrT.put x t fs)) → Same H H' → Q (.ref r) H') ∧
  (¬ Good x → ∀ d H', H' d = some (.xd [("name", .str x)]) → Same H H' → E (.ref CB) (some d) H')
abbrev sPut : Stmt := inClass (top 11) 5
section
variable {P : Program} {w : World} {K : PySem.W.Frag} {mg : Str → Option Value} {base : Heap} {C CB : Addr}
theorem scPut : FnScope ["self", "name", "value"] ["self", "name", "value"] (defScope sPut) := ⟨rfl, rfl, rfl, by decide +kernel, rfl, by decide +kernel, by decide +kernel⟩
theorem fn_put (T : Bu mg) (R : RecK K mg C) (I : InK K C) (vs_ : Cal P w K mg base 3 "value_size" (spVs C)) (iw : Cal P w K mg base 1 "is_name" spIsWord) (Z : ExK P K mg "BadName" "BadName.__init__" sBadInit CB) (n : Nat)
    {f : Addr} {fd : FuncData} (F : L2.Fun K "put" "Record.put" sPut f fd) : FnOk P w K mg base (L2.CX P w) 7 f fd ["self", "name", "value"] (spPut C CB n) := by
  obtain ⟨fI, fdI, iC, tI, FI, bI⟩ := fn_badname (w := w) (base := base) Z
  refine Fun.okX F scPut (fun vs H Q E h => ?_) (fun cdv A outer s H vs Q E hr h => ?_)
  · obtain ⟨a, fs, x, v, t, rfl, _⟩ := h
    rfl
  · obtain ⟨a, fs, x, v, t, rfl, rc, rv, hl, xl, xc, q1, q2⟩ := h
    have hr2 : Room 2 (A.deeper (envOfC "Record.put" (defScope sPut) s.heap.objs.size f cdv)) := hr.mono (by decide)
    obtain ⟨l, ⟨⟨dx, tp, d1, _, ea, _, ed1⟩, nl, _⟩, wf, pm, ch⟩ := Rc.out rc
    refine ⟨_, (pss_cons (ps_if (pt_not (pt_val (pe_c iw hr (by decide) rfl (pa_cons (pv 1) pa_nil))))
      (pss_one (ps_raise rfl (takes_of rfl rfl rfl rfl) (pmk_oex Z.T iC tI FI hr2 bI .nil pass0 (by rfl) Z.mgC (pa_cons (pv 1) pa_nil))))
      pss_nil)
      (pss_one (ps_ret (pe_new T R vs_ I hr (by decide) (by rfl) (pa_cons (pe_mrg1 (pe_fld (pv 0) rfl) (pv 1) (pv 2)) pa_nil))))), ?_⟩
    refine ⟨_, rfl, x, rfl, by omega, fun H0 s0 => ⟨_, rfl, ?_⟩⟩
    by_cases g : Good x
    · rw [goodB_iff.mpr g]
      refine iteF ?_
      intro D hD
      have s1 : Same H (upd H0 D (.dK [])) := Same.new s0 hD
      have ed0 := s0 _ _ ed1
      have ne1 : d1 ≠ D := ne_of_none ed0 hD
      have ll : l.length = fs.length := by
        have := pm.length_eq
        rwa [List.length_map, List.length_map] at this
      refine ⟨_, rfl, a, C, dx, _, _, rfl, s1 _ _ ea, R.cl, R.nF, rf_fields _ _ _, d1, dk l, rfl, ne1, s1 _ _ ed1, upd_same, by rw [dk_len]; omega, ?_⟩
      rw [merge_nil nl, upd_upd]
      intro B hB
      have BD : B ≠ D := fun z => by
        rw [z, upd_same] at hB
        cases hB
      have eB2 : (upd (upd H0 D (.dK (dk l))) B (.dK [])) D = some (.dK (dk l)) := by
        rw [upd_ne BD.symm]
        exact upd_same
      refine ⟨_, rfl, _, rfl, Sum.inr x, rfl, upd_same, eB2, BD, ?_⟩
      rw [dk_put x v l nl, upd_upd]
      have s2 : Same H (upd (upd (upd H0 D (.dK (dk l))) B (.dK [(Sum.inr x, v)])) D (.dK (dk (GrT.put x v l)))) := by
        intro b o e
        have e0 := s0 _ _ e
        have n1 : b ≠ D := ne_of_none e0 hD
        have n2 : b ≠ B := ne_of_none (by rw [upd_ne n1]; exact e0) hB
        rw [upd_ne n1, upd_ne n2, upd_ne n1]
        exact e0
      have eD : (upd (upd (upd H0 D (.dK (dk l))) B (.dK [(Sum.inr x, v)])) D (.dK (dk (GrT.put x v l)))) D = some (.dK (dk (GrT.put x v l))) := upd_same
      generalize (upd (upd (upd H0 D (.dK (dk l))) B (.dK [(Sum.inr x, v)])) D (.dK (dk (GrT.put x v l)))) = H1 at s2 eD ⊢
      intro y dx1 hx hdx hne
      have eX : (upd (upd H1 dx1 (.own y)) y (.ins C dx1 [])) y = some (.ins C dx1 []) := upd_same
      have sX : Same H1 (upd (upd H1 dx1 (.own y)) y (.ins C dx1 [])) := Same.new (Same.new (Same.refl _) hdx) (by rw [upd_ne hne.symm]; exact hx)
      generalize upd (upd H1 dx1 (.own y)) y (.ins C dx1 []) = HX at eX sX ⊢
      have s4 := s2.trans sX
      have cu : ∀ z v' u, look z (GrT.put x v l) = some v' → look z (GrT.put x t fs) = some u → Rc All C H n v' u := fun z v' u h1 h2 => by
        rw [look_put] at h1 h2
        by_cases e : z = x
        · rw [if_pos e] at h1 h2
          cases h1
          cases h2
          exact rv
        · rw [if_neg e] at h1 h2
          exact ch z v' u h1 h2
      have pu : (names (GrT.put x v l)).Perm (names (GrT.put x t fs)) := perm_put pm
      have wu : Wf 40 (GrT.put x t fs) := Wf.mono (Wf.put (L := 39) ⟨wf.nd, hl, wf.gd⟩ g) (by decide)
      have lp := length_put (x := x) (y := v) (l := l)
      refine ⟨y, dx1, D, GrT.put x v l, szf (GrT.put x t fs), rfl, eX, sX _ _ eD, nodup_put nl, by omega, fun z v' hv => ?_, fun l' H'' ra p2 lk fx => ⟨rfl, q1 g y H'' ?_ ?_⟩⟩
      · obtain ⟨u, hu⟩ := look_some (pu.mem_iff.mp (List.mem_map.mpr ⟨_, look_mem hv, rfl⟩))
        have z1 := Rc.sz ((cu z v' u hv hu).same s4)
        unfold szf
        rw [hu]
        exact z1
      · exact rc_new pu wu cu ra p2 lk (fun c o _ e _ => fx c o (fun z => by rw [z, s2.free hx] at e; cases e) (s4 _ _ e)) (fun _ _ => True.intro) (fun _ _ => True.intro)
      · exact fun c o e => fx c o (fun z => by rw [z, s2.free hx] at e; cases e) (s4 _ _ e)
    · have gb : goodB x = false := by
        rw [← Bool.not_eq_true, goodB_iff]
        exact g
      rw [gb]
      refine iteT ⟨_, rfl, by show 1 ≤ 1000; decide, fun ea2 he => ⟨ea2, x, rfl, upd_same, xl, xc, fun d2 hd2 hde => ⟨rfl, d2, _, upd_same, by rw [upd_ne hde]; exact upd_same, ?_, ?_⟩⟩⟩
      · rw [upd_ne hde] at hd2
        exact hd2
      · refine q2 g d2 _ upd_same fun c o z0 => ?_
        have z := s0 _ _ z0
        have h0 : H0 d2 = none := by
          rw [upd_ne hde] at hd2
          exact hd2
        have n1 : c ≠ ea2 := ne_of_none z he
        rw [upd_ne (ne_of_none z h0), del_ne n1, upd_ne n1, upd_ne (ne_of_none z h0), upd_ne n1]
        exact z
end
end Lw
namespace GrT
open PySem L2
section
variable {α : Type}
def flt (c : Str → Bool) (l : List (Str × α)) : List (Str × α) := l.filter fun p => c p.1
theorem names_flt {c : Str → Bool} {l : List (Str × α)} : names (flt c l) = (names l).filter c := by
  unfold flt names
  rw [List.filter_map]
  rfl
theorem look_flt {c : Str → Bool} {x : Str} : ∀ {l : List (Str × α)}, look x (flt c l) = if c x = true then look x l else none
  | [] => by simp [flt, look]
  | (y, v) :: r => by
    have ih := look_flt (c := c) (x := x) (l := r)
    unfold flt at ih ⊢
    rw [List.filter_cons]
    by_cases h : c y = true
    · rw [if_pos h]
      unfold look
      by_cases e : y = x
      · subst e
        rw [if_pos rfl, if_pos rfl, if_pos h]
      · rw [if_neg e, if_neg e]
        exact ih
    · rw [if_neg h]
      by_cases e : y = x
      · subst e
        rw [ih, if_neg h, if_neg h]
      · rw [ih]
        conv => rhs; unfold look
        rw [if_neg e]
end
theorem Wf.flt {L : Nat} {c : Str → Bool} {fs : List (Str × T)} (h : Wf L fs) : Wf L (GrT.flt c fs) :=
  ⟨by rw [names_flt]; exact h.nd.sublist List.filter_sublist, Nat.le_trans (List.length_filter_le _ _) h.ln, fun p hp => h.gd p (List.mem_filter.mp hp).1⟩
end GrT
namespace Lw
open PySem PySem.Spec PyProof.Rows L2 GrT GrOwn GrMg
theorem pe_fldK {X : Cx} {K : PySem.W.Frag} {e : Expr} {ta : TE} {f : Str} {pos : Pos} (h : X.K = K) (he : PE X e ta) (hb : attributeBase e f X.env (eval e X.env) = eval e X.env) : PE X (.Attribute e f pos) (tFld K ta f) := h ▸ pe_fld he hb
abbrev sWithout : Stmt := inClass (top 11) 6
abbrev sOnly : Stmt := inClass (top 11) 7
/-- the names that stay -/
def fl (xs : List Str) (there : Bool) (x : Str) : Bool := decide (x ∈ xs) == there
def spFewS (C : Addr) (n : Nat) (there : Bool) : Sp := fun vs H Q _ => ∃ (a p : Addr) (fs : List (Str × T)) (xs : List Str), vs = [.ref a, .ref p] ∧ Rc All C H (n + 1) (.ref a) (.fds fs) ∧ H p = some (.tup (xs.map V.str)) ∧
  ∀ r H', Rc All C H' (n + 1) (.ref r) (.fds (flt (fl xs there) fs)) → Same H H' → Q (.ref r) H'
def spFew (C : Addr) (n : Nat) (there : Bool) : Sp := fun vs H Q _ => ∃ (a : Addr) (fs : List (Str × T)) (xs : List Str), vs = .ref a :: xs.map V.str ∧ xs.length ≤ 1000 ∧ Rc All C H (n + 1) (.ref a) (.fds fs) ∧
  ∀ r H', Rc All C H' (n + 1) (.ref r) (.fds (flt (fl xs there) fs)) → Same H H' → Q (.ref r) H'
theorem inV_dec (x : Str) (xs : List Str) : inV (.str x) (xs.map V.str) = decide (x ∈ xs) := by
  by_cases h : x ∈ xs
  · rw [decide_eq_true h]
    exact inV_str.mpr h
  · rw [decide_eq_false h, ← Bool.not_eq_true]
    exact fun z => h (inV_str.mp z)
section
variable {P : Program} {w : World} {K : PySem.W.Frag} {mg : Str → Option Value} {base : Heap} {C : Addr}
theorem scWithout : FnScope ["self", "names", "name", "value"] ([("self" : Str)] ++ [("names" : Str)]) (defScope sWithout) := ⟨rfl, rfl, rfl, by decide +kernel, rfl, by decide +kernel, by decide +kernel⟩
theorem fn_without (T : Bu mg) (R : RecK K mg C) (I : InK K C) (vs_ : Cal P w K mg base 3 "value_size" (spVs C)) (n : Nat) {f : Addr} {fd : FuncData} (F : L2.Fun K "without" "Record.without" sWithout f fd) : FnR P w K mg base CX0 6 f (spFew C n false) := by
  obtain ⟨oc, od0, kw0, doc, pmd, an, cdv, ct, osl, rfl, lk, hcd⟩ := F.ex
  have G := StX.fn_star (P := P) (w := w) (K := K) (mg := mg) (base := base) (CX := CX0) (k := 5) (ps := ["self"]) (pv := "names") (sp := spFewS C n false) lk hcd scWithout StX.cxUp_none (StX.bind_star1 (B := fun us => bindArgs (PySem.W.fnOf "without" "Record.without" (defArgs sWithout) (defBody sWithout) (defScope sWithout) .none kw0 doc pmd an cdv ct) ⟨us, []⟩) (fun a => rfl) (fun a r rs => rfl))
    (fun A outer s H vs Q E hr h => by
    suffices hh : ∃ t, PSs (cxOf CX0 P w K mg base ["self", "names", "name", "value"] "Record.without" (defScope sWithout) f cdv A outer s H E).nox (defBody sWithout) t ∧ t { nx := fun _ H' => Q .non H', rt := Q } (start ["self", "names", "name", "value"] vs) H by
      obtain ⟨t, h1, h2⟩ := hh
      exact ⟨t, h1.nox, h2⟩
    obtain ⟨a, p, fs, xs, rfl, r1, ep, q⟩ := h
    have hu := hu_of hr
    obtain ⟨l, ⟨⟨dx, tp, d1, _, ea, _, ed1⟩, nl, _⟩, wf, pm, ch⟩ := Rc.out r1
    refine ⟨_, (pss_one (ps_ret (pe_new T R vs_ I hr (by decide) (by rfl) (pa_cons (pe_lock (pe_dc (own := [("name", 2), ("value", 3)]) (g := gTup K 2 (gCons (gName 2) (gCons (gName 3) gNil))) rfl scWithout.nd (pi_items (pe_fld (pv 0) rfl)) (blkOk_by (own := [("name", 2), ("value", 3)]) (N := ["self", "names", "name", "value"]) (sc := defScope sWithout) (by decide +kernel))
      (fun _ _ _ _ _ => pg_tup rfl (pgs_cons (pg_name (i := 2) scWithout.nd rfl (Or.inl rfl)) (pgs_cons (pg_name (i := 3) scWithout.nd rfl (Or.inl rfl)) pgs_nil))) (fun _ _ _ _ _ => (by exact (pts_one (pt_cmpR (op_notInK (K := K) rfl) (pv 2) (pv 1) (by rfl))))) (fun _ _ _ _ _ => (by exact (pv 2))) (fun _ _ _ _ _ => (by exact (pv 3))))) pa_nil)))), ?_⟩
    have hfl := wf.ln
    have ll : l.length = fs.length := by
      have := pm.length_eq
      rwa [List.length_map, List.length_map] at this
    have ad1 : a ≠ d1 := fun z => by
      rw [z, ed1] at ea
      cases ea
    refine ⟨d1, .dK (dk l), ed1, True.intro, fun od => ?_⟩
    have eaB : (upd H d1 (.frz od (.dK (dk l)))) a = some (.ins C dx (rf tp d1 (nfs fs))) := by
      rw [upd_ne ad1]
      exact ea
    have epB : (upd H d1 (.frz od (.dK (dk l)))) p = some (.tup (xs.map V.str)) := by
      rw [upd_ne (fun z => by rw [z, ed1] at ep; cases ep)]
      exact ep
    have edB : (upd H d1 (.frz od (.dK (dk l)))) d1 = some (.frz od (.dK (dk l))) := upd_same
    have take1 : ∀ i x v, l[i]? = some (x, v) → flt (fl xs false) (l.take (i + 1)) = flt (fl xs false) (l.take i) ++ (if fl xs false x = true then [(x, v)] else []) := fun i x v h => by
      unfold flt
      rw [List.take_add_one, h, List.filter_append, Option.toList_some, List.filter_cons, List.filter_nil]
    refine ⟨_, rfl, a, C, dx, _, _, rfl, eaB, R.cl, R.nF, rf_fields _ _ _, d1, od, dk l, rfl, edB, fun D hD => dc_it walk_items (fun i H5 => H5 D = some (.dK (dk (flt (fl xs false) (l.take i)))) ∧ Same (upd H d1 (.frz od (.dK (dk l)))) H5)
      ⟨upd_same, Same.new (Same.refl _) hD⟩ (fun i H5 _ h => h.2 _ _ edB) ?_ ?_⟩
    · rintro i y H5 H6 hi ⟨eD, sm⟩ ⟨Tp, x1, y1, rfl, hT, rfl, hx1, hy1⟩
      have hi2 : i < l.length := by
        rw [dk_len] at hi
        exact hi
      obtain ⟨⟨x, v⟩, hx⟩ : ∃ p, l[i]? = some p := ⟨l[i], List.getElem?_eq_getElem hi2⟩
      have hd : (dk l)[i]? = some (Sum.inr x, v) := by
        unfold dk
        rw [List.getElem?_map, hx]
        rfl
      have hx2 : ((dk l)[i]?).map (fun kv => kV kv.1) = some x1 := hx1
      have hy2 : ((dk l)[i]?).map Prod.snd = some y1 := hy1
      rw [hd] at hx2 hy2
      cases hx2
      cases hy2
      have eT : (upd H5 Tp (.tup [kV (Sum.inr x), v])) Tp = some (.tup [kV (Sum.inr x), v]) := upd_same
      have s6 : Same (upd H d1 (.frz od (.dK (dk l)))) (upd H5 Tp (.tup [kV (Sum.inr x), v])) := Same.new sm hT
      have eD6 : (upd H5 Tp (.tup [kV (Sum.inr x), v])) D = some (.dK (dk (flt (fl xs false) (l.take i)))) := by
        rw [upd_ne (ne_of_none eD hT)]
        exact eD
      generalize upd H5 Tp (.tup [kV (Sum.inr x), v]) = H4 at eT s6 eD6 ⊢
      refine ⟨Tp, _, rfl, SqT.of eT, rfl, _, _, rfl, _, _, rfl, rfl, ?_⟩
      have t1 := take1 i x v hx
      refine ⟨rfl, _, rfl, _, rfl, p, _, rfl, .inr (SqT.of (s6 _ _ epB)), rfl, flat_str _, _, rfl, ?_⟩
      have hno : x ∉ names (flt (fl xs false) (l.take i)) := fun hm => by
        rw [names_flt] at hm
        have hm2 := (List.mem_filter.mp hm).1
        have e1 : names (l.take i) = (names l).take i := by simp [names, List.map_take]
        rw [e1] at hm2
        obtain ⟨j, hj, ej⟩ := List.mem_take_iff_getElem.mp hm2
        have e2 : (names l)[i]? = some x := by rw [List.getElem?_map, hx]; rfl
        have hi3 : i < (names l).length := (List.getElem?_eq_some_iff.mp e2).1
        have e3 : (names l)[i] = x := (List.getElem?_eq_some_iff.mp e2).2
        have := (List.getElem_inj nl).mp (ej.trans e3.symm)
        omega
      have ndt : (names (flt (fl xs false) (l.take i))).Nodup := by
        rw [names_flt]
        have e1 : names (l.take i) = (names l).take i := by simp [names, List.map_take]
        rw [e1]
        exact (nl.sublist (List.take_sublist _ _)).sublist List.filter_sublist
      have ec : (!inV (V.str x) (xs.map V.str)) = fl xs false x := by
        rw [inV_dec]
        unfold fl
        cases decide (x ∈ xs) <;> rfl
      cases hc : fl xs false x with
      | true =>
        rw [hc] at t1 ec
        refine (show ite ((!inV (V.str x) (xs.map V.str)) = true) _ _ from by rw [ec]; exact iteT ⟨_, rfl, _, rfl, _, Sum.inr x, rfl, eD6, Nat.lt_of_lt_of_le (m := 100) (by rw [dk_len]; exact Nat.lt_of_le_of_lt (List.length_filter_le _ _) (by rw [List.length_take]; omega)) (line_big (by decide)), by
          rw [upd_same, dk_put x v _ ndt, put_new hno, t1]
          rfl, fun c o e => by
          rw [upd_ne (ne_of_none e hD)]
          exact s6 c o e⟩)
      | false =>
        rw [hc] at t1 ec
        refine (show ite ((!inV (V.str x) (xs.map V.str)) = true) _ _ from by rw [ec]; exact iteF ⟨by
          rw [t1, eD6]
          simp, s6⟩)
    · rintro H5 ⟨eD, sm⟩
      rw [dk_len, List.take_length] at eD
      have e5 := sm _ _ edB
      refine ⟨e5, ?_⟩
      have D1 : D ≠ d1 := (ne_of_none edB hD).symm
      have hD0 : H D = none := by
        rw [upd_ne D1] at hD
        exact hD
      have s3 : Same H (upd H5 d1 (.dK (dk l))) := Same.unlock ed1 sm
      have eDU : (upd H5 d1 (.dK (dk l))) D = some (.dK (dk (flt (fl xs false) l))) := by
        rw [upd_ne D1]
        exact eD
      generalize upd H5 d1 (.dK (dk l)) = H1 at s3 eDU ⊢
      intro x dx1 hx hdx hne
      have eX : (upd (upd H1 dx1 (.own x)) x (.ins C dx1 [])) x = some (.ins C dx1 []) := upd_same
      have sX : Same H1 (upd (upd H1 dx1 (.own x)) x (.ins C dx1 [])) := Same.new (Same.new (Same.refl _) hdx) (by rw [upd_ne hne.symm]; exact hx)
      generalize upd (upd H1 dx1 (.own x)) x (.ins C dx1 []) = HX at eX sX ⊢
      have s4 := s3.trans sX
      have cu : ∀ y v u, look y (flt (fl xs false) l) = some v → look y (flt (fl xs false) fs) = some u → Rc All C H n v u := fun y v u h1 h2 => by
        rw [look_flt] at h1 h2
        split at h1
        · rename_i c
          rw [if_pos c] at h2
          exact ch y v u h1 h2
        · cases h1
      have pu : (names (flt (fl xs false) l)).Perm (names (flt (fl xs false) fs)) := by
        rw [names_flt, names_flt]
        exact pm.filter _
      have ln : (flt (fl xs false) l).length ≤ l.length := List.length_filter_le _ _
      have ndl : (names (flt (fl xs false) l)).Nodup := by
        rw [names_flt]
        exact nl.sublist List.filter_sublist
      refine ⟨x, dx1, D, flt (fl xs false) l, szf (flt (fl xs false) fs), rfl, eX, sX _ _ eDU, ndl, by omega, fun y v hv => ?_, fun l' H'' ra p2 lk fx => ⟨rfl, q x H'' ?_ ?_⟩⟩
      · obtain ⟨u, hu⟩ := look_some (pu.mem_iff.mp (List.mem_map.mpr ⟨_, look_mem hv, rfl⟩))
        have z := Rc.sz ((cu y v u hv hu).same s4)
        unfold szf
        rw [hu]
        exact z
      · exact rc_new pu wf.flt cu ra p2 lk (fun c o _ e _ => fx c o (fun z => by rw [z, s3.free hx] at e; cases e) (s4 _ _ e)) (fun _ _ => True.intro) (fun _ _ => True.intro)
      · exact fun c o e => fx c o (fun z => by rw [z, s3.free hx] at e; cases e) (s4 _ _ e))
  intro A outer s H us vs Q E hr e0 r h
  obtain ⟨a, fs, xs, rfl, xl, rc, q⟩ := h
  refine G A outer s H us _ Q E hr e0 r ⟨[.ref a], xs.map V.str, rfl, rfl, line_big (by rw [List.length_map]; omega), fun p hp => ⟨a, p, fs, xs, rfl, rc.same (Same.new (Same.refl _) hp), upd_same, fun r H' rr s' => q r H' rr ((Same.new (Same.refl _) hp).trans s')⟩⟩
theorem scOnly : FnScope ["self", "names", "name", "value"] ([("self" : Str)] ++ [("names" : Str)]) (defScope sOnly) := ⟨rfl, rfl, rfl, by decide +kernel, rfl, by decide +kernel, by decide +kernel⟩
theorem fn_only (T : Bu mg) (R : RecK K mg C) (I : InK K C) (vs_ : Cal P w K mg base 3 "value_size" (spVs C)) (n : Nat) {f : Addr} {fd : FuncData} (F : L2.Fun K "only" "Record.only" sOnly f fd) : FnR P w K mg base CX0 6 f (spFew C n true) := by
  obtain ⟨oc, od0, kw0, doc, pmd, an, cdv, ct, osl, rfl, lk, hcd⟩ := F.ex
  have G := StX.fn_star (P := P) (w := w) (K := K) (mg := mg) (base := base) (CX := CX0) (k := 5) (ps := ["self"]) (pv := "names") (sp := spFewS C n true) lk hcd scOnly StX.cxUp_none (StX.bind_star1 (B := fun us => bindArgs (PySem.W.fnOf "only" "Record.only" (defArgs sOnly) (defBody sOnly) (defScope sOnly) .none kw0 doc pmd an cdv ct) ⟨us, []⟩) (fun a => rfl) (fun a r rs => rfl))
    (fun A outer s H vs Q E hr h => by
    suffices hh : ∃ t, PSs (cxOf CX0 P w K mg base ["self", "names", "name", "value"] "Record.only" (defScope sOnly) f cdv A outer s H E).nox (defBody sOnly) t ∧ t { nx := fun _ H' => Q .non H', rt := Q } (start ["self", "names", "name", "value"] vs) H by
      obtain ⟨t, h1, h2⟩ := hh
      exact ⟨t, h1.nox, h2⟩
    obtain ⟨a, p, fs, xs, rfl, r1, ep, q⟩ := h
    have hu := hu_of hr
    obtain ⟨l, ⟨⟨dx, tp, d1, _, ea, _, ed1⟩, nl, _⟩, wf, pm, ch⟩ := Rc.out r1
    refine ⟨_, (pss_one (ps_ret (pe_new T R vs_ I hr (by decide) (by rfl) (pa_cons (pe_lock (pe_dc (own := [("name", 2), ("value", 3)]) (g := gTup K 2 (gCons (gName 2) (gCons (gName 3) gNil))) rfl scOnly.nd (pi_items (pe_fld (pv 0) rfl)) (blkOk_by (own := [("name", 2), ("value", 3)]) (N := ["self", "names", "name", "value"]) (sc := defScope sOnly) (by decide +kernel))
      (fun _ _ _ _ _ => pg_tup rfl (pgs_cons (pg_name (i := 2) scOnly.nd rfl (Or.inl rfl)) (pgs_cons (pg_name (i := 3) scOnly.nd rfl (Or.inl rfl)) pgs_nil))) (fun _ _ _ _ _ => (by exact (pts_one (pt_cmpR (op_inK (K := K) rfl) (pv 2) (pv 1) (by rfl))))) (fun _ _ _ _ _ => (by exact (pv 2))) (fun _ _ _ _ _ => (by exact (pv 3))))) pa_nil)))), ?_⟩
    have hfl := wf.ln
    have ll : l.length = fs.length := by
      have := pm.length_eq
      rwa [List.length_map, List.length_map] at this
    have ad1 : a ≠ d1 := fun z => by
      rw [z, ed1] at ea
      cases ea
    refine ⟨d1, .dK (dk l), ed1, True.intro, fun od => ?_⟩
    have eaB : (upd H d1 (.frz od (.dK (dk l)))) a = some (.ins C dx (rf tp d1 (nfs fs))) := by
      rw [upd_ne ad1]
      exact ea
    have epB : (upd H d1 (.frz od (.dK (dk l)))) p = some (.tup (xs.map V.str)) := by
      rw [upd_ne (fun z => by rw [z, ed1] at ep; cases ep)]
      exact ep
    have edB : (upd H d1 (.frz od (.dK (dk l)))) d1 = some (.frz od (.dK (dk l))) := upd_same
    have take1 : ∀ i x v, l[i]? = some (x, v) → flt (fl xs true) (l.take (i + 1)) = flt (fl xs true) (l.take i) ++ (if fl xs true x = true then [(x, v)] else []) := fun i x v h => by
      unfold flt
      rw [List.take_add_one, h, List.filter_append, Option.toList_some, List.filter_cons, List.filter_nil]
    refine ⟨_, rfl, a, C, dx, _, _, rfl, eaB, R.cl, R.nF, rf_fields _ _ _, d1, od, dk l, rfl, edB, fun D hD => dc_it walk_items (fun i H5 => H5 D = some (.dK (dk (flt (fl xs true) (l.take i)))) ∧ Same (upd H d1 (.frz od (.dK (dk l)))) H5)
      ⟨upd_same, Same.new (Same.refl _) hD⟩ (fun i H5 _ h => h.2 _ _ edB) ?_ ?_⟩
    · rintro i y H5 H6 hi ⟨eD, sm⟩ ⟨Tp, x1, y1, rfl, hT, rfl, hx1, hy1⟩
      have hi2 : i < l.length := by
        rw [dk_len] at hi
        exact hi
      obtain ⟨⟨x, v⟩, hx⟩ : ∃ p, l[i]? = some p := ⟨l[i], List.getElem?_eq_getElem hi2⟩
      have hd : (dk l)[i]? = some (Sum.inr x, v) := by
        unfold dk
        rw [List.getElem?_map, hx]
        rfl
      have hx2 : ((dk l)[i]?).map (fun kv => kV kv.1) = some x1 := hx1
      have hy2 : ((dk l)[i]?).map Prod.snd = some y1 := hy1
      rw [hd] at hx2 hy2
      cases hx2
      cases hy2
      have eT : (upd H5 Tp (.tup [kV (Sum.inr x), v])) Tp = some (.tup [kV (Sum.inr x), v]) := upd_same
      have s6 : Same (upd H d1 (.frz od (.dK (dk l)))) (upd H5 Tp (.tup [kV (Sum.inr x), v])) := Same.new sm hT
      have eD6 : (upd H5 Tp (.tup [kV (Sum.inr x), v])) D = some (.dK (dk (flt (fl xs true) (l.take i)))) := by
        rw [upd_ne (ne_of_none eD hT)]
        exact eD
      generalize upd H5 Tp (.tup [kV (Sum.inr x), v]) = H4 at eT s6 eD6 ⊢
      refine ⟨Tp, _, rfl, SqT.of eT, rfl, _, _, rfl, _, _, rfl, rfl, ?_⟩
      have t1 := take1 i x v hx
      refine ⟨rfl, _, rfl, _, rfl, p, _, rfl, .inr (SqT.of (s6 _ _ epB)), rfl, flat_str _, _, rfl, ?_⟩
      have hno : x ∉ names (flt (fl xs true) (l.take i)) := fun hm => by
        rw [names_flt] at hm
        have hm2 := (List.mem_filter.mp hm).1
        have e1 : names (l.take i) = (names l).take i := by simp [names, List.map_take]
        rw [e1] at hm2
        obtain ⟨j, hj, ej⟩ := List.mem_take_iff_getElem.mp hm2
        have e2 : (names l)[i]? = some x := by rw [List.getElem?_map, hx]; rfl
        have hi3 : i < (names l).length := (List.getElem?_eq_some_iff.mp e2).1
        have e3 : (names l)[i] = x := (List.getElem?_eq_some_iff.mp e2).2
        have := (List.getElem_inj nl).mp (ej.trans e3.symm)
        omega
      have ndt : (names (flt (fl xs true) (l.take i))).Nodup := by
        rw [names_flt]
        have e1 : names (l.take i) = (names l).take i := by simp [names, List.map_take]
        rw [e1]
        exact (nl.sublist (List.take_sublist _ _)).sublist List.filter_sublist
      have ec : (inV (V.str x) (xs.map V.str)) = fl xs true x := by
        rw [inV_dec]
        unfold fl
        cases decide (x ∈ xs) <;> rfl
      cases hc : fl xs true x with
      | true =>
        rw [hc] at t1 ec
        refine (show ite ((inV (V.str x) (xs.map V.str)) = true) _ _ from by rw [ec]; exact iteT ⟨_, rfl, _, rfl, _, Sum.inr x, rfl, eD6, Nat.lt_of_lt_of_le (m := 100) (by rw [dk_len]; exact Nat.lt_of_le_of_lt (List.length_filter_le _ _) (by rw [List.length_take]; omega)) (line_big (by decide)), by
          rw [upd_same, dk_put x v _ ndt, put_new hno, t1]
          rfl, fun c o e => by
          rw [upd_ne (ne_of_none e hD)]
          exact s6 c o e⟩)
      | false =>
        rw [hc] at t1 ec
        refine (show ite ((inV (V.str x) (xs.map V.str)) = true) _ _ from by rw [ec]; exact iteF ⟨by
          rw [t1, eD6]
          simp, s6⟩)
    · rintro H5 ⟨eD, sm⟩
      rw [dk_len, List.take_length] at eD
      have e5 := sm _ _ edB
      refine ⟨e5, ?_⟩
      have D1 : D ≠ d1 := (ne_of_none edB hD).symm
      have hD0 : H D = none := by
        rw [upd_ne D1] at hD
        exact hD
      have s3 : Same H (upd H5 d1 (.dK (dk l))) := Same.unlock ed1 sm
      have eDU : (upd H5 d1 (.dK (dk l))) D = some (.dK (dk (flt (fl xs true) l))) := by
        rw [upd_ne D1]
        exact eD
      generalize upd H5 d1 (.dK (dk l)) = H1 at s3 eDU ⊢
      intro x dx1 hx hdx hne
      have eX : (upd (upd H1 dx1 (.own x)) x (.ins C dx1 [])) x = some (.ins C dx1 []) := upd_same
      have sX : Same H1 (upd (upd H1 dx1 (.own x)) x (.ins C dx1 [])) := Same.new (Same.new (Same.refl _) hdx) (by rw [upd_ne hne.symm]; exact hx)
      generalize upd (upd H1 dx1 (.own x)) x (.ins C dx1 []) = HX at eX sX ⊢
      have s4 := s3.trans sX
      have cu : ∀ y v u, look y (flt (fl xs true) l) = some v → look y (flt (fl xs true) fs) = some u → Rc All C H n v u := fun y v u h1 h2 => by
        rw [look_flt] at h1 h2
        split at h1
        · rename_i c
          rw [if_pos c] at h2
          exact ch y v u h1 h2
        · cases h1
      have pu : (names (flt (fl xs true) l)).Perm (names (flt (fl xs true) fs)) := by
        rw [names_flt, names_flt]
        exact pm.filter _
      have ln : (flt (fl xs true) l).length ≤ l.length := List.length_filter_le _ _
      have ndl : (names (flt (fl xs true) l)).Nodup := by
        rw [names_flt]
        exact nl.sublist List.filter_sublist
      refine ⟨x, dx1, D, flt (fl xs true) l, szf (flt (fl xs true) fs), rfl, eX, sX _ _ eDU, ndl, by omega, fun y v hv => ?_, fun l' H'' ra p2 lk fx => ⟨rfl, q x H'' ?_ ?_⟩⟩
      · obtain ⟨u, hu⟩ := look_some (pu.mem_iff.mp (List.mem_map.mpr ⟨_, look_mem hv, rfl⟩))
        have z := Rc.sz ((cu y v u hv hu).same s4)
        unfold szf
        rw [hu]
        exact z
      · exact rc_new pu wf.flt cu ra p2 lk (fun c o _ e _ => fx c o (fun z => by rw [z, s3.free hx] at e; cases e) (s4 _ _ e)) (fun _ _ => True.intro) (fun _ _ => True.intro)
      · exact fun c o e => fx c o (fun z => by rw [z, s3.free hx] at e; cases e) (s4 _ _ e))
  intro A outer s H us vs Q E hr e0 r h
  obtain ⟨a, fs, xs, rfl, xl, rc, q⟩ := h
  refine G A outer s H us _ Q E hr e0 r ⟨[.ref a], xs.map V.str, rfl, rfl, line_big (by rw [List.length_map]; omega), fun p hp => ⟨a, p, fs, xs, rfl, rc.same (Same.new (Same.refl _) hp), upd_same, fun r H' rr s' => q r H' rr ((Same.new (Same.refl _) hp).trans s')⟩⟩
end
end Lw
namespace Lw
open PySem PySem.Spec PyProof.Rows L2 GrT GrOwn GrMg
abbrev sNoInit : Stmt := inClass (top 4) 0
section
variable {P : Program} {w : World} {K : PySem.W.Frag} {mg : Str → Option Value} {base : Heap} {C : Addr}
theorem scNoInit : NdefX.NScope ["self", "name", "__class__"] ["self", "name"] ["__class__"] (defScope sNoInit) := NdefX.nscope_by (by decide +kernel)
theorem fn_nofield {x q : Str} (Z : ExK P K mg x q sNoInit C) : ∃ (f : Addr) (fd : FuncData), PySem.W.findIn K (.ref C) "__init__" = some (some (.ref f)) ∧ PySem.W.typeIn K (.ref f) = some (.type "function") ∧ FnOk P w K mg base CX0 1 f fd ["self", "name"] (spEI C) ∧ Binds K fd ["self", "name"] [] := by
  obtain ⟨f, cc, cda, oc, ccl, cl, kV, doc, pm, ct, od, an, cdd, cld, osl, ccs, csl, vs0, file, tf, h1, h2, lk, hcd, hcode, hvs, hfile, hcell, hb⟩ := Z.ex
  refine ⟨f, _, h1, h2, ?_, hb⟩
  refine GrEx.fn_sup (N := ["self", "name", "__class__"]) (ar := { arg := "self", annotation := none, pos := ⟨14, 17, 14, 21⟩ }) Z.T scNoInit lk hcd hcode hvs hfile hcell Z.sup Z.top (by rfl) (by rfl) (by rfl) Z.ho Z.hm Z.hB Z.mro (fun L => by rfl) (fun L => by rfl) (fun L => by rfl) (fun L => by rfl) (fun vs H Q E h => ?_) (fun A outer s H vs Q E h => ?_)
  · obtain ⟨a, x, rfl, _⟩ := h
    rfl
  · obtain ⟨a, x, rfl, ea, xl, xc, k⟩ := h
    refine ⟨a, _, _, rfl, ea, pa_cons (pe_joined (PJ.cons pe_str (PJ.cons (pe_fmtR (pv 1)) .nil))) pa_nil, pss_one (ps_ost (pv 0) (pv 1)), ?_⟩
    have rl := PySem.StrLaws.reprText_len x xc
    have cl1 : (Str.empty ++ Str.ofString "no field ").length ≤ 100 := by decide +kernel
    refine ⟨_, rfl, line_big (Nat.le_trans cl1 (by decide)), _, rfl, .inl ⟨x, rfl, line_big (by omega), _, rfl, line_big (by rw [cat_len]; omega), by show 1 ≤ 1000; decide, ea, ?_⟩⟩
    exact ⟨_, rfl, _, rfl, a, C, rfl, Z.T, Z.noN, .inl ⟨ea, fun d h1 h2 => k d h1 h2⟩⟩
end
abbrev sThInit : Stmt := inClass (top 5) 0
section
variable {P : Program} {w : World} {K : PySem.W.Frag} {mg : Str → Option Value} {base : Heap} {C : Addr}
theorem scThInit : NdefX.NScope ["self", "name", "__class__"] ["self", "name"] ["__class__"] (defScope sThInit) := NdefX.nscope_by (by decide +kernel)
theorem fn_there {x q : Str} (Z : ExK P K mg x q sThInit C) : ∃ (f : Addr) (fd : FuncData), PySem.W.findIn K (.ref C) "__init__" = some (some (.ref f)) ∧ PySem.W.typeIn K (.ref f) = some (.type "function") ∧ FnOk P w K mg base CX0 1 f fd ["self", "name"] (spEI C) ∧ Binds K fd ["self", "name"] [] := by
  obtain ⟨f, cc, cda, oc, ccl, cl, kV, doc, pm, ct, od, an, cdd, cld, osl, ccs, csl, vs0, file, tf, h1, h2, lk, hcd, hcode, hvs, hfile, hcell, hb⟩ := Z.ex
  refine ⟨f, _, h1, h2, ?_, hb⟩
  refine GrEx.fn_sup (N := ["self", "name", "__class__"]) (ar := { arg := "self", annotation := none, pos := ⟨19, 17, 19, 21⟩ }) Z.T scThInit lk hcd hcode hvs hfile hcell Z.sup Z.top (by rfl) (by rfl) (by rfl) Z.ho Z.hm Z.hB Z.mro (fun L => by rfl) (fun L => by rfl) (fun L => by rfl) (fun L => by rfl) (fun vs H Q E h => ?_) (fun A outer s H vs Q E h => ?_)
  · obtain ⟨a, x, rfl, _⟩ := h
    rfl
  · obtain ⟨a, x, rfl, ea, xl, xc, k⟩ := h
    refine ⟨a, _, _, rfl, ea, pa_cons (pe_joined (PJ.cons pe_str (PJ.cons (pe_fmtR (pv 1)) (PJ.cons pe_str .nil)))) pa_nil, pss_one (ps_ost (pv 0) (pv 1)), ?_⟩
    have rl := PySem.StrLaws.reprText_len x xc
    have al : (Str.ofString " already").length = 8 := by decide +kernel
    have cl1 : (Str.empty ++ Str.ofString "there is a field ").length ≤ 100 := by decide +kernel
    refine ⟨_, rfl, line_big (Nat.le_trans cl1 (by decide)), _, rfl, .inl ⟨x, rfl, line_big (by omega), _, rfl, line_big (by rw [cat_len]; omega), _, rfl, line_big (by rw [cat_len, cat_len, al]; omega), by show 1 ≤ 1000; decide, ea, ?_⟩⟩
    exact ⟨_, rfl, _, rfl, a, C, rfl, Z.T, Z.noN, .inl ⟨ea, fun d h1 h2 => k d h1 h2⟩⟩
end
end Lw
namespace Lw
open PySem PySem.Spec PyProof.Rows L2 GrT GrOwn GrMg
theorem passE0 {X : Cx} (σ : L2.St) : PassesAt (L2.CX X.prog X.w) X σ E0 := fun _ _ _ _ _ _ c => by
  obtain ⟨_, _, _, _, _, _, _, _, _, _, _, _, hE⟩ := c
  exact hE.elim
/-- a method of a positional promise -/
structure MthR (P : Program) (w : World) (K : PySem.W.Frag) (mg : Str → Option Value) (base : Heap) (CX : CXT) (C : Addr) (k : Nat) (x : Str) (sp : Sp) : Prop where
  ex : ∃ (f : Addr), FnR P w K mg base CX k f sp ∧ Meth K C x f
section
variable {X : Cx} {CX : CXT} {C : Addr} {k j : Nat} {sp : Sp} {E : XK} {m : Str} {o e : Expr} {es : List Expr} {pos apos : Pos} {ta : TE} {t : TA} {pl : Sem Bool}
theorem pe_mR (R : RecK X.K X.mg C) (c : MthR X.prog X.w X.K X.mg X.base CX C k m sp) (hr : Room j X.A) (hk : k ≤ j) (hx : Passes CX X E) (he : PE X o ta) (ha : PA X (e :: es) t)
    (hst : starEach (e :: es) X.env = (false, eval e X.env) :: starEach es X.env := by rfl) (hpl : (backTo pos (starEach es X.env)).any (·.1) = false := by rfl)
    (ht : eval (.Call (.Attribute o m apos) (e :: es) [] pos) X.env = (do
      let ov ← eval o X.env
      standAt apos.atName
      let (f, first) ← holding [ov] (getMethod ov m pl)
      callWith pos f first (backTo pos (starEach (e :: es) X.env)) (backToKw pos (keywordEach [] X.env))) := by rfl) :
    PE X (.Call (.Attribute o m apos) (e :: es) [] pos) (tMethR C m sp E ta t) := by
  obtain ⟨f, F, hm⟩ := c.ex
  exact pe_methR he R.cl hm F (hr.mono hk) hx ha hst hpl ht
theorem pe_mR0 (R : RecK X.K X.mg C) (c : MthR X.prog X.w X.K X.mg X.base CX C k m sp) (hr : Room j X.A) (hk : k ≤ j) (hx : Passes CX X E) (he : PE X o ta)
    (ht : eval (.Call (.Attribute o m apos) [] [] pos) X.env = (do
      let ov ← eval o X.env
      standAt apos.atName
      let (f, first) ← holding [ov] (getMethod ov m pl)
      callWith pos f first (backTo pos (starEach [] X.env)) (backToKw pos (keywordEach [] X.env))) := by rfl) :
    PE X (.Call (.Attribute o m apos) [] [] pos) (tMethR C m sp E ta tNil) := by
  obtain ⟨f, F, hm⟩ := c.ex
  refine ⟨fun pins s σ H Q I h => ?_⟩
  refine PySem.W.methodCall_KW (pl := pl) (thn (he.run pins s σ H _ I h) fun u s1 ⟨x, H1, I1, rx, a, dx, fs, ex, ea, l, q⟩ => ?_) ht
  subst ex
  obtain rfl : u = Value.ref a := rx
  refine getmeth_ok I1 ea R.cl hm l ?_
  exact PySem.W.callWith_K0 (first := [.ref a]) I1.kIn hm.kp (wpAny_call (run_fnR (us := [.ref a]) (vs := [.ref a]) F (hr.mono hk) hx I1 (.cons rfl .nil) q))
theorem pe_mKX {CX : CXT} {E : L2.St → XK} (R : RecK X.K X.mg C) (c : MthK X.prog X.w X.K X.mg X.base CX C k m sp) (hr : Room j X.A) (hk : k ≤ j) (hx : ∀ σ, PassesAt CX X σ (E σ)) (he : PE X o ta) (ha : PA X (e :: es) t)
    (hst : starEach (e :: es) X.env = (false, eval e X.env) :: starEach es X.env := by rfl) (hpl : (backTo pos (starEach es X.env)).any (·.1) = false := by rfl)
    (ht : eval (.Call (.Attribute o m apos) (e :: es) [] pos) X.env = (do
      let ov ← eval o X.env
      standAt apos.atName
      let (f, first) ← holding [ov] (getMethod ov m pl)
      callWith pos f first (backTo pos (starEach (e :: es) X.env)) (backToKw pos (keywordEach [] X.env))) := by rfl) :
    PE X (.Call (.Attribute o m apos) (e :: es) [] pos) (tMethX C m sp E ta t) := by
  obtain ⟨f, fd, ps, F, hm, b⟩ := c.ex
  exact pe_methX he R.cl hm F (hr.mono hk) b hx ha hst hpl ht
end
def spRen (C CN CB CT : Addr) (n : Nat) : Sp := fun vs H Q E => ∃ (a : Addr) (fs : List (Str × T)) (old new : Str), vs = [.ref a, .str old, .str new] ∧ Rc All C H (n + 1) (.ref a) (.fds fs) ∧ old.length ≤ 1000 ∧ (∀ c ∈ old.cps.toList, c < 16 ^ 8) ∧ new.length ≤ 1000 ∧ (∀ c ∈ new.cps.toList, c < 16 ^ 8) ∧
  (look old fs = none → ∀ d H', H' d = some (.xd [("name", .str old)]) → Same H H' → E (.ref CN) (some d) H') ∧
  (∀ t, look old fs = some t → ¬ Good new → ∀ d H', H' d = some (.xd [("name", .str new)]) → Same H H' → E (.ref CB) (some d) H') ∧
  (∀ t, look old fs = some t → Good new → new ∈ names (flt (fl [old] false) fs) → ∀ d H', H' d = some (.xd [("name", .str new)]) → Same H H' → E (.ref CT) (some d) H') ∧
  (∀ t, look old fs = some t → Good new → new ∉ names (flt (fl [old] false) fs) → ∀ r H', Rc All C H' (n + 1) (.ref r) (.fds (flt (fl [old] false) fs ++ [(new, t)])) → Same H H' → Q (.ref r) H')
abbrev sRen : Stmt := inClass (top 11) 8
theorem look_none_names {α β : Type} {l : List (Str × α)} {fs : List (Str × β)} (pm : (names l).Perm (names fs)) {x : Str} (h : look x fs = none) : look x l = none := by
  cases e : look x l with
  | none => rfl
  | some v =>
    obtain ⟨u, hu⟩ := look_some (pm.mem_iff.mp (List.mem_map.mpr ⟨_, look_mem e, rfl⟩))
    rw [h] at hu
    cases hu
theorem flt_len {α : Type} {old : Str} : ∀ {l : List (Str × α)} {t : α}, look old l = some t → (flt (fl [old] false) l).length + 1 ≤ l.length
  | [], _, h => by cases h
  | (y, v) :: r, t, h => by
    unfold flt
    rw [List.filter_cons]
    have e1 : look old ((y, v) :: r) = if y = old then some v else look old r := rfl
    rw [e1] at h
    by_cases e : y = old
    · subst e
      have : fl [y] false y = false := by
        unfold fl
        rw [decide_eq_true (List.mem_singleton.mpr rfl)]
        rfl
      rw [this, if_neg Bool.false_ne_true]
      exact Nat.succ_le_succ (List.length_filter_le _ _)
    · rw [if_neg e] at h
      have ih := flt_len h
      unfold flt at ih
      split
      · exact Nat.succ_le_succ ih
      · exact Nat.le_trans ih (Nat.le_succ _)
section
variable {P : Program} {w : World} {K : PySem.W.Frag} {mg : Str → Option Value} {base : Heap} {C CN CB CT : Addr}
theorem scRen : FnScope ["self", "old", "new", "rest"] ["self", "old", "new"] (defScope sRen) := ⟨rfl, rfl, rfl, by decide +kernel, rfl, by decide +kernel, by decide +kernel⟩
theorem fn_renamed (T : Bu mg) (R : RecK K mg C) (iw : Cal P w K mg base 1 "is_name" spIsWord) (ZN : ExK P K mg "NoField" "NoField.__init__" sNoInit CN) (ZB : ExK P K mg "BadName" "BadName.__init__" sBadInit CB) (ZT : ExK P K mg "FieldThere" "FieldThere.__init__" sThInit CT) (n : Nat)
    (m_contains : Mth P w K mg base C 1 "__contains__" (spContains C)) (mw : MthR P w K mg base CX0 C 6 "without" (spFew C n false)) (mp : MthK P w K mg base (L2.CX P w) C 7 "put" (spPut C CB n))
    {f : Addr} {fd : FuncData} (F : L2.Fun K "renamed" "Record.renamed" sRen f fd) : FnOk P w K mg base (L2.CX P w) 8 f fd ["self", "old", "new"] (spRen C CN CB CT n) := by
  obtain ⟨fB, fdB, iB, tB, FB, bB⟩ := fn_badname (w := w) (base := base) ZB
  obtain ⟨fN, fdN, iN, tN, FN, bN⟩ := fn_nofield (w := w) (base := base) ZN
  obtain ⟨fT, fdT, iT, tT, FT, bT⟩ := fn_there (w := w) (base := base) ZT
  refine Fun.okX F scRen (fun vs H Q E h => ?_) (fun cdv A outer s H vs Q E hr h => ?_)
  · obtain ⟨a, fs, old, new, rfl, _⟩ := h
    rfl
  · obtain ⟨a, fs, old, new, rfl, rc, ol, oc, nl, nc, q1, q2, q3, q4⟩ := h
    have hu := hu_of hr
    have hr2 : Room 2 (A.deeper (envOfC "Record.renamed" (defScope sRen) s.heap.objs.size f cdv)) := hr.mono (by decide)
    obtain ⟨l, ra, wf, pm, ch⟩ := Rc.out rc
    obtain ⟨⟨dx, tp, d1, _, ea, _, ed1⟩, ndl, _⟩ := id ra
    refine ⟨_, (pss_cons (ps_if (pt_cmp (pc_dnotin hu (pv 1) (pe_fld (pv 0) rfl)))
        (pss_one (ps_raise rfl (takes_of rfl rfl rfl rfl) (pmk_oex ZN.T iN tN FN hr2 bN .nil pass0 (by rfl) ZN.mgC (pa_cons (pv 1) pa_nil)))) pss_nil)
      (pss_cons (ps_if (pt_not (pt_val (pe_c iw hr (by decide) rfl (pa_cons (pv 2) pa_nil))))
        (pss_one (ps_raise rfl (takes_of rfl rfl rfl rfl) (pmk_oex ZB.T iB tB FB hr2 bB .nil pass0 (by rfl) ZB.mgC (pa_cons (pv 2) pa_nil)))) pss_nil)
      (pss_cons (ps_set (i := 3) scRen.nd rfl (Or.inl rfl) (pe_mR R mw hr (by decide) pass0 (pv 0) (pa_cons (pv 1) pa_nil)))
      (pss_cons (ps_if (pt_cmpR (op_inM m_contains hr (by decide)) (pv 2) (pv 3) (by rfl))
        (pss_one (ps_raise rfl (takes_of rfl rfl rfl rfl) (pmk_oex ZT.T iT tT FT hr2 bT .nil pass0 (by rfl) ZT.mgC (pa_cons (pv 2) pa_nil)))) pss_nil)
      (pss_one (ps_ret (pe_mKX (E := fun _ => E0) R mp hr (by decide) (fun σ => passE0 σ) (pv 3) (pa_cons (pv 2) (pa_cons (pe_dget hu (pe_fld (pv 0) rfl) (pv 1) (fun _ _ => rfl)) pa_nil))))))))), ?_⟩
    have hd := DGet.k (k := Sum.inr old) ed1
    rw [dk_val] at hd
    refine ⟨_, rfl, _, rfl, a, C, dx, _, _, rfl, ea, R.cl, R.nF, rf_fields _ _ _, d1, _, rfl, hd, ?_⟩
    cases hlo : look old fs with
    | none =>
      rw [look_none_names pm hlo]
      refine ⟨_, rfl, iteT ⟨_, rfl, by show 1 ≤ 1000; decide, fun ea2 he => ⟨ea2, old, rfl, upd_same, ol, oc, fun d2 hd2 hde => ⟨rfl, d2, _, upd_same, by rw [upd_ne hde]; exact upd_same, ?_, ?_⟩⟩⟩⟩
      · rw [upd_ne hde] at hd2
        exact hd2
      · refine q1 hlo d2 _ upd_same fun c o z => ?_
        have h0 : H d2 = none := by
          rw [upd_ne hde] at hd2
          exact hd2
        have n1 : c ≠ ea2 := ne_of_none z he
        rw [upd_ne (ne_of_none z h0), del_ne n1, upd_ne n1, upd_ne (ne_of_none z h0), upd_ne n1]
        exact z
    | some t =>
      obtain ⟨v, hv⟩ := look_some (pm.mem_iff.mpr (List.mem_map.mpr ⟨_, look_mem hlo, rfl⟩))
      rw [hv] at hd ⊢
      refine ⟨_, rfl, iteF ?_⟩
      refine ⟨_, rfl, new, rfl, by omega, fun H0 s0 => ⟨_, rfl, ?_⟩⟩
      by_cases g : Good new
      · rw [goodB_iff.mpr g]
        refine iteF ?_
        have r0 := rc.same s0
        refine ⟨_, rfl, a, dx, _, rfl, s0 _ _ ea, rf_no (by decide) (by decide) (by decide) _ _ _, _, rfl, a, fs, [old], rfl, by show 1 ≤ 1000; decide, r0, fun r H1 rr s1 => ?_⟩
        obtain ⟨l2, ra2, wf2, pm2, ch2⟩ := Rc.out rr
        have s01 := s0.trans s1
        obtain ⟨⟨dx2, tp2, d2, _, ea2, _, ed2⟩, ndl2, _⟩ := id ra2
        refine ⟨_, rfl, _, rfl, r, dx2, _, rfl, ea2, r, l2, _, new, rfl, ra2.any, ?_⟩
        by_cases hn : new ∈ names (flt (fl [old] false) fs)
        · obtain ⟨u, hu2⟩ := look_some (pm2.mem_iff.mpr hn)
          rw [hu2]
          refine ⟨_, rfl, _, rfl, iteT ⟨_, rfl, by show 1 ≤ 1000; decide, fun ee he => ⟨ee, new, rfl, upd_same, nl, nc, fun dd hd2 hde => ⟨rfl, dd, _, upd_same, by rw [upd_ne hde]; exact upd_same, ?_, ?_⟩⟩⟩⟩
          · rw [upd_ne hde] at hd2
            exact hd2
          · refine q3 t hlo g hn dd _ upd_same fun c o z0 => ?_
            have z := s01 _ _ z0
            have h0 : H1 dd = none := by
              rw [upd_ne hde] at hd2
              exact hd2
            have n1 : c ≠ ee := ne_of_none z he
            rw [upd_ne (ne_of_none z h0), del_ne n1, upd_ne n1, upd_ne (ne_of_none z h0), upd_ne n1]
            exact z
        · have hz : look new l2 = none := by
            cases e : look new l2 with
            | none => rfl
            | some u => exact absurd (pm2.mem_iff.mp (List.mem_map.mpr ⟨_, look_mem e, rfl⟩)) hn
          rw [hz]
          refine ⟨_, rfl, _, rfl, iteF ?_⟩
          have hl2 := flt_len hlo
          have hl1 := wf.ln
          refine ⟨_, rfl, r, dx2, _, rfl, ea2, rf_no (by decide) (by decide) (by decide) _ _ _, _, rfl, _, rfl, a, C, dx, _, _, rfl, s01 _ _ ea, R.cl, R.nF, rf_fields _ _ _, _, rfl, d1, v, rfl, ?_, r, _, new, v, t, rfl, rr, (ch old v t hv hlo).same s01, by omega, nl, nc, fun _ r3 H3 rr3 s3 => ?_, fun gn => absurd g gn⟩
          · have hd1 := DGet.k (k := Sum.inr old) (s01 _ _ ed1)
            rw [dk_val, hv] at hd1
            exact hd1
          · rw [put_any hn] at rr3
            exact q4 t hlo g hn r3 H3 rr3 (s01.trans s3)
      · have gb : goodB new = false := by
          rw [← Bool.not_eq_true, goodB_iff]
          exact g
        rw [gb]
        refine iteT ⟨_, rfl, by show 1 ≤ 1000; decide, fun ee he => ⟨ee, new, rfl, upd_same, nl, nc, fun dd hd2 hde => ⟨rfl, dd, _, upd_same, by rw [upd_ne hde]; exact upd_same, ?_, ?_⟩⟩⟩
        · rw [upd_ne hde] at hd2
          exact hd2
        · refine q2 t hlo g dd _ upd_same fun c o z0 => ?_
          have z := s0 _ _ z0
          have h0 : H0 dd = none := by
            rw [upd_ne hde] at hd2
            exact hd2
          have n1 : c ≠ ee := ne_of_none z he
          rw [upd_ne (ne_of_none z h0), del_ne n1, upd_ne n1, upd_ne (ne_of_none z h0), upd_ne n1]
          exact z
end
end Lw
namespace Lw
open PySem PySem.Spec PyProof.Rows L2 GrT GrOwn GrMg
abbrev sNamed : Stmt := top 30
abbrev sIsWd : Stmt := top 31
/-- what may be drawn as a name -/
structure Dr (x : Str) : Prop where
  ln : x.length ≤ 60
  cp : ∀ c ∈ x.cps.toList, c < 128
theorem Dr.cps {x : Str} (h : Dr x) : ∀ c ∈ x.cps.toList, c < 16 ^ 8 := fun c hc => by
  have := h.cp c hc
  have e : (16 : Nat) ^ 8 = 4294967296 := by decide
  omega
theorem Dr.le {x : Str} (h : Dr x) : x.length ≤ 1000 := by
  have := h.ln
  omega
theorem Dr.good {x : Str} (g : Good x) : Dr x := ⟨by have := g.2.1; omega, fun c hc => by have := (g.2.2 c hc).2; omega⟩
def drB (x : Str) : Bool := decide (x.length ≤ 60) && x.cps.toList.all fun c => decide (c < 128)
theorem drB_ok {x : Str} (h : drB x = true) : Dr x := by
  unfold drB at h
  rw [Bool.and_eq_true, decide_eq_true_iff, List.all_eq_true] at h
  exact ⟨h.1, fun c hc => of_decide_eq_true (h.2 c hc)⟩
def spNamed : Sp := fun vs H Q _ => ∃ (p W : Addr) (ws : List Str), vs = [.ref p, .ref W] ∧ Tape H p ∧ W ≠ p ∧ H W = some (.lst (ws.map V.str)) ∧ 0 < ws.length ∧ ws.length ≤ 64 ∧ (∀ x ∈ ws, Good x) ∧ ∀ x H', Dr x → Fx p H H' → Tape H' p → Q (.str x) H'
def spIsWd : Sp := fun vs H Q _ => ∃ x : Str, vs = [.str x] ∧ x.length ≤ 1000 ∧ ∀ H', Same H H' → Q (.bl (goodB x)) H'
section
variable {P : Program} {w : World} {K : PySem.W.Frag} {mg : Str → Option Value} {base : Heap}
theorem mulOk31 {x : Str} (h : x.length ≤ 8) : MulOk x 31 := by
  refine ⟨by decide, fun _ _ => ?_, fun _ _ => ?_⟩
  · have : ((2 : Int) ^ 63 - 1) / 31 = 297528130221121800 := by decide
    omega
  · have e : (31 : Int).toNat = 31 := rfl
    rw [e]
    unfold Builtin.Str.tooLong
    have := line_big (n := x.length * 31) (by omega)
    exact decide_eq_false (by omega)
theorem scNamed : FnScope ["tape", "names", "choice"] ["tape", "names"] (defScope sNamed) := ⟨rfl, rfl, rfl, by decide +kernel, rfl, by decide +kernel, by decide +kernel⟩
theorem a31 : drB (PySem.Txt.mul (Str.ofString "a") 31) = true := by decide +kernel
theorem c_named (T : Bu mg) (D : Dfn K mg "_law_named" sNamed ["tape", "names"]) (c_law_take : Cal P w K mg base 1 "_law_take" spTake) (c_law_pick : Cal P w K mg base 2 "_law_pick" spPick) : Cal P w K mg base 3 "_law_named" spNamed := by
  refine D.cal scNamed (fun vs H Q E h => ?_) (fun f cdv A outer s H vs Q E hr h => ?_)
  · obtain ⟨p, W, ws, rfl, _⟩ := h
    rfl
  · obtain ⟨p, W, ws, rfl, tp, Wp, eW, l1, l2, gd, q⟩ := h
    refine ⟨_, (pss_cons (ps_set (i := 2) scNamed.nd rfl (Or.inl rfl) (pe_c c_law_take hr (by decide) rfl (pa_cons (pv 0) (pa_cons pe_int pa_nil))))
      (pss_cons (ps_if (pt_cmpR op_eq (pv 2) pe_int (nomark _)) (pss_one (ps_ret (pe_ix ix_str pe_str (pe_op op_mod (pe_c c_law_take hr (by decide) rfl (pa_cons (pv 0) (pa_cons pe_int pa_nil))) pe_int) (fun _ _ => rfl)))) pss_nil)
      (pss_cons (ps_if (pt_cmpR op_eq (pv 2) pe_int (nomark _)) (pss_one (ps_ret (pe_ix ix_list (pe_lst (pa_cons pe_str (pa_cons pe_str (pa_cons pe_str (pa_cons (pe_op op_mul_str pe_str pe_int) (pa_cons pe_str pa_nil)))))) (pe_c c_law_take hr (by decide) rfl (pa_cons (pv 0) (pa_cons pe_int pa_nil))) (fun _ _ => rfl)))) pss_nil)
      (pss_one (ps_ret (pe_c c_law_pick hr (by decide) rfl (pa_cons (pv 0) (pa_cons (pv 1) pa_nil)))))))), ?_⟩
    refine ⟨_, rfl, p, 8, rfl, tp, by decide, fun i H1 i0 i1 x1 t1 => ⟨_, rfl, rfl, _, rfl, ite2 (fun _ => ?_) (fun _ => ?_)⟩⟩
    · refine ⟨_, rfl, p, 720720, rfl, t1, p72, fun j H2 j0 j1 x2 t2 => ?_⟩
      obtain ⟨c, hc, hat⟩ := abc_mod j
      refine ⟨_, _, rfl, rfl, by show (0 : Int) < 26; decide, _, _, c, rfl, rfl, line_big (by rw [abc_len]; decide), hat, ?_⟩
      refine q _ H2 ⟨by rw [one_len]; decide, fun d hd => ?_⟩ (x1.trans x2) t2
      have e : d = c := by simpa using hd
      rw [e]
      have := hc.2
      omega
    · refine ⟨_, rfl, rfl, _, rfl, ite2 (fun _ => ?_) (fun _ => ?_)⟩
      · refine ⟨_, _, rfl, rfl, mulOk31 (by decide +kernel), by rw [sizeLine_eq]; decide, fun r hr1 => ?_⟩
        have t2 := t1.new (o := .lst [V.str "", V.str "A", V.str "a b", V.str (PySem.Txt.mul (Str.ofString "a") 31), V.str "b1"]) hr1
        have x2 := (Fx.refl (T := p) (H := H1)).new (o := .lst [V.str "", V.str "A", V.str "a b", V.str (PySem.Txt.mul (Str.ofString "a") 31), V.str "b1"]) hr1
        have er : (upd H1 r (.lst [V.str "", V.str "A", V.str "a b", V.str (PySem.Txt.mul (Str.ofString "a") 31), V.str "b1"])) r = some (.lst [V.str "", V.str "A", V.str "a b", V.str (PySem.Txt.mul (Str.ofString "a") 31), V.str "b1"]) := upd_same
        have rp : r ≠ p := t1.ne'' hr1
        refine ⟨_, rfl, p, 5, rfl, t2, by decide, fun j H3 j0 j1 x3 t3 => ?_⟩
        have er3 := x3 _ _ rp er
        obtain ⟨jj, hj, hjj⟩ : ∃ jj : Nat, j = (jj : Int) ∧ jj < 5 := ⟨j.toNat, by omega, by omega⟩
        subst hj
        have all : ∀ k : Nat, k < 5 → ∃ x : Str, [V.str "", V.str "A", V.str "a b", V.str (PySem.Txt.mul (Str.ofString "a") 31), V.str "b1"][k]? = some (V.str x) ∧ Dr x := by
          intro k hk
          match k, hk with
          | 0, _ => exact ⟨_, rfl, drB_ok (by decide +kernel)⟩
          | 1, _ => exact ⟨_, rfl, drB_ok (by decide +kernel)⟩
          | 2, _ => exact ⟨_, rfl, drB_ok (by decide +kernel)⟩
          | 3, _ => exact ⟨_, rfl, drB_ok a31⟩
          | 4, _ => exact ⟨_, rfl, drB_ok (by decide +kernel)⟩
        obtain ⟨x, hx, dx⟩ := all jj hjj
        exact ⟨r, _, _, .str x, rfl, rfl, SqL.of er3, atI_nat hx, q x H3 dx ((x1.trans x2).trans x3) t3⟩
      · exact ⟨_, rfl, _, rfl, p, W, ws, rfl, t1, Wp, x1 _ _ Wp eW, l1, l2, fun x H2 hx x2 t2 => q x H2 (Dr.good (gd x hx)) (x1.trans x2) t2⟩
theorem scIsWd : FnScope ["word", "wrong", "letter"] ["word"] (defScope sIsWd) := ⟨rfl, rfl, rfl, by decide +kernel, rfl, by decide +kernel, by decide +kernel⟩
theorem abc_iff (c : Nat) : decide (c ∈ (Str.ofString "abcdefghijklmnopqrstuvwxyz").cps.toList) = letterB c := by
  have e : (Str.ofString "abcdefghijklmnopqrstuvwxyz").cps.toList = (List.range 26).map (· + 97) := by decide +kernel
  rw [e]
  unfold letterB
  by_cases h : 97 ≤ c
  · by_cases h2 : c ≤ 122
    · rw [decide_eq_true h, decide_eq_true h2, decide_eq_true (List.mem_map.mpr ⟨c - 97, List.mem_range.mpr (by omega), by omega⟩)]
      rfl
    · rw [decide_eq_false h2, Bool.and_false, decide_eq_false]
      intro z
      obtain ⟨a, ha, hb⟩ := List.mem_map.mp z
      have := List.mem_range.mp ha
      omega
  · rw [decide_eq_false h, Bool.false_and, decide_eq_false]
    intro z
    obtain ⟨a, ha, hb⟩ := List.mem_map.mp z
    omega
theorem c_iswd (T : Bu mg) (D : Dfn K mg "_law_is_word" sIsWd ["word"]) : Cal P w K mg base 1 "_law_is_word" spIsWd := by
  refine D.cal scIsWd (fun vs H Q E h => ?_) (fun f cdv A outer s H vs Q E hr h => ?_)
  · obtain ⟨x, rfl, _⟩ := h
    rfl
  · obtain ⟨x, rfl, xl, q⟩ := h
    refine ⟨_, (pss_cons (ps_setLc (i := 1) (own := [("letter", 2)]) (g := gName 2) rfl scIsWd.nd rfl rfl (sw_true rfl rfl rfl (by decide +kernel)) (pi_str (pv 0)) (blkOk_by (own := [("letter", 2)]) (N := ["word", "wrong", "letter"]) (sc := defScope sIsWd) (by decide +kernel)) (fun _ _ _ _ _ => pg_name (i := 2) scIsWd.nd rfl (Or.inl rfl))
        (fun _ _ _ _ _ => (by exact (pts_one (pt_cmpR op_notInS (pv 2) pe_str (by rfl))))) (fun _ _ _ _ _ => (pv 2)))
      (pss_one (ps_ret (pe_and (pe_chain op_le op_le pe_int (pe_callB call_len_str (by rfl) T.b_len PySem.boot_len (pa_cons (pv 0) pa_nil)) pe_int) (pe_one (pe_notT (pv 1))))))), ?_⟩
    have hsz : x.cps.size = x.length := rfl
    refine ⟨_, rfl, _, rfl, fun Z hZ => lc_it walk_str (fun i H5 => ∃ es : List V, H5 Z = some (.lst es) ∧ es.length ≤ i ∧ ((es = []) ↔ (x.cps.toList.take i).all letterB = true) ∧ Same H H5) ⟨[], upd_same, Nat.le_refl _, by simp, Same.new (Same.refl _) hZ⟩ (fun _ _ _ _ => True.intro) ?_ ?_⟩
    · rintro i y H5 H6 hi ⟨es, e1, e2, e3, sm⟩ ⟨rfl, c, hc, rfl⟩
      have hc2 : x.cps.toList[i]? = some c := by
        rw [Array.getElem?_toList]
        exact hc
      have tk : (x.cps.toList.take (i + 1)).all letterB = ((x.cps.toList.take i).all letterB && letterB c) := by
        rw [List.take_add_one, hc2, Option.toList_some, List.all_append]
        simp
      refine ⟨rfl, _, rfl, c, _, rfl, rfl, _, rfl, ?_⟩
      rw [abc_iff]
      cases h : letterB c with
      | true =>
        refine iteF ⟨es, e1, by omega, ?_, sm⟩
        rw [tk, h, Bool.and_true]
        exact e3
      | false =>
        refine iteT ⟨_, rfl, es, e1, line_big (by omega), es ++ [_], upd_same, by rw [List.length_append]; simpa using e2, ?_, fun b o e => by rw [upd_ne (ne_of_none e hZ)]; exact sm b o e⟩
        rw [tk, h, Bool.and_false]
        simp
    · rintro H5 ⟨es, e1, e2, e3, sm⟩
      rw [List.take_of_length_le (by rw [Array.length_toList]; exact Nat.le_refl _)] at e3
      have q1 := q H5 sm
      refine ⟨_, rfl, x, rfl, line_big (by omega), _, _, rfl, rfl, ?_⟩
      by_cases h1 : 1 ≤ x.length
      · refine ⟨_, rfl, ?_⟩
        rw [if_pos (decide_eq_true (by omega))]
        refine ⟨_, _, rfl, rfl, _, rfl, ?_⟩
        by_cases h2 : x.length ≤ 30
        · rw [if_pos (decide_eq_true (by omega))]
          refine ⟨_, rfl, _, .inl ⟨_, SqL.of e1, rfl⟩, ?_⟩
          have e : goodB x = es.isEmpty := by
            unfold goodB
            rw [decide_eq_true h1, decide_eq_true h2, Bool.true_and, Bool.true_and, Bool.eq_iff_iff, List.isEmpty_iff]
            exact e3.symm
          rw [e] at q1
          rw [Bool.not_not]
          exact q1
        · rw [if_neg (fun z => h2 (by have := of_decide_eq_true z; omega))]
          have e : goodB x = false := by
            rw [← Bool.not_eq_true, goodB_iff]
            exact fun g => h2 g.2.1
          rw [e] at q1
          exact q1
      · have e : goodB x = false := by
          rw [← Bool.not_eq_true, goodB_iff]
          exact fun g => h1 g.1
        rw [e] at q1
        refine ⟨_, rfl, ?_⟩
        rw [if_neg (fun z => h1 (by have := of_decide_eq_true z; omega))]
        refine ⟨false, rfl, ?_⟩
        rw [if_neg Bool.false_ne_true]
        exact q1
end
end Lw
namespace Lw
open PySem PySem.Spec PyProof.Rows L2 GrT GrOwn GrMg
abbrev sLeft : Stmt := top 32
abbrev sPutDue : Stmt := top 33
abbrev sRenDue : Stmt := top 34
def spLeft : Sp := fun vs H Q _ => ∃ (D W : Addr) (l : List (Str × V)) (xs : List Str) (there : Bool), vs = [.ref D, .ref W, .bl there] ∧ H D = some (.dK (dk l)) ∧ (names l).Nodup ∧ l.length ≤ 64 ∧ H W = some (.lst (xs.map V.str)) ∧
  ∀ (M : Addr) H', H M = none → H' M = some (.dK (dk (flt (fl xs there) l))) → Same H H' → Q (.ref M) H'
def spPutDue : Sp := fun vs H Q _ => ∃ (D : Addr) (x : Str) (v : V) (l : List (Str × V)), vs = [.ref D, .str x, v] ∧ H D = some (.dK (dk l)) ∧ (names l).Nodup ∧ l.length ≤ 64 ∧ x.length ≤ 1000 ∧
  (Good x → ∀ (p M : Addr) H', H' p = some (.tup [.str "record", .ref M, .bl true]) → H M = none → H' M = some (.dK (dk (flt (fl [x] false) l ++ [(x, v)]))) → Same H H' → Q (.ref p) H') ∧
  (¬ Good x → ∀ (p : Addr) H', H' p = some (.tup [.str "bad", .str x, .bl true]) → Same H H' → Q (.ref p) H')
def spRenDue : Sp := fun vs H Q _ => ∃ (D : Addr) (old new : Str) (l : List (Str × V)), vs = [.ref D, .str old, .str new] ∧ H D = some (.dK (dk l)) ∧ (names l).Nodup ∧ l.length ≤ 64 ∧ new.length ≤ 1000 ∧
  (look old l = none → ∀ (p : Addr) H', H' p = some (.tup [.str "lacks", .str old, .bl true]) → Same H H' → Q (.ref p) H') ∧
  (∀ v, look old l = some v → ¬ Good new → ∀ (p : Addr) H', H' p = some (.tup [.str "bad", .str new, .bl true]) → Same H H' → Q (.ref p) H') ∧
  (∀ v, look old l = some v → Good new → new ∈ names (flt (fl [old] false) l) → ∀ (p : Addr) H', H' p = some (.tup [.str "there", .str new, .bl true]) → Same H H' → Q (.ref p) H') ∧
  (∀ v, look old l = some v → Good new → new ∉ names (flt (fl [old] false) l) → ∀ (p M : Addr) H', H' p = some (.tup [.str "record", .ref M, .bl true]) → H M = none → H' M = some (.dK (dk (flt (fl [old] false) l ++ [(new, v)]))) → Same H H' → Q (.ref p) H')
theorem flt_not {α : Type} {x : Str} {l : List (Str × α)} : x ∉ names (flt (fl [x] false) l) := fun h => by
  rw [names_flt] at h
  have := (List.mem_filter.mp h).2
  unfold fl at this
  rw [decide_eq_true (List.mem_singleton.mpr rfl)] at this
  cases this
theorem flt_nd {α : Type} {c : Str → Bool} {l : List (Str × α)} (h : (names l).Nodup) : (names (flt c l)).Nodup := by
  rw [names_flt]
  exact h.sublist List.filter_sublist
theorem flt_le {α : Type} {c : Str → Bool} {l : List (Str × α)} : (flt c l).length ≤ l.length := List.length_filter_le _ _
section
variable {P : Program} {w : World} {K : PySem.W.Frag} {mg : Str → Option Value} {base : Heap}
theorem scLeft : FnScope ["fields", "names", "there", "left", "name"] ["fields", "names", "there"] (defScope sLeft) := ⟨rfl, rfl, rfl, by decide +kernel, rfl, by decide +kernel, by decide +kernel⟩
theorem c_left (T : Bu mg) (D : Dfn K mg "_law_left" sLeft ["fields", "names", "there"]) : Cal P w K mg base 1 "_law_left" spLeft := by
  refine D.cal scLeft (fun vs H Q E h => ?_) (fun f cdv A outer s H vs Q E hr h => ?_)
  · obtain ⟨D, W, l, xs, there, rfl, _⟩ := h
    rfl
  · obtain ⟨d, W, l, xs, there, rfl, ed, nl, hl, eW, q⟩ := h
    have hu := hu_of hr
    refine ⟨_, (pss_cons (ps_set (i := 3) scLeft.nd rfl (Or.inl rfl) pe_dnewK)
      (pss_cons (ps_lock (ps_for PassesOwn.never rfl (pi_keys (pv 0)) (pg_name (i := 4) scLeft.nd rfl (Or.inl rfl))
        (pss_one (ps_if (pt_cmpR op_eq (pe_cmpR op_in_seq (pv 4) (pv 1) (by rfl)) (pv 2) (by rfl))
          (pss_one (ps_dput hu (pv 3) (pv 4) (pe_dget hu (pv 0) (pv 4) (fun _ _ => rfl)) rfl)) pss_nil))))
      (pss_one (ps_ret (pv 3))))), ?_⟩
    intro M hM
    have s1 : Same H (upd H M (.dK [])) := Same.new (Same.refl _) hM
    have dM : d ≠ M := ne_of_none ed hM
    have WM : W ≠ M := ne_of_none eW hM
    have Wd : W ≠ d := fun z => by
      rw [z, ed] at eW
      cases eW
    have ed1 := s1 _ _ ed
    have eW1 := s1 _ _ eW
    have eM1 : (upd H M (.dK [])) M = some (.dK (dk [])) := upd_same
    have nM : ∀ b o, H b = some o → b ≠ M := fun b o e z => by
      rw [z, hM] at e
      cases e
    generalize upd H M (.dK []) = H1 at s1 ed1 eW1 eM1 ⊢
    refine ⟨d, .dK (dk l), ed1, True.intro, fun od => ?_⟩
    have eWB : (upd H1 d (.frz od (.dK (dk l)))) W = some (.lst (xs.map V.str)) := by
      rw [upd_ne Wd]
      exact eW1
    have eMB : (upd H1 d (.frz od (.dK (dk l)))) M = some (.dK (dk [])) := by
      rw [upd_ne dM.symm]
      exact eM1
    have edB : (upd H1 d (.frz od (.dK (dk l)))) d = some (.frz od (.dK (dk l))) := upd_same
    have sU0 : ∀ H', Fx M (upd H1 d (.frz od (.dK (dk l)))) H' → Same H (upd H' d (.dK (dk l))) := fun H' x b o e => by
      by_cases z : b = d
      · rw [z, upd_same, ← ed, ← z, e]
      · rw [upd_ne z]
        exact x b o (nM b o e) (by rw [upd_ne z]; exact s1 _ _ e)
    generalize upd H1 d (.frz od (.dK (dk l))) = B at eWB eMB edB sU0 ⊢
    refine ⟨_, rfl, d, od, rfl, .inl ⟨_, edB, for_it walk_keys (fun i σ H' => ∃ nv : Option V, σ = [some (.ref d), some (.ref W), some (.bl there), some (.ref M), nv] ∧ H' M = some (.dK (dk (flt (fl xs there) (l.take i)))) ∧ Fx M B H')
      ⟨none, rfl, eMB, Fx.refl⟩ (fun i σ H' _ h => ?_) ?_ ?_⟩⟩
    · obtain ⟨nv, _, _, h⟩ := h
      exact h _ _ dM edB
    · rintro i y σ H' H2 hi ⟨nv, rfl, eM, x3⟩ ⟨rfl, k', v', hk, rfl⟩
      obtain ⟨x, rfl, hx⟩ := dk_at hk
      have hlx : look x l = some v' := mem_look nl (List.mem_of_getElem? hx)
      have e2 : (names l)[i]? = some x := by rw [List.getElem?_map, hx]; rfl
      have t1 : flt (fl xs there) (l.take (i + 1)) = flt (fl xs there) (l.take i) ++ (if fl xs there x = true then [(x, v')] else []) := by
        unfold flt
        rw [List.take_add_one, hx, List.filter_append, Option.toList_some, List.filter_cons, List.filter_nil]
      have hno : x ∉ names (flt (fl xs there) (l.take i)) := fun hm => by
        rw [names_flt] at hm
        have hm2 := (List.mem_filter.mp hm).1
        have e1 : names (l.take i) = (names l).take i := by simp [names, List.map_take]
        rw [e1] at hm2
        obtain ⟨j, hj, ej⟩ := List.mem_take_iff_getElem.mp hm2
        have hi3 : i < (names l).length := (List.getElem?_eq_some_iff.mp e2).1
        have e3 : (names l)[i] = x := (List.getElem?_eq_some_iff.mp e2).2
        have := (List.getElem_inj nl).mp (ej.trans e3.symm)
        omega
      have ndt : (names (flt (fl xs there) (l.take i))).Nodup := by
        rw [names_flt]
        have e1 : names (l.take i) = (names l).take i := by simp [names, List.map_take]
        rw [e1]
        exact (nl.sublist (List.take_sublist _ _)).sublist List.filter_sublist
      have hml : (dk (flt (fl xs there) (l.take i))).length < sizeLine := by
        rw [dk_len]
        have h1 := flt_le (c := fl xs there) (l := l.take i)
        rw [List.length_take] at h1
        exact Nat.lt_of_lt_of_le (by omega : _ < 100) (line_big (by decide))
      refine ⟨_, rfl, _, rfl, W, _, rfl, .inl (SqL.of (x3 _ _ WM eWB)), rfl, flat_str _, _, rfl, rfl, _, rfl, ?_⟩
      have ec : decide (V.bl (inV (V.str x) (xs.map V.str)) = V.bl there) = fl xs there x := by
        rw [inV_dec]
        unfold fl
        cases decide (x ∈ xs) <;> cases there <;> rfl
      show ite (decide (V.bl (inV (V.str x) (xs.map V.str)) = V.bl there) = true) _ _
      rw [ec]
      cases hc : fl xs there x with
      | true =>
        rw [hc, if_pos rfl] at t1
        refine iteT ⟨_, rfl, _, rfl, d, v', rfl, .inl ⟨dk l, Sum.inr x, .inr ⟨od, x3 _ _ dM edB⟩, rfl, by rw [dk_val, hlx]⟩, _, rfl, _, rfl, M, _, rfl, DPut.k (k := Sum.inr x) eM hml, _, rfl, ?_, fun b o nb e => by rw [upd_ne nb]; exact x3 b o nb e⟩
        rw [upd_same, dk_put x v' _ ndt, put_new hno, t1]
      | false =>
        rw [hc, if_neg Bool.false_ne_true, List.append_nil] at t1
        refine iteF ⟨_, rfl, ?_, x3⟩
        rw [t1]
        exact eM
    · rintro σ H' ⟨nv, rfl, eM, x3⟩
      refine ⟨x3 _ _ dM edB, _, rfl, q M _ hM ?_ (sU0 H' x3)⟩
      rw [upd_ne dM.symm, eM, dk_len, List.take_length]
theorem scPutDue : FnScope ["fields", "name", "value", "left"] ["fields", "name", "value"] (defScope sPutDue) := ⟨rfl, rfl, rfl, by decide +kernel, rfl, by decide +kernel, by decide +kernel⟩
theorem c_putdue (T : Bu mg) (D : Dfn K mg "_law_put_due" sPutDue ["fields", "name", "value"]) (cw : Cal P w K mg base 1 "_law_is_word" spIsWd) (cl : Cal P w K mg base 1 "_law_left" spLeft) : Cal P w K mg base 2 "_law_put_due" spPutDue := by
  refine D.cal scPutDue (fun vs H Q E h => ?_) (fun f cdv A outer s H vs Q E hr h => ?_)
  · obtain ⟨D, x, v, l, rfl, _⟩ := h
    rfl
  · obtain ⟨d, x, v, l, rfl, ed, nl, hl, xl, q1, q2⟩ := h
    have hu := hu_of hr
    refine ⟨_, (pss_cons (ps_if (pt_not (pt_val (pe_c cw hr (by decide) rfl (pa_cons (pv 1) pa_nil)))) (pss_one (ps_ret (pe_tup (pa_cons pe_str (pa_cons (pv 1) (pa_cons pe_bl pa_nil)))))) pss_nil)
      (pss_cons (ps_set (i := 3) scPutDue.nd rfl (Or.inl rfl) (pe_c cl hr (by decide) rfl (pa_cons (pv 0) (pa_cons (pe_lst (pa_cons (pv 1) pa_nil)) (pa_cons pe_bl pa_nil)))))
      (pss_cons (ps_dput hu (pv 3) (pv 1) (pv 2) rfl)
      (pss_one (ps_ret (pe_tup (pa_cons pe_str (pa_cons (pv 3) (pa_cons pe_bl pa_nil))))))))), ?_⟩
    refine ⟨_, rfl, x, rfl, xl, fun H1 s1 => ⟨_, rfl, ?_⟩⟩
    by_cases g : Good x
    · rw [goodB_iff.mpr g]
      refine iteF ?_
      refine ⟨_, rfl, _, rfl, line_big (by show 1 ≤ 100000; decide), fun W hW => ?_⟩
      have s2 : Same H (upd H1 W (.lst [V.str x])) := Same.new s1 hW
      have eW : (upd H1 W (.lst [V.str x])) W = some (.lst [V.str x]) := upd_same
      generalize upd H1 W (.lst [V.str x]) = H2 at s2 eW ⊢
      refine ⟨d, W, l, [x], false, rfl, s2 _ _ ed, nl, hl, eW, fun M H3 hM eM s3 => ?_⟩
      have s03 := s2.trans s3
      have hM0 : H M = none := s2.free hM
      have nd := flt_nd (c := fl [x] false) nl
      have hno := flt_not (x := x) (l := l)
      have hll := flt_le (c := fl [x] false) (l := l)
      refine ⟨_, rfl, _, rfl, _, rfl, M, _, rfl, DPut.k (k := Sum.inr x) eM (Nat.lt_of_lt_of_le (by rw [dk_len]; omega : _ < 100) (line_big (by decide))), ?_⟩
      rw [dk_put x v _ nd, put_new hno]
      have s4 : Same H (upd H3 M (.dK (dk (flt (fl [x] false) l ++ [(x, v)])))) := fun b o e => by
        rw [upd_ne (ne_of_none e hM0)]
        exact s03 b o e
      have eM4 : (upd H3 M (.dK (dk (flt (fl [x] false) l ++ [(x, v)])))) M = some (.dK (dk (flt (fl [x] false) l ++ [(x, v)]))) := upd_same
      generalize upd H3 M (.dK (dk (flt (fl [x] false) l ++ [(x, v)]))) = H4 at s4 eM4 ⊢
      exact ⟨_, rfl, line_big (by show 3 ≤ 100000; decide), fun p hp => q1 g p M _ upd_same hM0 (by rw [upd_ne (ne_of_none eM4 hp)]; exact eM4) (Same.new s4 hp)⟩
    · have gb : goodB x = false := by
        rw [← Bool.not_eq_true, goodB_iff]
        exact g
      rw [gb]
      exact iteT ⟨_, rfl, line_big (by show 3 ≤ 100000; decide), fun p hp => q2 g p _ upd_same (Same.new s1 hp)⟩
theorem scRenDue : FnScope ["fields", "old", "new", "left"] ["fields", "old", "new"] (defScope sRenDue) := ⟨rfl, rfl, rfl, by decide +kernel, rfl, by decide +kernel, by decide +kernel⟩
theorem c_rendue (T : Bu mg) (D : Dfn K mg "_law_renamed_due" sRenDue ["fields", "old", "new"]) (cw : Cal P w K mg base 1 "_law_is_word" spIsWd) (cl : Cal P w K mg base 1 "_law_left" spLeft) : Cal P w K mg base 2 "_law_renamed_due" spRenDue := by
  refine D.cal scRenDue (fun vs H Q E h => ?_) (fun f cdv A outer s H vs Q E hr h => ?_)
  · obtain ⟨D, old, new, l, rfl, _⟩ := h
    rfl
  · obtain ⟨d, old, new, l, rfl, ed, nl, hl, xl, q1, q2, q3, q4⟩ := h
    have hu := hu_of hr
    refine ⟨_, (pss_cons (ps_if (pt_cmp (pc_dnotin hu (pv 1) (pv 0))) (pss_one (ps_ret (pe_tup (pa_cons pe_str (pa_cons (pv 1) (pa_cons pe_bl pa_nil)))))) pss_nil)
      (pss_cons (ps_if (pt_not (pt_val (pe_c cw hr (by decide) rfl (pa_cons (pv 2) pa_nil)))) (pss_one (ps_ret (pe_tup (pa_cons pe_str (pa_cons (pv 2) (pa_cons pe_bl pa_nil)))))) pss_nil)
      (pss_cons (ps_set (i := 3) scRenDue.nd rfl (Or.inl rfl) (pe_c cl hr (by decide) rfl (pa_cons (pv 0) (pa_cons (pe_lst (pa_cons (pv 1) pa_nil)) (pa_cons pe_bl pa_nil)))))
      (pss_cons (ps_if (pt_cmp (pc_din hu (pv 2) (pv 3))) (pss_one (ps_ret (pe_tup (pa_cons pe_str (pa_cons (pv 2) (pa_cons pe_bl pa_nil)))))) pss_nil)
      (pss_cons (ps_dput hu (pv 3) (pv 2) (pe_dget hu (pv 0) (pv 1) (fun _ _ => rfl)) rfl)
      (pss_one (ps_ret (pe_tup (pa_cons pe_str (pa_cons (pv 3) (pa_cons pe_bl pa_nil))))))))))), ?_⟩
    have hd := DGet.k (k := Sum.inr old) ed
    rw [dk_val] at hd
    refine ⟨_, rfl, _, rfl, d, _, rfl, hd, ?_⟩
    cases hlo : look old l with
    | none => exact ⟨_, rfl, iteT ⟨_, rfl, line_big (by show 3 ≤ 100000; decide), fun p hp => q1 hlo p _ upd_same (Same.new (Same.refl _) hp)⟩⟩
    | some v =>
      refine ⟨_, rfl, iteF ?_⟩
      refine ⟨_, rfl, new, rfl, xl, fun H1 s1 => ⟨_, rfl, ?_⟩⟩
      by_cases g : Good new
      · rw [goodB_iff.mpr g]
        refine iteF ?_
        refine ⟨_, rfl, _, rfl, line_big (by show 1 ≤ 100000; decide), fun W hW => ?_⟩
        have s2 : Same H (upd H1 W (.lst [V.str old])) := Same.new s1 hW
        have eW : (upd H1 W (.lst [V.str old])) W = some (.lst [V.str old]) := upd_same
        generalize upd H1 W (.lst [V.str old]) = H2 at s2 eW ⊢
        refine ⟨d, W, l, [old], false, rfl, s2 _ _ ed, nl, hl, eW, fun M H3 hM eM s3 => ?_⟩
        have s03 := s2.trans s3
        have hM0 : H M = none := s2.free hM
        have nd := flt_nd (c := fl [old] false) nl
        have hll := flt_le (c := fl [old] false) (l := l)
        have hdM := DGet.k (k := Sum.inr new) eM
        rw [dk_val] at hdM
        refine ⟨_, rfl, _, rfl, M, _, rfl, hdM, ?_⟩
        by_cases hn : new ∈ names (flt (fl [old] false) l)
        · obtain ⟨u, hu2⟩ := look_some hn
          rw [hu2]
          exact ⟨_, rfl, iteT ⟨_, rfl, line_big (by show 3 ≤ 100000; decide), fun p hp => q3 v hlo g hn p _ upd_same (Same.new s03 hp)⟩⟩
        · have hz : look new (flt (fl [old] false) l) = none := by
            cases e : look new (flt (fl [old] false) l) with
            | none => rfl
            | some u => exact absurd (List.mem_map.mpr ⟨_, look_mem e, rfl⟩) hn
          rw [hz]
          have hd3 := DGet.k (k := Sum.inr old) (s03 _ _ ed)
          rw [dk_val, hlo] at hd3
          refine ⟨_, rfl, iteF ⟨_, rfl, _, rfl, d, v, rfl, hd3, _, rfl, _, rfl, M, _, rfl, DPut.k (k := Sum.inr new) eM (Nat.lt_of_lt_of_le (by rw [dk_len]; omega : _ < 100) (line_big (by decide))), ?_⟩⟩
          rw [dk_put new v _ nd, put_new hn]
          have s4 : Same H (upd H3 M (.dK (dk (flt (fl [old] false) l ++ [(new, v)])))) := fun b o e => by
            rw [upd_ne (ne_of_none e hM0)]
            exact s03 b o e
          have eM4 : (upd H3 M (.dK (dk (flt (fl [old] false) l ++ [(new, v)])))) M = some (.dK (dk (flt (fl [old] false) l ++ [(new, v)]))) := upd_same
          generalize upd H3 M (.dK (dk (flt (fl [old] false) l ++ [(new, v)]))) = H4 at s4 eM4 ⊢
          exact ⟨_, rfl, line_big (by show 3 ≤ 100000; decide), fun p hp => q4 v hlo g hn p M _ upd_same hM0 (by rw [upd_ne (ne_of_none eM4 hp)]; exact eM4) (Same.new s4 hp)⟩
      · have gb : goodB new = false := by
          rw [← Bool.not_eq_true, goodB_iff]
          exact g
        rw [gb]
        exact iteT ⟨_, rfl, line_big (by show 3 ≤ 100000; decide), fun p hp => q2 v hlo g p _ upd_same (Same.new s1 hp)⟩
end
end Lw
namespace L2
open PySem PySem.Spec PyProof.Rows
/-- several clauses 'except x as n', all with the same n in slot i -/
def wEach (K : PySem.W.Frag) (i : Nat) (Wout : WX) (D : Ends) : List (Value × (Addr → Value → Option Addr → TS)) → WX
  | [] => Wout
  | p :: r => wAs K p.1 i p.2 (wEach K i Wout D r) D
inductive Clauses (X : Cx) (n : Str) : List ExceptHandler → List (Value × (Addr → Value → Option Addr → TS)) → Prop
  | nil : Clauses X n [] []
  | cons {x : Str} {c : Value} {ts : Addr → Value → Option Addr → TS} {b₀ : Stmt} {suite : List Stmt} {np pos' : Pos} {hds : List ExceptHandler} {l : List (Value × (Addr → Value → Option Addr → TS))} (hc : Names X x c)
      (hsu : ∀ (a : Addr) (oe : Obj) (cls : Value) (d : Option Addr) (pn : List (Addr × Obj)), Zc cls d oe → (∃ vs, oe.data = .fields vs) → PSs (X.suite a ((a, oe) :: pn)) (b₀ :: suite) (ts a cls d)) (r : Clauses X n hds l) :
      Clauses X n (.ExceptHandler (some (.Name x np)) (some n) (b₀ :: suite) pos' :: hds) ((c, ts) :: l)
section
variable {X : Cx} {n : Str} {i : Nat} {Wout : WX}
/-- an exception that came down, held against the clauses -/
theorem clauses_ok {D : Ends} {B : Heap} {pins : List (Addr × Obj)} {a : Addr} {cls : Value} {d : Option Addr} {σ : St} {H : Hp} {sI s : Shared} (hs : X.stack = X.env :: X.outer) (hf : X.env.frame = some X.env.locals) (hN : X.N.Nodup) (hi : X.N[i]? = some n) (hln : X.env.kindOf n = some .local) (tk : Takes X Wout) (ok : X.Ok)
    (J : Inv X pins σ H sI) (nb : ∀ b o, sI.heap.get? b = some o → b ∉ frs X.stack → B.get? b = some o) (up : sI.heap.UpToSlots s.heap) (os : s.os = sI.os) (ag : AllBare s.gens) (fl : HandSPX.FlyingZ B (X.env :: X.outer) a (Zc cls d) s.heap) (na : H a = none) (nL : a ≠ X.env.locals) (nF : a ∉ X.fs) :
    ∀ {hds : List ExceptHandler} {l : List (Value × (Addr → Value → Option Addr → TS))}, Clauses X n hds l → wEach X.K i Wout D l cls d σ H → wpAny (model X.prog X.w) X.A (handleBy (.ref a) X.env hds) (SP X pins D) X.xe s := by
  have I3 : Inv X pins σ H s := J.landed nb fl.1 up os ag
  intro hds l hk
  induction hk with
  | nil =>
    intro w
    obtain ⟨_, _, _, oe, vs, T, oT, ts', he, hz, hd, h1, hr⟩ := id fl
    have out : wpAny (model X.prog X.w) X.A (setFlight (.ref a) X.env.frame) (fun _ s4 => wpAny (model X.prog X.w) X.A (throw (.ref a) : Sem Flow) (SP X pins D) X.xe s4) X.xe s := by
      rw [hf]
      exact HandSPX.setFlight_upZ fl fun h4 hh4 up4 => wpAny_throw (tk _ _ ⟨a, B, sI, pins, σ, H, cls, d, rfl, J, nb, up.trans up4, .inr (.inr (by rw [hs]; exact hh4)), na, os, ag, w⟩)
    refine wpAny_handleBy_nil ?_
    unfold PySem.passOn
    refine wpAny_bind (wpAny_field he hd h1 ?_)
    rw [if_neg (show ¬ ((Value.ref T == Value.none) = true) from by simp)]
    first
      | exact wpAny_bind (wpAny_pure (wpAny_bind out))
      | exact wpAny_bind out
  | @cons x c ts b₀ suite np pos' hds2 l2 hc hsu r ih =>
    intro w
    obtain ⟨b, hb1, hyes, hno⟩ := w
    obtain ⟨oe, vs, he, hz, hd⟩ := fl.there
    have I4 := I3.suite he hd na nL nF
    have is : PySem.W.Looks (model X.prog X.w) s.heap (typeOf (.ref a)) cls := fun A Q E s' k q => wpAny_typeOf_ref (k _ _ he) (by rw [hz.1]; exact q)
    have named : ∀ {Q E : Value → Shared → Prop}, Q c s → wpAny (model X.prog X.w) (X.A.mark (some (.ref a))) (eval (.Name x np) X.env) Q E s := fun {Q E} q => by
      obtain ⟨hg, hdbg, hm | ⟨hm, hv, hnn⟩⟩ := hc
      · exact ld_glob (X := X.suite a ((a, oe) :: (X.pn ++ pins))) I4 hg hm q hdbg
      · exact ld_blt (X := X.suite a ((a, oe) :: (X.pn ++ pins))) I4 hg hm hv q hnn hdbg
    refine wpAny_handleBy_cons (codeAny_handlers_test (named ((PySem.W.exm_one (M := model X.prog X.w) I3.kIn is hb1).here ?_))) (by intro q; cases q)
    cases b with
    | false => exact ih (hno rfl)
    | true =>
      refine codeAny_handlers_suite_as (HandSPX.lands_againZ fl fun h4 fl4 up4 => ?_)
      obtain ⟨oe4, vs4, he4, hz4, hd4⟩ := fl4.there
      have I5 : Inv X pins σ H { s with heap := h4 } := J.landed nb fl4.1 (up.trans up4) os ag
      refine store_ok (X := X.suite a ((a, oe4) :: (X.pn ++ pins))) (v := .ref a) (I5.suite he4 hd4 na nL nF) hN hi (.inl hln) rfl (fun s5 I6 => ?_) (.inr hln)
      refine wpAny_mono ((hsu a oe4 cls d (X.pn ++ pins) hz4 ⟨_, hd4⟩).run [] s5 _ H _ I6 (hyes rfl a na)) (fun f s6 hsp => ?_) (fun _ _ z => False.elim z)
      have gone : ∀ {σ6 : St} {H6 : Hp} {Q : Shared → Prop}, Inv (X.suite a ((a, oe4) :: (X.pn ++ pins))) [] σ6 H6 s6 → (∀ s7, Inv X pins (σ6.set i none) H6 s7 → Q s7) →
          wpAny (model X.prog X.w) X.A (do bindName X.env n .none; unbindBehindTheSuite X.env n pos') (fun _ s7 => Q s7) X.xe s6 := fun {σ6 H6 Q} I7 hq => gone_ok (I7.unsuite ok) hN hi hln hq
      cases f with
      | next =>
        obtain ⟨σ6, H6, I7, q⟩ := hsp
        exact gone I7 fun s7 I8 => ⟨_, _, I8, q⟩
      | brk =>
        obtain ⟨σ6, H6, I7, q⟩ := hsp
        exact gone I7 fun s7 I8 => ⟨_, _, I8, q⟩
      | cont =>
        obtain ⟨σ6, H6, I7, q⟩ := hsp
        exact gone I7 fun s7 I8 => ⟨_, _, I8, q⟩
      | ret u =>
        obtain ⟨v6, σ6, H6, I7, r6, q⟩ := hsp
        exact gone I7 fun s7 I8 => ⟨_, _, _, I8, r6, q⟩
variable {body : List Stmt} {h₀ : ExceptHandler} {hds : List ExceptHandler} {l : List (Value × (Addr → Value → Option Addr → TS))} {pos : Pos} {tb : WX → TS}
theorem ps_try_each (hs : X.stack = X.env :: X.outer) (hf : X.env.frame = some X.env.locals) (hN : X.N.Nodup) (hi : X.N[i]? = some n) (hln : X.env.kindOf n = some .local) (tk : Takes X Wout)
    (hb : ∀ (W : WX) (pn : List (Addr × Obj)) (xe : Value → Shared → Prop), Takes (X.tr pn xe) W → PassesOwn (model X.prog X.w) X.A X.env xe → PSs (X.tr pn xe) body (tb W))
    (hh : Clauses X n (h₀ :: hds) l) : PS X (.Try body (h₀ :: hds) [] [] pos) (fun D σ H => tb (wEach X.K i Wout D l) D σ H) := by
  refine ⟨fun pins s σ H D I h => ?_⟩
  have ok := I.ok
  refine wpAny_Try_except ?_
  refine wpAny_mono ((hb (wEach X.K i Wout D l) (X.pn ++ pins) (fun e s₁ => wpAny (model X.prog X.w) X.A (noteFrame e X.env) (fun _ s₂ => wpAny (model X.prog X.w) X.A (setFlight e none) (fun _ s₃ =>
    wpAny (model X.prog X.w) X.A (handleBy e X.env (h₀ :: hds)) (SP X pins D) X.xe s₃) X.xe s₂) X.xe s₁) (fun u s' xx => ?_) PassesOwn.looking).run [] s σ H D (I.toTry _) h) (fun f s1 hsp => ?_) (fun e s1 he => he)
  · obtain ⟨a, B, sI, pins', σ', H', cls, d, rfl, J, nb, up, sky, na, os, ag, w⟩ := xx
    refine Sky.land Zc.steady (by rw [ok.frames, hs]) hf (by rw [← hs]; exact sky) fun h3 fl up3 => ?_
    obtain ⟨oe, vs, he, hz, hd⟩ := fl.there
    have nfr : a ∉ frs (X.env :: X.outer) := fun hm => by
      obtain ⟨_, o', e', hnf⟩ := fl.2.2.1.mem hm
      rw [he] at e'
      cases e'
      exact hnf _ hd
    refine clauses_ok (s := { s' with heap := h3 }) hs hf hN hi hln tk ok (J.ofTry ok) nb (up.trans up3) os ag fl na (fun z => nfr (List.mem_filterMap.mpr ⟨X.env, List.mem_cons_self, by rw [hf, z]⟩)) (fun hm => ?_) hh w
    obtain ⟨e, he, q⟩ := List.mem_filterMap.mp hm
    exact nfr (List.mem_filterMap.mpr ⟨e, List.mem_cons_of_mem _ he, q⟩)
  · cases f with
    | next =>
      obtain ⟨σ', H', J', q⟩ := hsp
      exact wpAny_execs_nil ⟨σ', H', J'.ofTry ok, q⟩
    | brk =>
      obtain ⟨σ', H', J', q⟩ := hsp
      exact ⟨σ', H', J'.ofTry ok, q⟩
    | cont =>
      obtain ⟨σ', H', J', q⟩ := hsp
      exact ⟨σ', H', J'.ofTry ok, q⟩
    | ret u =>
      obtain ⟨v, σ', H', J', r, q⟩ := hsp
      exact ⟨v, σ', H', J'.ofTry ok, r, q⟩
end
end L2
namespace Lw
open PySem PySem.Spec PyProof.Rows L2 GrT GrOwn GrMg
/-- what the top says of one of the errors, with its class at CE -/
structure ErX (K : PySem.W.Frag) (mg : Str → Option Value) (CE RE : Addr) : Prop where
  xf : XfC K CE
  ex : ExcC K CE
  kR : PySem.W.kitOne K (.ref CE) (.ref RE) = some true
abbrev sLPut : Stmt := top 35
abbrev sLRen : Stmt := top 36
abbrev sFew : Stmt := top 37
def spLPut (C : Addr) (n : Nat) : Sp := fun vs H Q _ => ∃ (a : Addr) (fs : List (Str × T)) (x : Str) (v : V) (t : T), vs = [.ref a, .str x, v] ∧ Rc All C H (n + 1) (.ref a) (.fds fs) ∧ Rc All C H n v t ∧ fs.length ≤ 39 ∧ x.length ≤ 1000 ∧ (∀ c ∈ x.cps.toList, c < 16 ^ 8) ∧
  (Good x → ∀ r (p : Addr) H', H' p = some (.tup [.str "record", .ref r, .bl true]) → Rc All C H' (n + 1) (.ref r) (.fds (GrT.put x t fs)) → Same H H' → Q (.ref p) H') ∧
  (¬ Good x → ∀ (p : Addr) H', H' p = some (.tup [.str "bad", .str x, .bl true]) → Same H H' → Q (.ref p) H')
def spLRen (C : Addr) (n : Nat) : Sp := fun vs H Q _ => ∃ (a : Addr) (fs : List (Str × T)) (old new : Str), vs = [.ref a, .str old, .str new] ∧ Rc All C H (n + 1) (.ref a) (.fds fs) ∧ old.length ≤ 1000 ∧ (∀ c ∈ old.cps.toList, c < 16 ^ 8) ∧ new.length ≤ 1000 ∧ (∀ c ∈ new.cps.toList, c < 16 ^ 8) ∧
  (look old fs = none → ∀ (p : Addr) H', H' p = some (.tup [.str "lacks", .str old, .bl true]) → Same H H' → Q (.ref p) H') ∧
  (∀ t, look old fs = some t → ¬ Good new → ∀ (p : Addr) H', H' p = some (.tup [.str "bad", .str new, .bl true]) → Same H H' → Q (.ref p) H') ∧
  (∀ t, look old fs = some t → Good new → new ∈ names (flt (fl [old] false) fs) → ∀ (p : Addr) H', H' p = some (.tup [.str "there", .str new, .bl true]) → Same H H' → Q (.ref p) H') ∧
  (∀ t, look old fs = some t → Good new → new ∉ names (flt (fl [old] false) fs) → ∀ r (p : Addr) H', H' p = some (.tup [.str "record", .ref r, .bl true]) → Rc All C H' (n + 1) (.ref r) (.fds (flt (fl [old] false) fs ++ [(new, t)])) → Same H H' → Q (.ref p) H')
def spFewL (C : Addr) (n : Nat) : Sp := fun vs H Q _ => ∃ (a W : Addr) (fs : List (Str × T)) (xs : List Str) (there : Bool), vs = [.ref a, .ref W, .bl there] ∧ Rc All C H (n + 1) (.ref a) (.fds fs) ∧ H W = some (.lst (xs.map V.str)) ∧ xs.length ≤ 3 ∧
  ∀ r H', Rc All C H' (n + 1) (.ref r) (.fds (flt (fl xs there) fs)) → Same H H' → Q (.ref r) H'
section
variable {P : Program} {w : World} {K : PySem.W.Frag} {mg : Str → Option Value} {base : Heap} {C CN CB CT RE : Addr}
theorem scLPut : FnScope ["record", "name", "value", "e"] ["record", "name", "value"] (defScope sLPut) := ⟨rfl, rfl, rfl, by decide +kernel, rfl, by decide +kernel, by decide +kernel⟩
theorem c_lput {n k : Nat} (T : Bu mg) (ZB : ExK P K mg "BadName" "BadName.__init__" sBadInit CB) (XB : ErX K mg CB RE) (mgR : mg "RecordsError" = some (.ref RE)) (R : RecK K mg C) (mp : MthK P w K mg base (L2.CX P w) C k "put" (spPut C CB n)) (D : Dfn K mg "_law_put" sLPut ["record", "name", "value"]) :
    Cal P w K mg base (k + 1) "_law_put" (spLPut C n) := by
  refine D.cal scLPut (fun vs H Q E h => ?_) (fun f cdv A outer s H vs Q E hr h => ?_)
  · obtain ⟨a, fs, x, v, t, rfl, _⟩ := h
    rfl
  · obtain ⟨a, fs, x, v, t, rfl, rc, rv, hl, xl, xc, q1, q2⟩ := h
    obtain ⟨l, ⟨⟨dx, tp, d1, _, ea, _⟩, _, _⟩, _⟩ := Rc.out rc
    refine ⟨_, (pss_one (ps_try_as (i := 3) (tb := fun W => tRet (tTup (tCons (tC (.str "record")) (tCons (tMethX C "put" (spPut C CB n) (WE W) (tVar 0) (tCons (tVar 1) (tCons (tVar 2) tNil))) (tCons (tC (.bl true)) tNil)))))
      (ts := fun a cls d => tRet (tTup (tCons (tC (.str "bad")) (tCons (tXf a cls d CB "name" (tVar 3)) (tCons (tCB (rIsED K CB a cls d) (tCons (tVar 3) (tCons (tC (.ref RE)) tNil))) tNil)))))
      (Wout := fun _ _ _ _ => False) rfl rfl scLPut.nd rfl rfl ⟨rfl, by decide, Or.inl ZB.mgC⟩ takes0
      (fun W pn xe tk _ => pss_one (ps_ret (pe_tup (pa_cons pe_str (pa_cons (pe_mKX (E := WE W) R mp hr (by omega) (fun σ => passAt tk σ) (pv 0) (pa_cons (pv 1) (pa_cons (pv 2) pa_nil))) (pa_cons pe_bl pa_nil))))))
      (fun a oe cls d pn hz hf => pss_one (ps_ret (pe_tup (pa_cons pe_str (pa_cons (pe_xf XB.xf ZB.noN hz hf (pv 3)) (pa_cons (pe_callB (call_isED XB.ex hz hf) (by rfl) T.b_isinstance bo_isinstance (pa_cons (pv 3) (pa_cons (pe_glob (by rfl) mgR (v := .ref RE) rfl) pa_nil))) pa_nil)))))))), ?_⟩
    refine ⟨_, rfl, a, dx, _, rfl, ea, rf_no (by decide) (by decide) (by decide) _ _ _, _, rfl, _, rfl, a, fs, x, v, t, rfl, rc, rv, hl, xl, xc, fun g r H1 rr s1 => ?_, fun g d H1 hd s1 => ⟨true, ZB.te, fun _ e he => ?_, fun h => by cases h⟩⟩
    · exact ⟨line_big (by show 3 ≤ 100000; decide), fun p hp => q1 g r p _ upd_same (rr.same (Same.new (Same.refl _) hp)) (Same.new s1 hp)⟩
    · exact ⟨_, rfl, rfl, rfl, d, _, .str x, rfl, hd, by rfl, _, rfl, _, _, true, d, _, rfl, .own RE, rfl, rfl, hd, XB.kR, line_big (by show 3 ≤ 100000; decide), fun p hp => q2 g p _ upd_same (Same.new s1 hp)⟩
end
end Lw
namespace Lw
open PySem PySem.Spec PyProof.Rows L2 GrT GrOwn GrMg
section
variable {P : Program} {w : World} {K : PySem.W.Frag} {mg : Str → Option Value} {base : Heap} {C CN CB CT RE : Addr}
theorem scLRen : FnScope ["record", "old", "new", "e"] ["record", "old", "new"] (defScope sLRen) := ⟨rfl, rfl, rfl, by decide +kernel, rfl, by decide +kernel, by decide +kernel⟩
theorem c_lren {n k : Nat} (T : Bu mg) (ZN : ExK P K mg "NoField" "NoField.__init__" sNoInit CN) (XN : ErX K mg CN RE) (ZB : ExK P K mg "BadName" "BadName.__init__" sBadInit CB) (XB : ErX K mg CB RE) (ZT : ExK P K mg "FieldThere" "FieldThere.__init__" sThInit CT) (XT : ErX K mg CT RE)
    (bn : PySem.W.exmOne K (.ref CB) (.ref CN) = some false) (tn : PySem.W.exmOne K (.ref CT) (.ref CN) = some false) (tb : PySem.W.exmOne K (.ref CT) (.ref CB) = some false)
    (mgR : mg "RecordsError" = some (.ref RE)) (R : RecK K mg C) (mr : MthK P w K mg base (L2.CX P w) C k "renamed" (spRen C CN CB CT n)) (D : Dfn K mg "_law_renamed" sLRen ["record", "old", "new"]) :
    Cal P w K mg base (k + 1) "_law_renamed" (spLRen C n) := by
  refine D.cal scLRen (fun vs H Q E h => ?_) (fun f cdv A outer s H vs Q E hr h => ?_)
  · obtain ⟨a, fs, old, new, rfl, _⟩ := h
    rfl
  · obtain ⟨a, fs, old, new, rfl, rc, ol, oc, nl, nc, q1, q2, q3, q4⟩ := h
    obtain ⟨l, ⟨⟨dx, tp, d1, _, ea, _⟩, _, _⟩, _⟩ := Rc.out rc
    refine ⟨_, (pss_one (ps_try_each (i := 3) (tb := fun W => tRet (tTup (tCons (tC (.str "record")) (tCons (tMethX C "renamed" (spRen C CN CB CT n) (WE W) (tVar 0) (tCons (tVar 1) (tCons (tVar 2) tNil))) (tCons (tC (.bl true)) tNil)))))
      (l := [(.ref CN, fun a cls d => tRet (tTup (tCons (tC (.str "lacks")) (tCons (tXf a cls d CN "name" (tVar 3)) (tCons (tCB (rIsED K CN a cls d) (tCons (tVar 3) (tCons (tC (.ref RE)) tNil))) tNil))))),
        (.ref CB, fun a cls d => tRet (tTup (tCons (tC (.str "bad")) (tCons (tXf a cls d CB "name" (tVar 3)) (tCons (tCB (rIsED K CB a cls d) (tCons (tVar 3) (tCons (tC (.ref RE)) tNil))) tNil))))),
        (.ref CT, fun a cls d => tRet (tTup (tCons (tC (.str "there")) (tCons (tXf a cls d CT "name" (tVar 3)) (tCons (tCB (rIsED K CT a cls d) (tCons (tVar 3) (tCons (tC (.ref RE)) tNil))) tNil)))))])
      (Wout := fun _ _ _ _ => False) rfl rfl scLRen.nd rfl rfl takes0
      (fun W pn xe tk _ => pss_one (ps_ret (pe_tup (pa_cons pe_str (pa_cons (pe_mKX (E := WE W) R mr hr (by omega) (fun σ => passAt tk σ) (pv 0) (pa_cons (pv 1) (pa_cons (pv 2) pa_nil))) (pa_cons pe_bl pa_nil))))))
      (.cons ⟨rfl, by decide, Or.inl ZN.mgC⟩ (fun a oe cls d pn hz hf => pss_one (ps_ret (pe_tup (pa_cons pe_str (pa_cons (pe_xf XN.xf ZN.noN hz hf (pv 3)) (pa_cons (pe_callB (call_isED XN.ex hz hf) (by rfl) T.b_isinstance bo_isinstance (pa_cons (pv 3) (pa_cons (pe_glob (by rfl) mgR (v := .ref RE) rfl) pa_nil))) pa_nil))))))
      (.cons ⟨rfl, by decide, Or.inl ZB.mgC⟩ (fun a oe cls d pn hz hf => pss_one (ps_ret (pe_tup (pa_cons pe_str (pa_cons (pe_xf XB.xf ZB.noN hz hf (pv 3)) (pa_cons (pe_callB (call_isED XB.ex hz hf) (by rfl) T.b_isinstance bo_isinstance (pa_cons (pv 3) (pa_cons (pe_glob (by rfl) mgR (v := .ref RE) rfl) pa_nil))) pa_nil))))))
      (.cons ⟨rfl, by decide, Or.inl ZT.mgC⟩ (fun a oe cls d pn hz hf => pss_one (ps_ret (pe_tup (pa_cons pe_str (pa_cons (pe_xf XT.xf ZT.noN hz hf (pv 3)) (pa_cons (pe_callB (call_isED XT.ex hz hf) (by rfl) T.b_isinstance bo_isinstance (pa_cons (pv 3) (pa_cons (pe_glob (by rfl) mgR (v := .ref RE) rfl) pa_nil))) pa_nil)))))) .nil))))), ?_⟩
    refine ⟨_, rfl, a, dx, _, rfl, ea, rf_no (by decide) (by decide) (by decide) _ _ _, _, rfl, _, rfl, a, fs, old, new, rfl, rc, ol, oc, nl, nc, fun g d H1 hd s1 => ⟨true, ZN.te, fun _ e he => ?_, fun h => by cases h⟩, fun t g1 g d H1 hd s1 => ⟨false, bn, fun h => (by cases h), fun _ => ⟨true, ZB.te, fun _ e he => ?_, fun h => by cases h⟩⟩,
      fun t g1 g g2 d H1 hd s1 => ⟨false, tn, fun h => (by cases h), fun _ => ⟨false, tb, fun h => (by cases h), fun _ => ⟨true, ZT.te, fun _ e he => ?_, fun h => by cases h⟩⟩⟩, fun t g1 g g2 r H1 rr s1 => ?_⟩
    · exact ⟨_, rfl, rfl, rfl, d, _, .str old, rfl, hd, by rfl, _, rfl, _, _, true, d, _, rfl, .own RE, rfl, rfl, hd, XN.kR, line_big (by show 3 ≤ 100000; decide), fun p hp => q1 g p _ upd_same (Same.new s1 hp)⟩
    · exact ⟨_, rfl, rfl, rfl, d, _, .str new, rfl, hd, by rfl, _, rfl, _, _, true, d, _, rfl, .own RE, rfl, rfl, hd, XB.kR, line_big (by show 3 ≤ 100000; decide), fun p hp => q2 t g1 g p _ upd_same (Same.new s1 hp)⟩
    · exact ⟨_, rfl, rfl, rfl, d, _, .str new, rfl, hd, by rfl, _, rfl, _, _, true, d, _, rfl, .own RE, rfl, rfl, hd, XT.kR, line_big (by show 3 ≤ 100000; decide), fun p hp => q3 t g1 g g2 p _ upd_same (Same.new s1 hp)⟩
    · exact ⟨line_big (by show 3 ≤ 100000; decide), fun p hp => q4 t g1 g g2 r p _ upd_same (rr.same (Same.new (Same.refl _) hp)) (Same.new s1 hp)⟩
end
end Lw
namespace Lw
open PySem PySem.Spec PyProof.Rows L2 GrT GrOwn GrMg
section
variable {P : Program} {w : World} {K : PySem.W.Frag} {mg : Str → Option Value} {base : Heap} {C CN CB CT RE : Addr}
theorem iteEq {i j : Int} {A B : Prop} (h : i = j) (a : A) : ite (decide (V.int i = V.int j) = true) A B := by
  rw [h, decide_eq_true rfl]
  exact iteT a
theorem iteNe {i j : Int} {A B : Prop} (h : i ≠ j) (b : B) : ite (decide (V.int i = V.int j) = true) A B := by
  rw [decide_eq_false fun e => h (V.int.inj e)]
  exact iteF b
theorem three {xs : List Str} (h : xs.length ≤ 3) : xs = [] ∨ (∃ a, xs = [a]) ∨ (∃ a b, xs = [a, b]) ∨ ∃ a b c, xs = [a, b, c] := by
  match xs, h with
  | [], _ => exact .inl rfl
  | [a], _ => exact .inr (.inl ⟨a, rfl⟩)
  | [a, b], _ => exact .inr (.inr (.inl ⟨a, b, rfl⟩))
  | [a, b, c], _ => exact .inr (.inr (.inr ⟨a, b, c, rfl⟩))
  | a :: b :: c :: d :: r, h =>
    simp only [List.length_cons] at h
    omega
theorem scFew : FnScope ["record", "names", "there"] ["record", "names", "there"] (defScope sFew) := ⟨rfl, rfl, rfl, by decide +kernel, rfl, by decide +kernel, by decide +kernel⟩
theorem c_few {n : Nat} (T : Bu mg) (R : RecK K mg C) (mw : MthR P w K mg base CX0 C 6 "without" (spFew C n false)) (mo : MthR P w K mg base CX0 C 6 "only" (spFew C n true)) (D : Dfn K mg "_law_few" sFew ["record", "names", "there"]) : Cal P w K mg base 7 "_law_few" (spFewL C n) := by
  refine D.cal scFew (fun vs H Q E h => ?_) (fun f cdv A outer s H vs Q E hr h => ?_)
  · obtain ⟨a, W, fs, xs, there, rfl, _⟩ := h
    rfl
  · obtain ⟨a, W, fs, xs, there, rfl, rc, eW, xl, q⟩ := h
    obtain ⟨l, ⟨⟨dx, tp, d1, _, ea, _⟩, _, _⟩, _⟩ := Rc.out rc
    refine ⟨_, (pss_cons (ps_if (pt_val (pv 2))
        (pss_cons (ps_if (pt_cmpR op_eq (pe_callB call_len_seq (by rfl) T.b_len PySem.boot_len (pa_cons (pv 1) pa_nil)) pe_int (nomark _)) (pss_one (ps_ret (pe_mR0 R mo hr (by decide) pass0 (pv 0)))) pss_nil)
        (pss_cons (ps_if (pt_cmpR op_eq (pe_callB call_len_seq (by rfl) T.b_len PySem.boot_len (pa_cons (pv 1) pa_nil)) pe_int (nomark _)) (pss_one (ps_ret (pe_mR R mo hr (by decide) pass0 (pv 0) (pa_cons (pe_ix ix_list (pv 1) pe_int (fun _ _ => rfl)) pa_nil)))) pss_nil)
        (pss_cons (ps_if (pt_cmpR op_eq (pe_callB call_len_seq (by rfl) T.b_len PySem.boot_len (pa_cons (pv 1) pa_nil)) pe_int (nomark _)) (pss_one (ps_ret (pe_mR R mo hr (by decide) pass0 (pv 0) (pa_cons (pe_ix ix_list (pv 1) pe_int (fun _ _ => rfl)) (pa_cons (pe_ix ix_list (pv 1) pe_int (fun _ _ => rfl)) pa_nil))))) pss_nil)
        (pss_one (ps_ret (pe_mR R mo hr (by decide) pass0 (pv 0) (pa_cons (pe_ix ix_list (pv 1) pe_int (fun _ _ => rfl)) (pa_cons (pe_ix ix_list (pv 1) pe_int (fun _ _ => rfl)) (pa_cons (pe_ix ix_list (pv 1) pe_int (fun _ _ => rfl)) pa_nil)))))))))
        pss_nil)
        (pss_cons (ps_if (pt_cmpR op_eq (pe_callB call_len_seq (by rfl) T.b_len PySem.boot_len (pa_cons (pv 1) pa_nil)) pe_int (nomark _)) (pss_one (ps_ret (pe_mR0 R mw hr (by decide) pass0 (pv 0)))) pss_nil)
        (pss_cons (ps_if (pt_cmpR op_eq (pe_callB call_len_seq (by rfl) T.b_len PySem.boot_len (pa_cons (pv 1) pa_nil)) pe_int (nomark _)) (pss_one (ps_ret (pe_mR R mw hr (by decide) pass0 (pv 0) (pa_cons (pe_ix ix_list (pv 1) pe_int (fun _ _ => rfl)) pa_nil)))) pss_nil)
        (pss_cons (ps_if (pt_cmpR op_eq (pe_callB call_len_seq (by rfl) T.b_len PySem.boot_len (pa_cons (pv 1) pa_nil)) pe_int (nomark _)) (pss_one (ps_ret (pe_mR R mw hr (by decide) pass0 (pv 0) (pa_cons (pe_ix ix_list (pv 1) pe_int (fun _ _ => rfl)) (pa_cons (pe_ix ix_list (pv 1) pe_int (fun _ _ => rfl)) pa_nil))))) pss_nil)
        (pss_one (ps_ret (pe_mR R mw hr (by decide) pass0 (pv 0) (pa_cons (pe_ix ix_list (pv 1) pe_int (fun _ _ => rfl)) (pa_cons (pe_ix ix_list (pv 1) pe_int (fun _ _ => rfl)) (pa_cons (pe_ix ix_list (pv 1) pe_int (fun _ _ => rfl)) pa_nil)))))))))), ?_⟩
    have no : ∀ m : Str, m ≠ "_size" → m ≠ "_fields" → m ≠ "names" → (rf tp d1 (nfs fs)).lookup m = none := fun m h1 h2 h3 => rf_no h1 h2 h3 _ _ _
    have lq := SqL.of (K := K) eW
    cases there with
    | true =>
      refine ⟨_, rfl, _, rfl, iteT ?_⟩
      rcases three xl with rfl | ⟨x1, rfl⟩ | ⟨x1, x2, rfl⟩ | ⟨x1, x2, x3, rfl⟩
      · exact ⟨_, rfl, W, _, rfl, .inl lq, rfl, _, rfl, iteEq rfl ⟨_, rfl, a, dx, _, rfl, ea, no _ (by decide) (by decide) (by decide), a, fs, [], rfl, by show 0 ≤ 1000; decide, rc, q⟩⟩
      · exact ⟨_, rfl, W, _, rfl, .inl lq, rfl, _, rfl, iteNe (by simp) ⟨_, rfl, W, _, rfl, .inl lq, rfl, _, rfl, iteEq rfl ⟨_, rfl, a, dx, _, rfl, ea, no _ (by decide) (by decide) (by decide), _, rfl, W, _, _, _, rfl, rfl, lq, atI_nat (j := 0) rfl, a, fs, [x1], rfl, by show 1 ≤ 1000; decide, rc, q⟩⟩⟩
      · exact ⟨_, rfl, W, _, rfl, .inl lq, rfl, _, rfl, iteNe (by simp) ⟨_, rfl, W, _, rfl, .inl lq, rfl, _, rfl, iteNe (by simp) ⟨_, rfl, W, _, rfl, .inl lq, rfl, _, rfl, iteEq rfl ⟨_, rfl, a, dx, _, rfl, ea, no _ (by decide) (by decide) (by decide), _, rfl, W, _, _, _, rfl, rfl, lq, atI_nat (j := 0) rfl, _, rfl, W, _, _, _, rfl, rfl, lq, atI_nat (j := 1) rfl, a, fs, [x1, x2], rfl, by show 2 ≤ 1000; decide, rc, q⟩⟩⟩⟩
      · exact ⟨_, rfl, W, _, rfl, .inl lq, rfl, _, rfl, iteNe (by simp) ⟨_, rfl, W, _, rfl, .inl lq, rfl, _, rfl, iteNe (by simp) ⟨_, rfl, W, _, rfl, .inl lq, rfl, _, rfl, iteNe (by simp) ⟨_, rfl, a, dx, _, rfl, ea, no _ (by decide) (by decide) (by decide), _, rfl, W, _, _, _, rfl, rfl, lq, atI_nat (j := 0) rfl, _, rfl, W, _, _, _, rfl, rfl, lq, atI_nat (j := 1) rfl, _, rfl, W, _, _, _, rfl, rfl, lq, atI_nat (j := 2) rfl, a, fs, [x1, x2, x3], rfl, by show 3 ≤ 1000; decide, rc, q⟩⟩⟩⟩
    | false =>
      refine ⟨_, rfl, _, rfl, iteF ?_⟩
      rcases three xl with rfl | ⟨x1, rfl⟩ | ⟨x1, x2, rfl⟩ | ⟨x1, x2, x3, rfl⟩
      · exact ⟨_, rfl, W, _, rfl, .inl lq, rfl, _, rfl, iteEq rfl ⟨_, rfl, a, dx, _, rfl, ea, no _ (by decide) (by decide) (by decide), a, fs, [], rfl, by show 0 ≤ 1000; decide, rc, q⟩⟩
      · exact ⟨_, rfl, W, _, rfl, .inl lq, rfl, _, rfl, iteNe (by simp) ⟨_, rfl, W, _, rfl, .inl lq, rfl, _, rfl, iteEq rfl ⟨_, rfl, a, dx, _, rfl, ea, no _ (by decide) (by decide) (by decide), _, rfl, W, _, _, _, rfl, rfl, lq, atI_nat (j := 0) rfl, a, fs, [x1], rfl, by show 1 ≤ 1000; decide, rc, q⟩⟩⟩
      · exact ⟨_, rfl, W, _, rfl, .inl lq, rfl, _, rfl, iteNe (by simp) ⟨_, rfl, W, _, rfl, .inl lq, rfl, _, rfl, iteNe (by simp) ⟨_, rfl, W, _, rfl, .inl lq, rfl, _, rfl, iteEq rfl ⟨_, rfl, a, dx, _, rfl, ea, no _ (by decide) (by decide) (by decide), _, rfl, W, _, _, _, rfl, rfl, lq, atI_nat (j := 0) rfl, _, rfl, W, _, _, _, rfl, rfl, lq, atI_nat (j := 1) rfl, a, fs, [x1, x2], rfl, by show 2 ≤ 1000; decide, rc, q⟩⟩⟩⟩
      · exact ⟨_, rfl, W, _, rfl, .inl lq, rfl, _, rfl, iteNe (by simp) ⟨_, rfl, W, _, rfl, .inl lq, rfl, _, rfl, iteNe (by simp) ⟨_, rfl, W, _, rfl, .inl lq, rfl, _, rfl, iteNe (by simp) ⟨_, rfl, a, dx, _, rfl, ea, no _ (by decide) (by decide) (by decide), _, rfl, W, _, _, _, rfl, rfl, lq, atI_nat (j := 0) rfl, _, rfl, W, _, _, _, rfl, rfl, lq, atI_nat (j := 1) rfl, _, rfl, W, _, _, _, rfl, rfl, lq, atI_nat (j := 2) rfl, a, fs, [x1, x2, x3], rfl, by show 3 ≤ 1000; decide, rc, q⟩⟩⟩⟩
end
end Lw
namespace Lw
open PySem PySem.Spec PyProof.Rows L2 GrT GrOwn GrMg
theorem Sm.fdsL {n : Nat} {t : T} {gs : List (Str × T)} (h : GrT.Sm n t (.fds gs)) : ∃ fs, t = .fds fs := by
  cases n with
  | zero =>
    obtain ⟨i, _, e⟩ := h
    cases e
  | succ n =>
    rcases h with ⟨i, _, e⟩ | ⟨fs, _, e, _⟩
    · cases e
    · exact ⟨fs, e⟩
theorem Rc.ref' {S : Addr → Prop} {C : Addr} {H : Hp} {n : Nat} {v : V} {fs : List (Str × T)} (h : Rc S C H n v (.fds fs)) : ∃ a, v = .ref a :=
  h.cases (fun i _ e => by cases e) fun k a l fs' _ e1 _ _ _ _ _ => ⟨a, e1⟩
theorem Tr.out {S : Addr → Prop} {H : Hp} {L n : Nat} {v : V} {fs : List (Str × T)} (h : Tr S H L n v (.fds fs)) : ∃ a l m, v = .ref a ∧ n = m + 1 ∧ S a ∧ H a = some (.dK (dk l)) ∧ Wf L fs ∧ Al (Tr S H L m) l fs :=
  h.cases (fun i _ e => by cases e) fun k a l fs' en e1 e2 sa ea wf al => by
    cases e2
    exact ⟨a, l, k, e1, en, sa, ea, wf, al⟩
theorem sm_refl {S : Addr → Prop} {H : Hp} {L : Nat} : ∀ {n : Nat} {v : V} {t : T}, Tr S H L n v t → GrT.Sm n t t
  | 0, _, _, ⟨i, _, e⟩ => ⟨i, e, e⟩
  | n + 1, v, t, h => by
    rcases h with ⟨i, _, e⟩ | ⟨a, l, fs, e1, e2, es, e3, e4, e5⟩
    · exact .inl ⟨i, e, e⟩
    · refine .inr ⟨fs, fs, e2, e2, e4.nd, .refl _, fun x v w h1 h2 => ?_⟩
      rw [h1] at h2
      cases h2
      obtain ⟨v', _, r⟩ := e5.get h1
      exact sm_refl r
theorem Al.flt {R : V → T → Prop} {c : Str → Bool} : ∀ {l : List (Str × V)} {fs : List (Str × T)}, Al R l fs → Al R (GrT.flt c l) (GrT.flt c fs)
  | _, _, .nil => .nil
  | (x, v) :: l, (y, t) :: fs, .cons r a => by
    have e : x = y := r.1
    subst e
    have ih := Al.flt (c := c) a
    have e1 : GrT.flt c ((x, v) :: l) = if c x = true then (x, v) :: GrT.flt c l else GrT.flt c l := List.filter_cons
    have e2 : GrT.flt c ((x, t) :: fs) = if c x = true then (x, t) :: GrT.flt c fs else GrT.flt c fs := List.filter_cons
    rw [e1, e2]
    by_cases h : c x = true
    · rw [if_pos h, if_pos h]
      exact .cons r ih
    · rw [if_neg h, if_neg h]
      exact ih
theorem fl_one {x y : Str} : fl [x] false y = decide (y ≠ x) := by
  unfold fl
  by_cases h : y = x
  · rw [decide_eq_true (List.mem_singleton.mpr h), decide_eq_false (fun z => z h)]
    rfl
  · rw [decide_eq_false (fun z => h (List.mem_singleton.mp z)), decide_eq_true h]
    rfl
theorem names_snoc {α : Type} {l : List (Str × α)} {x : Str} {v : α} : names (l ++ [(x, v)]) = names l ++ [x] := by simp [names]
theorem nd_snoc {α : Type} {l : List (Str × α)} {x : Str} {v : α} (nd : (names l).Nodup) (h : x ∉ names l) : (names (l ++ [(x, v)])).Nodup := by
  rw [names_snoc]
  refine List.nodup_append.mpr ⟨nd, by simp, fun y hy z hz e => ?_⟩
  have : z = x := by simpa using hz
  exact h (by rw [← this, ← e]; exact hy)
theorem Wf.snoc {L : Nat} {fs : List (Str × T)} {x : Str} {t : T} (w : Wf L fs) (h : x ∉ names fs) (g : Good x) : Wf (L + 1) (fs ++ [(x, t)]) :=
  ⟨nd_snoc w.nd h, by rw [List.length_append]; exact Nat.succ_le_succ w.ln, fun p hp => by
    rcases List.mem_append.mp hp with h | h
    · exact w.gd p h
    · rw [List.mem_singleton.mp h]
      exact g⟩
/-- put in place, or taken out and put behind: the same -/
theorem put_sm {S : Addr → Prop} {H : Hp} {L n : Nat} {l : List (Str × V)} {fs : List (Str × T)} {x : Str} {t : T} (wf : Wf L fs) (al : Al (Tr S H L n) l fs) (ht : GrT.Sm n t t) : GrT.Sm (n + 1) (.fds (GrT.put x t fs)) (.fds (GrT.flt (fl [x] false) fs ++ [(x, t)])) := by
  have nd1 := nodup_put (x := x) (y := t) wf.nd
  have nd2 : (names (GrT.flt (fl [x] false) fs ++ [(x, t)])).Nodup := nd_snoc (flt_nd wf.nd) flt_not
  refine .inr ⟨_, _, rfl, rfl, nd1, (List.perm_ext_iff_of_nodup nd1 nd2).mpr fun y => ?_, fun y v w h1 h2 => ?_⟩
  · rw [names_snoc, names_flt, List.mem_append, List.mem_filter, List.mem_singleton, fl_one, decide_eq_true_iff, names_put]
    by_cases e : y = x
    · subst e
      refine ⟨fun _ => .inr rfl, fun _ => ?_⟩
      by_cases h : y ∈ names fs
      · rw [if_pos h]
        exact h
      · rw [if_neg h]
        exact List.mem_append_right _ (List.mem_singleton.mpr rfl)
    · by_cases h : x ∈ names fs
      · rw [if_pos h]
        exact ⟨fun z => .inl ⟨z, e⟩, fun z => z.elim (·.1) fun z => absurd z e⟩
      · rw [if_neg h, List.mem_append, List.mem_singleton]
        exact ⟨fun z => z.elim (fun z => .inl ⟨z, e⟩) fun z => absurd z e, fun z => z.elim (fun z => .inl z.1) fun z => absurd z e⟩
  · rw [look_put] at h1
    rw [look_snoc flt_not, look_flt, fl_one] at h2
    by_cases e : y = x
    · rw [if_pos e] at h1 h2
      cases h1
      cases h2
      exact ht
    · rw [if_neg e] at h1 h2
      rw [if_pos (decide_eq_true e)] at h2
      rw [h1] at h2
      cases h2
      obtain ⟨v', _, r⟩ := al.get h1
      exact sm_refl r
abbrev sCall : Stmt := top 38
/-- what a call gave and what was due -/
def Out (C : Addr) (k : Nat) (pf pd : Addr) (H : Hp) : Prop :=
  (∃ (r D : Addr) (fs : List (Str × T)), H pf = some (.tup [.str "record", .ref r, .bl true]) ∧ H pd = some (.tup [.str "record", .ref D, .bl true]) ∧ Rc All C H 2 (.ref r) (.fds fs) ∧ Tr All H 40 2 (.ref D) (.fds fs) ∧ fs.length ≤ k) ∨
  (∃ (kd x : Str), kd ≠ "record" ∧ H pf = some (.tup [.str kd, .str x, .bl true]) ∧ H pd = some (.tup [.str kd, .str x, .bl true]))
theorem Out.same {C : Addr} {k : Nat} {pf pd : Addr} {H H' : Hp} (o : Out C k pf pd H) (s : Same H H') : Out C k pf pd H' := by
  rcases o with ⟨r, D, fs, h1, h2, h3, h4, h5⟩ | ⟨kd, x, h1, h2, h3⟩
  · exact .inl ⟨r, D, fs, s _ _ h1, s _ _ h2, h3.same s, Tr.same h4 s, h5⟩
  · exact .inr ⟨kd, x, h1, s _ _ h2, s _ _ h3⟩
def spCallL (C : Addr) : Sp := fun vs H Q _ => ∃ (p W r D : Addr) (ws : List Str) (fs : List (Str × T)), vs = [.ref p, .ref W, .ref r, .ref D] ∧ Tape H p ∧ W ≠ p ∧ H W = some (.lst (ws.map V.str)) ∧ 1 ≤ ws.length ∧ ws.length ≤ 20 ∧ (∀ x ∈ ws, Good x) ∧
  Rc All C H 2 (.ref r) (.fds fs) ∧ Tr All H 40 2 (.ref D) (.fds fs) ∧ fs.length ≤ 38 ∧ ∀ (q pf pd : Addr) H', H' q = some (.tup [.ref pf, .ref pd]) → Out C (fs.length + 1) pf pd H' → Fx p H H' → Tape H' p → Q (.ref q) H'
theorem Tape.same {H H' : Hp} {p : Addr} (t : Tape H p) (s : Same H H') : Tape H' p := by
  obtain ⟨z, f1, f2⟩ := t
  exact ⟨z, s _ _ f1, f2⟩
section
variable {P : Program} {w : World} {K : PySem.W.Frag} {mg : Str → Option Value} {base : Heap} {C : Addr}
theorem scCall : FnScope ["tape", "names", "record", "plain", "choice", "name", "value", "old", "new", "some", "k", "due"] ["tape", "names", "record", "plain"] (defScope sCall) := ⟨rfl, rfl, rfl, by decide +kernel, rfl, by decide +kernel, by decide +kernel⟩
theorem c_call (T : Bu mg) (R : RecK K mg C) (c_law_take : Cal P w K mg base 1 "_law_take" spTake) (c_named : Cal P w K mg base 3 "_law_named" spNamed) (c_fields : Cal P w K mg base 4 "_law_fields" (spFields 0)) (s_make : SCal P w K mg base C 6 (spMake C 0))
    (c_lput : Cal P w K mg base 8 "_law_put" (spLPut C 1)) (c_putdue : Cal P w K mg base 2 "_law_put_due" spPutDue) (c_lren : Cal P w K mg base 9 "_law_renamed" (spLRen C 1)) (c_rendue : Cal P w K mg base 2 "_law_renamed_due" spRenDue)
    (c_few : Cal P w K mg base 7 "_law_few" (spFewL C 1)) (c_left : Cal P w K mg base 1 "_law_left" spLeft) (D : Dfn K mg "_law_call" sCall ["tape", "names", "record", "plain"]) : Cal P w K mg base 10 "_law_call" (spCallL C) := by
  refine D.cal scCall (fun vs H Q E h => ?_) (fun f cdv A outer s H vs Q E hr h => ?_)
  · obtain ⟨p, W, r, D, ws, fs, rfl, _⟩ := h
    rfl
  · obtain ⟨p, W, r, D, ws, fs, rfl, tp, Wp, eW, w1, w2, wg, rc, tr, fl38, q⟩ := h
    refine ⟨_, (pss_cons (ps_set (i := 4) scCall.nd rfl (Or.inl rfl) (pe_c c_law_take hr (by decide) rfl (pa_cons (pv 0) (pa_cons pe_int pa_nil))))
      (pss_cons (ps_if (pt_cmpR op_lt (pv 4) pe_int (nomark _))
        (pss_cons (ps_set (i := 5) scCall.nd rfl (Or.inl rfl) (pe_c c_named hr (by decide) rfl (pa_cons (pv 0) (pa_cons (pv 1) pa_nil))))
        (pss_cons (ps_set (i := 6) scCall.nd rfl (Or.inl rfl) (pe_c c_fields hr (by decide) rfl (pa_cons (pv 0) (pa_cons (pv 1) (pa_cons pe_int pa_nil)))))
        (pss_one (ps_ret (pe_tup (pa_cons (pe_c c_lput hr (by decide) rfl (pa_cons (pv 2) (pa_cons (pv 5) (pa_cons (pe_smC (pe_glob (by rfl) R.mgC (v := .ref C) rfl) s_make hr (by decide) (pa_cons (pv 6) pa_nil)) pa_nil)))) (pa_cons (pe_c c_putdue hr (by decide) rfl (pa_cons (pv 3) (pa_cons (pv 5) (pa_cons (pv 6) pa_nil)))) pa_nil)))))))
        pss_nil)
      (pss_cons (ps_if (pt_cmpR op_lt (pv 4) pe_int (nomark _))
        (pss_cons (ps_set (i := 7) scCall.nd rfl (Or.inl rfl) (pe_c c_named hr (by decide) rfl (pa_cons (pv 0) (pa_cons (pv 1) pa_nil))))
        (pss_cons (ps_set (i := 8) scCall.nd rfl (Or.inl rfl) (pe_c c_named hr (by decide) rfl (pa_cons (pv 0) (pa_cons (pv 1) pa_nil))))
        (pss_one (ps_ret (pe_tup (pa_cons (pe_c c_lren hr (by decide) rfl (pa_cons (pv 2) (pa_cons (pv 7) (pa_cons (pv 8) pa_nil)))) (pa_cons (pe_c c_rendue hr (by decide) rfl (pa_cons (pv 3) (pa_cons (pv 7) (pa_cons (pv 8) pa_nil)))) pa_nil)))))))
        pss_nil)
      (pss_cons (ps_setLc (i := 9) (own := [("k", 10)]) (g := gName 10) (tt := tYes) rfl scCall.nd rfl rfl (sw_true rfl rfl rfl (by decide +kernel)) (pi_range1 (by rfl) T.b_range (pa_cons (pe_c c_law_take hr (by decide) rfl (pa_cons (pv 0) (pa_cons pe_int pa_nil))) pa_nil)) (blkOk_by (own := [("k", 10)]) (N := ["tape", "names", "record", "plain", "choice", "name", "value", "old", "new", "some", "k", "due"]) (sc := defScope sCall) (by decide +kernel)) (fun _ _ _ _ _ => pg_name (i := 10) scCall.nd rfl (Or.inl rfl))
        (fun _ _ _ _ _ => pts_nil) (fun _ _ _ _ _ => (by exact (pe_c c_named hr (by decide) rfl (pa_cons (pv 0) (pa_cons (pv 1) pa_nil))))))
      (pss_cons (ps_set (i := 11) scCall.nd rfl (Or.inl rfl) (pe_tup (pa_cons pe_str (pa_cons (pe_c c_left hr (by decide) rfl (pa_cons (pv 3) (pa_cons (pv 9) (pa_cons (pe_cmpR op_eq (pv 4) pe_int (nomark _)) pa_nil)))) (pa_cons pe_bl pa_nil)))))
      (pss_one (ps_ret (pe_tup (pa_cons (pe_tup (pa_cons pe_str (pa_cons (pe_c c_few hr (by decide) rfl (pa_cons (pv 2) (pa_cons (pv 9) (pa_cons (pe_cmpR op_eq (pv 4) pe_int (nomark _)) pa_nil)))) (pa_cons pe_bl pa_nil)))) (pa_cons (pv 11) pa_nil)))))))))), ?_⟩
    obtain ⟨D', l, m, e1, e2, _, eD, wf, al⟩ := Lw.Tr.out tr
    cases e1
    cases e2
    have ndl : (names l).Nodup := by
      rw [al.names]
      exact wf.nd
    have ll := al.len
    have fin : ∀ (H1 H2 : Hp) (pf pd : Addr), Fx p H H1 → Tape H1 p → Same H1 H2 → Out C (fs.length + 1) pf pd H2 → ∀ q0, H2 q0 = none → Q (.ref q0) (upd H2 q0 (.tup [.ref pf, .ref pd])) := fun H1 H2 pf pd x1 t1 s1 o q0 hq =>
      q q0 pf pd _ upd_same (o.same (Same.new (Same.refl _) hq)) ((x1.trans (Fx.same s1)).new hq) ((Tape.same t1 s1).new hq)
    refine ⟨_, rfl, p, 6, rfl, tp, by decide, fun c H1 c0 c1 x1 t1 => ⟨_, rfl, _, _, rfl, rfl, _, rfl, ite2 (fun _ => ?_) (fun _ => ?_)⟩⟩
    · refine ⟨_, rfl, _, rfl, p, W, ws, rfl, t1, Wp, x1 _ _ Wp eW, by omega, by omega, wg, fun x H2 dx x2 t2 => ?_⟩
      have x02 := x1.trans x2
      refine ⟨_, rfl, _, rfl, p, W, ws, rfl, t2, x02 _ _ Wp eW, Wp, w1, w2, wg, fun D1 fs1 H3 r3 x3 t3 => ?_⟩
      have x03 := x02.trans x3
      have tr1 : Tr All H3 20 1 (.ref D1) (.fds fs1) := r3.wid fun _ _ => True.intro
      have rc3 := Rc.fx rc tp x03
      have eD3 : H3 D = some (.dK (dk l)) := x03 _ _ (fun z => by
        obtain ⟨zz, f1, f2⟩ := tp
        rw [← z, eD] at f1
        cases f1) eD
      have al3 : Al (Tr All H3 40 1) l fs := al.imp fun _ _ _ z => Tr.fx z tp x03
      refine ⟨_, rfl, _, rfl, rfl, _, rfl, .ref D1, _, fs1, rfl, Tr.mono tr1 (Nat.le_refl _) (by decide), fun rv H4 rr4 s4 => ?_⟩
      refine ⟨r, fs, x, rv, .fds fs1, rfl, rc3.same s4, rr4.wid fun _ _ => True.intro, by omega, dx.le, dx.cps, fun g r' pf H5 epf rr5 s5 => ?_, fun g pf H5 epf s5 => ?_⟩
      · have s35 := s4.trans s5
        refine ⟨_, rfl, _, rfl, _, rfl, D, x, .ref D1, l, rfl, s35 _ _ eD3, ndl, by omega, dx.le, fun _ pd M H6 epd hM eM s6 => ⟨line_big (by show 2 ≤ 100000; decide), fin H3 H6 pf pd x03 t3 (s35.trans s6) (.inl ⟨r', M, flt (fl [x] false) fs ++ [(x, .fds fs1)], s6 _ _ epf, epd, ?_, ?_, ?_⟩)⟩, fun g' => absurd g g'⟩
        · exact (rr5.sim (put_sm wf al (sm_refl tr1))).same s6
        · have hll := flt_le (c := fl [x] false) (l := fs)
          have w1 : Wf 40 (flt (fl [x] false) fs ++ [(x, GrT.T.fds fs1)]) := Wf.mono (Wf.snoc (L := 39) ⟨(Wf.flt (c := fl [x] false) wf).nd, by omega, (Wf.flt (c := fl [x] false) wf).gd⟩ flt_not g) (by decide)
          exact .inr ⟨M, _, _, rfl, rfl, True.intro, eM, w1, Al.snoc (Lw.Al.flt (al3.imp fun _ _ _ z => Tr.same z (s35.trans s6))) (Tr.same (Tr.mono tr1 (Nat.le_refl _) (by decide)) (s35.trans s6))⟩
        · have hll := flt_le (c := fl [x] false) (l := fs)
          rw [List.length_append]
          show _ + 1 ≤ _
          omega
      · have s35 := s4.trans s5
        exact ⟨_, rfl, _, rfl, _, rfl, D, x, .ref D1, l, rfl, s35 _ _ eD3, ndl, by omega, dx.le, fun g' => absurd g' g, fun _ pd H6 epd s6 => ⟨line_big (by show 2 ≤ 100000; decide), fin H3 H6 pf pd x03 t3 (s35.trans s6) (.inr ⟨_, x, by decide, s6 _ _ epf, epd⟩)⟩⟩
    · refine ⟨_, rfl, _, _, rfl, rfl, _, rfl, ite2 (fun _ => ?_) (fun _ => ?_)⟩
      · refine ⟨_, rfl, _, rfl, p, W, ws, rfl, t1, Wp, x1 _ _ Wp eW, by omega, by omega, wg, fun old H2 dold x2 t2 => ?_⟩
        have x02 := x1.trans x2
        refine ⟨_, rfl, _, rfl, p, W, ws, rfl, t2, Wp, x02 _ _ Wp eW, by omega, by omega, wg, fun new H3 dnew x3 t3 => ?_⟩
        have x03 := x02.trans x3
        have rc3 := Rc.fx rc tp x03
        have eD3 : H3 D = some (.dK (dk l)) := x03 _ _ (fun z => by
          obtain ⟨zz, f1, f2⟩ := tp
          rw [← z, eD] at f1
          cases f1) eD
        have al3 : Al (Tr All H3 40 1) l fs := al.imp fun _ _ _ z => Tr.fx z tp x03
        have nn : names (flt (fl [old] false) l) = names (flt (fl [old] false) fs) := by rw [names_flt, names_flt, al.names]
        refine ⟨_, rfl, _, rfl, _, rfl, r, fs, old, new, rfl, rc3, dold.le, dold.cps, dnew.le, dnew.cps, fun h1 pf H5 epf s5 => ?_, fun t h1 g pf H5 epf s5 => ?_, fun t h1 g h2 pf H5 epf s5 => ?_, fun t h1 g h2 r' pf H5 epf rr5 s5 => ?_⟩
        · have hl0 : look old l = none := al.none.mpr h1
          refine ⟨_, rfl, _, rfl, _, rfl, D, old, new, l, rfl, s5 _ _ eD3, ndl, by omega, dnew.le, fun _ pd H6 epd s6 => ⟨line_big (by show 2 ≤ 100000; decide), fin H3 H6 pf pd x03 t3 (s5.trans s6) (.inr ⟨_, old, by decide, s6 _ _ epf, epd⟩)⟩, fun v h => ?_, fun v h => ?_, fun v h => ?_⟩
          · rw [hl0] at h
            cases h
          · rw [hl0] at h
            cases h
          · rw [hl0] at h
            cases h
        · obtain ⟨v0, hv0, _⟩ := al.get h1
          refine ⟨_, rfl, _, rfl, _, rfl, D, old, new, l, rfl, s5 _ _ eD3, ndl, by omega, dnew.le, fun h => ?_, fun v h _ pd H6 epd s6 => ⟨line_big (by show 2 ≤ 100000; decide), fin H3 H6 pf pd x03 t3 (s5.trans s6) (.inr ⟨_, new, by decide, s6 _ _ epf, epd⟩)⟩, fun v h g' => absurd g' g, fun v h g' => absurd g' g⟩
          rw [hv0] at h
          cases h
        · obtain ⟨v0, hv0, _⟩ := al.get h1
          refine ⟨_, rfl, _, rfl, _, rfl, D, old, new, l, rfl, s5 _ _ eD3, ndl, by omega, dnew.le, fun h => ?_, fun v h g' => absurd g g', fun v h _ _ pd H6 epd s6 => ⟨line_big (by show 2 ≤ 100000; decide), fin H3 H6 pf pd x03 t3 (s5.trans s6) (.inr ⟨_, new, by decide, s6 _ _ epf, epd⟩)⟩, fun v h _ g' => absurd (by rw [nn]; exact h2) g'⟩
          rw [hv0] at h
          cases h
        · obtain ⟨v0, hv0, _⟩ := al.get h1
          refine ⟨_, rfl, _, rfl, _, rfl, D, old, new, l, rfl, s5 _ _ eD3, ndl, by omega, dnew.le, fun h => ?_, fun v h g' => absurd g g', fun v h _ g' => absurd (by rw [← nn]; exact g') h2, fun v h _ _ pd M H6 epd hM eM s6 => ⟨line_big (by show 2 ≤ 100000; decide), fin H3 H6 pf pd x03 t3 (s5.trans s6) (.inl ⟨r', M, flt (fl [old] false) fs ++ [(new, t)], s6 _ _ epf, epd, rr5.same s6, ?_, ?_⟩)⟩⟩
          · rw [hv0] at h
            cases h
          · obtain ⟨v1, hv1, tv⟩ := al3.get h1
            rw [hv1] at h
            cases h
            have hll := flt_len h1
            have w1 : Wf 40 (flt (fl [old] false) fs ++ [(new, t)]) := Wf.mono (Wf.snoc (L := 39) ⟨(Wf.flt (c := fl [old] false) wf).nd, by omega, (Wf.flt (c := fl [old] false) wf).gd⟩ h2 g) (by decide)
            exact .inr ⟨M, _, _, rfl, rfl, True.intro, eM, w1, Al.snoc (Lw.Al.flt (al3.imp fun _ _ _ z => Tr.same z (s5.trans s6))) (Tr.same tv (s5.trans s6))⟩
          · have hll := flt_len h1
            rw [List.length_append]
            show _ + 1 ≤ _
            omega
      · refine ⟨_, rfl, p, 4, rfl, t1, by decide, fun m H2 m0 m1 x2 t2 => ⟨m, rfl, by omega, by omega, fun Z hZ => lc_range (lo := 0) (n := m.toNat) (fun i H5 => ∃ es : List Str, H5 Z = some (.lst (es.map V.str)) ∧ es.length = i ∧ Fx p H2 H5 ∧ Tape H5 p)
          ⟨[], upd_same, rfl, (Fx.refl).new hZ, t2.new hZ⟩ ?_ ?_⟩⟩
        · rintro i H5 hi ⟨es, eZ, el, x5, t5⟩
          have Zp : Z ≠ p := t2.ne'' hZ
          refine ⟨rfl, iteT (A := _) (B := True) (iteT ⟨_, rfl, _, rfl, p, W, ws, rfl, t5, Wp, ((x1.trans x2).trans x5) _ _ Wp eW, by omega, by omega, wg, fun y H6 dy x6 t6 => ?_⟩)⟩
          refine ⟨_, x6 _ _ Zp eZ, line_big (by rw [List.length_map]; omega), es ++ [y], by rw [upd_same, List.map_append]; rfl, by rw [List.length_append, el]; rfl, fun b o nb e => ?_, t6.put Zp⟩
          rw [upd_ne (ne_of_none e hZ)]
          exact x6 b o nb (x5 b o nb e)
        · rintro H5 ⟨es, eZ, el, x5, t5⟩
          have x05 := (x1.trans x2).trans x5
          have rc5 := Rc.fx rc tp x05
          have eD5 : H5 D = some (.dK (dk l)) := x05 _ _ (fun z => by
            obtain ⟨zz, f1, f2⟩ := tp
            rw [← z, eD] at f1
            cases f1) eD
          have al5 : Al (Tr All H5 40 1) l fs := al.imp fun _ _ _ z => Tr.fx z tp x05
          refine ⟨_, rfl, _, rfl, _, rfl, rfl, D, Z, l, es, _, rfl, eD5, ndl, by omega, eZ, fun M H6 hM eM s6 => ?_⟩
          refine ⟨line_big (by show 3 ≤ 100000; decide), fun pd hpd => ?_⟩
          have s7 : Same H5 (upd H6 pd (.tup [.str "record", .ref M, .bl true])) := Same.new s6 hpd
          have epd : (upd H6 pd (.tup [.str "record", .ref M, .bl true])) pd = some (.tup [.str "record", .ref M, .bl true]) := upd_same
          have eM7 := (Same.new (o := .tup [.str "record", .ref M, .bl true]) (Same.refl H6) hpd) _ _ eM
          generalize upd H6 pd (.tup [.str "record", .ref M, .bl true]) = H7 at s7 epd eM7 ⊢
          refine ⟨_, rfl, _, rfl, _, rfl, rfl, r, Z, fs, es, _, rfl, rc5.same s7, s7 _ _ eZ, by omega, fun r' H8 rr8 s8 => ⟨line_big (by show 3 ≤ 100000; decide), fun pf hpf => ⟨_, rfl, line_big (by show 2 ≤ 100000; decide), ?_⟩⟩⟩
          have s9 : Same H8 (upd H8 pf (.tup [.str "record", .ref r', .bl true])) := Same.new (Same.refl _) hpf
          have s79 := s8.trans s9
          refine fin H5 _ pf pd x05 t5 (s7.trans s79) (.inl ⟨r', M, flt (fl es _) fs, upd_same, s79 _ _ epd, rr8.same s9, .inr ⟨M, _, _, rfl, rfl, True.intro, s79 _ _ eM7, wf.flt, Lw.Al.flt (al5.imp fun _ _ _ z => Tr.same z (s7.trans s79))⟩, Nat.le_succ_of_le flt_le⟩)
end
end Lw
namespace Lw
open PySem PySem.Spec PyProof.Rows L2 GrT GrOwn GrMg
theorem Fx.fresh {p : Addr} {H H1 H2 : Hp} (h : H p = none) (s : Same H H1) (x : Fx p H1 H2) : Same H H2 := fun b o e => x b o (fun z => by
  rw [z, h] at e
  cases e) (s b o e)
def spLaw (K : PySem.W.Frag) : Sp := fun vs H Q _ => ∃ (a : Addr) (ns : List Int), vs = [.ref a] ∧ SqL K H a (ns.map V.int) ∧ ns.length ≤ 63 ∧ ∀ H', Q (.bl true) H'
section
variable {P : Program} {w : World} {K : PySem.W.Frag} {mg : Str → Option Value} {base : Heap} {C : Addr}
theorem scLaw : FnScope ["script", "k", "tape", "names", "plain", "record", "j", "found", "due"] ["script"] (defScope sLaw) := ⟨rfl, rfl, rfl, by decide +kernel, rfl, by decide +kernel, by decide +kernel⟩
theorem fn_law (T : Bu mg) (bm : mg "min" = none) (R : RecK K mg C) (c_law_cell : Cal P w K mg base 1 "_law_cell" (spCell K)) (c_law_tape : Cal P w K mg base 2 "_law_tape" spTape) (c_law_take : Cal P w K mg base 1 "_law_take" spTake)
    (c_law_pool : Cal P w K mg base 4 "_law_pool" spPool) (c_law_fields : Cal P w K mg base 5 "_law_fields" (spFields 1)) (s_make : SCal P w K mg base C 7 (spMake C 1)) (c_law_call : Cal P w K mg base 10 "_law_call" (spCallL C)) (c_law_told : Cal P w K mg base 6 "_law_told" (spTold C 2))
    {f : Addr} {fd : FuncData} (F : L2.Fun K "law" "law" sLaw f fd) : FnOk P w K mg base CX0 11 f fd ["script"] (spLaw K) := by
  refine F.ok scLaw (fun vs H Q E h => ?_) (fun cdv A outer s H vs Q E hr h => ?_)
  · obtain ⟨a, ns, rfl, _⟩ := h
    rfl
  · obtain ⟨a, ns, rfl, hS, hl, q⟩ := h
    refine ⟨_, (pss_cons (ps_for PassesOwn.never rfl (pi_range1 (by rfl) T.b_range (pa_cons (pe_callB (call_min2 rfl) (by rfl) bm (by decide +kernel) (pa_cons pe_int (pa_cons (pe_op op_add pe_int (pe_op op_fdiv (pe_callB call_len_seq (by rfl) T.b_len PySem.boot_len (pa_cons (pv 0) pa_nil)) pe_int)) pa_nil))) pa_nil)) (pg_name (i := 1) scLaw.nd rfl (Or.inl rfl))
      (pss_cons (ps_set (i := 2) scLaw.nd rfl (Or.inl rfl) (pe_c c_law_tape hr (by decide) rfl (pa_cons (pe_c c_law_cell hr (by decide) rfl (pa_cons (pv 0) (pa_cons (pe_op op_mul pe_int (pv 1)) pa_nil))) (pa_cons (pe_c c_law_cell hr (by decide) rfl (pa_cons (pv 0) (pa_cons (pe_op op_add (pe_op op_mul pe_int (pv 1)) pe_int) pa_nil))) (pa_cons pe_int pa_nil)))))
      (pss_cons (ps_set (i := 3) scLaw.nd rfl (Or.inl rfl) (pe_c c_law_pool hr (by decide) rfl (pa_cons (pv 2) (pa_cons (pe_op op_add pe_int (pe_c c_law_take hr (by decide) rfl (pa_cons (pv 2) (pa_cons pe_int pa_nil)))) pa_nil))))
      (pss_cons (ps_set (i := 4) scLaw.nd rfl (Or.inl rfl) (pe_c c_law_fields hr (by decide) rfl (pa_cons (pv 2) (pa_cons (pv 3) (pa_cons pe_int pa_nil)))))
      (pss_cons (ps_set (i := 5) scLaw.nd rfl (Or.inl rfl) (pe_smC (pe_glob (by rfl) R.mgC (v := .ref C) rfl) s_make hr (by decide) (pa_cons (pv 4) pa_nil)))
      (pss_one (ps_for PassesOwn.never rfl (pi_range1 (by rfl) T.b_range (pa_cons (pe_op op_add pe_int (pe_c c_law_take hr (by decide) rfl (pa_cons (pv 2) (pa_cons pe_int pa_nil)))) pa_nil)) (pg_name (i := 6) scLaw.nd rfl (Or.inl rfl))
        (pss_cons (ps_asg (pe_c c_law_call hr (by decide) rfl (pa_cons (pv 2) (pa_cons (pv 3) (pa_cons (pv 5) (pa_cons (pv 4) pa_nil))))) (pg_tup (by rfl) (pgs_cons (pg_name (i := 7) scLaw.nd rfl (Or.inl rfl)) (pgs_cons (pg_name (i := 8) scLaw.nd rfl (Or.inl rfl)) pgs_nil))))
        (pss_cons (ps_if (PW.pt (pw_or (pt_not (pt_val (pe_c c_law_told hr (by decide) rfl (pa_cons (pv 5) (pa_cons (pv 4) pa_nil))))) (pw_or (pt_cmpR op_ne (pe_ix ix_tup (pv 7) pe_int (fun _ _ => rfl)) (pe_ix ix_tup (pv 8) pe_int (fun _ _ => rfl)) (nomark _)) (pw_or1 (pt_cmpR op_notBl (pe_ix ix_tup (pv 7) pe_int (fun _ _ => rfl)) pe_bl (by rfl))))))
          (pss_one (ps_ret pe_bl)) pss_nil)
        (pss_one (ps_if (pt_cmpR op_eq (pe_ix ix_tup (pv 7) pe_int (fun _ _ => rfl)) pe_str (nomark _))
          (pss_cons (ps_if (pt_not (pt_val (pe_c c_law_told hr (by decide) rfl (pa_cons (pe_ix ix_tup (pv 7) pe_int (fun _ _ => rfl)) (pa_cons (pe_ix ix_tup (pv 8) pe_int (fun _ _ => rfl)) pa_nil))))) (pss_one (ps_ret pe_bl)) pss_nil)
          (pss_cons (ps_set (i := 5) scLaw.nd rfl (Or.inl rfl) (pe_ix ix_tup (pv 7) pe_int (fun _ _ => rfl)))
          (pss_one (ps_set (i := 4) scLaw.nd rfl (Or.inl rfl) (pe_ix ix_tup (pv 8) pe_int (fun _ _ => rfl))))))
          (pss_one (ps_if (pt_cmpR op_ne (pe_ix ix_tup (pv 7) pe_int (fun _ _ => rfl)) (pe_ix ix_tup (pv 8) pe_int (fun _ _ => rfl)) (nomark _)) (pss_one (ps_ret pe_bl)) pss_nil)))))))))))))
      (pss_one (ps_ret pe_bl))), ?_⟩
    have hm : ∀ z : Int, z = (if 1 + ((ns.map V.int).length : Int) / 2 < 8 then 1 + ((ns.map V.int).length : Int) / 2 else 8) → 0 ≤ z ∧ z ≤ 8 := fun z e => by
      split at e <;> omega
    refine ⟨_, rfl, a, _, rfl, .inl hS, _, _, rfl, rfl, ⟨by decide, by decide⟩, _, _, rfl, rfl, _, _, rfl, ?_⟩
    generalize hz : (if 1 + ((ns.map V.int).length : Int) / 2 < 8 then 1 + ((ns.map V.int).length : Int) / 2 else 8) = z
    have hz2 := hm z hz.symm
    refine ⟨z, rfl, by omega, by omega, for_range (lo := 0) (n := z.toNat) (fun i σ H' => ∃ (kv tv nv pv rv jv fv dv : Option V), σ = [some (.ref a), kv, tv, nv, pv, rv, jv, fv, dv] ∧ Same H H')
      ⟨none, none, none, none, none, none, none, none, rfl, Same.refl _⟩ ?_ ?_⟩
    · rintro i σ H0 hi ⟨kv, tv, nv, pv', rv, jv, fv, dv, rfl, s0⟩
      have hS0 := s0.seq hS
      refine ⟨_, rfl, _, rfl, _, _, rfl, rfl, .inl ⟨by decide, by decide⟩, a, ns, _, rfl, hS0, by omega, fun g => ?_⟩
      refine ⟨_, rfl, _, rfl, _, _, rfl, rfl, .inl ⟨by decide, by decide⟩, _, _, rfl, rfl, a, ns, _, rfl, hS0, by omega, fun g2 => ?_⟩
      refine ⟨g, g2, 220, rfl, by decide, by decide, fun p H1 hp tp1 s1 => ?_⟩
      have s01 := s0.trans s1
      have hp0 : H p = none := s0.free hp
      refine ⟨_, rfl, _, rfl, p, 6, rfl, tp1, by decide, fun c H2 c0 c1 x2 t2 => ⟨_, _, rfl, rfl, ?_⟩⟩
      refine ⟨p, _, rfl, t2, by omega, by omega, fun W ws H3 hW eW wl wn x3 t3 => ?_⟩
      have Wp : W ≠ p := t2.ne'' hW
      have s03 : Same H H3 := Fx.fresh hp0 s01 (x2.trans x3)
      refine ⟨_, rfl, _, rfl, p, W, ws, rfl, t3, eW, Wp, by omega, by omega, wn, fun D1 fs1 H4 r4 x4 t4 => ?_⟩
      have s04 := Fx.fresh hp0 s03 x4
      have eW4 := x4 _ _ Wp eW
      have tr4 : Tr All H4 20 2 (.ref D1) (.fds fs1) := r4.wid fun _ _ => True.intro
      have hf1 : fs1.length ≤ 20 := by
        obtain ⟨_, _, _, _, _, _, _, wf, _⟩ := Lw.Tr.out tr4
        exact wf.ln
      refine ⟨rfl, _, rfl, .ref D1, All, fs1, rfl, tr4.mono (Nat.le_refl _) (by decide), fun rv1 H5 rr5 s5 => ?_⟩
      have rc5 : Rc All C H5 2 rv1 (.fds fs1) := rr5.wid fun _ _ => True.intro
      obtain ⟨r1, rfl⟩ := Lw.Rc.ref' rc5
      have tr5 : Tr All H5 40 2 (.ref D1) (.fds fs1) := Tr.same (tr4.mono (Nat.le_refl _) (by decide)) s5
      have t5 := Tape.same t4 s5
      refine ⟨_, rfl, p, 8, rfl, t5, by decide, fun jn H6 j0 j1 x6 t6 => ⟨_, _, rfl, rfl, 1 + jn, rfl, by omega, by omega, ?_⟩⟩
      have s06 : Same H H6 := Fx.fresh hp0 (s04.trans s5) x6
      have eW6 := x6 _ _ Wp (s5 _ _ eW4)
      refine for_range (lo := 0) (n := (1 + jn).toNat) (fun m σ H' => ∃ (r D : Addr) (fs : List (Str × GrT.T)) (jv fv dv : Option V), σ = [some (.ref a), some (.int (0 + (i : Int))), some (.ref p), some (.ref W), some (.ref D), some (.ref r), jv, fv, dv] ∧
        Rc All C H' 2 (.ref r) (.fds fs) ∧ Tr All H' 40 2 (.ref D) (.fds fs) ∧ fs.length ≤ 20 + m ∧ H' W = some (.lst (ws.map V.str)) ∧ Tape H' p ∧ Same H H')
        ⟨r1, D1, fs1, _, _, _, rfl, Rc.fx rc5 t5 x6, Tr.fx tr5 t5 x6, hf1, eW6, t6, s06⟩ ?_ ?_
      · rintro m σ H7 hm7 ⟨r, D, fs, jv, fv, dv, rfl, rc, tr, fl, eW7, t7, s07⟩
        refine ⟨_, rfl, _, rfl, _, rfl, _, rfl, p, W, r, D, ws, fs, rfl, t7, Wp, eW7, by omega, by omega, wn, rc, tr, by omega, fun q0 pf pd H8 eq o x8 t8 => ?_⟩
        have s08 := Fx.fresh hp0 s07 x8
        have eW8 := x8 _ _ Wp eW7
        have rc8 := Rc.fx rc t7 x8
        have tr8 := Tr.fx tr t7 x8
        refine ⟨q0, _, rfl, SqT.of eq, rfl, _, _, rfl, _, _, rfl, rfl, ?_⟩
        refine ⟨_, rfl, _, rfl, .ref r, .ref D, _, _, .fds fs, rfl, rc8, tr8, fun H9 s9 => ⟨_, rfl, iteF ?_⟩⟩
        have s89 := s9
        have o9 := o.same s9
        have t9 := Tape.same t8 s9
        rcases o9 with ⟨r', D', fs', epf, epd, rc', tr', fl'⟩ | ⟨kd, x, hk, epf, epd⟩
        · refine ⟨_, rfl, pf, _, _, _, rfl, rfl, SqT.of epf, atI_nat (j := 0) rfl, _, rfl, pd, _, _, _, rfl, rfl, SqT.of epd, atI_nat (j := 0) rfl, rfl, _, rfl, ?_⟩
          rw [show decide (V.str "record" = V.str "record") = true from decide_eq_true rfl]
          refine iteF ⟨_, rfl, pf, _, _, _, rfl, rfl, SqT.of epf, atI_nat (j := 2) rfl, true, true, rfl, rfl, _, rfl, iteF ?_⟩
          refine ⟨_, rfl, pf, _, _, _, rfl, rfl, SqT.of epf, atI_nat (j := 0) rfl, rfl, _, rfl, ?_⟩
          rw [show decide (V.str "record" = V.str "record") = true from decide_eq_true rfl]
          refine iteT ⟨_, rfl, pf, _, _, _, rfl, rfl, SqT.of epf, atI_nat (j := 1) rfl, _, rfl, pd, _, _, _, rfl, rfl, SqT.of epd, atI_nat (j := 1) rfl, .ref r', .ref D', _, _, .fds fs', rfl, rc', tr', fun H10 s10 => ⟨_, rfl, iteF ?_⟩⟩
          refine ⟨_, rfl, pf, _, _, _, rfl, rfl, SqT.of (s10 _ _ epf), atI_nat (j := 1) rfl, _, rfl, pd, _, _, _, rfl, rfl, SqT.of (s10 _ _ epd), atI_nat (j := 1) rfl, ?_⟩
          exact ⟨r', D', fs', _, _, _, rfl, rc'.same s10, Tr.same tr' s10, by omega, s10 _ _ (s9 _ _ eW8), Tape.same t9 s10, (s08.trans s9).trans s10⟩
        · refine ⟨_, rfl, pf, _, _, _, rfl, rfl, SqT.of epf, atI_nat (j := 0) rfl, _, rfl, pd, _, _, _, rfl, rfl, SqT.of epd, atI_nat (j := 0) rfl, rfl, _, rfl, ?_⟩
          rw [show decide (V.str kd = V.str kd) = true from decide_eq_true rfl]
          refine iteF ⟨_, rfl, pf, _, _, _, rfl, rfl, SqT.of epf, atI_nat (j := 2) rfl, true, true, rfl, rfl, _, rfl, iteF ?_⟩
          refine ⟨_, rfl, pf, _, _, _, rfl, rfl, SqT.of epf, atI_nat (j := 0) rfl, rfl, _, rfl, ?_⟩
          rw [show decide (V.str kd = V.str "record") = false from decide_eq_false fun z => hk (V.str.inj z)]
          refine iteF ⟨_, rfl, pf, _, _, _, rfl, rfl, SqT.of epf, atI_nat (j := 1) rfl, _, rfl, pd, _, _, _, rfl, rfl, SqT.of epd, atI_nat (j := 1) rfl, rfl, _, rfl, ?_⟩
          rw [show decide (V.str x = V.str x) = true from decide_eq_true rfl]
          exact iteF ⟨r, D, fs, _, _, _, rfl, rc8.same s9, Tr.same tr8 s9, by omega, s9 _ _ eW8, t9, s08.trans s9⟩
      · rintro σ H' ⟨r, D, fs, jv, fv, dv, rfl, _, _, _, _, _, s0'⟩
        exact ⟨_, _, _, _, _, _, _, _, rfl, s0'⟩
    · rintro σ H' ⟨kv, tv, nv, pv', rv, jv, fv, dv, rfl, s0⟩
      exact q H'
end
end Lw
namespace Lw
open PySem PySem.Spec PyProof.Rows L2 GrT GrOwn GrMg StX
theorem all_mk {l : PySem.W.OpenLaw} {w : World} {K : PySem.W.Frag} {h : Heap} {mg : Str → Option Value} {fa C RE CB fB cdB ccB NB CN fN cdN ccN NN CT fT cdT ccT NT pm ps f1 f2 f3 f4 f5 f6 f7 f8 f9 f10 f11 f12 f13 f14 f15 f16 f17 f18 f19 f20 f21 f22 f23 f24 f25 f26 f27 f28 f29 f30 f31 f32 f33 f34 f35 f36 f37 : Addr} {cdC : ClassData} {ocC : Value} {odC : Option Addr} {slC : Array (Option Value)} {tL : Tok} {cdR : ClassData} {ocR : Value} {odR : Option Addr} {slR : Array (Option Value)} {nmB qB fileB : Str} {bsB bmB subB : List Value} {snB : List Str} {abB : Bool} {colB : Option Bool} {ddB odB anB cddB cldB : Option Addr} {k0B k1B k2B k3B k5B : Option Value} {ocB kVB dcB pmB ctB cclB clB : Value} {slB ccsB cslB : Array (Option Value)} {vsB : Array Value} {tfB : Tok} {nmN qN fileN : Str} {bsN bmN subN : List Value} {snN : List Str} {abN : Bool} {colN : Option Bool} {ddN odN anN cddN cldN : Option Addr} {k0N k1N k2N k3N k5N : Option Value} {ocN kVN dcN pmN ctN cclN clN : Value} {slN ccsN cslN : Array (Option Value)} {vsN : Array Value} {tfN : Tok} {nmT qT fileT : Str} {bsT bmT subT : List Value} {snT : List Str} {abT : Bool} {colT : Option Bool} {ddT odT anT cddT cldT : Option Addr} {k0T k1T k2T k3T k5T : Option Value} {ocT kVT dcT pmT ctT cclT clT : Value} {slT ccsT cslT : Array (Option Value)} {vsT : Array Value} {tfT : Tok} {rest1 : List Value} {rest2 : List Value} (X : K.In h) (G : h.Ns mainGlobals mg) (hfa : mg "law" = some (.ref fa))
    {od1 an1 od2 an2 od3 an3 od4 an4 od5 an5 od6 an6 od7 an7 od8 an8 od9 an9 od10 an10 od11 an11 od12 an12 od13 an13 od14 an14 od15 an15 od16 an16 od17 an17 od18 an18 od19 an19 od20 an20 od21 an21 od22 an22 od23 an23 od24 an24 od25 an25 od26 an26 od27 an27 od28 an28 od29 an29 od30 an30 od31 an31 od32 an32 od33 an33 od34 an34 od35 an35 od36 an36 od37 an37 : Option Addr} {sl1 sl2 sl3 sl4 sl5 sl6 sl7 sl8 sl9 sl10 sl11 sl12 sl13 sl14 sl15 sl16 sl17 sl18 sl19 sl20 sl21 sl22 sl23 sl24 sl25 sl26 sl27 sl28 sl29 sl30 sl31 sl32 sl33 sl34 sl35 sl36 sl37 : Array (Option Value)} {oc1 kV1 dc1 pm1 cd1 ct1 oc2 kV2 dc2 pm2 cd2 ct2 oc3 kV3 dc3 pm3 cd3 ct3 oc4 kV4 dc4 pm4 cd4 ct4 oc5 kV5 dc5 pm5 cd5 ct5 oc6 kV6 dc6 pm6 cd6 ct6 oc7 kV7 dc7 pm7 cd7 ct7 oc8 kV8 dc8 pm8 cd8 ct8 oc9 kV9 dc9 pm9 cd9 ct9 oc10 kV10 dc10 pm10 cd10 ct10 oc11 kV11 dc11 pm11 cd11 ct11 oc12 kV12 dc12 pm12 cd12 ct12 oc13 kV13 dc13 pm13 cd13 ct13 oc14 kV14 dc14 pm14 cd14 ct14 oc15 kV15 dc15 pm15 cd15 ct15 oc16 kV16 dc16 pm16 cd16 ct16 oc17 kV17 dc17 pm17 cd17 ct17 oc18 kV18 dc18 pm18 cd18 ct18 oc19 kV19 dc19 pm19 cd19 ct19 oc20 kV20 dc20 pm20 cd20 ct20 oc21 kV21 dc21 pm21 cd21 ct21 oc22 kV22 dc22 pm22 cd22 ct22 oc23 kV23 dc23 pm23 cd23 ct23 oc24 kV24 dc24 pm24 cd24 ct24 oc25 kV25 dc25 pm25 cd25 ct25 oc26 kV26 dc26 pm26 cd26 ct26 oc27 kV27 dc27 pm27 cd27 ct27 oc28 kV28 dc28 pm28 cd28 ct28 oc29 kV29 dc29 pm29 cd29 ct29 oc30 kV30 dc30 pm30 cd30 ct30 oc31 kV31 dc31 pm31 cd31 ct31 oc32 kV32 dc32 pm32 cd32 ct32 oc33 kV33 dc33 pm33 cd33 ct33 oc34 kV34 dc34 pm34 cd34 ct34 oc35 kV35 dc35 pm35 cd35 ct35 oc36 kV36 dc36 pm36 cd36 ct36 oc37 kV37 dc37 pm37 cd37 ct37 : Value}
    (aC : PySem.W.nsIn K mainGlobals "Record" = some (some (.ref C)))
    (pg : PySem.W.plainGet K C Str.empty = true)
    (hd : PySem.W.hasDictIn K C = true)
    (po : PySem.W.plainOver K C = true)
    (sa : PySem.W.findIn K (.ref C) "__setattr__" = some (some (.builtin "object.__setattr__")))
    (mk : PySem.W.makesIn K C = true)
    (kc : PySem.W.keepIn K (.ref C) = true)
    (nN : PySem.W.findIn K (.ref C) "names" = some none)
    (nF : PySem.W.findIn K (.ref C) "_fields" = some none)
    (nS : PySem.W.findIn K (.ref C) "_size" = some none)
    (ha : PySem.W.findIn K (.ref C) "__class__" = some (some (.builtin "object.__class__")))
    (hn : PySem.W.specialIn K (.builtin "object.__class__") "__get__" = some (some (.builtin "getset_descriptor.__get__")))
    (htk : PySem.W.takesIn K (.builtin "object.__class__") = some true)
    (hm : PySem.W.mroIn K C (.type "object") = some true)
    (cI : K.lookup C = some ⟨ocC, odC, .cls cdC, slC⟩)
    (tI : PySem.W.typeIn K (.ref C) = some (.type "type"))
    (sD : PySem.W.subIn K (.ref C) (.type "dict") = some false)
    (sI : PySem.W.subIn K (.type "int") (.ref C) = some false)
    (sR : PySem.W.subIn K (.ref C) (.type "int") = some false)
    (gL : PySem.W.nsIn K mainGlobals "LONGEST_NAME" = some (some (.int 30 tL)))
    (sf : PySem.W.selfFirst K C = true)
    (aR : PySem.W.nsIn K mainGlobals "RecordsError" = some (some (.ref RE)))
    (lR : K.lookup RE = some ⟨ocR, odR, .cls cdR, slR⟩)
    (tR : PySem.W.typeIn K (.ref RE) = some (.type "type"))
    (hoS : PySem.W.nsIn K cStatics "thirdparty.any" = some none)
    (tpS : (l.prog.main.scope.names.lookup ("super" : Str)).isSome = false)
    (aB : PySem.W.nsIn K mainGlobals "BadName" = some (some (.ref CB)))
    (cB : K.lookup CB = some (excClassObj nmB qB CB NB bsB bmB true snB subB abB colB ddB k0B k1B k2B k3B k5B "ValueError.__new__"))
    (vB : PySem.HandSPX.refsVE bmB = true)
    (zB : PySem.W.findIn K (.ref CB) "__setattr__" = some (some (.builtin "object.__setattr__")))
    (bB : PySem.W.subIn K (.ref CB) (.type "BaseException") = some true)
    (tB : PySem.W.typeIn K (.ref CB) = some (.type "type"))
    (kB : PySem.W.keepIn K (.ref CB) = true)
    (iB : PySem.W.findIn K (.ref CB) "__init__" = some (some (.ref fB)))
    (yB : PySem.W.typeIn K (.ref fB) = some (.type "function"))
    (lB : K.lookup fB = some ⟨ocB, odB, .func (PySem.W.ksFn "__init__" "BadName.__init__" (defArgs sBadInit) (defBody sBadInit) (defScope sBadInit) .none kVB dcB pmB anB (.ref cdB) ctB ccB), slB⟩)
    (dB : PySem.W.codeIn K (.ref cdB) "BadName.__init__" = true)
    (eB : K.lookup cdB = some ⟨cclB, cddB, .fields vsB, ccsB⟩)
    (wB : vsB[2]? = some (.str fileB tfB))
    (xB : ((l.prog.main.file : Str) == fileB) = true)
    (oB : K.lookup ccB = some ⟨clB, cldB, .cell (some (.ref CB)), cslB⟩)
    (hmB : PySem.W.ks_superIn K CB CB "__init__" = some (some (.builtin "ValueError.__init__")))
    (hBB : PySem.W.subIn K (.ref CB) (.type "ValueError") = some true)
    (mB : PySem.W.mroIn K CB (.ref CB) = some true)
    (nnB : PySem.W.findIn K (.ref CB) "name" = some none)
    (ssB : PySem.W.subIn K (.ref CB) (.ref CB) = some true)
    (hdB : PySem.W.hasDictIn K CB = true)
    (gaB : PySem.W.findIn K (.ref CB) "__getattribute__" = some (some (.builtin "BaseException.__getattribute__")))
    (ggB : PySem.W.findIn K (.ref CB) "__getattr__" = some none)
    (haB : PySem.W.findIn K (.ref CB) "__class__" = some (some (.builtin "object.__class__")))
    (moB : PySem.W.mroIn K CB (.type "object") = some true)
    (rB : PySem.W.subIn K (.ref CB) (.ref RE) = some true)
    (aN : PySem.W.nsIn K mainGlobals "NoField" = some (some (.ref CN)))
    (cN : K.lookup CN = some (excClassObj nmN qN CN NN bsN bmN true snN subN abN colN ddN k0N k1N k2N k3N k5N "ValueError.__new__"))
    (vN : PySem.HandSPX.refsVE bmN = true)
    (zN : PySem.W.findIn K (.ref CN) "__setattr__" = some (some (.builtin "object.__setattr__")))
    (bN : PySem.W.subIn K (.ref CN) (.type "BaseException") = some true)
    (tN : PySem.W.typeIn K (.ref CN) = some (.type "type"))
    (kN : PySem.W.keepIn K (.ref CN) = true)
    (iN : PySem.W.findIn K (.ref CN) "__init__" = some (some (.ref fN)))
    (yN : PySem.W.typeIn K (.ref fN) = some (.type "function"))
    (lN : K.lookup fN = some ⟨ocN, odN, .func (PySem.W.ksFn "__init__" "NoField.__init__" (defArgs sNoInit) (defBody sNoInit) (defScope sNoInit) .none kVN dcN pmN anN (.ref cdN) ctN ccN), slN⟩)
    (dN : PySem.W.codeIn K (.ref cdN) "NoField.__init__" = true)
    (eN : K.lookup cdN = some ⟨cclN, cddN, .fields vsN, ccsN⟩)
    (wN : vsN[2]? = some (.str fileN tfN))
    (xN : ((l.prog.main.file : Str) == fileN) = true)
    (oN : K.lookup ccN = some ⟨clN, cldN, .cell (some (.ref CN)), cslN⟩)
    (hmN : PySem.W.ks_superIn K CN CN "__init__" = some (some (.builtin "ValueError.__init__")))
    (hBN : PySem.W.subIn K (.ref CN) (.type "ValueError") = some true)
    (mN : PySem.W.mroIn K CN (.ref CN) = some true)
    (nnN : PySem.W.findIn K (.ref CN) "name" = some none)
    (ssN : PySem.W.subIn K (.ref CN) (.ref CN) = some true)
    (hdN : PySem.W.hasDictIn K CN = true)
    (gaN : PySem.W.findIn K (.ref CN) "__getattribute__" = some (some (.builtin "BaseException.__getattribute__")))
    (ggN : PySem.W.findIn K (.ref CN) "__getattr__" = some none)
    (haN : PySem.W.findIn K (.ref CN) "__class__" = some (some (.builtin "object.__class__")))
    (moN : PySem.W.mroIn K CN (.type "object") = some true)
    (rN : PySem.W.subIn K (.ref CN) (.ref RE) = some true)
    (aT : PySem.W.nsIn K mainGlobals "FieldThere" = some (some (.ref CT)))
    (cT : K.lookup CT = some (excClassObj nmT qT CT NT bsT bmT true snT subT abT colT ddT k0T k1T k2T k3T k5T "ValueError.__new__"))
    (vT : PySem.HandSPX.refsVE bmT = true)
    (zT : PySem.W.findIn K (.ref CT) "__setattr__" = some (some (.builtin "object.__setattr__")))
    (bT : PySem.W.subIn K (.ref CT) (.type "BaseException") = some true)
    (tT : PySem.W.typeIn K (.ref CT) = some (.type "type"))
    (kT : PySem.W.keepIn K (.ref CT) = true)
    (iT : PySem.W.findIn K (.ref CT) "__init__" = some (some (.ref fT)))
    (yT : PySem.W.typeIn K (.ref fT) = some (.type "function"))
    (lT : K.lookup fT = some ⟨ocT, odT, .func (PySem.W.ksFn "__init__" "FieldThere.__init__" (defArgs sThInit) (defBody sThInit) (defScope sThInit) .none kVT dcT pmT anT (.ref cdT) ctT ccT), slT⟩)
    (dT : PySem.W.codeIn K (.ref cdT) "FieldThere.__init__" = true)
    (eT : K.lookup cdT = some ⟨cclT, cddT, .fields vsT, ccsT⟩)
    (wT : vsT[2]? = some (.str fileT tfT))
    (xT : ((l.prog.main.file : Str) == fileT) = true)
    (oT : K.lookup ccT = some ⟨clT, cldT, .cell (some (.ref CT)), cslT⟩)
    (hmT : PySem.W.ks_superIn K CT CT "__init__" = some (some (.builtin "ValueError.__init__")))
    (hBT : PySem.W.subIn K (.ref CT) (.type "ValueError") = some true)
    (mT : PySem.W.mroIn K CT (.ref CT) = some true)
    (nnT : PySem.W.findIn K (.ref CT) "name" = some none)
    (ssT : PySem.W.subIn K (.ref CT) (.ref CT) = some true)
    (hdT : PySem.W.hasDictIn K CT = true)
    (gaT : PySem.W.findIn K (.ref CT) "__getattribute__" = some (some (.builtin "BaseException.__getattribute__")))
    (ggT : PySem.W.findIn K (.ref CT) "__getattr__" = some none)
    (haT : PySem.W.findIn K (.ref CT) "__class__" = some (some (.builtin "object.__class__")))
    (moT : PySem.W.mroIn K CT (.type "object") = some true)
    (rT : PySem.W.subIn K (.ref CT) (.ref RE) = some true)
    (nBN : PySem.W.subIn K (.ref CB) (.ref CN) = some false)
    (nTN : PySem.W.subIn K (.ref CT) (.ref CN) = some false)
    (nTB : PySem.W.subIn K (.ref CT) (.ref CB) = some false)
    (a1 : PySem.W.nsIn K mainGlobals "_law_cell" = some (some (.ref f1)))
    (l1 : K.lookup f1 = some ⟨oc1, od1, .func (PySem.W.fnOf "_law_cell" "_law_cell" (defArgs sCell) (defBody sCell) (defScope sCell) .none kV1 dc1 pm1 an1 cd1 ct1), sl1⟩)
    (c1 : PySem.W.codeIn K cd1 "_law_cell" = true)
    (k1 : PySem.W.keepIn K (.ref f1) = true)
    (a2 : PySem.W.nsIn K mainGlobals "_law_mixed" = some (some (.ref f2)))
    (l2 : K.lookup f2 = some ⟨oc2, od2, .func (PySem.W.fnOf "_law_mixed" "_law_mixed" (defArgs sMixed) (defBody sMixed) (defScope sMixed) .none kV2 dc2 pm2 an2 cd2 ct2), sl2⟩)
    (c2 : PySem.W.codeIn K cd2 "_law_mixed" = true)
    (k2 : PySem.W.keepIn K (.ref f2) = true)
    (a3 : PySem.W.nsIn K mainGlobals "_law_tape" = some (some (.ref f3)))
    (l3 : K.lookup f3 = some ⟨oc3, od3, .func (PySem.W.fnOf "_law_tape" "_law_tape" (defArgs sTape) (defBody sTape) (defScope sTape) .none kV3 dc3 pm3 an3 cd3 ct3), sl3⟩)
    (c3 : PySem.W.codeIn K cd3 "_law_tape" = true)
    (k3 : PySem.W.keepIn K (.ref f3) = true)
    (a4 : PySem.W.nsIn K mainGlobals "_law_take" = some (some (.ref f4)))
    (l4 : K.lookup f4 = some ⟨oc4, od4, .func (PySem.W.fnOf "_law_take" "_law_take" (defArgs sTake) (defBody sTake) (defScope sTake) .none kV4 dc4 pm4 an4 cd4 ct4), sl4⟩)
    (c4 : PySem.W.codeIn K cd4 "_law_take" = true)
    (k4 : PySem.W.keepIn K (.ref f4) = true)
    (a5 : PySem.W.nsIn K mainGlobals "_law_number" = some (some (.ref f5)))
    (l5 : K.lookup f5 = some ⟨oc5, od5, .func (PySem.W.fnOf "_law_number" "_law_number" (defArgs sNumber) (defBody sNumber) (defScope sNumber) .none kV5 dc5 pm5 an5 cd5 ct5), sl5⟩)
    (c5 : PySem.W.codeIn K cd5 "_law_number" = true)
    (k5 : PySem.W.keepIn K (.ref f5) = true)
    (a6 : PySem.W.nsIn K mainGlobals "_law_word" = some (some (.ref f6)))
    (l6 : K.lookup f6 = some ⟨oc6, od6, .func (PySem.W.fnOf "_law_word" "_law_word" (defArgs sWord) (defBody sWord) (defScope sWord) .none kV6 dc6 pm6 an6 cd6 ct6), sl6⟩)
    (c6 : PySem.W.codeIn K cd6 "_law_word" = true)
    (k6 : PySem.W.keepIn K (.ref f6) = true)
    (a7 : PySem.W.nsIn K mainGlobals "_law_words" = some (some (.ref f7)))
    (l7 : K.lookup f7 = some ⟨oc7, od7, .func (PySem.W.fnOf "_law_words" "_law_words" (defArgs sWords) (defBody sWords) (defScope sWords) .none kV7 dc7 pm7 an7 cd7 ct7), sl7⟩)
    (c7 : PySem.W.codeIn K cd7 "_law_words" = true)
    (k7 : PySem.W.keepIn K (.ref f7) = true)
    (a8 : PySem.W.nsIn K mainGlobals "_law_pick" = some (some (.ref f8)))
    (l8 : K.lookup f8 = some ⟨oc8, od8, .func (PySem.W.fnOf "_law_pick" "_law_pick" (defArgs sPick) (defBody sPick) (defScope sPick) .none kV8 dc8 pm8 an8 cd8 ct8), sl8⟩)
    (c8 : PySem.W.codeIn K cd8 "_law_pick" = true)
    (k8 : PySem.W.keepIn K (.ref f8) = true)
    (a9 : PySem.W.nsIn K mainGlobals "_law_long" = some (some (.ref f9)))
    (l9 : K.lookup f9 = some ⟨oc9, od9, .func (PySem.W.fnOf "_law_long" "_law_long" (defArgs sLong) (defBody sLong) (defScope sLong) .none kV9 dc9 pm9 an9 cd9 ct9), sl9⟩)
    (c9 : PySem.W.codeIn K cd9 "_law_long" = true)
    (k9 : PySem.W.keepIn K (.ref f9) = true)
    (a10 : PySem.W.nsIn K mainGlobals "_law_pool" = some (some (.ref f10)))
    (l10 : K.lookup f10 = some ⟨oc10, od10, .func (PySem.W.fnOf "_law_pool" "_law_pool" (defArgs sPool) (defBody sPool) (defScope sPool) .none kV10 dc10 pm10 an10 cd10 ct10), sl10⟩)
    (c10 : PySem.W.codeIn K cd10 "_law_pool" = true)
    (k10 : PySem.W.keepIn K (.ref f10) = true)
    (a11 : PySem.W.nsIn K mainGlobals "_law_fields" = some (some (.ref f11)))
    (l11 : K.lookup f11 = some ⟨oc11, od11, .func (PySem.W.fnOf "_law_fields" "_law_fields" (defArgs sFields) (defBody sFields) (defScope sFields) .none kV11 dc11 pm11 an11 cd11 ct11), sl11⟩)
    (c11 : PySem.W.codeIn K cd11 "_law_fields" = true)
    (k11 : PySem.W.keepIn K (.ref f11) = true)
    (a12 : PySem.W.nsIn K mainGlobals "_law_count" = some (some (.ref f12)))
    (l12 : K.lookup f12 = some ⟨oc12, od12, .func (PySem.W.fnOf "_law_count" "_law_count" (defArgs sCount) (defBody sCount) (defScope sCount) .none kV12 dc12 pm12 an12 cd12 ct12), sl12⟩)
    (c12 : PySem.W.codeIn K cd12 "_law_count" = true)
    (k12 : PySem.W.keepIn K (.ref f12) = true)
    (a13 : PySem.W.nsIn K mainGlobals "_law_sorted" = some (some (.ref f13)))
    (l13 : K.lookup f13 = some ⟨oc13, od13, .func (PySem.W.fnOf "_law_sorted" "_law_sorted" (defArgs sSorted) (defBody sSorted) (defScope sSorted) .none kV13 dc13 pm13 an13 cd13 ct13), sl13⟩)
    (c13 : PySem.W.codeIn K cd13 "_law_sorted" = true)
    (k13 : PySem.W.keepIn K (.ref f13) = true)
    (a14 : PySem.W.nsIn K mainGlobals "_law_is_integer" = some (some (.ref f14)))
    (l14 : K.lookup f14 = some ⟨oc14, od14, .func (PySem.W.fnOf "_law_is_integer" "_law_is_integer" (defArgs sIsInt) (defBody sIsInt) (defScope sIsInt) .none kV14 dc14 pm14 an14 cd14 ct14), sl14⟩)
    (c14 : PySem.W.codeIn K cd14 "_law_is_integer" = true)
    (k14 : PySem.W.keepIn K (.ref f14) = true)
    (a15 : PySem.W.nsIn K mainGlobals "_law_told" = some (some (.ref f15)))
    (l15 : K.lookup f15 = some ⟨oc15, od15, .func (PySem.W.fnOf "_law_told" "_law_told" (defArgs sTold) (defBody sTold) (defScope sTold) .none kV15 dc15 pm15 an15 cd15 ct15), sl15⟩)
    (c15 : PySem.W.codeIn K cd15 "_law_told" = true)
    (k15 : PySem.W.keepIn K (.ref f15) = true)
    (a16 : PySem.W.nsIn K mainGlobals "_law_named" = some (some (.ref f16)))
    (l16 : K.lookup f16 = some ⟨oc16, od16, .func (PySem.W.fnOf "_law_named" "_law_named" (defArgs sNamed) (defBody sNamed) (defScope sNamed) .none kV16 dc16 pm16 an16 cd16 ct16), sl16⟩)
    (c16 : PySem.W.codeIn K cd16 "_law_named" = true)
    (k16 : PySem.W.keepIn K (.ref f16) = true)
    (a17 : PySem.W.nsIn K mainGlobals "_law_is_word" = some (some (.ref f17)))
    (l17 : K.lookup f17 = some ⟨oc17, od17, .func (PySem.W.fnOf "_law_is_word" "_law_is_word" (defArgs sIsWd) (defBody sIsWd) (defScope sIsWd) .none kV17 dc17 pm17 an17 cd17 ct17), sl17⟩)
    (c17 : PySem.W.codeIn K cd17 "_law_is_word" = true)
    (k17 : PySem.W.keepIn K (.ref f17) = true)
    (a18 : PySem.W.nsIn K mainGlobals "_law_left" = some (some (.ref f18)))
    (l18 : K.lookup f18 = some ⟨oc18, od18, .func (PySem.W.fnOf "_law_left" "_law_left" (defArgs sLeft) (defBody sLeft) (defScope sLeft) .none kV18 dc18 pm18 an18 cd18 ct18), sl18⟩)
    (c18 : PySem.W.codeIn K cd18 "_law_left" = true)
    (k18 : PySem.W.keepIn K (.ref f18) = true)
    (a19 : PySem.W.nsIn K mainGlobals "_law_put_due" = some (some (.ref f19)))
    (l19 : K.lookup f19 = some ⟨oc19, od19, .func (PySem.W.fnOf "_law_put_due" "_law_put_due" (defArgs sPutDue) (defBody sPutDue) (defScope sPutDue) .none kV19 dc19 pm19 an19 cd19 ct19), sl19⟩)
    (c19 : PySem.W.codeIn K cd19 "_law_put_due" = true)
    (k19 : PySem.W.keepIn K (.ref f19) = true)
    (a20 : PySem.W.nsIn K mainGlobals "_law_renamed_due" = some (some (.ref f20)))
    (l20 : K.lookup f20 = some ⟨oc20, od20, .func (PySem.W.fnOf "_law_renamed_due" "_law_renamed_due" (defArgs sRenDue) (defBody sRenDue) (defScope sRenDue) .none kV20 dc20 pm20 an20 cd20 ct20), sl20⟩)
    (c20 : PySem.W.codeIn K cd20 "_law_renamed_due" = true)
    (k20 : PySem.W.keepIn K (.ref f20) = true)
    (a21 : PySem.W.nsIn K mainGlobals "_law_put" = some (some (.ref f21)))
    (l21 : K.lookup f21 = some ⟨oc21, od21, .func (PySem.W.fnOf "_law_put" "_law_put" (defArgs sLPut) (defBody sLPut) (defScope sLPut) .none kV21 dc21 pm21 an21 cd21 ct21), sl21⟩)
    (c21 : PySem.W.codeIn K cd21 "_law_put" = true)
    (k21 : PySem.W.keepIn K (.ref f21) = true)
    (a22 : PySem.W.nsIn K mainGlobals "_law_renamed" = some (some (.ref f22)))
    (l22 : K.lookup f22 = some ⟨oc22, od22, .func (PySem.W.fnOf "_law_renamed" "_law_renamed" (defArgs sLRen) (defBody sLRen) (defScope sLRen) .none kV22 dc22 pm22 an22 cd22 ct22), sl22⟩)
    (c22 : PySem.W.codeIn K cd22 "_law_renamed" = true)
    (k22 : PySem.W.keepIn K (.ref f22) = true)
    (a23 : PySem.W.nsIn K mainGlobals "_law_few" = some (some (.ref f23)))
    (l23 : K.lookup f23 = some ⟨oc23, od23, .func (PySem.W.fnOf "_law_few" "_law_few" (defArgs sFew) (defBody sFew) (defScope sFew) .none kV23 dc23 pm23 an23 cd23 ct23), sl23⟩)
    (c23 : PySem.W.codeIn K cd23 "_law_few" = true)
    (k23 : PySem.W.keepIn K (.ref f23) = true)
    (a24 : PySem.W.nsIn K mainGlobals "_law_call" = some (some (.ref f24)))
    (l24 : K.lookup f24 = some ⟨oc24, od24, .func (PySem.W.fnOf "_law_call" "_law_call" (defArgs sCall) (defBody sCall) (defScope sCall) .none kV24 dc24 pm24 an24 cd24 ct24), sl24⟩)
    (c24 : PySem.W.codeIn K cd24 "_law_call" = true)
    (k24 : PySem.W.keepIn K (.ref f24) = true)
    (a25 : PySem.W.nsIn K mainGlobals "law" = some (some (.ref f25)))
    (l25 : K.lookup f25 = some ⟨oc25, od25, .func (PySem.W.fnOf "law" "law" (defArgs sLaw) (defBody sLaw) (defScope sLaw) .none kV25 dc25 pm25 an25 cd25 ct25), sl25⟩)
    (c25 : PySem.W.codeIn K cd25 "law" = true)
    (k25 : PySem.W.keepIn K (.ref f25) = true)
    (a26 : PySem.W.nsIn K mainGlobals "is_name" = some (some (.ref f26)))
    (l26 : K.lookup f26 = some ⟨oc26, od26, .func (PySem.W.fnOf "is_name" "is_name" (defArgs sIsName) (defBody sIsName) (defScope sIsName) .none kV26 dc26 pm26 an26 cd26 ct26), sl26⟩)
    (c26 : PySem.W.codeIn K cd26 "is_name" = true)
    (k26 : PySem.W.keepIn K (.ref f26) = true)
    (a27 : PySem.W.nsIn K mainGlobals "value_size" = some (some (.ref f27)))
    (l27 : K.lookup f27 = some ⟨oc27, od27, .func (PySem.W.fnOf "value_size" "value_size" (defArgs sValueSize) (defBody sValueSize) (defScope sValueSize) .none kV27 dc27 pm27 an27 cd27 ct27), sl27⟩)
    (c27 : PySem.W.codeIn K cd27 "value_size" = true)
    (k27 : PySem.W.keepIn K (.ref f27) = true)
    (a28 : PySem.W.findIn K (.ref C) "__init__" = some (some (.ref f28)))
    (i28 : PySem.W.isFn K (.ref f28) = true)
    (j28 : PySem.W.fnIn K f28 = true)
    (l28 : K.lookup f28 = some ⟨oc28, od28, .func (PySem.W.fnOf "__init__" "Record.__init__" (defArgs sInit) (defBody sInit) (defScope sInit) .none kV28 dc28 pm28 an28 cd28 ct28), sl28⟩)
    (c28 : PySem.W.codeIn K cd28 "Record.__init__" = true)
    (k28 : PySem.W.keepIn K (.ref f28) = true)
    (a29 : PySem.W.findIn K (.ref C) "__contains__" = some (some (.ref f29)))
    (i29 : PySem.W.isFn K (.ref f29) = true)
    (j29 : PySem.W.fnIn K f29 = true)
    (l29 : K.lookup f29 = some ⟨oc29, od29, .func (PySem.W.fnOf "__contains__" "Record.__contains__" (defArgs sContains) (defBody sContains) (defScope sContains) .none kV29 dc29 pm29 an29 cd29 ct29), sl29⟩)
    (c29 : PySem.W.codeIn K cd29 "Record.__contains__" = true)
    (k29 : PySem.W.keepIn K (.ref f29) = true)
    (a30 : PySem.W.findIn K (.ref C) "__len__" = some (some (.ref f30)))
    (i30 : PySem.W.isFn K (.ref f30) = true)
    (j30 : PySem.W.fnIn K f30 = true)
    (l30 : K.lookup f30 = some ⟨oc30, od30, .func (PySem.W.fnOf "__len__" "Record.__len__" (defArgs sLen) (defBody sLen) (defScope sLen) .none kV30 dc30 pm30 an30 cd30 ct30), sl30⟩)
    (c30 : PySem.W.codeIn K cd30 "Record.__len__" = true)
    (k30 : PySem.W.keepIn K (.ref f30) = true)
    (a31 : PySem.W.findIn K (.ref C) "__getitem__" = some (some (.ref f31)))
    (i31 : PySem.W.isFn K (.ref f31) = true)
    (j31 : PySem.W.fnIn K f31 = true)
    (l31 : K.lookup f31 = some ⟨oc31, od31, .func (PySem.W.fnOf "__getitem__" "Record.__getitem__" (defArgs sGet) (defBody sGet) (defScope sGet) .none kV31 dc31 pm31 an31 cd31 ct31), sl31⟩)
    (c31 : PySem.W.codeIn K cd31 "Record.__getitem__" = true)
    (k31 : PySem.W.keepIn K (.ref f31) = true)
    (a32 : PySem.W.findIn K (.ref C) "put" = some (some (.ref f32)))
    (i32 : PySem.W.isFn K (.ref f32) = true)
    (j32 : PySem.W.fnIn K f32 = true)
    (l32 : K.lookup f32 = some ⟨oc32, od32, .func (PySem.W.fnOf "put" "Record.put" (defArgs sPut) (defBody sPut) (defScope sPut) .none kV32 dc32 pm32 an32 cd32 ct32), sl32⟩)
    (c32 : PySem.W.codeIn K cd32 "Record.put" = true)
    (k32 : PySem.W.keepIn K (.ref f32) = true)
    (a33 : PySem.W.findIn K (.ref C) "without" = some (some (.ref f33)))
    (i33 : PySem.W.isFn K (.ref f33) = true)
    (j33 : PySem.W.fnIn K f33 = true)
    (l33 : K.lookup f33 = some ⟨oc33, od33, .func (PySem.W.fnOf "without" "Record.without" (defArgs sWithout) (defBody sWithout) (defScope sWithout) .none kV33 dc33 pm33 an33 cd33 ct33), sl33⟩)
    (c33 : PySem.W.codeIn K cd33 "Record.without" = true)
    (k33 : PySem.W.keepIn K (.ref f33) = true)
    (a34 : PySem.W.findIn K (.ref C) "only" = some (some (.ref f34)))
    (i34 : PySem.W.isFn K (.ref f34) = true)
    (j34 : PySem.W.fnIn K f34 = true)
    (l34 : K.lookup f34 = some ⟨oc34, od34, .func (PySem.W.fnOf "only" "Record.only" (defArgs sOnly) (defBody sOnly) (defScope sOnly) .none kV34 dc34 pm34 an34 cd34 ct34), sl34⟩)
    (c34 : PySem.W.codeIn K cd34 "Record.only" = true)
    (k34 : PySem.W.keepIn K (.ref f34) = true)
    (a35 : PySem.W.findIn K (.ref C) "renamed" = some (some (.ref f35)))
    (i35 : PySem.W.isFn K (.ref f35) = true)
    (j35 : PySem.W.fnIn K f35 = true)
    (l35 : K.lookup f35 = some ⟨oc35, od35, .func (PySem.W.fnOf "renamed" "Record.renamed" (defArgs sRen) (defBody sRen) (defScope sRen) .none kV35 dc35 pm35 an35 cd35 ct35), sl35⟩)
    (c35 : PySem.W.codeIn K cd35 "Record.renamed" = true)
    (k35 : PySem.W.keepIn K (.ref f35) = true)
    (mrd : PySem.W.readsIn K C (.type "type") = true)
    (mga : PySem.W.specialIn K (.ref C) "__getattribute__" = some (some (.builtin "type.__getattribute__")))
    (a36 : PySem.W.findCls K (.ref C) (.type "type") "make" = some (.get (.builtin "staticmethod.__get__") (.ref pm) .none (.ref C)))
    (r36 : PySem.W.recIn K pm "staticmethod" = some (.ref f36 :: rest1))
    (l36 : K.lookup f36 = some ⟨oc36, od36, .func (PySem.W.fnOf "make" "Record.make" (defArgs sMake) (defBody sMake) (defScope sMake) .none kV36 dc36 pm36 an36 cd36 ct36), sl36⟩)
    (c36 : PySem.W.codeIn K cd36 "Record.make" = true)
    (k36 : PySem.W.keepIn K (.ref f36) = true)
    (a37 : PySem.W.findIn K (.ref C) "size" = some (some (.ref ps)))
    (g37 : PySem.W.specialIn K (.ref ps) "__get__" = some (some (.builtin "property.__get__")))
    (t37 : PySem.W.takesIn K (.ref ps) = some true)
    (r37 : PySem.W.recIn K ps "property" = some (.ref f37 :: rest2))
    (l37 : K.lookup f37 = some ⟨oc37, od37, .func (PySem.W.fnOf "size" "Record.size" (defArgs sSize) (defBody sSize) (defScope sSize) .none kV37 dc37 pm37 an37 cd37 ct37), sl37⟩)
    (c37 : PySem.W.codeIn K cd37 "Record.size" = true)
    (k37 : PySem.W.keepIn K (.ref f37) = true)
    (z_len : PySem.W.nsIn K mainGlobals "len" = some none)
    (z_int : PySem.W.nsIn K mainGlobals "int" = some none)
    (z_range : PySem.W.nsIn K mainGlobals "range" = some none)
    (z_isinstance : PySem.W.nsIn K mainGlobals "isinstance" = some none)
    (z_dict : PySem.W.nsIn K mainGlobals "dict" = some none)
    (z_tuple : PySem.W.nsIn K mainGlobals "tuple" = some none)
    (z_bool : PySem.W.nsIn K mainGlobals "bool" = some none)
    (z_list : PySem.W.nsIn K mainGlobals "list" = some none)
    (z_str : PySem.W.nsIn K mainGlobals "str" = some none)
    (z_sum : PySem.W.nsIn K mainGlobals "sum" = some none)
    (z_sorted : PySem.W.nsIn K mainGlobals "sorted" = some none)
    (z_all : PySem.W.nsIn K mainGlobals "all" = some none)
    (z_super : PySem.W.nsIn K mainGlobals "super" = some none)
    (z_ValueError : PySem.W.nsIn K mainGlobals "ValueError" = some none)
    (z_min : PySem.W.nsIn K mainGlobals "min" = some none) :
    ∃ fd : FuncData, (∀ (s : Shared) (v : Value), BindsTo s fd ⟨[v], []⟩ [("script", v)]) ∧ ∀ base : Heap, K.In base → base.Ns mainGlobals mg → FnOk l.prog w K mg base CX0 11 fa fd ["script"] (spLaw K) := by
  have cI1 : PySem.W.clsIn K C = some cdC := by
    unfold PySem.W.clsIn
    rw [cI]
  have kit : ∀ t : Value, ¬ (t = .ref C) → ∀ b, PySem.W.subIn K t (.ref C) = some b → PySem.W.kitOne K t (.ref C) = some b := fun t ht b hb => by
    unfold PySem.W.kitOne
    rw [if_neg (by simpa using ht)]
    show (if ((PySem.W.clsIn K C).isSome && PySem.W.typeIn K (.ref C) == some (.type "type")) = true then PySem.W.subIn K t (.ref C) else none) = some b
    rw [cI1, tI, if_pos (by simp)]
    exact hb
  have R : RecK K mg C := ⟨⟨pg, hd, po, sa⟩, nN, nF, nS, ha, hn, htk, hm, kit _ (by simp) _ sI, (by
    unfold PySem.W.kitOne
    rw [if_neg (by simp)]
    exact sD), (by
    unfold PySem.W.kitOne
    rw [if_pos (by simp)]), sI, sR, PySem.W.mg_of X G aC⟩
  have hL := PySem.W.mg_of X G gL
  have cR1 : PySem.W.clsIn K RE = some cdR := by
    unfold PySem.W.clsIn
    rw [lR]
  have kitR : ∀ t : Value, PySem.W.subIn K t (.ref RE) = some true → PySem.W.kitOne K t (.ref RE) = some true := fun t hb => by
    unfold PySem.W.kitOne
    split
    · rfl
    · show (if ((PySem.W.clsIn K RE).isSome && PySem.W.typeIn K (.ref RE) == some (.type "type")) = true then PySem.W.subIn K t (.ref RE) else none) = some true
      rw [cR1, tR, if_pos (by simp)]
      exact hb
  have OXB : OexC K CB := ⟨⟨_, _, _, _, _, _, _, _, _, _, _, _, _, _, _, cB, vB⟩, zB, bB, tB, kB⟩
  have bnB := (show Binds K (PySem.W.ksFn "__init__" "BadName.__init__" (defArgs sBadInit) (defBody sBadInit) (defScope sBadInit) .none kVB dcB pmB anB (.ref cdB) ctB ccB) ["self", "name"] [] from Binds.all fun us hl => match us, hl with | [_, _], _ => rfl)
  have ZB : ExK l.prog K mg "BadName" "BadName.__init__" sBadInit CB := ⟨OXB, ⟨fB, ccB, cdB, _, _, _, _, _, _, _, _, _, _, _, _, _, _, _, _, _, iB, yB, lB, dB, eB, wB, xB, oB, bnB⟩, PySem.W.mg_none_of X G z_super, PySem.W.mg_of X G aB, tpS, hoS, hmB, hBB, mB, nnB, PySem.W.exm_ref bB hdB tB ssB⟩
  have YB : ErK K mg CB RE := ⟨⟨gaB, ggB, bB, hdB⟩, ⟨gaB, ggB, bB, hdB, haB, hn, htk, moB⟩, PySem.W.mg_of X G aR, PySem.W.mg_none_of X G z_ValueError, kitR _ rB, (by
    unfold PySem.W.kitOne
    rw [if_neg (by simp)]
    show (if PySem.W.kitMeta "ValueError" = true then PySem.W.subIn K (.ref CB) (.type "ValueError") else none) = some true
    rw [if_pos (by decide +kernel)]
    exact hBB)⟩
  have OXN : OexC K CN := ⟨⟨_, _, _, _, _, _, _, _, _, _, _, _, _, _, _, cN, vN⟩, zN, bN, tN, kN⟩
  have bnN := (show Binds K (PySem.W.ksFn "__init__" "NoField.__init__" (defArgs sNoInit) (defBody sNoInit) (defScope sNoInit) .none kVN dcN pmN anN (.ref cdN) ctN ccN) ["self", "name"] [] from Binds.all fun us hl => match us, hl with | [_, _], _ => rfl)
  have ZN : ExK l.prog K mg "NoField" "NoField.__init__" sNoInit CN := ⟨OXN, ⟨fN, ccN, cdN, _, _, _, _, _, _, _, _, _, _, _, _, _, _, _, _, _, iN, yN, lN, dN, eN, wN, xN, oN, bnN⟩, PySem.W.mg_none_of X G z_super, PySem.W.mg_of X G aN, tpS, hoS, hmN, hBN, mN, nnN, PySem.W.exm_ref bN hdN tN ssN⟩
  have YN : ErK K mg CN RE := ⟨⟨gaN, ggN, bN, hdN⟩, ⟨gaN, ggN, bN, hdN, haN, hn, htk, moN⟩, PySem.W.mg_of X G aR, PySem.W.mg_none_of X G z_ValueError, kitR _ rN, (by
    unfold PySem.W.kitOne
    rw [if_neg (by simp)]
    show (if PySem.W.kitMeta "ValueError" = true then PySem.W.subIn K (.ref CN) (.type "ValueError") else none) = some true
    rw [if_pos (by decide +kernel)]
    exact hBN)⟩
  have OXT : OexC K CT := ⟨⟨_, _, _, _, _, _, _, _, _, _, _, _, _, _, _, cT, vT⟩, zT, bT, tT, kT⟩
  have bnT := (show Binds K (PySem.W.ksFn "__init__" "FieldThere.__init__" (defArgs sThInit) (defBody sThInit) (defScope sThInit) .none kVT dcT pmT anT (.ref cdT) ctT ccT) ["self", "name"] [] from Binds.all fun us hl => match us, hl with | [_, _], _ => rfl)
  have ZT : ExK l.prog K mg "FieldThere" "FieldThere.__init__" sThInit CT := ⟨OXT, ⟨fT, ccT, cdT, _, _, _, _, _, _, _, _, _, _, _, _, _, _, _, _, _, iT, yT, lT, dT, eT, wT, xT, oT, bnT⟩, PySem.W.mg_none_of X G z_super, PySem.W.mg_of X G aT, tpS, hoS, hmT, hBT, mT, nnT, PySem.W.exm_ref bT hdT tT ssT⟩
  have YT : ErK K mg CT RE := ⟨⟨gaT, ggT, bT, hdT⟩, ⟨gaT, ggT, bT, hdT, haT, hn, htk, moT⟩, PySem.W.mg_of X G aR, PySem.W.mg_none_of X G z_ValueError, kitR _ rT, (by
    unfold PySem.W.kitOne
    rw [if_neg (by simp)]
    show (if PySem.W.kitMeta "ValueError" = true then PySem.W.subIn K (.ref CT) (.type "ValueError") else none) = some true
    rw [if_pos (by decide +kernel)]
    exact hBT)⟩
  have F1 := fun_mk (st := sCell) l1 c1 k1
  have b1 := F1.binds (ps := ["script", "k"]) fun _ _ _ _ _ _ us hl => match us, hl with | [_, _], _ => rfl
  have D1 : Dfn K mg "_law_cell" sCell ["script", "k"] := ⟨_, _, PySem.W.mg_of X G a1, F1, b1⟩
  have F2 := fun_mk (st := sMixed) l2 c2 k2
  have b2 := F2.binds (ps := ["cell", "k"]) fun _ _ _ _ _ _ us hl => match us, hl with | [_, _], _ => rfl
  have D2 : Dfn K mg "_law_mixed" sMixed ["cell", "k"] := ⟨_, _, PySem.W.mg_of X G a2, F2, b2⟩
  have F3 := fun_mk (st := sTape) l3 c3 k3
  have b3 := F3.binds (ps := ["great", "lesser", "count"]) fun _ _ _ _ _ _ us hl => match us, hl with | [_, _, _], _ => rfl
  have D3 : Dfn K mg "_law_tape" sTape ["great", "lesser", "count"] := ⟨_, _, PySem.W.mg_of X G a3, F3, b3⟩
  have F4 := fun_mk (st := sTake) l4 c4 k4
  have b4 := F4.binds (ps := ["tape", "many"]) fun _ _ _ _ _ _ us hl => match us, hl with | [_, _], _ => rfl
  have D4 : Dfn K mg "_law_take" sTake ["tape", "many"] := ⟨_, _, PySem.W.mg_of X G a4, F4, b4⟩
  have F5 := fun_mk (st := sNumber) l5 c5 k5
  have b5 := F5.binds (ps := ["tape"]) fun _ _ _ _ _ _ us hl => match us, hl with | [_], _ => rfl
  have D5 : Dfn K mg "_law_number" sNumber ["tape"] := ⟨_, _, PySem.W.mg_of X G a5, F5, b5⟩
  have F6 := fun_mk (st := sWord) l6 c6 k6
  have b6 := F6.binds (ps := ["tape", "longest"]) fun _ _ _ _ _ _ us hl => match us, hl with | [_, _], _ => rfl
  have D6 : Dfn K mg "_law_word" sWord ["tape", "longest"] := ⟨_, _, PySem.W.mg_of X G a6, F6, b6⟩
  have F7 := fun_mk (st := sWords) l7 c7 k7
  have b7 := F7.binds (ps := ["tape", "many", "taken"]) fun _ _ _ _ _ _ us hl => match us, hl with | [_, _, _], _ => rfl
  have D7 : Dfn K mg "_law_words" sWords ["tape", "many", "taken"] := ⟨_, _, PySem.W.mg_of X G a7, F7, b7⟩
  have F8 := fun_mk (st := sPick) l8 c8 k8
  have b8 := F8.binds (ps := ["tape", "names"]) fun _ _ _ _ _ _ us hl => match us, hl with | [_, _], _ => rfl
  have D8 : Dfn K mg "_law_pick" sPick ["tape", "names"] := ⟨_, _, PySem.W.mg_of X G a8, F8, b8⟩
  have F9 := fun_mk (st := sLong) l9 c9 k9
  have b9 := F9.binds (ps := ["tape", "word"]) fun _ _ _ _ _ _ us hl => match us, hl with | [_, _], _ => rfl
  have D9 : Dfn K mg "_law_long" sLong ["tape", "word"] := ⟨_, _, PySem.W.mg_of X G a9, F9, b9⟩
  have F10 := fun_mk (st := sPool) l10 c10 k10
  have b10 := F10.binds (ps := ["tape", "many"]) fun _ _ _ _ _ _ us hl => match us, hl with | [_, _], _ => rfl
  have D10 : Dfn K mg "_law_pool" sPool ["tape", "many"] := ⟨_, _, PySem.W.mg_of X G a10, F10, b10⟩
  have F11 := fun_mk (st := sFields) l11 c11 k11
  have b11 := F11.binds (ps := ["tape", "names", "depth"]) fun _ _ _ _ _ _ us hl => match us, hl with | [_, _, _], _ => rfl
  have D11 : Dfn K mg "_law_fields" sFields ["tape", "names", "depth"] := ⟨_, _, PySem.W.mg_of X G a11, F11, b11⟩
  have F12 := fun_mk (st := sCount) l12 c12 k12
  have b12 := F12.binds (ps := ["value"]) fun _ _ _ _ _ _ us hl => match us, hl with | [_], _ => rfl
  have D12 : Dfn K mg "_law_count" sCount ["value"] := ⟨_, _, PySem.W.mg_of X G a12, F12, b12⟩
  have F13 := fun_mk (st := sSorted) l13 c13 k13
  have b13 := F13.binds (ps := ["names"]) fun _ _ _ _ _ _ us hl => match us, hl with | [_], _ => rfl
  have D13 : Dfn K mg "_law_sorted" sSorted ["names"] := ⟨_, _, PySem.W.mg_of X G a13, F13, b13⟩
  have F14 := fun_mk (st := sIsInt) l14 c14 k14
  have b14 := F14.binds (ps := ["found"]) fun _ _ _ _ _ _ us hl => match us, hl with | [_], _ => rfl
  have D14 : Dfn K mg "_law_is_integer" sIsInt ["found"] := ⟨_, _, PySem.W.mg_of X G a14, F14, b14⟩
  have F15 := fun_mk (st := sTold) l15 c15 k15
  have b15 := F15.binds (ps := ["record", "plain"]) fun _ _ _ _ _ _ us hl => match us, hl with | [_, _], _ => rfl
  have D15 : Dfn K mg "_law_told" sTold ["record", "plain"] := ⟨_, _, PySem.W.mg_of X G a15, F15, b15⟩
  have F16 := fun_mk (st := sNamed) l16 c16 k16
  have b16 := F16.binds (ps := ["tape", "names"]) fun _ _ _ _ _ _ us hl => match us, hl with | [_, _], _ => rfl
  have D16 : Dfn K mg "_law_named" sNamed ["tape", "names"] := ⟨_, _, PySem.W.mg_of X G a16, F16, b16⟩
  have F17 := fun_mk (st := sIsWd) l17 c17 k17
  have b17 := F17.binds (ps := ["word"]) fun _ _ _ _ _ _ us hl => match us, hl with | [_], _ => rfl
  have D17 : Dfn K mg "_law_is_word" sIsWd ["word"] := ⟨_, _, PySem.W.mg_of X G a17, F17, b17⟩
  have F18 := fun_mk (st := sLeft) l18 c18 k18
  have b18 := F18.binds (ps := ["fields", "names", "there"]) fun _ _ _ _ _ _ us hl => match us, hl with | [_, _, _], _ => rfl
  have D18 : Dfn K mg "_law_left" sLeft ["fields", "names", "there"] := ⟨_, _, PySem.W.mg_of X G a18, F18, b18⟩
  have F19 := fun_mk (st := sPutDue) l19 c19 k19
  have b19 := F19.binds (ps := ["fields", "name", "value"]) fun _ _ _ _ _ _ us hl => match us, hl with | [_, _, _], _ => rfl
  have D19 : Dfn K mg "_law_put_due" sPutDue ["fields", "name", "value"] := ⟨_, _, PySem.W.mg_of X G a19, F19, b19⟩
  have F20 := fun_mk (st := sRenDue) l20 c20 k20
  have b20 := F20.binds (ps := ["fields", "old", "new"]) fun _ _ _ _ _ _ us hl => match us, hl with | [_, _, _], _ => rfl
  have D20 : Dfn K mg "_law_renamed_due" sRenDue ["fields", "old", "new"] := ⟨_, _, PySem.W.mg_of X G a20, F20, b20⟩
  have F21 := fun_mk (st := sLPut) l21 c21 k21
  have b21 := F21.binds (ps := ["record", "name", "value"]) fun _ _ _ _ _ _ us hl => match us, hl with | [_, _, _], _ => rfl
  have D21 : Dfn K mg "_law_put" sLPut ["record", "name", "value"] := ⟨_, _, PySem.W.mg_of X G a21, F21, b21⟩
  have F22 := fun_mk (st := sLRen) l22 c22 k22
  have b22 := F22.binds (ps := ["record", "old", "new"]) fun _ _ _ _ _ _ us hl => match us, hl with | [_, _, _], _ => rfl
  have D22 : Dfn K mg "_law_renamed" sLRen ["record", "old", "new"] := ⟨_, _, PySem.W.mg_of X G a22, F22, b22⟩
  have F23 := fun_mk (st := sFew) l23 c23 k23
  have b23 := F23.binds (ps := ["record", "names", "there"]) fun _ _ _ _ _ _ us hl => match us, hl with | [_, _, _], _ => rfl
  have D23 : Dfn K mg "_law_few" sFew ["record", "names", "there"] := ⟨_, _, PySem.W.mg_of X G a23, F23, b23⟩
  have F24 := fun_mk (st := sCall) l24 c24 k24
  have b24 := F24.binds (ps := ["tape", "names", "record", "plain"]) fun _ _ _ _ _ _ us hl => match us, hl with | [_, _, _, _], _ => rfl
  have D24 : Dfn K mg "_law_call" sCall ["tape", "names", "record", "plain"] := ⟨_, _, PySem.W.mg_of X G a24, F24, b24⟩
  have F25 := fun_mk (st := sLaw) l25 c25 k25
  have b25 := F25.binds (ps := ["script"]) fun _ _ _ _ _ _ us hl => match us, hl with | [_], _ => rfl
  have F26 := fun_mk (st := sIsName) l26 c26 k26
  have b26 := F26.binds (ps := ["text"]) fun _ _ _ _ _ _ us hl => match us, hl with | [_], _ => rfl
  have D26 : Dfn K mg "is_name" sIsName ["text"] := ⟨_, _, PySem.W.mg_of X G a26, F26, b26⟩
  have F27 := fun_mk (st := sValueSize) l27 c27 k27
  have b27 := F27.binds (ps := ["value"]) fun _ _ _ _ _ _ us hl => match us, hl with | [_], _ => rfl
  have D27 : Dfn K mg "value_size" sValueSize ["value"] := ⟨_, _, PySem.W.mg_of X G a27, F27, b27⟩
  have F28 := fun_mk (st := sInit) l28 c28 k28
  have b28 := F28.binds (ps := ["self", "fields"]) fun _ _ _ _ _ _ us hl => match us, hl with | [_, _], _ => rfl
  have IN : InK K C := ⟨_, _, ⟨mk, a28, i28, kc⟩, F28, b28⟩
  have F29 := fun_mk (st := sContains) l29 c29 k29
  have b29 := F29.binds (ps := ["self", "name"]) fun _ _ _ _ _ _ us hl => match us, hl with | [_, _], _ => rfl
  have D29 : DfM K C "__contains__" "Record.__contains__" sContains ["self", "name"] := ⟨_, _, ⟨a29, i29⟩, j29, F29, b29⟩
  have F30 := fun_mk (st := sLen) l30 c30 k30
  have b30 := F30.binds (ps := ["self"]) fun _ _ _ _ _ _ us hl => match us, hl with | [_], _ => rfl
  have D30 : DfM K C "__len__" "Record.__len__" sLen ["self"] := ⟨_, _, ⟨a30, i30⟩, j30, F30, b30⟩
  have F31 := fun_mk (st := sGet) l31 c31 k31
  have b31 := F31.binds (ps := ["self", "name"]) fun _ _ _ _ _ _ us hl => match us, hl with | [_, _], _ => rfl
  have D31 : DfM K C "__getitem__" "Record.__getitem__" sGet ["self", "name"] := ⟨_, _, ⟨a31, i31⟩, j31, F31, b31⟩
  have F32 := fun_mk (st := sPut) l32 c32 k32
  have b32 := F32.binds (ps := ["self", "name", "value"]) fun _ _ _ _ _ _ us hl => match us, hl with | [_, _, _], _ => rfl
  have F33 := fun_mk (st := sWithout) l33 c33 k33
  have F34 := fun_mk (st := sOnly) l34 c34 k34
  have F35 := fun_mk (st := sRen) l35 c35 k35
  have b35 := F35.binds (ps := ["self", "old", "new"]) fun _ _ _ _ _ _ us hl => match us, hl with | [_, _, _], _ => rfl
  have F36 := fun_mk (st := sMake) l36 c36 k36
  have b36 := F36.binds (ps := ["fields"]) fun _ _ _ _ _ _ us hl => match us, hl with | [_], _ => rfl
  have mD : SMet K C (.type "type") "make" pm f36 := ⟨⟨mrd, mga⟩, a36, ⟨_, r36⟩, k36⟩
  have DM : StK K C := ⟨_, _, _, mD, F36, b36⟩
  have F37 := fun_mk (st := sSize) l37 c37 k37
  have b37 := F37.binds (ps := ["self"]) fun _ _ _ _ _ _ us hl => match us, hl with | [_], _ => rfl
  have PR : PrK K C := ⟨_, _, _, ⟨a37, g37, t37, ⟨_, r37⟩⟩, F37, b37⟩
  have T : Bu mg := { b_len := PySem.W.mg_none_of X G z_len, b_int := PySem.W.mg_none_of X G z_int, b_range := PySem.W.mg_none_of X G z_range, b_isinstance := PySem.W.mg_none_of X G z_isinstance, b_dict := PySem.W.mg_none_of X G z_dict, b_tuple := PySem.W.mg_none_of X G z_tuple, b_bool := PySem.W.mg_none_of X G z_bool, b_list := PySem.W.mg_none_of X G z_list, b_str := PySem.W.mg_none_of X G z_str, b_sum := PySem.W.mg_none_of X G z_sum, b_sorted := PySem.W.mg_none_of X G z_sorted }
  refine ⟨PySem.W.fnOf "law" "law" (defArgs sLaw) (defBody sLaw) (defScope sLaw) .none kV25 dc25 pm25 an25 cd25 ct25, fun s v => .of_eq rfl, fun base _ _ => ?_⟩
  have XB : ErX K mg CB RE := ⟨YB.xf, YB.ex, YB.kR⟩
  have XN : ErX K mg CN RE := ⟨YN.xf, YN.ex, YN.kR⟩
  have XT : ErX K mg CT RE := ⟨YT.xf, YT.ex, YT.kR⟩
  have mgR := PySem.W.mg_of X G aR
  have p_cell := c_cell (P := l.prog) (w := w) (base := base) T.toBt D1
  have p_mixed := c_mixed (P := l.prog) (w := w) (base := base) T.toBt D2
  have p_tape := c_tape T.toBt D3 p_mixed
  have p_take := c_take (P := l.prog) (w := w) (base := base) T.toBt D4
  have p_number := c_number T.toBt D5 p_take
  have p_word := c_word T.toBt D6 p_take
  have p_words := c_words T.toBt D7 p_word
  have p_long := c_long T.toBt D9 p_take
  have p_pool := c_pool T.toBt D10 p_words p_long
  have p_fields := c_fields T.toBt D11 p_take p_number
  have p_pick := c_pick T D8 p_take
  have p_sorted := c_sorted (P := l.prog) (w := w) (base := base) T D13
  have p_isint := c_is_integer (P := l.prog) (w := w) (base := base) T D14
  have p_contains := m_contains (P := l.prog) (w := w) (base := base) R D29
  have p_len := m_len (P := l.prog) (w := w) (base := base) T.toBt R D30
  have p_get := m_get (P := l.prog) (w := w) (base := base) R D31
  have p_vs := c_value_size (P := l.prog) (w := w) (base := base) T R PR D27
  have p_name := c_is_name (P := l.prog) (w := w) (base := base) T (PySem.W.mg_none_of X G z_all) hL D26
  have p_iw := c_is_word (P := l.prog) (w := w) (base := base) T (PySem.W.mg_none_of X G z_all) hL D26
  have p_told := c_told T R PR p_len p_contains p_get p_isint p_sorted D15 D12
  have p_make := s_make T R DM IN p_vs p_name
  have p_put : MthK l.prog w K mg base (L2.CX l.prog w) C 7 "put" (spPut C CB 1) := ⟨_, _, _, fn_put T R IN p_vs p_iw ZB 1 F32, ⟨a32, i32, k32⟩, b32⟩
  have p_without : MthR l.prog w K mg base CX0 C 6 "without" (spFew C 1 false) := ⟨_, fn_without T R IN p_vs 1 F33, ⟨a33, i33, k33⟩⟩
  have p_only : MthR l.prog w K mg base CX0 C 6 "only" (spFew C 1 true) := ⟨_, fn_only T R IN p_vs 1 F34, ⟨a34, i34, k34⟩⟩
  have p_ren : MthK l.prog w K mg base (L2.CX l.prog w) C 8 "renamed" (spRen C CN CB CT 1) := ⟨_, _, _, fn_renamed T R p_iw ZN ZB ZT 1 p_contains p_without p_put F35, ⟨a35, i35, k35⟩, b35⟩
  have p_named := c_named T D16 p_take p_pick
  have p_iswd := c_iswd (P := l.prog) (w := w) (base := base) T D17
  have p_left := c_left (P := l.prog) (w := w) (base := base) T D18
  have p_putdue := c_putdue T D19 p_iswd p_left
  have p_rendue := c_rendue T D20 p_iswd p_left
  have p_lput := c_lput T ZB XB mgR R p_put D21
  have p_lren := c_lren T ZN XN ZB XB ZT XT (PySem.W.exm_ref bN hdN tN nBN) (PySem.W.exm_ref bN hdN tN nTN) (PySem.W.exm_ref bB hdB tB nTB) mgR R p_ren D22
  have p_few := c_few T R p_without p_only D23
  have p_call := c_call T R p_take p_named (p_fields 0) (p_make 0) p_lput p_putdue p_lren p_rendue p_few p_left D24
  have hf := hfa.symm.trans (PySem.W.mg_of X G a25)
  cases hf
  exact fn_law T (PySem.W.mg_none_of X G z_min) R p_cell p_tape p_take p_pool (p_fields 1) (p_make 1) p_call (p_told 2) F25
theorem walk {l : PySem.W.OpenLaw} {q : Program} {loose : List Str} {XP : (Str → Option Value) → Heap → Prop} {YP : World → Heap → Prop} {d : DefRec} {K : Params → PySem.W.Frag} (hn : l.most = some 63) (hdf : d.params.defaults = [])
    (hY : ∀ (w : World) (h : Heap), YP w h → (K w.params).In h)
    (F : ∀ (w : World) (mg : Str → Option Value) (fa : Addr) (h : Heap), (K w.params).In h → h.Ns mainGlobals mg → mg d.name = some (.ref fa) →
      ∃ fd : FuncData, (∀ (s : Shared) (u : Value), BindsTo s fd ⟨[u], []⟩ [("script", u)]) ∧ ∀ base : Heap, (K w.params).In base → base.Ns mainGlobals mg → FnOk l.prog w (K w.params) mg base CX0 11 fa fd ["script"] (spLaw (K w.params))) :
    PySem.W.WalkO q loose XP YP l.row.toRowW d [] (fun f vs => PySem.call f vs) :=
  L2.walk_of (n := 63) (k := 11) (x := "script") (CX := fun _ => CX0) (sp := fun w => spLaw (K w.params)) hn (by decide) hdf ⟨rfl, by decide, by decide⟩ hY F (fun _ _ a ns hl _ hS => ⟨a, ns, rfl, hS, hl, fun _ => rfl⟩) fun _ _ _ _ _ z => z
end Lw
open PySem PySem.W PyProof.Rows
set_option maxRecDepth 100000 in
set_option maxHeartbeats 0 in
theorem PySem.Challenge.cw_growingrecords_k05_fields_changed_holds : PySem.Challenge.rw_growingrecords_k05_fields_changed.Holds := by
  w_on; o_law; k_head; (case hw => w_witness2)
  k_fill
  refine Lw.walk (l := PySem.Challenge.rw_growingrecords_k05_fields_changed) rfl rfl (fun w h Y => PySem.W.kIn_of Y) ?F
  case F =>
    intro w mg fa h KX G hmg
    refine' Lw.all_mk KX G hmg ?aC ?pg ?hd ?po ?sa ?mk ?kc ?nN ?nF ?nS ?ha ?hn ?htk ?hm ?cI ?tI ?sD ?sI ?sR ?gL ?sf ?aR ?lR ?tR ?hoS ?tpS ?aB ?cB ?vB ?zB ?bB ?tB ?kB ?iB ?yB ?lB ?dB ?eB ?wB ?xB ?oB ?hmB ?hBB ?mB ?nnB ?ssB ?hdB ?gaB ?ggB ?haB ?moB ?rB ?aN ?cN ?vN ?zN ?bN ?tN ?kN ?iN ?yN ?lN ?dN ?eN ?wN ?xN ?oN ?hmN ?hBN ?mN ?nnN ?ssN ?hdN ?gaN ?ggN ?haN ?moN ?rN ?aT ?cT ?vT ?zT ?bT ?tT ?kT ?iT ?yT ?lT ?dT ?eT ?wT ?xT ?oT ?hmT ?hBT ?mT ?nnT ?ssT ?hdT ?gaT ?ggT ?haT ?moT ?rT ?nBN ?nTN ?nTB ?a1 ?l1 ?c1 ?k1 ?a2 ?l2 ?c2 ?k2 ?a3 ?l3 ?c3 ?k3 ?a4 ?l4 ?c4 ?k4 ?a5 ?l5 ?c5 ?k5 ?a6 ?l6 ?c6 ?k6 ?a7 ?l7 ?c7 ?k7 ?a8 ?l8 ?c8 ?k8 ?a9 ?l9 ?c9 ?k9 ?a10 ?l10 ?c10 ?k10 ?a11 ?l11 ?c11 ?k11 ?a12 ?l12 ?c12 ?k12 ?a13 ?l13 ?c13 ?k13 ?a14 ?l14 ?c14 ?k14 ?a15 ?l15 ?c15 ?k15 ?a16 ?l16 ?c16 ?k16 ?a17 ?l17 ?c17 ?k17 ?a18 ?l18 ?c18 ?k18 ?a19 ?l19 ?c19 ?k19 ?a20 ?l20 ?c20 ?k20 ?a21 ?l21 ?c21 ?k21 ?a22 ?l22 ?c22 ?k22 ?a23 ?l23 ?c23 ?k23 ?a24 ?l24 ?c24 ?k24 ?a25 ?l25 ?c25 ?k25 ?a26 ?l26 ?c26 ?k26 ?a27 ?l27 ?c27 ?k27 ?a28 ?i28 ?j28 ?l28 ?c28 ?k28 ?a29 ?i29 ?j29 ?l29 ?c29 ?k29 ?a30 ?i30 ?j30 ?l30 ?c30 ?k30 ?a31 ?i31 ?j31 ?l31 ?c31 ?k31 ?a32 ?i32 ?j32 ?l32 ?c32 ?k32 ?a33 ?i33 ?j33 ?l33 ?c33 ?k33 ?a34 ?i34 ?j34 ?l34 ?c34 ?k34 ?a35 ?i35 ?j35 ?l35 ?c35 ?k35 ?mrd ?mga ?a36 ?r36 ?l36 ?c36 ?k36 ?a37 ?g37 ?t37 ?r37 ?l37 ?c37 ?k37 ?z_len ?z_int ?z_range ?z_isinstance ?z_dict ?z_tuple ?z_bool ?z_list ?z_str ?z_sum ?z_sorted ?z_all ?z_super ?z_ValueError ?z_min
    (case aC => k_is)
    (case pg => k_is)
    (case hd => k_is)
    (case po => k_is)
    (case sa => k_is)
    (case mk => k_is)
    (case kc => k_is)
    (case nN => k_is)
    (case nF => k_is)
    (case nS => k_is)
    (case ha => k_is)
    (case hn => k_is)
    (case htk => k_is)
    (case hm => k_is)
    (case cI => k_is)
    (case tI => k_is)
    (case sD => k_is)
    (case sI => k_is)
    (case sR => k_is)
    (case gL => k_is)
    (case sf => k_is)
    (case aR => k_is)
    (case lR => k_is)
    (case tR => k_is)
    (case hoS => k_is)
    (case tpS => first | rfl | decide +kernel)
    (case aB => k_is)
    (case cB => k_is)
    (case vB => first | rfl | decide +kernel)
    (case zB => k_is)
    (case bB => k_is)
    (case tB => k_is)
    (case kB => k_is)
    (case iB => k_is)
    (case yB => k_is)
    (case lB => k_is)
    (case dB => k_is)
    (case eB => k_is)
    (case wB => rfl)
    (case xB => first | rfl | decide +kernel)
    (case oB => k_is)
    (case hmB => first | ks_is | k_is | rfl)
    (case hBB => k_is)
    (case mB => k_is)
    (case nnB => k_is)
    (case ssB => k_is)
    (case hdB => k_is)
    (case gaB => k_is)
    (case ggB => k_is)
    (case haB => k_is)
    (case moB => k_is)
    (case rB => k_is)
    (case aN => k_is)
    (case cN => k_is)
    (case vN => first | rfl | decide +kernel)
    (case zN => k_is)
    (case bN => k_is)
    (case tN => k_is)
    (case kN => k_is)
    (case iN => k_is)
    (case yN => k_is)
    (case lN => k_is)
    (case dN => k_is)
    (case eN => k_is)
    (case wN => rfl)
    (case xN => first | rfl | decide +kernel)
    (case oN => k_is)
    (case hmN => first | ks_is | k_is | rfl)
    (case hBN => k_is)
    (case mN => k_is)
    (case nnN => k_is)
    (case ssN => k_is)
    (case hdN => k_is)
    (case gaN => k_is)
    (case ggN => k_is)
    (case haN => k_is)
    (case moN => k_is)
    (case rN => k_is)
    (case aT => k_is)
    (case cT => k_is)
    (case vT => first | rfl | decide +kernel)
    (case zT => k_is)
    (case bT => k_is)
    (case tT => k_is)
    (case kT => k_is)
    (case iT => k_is)
    (case yT => k_is)
    (case lT => k_is)
    (case dT => k_is)
    (case eT => k_is)
    (case wT => rfl)
    (case xT => first | rfl | decide +kernel)
    (case oT => k_is)
    (case hmT => first | ks_is | k_is | rfl)
    (case hBT => k_is)
    (case mT => k_is)
    (case nnT => k_is)
    (case ssT => k_is)
    (case hdT => k_is)
    (case gaT => k_is)
    (case ggT => k_is)
    (case haT => k_is)
    (case moT => k_is)
    (case rT => k_is)
    (case nBN => k_is)
    (case nTN => k_is)
    (case nTB => k_is)
    (case a1 => k_is)
    (case l1 => k_is)
    (case c1 => k_is)
    (case k1 => k_is)
    (case a2 => k_is)
    (case l2 => k_is)
    (case c2 => k_is)
    (case k2 => k_is)
    (case a3 => k_is)
    (case l3 => k_is)
    (case c3 => k_is)
    (case k3 => k_is)
    (case a4 => k_is)
    (case l4 => k_is)
    (case c4 => k_is)
    (case k4 => k_is)
    (case a5 => k_is)
    (case l5 => k_is)
    (case c5 => k_is)
    (case k5 => k_is)
    (case a6 => k_is)
    (case l6 => k_is)
    (case c6 => k_is)
    (case k6 => k_is)
    (case a7 => k_is)
    (case l7 => k_is)
    (case c7 => k_is)
    (case k7 => k_is)
    (case a8 => k_is)
    (case l8 => k_is)
    (case c8 => k_is)
    (case k8 => k_is)
    (case a9 => k_is)
    (case l9 => k_is)
    (case c9 => k_is)
    (case k9 => k_is)
    (case a10 => k_is)
    (case l10 => k_is)
    (case c10 => k_is)
    (case k10 => k_is)
    (case a11 => k_is)
    (case l11 => k_is)
    (case c11 => k_is)
    (case k11 => k_is)
    (case a12 => k_is)
    (case l12 => k_is)
    (case c12 => k_is)
    (case k12 => k_is)
    (case a13 => k_is)
    (case l13 => k_is)
    (case c13 => k_is)
    (case k13 => k_is)
    (case a14 => k_is)
    (case l14 => k_is)
    (case c14 => k_is)
    (case k14 => k_is)
    (case a15 => k_is)
    (case l15 => k_is)
    (case c15 => k_is)
    (case k15 => k_is)
    (case a16 => k_is)
    (case l16 => k_is)
    (case c16 => k_is)
    (case k16 => k_is)
    (case a17 => k_is)
    (case l17 => k_is)
    (case c17 => k_is)
    (case k17 => k_is)
    (case a18 => k_is)
    (case l18 => k_is)
    (case c18 => k_is)
    (case k18 => k_is)
    (case a19 => k_is)
    (case l19 => k_is)
    (case c19 => k_is)
    (case k19 => k_is)
    (case a20 => k_is)
    (case l20 => k_is)
    (case c20 => k_is)
    (case k20 => k_is)
    (case a21 => k_is)
    (case l21 => k_is)
    (case c21 => k_is)
    (case k21 => k_is)
    (case a22 => k_is)
    (case l22 => k_is)
    (case c22 => k_is)
    (case k22 => k_is)
    (case a23 => k_is)
    (case l23 => k_is)
    (case c23 => k_is)
    (case k23 => k_is)
    (case a24 => k_is)
    (case l24 => k_is)
    (case c24 => k_is)
    (case k24 => k_is)
    (case a25 => k_is)
    (case l25 => k_is)
    (case c25 => k_is)
    (case k25 => k_is)
    (case a26 => k_is)
    (case l26 => k_is)
    (case c26 => k_is)
    (case k26 => k_is)
    (case a27 => k_is)
    (case l27 => k_is)
    (case c27 => k_is)
    (case k27 => k_is)
    (case a28 => k_is)
    (case i28 => k_is)
    (case j28 => k_is)
    (case l28 => k_is)
    (case c28 => k_is)
    (case k28 => k_is)
    (case a29 => k_is)
    (case i29 => k_is)
    (case j29 => k_is)
    (case l29 => k_is)
    (case c29 => k_is)
    (case k29 => k_is)
    (case a30 => k_is)
    (case i30 => k_is)
    (case j30 => k_is)
    (case l30 => k_is)
    (case c30 => k_is)
    (case k30 => k_is)
    (case a31 => k_is)
    (case i31 => k_is)
    (case j31 => k_is)
    (case l31 => k_is)
    (case c31 => k_is)
    (case k31 => k_is)
    (case a32 => k_is)
    (case i32 => k_is)
    (case j32 => k_is)
    (case l32 => k_is)
    (case c32 => k_is)
    (case k32 => k_is)
    (case a33 => k_is)
    (case i33 => k_is)
    (case j33 => k_is)
    (case l33 => k_is)
    (case c33 => k_is)
    (case k33 => k_is)
    (case a34 => k_is)
    (case i34 => k_is)
    (case j34 => k_is)
    (case l34 => k_is)
    (case c34 => k_is)
    (case k34 => k_is)
    (case a35 => k_is)
    (case i35 => k_is)
    (case j35 => k_is)
    (case l35 => k_is)
    (case c35 => k_is)
    (case k35 => k_is)
    (case mrd => k_is)
    (case mga => k_is)
    (case a36 => k_is)
    (case r36 => k_is)
    (case l36 => k_is)
    (case c36 => k_is)
    (case k36 => k_is)
    (case a37 => k_is)
    (case g37 => k_is)
    (case t37 => k_is)
    (case r37 => k_is)
    (case l37 => k_is)
    (case c37 => k_is)
    (case k37 => k_is)
    (case z_len => k_is)
    (case z_int => k_is)
    (case z_range => k_is)
    (case z_isinstance => k_is)
    (case z_dict => k_is)
    (case z_tuple => k_is)
    (case z_bool => k_is)
    (case z_list => k_is)
    (case z_str => k_is)
    (case z_sum => k_is)
    (case z_sorted => k_is)
    (case z_all => k_is)
    (case z_super => k_is)
    (case z_ValueError => k_is)
    (case z_min => k_is)
