import PyProof.Rows.All
import Wide.All
import OpenK.AllK
import Wide.FinOn
import HandS.ForMost
import HandS.OwnEq
import HandS.IterVal
import HandS.ClsMeth
import HandS.IsInst
import HandS.Codes
import HandS.Walk
import HandS.Iter
import HandS.RaiseMore
import HandS.DictComp
import HandS.Property
import HandS.WordsDict
import HandS.IterNext
import HandS.GenBody
import HandS.GenYield
import HandS.GenCall
import HandS.GenList
import HandS.Words
import HandS.Star
import HandS.Text
import HandS.More
import KE.KExcSuper
import HandS.Nested
import HandS.ExcInit
import PyProof.StrLawsRepr
import HandS.FStr
import HandS.ExcField
import HandS.ExcIs
import HandS.WordsExc
import HandS.ForExc
import HandS.ExcOwn
import KE.KExcIs
import HandS.MethStar
import KE.KEqDict
import HandS.DictEq
import HandS.Dict
import HandS.Sort
import PyProof.InstEq
import HandS.AnyAll
import PyProof.Rows.Range3
import HandS.Finally
import PyProof.EqAt
import HandS.TryOnly
import PySem.Challenge.RW_growingrecords_k09_records_stay
set_option Elab.async false
set_option linter.all false
set_option maxRecDepth 100000
set_option maxHeartbeats 4000000
/-! Values of the law as plain data: an int, or fields by name; how dicts and records of the heap bear them. -/
namespace GrT
open PySem L2
/-- a value: an int, or fields in their order -/
inductive T where
  | int (i : Int)
  | fds (fs : List (Str × T))
/-! ### lists by name -/
section
variable {α β : Type}
def look (x : Str) : List (Str × α) → Option α
  | [] => none
  | (z, w) :: r => if z = x then some w else look x r
def put (x : Str) (y : α) : List (Str × α) → List (Str × α)
  | [] => [(x, y)]
  | (z, w) :: r => if z = x then (x, y) :: r else (z, w) :: put x y r
abbrev names (l : List (Str × α)) : List Str := l.map (·.1)
theorem look_mem {x : Str} {w : α} : ∀ {l : List (Str × α)}, look x l = some w → (x, w) ∈ l
  | (z, y) :: r, h => by
    unfold look at h
    split at h
    · rename_i e
      subst e
      cases h
      exact List.mem_cons_self
    · exact List.mem_cons_of_mem _ (look_mem h)
theorem look_none {x : Str} : ∀ {l : List (Str × α)}, look x l = none ↔ x ∉ names l
  | [] => by simp [look, names]
  | (z, y) :: r => by
    unfold look
    by_cases e : z = x
    · subst e
      simp
    · rw [if_neg e, look_none (l := r)]
      simp only [names, List.map_cons, List.mem_cons, not_or]
      exact ⟨fun h => ⟨fun q => e q.symm, h⟩, fun h => h.2⟩
theorem look_some {x : Str} {l : List (Str × α)} (h : x ∈ names l) : ∃ w, look x l = some w := by
  cases e : look x l with
  | some w => exact ⟨w, rfl⟩
  | none => exact absurd h (look_none.mp e)
theorem mem_look {x : Str} {w : α} : ∀ {l : List (Str × α)}, (names l).Nodup → (x, w) ∈ l → look x l = some w
  | (z, y) :: r, nd, h => by
    have nd' := List.nodup_cons.mp nd
    rcases List.mem_cons.mp h with e | e
    · cases e
      unfold look
      rw [if_pos rfl]
    · have hz : z ≠ x := fun q => nd'.1 (by rw [q]; exact List.mem_map.mpr ⟨_, e, rfl⟩)
      unfold look
      rw [if_neg hz]
      exact mem_look nd'.2 e
theorem names_put {x : Str} {y : α} : ∀ {l : List (Str × α)}, names (put x y l) = if x ∈ names l then names l else names l ++ [x]
  | [] => by simp [put, names]
  | (z, w) :: r => by
    unfold put
    by_cases e : z = x
    · subst e
      simp
    · have ih := names_put (x := x) (y := y) (l := r)
      rw [if_neg e]
      have hm : (x ∈ names ((z, w) :: r)) = (x ∈ names r) := by
        simp only [names, List.map_cons, List.mem_cons, eq_iff_iff]
        exact ⟨fun h => h.elim (fun q => absurd q.symm e) id, .inr⟩
      show z :: names (put x y r) = _
      rw [ih]
      simp only [hm]
      split <;> rfl
theorem nodup_put {x : Str} {y : α} {l : List (Str × α)} (h : (names l).Nodup) : (names (put x y l)).Nodup := by
  rw [names_put]
  split
  · exact h
  · rename_i q
    refine List.nodup_append.mpr ⟨h, by simp, fun a ha b hb => ?_⟩
    simp at hb
    subst hb
    exact fun e => q (e ▸ ha)
theorem length_put {x : Str} {y : α} {l : List (Str × α)} : (put x y l).length ≤ l.length + 1 := by
  have e : (names (put x y l)).length = (put x y l).length := List.length_map _
  rw [← e, names_put]
  split
  · simp
  · simp
theorem mem_put {x : Str} {y : α} : ∀ {l : List (Str × α)} {p}, p ∈ put x y l → p = (x, y) ∨ p ∈ l
  | [], p, h => by
    simp [put] at h
    exact .inl h
  | (z, w) :: r, p, h => by
    unfold put at h
    split at h
    · rcases List.mem_cons.mp h with q | q
      · exact .inl q
      · exact .inr (List.mem_cons_of_mem _ q)
    · rcases List.mem_cons.mp h with q | q
      · exact .inr (q ▸ List.mem_cons_self)
      · rcases mem_put q with q | q
        · exact .inl q
        · exact .inr (List.mem_cons_of_mem _ q)
theorem look_put {x z : Str} {y : α} : ∀ {l : List (Str × α)}, look z (put x y l) = if z = x then some y else look z l
  | [] => by
    simp only [put, look]
    by_cases e : z = x
    · subst e
      simp
    · rw [if_neg (fun q => e q.symm), if_neg e]
  | (u, w) :: r => by
    unfold put
    by_cases e : u = x
    · subst e
      rw [if_pos rfl]
      simp only [look]
      by_cases q : u = z
      · subst q
        simp
      · rw [if_neg q, if_neg (fun h => q h.symm), if_neg q]
    · rw [if_neg e]
      simp only [look]
      by_cases q : u = z
      · subst q
        rw [if_pos rfl, if_neg e, if_pos rfl]
      · rw [if_neg q, look_put, if_neg q]
end
/-! ### the dict that bears such a list -/
def dk (l : List (Str × V)) : List (Key × V) := l.map fun p => (Sum.inr p.1, p.2)
theorem dk_len (l : List (Str × V)) : (dk l).length = l.length := List.length_map _
theorem dk_val (x : Str) : ∀ l : List (Str × V), valV (dk l) (Sum.inr x : Key) = look x l
  | [] => rfl
  | (z, w) :: r => by
    show valV ((Sum.inr z, w) :: dk r) (Sum.inr x : Key) = if z = x then some w else look x r
    by_cases e : z = x
    · subst e
      rw [if_pos rfl, valV_pos rfl]
    · rw [if_neg e, valV_neg (fun q => e (Sum.inr.inj q)), dk_val x r]
theorem dk_put (x : Str) (y : V) : ∀ l : List (Str × V), (names l).Nodup → putK (dk l) (Sum.inr x : Key) y = dk (put x y l) := by
  intro l nd
  cases e : look x l with
  | none =>
    have h0 : valV (dk l) (Sum.inr x : Key) = none := by rw [dk_val, e]
    rw [putK_new _ h0]
    have hp : ∀ l : List (Str × V), look x l = none → put x y l = l ++ [(x, y)] := by
      intro l
      induction l with
      | nil => intro _; rfl
      | cons p r ih =>
        obtain ⟨z, w⟩ := p
        intro h
        unfold look at h
        split at h
        · cases h
        · rename_i q
          unfold put
          rw [if_neg q, ih h]
          rfl
    rw [hp l e]
    simp [dk]
  | some w =>
    have h1 : (dk l).any (fun kv => decide (kv.1 = (Sum.inr x : Key))) = true := by rw [valV_any, dk_val, e]; rfl
    unfold putK
    rw [if_pos h1]
    clear h1
    induction l with
    | nil => cases e
    | cons p r ih =>
      obtain ⟨z, u⟩ := p
      have nd' := List.nodup_cons.mp nd
      unfold look at e
      unfold put
      by_cases q : z = x
      · subst q
        rw [if_pos rfl]
        have hr : ∀ r : List (Str × V), z ∉ names r → (dk r).map (fun kv => if kv.1 = (Sum.inr z : Key) then (kv.1, y) else kv) = dk r := by
          intro r
          induction r with
          | nil => intro _; rfl
          | cons p r ih =>
            obtain ⟨a, b⟩ := p
            intro h
            have h' : z ≠ a ∧ z ∉ names r := by simpa [names] using h
            show (if (Sum.inr a : Key) = Sum.inr z then ((Sum.inr a : Key), y) else (Sum.inr a, b)) :: (dk r).map _ = (Sum.inr a, b) :: dk r
            rw [if_neg (fun q => h'.1 (Sum.inr.inj q).symm), ih h'.2]
        show (if (Sum.inr z : Key) = Sum.inr z then ((Sum.inr z : Key), y) else (Sum.inr z, u)) :: (dk r).map _ = (Sum.inr z, y) :: dk r
        rw [if_pos rfl, hr r nd'.1]
      · rw [if_neg q] at e
        rw [if_neg q]
        show (if (Sum.inr z : Key) = Sum.inr x then ((Sum.inr z : Key), y) else (Sum.inr z, u)) :: (dk r).map _ = (Sum.inr z, u) :: dk (put x y r)
        rw [if_neg (fun h => q (Sum.inr.inj h)), ih nd'.2 e]
/-! ### two lists by name, alike by R -/
def Al (R : V → T → Prop) : List (Str × V) → List (Str × T) → Prop := Paired fun p q => p.1 = q.1 ∧ R p.2 q.2
section
variable {R S : V → T → Prop} {l : List (Str × V)} {fs : List (Str × T)}
theorem Al.imp (h : Al R l fs) (f : ∀ p ∈ fs, ∀ v, R v p.2 → S v p.2) : Al S l fs := by
  induction h with
  | nil => exact .nil
  | @cons p q l fs r t ih => exact .cons ⟨r.1, f _ List.mem_cons_self _ r.2⟩ (ih fun p hp => f p (List.mem_cons_of_mem _ hp))
theorem Al.names (h : Al R l fs) : names l = names fs := by
  induction h with
  | nil => rfl
  | @cons p q l fs r t ih =>
    show p.1 :: GrT.names l = q.1 :: GrT.names fs
    rw [r.1, ih]
theorem Al.len (h : Al R l fs) : l.length = fs.length := Paired.length h
theorem Al.get (h : Al R l fs) {x : Str} {t : T} (e : look x fs = some t) : ∃ v, look x l = some v ∧ R v t := by
  induction h with
  | nil => cases e
  | @cons p q l fs r t' ih =>
    obtain ⟨z, v⟩ := p
    obtain ⟨z', u⟩ := q
    obtain ⟨rfl, r⟩ := r
    unfold look at e ⊢
    by_cases hz : z = x
    · rw [if_pos hz] at e ⊢
      cases e
      exact ⟨v, rfl, r⟩
    · rw [if_neg hz] at e ⊢
      exact ih e
theorem Al.get' (h : Al R l fs) {x : Str} {v : V} (e : look x l = some v) : ∃ t, look x fs = some t ∧ R v t := by
  induction h with
  | nil => cases e
  | @cons p q l fs r t' ih =>
    obtain ⟨z, v'⟩ := p
    obtain ⟨z', u⟩ := q
    obtain ⟨rfl, r⟩ := r
    unfold look at e ⊢
    by_cases hz : z = x
    · rw [if_pos hz] at e ⊢
      cases e
      exact ⟨u, rfl, r⟩
    · rw [if_neg hz] at e ⊢
      exact ih e
theorem Al.none (h : Al R l fs) {x : Str} : look x l = none ↔ look x fs = none := by rw [look_none, look_none, h.names]
theorem Al.put (h : Al R l fs) (x : Str) {v : V} {t : T} (r : R v t) : Al R (put x v l) (put x t fs) := by
  induction h with
  | nil => exact .cons ⟨rfl, r⟩ .nil
  | @cons p q l fs r' t' ih =>
    obtain ⟨z, v'⟩ := p
    obtain ⟨z', u⟩ := q
    obtain ⟨rfl, r'⟩ := r'
    unfold GrT.put
    by_cases hz : z = x
    · rw [if_pos hz, if_pos hz]
      exact .cons ⟨rfl, r⟩ t'
    · rw [if_neg hz, if_neg hz]
      exact .cons ⟨rfl, r'⟩ ih
end
/-! ### names, fields -/
def letter (c : Nat) : Prop := 97 ≤ c ∧ c ≤ 122
def Good (x : Str) : Prop := 1 ≤ x.length ∧ x.length ≤ 30 ∧ ∀ c ∈ x.cps.toList, letter c
structure Wf (L : Nat) (fs : List (Str × T)) : Prop where
  nd : (names fs).Nodup
  ln : fs.length ≤ L
  gd : ∀ p ∈ fs, Good p.1
theorem Wf.mono {L M : Nat} {fs : List (Str × T)} (h : Wf L fs) (hl : L ≤ M) : Wf M fs := ⟨h.nd, Nat.le_trans h.ln hl, h.gd⟩
theorem Wf.put {L : Nat} {fs : List (Str × T)} (h : Wf L fs) {x : Str} {t : T} (g : Good x) : Wf (L + 1) (put x t fs) :=
  ⟨nodup_put h.nd, Nat.le_trans length_put (Nat.add_le_add_right h.ln 1), fun p hp => by
    rcases mem_put hp with e | e
    · rw [e]
      exact g
    · exact h.gd p e⟩
theorem Wf.nil {L : Nat} : Wf L [] := ⟨by simp [names], Nat.zero_le _, fun p hp => by cases hp⟩
/-! ### a value as dicts -/
/-- v is t: ints and dicts, at most n deep, at most L fields each, the dicts all within S -/
def Tr (S : Addr → Prop) (H : Hp) (L : Nat) : Nat → V → T → Prop
  | 0, v, t => ∃ i, v = .int i ∧ t = .int i
  | n + 1, v, t => (∃ i, v = .int i ∧ t = .int i) ∨ ∃ a l fs, v = .ref a ∧ t = .fds fs ∧ S a ∧ H a = some (.dK (dk l)) ∧ Wf L fs ∧ Al (Tr S H L n) l fs
section
variable {S S' : Addr → Prop} {H H' : Hp} {L M n m : Nat} {v : V} {t u : T} {a : Addr}
theorem Tr.int (i : Int) : Tr S H L n (.int i) (.int i) := by
  cases n with
  | zero => exact ⟨i, rfl, rfl⟩
  | succ n => exact .inl ⟨i, rfl, rfl⟩
theorem Tr.cases {P : Prop} (h : Tr S H L n v t) (h1 : ∀ i, v = .int i → t = .int i → P)
    (h2 : ∀ k a l fs, n = k + 1 → v = .ref a → t = .fds fs → S a → H a = some (.dK (dk l)) → Wf L fs → Al (Tr S H L k) l fs → P) : P := by
  cases n with
  | zero =>
    obtain ⟨i, e1, e2⟩ := h
    exact h1 i e1 e2
  | succ k =>
    rcases h with ⟨i, e1, e2⟩ | ⟨a, l, fs, e1, e2, es, e3, e4, e5⟩
    · exact h1 i e1 e2
    · exact h2 k a l fs rfl e1 e2 es e3 e4 e5
theorem Tr.keep : ∀ {n : Nat} {v : V} {t : T}, Tr S H L n v t → (∀ b kvs, S b → H b = some (.dK kvs) → H' b = some (.dK kvs)) → Tr S H' L n v t
  | 0, _, _, h, _ => h
  | n + 1, v, t, h, k => by
    rcases h with h | ⟨a, l, fs, e1, e2, es, e3, e4, e5⟩
    · exact .inl h
    · exact .inr ⟨a, l, fs, e1, e2, es, k _ _ es e3, e4, e5.imp fun _ _ _ q => Tr.keep q k⟩
theorem Tr.mono : ∀ {n m L M : Nat} {v : V} {t : T}, Tr S H L n v t → n ≤ m → L ≤ M → Tr S H M m v t
  | 0, m, L, M, v, t, ⟨i, e1, e2⟩, _, _ => by
    rw [e1, e2]
    exact Tr.int i
  | n + 1, 0, _, _, _, _, _, h, _ => absurd h (Nat.not_succ_le_zero _)
  | n + 1, m + 1, L, M, v, t, h, h1, h2 => by
    rcases h with h | ⟨a, l, fs, e1, e2, es, e3, e4, e5⟩
    · exact .inl h
    · exact .inr ⟨a, l, fs, e1, e2, es, e3, e4.mono h2, e5.imp fun _ _ _ q => Tr.mono q (Nat.le_of_succ_le_succ h1) h2⟩
theorem dk_inj : ∀ {l l' : List (Str × V)}, dk l = dk l' → l = l'
  | [], [], _ => rfl
  | [], _ :: _, h => by cases h
  | _ :: _, [], h => by cases h
  | (x, v) :: l, (y, w) :: l', h => by
    have h' : ((Sum.inr x : Key), v) :: dk l = (Sum.inr y, w) :: dk l' := h
    injection h' with h1 h2
    injection h1 with h3 h4
    injection h3 with h3
    rw [h3, h4, dk_inj h2]
theorem al_inj {n m L M : Nat} (ih : ∀ {v : V} {t u : T}, Tr S H L n v t → Tr S' H M m v u → t = u) : ∀ {l : List (Str × V)} {fs gs : List (Str × T)}, Al (Tr S H L n) l fs → Al (Tr S' H M m) l gs → fs = gs
  | [], _, _, .nil, .nil => rfl
  | _ :: _, (x, t) :: fs, (y, u) :: gs, .cons r1 t1, .cons r2 t2 => by
    have e : x = y := r1.1.symm.trans r2.1
    have e2 : t = u := ih r1.2 r2.2
    rw [e, e2, al_inj ih t1 t2]
theorem Tr.inj : ∀ {n m L M : Nat} {v : V} {t u : T}, Tr S H L n v t → Tr S' H M m v u → t = u
  | 0, m, L, M, v, t, u, ⟨i, e1, e2⟩, h => by
    refine h.cases (fun j q1 q2 => ?_) fun k a l fs _ q => ?_
    · rw [e1] at q1
      cases q1
      rw [e2, q2]
    · rw [e1] at q
      cases q
  | n + 1, m, L, M, v, t, u, h0, h => by
    refine h.cases (fun j q1 q2 => ?_) fun k a l fs _ q1 q2 qs q3 q4 q5 => ?_
    · rcases h0 with ⟨i, e1, e2⟩ | ⟨a, l, fs, e1, _⟩
      · rw [e1] at q1
        cases q1
        rw [e2, q2]
      · rw [e1] at q1
        cases q1
    · rcases h0 with ⟨i, e1, e2⟩ | ⟨b, l', gs, e1, e2, es, e3, e4, e5⟩
      · rw [e1] at q1
        cases q1
      · rw [e1] at q1
        cases q1
        rw [e3] at q3
        have z := dk_inj (HO.dK.inj (Option.some.inj q3))
        subst z
        rw [e2, q2, al_inj (fun a b => Tr.inj a b) e5 q5]
theorem size_mem {x : Str} {t : T} {fs : List (Str × T)} (h : (x, t) ∈ fs) : sizeOf t < sizeOf (T.fds fs) := by
  have h1 := List.sizeOf_lt_of_mem h
  have h2 : sizeOf (x, t) = 1 + sizeOf x + sizeOf t := by simp
  have h3 : sizeOf (T.fds fs) = 1 + sizeOf fs := by simp
  omega
/-- what is smaller than the value at a has no place at a -/
theorem Tr.away : ∀ {n : Nat} {v : V} {t : T}, Tr S H L n v t → Tr S' H M m (.ref a) u → sizeOf t < sizeOf u → ∀ o, Tr S (upd H a o) L n v t
  | 0, _, _, h, _, _, _ => h
  | n + 1, v, t, h, q, hs, o => by
    rcases id h with h' | ⟨b, l, fs, e1, e2, es, e3, e4, e5⟩
    · exact .inl h'
    · have hb : b ≠ a := fun z => by
        subst z
        rw [e1] at h
        have := Tr.inj h q
        subst this
        exact absurd hs (Nat.lt_irrefl _)
      refine .inr ⟨b, l, fs, e1, e2, es, by rw [upd_ne hb]; exact e3, e4, e5.imp fun p hp _ z => Tr.away z q (Nat.lt_trans ?_ hs) o⟩
      rw [e2]
      exact size_mem (x := p.1) (t := p.2) hp
/-- the children of the dict at a, while it is locked -/
theorem al_away (es : S a) {l : List (Str × V)} {fs : List (Str × T)} (e : H a = some (.dK (dk l))) (w : Wf L fs) (h : Al (Tr S H L n) l fs) (o : HO) : Al (Tr S (upd H a o) L n) l fs :=
  h.imp fun p hp _ z => z.away (m := n + 1) (M := L) (u := .fds fs) (a := a) (.inr ⟨a, l, fs, rfl, rfl, es, e, w, h⟩) (size_mem (x := p.1) (t := p.2) hp) o
theorem Tr.wid : ∀ {n : Nat} {v : V} {t : T}, Tr S H L n v t → (∀ b, S b → S' b) → Tr S' H L n v t
  | 0, _, _, h, _ => h
  | n + 1, v, t, h, k => by
    rcases h with h | ⟨a, l, fs, e1, e2, es, e3, e4, e5⟩
    · exact .inl h
    · exact .inr ⟨a, l, fs, e1, e2, k _ es, e3, e4, e5.imp fun _ _ _ q => Tr.wid q k⟩
end
end GrT
/-! An own class's in, [..], len, for, == and static methods, as rules over the layer. -/
namespace GrOwn
open PySem PySem.Spec PyProof.Rows L2
section
variable {X : Cx} {CX : CXT} {k : Nat} {C f : Addr} {fd : FuncData} {ps : List Str} {sp : Sp} {E : XK}
/-- a def runs in any room that bears the same frames -/
theorem run_at {A : Around} {pins : List (Addr × Obj)} {σ : L2.St} {H : Hp} {s : Shared} {Q : VK} {us : List Value} {vs : List V} (F : FnOk X.prog X.w X.K X.mg X.base CX k f fd ps sp)
    (hr : Room k A) (e0 : Env0 X.prog X.w X.K X.mg X.base A X.stack s H) (hb : Binds X.K fd ps []) (hx : Passes CX X E) (I : Inv X pins σ H s) (r : Vals vs us) (h : sp vs H Q E) :
    wpAny (model X.prog X.w) A (call (.ref f) us) (EP X pins σ Q) X.xe s := by
  have hl : (us ++ []).length = ps.length := by
    rw [List.append_nil, ← r.length]
    exact F.len _ _ _ _ h
  have b := hb s us I.kIn hl
  rw [List.append_nil] at b
  refine wpAny_call (codeAny_mono (F.run A X.stack s H ⟨us, []⟩ us vs Q E hr e0 b r h) fun r s' hq => ?_)
  match r, hq with
  | .error e, hq => exact hx pins σ H s e s' I hq
  | .ok (.ret u), hq => exact I.after hq
/-- what the class says of one of its special defs -/
structure Sm (K : PySem.W.Frag) (C : Addr) (n : Str) (f : Addr) : Prop where
  at_ : PySem.W.findIn K (.ref C) n = some (some (.ref f))
  fn : PySem.W.isFn K (.ref f) = true
theorem inst {pins : List (Addr × Obj)} {σ : L2.St} {H : Hp} {s : Shared} {a dx : Addr} {fs : List (Str × V)} (I : Inv X pins σ H s) (e : H a = some (.ins C dx fs)) : ∃ od, PySem.W.InstAt s.heap a (PySem.W.instObj C dx) C (some od) := by
  obtain ⟨mA, J, _⟩ := ins_get I.hok e
  obtain ⟨od, J, _⟩ := J.look
  exact ⟨od, J⟩
/-- x in r -/
def rInO (neg : Bool) (C : Addr) (sp : Sp) (E : XK) : R2 := fun x y H Q => ∃ a dx fs, y = .ref a ∧ H a = some (.ins C dx fs) ∧ sp [.ref a, x] H (fun v H' => ∃ b, v = .bl b ∧ Q (.bl (if neg then !b else b)) H') E
theorem op_inO (m : Sm X.K C "__contains__" f) (F : FnOk X.prog X.w X.K X.mg X.base CX k f fd ps sp) (hr : Room k X.A) (hb : Binds X.K fd ps []) (hx : Passes CX X E) : OpR X (compareOp .In) (rInO false C sp E) := by
  intro pins s σ H x y v u Q I rx ry h
  obtain ⟨a, dx, fs, rfl, ea, q⟩ := h
  cases ry
  obtain ⟨od, J⟩ := inst I ea
  obtain ⟨m0, hF⟩ := I.fr
  refine PySem.W.in_K hF I.ok.mod.kin J m.at_ m.fn (thn (run_at (vs := [V.ref a, x]) F hr I.env0 hb hx I (.cons rfl (.cons rx .nil)) q) fun r s' hq => ?_)
  obtain ⟨z, H', I', rz, b, rfl, qq⟩ := hq
  cases rz
  exact wpAny_truthy_bool ⟨.bl b, H', I', rfl, qq⟩
theorem op_notInO (m : Sm X.K C "__contains__" f) (F : FnOk X.prog X.w X.K X.mg X.base CX k f fd ps sp) (hr : Room k X.A) (hb : Binds X.K fd ps []) (hx : Passes CX X E) : OpR X (compareOp .NotIn) (rInO true C sp E) := by
  intro pins s σ H x y v u Q I rx ry h
  obtain ⟨a, dx, fs, rfl, ea, q⟩ := h
  cases ry
  obtain ⟨od, J⟩ := inst I ea
  obtain ⟨m0, hF⟩ := I.fr
  refine PySem.W.notIn_K hF I.ok.mod.kin J m.at_ m.fn (thn (run_at (vs := [V.ref a, x]) F hr I.env0 hb hx I (.cons rfl (.cons rx .nil)) q) fun r s' hq => ?_)
  obtain ⟨z, H', I', rz, b, rfl, qq⟩ := hq
  cases rz
  exact wpAny_truthy_bool ⟨.bl (!b), H', I', rfl, qq⟩
/-- r[x] -/
def tIxO (C : Addr) (sp : Sp) (E : XK) (ta tb : TE) : TE := fun σ H Q => ta σ H fun x H1 => tb σ H1 fun y H2 => ∃ a dx fs, x = .ref a ∧ H2 a = some (.ins C dx fs) ∧ sp [.ref a, y] H2 Q E
theorem pe_ixO {a b : Expr} {ta tb : TE} {pos : Pos} (m : Sm X.K C "__getitem__" f) (hfn : PySem.W.fnIn X.K f = true) (F : FnOk X.prog X.w X.K X.mg X.base CX k f fd ps sp) (hr : Room (k + 1) X.A) (hb : Binds X.K fd ps []) (hx : Passes CX X E)
    (ha : PE X a ta) (hb' : PE X b tb) (hsl : ∀ (q : Addr) (i : Value), subscripted b true (.ref q) i = runValue (.builtin "lifetime.subscript" ⟨[.ref q, i], []⟩) := by intro _ _; with_unfolding_all rfl) :
    PE X (.Subscript a b pos) (tIxO C sp E ta tb) := by
  refine ⟨fun pins s σ H Q I h => Subscript_ (binT ha hb' I h fun v u s2 x y H2 I2 rx ry q => ?_)⟩
  obtain ⟨p, dx, fs, rfl, ea, q⟩ := q
  cases rx
  obtain ⟨od, J⟩ := inst I2 ea
  obtain ⟨m0, hF⟩ := I2.fr
  exact PySem.W.sub_K hF I2.ok.mod.kin J m.at_ hfn m.fn (run_at (vs := [V.ref p, y]) F hr.in1 I2.env0.in1 hb hx I2 (.cons rfl (.cons ry .nil)) q) (hsl _ _)
/-- len(r) -/
def rLenO (C : Addr) (sp : Sp) (E : XK) : List V → Hp → VK → Prop := fun xs H Q => ∃ a dx fs, xs = [.ref a] ∧ H a = some (.ins C dx fs) ∧ sp [.ref a] H (fun v H' => ∃ n : Int, v = .int n ∧ 0 ≤ n ∧ n < 2 ^ 63 ∧ Q (.int n) H') E
theorem call_lenO (m : Sm X.K C "__len__" f) (F : FnOk X.prog X.w X.K X.mg X.base CX k f fd ps sp) (hr : Room (k + 1) X.A) (hb : Binds X.K fd ps []) (hx : Passes CX X E) : CallR X (.builtin "len") (rLenO C sp E) := by
  intro pins s σ H xs us Q I r h
  obtain ⟨a, dx, fs, rfl, ea, q⟩ := h
  obtain ⟨u, rfl, ru⟩ := vals1 r
  cases ru
  obtain ⟨od, J⟩ := inst I ea
  obtain ⟨m0, hF⟩ := I.fr
  refine PySem.W.len_K hF I.ok.mod.kin J m.at_ m.fn (thn (run_at (vs := [V.ref a]) F hr.in1 I.env0.in1 hb hx I (.cons rfl .nil) q) fun r s' hq => ?_)
  obtain ⟨z, H', I', rz, n, rfl, n0, n1, qq⟩ := hq
  obtain ⟨t, rfl⟩ := rz
  exact ⟨⟨n0, n1⟩, .int n, H', I'.tok _, ⟨_, rfl⟩, qq⟩
end

/-! ### for x in r, where __iter__ hands back a tuple's iterator -/
/-- at it: an iterator over the tuple at t, not yet begun -/
def TiO (t it : Addr) : HO := .ext fun h => h.IsTupleIter it t 0
theorem tiO_ok {P : Program} {w : World} {H : Hp} {h : Heap} {t it : Addr} (e : h.IsTupleIter it t 0) : ObjOk P w H h it (TiO t it) := by
  obtain ⟨o, ho, z⟩ := id e
  exact ⟨e, ⟨o, ho⟩, fun h1 h2 q k => q.at fun o e => k o e⟩
/-- a promise that may speak of the heap's size at the call -/
structure FnS (P : Program) (w : World) (K : PySem.W.Frag) (mg : Str → Option Value) (base : Heap) (CX : CXT) (k : Nat) (f : Addr) (fd : FuncData) (ps : List Str) (sp : Nat → Sp) : Prop where
  len : ∀ n vs H Q E, sp n vs H Q E → vs.length = ps.length
  run : ∀ (A : Around) (outer : List Env) (s : Shared) (H : Hp) (args : Args) (us : List Value) (vs : List V) (Q : VK) (E : XK), Room k A → Env0 P w K mg base A outer s H → BindsTo s fd args (ps.zip us) → Vals vs us → sp s.heap.objs.size vs H Q E →
    codeAny (model P w) A (.call (.ref f) args) (CR CX outer P w H s Q E) s
theorem Fun.okS {P : Program} {w : World} {K : PySem.W.Frag} {mg : Str → Option Value} {base : Heap} {CX : CXT} {x qual : Str} {st : Stmt} {f : Addr} {fd : FuncData} {N ps : List Str} {k : Nat} {sp : Nat → Sp} (F : L2.Fun K x qual st f fd) (S : FnScope N ps (defScope st))
    (len : ∀ n vs H Q E, sp n vs H Q E → vs.length = ps.length)
    (body : ∀ (cdv : Value) (A : Around) (outer : List Env) (s : Shared) (H : Hp) (vs : List V) (Q : VK) (E : XK), Room k (A.deeper (envOfC qual (defScope st) s.heap.objs.size f cdv)) → sp s.heap.objs.size vs H Q E →
      ∃ t, PSs (cxOf CX P w K mg base N qual (defScope st) f cdv A outer s H E) (defBody st) t ∧ t { nx := fun _ H' => Q .non H', rt := Q } (start N vs) H) : FnS P w K mg base CX (k + 1) f fd ps sp := by
  obtain ⟨oc, od, kV, doc, pm, an, cdv, ct, osl, rfl, lk, hcd⟩ := F.ex
  refine ⟨len, fun A outer s H args us vs Q E hr e0 hb r q => ?_⟩
  -- for this one heap the promise is a plain one
  have G : ∀ n : Nat, n = s.heap.objs.size → codeAny (model P w) A (.call (.ref f) args) (CR CX outer P w H s Q E) s := fun n hn => by
    have hl := len _ _ _ _ _ q
    have kb : ∀ b o, base.get? b = some o → s.heap.get? b = some o := fun b o e => (e0.bs b o e).1
    have KX : K.In s.heap := e0.mod.kin.keeps kb
    have lim : s.heap.NoLimit := e0.mod.nolimit.keeps kb
    have hkind : ∀ y ∈ ps.zip us, (defScope st).names.lookup y.1 = some .local ∨ ((defScope st).names.lookup y.1 = some .cell ∧ ((cellsFrom (s.heap.objs.size + 1) (defScope st).names []).lookup y.1).isSome = true) := by
      rintro ⟨n, v⟩ hy
      rcases S.par n (List.of_mem_zip hy).1 with q | q
      · exact .inl q
      · exact .inr ⟨q, PySem.W.cellsFrom_some _ _ _ (.inl q)⟩
    refine codeAny_call_function hr.depth (KX _ _ lk) rfl S.co S.gen rfl (PySem.W.codeRec_of KX hcd) (hb _ _ _ _ ?_)
    refine wpAny_newFunctionEnv_cells S.kind hkind fun env he s1 x => ?_
    subst he
    refine ⟨lim.keeps x.toInCall.keep, codeAny_func ?_⟩
    obtain ⟨t, ht, hq⟩ := body cdv A outer s H vs Q E (hr.deeper _) q
    have I := inv_start (CX := CX) (w := w) (mg := mg) (E := E) S hr.hd e0 hl r x
    refine wpAny_mono (ht.run [] s1 (start N vs) H _ I hq) (fun fl s' hs => ?_) fun e s' hs => hs
    match fl, hs with
    | .ret u, ⟨v, σ', H', J, rv, q⟩ => exact ⟨v, H', J.os, J.bare, J.base, J.hok, rv, q⟩
    | .next, ⟨σ', H', J, q⟩ => exact ⟨V.non, H', J.os, J.bare, J.base, J.hok, rfl, q⟩
    | .brk, ⟨_, _, _, q⟩ => exact q.elim
    | .cont, ⟨_, _, _, q⟩ => exact q.elim
  exact G _ rfl
/-- iter(t), t a tuple -/
def rIterT (K : PySem.W.Frag) (n : Nat) : List V → Hp → VK → Prop := fun xs H Q => ∃ (t : Addr) (zs : List V), xs = [.ref t] ∧ SqT K H t zs ∧ ∀ it, H it = none → n ≤ it → Q (.ref it) (upd H it (TiO t it))
theorem call_iterT {X : Cx} : CallR X (.builtin "iter") (rIterT X.K X.s_0.heap.objs.size) := by
  intro pins s σ H xs us Q I r h
  obtain ⟨t, zs, rfl, hq, q⟩ := h
  obtain ⟨u, rfl, ru⟩ := vals1 r
  cases ru
  obtain ⟨its, rv, p, hz⟩ := I.tuple hq
  refine Calls.call_function_entry (by decide +kernel) (by decide +kernel) PySem.W.kdk_entry_iter (PySem.W.kdk_args_iter _) ?_
  unfold Builtin.«iter»
  refine wpAny_bind (m := someArgs "iter" 1 2 _) (wpAny_of_eq (a := [Value.ref t]) (by first | rfl | kernel_rfl!) ?_)
  refine wpAny_bind (m := pyIter (.ref t)) (wpAny_pyIter_tuple p ?_)
  exact wpAny_pure ⟨_, rfl, .ref s.heap.objs.size, _, I.laid (t' := s.toks) (fun b u e => Heap.get?_push_of_some _ e) (Nat.le_refl _) (tiO_ok ⟨_, Heap.get?_push_size _ rfl, rfl, rfl⟩), rfl, q _ (I.hok.fresh (Nat.le_refl _)) I.sz⟩
/-- what such an __iter__ promises -/
def spIt (K : PySem.W.Frag) (n : Nat) : Sp := fun vs H Q _ => ∃ (a C dx : Addr) (fs : List (Str × V)) (t : Addr) (zs : List V), vs = [.ref a] ∧ H a = some (.ins C dx fs) ∧ Cls K C ∧ NoAttr K C "names" ∧ fs.lookup ("names" : Str) = some (.ref t) ∧ SqT K H t zs ∧
  ∀ it, H it = none → n ≤ it → Q (.ref it) (upd H it (TiO t it))
section
variable {X : Cx} {CX : CXT} {k : Nat} {C f : Addr} {fd : FuncData} {ps : List Str} {E : XK} {tg e : Expr} {te : TE}
def iOwn (K : PySem.W.Frag) (te : TE) (C : Addr) : TI := fun σ H R => te σ H fun x H1 => ∃ (a dx : Addr) (fs : List (Str × V)) (t : Addr) (zs : List V), x = .ref a ∧ H1 a = some (.ins C dx fs) ∧ fs.lookup ("names" : Str) = some (.ref t) ∧ SqT K H1 t zs ∧ R (Itt K t) H1
theorem pi_own (m : Sm X.K C "__iter__" f) (c : Cls X.K C) (na : NoAttr X.K C "names") (F : FnS X.prog X.w X.K X.mg X.base CX k f fd ps (spIt X.K)) (hr : Room k X.A) (hb : Binds X.K fd ps []) (hx : Passes CX X E) (he : PE X e te) : PI X tg e (iOwn X.K te C) := by
  refine ⟨fun pins s σ H R I h => thn (he.run pins s σ H _ I h) fun v s1 hv => ?_⟩
  obtain ⟨x, H1, I1, rx, a, dx, fs, t, zs, rfl, ea, el, hq, q⟩ := hv
  cases rx
  obtain ⟨od, J⟩ := inst I1 ea
  obtain ⟨m0, hF⟩ := I1.fr
  refine PySem.W.owit_iter hF I1.ok.mod.kin J m.at_ m.fn ?_
  have hsp : spIt X.K s1.heap.objs.size [V.ref a] H1 (fun v H2 => ∃ it, v = .ref it ∧ H1 it = none ∧ s1.heap.objs.size ≤ it ∧ H2 = upd H1 it (TiO t it)) E :=
    ⟨a, C, dx, fs, t, zs, rfl, ea, c, na, el, hq, fun it h0 h1 => ⟨it, rfl, h0, h1, rfl⟩⟩
  have hl := F.len _ _ _ _ _ hsp
  have b := hb s1 [Value.ref a] I1.kIn (by simpa using hl)
  rw [List.append_nil] at b
  refine wpAny_call (codeAny_mono (F.run X.A X.stack s1 H1 ⟨[.ref a], []⟩ [.ref a] [.ref a] _ E hr I1.env0 b (.cons rfl .nil) hsp) fun r s' hq' => ?_)
  match r, hq' with
  | .error er, hq' => exact hx pins σ H1 s1 er s' I1 hq'
  | .ok (.ret u), hq' =>
    obtain ⟨z, H2, I2, rz, it, rfl, n0, n1, rfl⟩ := I1.after hq'
    cases rz
    have e2 : (upd H1 it (TiO t it)) it = some (TiO t it) := upd_same
    have ti : s'.heap.IsTupleIter it t 0 := (I2.hok it _ e2).1
    refine wpAny_specialOf ti.typeIs PySem.F.slot_tuple_iterator_next.lookup ?_
    have ed : ItX.dropH (upd H1 it (TiO t it)) it = H1 := ItX.dropH_upd n0
    have I3 := ItX.inv_drop I2 e2
    have fp := ItX.inv_fp I2 e2 (Nat.le_trans I1.sz n1)
    rw [ed] at I3 fp
    refine ⟨it, [it], _, Itt X.K t, H1, rfl, I3, turn_tuple t it, ti, fun b hb => ?_, q⟩
    have eb : b = it := by simpa using hb
    rw [eb]
    exact fp
end

/-! ### C.m(..), m a static method -/
structure SMet (K : PySem.W.Frag) (C : Addr) (mc : Value) (m : Str) (p g : Addr) : Prop where
  rd : ClX.CRead K C mc
  at_ : PySem.W.findCls K (.ref C) mc m = some (.get (.builtin "staticmethod.__get__") (.ref p) .none (.ref C))
  rc : ∃ rest, PySem.W.recIn K p "staticmethod" = some (.ref g :: rest)
  kp : PySem.W.keepIn K (.ref g) = true
def tSMet (C : Addr) (sp : Sp) (E : XK) (ta : TE) (t : TA) : TE := fun σ H Q => ta σ H fun x H1 => x = .ref C ∧ t σ H1 fun vs H2 => sp vs H2 Q E
section
variable {X : Cx} {CX : CXT} {k : Nat} {C p g : Addr} {mc : Value} {fd : FuncData} {ps : List Str} {sp : Sp} {E : XK} {o e : Expr} {es : List Expr} {m : Str} {pos apos : Pos} {ta : TE} {t : TA} {pl : Sem Bool}
theorem pe_sm (he : PE X o ta) (c : SMet X.K C mc m p g) (F : FnOk X.prog X.w X.K X.mg X.base CX k g fd ps sp) (hr : Room k X.A) (hb : Binds X.K fd ps []) (hx : Passes CX X E) (ha : PA X (e :: es) t)
    (hst : starEach (e :: es) X.env = (false, eval e X.env) :: starEach es X.env := by rfl) (hpl : (backTo pos (starEach es X.env)).any (·.1) = false := by rfl)
    (ht : eval (.Call (.Attribute o m apos) (e :: es) [] pos) X.env = (do
      let ov ← eval o X.env
      standAt apos.atName
      let (f, first) ← holding [ov] (getMethod ov m pl)
      callWith pos f first (backTo pos (starEach (e :: es) X.env)) (backToKw pos (keywordEach [] X.env))) := by rfl) :
    PE X (.Call (.Attribute o m apos) (e :: es) [] pos) (tSMet C sp E ta t) := by
  refine ⟨fun pins s σ H Q I h => PySem.W.methodCall_KW (pl := pl) (thn (he.run pins s σ H _ I h) fun u s1 hv => ?_) ht⟩
  obtain ⟨x, H1, I1, rx, rfl, q⟩ := hv
  obtain rfl : u = Value.ref C := rx
  obtain ⟨rest, hp⟩ := c.rc
  refine PySem.W.method_cls I1.kIn c.rd.ga (PySem.W.cls_bind I1.kIn c.rd.rd c.at_ ?_)
  refine wpAny_call (PySem.W.sm_get (s := { s1 with toks := s1.toks + 1 }) I1.kIn hp (PySem.W.handed_on rfl ?_))
  have I2 := I1.tok (s1.toks + 1)
  refine PySem.W.callWith_K (h₀ := X.base) I2.ok.mod.kin c.kp (thn (ha.run pos pins _ σ H1 _ I2 q) fun us s2 h2 => ?_) hst hpl
  obtain ⟨vs, H2, I3, rv, q2⟩ := h2
  exact ⟨I3.kIn, run_at F hr I3.env0 hb hx I3 rv q2⟩
end

/-! ### == where one side is an int and the other one of an own class -/
theorem int_eq_ins {prog : Program} {w : World} {A : Around} {E : Value → Shared → Prop} {s : Shared} {a : Int} {t : Tok} {l : Addr} {ox : Obj} {Q : Value → Shared → Prop} (ho : s.heap.get? l = some ox) (hd : ox.data = .plain) (h : Q .notImplemented s) :
    wpAny (model prog w) A (call (.builtin "int.__eq__") [.int a t, .ref l]) Q E s := by
  refine GQ.call_here PySem.F.slot_int_eq (typeIs_int s a t) PySem.F.entry_int_eq (PySem.F.args_int_eq_2 _ _) ?_
  obtain ⟨hp, g, d, tk, os⟩ := s
  obtain ⟨oc, od, oda, osl⟩ := ox
  dsimp only at hd
  subst hd
  wp_walk
  exact h
section
variable {X : Cx} {CX : CXT} {k : Nat} {C f : Addr} {fd : FuncData} {ps : List Str} {sp : Sp} {E : XK}
/-- r == y, by r's own def -/
def rEqOL (K : PySem.W.Frag) (C : Addr) (sp : Sp) (E : XK) : R2 := fun x y H Q => ∃ a dx fs, x = .ref a ∧ H a = some (.ins C dx fs) ∧
  ((∃ i, y = .int i) ∨ ∃ b dy gs, y = .ref b ∧ H b = some (.ins C dy gs)) ∧ sp [.ref a, y] H (fun v H' => ∃ b, v = .bl b ∧ Q (.bl b) H') E
theorem op_eqOL (m : Sm X.K C "__eq__" f) (hi : PySem.W.subIn X.K (.type "int") (.ref C) = some false) (F : FnOk X.prog X.w X.K X.mg X.base CX k f fd ps sp) (hr : Room k X.A) (hb : Binds X.K fd ps []) (hx : Passes CX X E) :
    OpR X (compareOp .Eq) (rEqOL X.K C sp E) := by
  intro pins s σ H x y v u Q I rx ry h
  obtain ⟨a, dx, fs, rfl, ea, hy, q⟩ := h
  cases rx
  obtain ⟨od, J⟩ := inst I ea
  obtain ⟨m0, hF⟩ := I.fr
  have fin : wpAny (model X.prog X.w) X.A (call (.ref f) [.ref a, u]) (PySem.W.CmpBack (EP X pins σ Q)) X.xe s := by
    refine thn (run_at (vs := [V.ref a, y]) F hr I.env0 hb hx I (.cons rfl (.cons ry .nil)) q) fun r s' hq => ?_
    obtain ⟨z, H', I', rz, b, rfl, qq⟩ := hq
    cases rz
    exact ⟨.bl b, H', I', rfl, qq⟩
  show wpAny _ _ (richCompare .Eq (.ref a) u) _ _ _
  rcases hy with ⟨i, rfl⟩ | ⟨b, dy, gs, rfl, eb⟩
  · obtain ⟨t, rfl⟩ := ry
    refine PySem.W.cmp_K (op := .Eq) (tb := .type "int") hr.units0 hF I.ok.mod.kin J .now ?_ m.at_ m.fn fin
    unfold PySem.W.notFirst
    rw [hi]
    rfl
  · cases ry
    obtain ⟨oe, J2⟩ := inst I eb
    exact PySem.W.cmp_K (op := .Eq) (tb := .ref C) hr.units0 hF I.ok.mod.kin J J2.type (by simp [PySem.W.notFirst]) m.at_ m.fn fin
/-- i == r: int declines, then r's own def is asked -/
def rEqOR (C : Addr) (sp : Sp) (E : XK) : R2 := fun x y H Q => ∃ i a dx fs, x = .int i ∧ y = .ref a ∧ H a = some (.ins C dx fs) ∧ sp [.ref a, .int i] H (fun v H' => ∃ b, v = .bl b ∧ Q (.bl b) H') E
theorem op_eqOR (m : Sm X.K C "__eq__" f) (hi : PySem.W.subIn X.K (.ref C) (.type "int") = some false) (F : FnOk X.prog X.w X.K X.mg X.base CX k f fd ps sp) (hr : Room k X.A) (hb : Binds X.K fd ps []) (hx : Passes CX X E) :
    OpR X (compareOp .Eq) (rEqOR C sp E) := by
  intro pins s σ H x y v u Q I rx ry h
  obtain ⟨i, a, dx, fs, rfl, rfl, ea, q⟩ := h
  cases ry
  obtain ⟨t, rfl⟩ := rx
  obtain ⟨od, J⟩ := inst I ea
  obtain ⟨m0, hF⟩ := I.fr
  have K0 := I.kIn
  have one : wpAny (model X.prog X.w) X.A (tryCompare (.ref a) "__eq__" (.int i t)) (fun r s' => ∃ v, r = some v ∧ EP X pins σ Q v s') X.xe s := by
    unfold tryCompare
    refine wpAny_bind (PySem.W.ifBound_K K0 J m.at_ m.fn (thn (run_at (vs := [V.ref a, V.int i]) F hr I.env0 hb hx I (.cons rfl (.cons ⟨t, rfl⟩ .nil)) q) fun r s' hq => ?_))
    obtain ⟨z, H', I', rz, b, rfl, qq⟩ := hq
    cases rz
    exact wpAny_pure ⟨_, rfl, .bl b, H', I', rfl, qq⟩
  show wpAny _ _ (richCompare .Eq (.int i t) (.ref a)) _ _ _
  have o0 : oneThing? .Eq (.int i t) (.ref a) = none := by first | rfl | decide +kernel
  have ne : (Value.type "int" != Value.ref C) = true := by simp
  unfold richCompare
  simp only [o0]
  refine wpAny_holding (wpAny_bind (wpAny_cRoomFor hr.units0 ?_))
  refine wpAny_bind (wpAny_typeOf (T := "int") (PySem.typeIs_int s i t) (wpAny_bind (J.type.here ?_)))
  simp only [ne, if_true]
  refine wpAny_bind ((PySem.W.looks_subIn K0 hi).here ?_)
  simp only [Bool.false_eq_true, if_false, Bool.not_false, if_true]
  refine wpAny_bind (m := tryCompare (.int i t) _ (.ref a)) (wpAny_tryCompare_declines (PySem.typeIs_int s i t) PySem.F.slot_int_eq (int_eq_ins J.at_ rfl ⟨rfl, ?_⟩))
  refine wpAny_bind (m := tryCompare (.ref a) _ (.int i t)) (wpAny_mono one (fun r s' z => ?_) fun _ _ e => e)
  obtain ⟨v, rfl, hq⟩ := z
  exact wpAny_pure hq
end
end GrOwn
/-! The law's own helpers: cells, the tape, what is drawn from it. -/
namespace Lw
open PySem PySem.Spec PyProof.Rows L2 GrT
def top (i : Nat) : Stmt := PySem.Challenge.pw_growingrecords_k09_records_stay.main.body.getD i (.Pass ⟨0, 0, 0, 0⟩)
abbrev sCell : Stmt := top 13
abbrev sMixed : Stmt := top 14
abbrev sTape : Stmt := top 15
abbrev sTake : Stmt := top 16
abbrev sNumber : Stmt := top 17
abbrev sWord : Stmt := top 18
abbrev sWords : Stmt := top 19
/-- a def of the module's top, by its name -/
structure Dfn (K : PySem.W.Frag) (mg : Str → Option Value) (x : Str) (st : Stmt) (ps : List Str) : Prop where
  ex : ∃ f fd, mg x = some (.ref f) ∧ L2.Fun K x x st f fd ∧ Binds K fd ps []
/-- the def called x keeps the promise sp, at level k -/
structure Cal (P : Program) (w : World) (K : PySem.W.Frag) (mg : Str → Option Value) (base : Heap) (k : Nat) (x : Str) (sp : Sp) : Prop where
  ex : ∃ (f : Addr) (fd : FuncData) (ps : List Str), FnOk P w K mg base CX0 k f fd ps sp ∧ mg x = some (.ref f) ∧ PySem.W.keepIn K (.ref f) = true ∧ Binds K fd ps []
theorem pe_c {X : Cx} {k j : Nat} {x : Str} {sp : Sp} {p pos : Pos} {e : Expr} {es : List Expr} {t : TA} (c : Cal X.prog X.w X.K X.mg X.base k x sp) (hr : Room j X.A) (hk : k ≤ j) (hg : Gl X x) (ha : PA X (e :: es) t)
    (hdb : (x == ("__debug__" : Str)) = false := by decide) (he : starEach (e :: es) X.env = (false, eval e X.env) :: starEach es X.env := by rfl) (hpl : (backTo pos (starEach es X.env)).any (·.1) = false := by rfl) :
    PE X (.Call (.Name x p) (e :: es) [] pos) (tCall sp [] E0 t) := by
  obtain ⟨f, fd, ps, F, hm, kp, b⟩ := c.ex
  exact pe_call F (hr.mono hk) hg hm kp b .nil pass0 ha hdb he hpl
/-- what the top leaves of the built-ins that the helpers ask -/
structure Bt (mg : Str → Option Value) : Prop where
  b_len : mg "len" = none
  b_int : mg "int" = none
  b_range : mg "range" = none
section
variable {P : Program} {w : World} {K : PySem.W.Frag} {mg : Str → Option Value} {base : Heap}
theorem Dfn.cal {x : Str} {st : Stmt} {N ps : List Str} {k : Nat} {sp : Sp} (D : Dfn K mg x st ps) (S : FnScope N ps (defScope st)) (len : ∀ vs H Q E, sp vs H Q E → vs.length = ps.length)
    (body : ∀ (f : Addr) (cdv : Value) (A : Around) (outer : List Env) (s : Shared) (H : Hp) (vs : List V) (Q : VK) (E : XK), Room k (A.deeper (envOfC x (defScope st) s.heap.objs.size f cdv)) → sp vs H Q E →
      ∃ t, PSs (cxOf CX0 P w K mg base N x (defScope st) f cdv A outer s H E).nox (defBody st) t ∧ t { nx := fun _ H' => Q .non H', rt := Q } (start N vs) H) : Cal P w K mg base (k + 1) x sp := by
  obtain ⟨f, fd, hm, F, b⟩ := D.ex
  exact ⟨f, fd, ps, F.ok S len (body f), hm, F.kp, b⟩
end
/-! ### what is promised -/
/-- all but the object at T stands -/
def Fx (T : Addr) (H H' : Hp) : Prop := ∀ b o, b ≠ T → H b = some o → H' b = some o
theorem Fx.refl {T : Addr} {H : Hp} : Fx T H H := fun _ _ _ e => e
theorem Fx.trans {T : Addr} {H H1 H2 : Hp} (a : Fx T H H1) (b : Fx T H1 H2) : Fx T H H2 := fun c o n e => b c o n (a c o n e)
theorem Fx.set {T : Addr} {H : Hp} {o : HO} : Fx T H (upd H T o) := fun b u n e => by
  rw [upd_ne n]
  exact e
theorem Fx.same {T : Addr} {H H' : Hp} (s : Same H H') : Fx T H H' := fun b o _ e => s b o e
theorem Fx.new {T a : Addr} {H H1 : Hp} {o : HO} (x : Fx T H H1) (n : H1 a = none) : Fx T H (upd H1 a o) := fun b u ne e => by
  have q := x b u ne e
  rw [upd_ne (ne_of_none q n)]
  exact q
/-- the tape: ints below 720720 -/
def Tape (H : Hp) (T : Addr) : Prop := ∃ ns : List Int, H T = some (.lst (ns.map V.int)) ∧ ns.length ≤ 1000 ∧ ∀ n ∈ ns, 0 ≤ n ∧ n < 720720
theorem Tape.new {H : Hp} {T a : Addr} {o : HO} (t : Tape H T) (n : H a = none) : Tape (upd H a o) T := by
  obtain ⟨ns, e, z⟩ := t
  exact ⟨ns, by rw [upd_ne (ne_of_none e n)]; exact e, z⟩
theorem Tape.ne {H : Hp} {T a : Addr} {o : HO} (t : Tape H T) (e : H a = some o) (d : ∀ xs, o ≠ .lst xs) : a ≠ T := by
  obtain ⟨ns, q, _⟩ := t
  exact ne_of e q (d _)
theorem Tape.put {H : Hp} {T a : Addr} {o : HO} (t : Tape H T) (n : a ≠ T) : Tape (upd H a o) T := by
  obtain ⟨ns, e, z⟩ := t
  exact ⟨ns, by rw [upd_ne n.symm]; exact e, z⟩
def spCell (K : PySem.W.Frag) : Sp := fun vs H Q _ => ∃ (a : Addr) (ns : List Int) (k : Int), vs = [.ref a, .int k] ∧ SqL K H a (ns.map V.int) ∧ 0 ≤ k ∧ ∀ i, Q (.int i) H
def spMixed : Sp := fun vs H Q _ => ∃ c k : Int, vs = [.int c, .int k] ∧ 0 ≤ k ∧ k < 10000 ∧ ∀ i, 0 ≤ i → i < 720720 → Q (.int i) H
def spTape : Sp := fun vs H Q _ => ∃ g l c : Int, vs = [.int g, .int l, .int c] ∧ 0 ≤ c ∧ c ≤ 1000 ∧ ∀ T H', H T = none → Tape H' T → Same H H' → Q (.ref T) H'
def spTake : Sp := fun vs H Q _ => ∃ (T : Addr) (m : Int), vs = [.ref T, .int m] ∧ Tape H T ∧ 0 < m ∧ ∀ i H', 0 ≤ i → i < m → Fx T H H' → Tape H' T → Q (.int i) H'
def spNumber : Sp := fun vs H Q _ => ∃ T : Addr, vs = [.ref T] ∧ Tape H T ∧ ∀ i H', 0 ≤ i → i < 2 ^ 100 → Fx T H H' → Tape H' T → Q (.int i) H'
/-- a text of signs a to z -/
def Az (x : Str) : Prop := ∀ c ∈ x.cps.toList, letter c
def spWord : Sp := fun vs H Q _ => ∃ (T : Addr) (m : Int), vs = [.ref T, .int m] ∧ Tape H T ∧ 0 < m ∧ m ≤ 100 ∧ ∀ (x : Str) H', 1 ≤ x.length → (x.length : Int) ≤ m → Az x → Fx T H H' → Tape H' T → Q (.str x) H'
section
variable {P : Program} {w : World} {K : PySem.W.Frag} {mg : Str → Option Value} {base : Heap}
/-! ### the defs -/
theorem scCell : FnScope ["script", "k"] ["script", "k"] (defScope sCell) := ⟨rfl, rfl, rfl, by decide +kernel, rfl, by decide +kernel, by decide +kernel⟩
theorem c_cell (T : Bt mg) (D : Dfn K mg "_law_cell" sCell ["script", "k"]) : Cal P w K mg base 1 "_law_cell" (spCell K) := by
  refine D.cal scCell (fun vs H Q E h => ?_) (fun f cdv A outer s H vs Q E hr h => ?_)
  · obtain ⟨a, ns, k, rfl, _⟩ := h
    rfl
  · obtain ⟨a, ns, k, rfl, hS, k0, q⟩ := h
    refine ⟨_, (pss_cons (ps_if (pt_cmpR op_lt (pv 1) (pe_callB call_len_seq (by rfl) T.b_len PySem.boot_len (pa_cons (pv 0) pa_nil)) (nomark _))
      (pss_one (ps_ret (pe_ix ix_list (pv 0) (pv 1) (fun _ _ => rfl))))
      pss_nil)
      (pss_one (ps_ret pe_int))), ?_⟩
    refine ⟨_, rfl, _, rfl, a, _, rfl, .inl hS, _, _, rfl, rfl, _, rfl, ?_⟩
    refine ite2 (fun hk => ?_) (fun _ => q 0)
    have hk' := of_decide_eq_true hk
    rw [List.length_map] at hk'
    have e1 : k.toNat < ns.length := by omega
    refine ⟨_, rfl, _, rfl, a, _, _, _, rfl, rfl, hS, ?_, q (ns[k.toNat]'e1)⟩
    obtain ⟨j, rfl⟩ : ∃ j : Nat, k = (j : Int) := ⟨k.toNat, by omega⟩
    refine atI_nat ?_
    rw [List.getElem?_map]
    have e3 : j < ns.length := by omega
    simp [List.getElem?_eq_getElem e3]
theorem scMixed : FnScope ["cell", "k", "first", "second"] ["cell", "k"] (defScope sMixed) := ⟨rfl, rfl, rfl, by decide +kernel, rfl, by decide +kernel, by decide +kernel⟩
theorem c_mixed (T : Bt mg) (D : Dfn K mg "_law_mixed" sMixed ["cell", "k"]) : Cal P w K mg base 1 "_law_mixed" spMixed := by
  refine D.cal scMixed (fun vs H Q E h => ?_) (fun f cdv A outer s H vs Q E hr h => ?_)
  · obtain ⟨c, k, rfl, _⟩ := h
    rfl
  · obtain ⟨c, k, rfl, k0, k1, q⟩ := h
    refine ⟨_, (pss_cons (ps_set (i := 2) scMixed.nd rfl (Or.inl rfl) (pe_op op_mod (pe_callTy call_int1 (by rfl) T.b_int (by decide +kernel) (pa_cons (pe_op op_add (pe_op op_add (pe_op op_mul (pv 0) pe_int) (pe_op op_mul (pv 1) pe_int)) pe_int) pa_nil)) pe_int))
      (pss_cons (ps_set (i := 3) scMixed.nd rfl (Or.inl rfl) (pe_op op_mod (pe_callTy call_int1 (by rfl) T.b_int (by decide +kernel) (pa_cons (pe_op op_add (pe_op op_add (pe_op op_mul (pv 2) (pv 2)) (pe_op op_mul pe_int (pv 2))) (pe_op op_mul (pv 1) pe_int)) pa_nil)) pe_int))
      (pss_one (ps_ret (pe_op op_mod (pe_callTy call_int1 (by rfl) T.b_int (by decide +kernel) (pa_cons (pv 3) pa_nil)) pe_int))))), ?_⟩
    have p31 : (0 : Int) < 2147483647 := by decide
    have f0 : ∀ z : Int, 0 ≤ z % 2147483647 ∧ z % 2147483647 < 2147483647 := fun z => ⟨Int.emod_nonneg z (by decide), Int.emod_lt_of_pos z p31⟩
    refine ⟨_, rfl, _, _, rfl, rfl, .inr ⟨by decide, by decide⟩, _, rfl, _, _, rfl, rfl, .inr ⟨by decide, by decide⟩, _, _, rfl, rfl, _, _, rfl, rfl, .inl ⟨_, rfl, _, _, rfl, rfl, p31, ?_⟩⟩
    generalize hz : (c * 48271 + k * 69621 + 7) % 2147483647 = z
    have hf := f0 (c * 48271 + k * 69621 + 7)
    rw [hz] at hf
    refine ⟨_, rfl, _, rfl, _, _, rfl, rfl, .inl ⟨by omega, by omega⟩, _, rfl, _, _, rfl, rfl, .inl ⟨by decide, by decide⟩, _, _, rfl, rfl, _, rfl, _, _, rfl, rfl, .inr ⟨by decide, by decide⟩, _, _, rfl, rfl, .inl ⟨_, rfl, _, _, rfl, rfl, (by decide : (0 : Int) < 2147483629), ?_⟩⟩
    exact ⟨_, rfl, .inl ⟨_, rfl, _, _, rfl, rfl, (by decide : (0 : Int) < 720720), q _ (Int.emod_nonneg _ (by decide)) (Int.emod_lt_of_pos _ (by decide))⟩⟩
theorem scTape : FnScope ["great", "lesser", "count", "tape", "rest", "k", "drawn"] ["great", "lesser", "count"] (defScope sTape) := ⟨rfl, rfl, rfl, by decide +kernel, rfl, by decide +kernel, by decide +kernel⟩
theorem p72 : (0 : Int) < 720720 := by decide
theorem c_tape (T : Bt mg) (D : Dfn K mg "_law_tape" sTape ["great", "lesser", "count"]) (c_law_mixed : Cal P w K mg base 1 "_law_mixed" spMixed) : Cal P w K mg base 2 "_law_tape" spTape := by
  refine D.cal scTape (fun vs H Q E h => ?_) (fun f cdv A outer s H vs Q E hr h => ?_)
  · obtain ⟨g, l, c, rfl, _⟩ := h
    rfl
  · obtain ⟨g, l, c, rfl, c0, c1, q⟩ := h
    refine ⟨_, (pss_cons (ps_set (i := 3) scTape.nd rfl (Or.inl rfl) (pe_lst pa_nil))
      (pss_cons (ps_set (i := 4) scTape.nd rfl (Or.inl rfl) (pv 0))
      (pss_cons (ps_for PassesOwn.never rfl (pi_range1 (by rfl) T.b_range (pa_cons (pv 2) pa_nil)) (pg_name (i := 5) scTape.nd rfl (Or.inl rfl))
      (pss_cons (ps_set (i := 6) scTape.nd rfl (Or.inl rfl) (pe_c c_law_mixed hr (by decide) rfl (pa_cons (pv 1) (pa_cons (pv 5) pa_nil))))
      (pss_cons (ps_if (pt_cmpR op_ge (pv 0) (pe_op op_pow pe_int pe_int) (nomark _))
      (pss_cons (ps_set (i := 6) scTape.nd rfl (Or.inl rfl) (pe_op op_add (pv 6) (pe_op op_mod (pe_callTy call_int1 (by rfl) T.b_int (by decide +kernel) (pa_cons (pv 4) pa_nil)) pe_int)))
      (pss_one (ps_set (i := 4) scTape.nd rfl (Or.inl rfl) (pe_op op_fdiv (pv 4) pe_int))))
      (pss_one (ps_set (i := 6) scTape.nd rfl (Or.inl rfl) (pe_op op_add (pv 6) (pe_c c_law_mixed hr (by decide) rfl (pa_cons (pv 0) (pa_cons (pe_op op_add (pv 5) pe_int) pa_nil)))))))
      (pss_one (ps_expr (pe_bm PySem.F.plainAttrs_list PySem.F.slot_list_append PySem.F.type_list_append mt_append (pv 3) (pa_cons (pe_op op_mod (pe_callTy call_int1 (by rfl) T.b_int (by decide +kernel) (pa_cons (pv 6) pa_nil)) pe_int) pa_nil)))))))
      (pss_one (ps_ret (pv 3)))))), ?_⟩
    refine ⟨Nat.zero_le _, fun p hp => ?_⟩
    refine ⟨_, rfl, _, rfl, c, rfl, by omega, by omega, for_range (lo := 0) (n := c.toNat) (fun i σ H' => ∃ (r : Int) (kv dv : Option V) (ns : List Int), σ = [some (.int g), some (.int l), some (.int c), some (.ref p), some (.int r), kv, dv] ∧
      H' p = some (.lst (ns.map V.int)) ∧ ns.length = i ∧ (∀ n ∈ ns, 0 ≤ n ∧ n < 720720) ∧ Same H H') ⟨g, none, none, [], rfl, upd_same, rfl, (fun n hn => by cases hn), (fun b o e => by rw [upd_ne (ne_of_none e hp)]; exact e)⟩ ?_ ?_⟩
    · rintro i σ H' hi ⟨r, kv, dv, ns, rfl, hl, hn, hb, hs⟩
      refine ⟨_, rfl, _, rfl, _, _, rfl, by omega, by omega, fun d1 hd1 hd2 => ?_⟩
      refine ⟨_, rfl, _, _, rfl, rfl, ⟨by decide, by decide, by decide⟩, _, _, rfl, rfl, _, rfl, ite2 (fun _ => ?_) (fun _ => ?_)⟩
      · refine ⟨_, rfl, _, rfl, .inl ⟨_, rfl, _, _, rfl, rfl, p72, _, _, rfl, rfl, _, rfl, _, _, rfl, rfl, ⟨by decide, by decide⟩, ?_⟩⟩
        refine ⟨_, rfl, .inl ⟨rfl, _, .inl (.inl hl)⟩, _, rfl, .inl ⟨_, rfl, _, _, rfl, rfl, p72, p, _, _, rfl, rfl, hl, small1000 (by rw [List.length_map]; omega), ?_⟩⟩
        refine ⟨_, _, _, ns ++ [(d1 + r % 720720) % 720720], rfl, ?_, by rw [List.length_append, hn]; rfl, fun n h => ?_, fun b o e => ?_⟩
        · rw [upd_same, List.map_append]
          rfl
        · rcases List.mem_append.mp h with h | h
          · exact hb n h
          · have e := List.mem_singleton.mp h
            rw [e]
            exact ⟨Int.emod_nonneg _ (by decide), Int.emod_lt_of_pos _ p72⟩
        · rw [upd_ne (ne_of_none e hp)]
          exact hs b o e
      · refine ⟨_, rfl, _, rfl, _, rfl, _, _, rfl, rfl, _, _, rfl, by omega, by omega, fun d2 hd3 hd4 => ⟨_, _, rfl, rfl, ?_⟩⟩
        refine ⟨_, rfl, .inl ⟨rfl, _, .inl (.inl hl)⟩, _, rfl, .inl ⟨_, rfl, _, _, rfl, rfl, p72, p, _, _, rfl, rfl, hl, small1000 (by rw [List.length_map]; omega), ?_⟩⟩
        refine ⟨_, _, _, ns ++ [(d1 + d2) % 720720], rfl, ?_, by rw [List.length_append, hn]; rfl, fun n h => ?_, fun b o e => ?_⟩
        · rw [upd_same, List.map_append]
          rfl
        · rcases List.mem_append.mp h with h | h
          · exact hb n h
          · have e := List.mem_singleton.mp h
            rw [e]
            exact ⟨Int.emod_nonneg _ (by decide), Int.emod_lt_of_pos _ p72⟩
        · rw [upd_ne (ne_of_none e hp)]
          exact hs b o e
    · rintro σ H' ⟨r, kv, dv, ns, rfl, hl, hn, hb, hs⟩
      exact ⟨_, rfl, q p H' hp ⟨ns, hl, by omega, hb⟩ hs⟩
theorem scTake : FnScope ["tape", "many"] ["tape", "many"] (defScope sTake) := ⟨rfl, rfl, rfl, by decide +kernel, rfl, by decide +kernel, by decide +kernel⟩
theorem type_pop : typeOf (.builtin "list.pop") = pure (.type "method_descriptor") := by
  show builtinType _ = _
  rw [builtinType_eq_fast]
  kernel_rfl
theorem c_take (T : Bt mg) (D : Dfn K mg "_law_take" sTake ["tape", "many"]) : Cal P w K mg base 1 "_law_take" spTake := by
  refine D.cal scTake (fun vs H Q E h => ?_) (fun f cdv A outer s H vs Q E hr h => ?_)
  · obtain ⟨p, m, rfl, _⟩ := h
    rfl
  · obtain ⟨p, m, rfl, ⟨ns, hl, hn, hb⟩, m0, q⟩ := h
    refine ⟨_, (pss_cons (ps_if (pt_not (pt_truth (pv 0) (by intro _; rfl)))
      (pss_one (ps_ret pe_int))
      pss_nil)
      (pss_one (ps_ret (pe_op op_mod (pe_callTy call_int1 (by rfl) T.b_int (by decide +kernel) (pa_cons (pe_bm PySem.F.plainAttrs_list PySem.F.slot_list_pop type_pop mt_popAt (pv 0) (pa_cons pe_int pa_nil)) pa_nil)) (pv 1))))), ?_⟩
    refine ⟨_, rfl, !(ns.map V.int).isEmpty, .inl ⟨_, SqL.of hl, rfl⟩, ?_⟩
    cases ns with
    | nil => exact iteT (q 0 H (Int.le_refl _) m0 Fx.refl ⟨[], hl, hn, hb⟩)
    | cons n ns =>
      refine iteF ?_
      refine ⟨_, rfl, .inl ⟨rfl, _, .inl (.inl hl)⟩, p, _, 0, 0, .int n, rfl, rfl, hl, by decide, by decide, by simp [seqIndex?], rfl, ?_⟩
      refine .inl ⟨n, rfl, _, rfl, n, m, rfl, rfl, m0, ?_⟩
      refine q _ _ (Int.emod_nonneg _ (by omega)) (Int.emod_lt_of_pos _ m0) Fx.set ⟨ns, upd_same, ?_, fun z hz => hb z (List.mem_cons_of_mem _ hz)⟩
      rw [List.length_cons] at hn
      omega
end
end Lw
namespace Lw
open PySem PySem.Spec PyProof.Rows L2 GrT
section
variable {P : Program} {w : World} {K : PySem.W.Frag} {mg : Str → Option Value} {base : Heap}
theorem scNumber : FnScope ["tape", "number", "k"] ["tape"] (defScope sNumber) := ⟨rfl, rfl, rfl, by decide +kernel, rfl, by decide +kernel, by decide +kernel⟩
theorem pow_step {m d : Int} {i : Nat} (h0 : 0 ≤ m) (h : m < 720720 ^ i) (d0 : 0 ≤ d) (d1 : d < 720720) : 0 ≤ m * 720720 + d ∧ m * 720720 + d < 720720 ^ (i + 1) := by
  have e : (720720 : Int) ^ (i + 1) = 720720 ^ i * 720720 := Int.pow_succ _ _
  rw [e]
  generalize (720720 : Int) ^ i = q at h
  omega
theorem c_number (T : Bt mg) (D : Dfn K mg "_law_number" sNumber ["tape"]) (c_law_take : Cal P w K mg base 1 "_law_take" spTake) : Cal P w K mg base 2 "_law_number" spNumber := by
  refine D.cal scNumber (fun vs H Q E h => ?_) (fun f cdv A outer s H vs Q E hr h => ?_)
  · obtain ⟨p, rfl, _⟩ := h
    rfl
  · obtain ⟨p, rfl, tp, q⟩ := h
    refine ⟨_, (pss_cons (ps_if (pt_cmpR op_lt (pe_c c_law_take hr (by decide) rfl (pa_cons (pv 0) (pa_cons pe_int pa_nil))) pe_int (nomark _))
      (pss_one (ps_ret (pe_c c_law_take hr (by decide) rfl (pa_cons (pv 0) (pa_cons pe_int pa_nil)))))
      pss_nil)
      (pss_cons (ps_set (i := 1) scNumber.nd rfl (Or.inl rfl) pe_int)
      (pss_cons (ps_for PassesOwn.never rfl (pi_range1 (by rfl) T.b_range (pa_cons pe_int pa_nil)) (pg_name (i := 2) scNumber.nd rfl (Or.inl rfl))
      (pss_one (ps_set (i := 1) scNumber.nd rfl (Or.inl rfl) (pe_op op_add (pe_op op_mul (pv 1) pe_int) (pe_c c_law_take hr (by decide) rfl (pa_cons (pv 0) (pa_cons pe_int pa_nil)))))))
      (pss_one (ps_ret (pv 1)))))), ?_⟩
    refine ⟨_, rfl, p, 4, rfl, tp, by decide, fun i H1 i0 i1 x1 t1 => ⟨_, _, rfl, rfl, _, rfl, ite2 (fun _ => ?_) (fun _ => ?_)⟩⟩
    · exact ⟨_, rfl, p, 10, rfl, t1, by decide, fun j H2 j0 j1 x2 t2 => q j H2 j0 (by omega) (x1.trans x2) t2⟩
    · refine ⟨5, rfl, by decide, by decide, for_range (lo := 0) (n := 5) (fun i σ H' => ∃ (m : Int) (kv : Option V), σ = [some (.ref p), some (.int m), kv] ∧ 0 ≤ m ∧ m < 720720 ^ i ∧ Fx p H H' ∧ Tape H' p)
        ⟨0, none, rfl, by decide, by decide, x1, t1⟩ ?_ ?_⟩
      · rintro i σ H' hi ⟨m, kv, rfl, m0, m1, x2, t2⟩
        refine ⟨_, rfl, _, _, rfl, rfl, .inr ⟨by decide, by decide⟩, _, rfl, p, 720720, rfl, t2, p72, fun d H3 d0 d1 x3 t3 => ⟨_, _, rfl, rfl, ?_⟩⟩
        have hp := pow_step m0 m1 d0 d1
        exact ⟨m * 720720 + d, _, rfl, hp.1, hp.2, x2.trans x3, t3⟩
      · rintro σ H' ⟨m, kv, rfl, m0, m1, x2, t2⟩
        have e5 : (720720 : Int) ^ 5 < 2 ^ 100 := by decide
        exact ⟨_, rfl, q m H' m0 (by omega) x2 t2⟩
theorem scWord : FnScope ["tape", "longest", "letters", "size", "word", "drawn", "k"] ["tape", "longest"] (defScope sWord) := ⟨rfl, rfl, rfl, by decide +kernel, rfl, by decide +kernel, by decide +kernel⟩
theorem abc_at : ∀ j : Nat, j < 26 → ((Str.ofString "abcdefghijklmnopqrstuvwxyz").cps.toList)[j]? = some (97 + j) := by decide +kernel
theorem abc_len : (Str.ofString "abcdefghijklmnopqrstuvwxyz").length = 26 := by decide +kernel
theorem abc_mod (d : Int) : ∃ c, letter c ∧ atI (Str.ofString "abcdefghijklmnopqrstuvwxyz").cps.toList (d % 26) = some c := by
  have h0 : 0 ≤ d % 26 := Int.emod_nonneg _ (by decide)
  have h1 : d % 26 < 26 := Int.emod_lt_of_pos _ (by decide)
  obtain ⟨j, hj⟩ : ∃ j : Nat, d % 26 = (j : Int) := ⟨(d % 26).toNat, by omega⟩
  refine ⟨97 + j, ⟨by omega, by omega⟩, ?_⟩
  rw [hj]
  exact atI_nat (abc_at j (by omega))
theorem len_tl (x : Str) : x.length = x.cps.toList.length := by simp [Str.length]
theorem cat_tl (x y : Str) : (x ++ y).cps.toList = x.cps.toList ++ y.cps.toList := SX.S_inj (by rw [SX.S_tl, ← SX.S_cat, SX.S_tl, SX.S_tl])
theorem cat_len (x y : Str) : (x ++ y).length = x.length + y.length := by rw [len_tl, len_tl x, len_tl y, cat_tl, List.length_append]
theorem Az.cat {x y : Str} (a : Az x) (b : Az y) : Az (x ++ y) := fun c hc => by
  rw [cat_tl] at hc
  rcases List.mem_append.mp hc with h | h
  · exact a c h
  · exact b c h
theorem cut_tl (x : Str) {i : Int} (h : 0 ≤ i) : (Txt.slice x none (some i)).cps.toList = x.cps.toList.take i.toNat := by
  have e := SX.slice_to (a := x.cps.toList) h
  rw [SX.S_tl] at e
  rw [e]
theorem Az.cut {x : Str} (a : Az x) {i : Int} (h : 0 ≤ i) : Az (Txt.slice x none (some i)) := fun c hc => by
  rw [cut_tl x h] at hc
  exact a c (List.mem_of_mem_take hc)
theorem cut_len (x : Str) {i : Int} (h : 0 ≤ i) : (Txt.slice x none (some i)).length = min i.toNat x.length := by rw [len_tl, cut_tl x h, List.length_take, len_tl x]
theorem one_len (c : Nat) : (⟨#[c]⟩ : Str).length = 1 := rfl
theorem Az.one {c : Nat} (h : letter c) : Az ⟨#[c]⟩ := fun d hd => by
  have e : d = c := by simpa using hd
  rw [e]
  exact h
theorem line_big {n : Nat} (h : n ≤ 100000) : n ≤ sizeLine := Nat.le_trans h (by rw [sizeLine_eq]; decide)
theorem c_word (T : Bt mg) (D : Dfn K mg "_law_word" sWord ["tape", "longest"]) (c_law_take : Cal P w K mg base 1 "_law_take" spTake) : Cal P w K mg base 2 "_law_word" spWord := by
  refine D.cal scWord (fun vs H Q E h => ?_) (fun f cdv A outer s H vs Q E hr h => ?_)
  · obtain ⟨p, m, rfl, _⟩ := h
    rfl
  · obtain ⟨p, m, rfl, tp, m0, m1, q⟩ := h
    refine ⟨_, (pss_cons (ps_set (i := 2) scWord.nd rfl (Or.inl rfl) pe_str)
      (pss_cons (ps_set (i := 3) scWord.nd rfl (Or.inl rfl) (pe_op op_add pe_int (pe_c c_law_take hr (by decide) rfl (pa_cons (pv 0) (pa_cons (pv 1) pa_nil)))))
      (pss_cons (ps_set (i := 4) scWord.nd rfl (Or.inl rfl) pe_str)
      (pss_cons (ps_while PassesOwn.never (pt_cmpR op_lt (pe_callB call_len_str (by rfl) T.b_len PySem.boot_len (pa_cons (pv 4) pa_nil)) (pv 3) (nomark _))
      (pss_cons (ps_set (i := 5) scWord.nd rfl (Or.inl rfl) (pe_c c_law_take hr (by decide) rfl (pa_cons (pv 0) (pa_cons pe_int pa_nil))))
      (pss_one (ps_for PassesOwn.never rfl (pi_range1 (by rfl) T.b_range (pa_cons pe_int pa_nil)) (pg_name (i := 6) scWord.nd rfl (Or.inl rfl))
      (pss_cons (ps_set (i := 4) scWord.nd rfl (Or.inl rfl) (pe_op op_add_str (pv 4) (pe_ix ix_str (pv 2) (pe_op op_mod (pe_callTy call_int1 (by rfl) T.b_int (by decide +kernel) (pa_cons (pv 5) pa_nil)) pe_int) (fun _ _ => rfl))))
      (pss_one (ps_set (i := 5) scWord.nd rfl (Or.inl rfl) (pe_op op_fdiv (pv 5) pe_int))))))))
      (pss_one (ps_ret (pe_slice C8.sl_txt (pv 4) po_none (po_some (pv 3))))))))), ?_⟩
    refine ⟨_, rfl, _, rfl, p, m, rfl, tp, m0, fun z H1 z0 z1 x1 t1 => ⟨_, _, rfl, rfl, ?_⟩⟩
    refine ⟨fun n σ H' => ∃ (x : Str) (dv kv : Option V), σ = [some (.ref p), some (.int m), some (.str "abcdefghijklmnopqrstuvwxyz"), some (.int (1 + z)), some (.str x), dv, kv] ∧ n = 200 - x.length ∧ x.length ≤ 150 ∧ Az x ∧ Fx p H H' ∧ Tape H' p,
      ⟨_, Str.ofString "", none, none, rfl, rfl, by decide, (fun c hc => by cases hc), x1, t1⟩, ?_⟩
    rintro n σ H' ⟨x, dv, kv, rfl, rfl, xl, xa, x2, t2⟩
    refine ⟨_, rfl, x, rfl, line_big (by omega), _, rfl, _, _, rfl, rfl, _, rfl, ite2 (fun hlt => ?_) (fun hge => ?_)⟩
    · have hlt' := of_decide_eq_true hlt
      refine ⟨fun σ' H2 => ∃ (y : Str) (dv kv : Option V), σ' = [some (.ref p), some (.int m), some (.str "abcdefghijklmnopqrstuvwxyz"), some (.int (1 + z)), some (.str y), dv, kv] ∧ y.length = x.length + 4 ∧ Az y ∧ Fx p H H2 ∧ Tape H2 p,
        fun σ' H2 hN => ?_, ?_⟩
      · obtain ⟨y, dv, kv, rfl, yl, ya, x3, t3⟩ := hN
        exact ⟨200 - y.length, by omega, y, dv, kv, rfl, rfl, by omega, ya, x3, t3⟩
      · refine ⟨_, rfl, p, 720720, rfl, t2, p72, fun d H3 d0 d1 x3 t3 => ?_⟩
        refine ⟨4, rfl, by decide, by decide, for_range (lo := 0) (n := 4) (fun i σ' H2 => ∃ (y : Str) (d : Int) (kv : Option V), σ' = [some (.ref p), some (.int m), some (.str "abcdefghijklmnopqrstuvwxyz"), some (.int (1 + z)), some (.str y), some (.int d), kv] ∧ y.length = x.length + i ∧ Az y ∧ Fx p H H2 ∧ Tape H2 p)
          ⟨x, d, kv, rfl, rfl, xa, x2.trans x3, t3⟩ ?_ ?_⟩
        · rintro i σ' H2 hi ⟨y, d, kv, rfl, yl, ya, x4, t4⟩
          obtain ⟨c, hc, hat⟩ := abc_mod d
          refine ⟨_, rfl, _, rfl, _, rfl, .inl ⟨_, rfl, _, _, rfl, rfl, (by decide : (0 : Int) < 26), ?_⟩⟩
          refine ⟨_, _, c, rfl, rfl, by rw [abc_len]; exact line_big (by decide), hat, _, _, rfl, rfl, ?_, ?_⟩
          · rw [one_len]
            exact line_big (by omega)
          · refine ⟨_, rfl, _, _, rfl, rfl, ⟨by decide, by decide⟩, ?_⟩
            exact ⟨_, _, _, rfl, by rw [cat_len, yl, one_len]; omega, ya.cat (Az.one hc), x4, t4⟩
        · rintro σ' H2 ⟨y, d, kv, rfl, yl, ya, x4, t4⟩
          exact ⟨y, _, _, rfl, yl, ya, x4, t4⟩
    · have hge' : ¬ ((x.length : Int) < 1 + z) := fun c => hge (decide_eq_true c)
      refine ⟨_, rfl, _, rfl, _, rfl, x, rfl, line_big (by omega), ?_⟩
      have h1z : 0 ≤ 1 + z := by omega
      refine q _ H' ?_ ?_ (xa.cut h1z) x2 t2
      · rw [cut_len x h1z]
        omega
      · rw [cut_len x h1z]
        omega
end
end Lw
namespace Lw
open PySem PySem.Spec PyProof.Rows L2 GrT
/-! ### texts in a list, counted -/
theorem inV_str {a : Str} : ∀ {bs : List Str}, inV (.str a) (bs.map V.str) = true ↔ a ∈ bs
  | [] => by simp [inV]
  | b :: bs => by
    have ih := inV_str (a := a) (bs := bs)
    unfold inV at ih ⊢
    rw [List.map_cons, List.any_cons, Bool.or_eq_true, ih, List.mem_cons]
    have e : eqV (.str b) (.str a) = true ↔ a = b := by
      show (b == a) = true ↔ a = b
      rw [beq_iff_eq]
      exact eq_comm
    rw [e]
theorem flat_str (bs : List Str) : (bs.map V.str).all flatV = true := by
  rw [List.all_map, List.all_eq_true]
  intro x _
  rfl
theorem sub_len {α : Type} [DecidableEq α] : ∀ {l m : List α}, l.Nodup → (∀ x ∈ l, x ∈ m) → l.length ≤ m.length
  | [], m, _, _ => Nat.zero_le _
  | a :: l, m, nd, h => by
    have nd' := List.nodup_cons.mp nd
    have hm := h a List.mem_cons_self
    have ih := sub_len (l := l) (m := m.erase a) nd'.2 fun x hx => by
      have ne : x ≠ a := fun e => nd'.1 (e ▸ hx)
      exact (List.mem_erase_of_ne ne).mpr (h x (List.mem_cons_of_mem _ hx))
    rw [List.length_erase_of_mem hm] at ih
    have : 0 < m.length := List.length_pos_of_mem hm
    rw [List.length_cons]
    omega
theorem nodup_map {α β : Type} {f : α → β} : ∀ {l : List α}, l.Nodup → (∀ a ∈ l, ∀ b ∈ l, f a = f b → a = b) → (l.map f).Nodup
  | [], _, _ => List.nodup_nil
  | a :: l, nd, h => by
    have nd' := List.nodup_cons.mp nd
    rw [List.map_cons]
    refine List.nodup_cons.mpr ⟨fun hm => ?_, nodup_map nd'.2 fun x hx y hy => h x (List.mem_cons_of_mem _ hx) y (List.mem_cons_of_mem _ hy)⟩
    obtain ⟨b, hb, e⟩ := List.mem_map.mp hm
    have := h b (List.mem_cons_of_mem _ hb) a List.mem_cons_self e
    exact nd'.1 (this ▸ hb)
/-- a text and one of the twenty-six signs behind it -/
def cand (u : Str) (j : Nat) : Str := u ++ ⟨#[97 + j]⟩
theorem cand_inj {u : Str} {i j : Nat} (h : cand u i = cand u j) : i = j := by
  have e := congrArg (fun x : Str => x.cps.toList) h
  simp only [cand, cat_tl] at e
  have e2 := List.append_cancel_left e
  simp at e2
  exact e2
theorem some_free (u : Str) (bs : List Str) (h : bs.length < 26) : ∃ j, j < 26 ∧ cand u j ∉ bs := by
  by_cases q : ∃ j, j < 26 ∧ cand u j ∉ bs
  · exact q
  · have all : ∀ x ∈ (List.range 26).map (cand u), x ∈ bs := fun x hx => by
      obtain ⟨j, hj, rfl⟩ := List.mem_map.mp hx
      by_cases m : cand u j ∈ bs
      · exact m
      · exact absurd ⟨j, List.mem_range.mp hj, m⟩ q
    have nd : ((List.range 26).map (cand u)).Nodup := nodup_map List.nodup_range fun a _ b _ e => cand_inj e
    have := sub_len nd all
    rw [List.length_map, List.length_range] at this
    omega
/-! ### rules where the written part is named (within a comprehension's block) -/
theorem op_notInK {X : Cx} {K : PySem.W.Frag} (h : X.K = K) : OpR X (compareOp .NotIn) (rIn K true) := h ▸ op_notIn_seq
theorem op_inK {X : Cx} {K : PySem.W.Frag} (h : X.K = K) : OpR X (compareOp .In) (rIn K false) := h ▸ op_in_seq
theorem ix_listK {X : Cx} {K : PySem.W.Frag} (h : X.K = K) : IxR X (rIxL K) := h ▸ ix_list
/-! ### tests of which nothing is told -/
def tU (R : L2.St → Hp → Prop) : TT := fun σ H Q => R σ H ∧ Q true H ∧ Q false H
def quiet (t : TT) : L2.St → Hp → Prop := fun σ H => t σ H fun _ H1 => H1 = H
theorem pt_U {X : Cx} {e : Expr} {t : TT} (h : PT X e t) : PT X e (tU (quiet t)) := ⟨fun pins s σ H Q I q => thn (h.run pins s σ H _ I q.1) fun b s1 hb => by
  obtain ⟨H1, I1, rfl⟩ := hb
  cases b
  · exact ⟨_, I1, q.2.2⟩
  · exact ⟨_, I1, q.2.1⟩⟩
theorem pw_orU1 {X : Cx} {a : Expr} {t : TT} {pos : Pos} (h : PT X a t) : PW X (.BoolOp .Or [a] pos) (tU (quiet t)) := pw_or1 (pt_U h)
theorem pw_orU {X : Cx} {a b : Expr} {rest : List Expr} {t : TT} {R : L2.St → Hp → Prop} {pos : Pos} (ha : PT X a t) (hb : PW X (.BoolOp .Or (b :: rest) pos) (tU R)) : PW X (.BoolOp .Or (a :: b :: rest) pos) (tU fun σ H => quiet t σ H ∧ R σ H) := by
  have z := pw_or (pt_U ha) hb
  refine ⟨fun wh pins s σ H Q I q => z.run wh pins s σ H Q I ?_⟩
  obtain ⟨⟨q1, q2⟩, q3, q4⟩ := q
  exact ⟨q1, iteT q3, iteF ⟨q2, q3, q4⟩⟩
theorem un_ne {H : Hp} {a b : Addr} {o : HO} (h : upd H a o b = none) : b ≠ a := fun e => by
  rw [e, upd_same] at h
  cases h
theorem un {H : Hp} {a b : Addr} {o : HO} (h : upd H a o b = none) : H b = none := by
  exact (upd_ne (o := o) (un_ne h)).symm.trans h
theorem Tape.ne'' {H : Hp} {p a : Addr} (t : Tape H p) (h : H a = none) : a ≠ p := fun e => by
  obtain ⟨ns, q, _⟩ := t
  rw [e, q] at h
  cases h
theorem Tape.ne' {H H' : Hp} {p a : Addr} (_ : Tape H' p) (h : H a = none) (t : Tape H p) : a ≠ p := t.ne'' h
/-- a drawn name -/
structure Nm (x : Str) : Prop where
  one : 1 ≤ x.length
  eight : x.length ≤ 8
  az : Az x
def spWords : Sp := fun vs H Q _ => ∃ (p tk : Addr) (m : Int) (ts : List Str), vs = [.ref p, .int m, .ref tk] ∧ Tape H p ∧ H tk = some (.lst (ts.map V.str)) ∧ tk ≠ p ∧ 0 ≤ m ∧ m + ts.length ≤ 20 ∧
  ∀ (W : Addr) (ws : List Str) H', H W = none → H' W = some (.lst (ws.map V.str)) → (ws.length : Int) = m → (∀ x ∈ ws, Nm x) → Fx p H H' → Tape H' p → Q (.ref W) H'
section
variable {P : Program} {w : World} {K : PySem.W.Frag} {mg : Str → Option Value} {base : Heap}
theorem scWords : FnScope ["tape", "many", "taken", "reserved", "words", "k", "word", "barred", "ends", "letter"] ["tape", "many", "taken"] (defScope sWords) := ⟨rfl, rfl, rfl, by decide +kernel, rfl, by decide +kernel, by decide +kernel⟩
theorem q_one : (Str.ofString "q").cps.toList = [113] := by decide +kernel
theorem q_len : (Str.ofString "q").length = 1 := by decide +kernel
theorem q_az : Az (Str.ofString "q") := fun c hc => by
  rw [q_one] at hc
  have e : c = 113 := by simpa using hc
  rw [e]
  exact ⟨by decide, by decide⟩
theorem words_cut {σ : L2.St} {i : Nat} : True := trivial
theorem c_words (T : Bt mg) (D : Dfn K mg "_law_words" sWords ["tape", "many", "taken"]) (c_law_word : Cal P w K mg base 2 "_law_word" spWord) : Cal P w K mg base 3 "_law_words" spWords := by
  refine D.cal scWords (fun vs H Q E h => ?_) (fun f cdv A outer s H vs Q E hr h => ?_)
  · obtain ⟨p, tk, m, ts, rfl, _⟩ := h
    rfl
  · obtain ⟨p, tk, m, ts, rfl, tp, htk, tkp, m0, m1, q⟩ := h
    refine ⟨_, (pss_cons (ps_set (i := 3) scWords.nd rfl (Or.inl rfl) (pe_lst (pa_cons pe_str (pa_cons pe_str (pa_cons pe_str (pa_cons pe_str (pa_cons pe_str (pa_cons pe_str (pa_cons pe_str (pa_cons pe_str (pa_cons pe_str (pa_cons pe_str (pa_cons pe_str (pa_cons pe_str (pa_cons pe_str (pa_cons pe_str pa_nil))))))))))))))))
      (pss_cons (ps_set (i := 3) scWords.nd rfl (Or.inl rfl) (pe_op op_cat (pv 3) (pe_lst (pa_cons pe_str (pa_cons pe_str (pa_cons pe_str (pa_cons pe_str pa_nil)))))))
      (pss_cons (ps_set (i := 4) scWords.nd rfl (Or.inl rfl) (pe_lst pa_nil))
      (pss_cons (ps_for PassesOwn.never rfl (pi_range1 (by rfl) T.b_range (pa_cons (pv 1) pa_nil)) (pg_name (i := 5) scWords.nd rfl (Or.inl rfl))
      (pss_cons (ps_set (i := 6) scWords.nd rfl (Or.inr rfl) (pe_c c_law_word hr (by decide) rfl (pa_cons (pv 0) (pa_cons pe_int pa_nil))))
      (C8.pss_cut (ps_if (PW.pt (pw_orU (pt_cmpR op_in_seq (pv 6) (pv 3) (by rfl)) (pw_orU (pt_cmpR op_in_seq (pv 6) (pv 4) (by rfl)) (pw_orU1 (pt_cmpR op_in_seq (pv 6) (pv 2) (by rfl))))))
      (pss_cons (ps_set (i := 7) scWords.nd rfl (Or.inr rfl) (pe_op op_cat (pv 4) (pv 2)))
      (pss_cons (ps_setLc (i := 8) (own := [("letter", 9)]) (g := gName 9) rfl scWords.nd rfl rfl (sw_true rfl rfl rfl (by decide +kernel)) (pi_str pe_str) (blkOk_by (own := [("letter", 9)]) (N := ["tape", "many", "taken", "reserved", "words", "k", "word", "barred", "ends", "letter"]) (sc := defScope sWords) (by decide +kernel)) (fun _ _ _ _ _ => pg_name (i := 9) scWords.nd rfl (Or.inl rfl)) (fun _ _ _ _ _ => (by exact (pts_one (pt_cmpR (op_notInK (K := K) rfl) (pe_op op_add_str (pe_op op_add_str (pe_slice C8.sl_txt (pv 6) po_none (po_some pe_int)) pe_str) (pv 9)) (pv 7) (by rfl))))) (fun _ _ _ _ _ => (pv 9)))
      (pss_one (ps_set (i := 6) scWords.nd rfl (Or.inr rfl) (pe_op op_add_str (pe_op op_add_str (pe_slice C8.sl_txt (pv 6) po_none (po_some pe_int)) pe_str) (pe_ix ix_list (pv 8) pe_int (fun _ _ => rfl)))))))
      pss_nil)
      (pss_one (ps_expr (pe_bm PySem.F.plainAttrs_list PySem.F.slot_list_append PySem.F.type_list_append mt_append (pv 4) (pa_cons (pv 6) pa_nil)))))))
      (pss_one (ps_ret (pv 4))))))), ?_⟩
    refine ⟨by rw [sizeLine_eq]; decide, fun r1 hr1 => ?_⟩
    refine ⟨_, rfl, by rw [sizeLine_eq]; decide, fun r2 hr2 => ?_⟩
    have r12 : r1 ≠ r2 := ne_of_none upd_same hr2
    refine ⟨r1, r2, _, _, rfl, rfl, by rw [upd_ne r12]; exact upd_same, upd_same, by rw [sizeLine_eq]; decide, fun R hR => ?_⟩
    refine ⟨Nat.zero_le _, fun W hW => ?_⟩
    have hR0 := un (un hR)
    have hW0 := un (un (un hW))
    have eR : (upd (upd (upd (upd H r1 (.lst [V.str "add", V.str "and", V.str "cut", V.str "def", V.str "drop", V.str "else", V.str "has", V.str "if", V.str "in", V.str "is", V.str "let", V.str "not", V.str "only", V.str "put"])) r2 (.lst [V.str "record", V.str "rename", V.str "then", V.str "to"])) R
      (.lst ([V.str "add", V.str "and", V.str "cut", V.str "def", V.str "drop", V.str "else", V.str "has", V.str "if", V.str "in", V.str "is", V.str "let", V.str "not", V.str "only", V.str "put"] ++ [V.str "record", V.str "rename", V.str "then", V.str "to"]))) W (.lst [])) R = some (.lst ([V.str "add", V.str "and", V.str "cut", V.str "def", V.str "drop", V.str "else", V.str "has", V.str "if", V.str "in", V.str "is", V.str "let", V.str "not", V.str "only", V.str "put"] ++ [V.str "record", V.str "rename", V.str "then", V.str "to"])) := by
      rw [upd_ne (un_ne hW).symm]
      exact upd_same
    generalize hrs : ([V.str "add", V.str "and", V.str "cut", V.str "def", V.str "drop", V.str "else", V.str "has", V.str "if", V.str "in", V.str "is", V.str "let", V.str "not", V.str "only", V.str "put"] ++ [V.str "record", V.str "rename", V.str "then", V.str "to"] : List V) = rs at eR hR hW ⊢
    have hfl : rs.all flatV = true := by
      rw [← hrs]
      rfl
    have x0 := (((((Fx.refl (T := p) (H := H)).new (o := .lst [V.str "add", V.str "and", V.str "cut", V.str "def", V.str "drop", V.str "else", V.str "has", V.str "if", V.str "in", V.str "is", V.str "let", V.str "not", V.str "only", V.str "put"]) hr1).new (o := .lst [V.str "record", V.str "rename", V.str "then", V.str "to"]) hr2).new (o := .lst rs) hR).new (o := .lst []) hW)
    have t0 := ((((tp.new (o := .lst [V.str "add", V.str "and", V.str "cut", V.str "def", V.str "drop", V.str "else", V.str "has", V.str "if", V.str "in", V.str "is", V.str "let", V.str "not", V.str "only", V.str "put"]) hr1).new (o := .lst [V.str "record", V.str "rename", V.str "then", V.str "to"]) hr2).new (o := .lst rs) hR).new (o := .lst []) hW)
    generalize hH0 : upd (upd (upd (upd H r1 (.lst [V.str "add", V.str "and", V.str "cut", V.str "def", V.str "drop", V.str "else", V.str "has", V.str "if", V.str "in", V.str "is", V.str "let", V.str "not", V.str "only", V.str "put"])) r2 (.lst [V.str "record", V.str "rename", V.str "then", V.str "to"])) R (.lst rs)) W (.lst []) = H0 at eR x0 t0 ⊢
    have eW : H0 W = some (.lst []) := by
      rw [← hH0]
      exact upd_same
    have RW : R ≠ W := (un_ne hW).symm
    have Rp : R ≠ p := t0.ne' hR0 tp
    have Wp : W ≠ p := t0.ne' hW0 tp
    have kW : tk ≠ W := ne_of_none htk hW0
    refine ⟨_, rfl, m, rfl, by omega, by omega, for_range (lo := 0) (n := m.toNat) (fun i σ H' => ∃ (kv wv bv ev lv : Option V) (ws : List Str), σ = [some (.ref p), some (.int m), some (.ref tk), some (.ref R), some (.ref W), kv, wv, bv, ev, lv] ∧
      H' R = some (.lst rs) ∧ H' W = some (.lst (ws.map V.str)) ∧ H' tk = some (.lst (ts.map V.str)) ∧ ws.length = i ∧ (∀ x ∈ ws, Nm x) ∧ Fx p H H' ∧ Tape H' p)
      ⟨none, none, none, none, none, [], rfl, eR, eW, x0 _ _ tkp htk, rfl, (fun x hx => by cases hx), x0, t0⟩ ?_ ?_⟩
    · rintro i σ H' hi ⟨kv, wv, bv, ev, lv, ws, rfl, aR, aW, ak, wl, wn, x1, t1⟩
      refine ⟨_, rfl, p, 8, rfl, t1, by decide, by decide, fun x H3 xl1 xl8 xa y3 t3 => ?_⟩
      have bR := y3 _ _ Rp aR
      have bW := y3 _ _ Wp aW
      have bk := y3 _ _ tkp ak
      refine ⟨fun σ' H2 => ∃ (kv bv ev lv : Option V) (y : Str), σ' = [some (.ref p), some (.int m), some (.ref tk), some (.ref R), some (.ref W), kv, some (.str y), bv, ev, lv] ∧ Nm y ∧
        H2 R = some (.lst rs) ∧ H2 W = some (.lst (ws.map V.str)) ∧ H2 tk = some (.lst (ts.map V.str)) ∧ Fx p H H2 ∧ Tape H2 p, ⟨⟨⟨_, rfl, _, rfl, R, rs, rfl, .inl (SqL.of bR), rfl, hfl, _, rfl, rfl⟩, ⟨_, rfl, _, rfl, W, _, rfl, .inl (SqL.of bW), rfl, flat_str _, _, rfl, rfl⟩, ⟨_, rfl, _, rfl, tk, _, rfl, .inl (SqL.of bk), rfl, flat_str _, _, rfl, rfl⟩⟩, iteT ?_, iteF ?_⟩, ?_⟩
      · -- a name that is taken: another end
        refine ⟨_, rfl, _, rfl, W, tk, _, _, rfl, rfl, bW, bk, line_big (by rw [List.length_map, List.length_map]; omega), fun B hB => ?_⟩
        have Bp : B ≠ p := t3.ne'' hB
        have x3 : Fx p H (upd H3 B (.lst (ws.map V.str ++ ts.map V.str))) := (x1.trans y3).new hB
        have t4 : Tape (upd H3 B (.lst (ws.map V.str ++ ts.map V.str))) p := t3.new hB
        have eB : ws.map V.str ++ ts.map V.str = (ws ++ ts).map V.str := by rw [List.map_append]
        rw [eB] at x3 t4 ⊢
        have cR : upd H3 B (.lst ((ws ++ ts).map V.str)) R = some (.lst rs) := by rw [upd_ne (ne_of_none bR hB)]; exact bR
        have cW : upd H3 B (.lst ((ws ++ ts).map V.str)) W = some (.lst (ws.map V.str)) := by rw [upd_ne (ne_of_none bW hB)]; exact bW
        have ck : upd H3 B (.lst ((ws ++ ts).map V.str)) tk = some (.lst (ts.map V.str)) := by rw [upd_ne (ne_of_none bk hB)]; exact bk
        generalize hH4 : upd H3 B (.lst ((ws ++ ts).map V.str)) = H4 at x3 t4 cR cW ck ⊢
        have cB : H4 B = some (.lst ((ws ++ ts).map V.str)) := by
          rw [← hH4]
          exact upd_same
        -- the signs that give a free name
        have ul : (Txt.slice x none (some 6) ++ Str.ofString "q").length ≤ 7 := by
          rw [cat_len, cut_len x (by decide), q_len]
          omega
        have ua : Az (Txt.slice x none (some 6) ++ Str.ofString "q") := (xa.cut (by decide)).cat q_az
        obtain ⟨j0, hj0, free⟩ := some_free (Txt.slice x none (some 6) ++ Str.ofString "q") (ws ++ ts) (by rw [List.length_append]; omega)
        refine ⟨_, rfl, fun Z hZ => lc_it walk_str (fun i H5 => ∃ es : List Nat, H5 Z = some (.lst (es.map fun c => V.str ⟨#[c]⟩)) ∧ es.length ≤ i ∧ (∀ c ∈ es, letter c) ∧ (j0 < i → es ≠ []) ∧ (∀ b o, b ≠ Z → H4 b = some o → H5 b = some o))
          ⟨[], upd_same, Nat.le_refl _, (fun c hc => by cases hc), (fun h => absurd h (Nat.not_lt_zero _)), fun b o hb e => by rw [upd_ne hb]; exact e⟩ (fun _ _ _ _ => True.intro) ?_ ?_⟩
        · rintro i5 y5 H5 H6 hi5 ⟨es, e1, e2, e3, e4, e5⟩ ⟨rfl, c, hc, rfl⟩
          have cc : c = 97 + i5 := by
            have h26 : i5 < 26 := by
              have := (Array.getElem?_eq_some_iff.mp hc).1
              have q := abc_len
              unfold Str.length at q
              omega
            have z := abc_at i5 h26
            rw [Array.getElem?_toList, hc] at z
            exact Option.some.inj z
          subst cc
          have h26 : i5 < 26 := by
            have := (Array.getElem?_eq_some_iff.mp hc).1
            have q := abc_len
            unfold Str.length at q
            omega
          have BZ : B ≠ Z := ne_of_none cB hZ
          refine ⟨rfl, _, rfl, _, rfl, x, rfl, line_big (by omega), _, _, rfl, rfl, line_big (by rw [cut_len x (by decide), q_len]; omega), _, rfl, _, _, rfl, rfl, line_big (by rw [one_len]; omega), _, rfl, B, _, rfl, .inl (SqL.of (e5 _ _ BZ cB)), rfl, flat_str _, _, rfl, ?_⟩
          refine ite2 (fun _ => ?_) (fun hno => ?_)
          · refine ⟨_, rfl, _, e1, line_big (by rw [List.length_map]; omega), es ++ [97 + i5], by rw [upd_same, List.map_append]; rfl, by rw [List.length_append]; simpa using e2, fun c h => ?_, fun _ h => ?_, fun b o nb e => by rw [upd_ne nb]; exact e5 b o nb e⟩
            · rcases List.mem_append.mp h with h | h
              · exact e3 c h
              · rw [List.mem_singleton.mp h]
                exact ⟨by omega, by omega⟩
            · simp at h
          · refine ⟨es, e1, by omega, e3, fun h => ?_, e5⟩
            by_cases hj : j0 < i5
            · exact e4 hj
            · have ej : j0 = i5 := by omega
              refine absurd ?_ hno
              show (!inV (V.str (cand (Txt.slice x none (some 6) ++ Str.ofString "q") i5)) ((ws ++ ts).map V.str)) = true
              rw [← ej, Bool.not_eq_true', ← Bool.not_eq_true]
              exact fun z => free (inV_str.mp z)
        · rintro H5 ⟨es, e1, e2, e3, e4, e5⟩
          have ne : es ≠ [] := e4 (by
            have q := abc_len
            unfold Str.length at q
            omega)
          obtain ⟨c, es, rfl⟩ : ∃ c es', es = c :: es' := by
            cases es with
            | nil => exact absurd rfl ne
            | cons c es => exact ⟨c, es, rfl⟩
          have hc := e3 c List.mem_cons_self
          refine ⟨_, rfl, _, rfl, x, rfl, line_big (by omega), _, _, rfl, rfl, line_big (by rw [cut_len x (by decide), q_len]; omega), _, rfl, Z, _, _, _, rfl, rfl, SqL.of e1, atI_nat (j := 0) rfl, _, _, rfl, rfl, line_big (by rw [one_len]; omega), ?_⟩
          have BZ : B ≠ Z := ne_of_none cB hZ
          refine ⟨_, _, _, _, (Txt.slice x none (some 6) ++ Str.ofString "q") ++ ⟨#[c]⟩, rfl, ⟨?_, ?_, ua.cat (Az.one hc)⟩, e5 _ _ (ne_of_none cR hZ) cR, e5 _ _ (ne_of_none cW hZ) cW, e5 _ _ (ne_of_none ck hZ) ck, ?_, ?_⟩
          · rw [cat_len, one_len]
            omega
          · rw [cat_len, one_len]
            omega
          · exact fun b o nb e => e5 b o (ne_of_none (x3 b o nb e) hZ) (x3 b o nb e)
          · obtain ⟨ns, tl, tz⟩ := t4
            exact ⟨ns, e5 p _ (ne_of_none tl hZ) tl, tz⟩
      · exact ⟨_, _, _, _, x, rfl, ⟨xl1, by omega, xa⟩, bR, bW, bk, x1.trans y3, t3⟩
      · rintro σ' H2 ⟨kv, bv, ev, lv, y, rfl, yn, cR, cW, ck, x4, t4⟩
        refine ⟨_, rfl, .inl ⟨rfl, _, .inl (.inl cW)⟩, _, rfl, W, _, _, rfl, rfl, cW, small1000 (by rw [List.length_map]; omega), ?_⟩
        refine ⟨_, _, _, _, _, ws ++ [y], rfl, ?_, ?_, ?_, by rw [List.length_append, wl]; rfl, fun z hz => ?_, fun b o nb e => ?_, t4.put Wp⟩
        · rw [upd_ne RW]
          exact cR
        · rw [upd_same, List.map_append]
          rfl
        · rw [upd_ne kW]
          exact ck
        · rcases List.mem_append.mp hz with h | h
          · exact wn z h
          · rw [List.mem_singleton.mp h]
            exact yn
        · rw [upd_ne (ne_of_none e hW0)]
          exact x4 b o nb e
    · rintro σ H' ⟨kv, wv, bv, ev, lv, ws, rfl, aR, aW, ak, wl, wn, x1, t1⟩
      exact ⟨_, rfl, q W ws H' hW0 aW (by omega) wn x1 t1⟩
end
end Lw
namespace Lw
open PySem PySem.Spec PyProof.Rows L2 GrT
abbrev sLong : Stmt := top 21
abbrev sPool : Stmt := top 22
abbrev sFields : Stmt := top 23
abbrev sCount : Stmt := top 25
abbrev sSorted : Stmt := top 26
abbrev sIsInt : Stmt := top 27
abbrev sTold : Stmt := top 28
abbrev sLaw : Stmt := top 33
/-! ### a text some times over -/
theorem op_mul_str {X : Cx} : OpR X (binaryOp .Mult) (fun x y H Q => ∃ i n, x = .str i ∧ y = .int n ∧ MulOk i n ∧ Q (.str (PySem.Txt.mul i n)) H) := by
  intro pins s σ H x y v u Q I rx ry h
  obtain ⟨i, n, rfl, rfl, hz, q⟩ := h
  obtain ⟨t, rfl⟩ := rx
  obtain ⟨t', rfl⟩ := ry
  exact PySem.SB.mul hz (fun t' tk => ⟨.str (PySem.Txt.mul i n), H, I.tok _, ⟨_, rfl⟩, q⟩)
theorem fold_tl (a : Array Nat) : ∀ (k : Nat) (acc : Array Nat), ((List.replicate k a).foldl (· ++ ·) acc).toList = acc.toList ++ (List.replicate k a.toList).flatten
  | 0, acc => by simp
  | k + 1, acc => by
    rw [List.replicate_succ, List.foldl_cons, fold_tl a k, List.replicate_succ, List.flatten_cons, Array.toList_append, List.append_assoc]
theorem mul_tl {x : Str} {n : Int} (h1 : 1 < n) (hx : 1 ≤ x.length) : (PySem.Txt.mul x n).cps.toList = (List.replicate n.toNat x.cps.toList).flatten := by
  unfold PySem.Txt.mul
  rw [if_neg (by omega)]
  have e : ¬ ((n == 1 || x.length == 0) = true) := by
    intro h
    rcases Bool.or_eq_true _ _ ▸ h with h | h
    · have := eq_of_beq h
      omega
    · have := eq_of_beq h
      omega
  rw [if_neg e, fold_tl]
  simp
theorem mul_len {x : Str} {n : Int} (h1 : 1 < n) (hx : 1 ≤ x.length) : (PySem.Txt.mul x n).length = n.toNat * x.length := by
  rw [len_tl, mul_tl h1 hx, List.length_flatten, List.map_replicate, List.sum_replicate_nat, len_tl x]
theorem Az.mul {x : Str} {n : Int} (a : Az x) (h1 : 1 < n) (hx : 1 ≤ x.length) : Az (PySem.Txt.mul x n) := fun c hc => by
  rw [mul_tl h1 hx] at hc
  obtain ⟨l, hl, hcl⟩ := List.mem_flatten.mp hc
  rw [List.eq_of_mem_replicate hl] at hcl
  exact a c hcl
theorem Nm.good {x : Str} (h : Nm x) : Good x := ⟨h.one, Nat.le_trans h.eight (by decide), h.az⟩
def spLong : Sp := fun vs H Q _ => ∃ (p : Addr) (x : Str), vs = [.ref p, .str x] ∧ Tape H p ∧ Nm x ∧ ∀ (y : Str) H', Good y → Fx p H H' → Tape H' p → Q (.str y) H'
def spPool : Sp := fun vs H Q _ => ∃ (p : Addr) (m : Int), vs = [.ref p, .int m] ∧ Tape H p ∧ 0 ≤ m ∧ m ≤ 20 ∧
  ∀ (W : Addr) (ws : List Str) H', H W = none → H' W = some (.lst (ws.map V.str)) → (ws.length : Int) = m → (∀ x ∈ ws, Good x) → Fx p H H' → Tape H' p → Q (.ref W) H'
section
variable {P : Program} {w : World} {K : PySem.W.Frag} {mg : Str → Option Value} {base : Heap}
theorem scLong : FnScope ["tape", "word"] ["tape", "word"] (defScope sLong) := ⟨rfl, rfl, rfl, by decide +kernel, rfl, by decide +kernel, by decide +kernel⟩
theorem mulOk30 {x : Str} (h : x.length ≤ 8) : MulOk x 30 := by
  refine ⟨by decide, fun _ _ => ?_, fun _ _ => ?_⟩
  · have : ((2 : Int) ^ 63 - 1) / 30 = 307445734561825860 := by decide
    omega
  · have e : (30 : Int).toNat = 30 := rfl
    rw [e]
    unfold Builtin.Str.tooLong
    have := line_big (n := x.length * 30) (by omega)
    exact decide_eq_false (by omega)
theorem c_long (T : Bt mg) (D : Dfn K mg "_law_long" sLong ["tape", "word"]) (c_law_take : Cal P w K mg base 1 "_law_take" spTake) : Cal P w K mg base 2 "_law_long" spLong := by
  refine D.cal scLong (fun vs H Q E h => ?_) (fun f cdv A outer s H vs Q E hr h => ?_)
  · obtain ⟨p, x, rfl, _⟩ := h
    rfl
  · obtain ⟨p, x, rfl, tp, nx, q⟩ := h
    refine ⟨_, (pss_cons (ps_if (pt_cmpR op_eq (pe_c c_law_take hr (by decide) rfl (pa_cons (pv 0) (pa_cons pe_int pa_nil))) pe_int (nomark _))
      (pss_one (ps_ret (pe_slice C8.sl_txt (pe_op op_mul_str (pv 1) pe_int) po_none (po_some (pe_op op_add pe_int (pe_c c_law_take hr (by decide) rfl (pa_cons (pv 0) (pa_cons pe_int pa_nil))))))))
      pss_nil)
      (pss_one (ps_ret (pv 1)))), ?_⟩
    refine ⟨_, rfl, p, 4, rfl, tp, by decide, fun i H1 i0 i1 x1 t1 => ⟨rfl, _, rfl, ite2 (fun _ => ?_) (fun _ => ?_)⟩⟩
    · have ml := mul_len (x := x) (n := 30) (by decide) nx.one
      have h30 : (30 : Int).toNat = 30 := rfl
      rw [h30] at ml
      have hx1 := nx.one
      have hx2 := nx.eight
      refine ⟨_, rfl, _, _, rfl, rfl, mulOk30 nx.eight, _, rfl, p, 22, rfl, t1, by decide, fun j H2 j0 j1 x2 t2 => ⟨_, _, rfl, rfl, _, rfl, _, rfl, line_big (by omega), ?_⟩⟩
      have h9 : 0 ≤ 9 + j := by omega
      refine q _ H2 ⟨?_, ?_, (nx.az.mul (by decide) nx.one).cut h9⟩ (x1.trans x2) t2
      · rw [cut_len _ h9, ml]
        omega
      · rw [cut_len _ h9, ml]
        omega
    · exact ⟨_, rfl, q _ H1 nx.good x1 t1⟩
theorem scPool : FnScope ["tape", "many", "pool", "word", "long"] ["tape", "many"] (defScope sPool) := ⟨rfl, rfl, rfl, by decide +kernel, rfl, by decide +kernel, by decide +kernel⟩
theorem c_pool (T : Bt mg) (D : Dfn K mg "_law_pool" sPool ["tape", "many"]) (c_law_words : Cal P w K mg base 3 "_law_words" spWords) (c_law_long : Cal P w K mg base 2 "_law_long" spLong) : Cal P w K mg base 4 "_law_pool" spPool := by
  refine D.cal scPool (fun vs H Q E h => ?_) (fun f cdv A outer s H vs Q E hr h => ?_)
  · obtain ⟨p, m, rfl, _⟩ := h
    rfl
  · obtain ⟨p, m, rfl, tp, m0, m1, q⟩ := h
    refine ⟨_, (pss_cons (ps_set (i := 2) scPool.nd rfl (Or.inl rfl) (pe_lst pa_nil))
      (pss_cons (ps_for PassesOwn.never rfl (pi_list (pe_c c_law_words hr (by decide) rfl (pa_cons (pv 0) (pa_cons (pv 1) (pa_cons (pe_lst pa_nil) pa_nil))))) (pg_name (i := 3) scPool.nd rfl (Or.inl rfl))
      (pss_cons (ps_set (i := 4) scPool.nd rfl (Or.inl rfl) (pe_c c_law_long hr (by decide) rfl (pa_cons (pv 0) (pa_cons (pv 3) pa_nil))))
      (C8.pss_cut (ps_if (pt_U (pt_cmpR op_in_seq (pv 4) (pv 2) (by rfl)))
      (pss_one (ps_set (i := 4) scPool.nd rfl (Or.inl rfl) (pv 3)))
      pss_nil)
      (pss_one (ps_expr (pe_bm PySem.F.plainAttrs_list PySem.F.slot_list_append PySem.F.type_list_append mt_append (pv 2) (pa_cons (pv 4) pa_nil)))))))
      (pss_one (ps_ret (pv 2))))), ?_⟩
    refine ⟨Nat.zero_le _, fun R hR => ?_⟩
    refine ⟨_, rfl, _, rfl, Nat.zero_le _, fun k hk => ?_⟩
    have hk0 := un hk
    have t0 := (tp.new (o := .lst []) hR).new (o := .lst []) hk
    have x0 := ((Fx.refl (T := p) (H := H)).new (o := .lst []) hR).new (o := .lst []) hk
    have eR : (upd (upd H R (.lst [])) k (.lst [])) R = some (.lst []) := by
      rw [upd_ne (un_ne hk).symm]
      exact upd_same
    have ek : (upd (upd H R (.lst [])) k (.lst [])) k = some (.lst (([] : List Str).map V.str)) := upd_same
    generalize upd (upd H R (.lst [])) k (.lst []) = H0 at t0 x0 eR ek ⊢
    have Rp : R ≠ p := tp.ne'' hR
    have kp : k ≠ p := tp.ne'' hk0
    refine ⟨p, k, m, [], rfl, t0, ek, kp, m0, by simpa using m1, fun W ws H1 hW eW wl wn x1 t1 => ?_⟩
    have RW : R ≠ W := ne_of_none eR hW
    have Wp : W ≠ p := t0.ne'' hW
    refine ⟨W, rfl, ⟨_, SqL.of eW⟩, for_list (xs := ws.map V.str) (fun i σ H' => ∃ (wv lv : Option V) (ps : List Str), σ = [some (.ref p), some (.int m), some (.ref R), wv, lv] ∧
      H' R = some (.lst (ps.map V.str)) ∧ H' W = some (.lst (ws.map V.str)) ∧ ps.length = i ∧ (∀ x ∈ ps, Good x) ∧ Fx p H H' ∧ Tape H' p)
      ⟨none, none, [], rfl, x1 _ _ Rp eR, eW, rfl, (fun x hx => by cases hx), x0.trans x1, t1⟩ ?_ ?_ ?_⟩
    · rintro i σ H' _ ⟨wv, lv, ps, rfl, _, aW, _⟩
      exact SqL.of aW
    · rintro i x σ H' hx ⟨wv, lv, ps, rfl, aR, aW, pl, pn, x2, t2⟩
      have hi : i < ws.length := by
        have := (List.getElem?_eq_some_iff.mp hx).1
        rwa [List.length_map] at this
      obtain ⟨z, hz, rfl⟩ : ∃ z, z ∈ ws ∧ x = V.str z := by
        obtain ⟨z, hz, e⟩ := List.mem_map.mp (List.mem_of_getElem? hx)
        exact ⟨z, hz, e.symm⟩
      have nz := wn z hz
      refine ⟨_, rfl, _, rfl, p, z, rfl, t2, nz, fun y H2 gy x3 t3 => ?_⟩
      have bR := x3 _ _ Rp aR
      have bW := x3 _ _ Wp aW
      refine ⟨fun σ' H3 => ∃ (y : Str), σ' = [some (.ref p), some (.int m), some (.ref R), some (.str z), some (.str y)] ∧ H3 = H2 ∧ Good y, ⟨⟨_, rfl, _, rfl, R, _, rfl, .inl (SqL.of bR), rfl, flat_str _, _, rfl, rfl⟩, iteT ?_, iteF ?_⟩, ?_⟩
      · exact ⟨_, rfl, z, rfl, rfl, nz.good⟩
      · exact ⟨y, rfl, rfl, gy⟩
      · rintro σ' H3 ⟨y, rfl, rfl, gy⟩
        refine ⟨_, rfl, .inl ⟨rfl, _, .inl (.inl bR)⟩, _, rfl, R, _, _, rfl, rfl, bR, small1000 (by rw [List.length_map]; omega), ?_⟩
        refine ⟨_, _, ps ++ [y], rfl, by rw [upd_same, List.map_append]; rfl, by rw [upd_ne RW.symm]; exact bW, by rw [List.length_append, pl]; rfl, fun v hv => ?_, ?_, t3.put Rp⟩
        · rcases List.mem_append.mp hv with h | h
          · exact pn v h
          · rw [List.mem_singleton.mp h]
            exact gy
        · intro b o nb e
          rw [upd_ne (ne_of_none e hR)]
          exact (x2.trans x3) b o nb e
    · rintro σ H' ⟨wv, lv, ps, rfl, aR, aW, pl, pn, x2, t2⟩
      rw [List.length_map] at pl
      exact ⟨_, rfl, q R ps H' hR aR (by omega) pn x2 t2⟩
end
end Lw
namespace Lw
open PySem PySem.Spec PyProof.Rows L2 GrT
/-- a promise that nobody asks -/
def spNo : Sp := fun _ _ _ _ => False
theorem Fx.back {p b : Addr} {H H' : Hp} (x : Fx p H H') (t : Tape H' p) (h : H' b = none) : H b = none := by
  cases e : H b with
  | none => rfl
  | some o =>
    by_cases q : b = p
    · obtain ⟨ns, tl, _⟩ := t
      rw [q, tl] at h
      cases h
    · rw [x b o q e] at h
      cases h
/-- the tree stands while nothing but the tape and what is new changes -/
theorem Tr.fx {S : Addr → Prop} {H H' : Hp} {L n : Nat} {v : V} {t : T} {p : Addr} (h : Tr S H L n v t) (tp : Tape H p) (x : Fx p H H') : Tr S H' L n v t :=
  h.keep fun b kvs _ e => x b _ (fun q => by
    obtain ⟨ns, tl, _⟩ := tp
    rw [q, tl] at e
    cases e) e
/-- a test, cut off from what follows: only the outcomes in φ go on -/
def tCut (t : TT) : TT := fun σ H Q => ∃ φ : Bool → Prop, (t σ H fun b H1 => H1 = H ∧ φ b) ∧ ∀ b, φ b → Q b H
theorem pt_cut {X : Cx} {e : Expr} {t : TT} (h : PT X e t) : PT X e (tCut t) := ⟨fun pins s σ H Q I ⟨φ, q, r⟩ => thn (h.run pins s σ H _ I q) fun b s1 ⟨H1, I1, e, hb⟩ => ⟨H1, I1, by
  subst e
  exact r b hb⟩⟩
/-- its ints are small, its records narrow, its names good -/
def Bd : Nat → T → Prop
  | 0, t => ∃ i, t = .int i ∧ i.natAbs < 2 ^ 100
  | n + 1, t => (∃ i, t = .int i ∧ i.natAbs < 2 ^ 100) ∨ ∃ fs, t = .fds fs ∧ fs.length ≤ 7 ∧ (∀ p ∈ fs, Good p.1) ∧ ∀ p ∈ fs, Bd n p.2
theorem Bd.int {n : Nat} {i : Int} (h : i.natAbs < 2 ^ 100) : Bd n (.int i) := by
  cases n with
  | zero => exact ⟨i, rfl, h⟩
  | succ n => exact .inl ⟨i, rfl, h⟩
theorem Bd.mono : ∀ {n m : Nat} {t : T}, Bd n t → n ≤ m → Bd m t
  | 0, m, t, ⟨i, e, h⟩, _ => by
    rw [e]
    exact Bd.int h
  | n + 1, 0, t, _, h => absurd h (Nat.not_succ_le_zero _)
  | n + 1, m + 1, t, h, hm => by
    rcases h with h | ⟨fs, e, l, g, h⟩
    · exact .inl h
    · exact .inr ⟨fs, e, l, g, fun p hp => Bd.mono (h p hp) (Nat.le_of_succ_le_succ hm)⟩
theorem Bd.put {n : Nat} {x : Str} {t : T} {fs : List (Str × T)} (h : ∀ p ∈ fs, Bd n p.2) (ht : Bd n t) : ∀ p ∈ GrT.put x t fs, Bd n p.2 := fun p hp => by
  rcases mem_put hp with e | e
  · rw [e]
    exact ht
  · exact h p e
theorem Bd.at {n : Nat} {fs : List (Str × T)} (h : Bd (n + 1) (.fds fs)) : fs.length ≤ 7 ∧ (∀ p ∈ fs, Good p.1) ∧ ∀ p ∈ fs, Bd n p.2 := by
  rcases h with ⟨i, e, _⟩ | ⟨gs, e, h⟩
  · cases e
  · cases e
    exact h
/-- all names of the pool, the numbers small -/
def PlT (ps : List Str) : Nat → T → Prop
  | 0, t => ∃ i : Int, t = .int i ∧ i.natAbs < 2 ^ 100
  | n + 1, t => (∃ i : Int, t = .int i ∧ i.natAbs < 2 ^ 100) ∨ ∃ fs, t = .fds fs ∧ ∀ p ∈ fs, p.1 ∈ ps ∧ PlT ps n p.2
theorem PlT.int {ps : List Str} {n : Nat} {i : Int} (h : i.natAbs < 2 ^ 100) : PlT ps n (.int i) := by
  cases n with
  | zero => exact ⟨i, rfl, h⟩
  | succ n => exact .inl ⟨i, rfl, h⟩
def BP (ps : List Str) (n : Nat) (t : T) : Prop := Bd n t ∧ PlT ps n t
theorem BP.put {ps : List Str} {n : Nat} {x : Str} {t : T} {fs : List (Str × T)} (hx : x ∈ ps) (h : ∀ p ∈ fs, p.1 ∈ ps ∧ BP ps n p.2) (ht : BP ps n t) : ∀ p ∈ GrT.put x t fs, p.1 ∈ ps ∧ BP ps n p.2 := fun p hp => by
  rcases mem_put hp with e | e
  · rw [e]
    exact ⟨hx, ht⟩
  · exact h p e
def spFields (n : Nat) : Sp := fun vs H Q _ => ∃ (p P : Addr) (ps : List Str), vs = [.ref p, .ref P, .int (n : Int)] ∧ Tape H p ∧ H P = some (.lst (ps.map V.str)) ∧ P ≠ p ∧ 1 ≤ ps.length ∧ ps.length ≤ 6 ∧ (∀ x ∈ ps, Good x) ∧
  ∀ (D : Addr) (fs : List (Str × GrT.T)) H', Tr (fun b => H b = none) H' 6 (n + 1) (.ref D) (.fds fs) → BP ps (n + 1) (.fds fs) → Fx p H H' → Tape H' p → Q (.ref D) H'
def spFieldsR : Nat → Sp
  | 0 => spNo
  | n + 1 => spFields n
theorem pick_ix {ps : List Str} {z : Int} (h : 1 ≤ ps.length) : ∃ x ∈ ps, atI (ps.map V.str) (z % (ps.length : Int)) = some (V.str x) := by
  have h0 : (0 : Int) < ps.length := by omega
  have h1 := Int.emod_nonneg z (by omega : (ps.length : Int) ≠ 0)
  have h2 := Int.emod_lt_of_pos z h0
  obtain ⟨j, hj⟩ : ∃ j : Nat, z % (ps.length : Int) = (j : Int) := ⟨(z % (ps.length : Int)).toNat, by omega⟩
  have hl : j < ps.length := by omega
  refine ⟨ps[j], List.getElem_mem hl, ?_⟩
  rw [hj]
  refine atI_nat ?_
  rw [List.getElem?_map, List.getElem?_eq_getElem hl]
  rfl
section
variable {P : Program} {w : World} {K : PySem.W.Frag} {mg : Str → Option Value} {base : Heap}
theorem c_no {k : Nat} {x : Str} {st : Stmt} {N ps : List Str} (D : Dfn K mg x st ps) (S : FnScope N ps (defScope st)) : Cal P w K mg base (k + 1) x spNo :=
  D.cal S (fun _ _ _ _ h => h.elim) (fun _ _ _ _ _ _ _ _ _ _ h => h.elim)
theorem scFields : FnScope ["tape", "names", "depth", "fields", "first", "turn", "k", "name", "choice"] ["tape", "names", "depth"] (defScope sFields) := ⟨rfl, rfl, rfl, by decide +kernel, rfl, by decide +kernel, by decide +kernel⟩
theorem c_fields_step (T : Bt mg) (D : Dfn K mg "_law_fields" sFields ["tape", "names", "depth"]) (c_law_take : Cal P w K mg base 1 "_law_take" spTake) (c_law_number : Cal P w K mg base 2 "_law_number" spNumber)
    (n : Nat) (c_law_fields : Cal P w K mg base (n + 3) "_law_fields" (spFieldsR n)) : Cal P w K mg base (n + 4) "_law_fields" (spFields n) := by
  refine D.cal scFields (fun vs H Q E h => ?_) (fun f cdv A outer s H vs Q E hr h => ?_)
  · obtain ⟨p, P, ps, rfl, _⟩ := h
    rfl
  · obtain ⟨p, P, ps, rfl, tp, eP, Pp, l1, l2, gp, q⟩ := h
    have hu1 : (A.deeper (envOfC "_law_fields" (defScope sFields) s.heap.objs.size f cdv)).units + 1 < cLine := by
      have := hr.units
      omega
    refine ⟨_, (pss_cons (ps_set (i := 3) scFields.nd rfl (Or.inl rfl) pe_dnewK)
      (pss_cons (ps_set (i := 4) scFields.nd rfl (Or.inl rfl) (pe_c c_law_take hr (by omega) rfl (pa_cons (pv 0) (pa_cons pe_int pa_nil))))
      (pss_cons (ps_set (i := 5) scFields.nd rfl (Or.inl rfl) (pe_c c_law_take hr (by omega) rfl (pa_cons (pv 0) (pa_cons pe_int pa_nil))))
      (pss_cons (ps_for PassesOwn.never rfl (pi_range1 (by rfl) T.b_range (pa_cons (pe_callB call_len_seq (by rfl) T.b_len PySem.boot_len (pa_cons (pv 1) pa_nil)) pa_nil)) (pg_name (i := 6) scFields.nd rfl (Or.inl rfl))
      (pss_cons (ps_set (i := 7) scFields.nd rfl (Or.inl rfl) (pe_ix ix_list (pv 1) (pe_op op_mod (pe_op op_add (pv 4) (pe_op op_mul (pe_op op_sub pe_int (pe_op op_mul pe_int (pv 5))) (pv 6))) (pe_callB call_len_seq (by rfl) T.b_len PySem.boot_len (pa_cons (pv 1) pa_nil))) (fun _ _ => rfl)))
      (pss_cons (ps_set (i := 8) scFields.nd rfl (Or.inl rfl) (pe_c c_law_take hr (by omega) rfl (pa_cons (pv 0) (pa_cons pe_int pa_nil))))
      (pss_one (ps_if (pt_cut (PW.pt (pw_or (pt_cmpR op_eq (pv 8) pe_int (nomark _)) (pw_or1 (PW.pt (pw_and (pt_cmpR op_eq (pv 8) pe_int (nomark _)) (pw_and1 (pt_cmpR op_le (pv 2) pe_int (nomark _)))))))))
      (pss_one (ps_dput hu1 (pv 3) (pv 7) (pe_op op_mul (pe_c c_law_number hr (by omega) rfl (pa_cons (pv 0) pa_nil)) (pe_op op_sub pe_int (pe_op op_mul pe_int (pe_c c_law_take hr (by omega) rfl (pa_cons (pv 0) (pa_cons pe_int pa_nil)))))) rfl))
      (pss_one (ps_if (pt_cmpR op_eq (pv 8) pe_int (nomark _))
      (pss_one (ps_dput hu1 (pv 3) (pv 7) (pe_c c_law_fields hr (by omega) rfl (pa_cons (pv 0) (pa_cons (pv 1) (pa_cons (pe_op op_sub (pv 2) pe_int) pa_nil)))) rfl))
      pss_nil)))))))
      (pss_one (ps_ret (pv 3))))))), ?_⟩
    refine fun D hD => ?_
    have Dp : D ≠ p := tp.ne'' hD
    have t0 := tp.new (o := .dK []) hD
    have x0 := (Fx.refl (T := p) (H := H)).new (o := .dK []) hD
    have eD : (upd H D (.dK [])) D = some (.dK (dk [])) := upd_same
    have eP0 := x0 _ _ Pp eP
    generalize upd H D (.dK []) = H0 at t0 x0 eD eP0 ⊢
    refine ⟨_, rfl, p, 720720, rfl, t0, p72, fun i1 H1 _ _ x1 t1 => ?_⟩
    refine ⟨_, rfl, p, 2, rfl, t1, by decide, fun i2 H2 i20 i21 x2 t2 => ?_⟩
    have eP2 := (x1.trans x2) _ _ Pp eP0
    have eD2 := (x1.trans x2) _ _ Dp eD
    refine ⟨_, rfl, P, _, rfl, .inl (SqL.of eP2), ps.length, by rw [List.length_map], by omega, by omega, ?_⟩
    have x02 := (x0.trans x1).trans x2
    refine for_range (lo := 0) (n := ps.length) (fun i σ H' => ∃ (kv nv cv : Option V) (l : List (Str × V)) (fs : List (Str × GrT.T)), σ = [some (.ref p), some (.ref P), some (.int n), some (.ref D), some (.int i1), some (.int i2), kv, nv, cv] ∧
      H' D = some (.dK (dk l)) ∧ H' P = some (.lst (ps.map V.str)) ∧ Wf i fs ∧ (∀ p ∈ fs, p.1 ∈ ps ∧ BP ps n p.2) ∧ Al (Tr (fun b => H b = none ∧ b ≠ D) H' 6 n) l fs ∧ Fx p H H' ∧ Tape H' p)
      ⟨none, none, none, [], [], rfl, eD2, eP2, Wf.nil, (fun _ h => by cases h), .nil, x02, t2⟩ ?_ ?_
    · rintro i σ H' hi ⟨kv, nv, cv, l, fs, rfl, aD, aP, wf, bd, al, x3, t3⟩
      have PD : P ≠ D := fun e => by
        rw [e, aD] at aP
        cases aP
      obtain ⟨x, hx, hat⟩ := pick_ix (ps := ps) (z := i1 + (1 - 2 * i2) * (0 + (i : Int))) l1
      have gx := gp x hx
      refine ⟨_, rfl, _, rfl, _, rfl, _, _, rfl, rfl, .inl ⟨by decide, by decide⟩, _, _, rfl, rfl, _, rfl, _, _, rfl, rfl, .inl ⟨by omega, by omega⟩, _, _, rfl, rfl, _, rfl, P, _, rfl, .inl (SqL.of aP), _, _, rfl, rfl, by rw [List.length_map]; omega, P, _, _, _, rfl, rfl, SqL.of aP, by rw [List.length_map]; exact hat, ?_⟩
      refine ⟨_, rfl, p, 4, rfl, t3, by decide, fun c H4 c0 c1 x4 t4 => ?_⟩
      have bD := x4 _ _ Dp aD
      have bP := x4 _ _ Pp aP
      have al4 : Al (Tr (fun b => H b = none ∧ b ≠ D) H4 6 n) l fs := al.imp fun _ _ _ z => Tr.fx z t3 x4
      have hsz : (dk l).length < sizeLine := by
        have := wf.ln
        rw [dk_len, al.len]
        exact Nat.lt_of_lt_of_le (by omega : fs.length < 100) (line_big (by decide))
      have ndl : (names l).Nodup := by
        rw [al.names]
        exact wf.nd
      have fin : ∀ (v : V) (t : GrT.T) (H5 : Hp), BP ps n t → H5 D = some (.dK (dk l)) → H5 P = some (.lst (ps.map V.str)) → Al (Tr (fun b => H b = none ∧ b ≠ D) H5 6 n) l fs → Tr (fun b => H b = none ∧ b ≠ D) H5 6 n v t → Fx p H H5 → Tape H5 p →
          ∃ H6, DPut H5 D (.str x) v H6 ∧ H6 D = some (.dK (dk (put x v l))) ∧ H6 P = some (.lst (ps.map V.str)) ∧ Wf (i + 1) (put x t fs) ∧ (∀ p ∈ put x t fs, p.1 ∈ ps ∧ BP ps n p.2) ∧ Al (Tr (fun b => H b = none ∧ b ≠ D) H6 6 n) (put x v l) (put x t fs) ∧ Fx p H H6 ∧ Tape H6 p := by
        intro v t H5 hb dD dP a5 r5 x5 t5
        refine ⟨_, DPut.k (k := Sum.inr x) dD hsz, ?_, ?_, wf.put gx, BP.put hx bd hb, ?_, ?_, t5.put Dp⟩
        · rw [upd_same, dk_put x v l ndl]
        · rw [upd_ne PD]
          exact dP
        · have k : ∀ {v t}, Tr (fun b => H b = none ∧ b ≠ D) H5 6 n v t → Tr (fun b => H b = none ∧ b ≠ D) (upd H5 D (.dK (putK (dk l) (Sum.inr x) v))) 6 n v t := fun z => z.keep fun b kvs sb e => by rw [upd_ne sb.2]; exact e
          refine Al.put (a5.imp fun _ _ _ z => z.keep fun b kvs sb e => by rw [upd_ne sb.2]; exact e) x (r5.keep fun b kvs sb e => by rw [upd_ne sb.2]; exact e)
        · intro b o nb e
          rw [upd_ne (ne_of_none e hD)]
          exact x5 b o nb e
      refine ⟨fun b => b = false → c = 2 → 0 < n, ⟨_, rfl, rfl, _, rfl, ite2 (fun _ => ⟨rfl, fun h => by cases h⟩) (fun _ => ⟨_, rfl, rfl, _, rfl, ite2 (fun _ => ⟨_, rfl, _, _, rfl, rfl, _, rfl, rfl, fun h _ => ?_⟩) (fun h2 => ⟨rfl, fun _ e => ?_⟩)⟩)⟩, fun b hb => ?_⟩
      · have := of_decide_eq_false h
        omega
      · rw [e] at h2
        exact absurd rfl h2
      · cases b
        · refine iteF ⟨_, rfl, rfl, _, rfl, ite2 (fun h2 => ?_) (fun _ => ?_)⟩
          · have e2 : c = 2 := V.int.inj (of_decide_eq_true h2)
            have hn := hb rfl e2
            obtain ⟨m, rfl⟩ : ∃ m, n = m + 1 := ⟨n - 1, by omega⟩
            refine ⟨_, rfl, _, rfl, _, rfl, _, _, rfl, rfl, p, P, ps, by rw [Int.natCast_add]; simp, t4, bP, Pp, l1, l2, gp, fun D2 gs H5 r5 b5 x5 t5 => ?_⟩
            have a5 : Al (Tr (fun b => H b = none ∧ b ≠ D) H5 6 (m + 1)) l fs := al4.imp fun _ _ _ z => Tr.fx z t4 x5
            have r6 : Tr (fun b => H b = none ∧ b ≠ D) H5 6 (m + 1) (.ref D2) (.fds gs) := r5.wid fun b hb => ⟨(x3.trans x4).back t4 hb, fun e => by
              rw [e, bD] at hb
              cases hb⟩
            obtain ⟨H6, dp, cD, cP, cw, cb, ca, cx, ct⟩ := fin _ _ H5 b5 (x5 _ _ Dp bD) (x5 _ _ Pp bP) a5 r6 ((x3.trans x4).trans x5) t5
            exact ⟨_, rfl, _, rfl, D, H6, rfl, dp, _, _, _, _, _, rfl, cD, cP, cw, cb, ca, cx, ct⟩
          · exact ⟨_, _, _, l, fs, rfl, bD, bP, ⟨wf.nd, Nat.le_succ_of_le wf.ln, wf.gd⟩, bd, al4, x3.trans x4, t4⟩
        · refine iteT ⟨_, rfl, p, rfl, t4, fun v H5 v0 v1 x5 t5 => ?_⟩
          refine ⟨_, rfl, p, 2, rfl, t5, by decide, fun u H6 u0 u1 x6 t6 => ?_⟩
          have x46 := x5.trans x6
          have hsm : (v * (1 - 2 * u)).natAbs < 2 ^ 100 := by
            rcases (by omega : u = 0 ∨ u = 1) with e | e
            · rw [e]
              omega
            · rw [e]
              omega
          obtain ⟨H7, dp, cD, cP, cw, cb, ca, cx, ct⟩ := fin (.int (v * (1 - 2 * u))) (.int (v * (1 - 2 * u))) H6 ⟨Bd.int hsm, PlT.int hsm⟩ (x46 _ _ Dp bD) (x46 _ _ Pp bP) (al4.imp fun _ _ _ z => Tr.fx z t4 x46) (Tr.int _) ((x3.trans x4).trans x46) t6
          exact ⟨_, _, rfl, rfl, .inl ⟨by decide, by decide⟩, _, _, rfl, rfl, _, _, rfl, rfl, .inr ⟨by omega, by omega⟩, _, rfl, _, rfl, D, H7, rfl, dp, _, _, _, _, _, rfl, cD, cP, cw, cb, ca, cx, ct⟩
    · rintro σ H' ⟨kv, nv, cv, l, fs, rfl, aD, aP, wf, bd, al, x3, t3⟩
      exact ⟨_, rfl, q D fs H' (.inr ⟨D, l, fs, rfl, rfl, hD, aD, wf.mono l2, al.imp fun _ _ _ z => z.wid fun b h => h.1⟩) ⟨.inr ⟨fs, rfl, Nat.le_trans wf.ln (Nat.le_trans l2 (by decide)), wf.gd, fun p hp => (bd p hp).2.1⟩, .inr ⟨fs, rfl, fun p hp => ⟨(bd p hp).1, (bd p hp).2.2⟩⟩⟩ x3 t3⟩
end
end Lw
namespace GrT
open PySem L2
mutual
/-- how many fields a value has, on all levels -/
def nf : T → Int
  | .int _ => 0
  | .fds fs => nfs fs
def nfs : List (Str × T) → Int
  | [] => 0
  | (_, t) :: r => 1 + nf t + nfs r
end
mutual
/-- the first value has all that the second one has -/
def ext : T → T → Bool
  | .int i, .int j => decide (i = j)
  | .fds a, .fds b => extL a b
  | .int _, .fds _ => false
  | .fds _, .int _ => false
def extL : List (Str × T) → List (Str × T) → Bool
  | _, [] => true
  | a, (x, t) :: r => (match look x a with | none => false | some u => ext u t) && extL a r
end
theorem nfs_sum : ∀ fs : List (Str × T), nfs fs = (fs.map fun p => 1 + nf p.2).sum
  | [] => by simp [nfs]
  | (x, t) :: r => by
    rw [nfs, List.map_cons, List.sum_cons, nfs_sum r]
theorem extL_iff {a : List (Str × T)} : ∀ {b : List (Str × T)}, extL a b = true ↔ ∀ p ∈ b, ∃ u, look p.1 a = some u ∧ ext u p.2 = true
  | [] => by simp [extL]
  | (x, t) :: r => by
    rw [extL, Bool.and_eq_true, extL_iff (b := r)]
    constructor
    · rintro ⟨h1, h2⟩ p hp
      rcases List.mem_cons.mp hp with e | e
      · rw [e]
        cases q : look x a with
        | none =>
          rw [q] at h1
          cases h1
        | some u =>
          rw [q] at h1
          exact ⟨u, rfl, h1⟩
      · exact h2 p e
    · intro h
      refine ⟨?_, fun p hp => h p (List.mem_cons_of_mem _ hp)⟩
      obtain ⟨u, h1, h2⟩ := h (x, t) List.mem_cons_self
      have h1' : look x a = some u := h1
      rw [h1']
      exact h2
end GrT
namespace Lw
open PySem PySem.Spec PyProof.Rows L2 GrT
theorem upd_back {H : Hp} {d : Addr} {u z : HO} (h : H d = some u) : upd (upd H d z) d u = H := by
  rw [upd_upd]
  funext b
  by_cases e : b = d
  · subst e
    rw [upd_same, h]
  · rw [upd_ne e]
theorem Same.unlock {H H' : Hp} {d : Addr} {u z : HO} (h : H d = some u) (s : Same (upd H d z) H') : Same H (upd H' d u) := fun b o e => by
  by_cases q : b = d
  · subst q
    rw [upd_same, ← h, e]
  · rw [upd_ne q]
    exact s b o (by rw [upd_ne q]; exact e)
theorem Same.new {H H1 : Hp} {a : Addr} {o : HO} (x : Same H H1) (n : H1 a = none) : Same H (upd H1 a o) := fun b u e => by
  have q := x b u e
  rw [upd_ne (ne_of_none q n)]
  exact q
theorem Tr.same {S : Addr → Prop} {H H' : Hp} {L n : Nat} {v : V} {t : T} (h : Tr S H L n v t) (x : Same H H') : Tr S H' L n v t :=
  h.keep fun b kvs _ e => x b _ e
theorem dk_at {l : List (Str × V)} {i : Nat} {k : Key} {v : V} (h : (dk l)[i]? = some (k, v)) : ∃ x, k = Sum.inr x ∧ l[i]? = some (x, v) := by
  unfold dk at h
  rw [List.getElem?_map] at h
  cases e : l[i]? with
  | none =>
    rw [e] at h
    cases h
  | some p =>
    rw [e] at h
    have h' := Option.some.inj h
    obtain ⟨x, w⟩ := p
    injection h' with h1 h2
    exact ⟨x, h1.symm, by rw [show w = v from h2]⟩
theorem Al.at {R : V → T → Prop} : ∀ {l : List (Str × V)} {fs : List (Str × T)} {i : Nat} {x : Str} {v : V}, Al R l fs → l[i]? = some (x, v) → ∃ t, fs[i]? = some (x, t) ∧ R v t
  | _, _, 0, x, v, .cons (a := p) (b := q) r _, h => by
    have e : p = (x, v) := by simpa using h
    subst e
    obtain ⟨z, u⟩ := q
    have e2 : x = z := r.1
    exact ⟨u, by rw [e2]; rfl, r.2⟩
  | _, _, i + 1, x, v, .cons r t, h => by
    have h' := h
    rw [List.getElem?_cons_succ] at h'
    obtain ⟨u, h1, h2⟩ := Al.at t h'
    exact ⟨u, by rw [List.getElem?_cons_succ]; exact h1, h2⟩
/-- further built-ins -/
structure Bu (mg : Str → Option Value) : Prop extends Bt mg where
  b_isinstance : mg "isinstance" = none
  b_dict : mg "dict" = none
  b_tuple : mg "tuple" = none
  b_bool : mg "bool" = none
  b_list : mg "list" = none
  b_str : mg "str" = none
  b_sum : mg "sum" = none
  b_sorted : mg "sorted" = none
theorem bo_isinstance : bootBuiltins "isinstance" = some (.builtin "isinstance") := by decide +kernel
theorem bo_dict : bootBuiltins "dict" = some (.type "dict") := by decide +kernel
theorem bo_tuple : bootBuiltins "tuple" = some (.type "tuple") := by decide +kernel
theorem bo_bool : bootBuiltins "bool" = some (.type "bool") := by decide +kernel
theorem bo_list : bootBuiltins "list" = some (.type "list") := by decide +kernel
theorem bo_str : bootBuiltins "str" = some (.type "str") := by decide +kernel
theorem bo_int : bootBuiltins "int" = some (.type "int") := by decide +kernel
theorem bo_sum : bootBuiltins "sum" = some (.builtin "sum") := by decide +kernel
theorem bo_sorted : bootBuiltins "sorted" = some (.builtin "sorted") := by decide +kernel
def spIsInt : Sp := fun vs H Q _ => ∃ i : Int, vs = [.int i] ∧ Q (.bl true) H
def spCount (n : Nat) : Sp := fun vs H Q _ => ∃ (v : V) (S : Addr → Prop) (t : T), vs = [v] ∧ Tr S H 40 n v t ∧ ∀ H', Same H H' → Q (.int (nf t)) H'
def spCountR : Nat → Sp
  | 0 => spNo
  | n + 1 => spCount n
section
variable {P : Program} {w : World} {K : PySem.W.Frag} {mg : Str → Option Value} {base : Heap}
theorem scIsInt : FnScope ["found"] ["found"] (defScope sIsInt) := ⟨rfl, rfl, rfl, by decide +kernel, rfl, by decide +kernel, by decide +kernel⟩
theorem c_is_integer (T : Bu mg) (D : Dfn K mg "_law_is_integer" sIsInt ["found"]) : Cal P w K mg base 1 "_law_is_integer" spIsInt := by
  refine D.cal scIsInt (fun vs H Q E h => ?_) (fun f cdv A outer s H vs Q E hr h => ?_)
  · obtain ⟨i, rfl, _⟩ := h
    rfl
  · obtain ⟨i, rfl, q⟩ := h
    refine ⟨_, (pss_one (ps_ret (pe_and (pe_callB call_isi (by rfl) T.b_isinstance bo_isinstance (pa_cons (pv 0) (pa_cons (pe_bltn (by rfl) T.b_int bo_int (v := .ty "int") rfl) pa_nil)))
      (pe_one (pe_not (pe_callB call_isi (by rfl) T.b_isinstance bo_isinstance (pa_cons (pv 0) (pa_cons (pe_bltn (by rfl) T.b_bool bo_bool (v := .ty "bool") rfl) pa_nil)))))))), ?_⟩
    exact ⟨_, rfl, _, _, _, _, _, rfl, .ty _, .base (.int i), rfl, _, rfl, iteT ⟨_, rfl, _, _, _, _, _, rfl, .ty _, .base (.int i), rfl, _, rfl, q⟩⟩
theorem scCount : FnScope ["value", "name"] ["value"] (defScope sCount) := ⟨rfl, rfl, rfl, by decide +kernel, rfl, by decide +kernel, by decide +kernel⟩
theorem c_count_step (T : Bu mg) (D : Dfn K mg "_law_count" sCount ["value"]) (n : Nat) (c_law_count : Cal P w K mg base (n + 1) "_law_count" (spCountR n)) : Cal P w K mg base (n + 2) "_law_count" (spCount n) := by
  refine D.cal scCount (fun vs H Q E h => ?_) (fun f cdv A outer s H vs Q E hr h => ?_)
  · obtain ⟨v, S, t, rfl, _⟩ := h
    rfl
  · obtain ⟨v, S, t, rfl, tr, q⟩ := h
    have hu1 : (A.deeper (envOfC "_law_count" (defScope sCount) s.heap.objs.size f cdv)).units + 1 < cLine := by
      have := hr.units
      omega
    refine ⟨_, (pss_cons (ps_if (pt_not (pt_val (pe_callB call_isi (by rfl) T.b_isinstance bo_isinstance (pa_cons (pv 0) (pa_cons (pe_bltn (by rfl) T.b_dict bo_dict (v := .ty "dict") rfl) pa_nil)))))
      (pss_one (ps_ret pe_int))
      pss_nil)
      (pss_one (ps_ret (pe_callB (cr_sum rfl) (by rfl) T.b_sum bo_sum (pa_cons (pe_lock (pe_lc (own := [("name", 1)]) (g := gName 1) (tt := tYes) rfl scCount.nd (pi_keys (pv 0)) (blkOk_by (own := [("name", 1)]) (N := ["value", "name"]) (sc := defScope sCount) (by decide +kernel)) (fun _ _ _ _ _ => pg_name (i := 1) scCount.nd rfl (Or.inl rfl)) (fun _ _ _ _ _ => pts_nil) (fun _ _ _ _ _ => (by exact (pe_op op_add pe_int (pe_c c_law_count hr (by omega) rfl (pa_cons (pe_dget hu1 (pv 0) (pv 1) (fun _ _ => rfl)) pa_nil))))))) pa_nil))))), ?_⟩
    refine tr.cases (fun i e1 e2 => ?_) (fun k a l fs en e1 e2 sa ea wf al => ?_)
    · subst e1 e2
      exact ⟨_, rfl, _, _, _, _, _, rfl, .ty _, .base (.int i), rfl, _, rfl, iteT (q H (Same.refl H))⟩
    · subst en e1 e2
      refine ⟨_, rfl, _, _, _, _, _, rfl, .ty _, .base (.dK ea), rfl, _, rfl, iteF ?_⟩
      refine ⟨a, .dK (dk l), ea, True.intro, fun od => ⟨_, rfl, a, od, rfl, .inl ⟨_, upd_same, fun Z hZ => lc_it walk_keys (fun i H5 => ∃ (fs' : List (Str × GrT.T)), fs' = fs.take i ∧ H5 Z = some (.lst ((fs'.map fun p : Str × GrT.T => 1 + nf p.2).map V.int)) ∧ Same (upd H a (.frz od (.dK (dk l)))) H5)
        ⟨[], rfl, upd_same, Same.new (Same.refl _) hZ⟩ ?_ ?_ ?_⟩⟩⟩
      · rintro i H5 _ ⟨fs', _, _, sm⟩
        exact sm _ _ upd_same
      · rintro i x H5 H6 hi ⟨fs', rfl, eZ, sm⟩ ⟨rfl, k', v', hk, rfl⟩
        obtain ⟨x, rfl, hx⟩ := dk_at hk
        obtain ⟨u, hu, ru⟩ := Lw.Al.at al hx
        have aZ : a ≠ Z := ne_of_none upd_same hZ
        have ea6 := sm _ _ (upd_same (H := H) (a := a) (o := .frz od (.dK (dk l))))
        have nd : (names l).Nodup := by
          rw [al.names]
          exact wf.nd
        have r6 : Tr S H6 40 k v' u := Tr.same ((Lw.Al.at (al_away sa ea wf al (.frz od (.dK (dk l)))) hx).elim fun u' h => by
          have e : u' = u := by
            have := h.1.symm.trans hu
            injection this with this
            injection this
          rw [← e]
          exact h.2) sm
        have hln : fs.length ≤ 40 := wf.ln
        refine ⟨rfl, iteT (A := _) (B := True) (iteT ⟨_, rfl, _, rfl, a, v', rfl, .inl ⟨dk l, Sum.inr x, .inr ⟨od, ea6⟩, rfl, by rw [dk_val, mem_look nd (List.mem_of_getElem? hx)]⟩, v', S, u, rfl, r6, fun H7 s7 => ?_⟩)⟩
        refine ⟨_, _, rfl, rfl, _, s7 _ _ eZ, line_big (by rw [List.length_map, List.length_map, List.length_take]; omega), _, rfl, ?_, ?_⟩
        · rw [upd_same, List.take_add_one, hu]
          simp
        · intro b o e
          rw [upd_ne (ne_of_none e hZ)]
          exact s7 _ _ (sm b o e)
      · rintro H5 ⟨fs', rfl, eZ, sm⟩
        rw [dk_len, al.len, List.take_length] at eZ
        have ea5 := sm _ _ (upd_same (H := H) (a := a) (o := .frz od (.dK (dk l))))
        have aZ : Z ≠ a := (ne_of_none upd_same hZ).symm
        refine ⟨ea5, Z, _, rfl, .of (by rw [upd_ne aZ]; exact eZ), ?_⟩
        rw [← nfs_sum]
        exact q _ (Same.unlock ea sm)
end
end Lw
namespace Lw
open PySem PySem.Spec PyProof.Rows L2 GrT
/-! ### one row of names in ascending order -/
theorem ltc_anti : ∀ a b : List Nat, ltCps a b = false → ltCps b a = false → a = b
  | [], [], _, _ => rfl
  | [], _ :: _, h, _ => by cases h
  | _ :: _, [], _, h => by cases h
  | a :: r, b :: t, h1, h2 => by
    simp only [ltCps, Bool.or_eq_false_iff, decide_eq_false_iff_not, Bool.and_eq_false_iff, beq_eq_false_iff_ne] at h1 h2
    have e : a = b := by omega
    subst e
    have q1 := h1.2.resolve_left (fun h => h rfl)
    have q2 := h2.2.resolve_left (fun h => h rfl)
    rw [ltc_anti r t q1 q2]
theorem ltc_trans : ∀ a b c : List Nat, ltCps b a = false → ltCps c b = false → ltCps c a = false
  | [], _, [], _, _ => rfl
  | [], _, _ :: _, _, _ => rfl
  | _ :: _, [], _, h, _ => by cases h
  | _ :: _, _ :: _, [], _, h => by cases h
  | a :: r, b :: t, c :: u, h1, h2 => by
    simp only [ltCps, Bool.or_eq_false_iff, decide_eq_false_iff_not, Bool.and_eq_false_iff, beq_eq_false_iff_ne] at h1 h2 ⊢
    refine ⟨by omega, ?_⟩
    by_cases e : c = a
    · right
      have e1 : a = b := by omega
      have e2 : c = b := by omega
      exact ltc_trans r t u (h1.2.resolve_left (fun h => h e1.symm)) (h2.2.resolve_left (fun h => h e2))
    · exact .inl e
theorem rising_pw : ∀ (l : List Str) (p : Str), risingS p l = true → (p :: l).Pairwise fun a b => ltCps b.cps.toList a.cps.toList = false
  | [], p, _ => List.pairwise_singleton _ _
  | x :: r, p, h => by
    rw [risingS, Bool.and_eq_true, Bool.not_eq_true'] at h
    have ih := rising_pw r x h.2
    refine List.pairwise_cons.mpr ⟨fun y hy => ?_, ih⟩
    rcases List.mem_cons.mp hy with e | e
    · rw [e]
      exact h.1
    · exact ltc_trans _ _ _ h.1 ((List.pairwise_cons.mp ih).1 y e)
theorem sorted_pw {l : List Str} (h : sortedS l = true) : l.Pairwise fun a b => ltCps b.cps.toList a.cps.toList = false := by
  cases l with
  | nil => exact List.Pairwise.nil
  | cons x r => exact rising_pw r x h
theorem str_tl {x y : Str} (h : x.cps.toList = y.cps.toList) : x = y := by
  obtain ⟨a⟩ := x
  obtain ⟨b⟩ := y
  have e : a.toList = b.toList := h
  rw [Array.toList_inj.mp e]
theorem sorted_one {ys zs : List Str} (hy : sortedS ys = true) (hz : sortedS zs = true) (p : ys.Perm zs) : ys = zs :=
  List.Perm.eq_of_pairwise (fun x y _ _ h1 h2 => str_tl (ltc_anti _ _ h2 h1)) (sorted_pw hy) (sorted_pw hz) p
/-- the names in ascending order, in a new list -/
def spSorted : Sp := fun vs H Q _ => ∃ (a : Addr) (l : List (Str × V)), vs = [.ref a] ∧ H a = some (.dK (dk l)) ∧ l.length < 64 ∧
  ∀ (ys : List Str) (W : Addr) H', ys.Perm (names l) → sortedS ys = true → H' W = some (.lst (ys.map V.str)) → H W = none → Same H H' → Q (.ref W) H'
section
variable {P : Program} {w : World} {K : PySem.W.Frag} {mg : Str → Option Value} {base : Heap}
theorem scSorted : FnScope ["names", "name"] ["names"] (defScope sSorted) := ⟨rfl, rfl, rfl, by decide +kernel, rfl, by decide +kernel, by decide +kernel⟩
theorem c_sorted (T : Bu mg) (D : Dfn K mg "_law_sorted" sSorted ["names"]) : Cal P w K mg base 1 "_law_sorted" spSorted := by
  refine D.cal scSorted (fun vs H Q E h => ?_) (fun f cdv A outer s H vs Q E hr h => ?_)
  · obtain ⟨a, l, rfl, _⟩ := h
    rfl
  · obtain ⟨a, l, rfl, ea, hl, q⟩ := h
    refine ⟨_, (pss_one (ps_ret (pe_callB cr_sortedS (by rfl) T.b_sorted bo_sorted (pa_cons (pe_lock (pe_lc (own := [("name", 1)]) (g := gName 1) (tt := tYes) rfl scSorted.nd (pi_keys (pv 0)) (blkOk_by (own := [("name", 1)]) (N := ["names", "name"]) (sc := defScope sSorted) (by decide +kernel)) (fun _ _ _ _ _ => pg_name (i := 1) scSorted.nd rfl (Or.inl rfl)) (fun _ _ _ _ _ => pts_nil) (fun _ _ _ _ _ => (by exact (pe_callTy SkE.call_str_str (by rfl) T.b_str bo_str (pa_cons (pv 1) pa_nil)))))) pa_nil)))), ?_⟩
    refine ⟨a, .dK (dk l), ea, True.intro, fun od => ⟨_, rfl, a, od, rfl, .inl ⟨_, upd_same, fun Z hZ => lc_it walk_keys (fun i H5 => H5 Z = some (.lst (((names l).take i).map V.str)) ∧ Same (upd H a (.frz od (.dK (dk l)))) H5)
      ⟨upd_same, Same.new (Same.refl _) hZ⟩ ?_ ?_ ?_⟩⟩⟩
    · rintro i H5 _ ⟨_, sm⟩
      exact sm _ _ upd_same
    · rintro i x H5 H6 hi ⟨eZ, sm⟩ ⟨rfl, k', v', hk, rfl⟩
      obtain ⟨x, rfl, hx⟩ := dk_at hk
      refine ⟨rfl, iteT (A := _) (B := True) (iteT ⟨_, rfl, x, rfl, _, eZ, line_big (by rw [List.length_map, List.length_take, show (names l).length = l.length from List.length_map _]; omega), ?_, ?_⟩)⟩
      · have hn : (names l)[i]? = some x := by rw [List.getElem?_map, hx]; rfl
        rw [upd_same, List.take_add_one, hn]
        simp
      · intro b o e
        rw [upd_ne (ne_of_none e hZ)]
        exact sm b o e
    · rintro H5 ⟨eZ, sm⟩
      have hn : (names l).length = l.length := List.length_map _
      rw [dk_len, ← hn, List.take_length] at eZ
      have ea5 := sm _ _ (upd_same (H := H) (a := a) (o := .frz od (.dK (dk l))))
      have aZ : Z ≠ a := (ne_of_none upd_same hZ).symm
      have hZ0 : H Z = none := by
        rw [upd_ne aZ] at hZ
        exact hZ
      refine ⟨ea5, Z, _, rfl, .of (by rw [upd_ne aZ]; exact eZ), by rw [hn]; exact hl, fun ys W pm so hW => ?_⟩
      have s1 : Same H (upd H5 a (.dK (dk l))) := Same.unlock ea sm
      exact q ys W _ pm so upd_same (s1.free hW) (Same.new s1 hW)
end
end Lw
namespace Lw
open PySem PySem.Spec PyProof.Rows L2 GrT GrOwn
abbrev sIsName : Stmt := top 8
abbrev sValueSize : Stmt := top 10
abbrev sInit : Stmt := inClass (top 11) 0
abbrev sMake : Stmt := inClass (top 11) 1
abbrev sSize : Stmt := inClass (top 11) 3
abbrev sEq : Stmt := inClass (top 11) 14
abbrev sContains : Stmt := inClass (top 11) 16
abbrev sLen : Stmt := inClass (top 11) 17
abbrev sGet : Stmt := inClass (top 11) 18
abbrev sIter : Stmt := inClass (top 11) 19
/-! ### a record in the heap -/
theorem nSF : ¬ (("_fields" : Str) = "_size") := by decide +kernel
theorem nNS : ¬ (("names" : Str) = "_size") := by decide +kernel
theorem nNF : ¬ (("names" : Str) = "_fields") := by decide +kernel
def rf (t d : Addr) (z : Int) : List (Str × V) := putF "_size" (.int z) (putF "_fields" (.ref d) (putF "names" (.ref t) []))
theorem rf_names (t d : Addr) (z : Int) : (rf t d z).lookup ("names" : Str) = some (.ref t) := by
  unfold rf
  rw [lookup_putF, if_neg nNS, lookup_putF, if_neg nNF, lookup_putF, if_pos rfl]
theorem rf_fields (t d : Addr) (z : Int) : (rf t d z).lookup ("_fields" : Str) = some (.ref d) := by
  unfold rf
  rw [lookup_putF, if_neg nSF, lookup_putF, if_pos rfl]
theorem rf_size (t d : Addr) (z : Int) : (rf t d z).lookup ("_size" : Str) = some (.int z) := by
  unfold rf
  rw [lookup_putF, if_pos rfl]
/-- at a: a record of the class C, its fields l, what it is made of within S -/
structure RA (S : Addr → Prop) (C : Addr) (H : Hp) (a : Addr) (l : List (Str × V)) (z : Int) : Prop where
  ex : ∃ dx tp d, (S a ∧ S tp ∧ S d) ∧ H a = some (.ins C dx (rf tp d z)) ∧ H tp = some (.tup ((names l).map V.str)) ∧ H d = some (.dK (dk l))
  nd : (names l).Nodup
  so : sortedS (names l) = true
def Ro : HO → Prop
  | .ins _ _ _ => True
  | .tup _ => True
  | .dK _ => True
  | _ => False
theorem RA.keep {S : Addr → Prop} {C : Addr} {H H' : Hp} {a : Addr} {l : List (Str × V)} {z : Int} (r : RA S C H a l z) (k : ∀ b o, S b → H b = some o → Ro o → H' b = some o) : RA S C H' a l z := by
  obtain ⟨⟨dx, tp, d, ⟨s1, s2, s3⟩, e1, e2, e3⟩, n, s⟩ := r
  exact ⟨⟨dx, tp, d, ⟨s1, s2, s3⟩, k _ _ s1 e1 True.intro, k _ _ s2 e2 True.intro, k _ _ s3 e3 True.intro⟩, n, s⟩
theorem RA.wid {S S' : Addr → Prop} {C : Addr} {H : Hp} {a : Addr} {l : List (Str × V)} {z : Int} (r : RA S C H a l z) (k : ∀ b, S b → S' b) : RA S' C H a l z := by
  obtain ⟨⟨dx, tp, d, ⟨s1, s2, s3⟩, e1, e2, e3⟩, n, s⟩ := r
  exact ⟨⟨dx, tp, d, ⟨k _ s1, k _ s2, k _ s3⟩, e1, e2, e3⟩, n, s⟩
theorem RA.any {S : Addr → Prop} {C : Addr} {H : Hp} {a : Addr} {l : List (Str × V)} {z : Int} (r : RA S C H a l z) : RA (fun _ => True) C H a l z := r.wid fun _ _ => True.intro
/-- v is t, dicts having become records -/
def Rc (S : Addr → Prop) (C : Addr) (H : Hp) : Nat → V → T → Prop
  | 0, v, t => ∃ i, v = .int i ∧ t = .int i
  | n + 1, v, t => (∃ i, v = .int i ∧ t = .int i) ∨ ∃ a l fs, v = .ref a ∧ t = .fds fs ∧ RA S C H a l (nfs fs) ∧ Wf 40 fs ∧ (names l).Perm (names fs) ∧ ∀ x v u, look x l = some v → look x fs = some u → Rc S C H n v u
section
variable {S S' : Addr → Prop} {C : Addr} {H H' : Hp}
theorem Rc.int {n : Nat} (i : Int) : Rc S C H n (.int i) (.int i) := by
  cases n with
  | zero => exact ⟨i, rfl, rfl⟩
  | succ n => exact .inl ⟨i, rfl, rfl⟩
theorem Rc.cases {n : Nat} {v : V} {t : T} {P : Prop} (h : Rc S C H n v t) (h1 : ∀ i, v = .int i → t = .int i → P)
    (h2 : ∀ k a l fs, n = k + 1 → v = .ref a → t = .fds fs → RA S C H a l (nfs fs) → Wf 40 fs → (names l).Perm (names fs) → (∀ x v u, look x l = some v → look x fs = some u → Rc S C H k v u) → P) : P := by
  cases n with
  | zero =>
    obtain ⟨i, e1, e2⟩ := h
    exact h1 i e1 e2
  | succ k =>
    rcases h with ⟨i, e1, e2⟩ | ⟨a, l, fs, e1, e2, e3, e4, e5, e6⟩
    · exact h1 i e1 e2
    · exact h2 k a l fs rfl e1 e2 e3 e4 e5 e6
theorem Rc.keep : ∀ {n : Nat} {v : V} {t : T}, Rc S C H n v t → (∀ b o, S b → H b = some o → Ro o → H' b = some o) → Rc S C H' n v t
  | 0, _, _, h, _ => h
  | n + 1, v, t, h, k => by
    rcases h with h | ⟨a, l, fs, e1, e2, e3, e4, e5, e6⟩
    · exact .inl h
    · exact .inr ⟨a, l, fs, e1, e2, e3.keep k, e4, e5, fun x v u q1 q2 => (e6 x v u q1 q2).keep k⟩
theorem Rc.wid : ∀ {n : Nat} {v : V} {t : T}, Rc S C H n v t → (∀ b, S b → S' b) → Rc S' C H n v t
  | 0, _, _, h, _ => h
  | n + 1, v, t, h, k => by
    rcases h with h | ⟨a, l, fs, e1, e2, e3, e4, e5, e6⟩
    · exact .inl h
    · exact .inr ⟨a, l, fs, e1, e2, e3.wid k, e4, e5, fun x v u q1 q2 => (e6 x v u q1 q2).wid k⟩
theorem Rc.same {n : Nat} {v : V} {t : T} (h : Rc S C H n v t) (s : Same H H') : Rc S C H' n v t := h.keep fun b o _ e _ => s b o e
theorem Rc.fx {p : Addr} {n : Nat} {v : V} {t : T} (h : Rc S C H n v t) (tp : Tape H p) (s : Fx p H H') : Rc S C H' n v t := h.keep fun b o _ e r => s b o (fun q => by
  obtain ⟨ns, tl, _⟩ := tp
  rw [q, tl] at e
  cases e
  exact r) e
end
/-! ### what the top says of the class -/
structure RecK (K : PySem.W.Frag) (mg : Str → Option Value) (C : Addr) : Prop where
  cl : Cls K C
  nN : NoAttr K C "names"
  nF : NoAttr K C "_fields"
  nS : NoAttr K C "_size"
  ha : PySem.W.findIn K (.ref C) "__class__" = some (some (.builtin "object.__class__"))
  hn : PySem.W.specialIn K (.builtin "object.__class__") "__get__" = some (some (.builtin "getset_descriptor.__get__"))
  htk : PySem.W.takesIn K (.builtin "object.__class__") = some true
  hm : PySem.W.mroIn K C (.type "object") = some true
  kI : PySem.W.kitOne K (.type "int") (.ref C) = some false
  kRD : PySem.W.kitOne K (.ref C) (.type "dict") = some false
  kRC : PySem.W.kitOne K (.ref C) (.ref C) = some true
  sI : PySem.W.subIn K (.type "int") (.ref C) = some false
  sR : PySem.W.subIn K (.ref C) (.type "int") = some false
  mgC : mg "Record" = some (.ref C)
theorem RecK.ty {K : PySem.W.Frag} {mg : Str → Option Value} {C : Addr} {H : Hp} {a dx : Addr} {fs : List (Str × V)} (R : RecK K mg C) (e : H a = some (.ins C dx fs)) : TyX K H (.ref a) (.ref C) := .base (.ins e R.cl R.ha R.hn R.htk R.hm)
/-- a def of the class, by its name -/
structure DfM (K : PySem.W.Frag) (C : Addr) (x q : Str) (st : Stmt) (ps : List Str) : Prop where
  ex : ∃ f fd, Sm K C x f ∧ PySem.W.fnIn K f = true ∧ L2.Fun K x q st f fd ∧ Binds K fd ps []
structure Mth (P : Program) (w : World) (K : PySem.W.Frag) (mg : Str → Option Value) (base : Heap) (C : Addr) (k : Nat) (x : Str) (sp : Sp) : Prop where
  ex : ∃ (f : Addr) (fd : FuncData) (ps : List Str), FnOk P w K mg base CX0 k f fd ps sp ∧ Sm K C x f ∧ PySem.W.fnIn K f = true ∧ Binds K fd ps []
structure MthS (P : Program) (w : World) (K : PySem.W.Frag) (mg : Str → Option Value) (base : Heap) (C : Addr) (k : Nat) (x : Str) (sp : Nat → Sp) : Prop where
  ex : ∃ (f : Addr) (fd : FuncData) (ps : List Str), FnS P w K mg base CX0 k f fd ps sp ∧ Sm K C x f ∧ PySem.W.fnIn K f = true ∧ Binds K fd ps []
section
variable {P : Program} {w : World} {K : PySem.W.Frag} {mg : Str → Option Value} {base : Heap} {C : Addr}
theorem DfM.cal {x qu : Str} {st : Stmt} {N ps : List Str} {k : Nat} {sp : Sp} (D : DfM K C x qu st ps) (S : FnScope N ps (defScope st)) (len : ∀ vs H Q E, sp vs H Q E → vs.length = ps.length)
    (body : ∀ (f : Addr) (cdv : Value) (A : Around) (outer : List Env) (s : Shared) (H : Hp) (vs : List V) (Q : VK) (E : XK), Room k (A.deeper (envOfC qu (defScope st) s.heap.objs.size f cdv)) → sp vs H Q E →
      ∃ t, PSs (cxOf CX0 P w K mg base N qu (defScope st) f cdv A outer s H E).nox (defBody st) t ∧ t { nx := fun _ H' => Q .non H', rt := Q } (start N vs) H) : Mth P w K mg base C (k + 1) x sp := by
  obtain ⟨f, fd, hm, hfn, F, b⟩ := D.ex
  exact ⟨f, fd, ps, F.ok S len (body f), hm, hfn, b⟩
end
section
variable {X : Cx} {C : Addr} {k j : Nat} {sp : Sp}
theorem op_inM (m : Mth X.prog X.w X.K X.mg X.base C k "__contains__" sp) (hr : Room j X.A) (hk : k ≤ j) : OpR X (compareOp .In) (rInO false C sp E0) := by
  obtain ⟨f, fd, ps, F, s, _, b⟩ := m.ex
  exact op_inO s F (hr.mono hk) b pass0
theorem op_notInM (m : Mth X.prog X.w X.K X.mg X.base C k "__contains__" sp) (hr : Room j X.A) (hk : k ≤ j) : OpR X (compareOp .NotIn) (rInO true C sp E0) := by
  obtain ⟨f, fd, ps, F, s, _, b⟩ := m.ex
  exact op_notInO s F (hr.mono hk) b pass0
theorem pe_ixM {a b : Expr} {ta tb : TE} {pos : Pos} (m : Mth X.prog X.w X.K X.mg X.base C k "__getitem__" sp) (hr : Room j X.A) (hk : k + 1 ≤ j) (ha : PE X a ta) (hb : PE X b tb)
    (hsl : ∀ (q : Addr) (i : Value), subscripted b true (.ref q) i = runValue (.builtin "lifetime.subscript" ⟨[.ref q, i], []⟩) := by intro _ _; with_unfolding_all rfl) : PE X (.Subscript a b pos) (tIxO C sp E0 ta tb) := by
  obtain ⟨f, fd, ps, F, s, fn, bd⟩ := m.ex
  exact pe_ixO s fn F (hr.mono hk) bd pass0 ha hb hsl
theorem call_lenM (m : Mth X.prog X.w X.K X.mg X.base C k "__len__" sp) (hr : Room j X.A) (hk : k + 1 ≤ j) : CallR X (.builtin "len") (rLenO C sp E0) := by
  obtain ⟨f, fd, ps, F, s, _, b⟩ := m.ex
  exact call_lenO s F (hr.mono hk) b pass0
theorem op_eqML (R : RecK X.K X.mg C) (m : Mth X.prog X.w X.K X.mg X.base C k "__eq__" sp) (hr : Room j X.A) (hk : k ≤ j) : OpR X (compareOp .Eq) (rEqOL X.K C sp E0) := by
  obtain ⟨f, fd, ps, F, s, _, b⟩ := m.ex
  exact op_eqOL s R.sI F (hr.mono hk) b pass0
theorem op_eqMR (R : RecK X.K X.mg C) (m : Mth X.prog X.w X.K X.mg X.base C k "__eq__" sp) (hr : Room j X.A) (hk : k ≤ j) : OpR X (compareOp .Eq) (rEqOR C sp E0) := by
  obtain ⟨f, fd, ps, F, s, _, b⟩ := m.ex
  exact op_eqOR s R.sR F (hr.mono hk) b pass0
theorem pi_ownM {tg e : Expr} {te : TE} (R : RecK X.K X.mg C) (m : MthS X.prog X.w X.K X.mg X.base C k "__iter__" (spIt X.K)) (hr : Room j X.A) (hk : k ≤ j) (he : PE X e te) : PI X tg e (iOwn X.K te C) := by
  obtain ⟨f, fd, ps, F, s, _, b⟩ := m.ex
  exact pi_own s R.cl R.nN F (hr.mono hk) b pass0 he
theorem ps_no {st : Stmt} : PS X st (fun _ _ _ => False) := ⟨fun _ _ _ _ _ _ h => h.elim⟩
theorem pe_no {e : Expr} : PE X e (fun _ _ _ => False) := ⟨fun _ _ _ _ _ _ h => h.elim⟩
end
end Lw
/-! A generator's run from one point to the next: what holds of its end; for and yield; the next of a generator. -/
namespace Gn
open PySem PySem.Spec PyProof.Rows L2 GenW
/-- the code c with the term t comes to an end of which Φ holds -/
def Sg (M : Model) (A : Around) (Φ : End → Shared → Prop) (c : Code) (t : Sem PySem.Fin) (fs : List Frame) (s : Shared) : Prop :=
  ∀ Γ p, Γ.code = c → Γ.Woken A → ∃ e s', Runs M Γ p t fs s e s' ∧ Φ e s'
section
variable {M : Model} {A : Around} {Φ : End → Shared → Prop} {c : Code} {fs : List Frame} {s : Shared} {gd : Bool → Bool} {lv : List Value → List Value}
theorem sg_wrap {α : Type} {m : Sem α} {K : α → Sem PySem.Fin} {H : Value → Sem PySem.Fin} (h : wpAny M (A.over c fs) m (fun a s' => Sg M A Φ c (K a) fs s') (fun x s' => Sg M A Φ c (H x) fs s') s) : Sg M A Φ c (m.wrap K H gd lv) fs s := by
  rintro Γ p rfl hΓ
  exact runs_wrap_of_wp K H gd lv m (h (Γ.over fs) p (hΓ.over fs)) (fun a p' s' h' => h' Γ p' rfl hΓ) (fun x p' s' h' => h' Γ p' rfl hΓ)
theorem sg_bind {α : Type} {m : Sem α} {K : α → Sem PySem.Fin} (h : wpAny M (A.over c fs) m (fun a s' => Sg M A Φ c (K a) fs s') (fun x s' => Sg M A Φ c (.raise x) fs s') s) : Sg M A Φ c (m >>= K) fs s := by
  rw [Sem.bind_eq_wrap']
  exact sg_wrap h
theorem sg_bind_wrap {α β : Type} {m : Sem α} {K : α → Sem β} {K' : β → Sem PySem.Fin} {H' : Value → Sem PySem.Fin} (h : wpAny M (A.over c fs) m (fun a s' => Sg M A Φ c ((K a).wrap K' H' gd lv) fs s') (fun x s' => Sg M A Φ c (H' x) fs s') s) :
    Sg M A Φ c ((m >>= K).wrap K' H' gd lv) fs s := by
  rw [Sem.bind_eq_wrap', Sem.wrap_wrap]
  exact sg_wrap h
theorem sg_at {p' : Pos} {k : Unit → Sem PySem.Fin} (h : Sg M A Φ c (k ()) fs s) : Sg M A Φ c (.at p' k) fs s :=
  sg_wrap (m := standAt p') (K := k) (H := .raise) (gd := id) (lv := id) (wpAny_standAt h)
theorem sg_point {l : List Value} {k : Unit → Sem PySem.Fin} (h : Sg M A Φ c (k ()) fs s) : Sg M A Φ c (.point l k) fs s :=
  sg_wrap (m := point) (K := k) (H := .raise) (gd := id) (lv := fun _ => l) (wpAny_point h)
theorem sg_call {c' : Code} {h g l} {k : Result → Sem PySem.Fin} (hc : ∀ p, Sg M A Φ c' (M.den c') (.ret k h g l c p [] :: fs) s) : Sg M A Φ c (.call c' h g l k) fs s := by
  rintro Γ p rfl hΓ
  obtain ⟨e, s', hr, he⟩ := hc p (Γ.goto c') p rfl (hΓ.goto c')
  exact ⟨e, s', runs_call_seg hr, he⟩
theorem sg_leaf {k h g l c₁ p₁ kp} (r : Result) (hk : Sg M A Φ c₁ (k r) fs s) : Sg M A Φ c (leafOf r) (.ret k h g l c₁ p₁ kp :: fs) s := by
  rintro Γ p rfl hΓ
  obtain ⟨e, s', hr, he⟩ := hk (Γ.goto c₁) p₁ rfl (hΓ.goto c₁)
  exact ⟨e, s', Runs.pop r hr, he⟩
theorem sg_again {c' : Code} (hq : c'.quiet = true) (hc : Sg M A Φ c' (M.den c') fs s) : Sg M A Φ c (.pure (.again c')) fs s := by
  rintro Γ p rfl hΓ
  obtain ⟨e, s', hr, he⟩ := hc (Γ.goto c') p rfl (hΓ.goto c')
  exact ⟨e, s', Runs.head (c₁ := c') (fun _ _ x => .again hq x) hr, he⟩
theorem sg_end (r : Result) (h : Φ (.ret r) s) : Sg M A Φ c (leafOf r) [] s := by
  rintro Γ p rfl _
  exact ⟨.ret r, s, Runs.leaf r, h⟩
theorem sg_yield {v g l} {k : Resume → Sem PySem.Fin} (hfs : splitAtGen fs = none) (h : ∀ p, Φ (.susp v g l k c p fs) s) : Sg M A Φ c (.yield v g l k) fs s := by
  rintro Γ p rfl _
  exact ⟨_, s, Runs.yield' fs hfs, h p⟩
variable {env : Env} {K : Flow → Sem PySem.Fin} {J : Value → Sem PySem.Fin}
theorem sg_execs_cons {st : Stmt} {rest : List Stmt} (h : Sg M A Φ c ((exec st env).wrap (fun f => match f with | .next => (execs rest env).wrap K J gd lv | f => K f) J gd lv) fs s) : Sg M A Φ c ((execs (st :: rest) env).wrap K J gd lv) fs s := by
  rw [execs_cons_wrap]
  exact h
end
/-- where the generator's code stands: its around is B -/
structure Gc (B : Around) (A : Around) (c : Code) (fs : List Frame) (gd : Bool → Bool) : Prop where
  over : A.over c fs = B
  split : splitAtGen fs = none
  guard : fs.any Frame.guarded = false
  gd : gd false = false
theorem Gc.loop {B A : Around} {c c' : Code} {fs : List Frame} {gd : Bool → Bool} {k : Result → Sem PySem.Fin} {l kp : List Value} {p : Pos} (g : Gc B A c fs gd) (hw : c'.weight = 0) (hu : c'.cUnits = 0) :
    Gc B A c' (.ret k none (gd false) l c p kp :: fs) id where
  over := (over_loop hw hu).trans g.over
  split := by
    show (splitAtGen fs).map _ = none
    rw [g.split]; rfl
  guard := by
    show (gd false || fs.any Frame.guarded) = false
    rw [g.gd, g.guard]; rfl
  gd := rfl
section
variable {M : Model} {A B : Around} {Φ : End → Shared → Prop} {c : Code} {fs : List Frame} {s : Shared} {gd : Bool → Bool} {lv : List Value → List Value} {env : Env} {K : Flow → Sem PySem.Fin} {J : Value → Sem PySem.Fin}
/-- nothing is raised -/
def NoE : Value → Shared → Prop := fun _ _ => False
theorem sg_wrapN {α : Type} {m : Sem α} {K : α → Sem PySem.Fin} {H : Value → Sem PySem.Fin} (g : Gc B A c fs gd) (h : wpAny M B m (fun a s' => Sg M A Φ c (K a) fs s') NoE s) : Sg M A Φ c (m.wrap K H gd lv) fs s :=
  sg_wrap (by rw [g.over]; exact wpAny_mono h (fun _ _ z => z) fun _ _ z => z.elim)
/-- the generator's state goes on, to an end of which Φ holds -/
def Go (M : Model) (A : Around) (Φ : End → Shared → Prop) (gs : GenState) (s : Shared) : Prop :=
  match gs with
  | .fresh c => Sg M A Φ c (M.den c) [] s
  | .suspended k _ c _ fs _ => Sg M A Φ c (k (.send .none)) fs s
  | _ => False
/-- an end that hands out v; it goes on as cont says -/
structure YEnd (M : Model) (A : Around) (v : Value) (cont : (End → Shared → Prop) → Shared → Prop) (e : End) : Prop where
  res : e.result = .yielded v
  quiet : e.quiet = true
  go : ∀ Φ s, cont Φ s → Go M A Φ e.genState s
/-- yield e, as a statement -/
theorem sg_Yield {e : Expr} {ypos pos : Pos} (g : Gc B A c fs gd) (hco : env.scope.isCoroutine = false) (hi : interactive env = false)
    (h : wpAny M B (eval e env) (fun v s' => ∀ e', YEnd M A v (fun Φ' s'' => Sg M A Φ' c (K .next) fs s'') e' → Φ e' s') NoE s) :
    Sg M A Φ c ((exec (.Expr (.Yield (some e) ypos) pos) env).wrap K J gd lv) fs s := by
  rw [exec_Expr env _ pos hi rfl]
  show Sg M A Φ c (.at pos fun _ => ((eval e env >>= fun v => (standAt ypos >>= fun _ => yieldOut env v)) >>= fun x => dropValue (.Yield (some e) ypos) pos x).wrap K J gd lv) fs s
  have hy : ∀ v, yieldOut env v = yieldValue v := fun v => by simp only [yieldOut, hco, Bool.false_eq_true, if_false]
  simp only [hy]
  refine sg_at ?_
  rw [Sem.bind_eq_wrap', Sem.bind_eq_wrap', Sem.wrap_wrap, Sem.wrap_wrap]
  refine sg_wrapN ⟨g.over, g.split, g.guard, g.gd⟩ (wpAny_mono h (fun v s' h' => ?_) fun _ _ x => x)
  refine sg_at (sg_yield g.split fun p => h' _ ⟨rfl, ?_, fun Φ' s'' hc => ?_⟩)
  · show (!(gd false || fs.any Frame.guarded)) = true
    rw [g.gd, g.guard]
    rfl
  · exact hc
/-- for x in iter: .., as a statement: T what is wanted of its loop -/
theorem sg_For {x : Str} {px : Pos} {iter : Expr} {body : List Stmt} {pos : Pos} (g : Gc B A c fs gd) (hs : ∀ v, foldedSetIterable iter env v = pure v)
    (h : wpAny M B (eval iter env) (fun v s1 => wpAny M B (pyIter v) (fun it s2 => ∀ kk p, (∀ Φ' s', Sg M A Φ' c (K .next) fs s' → Sg M A Φ' c (kk (.ok .next)) fs s') →
      Sg M A Φ (.forLoop (.Name x px) it body [] env) (M.den (.forLoop (.Name x px) it body [] env)) (.ret kk none (gd false) (lv []) c p [] :: fs) s2) NoE s1) NoE s) :
    Sg M A Φ c ((exec (.For (.Name x px) iter body [] pos) env).wrap K J gd lv) fs s := by
  rw [exec_For]
  refine sg_bind_wrap (wpAny_standAt ?_)
  refine sg_bind_wrap ?_
  rw [g.over]
  refine wpAny_mono h (fun v s1 h1 => ?_) fun _ _ z => z.elim
  refine sg_bind_wrap (wpAny_of_eq (hs v) ?_)
  refine sg_bind_wrap (wpAny_standAt ?_)
  refine sg_bind_wrap ?_
  rw [g.over]
  refine wpAny_holding (wpAny_mono h1 (fun it s2 h2 => ?_) fun _ _ z => z.elim)
  exact sg_call fun p => h2 _ p fun Φ' s' z => z
end
section
variable {prog : Program} {w : World} {A B : Around} {Φ : End → Shared → Prop} {c : Code} {fs : List Frame} {s : Shared} {gd : Bool → Bool} {lv : List Value → List Value} {env : Env} {K : Flow → Sem PySem.Fin} {J : Value → Sem PySem.Fin}
/-- one turn of such a loop -/
theorem sg_turn {x : Str} {px : Pos} {it : Value} {body : List Stmt} {kk : Result → Sem PySem.Fin} {g0 : Bool} {l0 kp : List Value} {p : Pos}
    (g : Gc B A (.forLoop (.Name x px) it body [] env) (.ret kk none g0 l0 c p kp :: fs) id)
    (h : wpAny (model prog w) B (pyNext it) (fun r s1 => match r with
      | none => Sg (model prog w) A Φ c (kk (.ok .next)) fs s1
      | some v => wpAny (model prog w) B (letOwnedTupleGo (.Name x px) it v) (fun _ s1' => wpAny (model prog w) B (storeName env x v) (fun _ s2 => ∀ Kb Jb, (∀ Φ' s', Sg (model prog w) A Φ' (.forLoop (.Name x px) it body [] env) ((model prog w).den (.forLoop (.Name x px) it body [] env)) (.ret kk none g0 l0 c p kp :: fs) s' → Sg (model prog w) A Φ' (.forLoop (.Name x px) it body [] env) (Kb .next) (.ret kk none g0 l0 c p kp :: fs) s') →
          Sg (model prog w) A Φ (.forLoop (.Name x px) it body [] env) ((execs body env).wrap Kb Jb id id) (.ret kk none g0 l0 c p kp :: fs) s2) NoE s1') NoE s1) NoE s) :
    Sg (model prog w) A Φ (.forLoop (.Name x px) it body [] env) ((model prog w).den (.forLoop (.Name x px) it body [] env)) (.ret kk none g0 l0 c p kp :: fs) s := by
  show Sg _ A Φ _ ((forTurn (.Name x px) it body [] env).onRaise (fun x => do noteFrame x env; theTreesLotGoes x)) _ s
  unfold forTurn
  rw [Sem.onRaise_eq_wrap]
  refine sg_bind_wrap (wpAny_standAt ?_)
  refine sg_bind_wrap ?_
  rw [g.over]
  refine wpAny_onRaise (wpAny_mono h (fun r s1 h1 => ?_) fun _ _ z => z.elim)
  cases r with
  | none =>
    refine sg_again rfl ?_
    show Sg _ A Φ _ ((execs [] env).onRaise (fun x => do noteFrame x env; theTreesLotGoes x) >>= fun f => (pure (.done f) : Sem PySem.Fin)) _ s1
    exact sg_leaf (.ok .next) h1
  | some v =>
    refine sg_bind_wrap ?_
    rw [g.over]
    refine wpAny_mono h1 (fun _ s1' h1' => ?_) fun _ _ z => z.elim
    refine sg_bind_wrap ?_
    rw [g.over]
    refine wpAny_assign_Name (wpAny_mono h1' (fun _ s2 h2 => ?_) fun _ _ z => z.elim)
    rw [Sem.bind_eq_wrap', Sem.wrap_wrap]
    exact h2 _ _ fun Φ' s' z => sg_again rfl z
end
section
variable {M : Model} {A B : Around} {Φ : End → Shared → Prop} {c : Code} {fs : List Frame} {s : Shared} {gd : Bool → Bool} {lv : List Value → List Value} {env : Env} {K : Flow → Sem PySem.Fin} {J : Value → Sem PySem.Fin}
/-- if -/
theorem sg_If {t : Expr} {a b : List Stmt} {pos : Pos} (g : Gc B A c fs gd)
    (h : wpAny M B (isTrue t env (eval t env)) (fun d s' => if d = true then Sg M A Φ c ((execs a env).wrap K J gd lv) fs s' else Sg M A Φ c ((execs b env).wrap K J gd lv) fs s') NoE s) :
    Sg M A Φ c ((exec (.If t a b pos) env).wrap K J gd lv) fs s := by
  show Sg M A Φ c (((standAt pos >>= fun _ => isTrue t env (eval t env) >>= fun d => if d then execs a env else execs b env) : Sem Flow).wrap K J gd lv) fs s
  refine sg_bind_wrap (wpAny_standAt ?_)
  refine sg_bind_wrap ?_
  rw [g.over]
  refine wpAny_mono h (fun d s' h' => ?_) fun _ _ z => z.elim
  cases d with
  | true => simpa using h'
  | false => simpa using h'
/-- a generator's body -/
theorem sg_func {prog : Program} {w : World} {body : List Stmt} (h : ∀ Kb Jb, (∀ (Φ' : End → Shared → Prop) s', Φ' (.ret (.ok (.ret .none))) s' → Sg (model prog w) A Φ' (.func body env) (Kb .next) [] s') → Sg (model prog w) A Φ (.func body env) ((execs body env).wrap Kb Jb id id) [] s) :
    Sg (model prog w) A Φ (.func body env) ((model prog w).den (.func body env)) [] s := by
  show Sg _ A Φ _ (.point [] fun _ => ((execs body env).onRaise (leaving env)) >>= _) [] s
  refine sg_point ?_
  rw [Sem.onRaise_eq_wrap, Sem.bind_eq_wrap', Sem.wrap_wrap]
  exact h _ _ fun Φ' s' z => sg_end (.ok (.ret .none)) z
/-- a generator is woken -/
theorem resume_go {E : Value → Shared → Prop} {g : Nat} {gs : GenState} {l : List Value} {α : Type} {k : GenResult → Sem α} {Q : α → Shared → Prop} (hg : s.gens[g]? = some gs) (hgo : Go M A Φ gs (s.setGen g .running))
    (hq : ∀ e s₁, Φ e s₁ → e.quiet = true ∧ wpAny M A (k e.result) Q E (s₁.setGen g e.genState)) : wpAny M A (.resume g (.send .none) l k) Q E s := by
  intro Γ p hΓ
  rw [Sem.wp_resume]
  have hB : ∀ c, (Γ.wake c p).Woken A := fun c => hΓ.wake c p
  cases gs with
  | fresh c =>
    obtain ⟨e₁, s₁, hr, he⟩ := hgo (Γ.wake c p) p rfl (hB c)
    obtain ⟨q1, q2⟩ := hq e₁ s₁ he
    exact ⟨_, _, by unfold Wakes; rw [hg]; exact ⟨e₁, s₁, hr, q1, rfl, rfl⟩, q2 Γ p hΓ⟩
  | suspended k₀ l₀ c₀ p₀ fs₀ cl =>
    obtain ⟨e₁, s₁, hr, he⟩ := hgo (Γ.wake c₀ p) p₀ rfl (hB c₀)
    obtain ⟨q1, q2⟩ := hq e₁ s₁ he
    exact ⟨_, _, by unfold Wakes; rw [hg]; exact ⟨e₁, s₁, hr, q1, rfl, rfl⟩, q2 Γ p hΓ⟩
  | running => exact hgo.elim
  | finished => exact hgo.elim
end
section
variable {P : Program} {w : World} {A : Around} {E : Value → Shared → Prop} {s : Shared}
/-- the end of a run that raised nothing -/
theorem next_go {a : Addr} {g : Nat} {gs : GenState} {Φ : End → Shared → Prop} {Q : Option Value → Shared → Prop} (hh : A.handled = none) (hl : s.heap.NoLimit) (hroom : A.depth < recursionLimit) (hg : s.heap.IsGen a g) (hgs : s.gens[g]? = some gs)
    (hgo : Go (model P w) A.in1 Φ gs (s.setGen g .running))
    (hq : ∀ e s₁, Φ e s₁ → (∃ v, e.result = .yielded v ∧ e.quiet = true ∧ Q (some v) (s₁.setGen g e.genState)) ∨
      (e.result = .returned .none ∧ e.quiet = true ∧ ∀ h' : Heap, (∀ b o, s₁.heap.get? b = some o → h'.get? b = some o) → Q none { s₁.setGen g e.genState with heap := h' })) :
    wpAny (model P w) A (pyNext (.ref a)) Q E s := by
  unfold pyNext
  refine wpAny_bind (wpAny_attempt (wpAny_callSpecial?_slot (name := Str.ofString "__next__") hg.typeIs slot_gen_next
    (wpAny_call_entry slot_gen_next hg.typeIs entry_gen_next ?_ (args_gen_next _))))
  show wpAny _ A.in1 (Builtin.Generator.genWake (.ref a) (.send .none)) _ _ s
  unfold Builtin.Generator.genWake
  refine wpAny_bind (wpAny_holding (wpAny_genNumber hg (wpAny_bind (wpAny_genState hgs ?_))))
  cases gs with
  | running => exact hgo.elim
  | finished => exact hgo.elim
  | _ =>
    refine wpAny_bind (wpAny_roomToWake hl hroom ?_)
    show wpAny _ A.in1 (.resume g (.send .none) [] _) _ _ s
    refine resume_go hgs hgo fun e s₁ he => ?_
    rcases hq e s₁ he with ⟨v, hr, hqt, hQ⟩ | ⟨hr, hqt, hQ⟩
    · refine ⟨hqt, ?_⟩
      rw [hr]
      exact wpAny_pure ⟨v, rfl, wpAny_pure hQ⟩
    · refine ⟨hqt, ?_⟩
      rw [hr]
      show wpAny _ A.in1 (newExc (.type "StopIteration") [] >>= _) _ _ _
      refine wpAny_bind ?_
      simp only [newExc, newTuple]
      refine wpAny_bind (wpAny_newObj_type ?_ (by size_fits))
      refine wpAny_bind (m := firstArgMember _ _) (wpAny_of_eq (a := Value.none) (by first | rfl | (simp only [firstArgMember]; rfl)) ?_)
      refine wpAny_newObj_type ?_ (by size_fits)
      simp only [raiseNew]
      refine wpAny_bind (wpAny_bind (wpAny_handled ?_))
      first | rw [show A.in1.handled = none from hh] | rw [hh]
      refine wpAny_throw ?_
      refine wpAny_bind (wpAny_isInstance (T := "StopIteration") (b := true) ⟨_, Heap.get?_push_size _ rfl, rfl⟩ isSubtype_stop ?_)
      exact wpAny_pure (hQ _ fun b o hb => Heap.get?_push_of_some _ (Heap.get?_push_of_some _ hb))
end
end Gn
/-! A generator's context, made anew whenever it is woken; what a stretch of its run keeps. -/
namespace Gn
open PySem PySem.Spec PyProof.Rows L2 GenW
/-- the objects older than n -/
def cutAt (n : Nat) (h : Heap) : Heap := ⟨h.objs.extract 0 n, h.life⟩
theorem cutAt_get {n : Nat} {h : Heap} {b : Addr} (hb : b < n) : (cutAt n h).get? b = h.get? b := by
  have hb2 : @LT.lt Nat _ b n := hb
  have e : (h.objs.extract 0 n)[b]? = h.objs[b]? := by
    rw [Array.getElem?_extract]
    split
    · rw [Nat.zero_add]
    · rename_i hh
      have h2 : h.objs.size ≤ b := by omega
      exact (Array.getElem?_eq_none h2).symm
  unfold cutAt Heap.get?
  rw [e]
theorem cutAt_size {n : Nat} {h : Heap} : (cutAt n h).objs.size ≤ n := by
  show (h.objs.extract 0 n).size ≤ n
  rw [Array.size_extract]
  omega
theorem cutAt_lt {n : Nat} {h : Heap} {b : Addr} {o : Obj} (e : (cutAt n h).get? b = some o) : b < n ∧ h.get? b = some o := by
  have z := Heap.lt_size e
  have z2 : b < n := Nat.lt_of_lt_of_le z cutAt_size
  exact ⟨z2, (cutAt_get z2).symm.trans e⟩
/-- a plain frame: no cells -/
structure Plain (env : Env) : Prop where
  kind : env.scope.kind = .function
  glob : env.globals = mainGlobals
  blt : env.builtins = builtinsNs
  cells : env.cells = []
  loc : ∀ x, env.kindOf x ≠ some .cell ∧ env.kindOf x ≠ some .free
  frame : env.frame = some env.locals
/-- the context of a stretch: woken at s with H -/
abbrev pcx (P : Program) (w : World) (K : PySem.W.Frag) (mg : Str → Option Value) (base : Heap) (N : List Str) (env : Env) (A : Around) (outer : List Env) (s : Shared) (H : Hp) : Cx :=
  { prog := P, w := w, K := K, mg := mg, base := base, A := A.deeper env, N := N, s_0 := { s with heap := cutAt env.locals s.heap }, H_0 := H, env := env, outer := outer, stack := env :: outer, ex := [], fn := fun _ => false, calm := true, pn := [], xe := NoE }
/-- the frame's own object tells its locals -/
def FrOk (N : List Str) (env : Env) (fo : Obj) (σ : L2.St) : Prop := ∀ h : Heap, h.get? env.locals = some fo → ∃ m, h.Ns env.locals m ∧ ∀ (i : Nat) (x : Str) (v : V), N[i]? = some x → σ[i]? = some (some v) → Vis env.scope x → ∃ u, RelV v u ∧ Look env h m x u
/-- woken: ow are the generator's own objects, pk what its consumer wants kept -/
structure Wake (P : Program) (w : World) (K : PySem.W.Frag) (mg : Str → Option Value) (base : Heap) (A : Around) (outer : List Env) (Hc : Hp) (g : Nat) (og : List (Nat × GenState)) (ow pk : List (Addr × Obj)) (s : Shared) (H : Hp) : Prop where
  num : g < s.gens.size
  gens : ∀ q ∈ og, s.gens[q.1]? = some q.2
  e0 : Env0 P w K mg base A outer s H
  ext : Same Hc H
  own : ∀ q ∈ ow, s.heap.get? q.1 = some q.2 ∧ H q.1 = none
  pin : ∀ q ∈ pk, s.heap.get? q.1 = some q.2 ∧ H q.1 = none ∧ q.1 ∉ frs outer ∧ (∀ v, q.2.data ≠ .cell v) ∧ ∀ q' ∈ ow, q.1 ≠ q'.1
/-- what a stretch from s to s1 keeps; lo: the generator's frame -/
structure Ctr (P : Program) (w : World) (outer : List Env) (lo : Addr) (s : Shared) (H H1 : Hp) (pk : List (Addr × Obj)) (s1 : Shared) : Prop where
  os : s1.os = s.os
  bare : AllBare s1.gens
  old : ∀ b o, b < lo → s.heap.get? b = some o → H b = none → b ∉ frs outer → s1.heap.get? b = some o
  slot : ∀ b o, b < lo → s.heap.get? b = some o → H b = none → b ∈ frs outer → ∃ sl, s1.heap.get? b = some { o with slots := sl }
  free : ∀ b o, b < lo → s.heap.get? b = some o → H b = none → H1 b = none
  pin : ∀ q ∈ pk, s1.heap.get? q.1 = some q.2 ∧ H1 q.1 = none
  hok : HOk P w H1 s1.heap
  same : Same H H1
theorem objOk_there {P : Program} {w : World} {H : Hp} {h : Heap} {a : Addr} : ∀ {o : HO}, ObjOk P w H h a o → ∃ u, h.get? a = some u
  | .lst _, ⟨_, _, _, _, e⟩ => ⟨_, e⟩
  | .tup _, ⟨_, _, _, o, e, _⟩ => ⟨o, e⟩
  | .dK _, ⟨_, _, _, _, o, _, _, e, _⟩ => ⟨o, e⟩
  | .dT _, ⟨_, _, _, _, o, _, _, e, _⟩ => ⟨o, e⟩
  | .set _ _, ⟨o, _, _, _, e, _⟩ => ⟨o, e⟩
  | .ins _ _ _, ⟨_, _, _, e, _⟩ => ⟨_, e⟩
  | .own _, h => h
  | .xd _, ⟨_, ⟨o, _, _, e, _⟩, _⟩ => ⟨o, e⟩
  | .rng _ _, ⟨_, _, _, e⟩ => ⟨_, e⟩
  | .frz _ _, ⟨e, _⟩ => ⟨_, e⟩
  | .tbl _, e => ⟨_, e⟩
  | .met _ _, e => ⟨_, e⟩
  | .ext _, ⟨_, e, _⟩ => e
section
variable {P : Program} {w : World} {K : PySem.W.Frag} {mg : Str → Option Value} {base : Heap} {A : Around} {outer : List Env} {N : List Str} {env : Env} {Hc : Hp} {g : Nat} {og : List (Nat × GenState)} {ow pk : List (Addr × Obj)} {s : Shared} {H : Hp}
theorem funFrames_cut {n : Nat} {h base : Heap} : ∀ {l : List Env}, (∀ b ∈ frs l, b < n) → h.FunFrames base l → (cutAt n h).FunFrames base l
  | [], _, _ => trivial
  | env :: rest, hb, hl => by
    obtain ⟨hk, ⟨L, o, hf, hn, ho, hd⟩, hr⟩ := hl
    have hL : L < n := hb L (by
      unfold frs
      rw [List.filterMap_cons, hf]
      exact List.mem_cons_self)
    refine ⟨hk, ⟨L, o, hf, hn, (cutAt_get hL).trans ho, hd⟩, funFrames_cut (fun b z => hb b ?_) hr⟩
    unfold frs at z ⊢
    rw [List.filterMap_cons, hf]
    exact List.mem_cons_of_mem _ z
/-- the context at a waking -/
theorem inv_wake {fo : Obj} {own : List (Addr × Obj)} {σ : L2.St} (pl : Plain env) (hh : A.handled = none) (W : Wake P w K mg base A outer Hc g og ow pk s H) (hfo : (env.locals, fo) ∈ ow) (fr : FrOk N env fo σ) (hb : base.objs.size ≤ env.locals) (ho : ∀ b ∈ frs outer, b < env.locals)
    (hl : σ.length = N.length) (hown : ∀ q ∈ own, q ∈ ow ∧ q.1 ≠ env.locals ∧ q.1 ∉ frs outer ∧ ∀ v, q.2.data ≠ .cell v) : Inv (pcx P w K mg base N env A outer s H) (pk ++ own) σ H s := by
  obtain ⟨_, _, e0, ext, wo, wp⟩ := W
  obtain ⟨hL, hL0⟩ := wo _ hfo
  have nol : ∀ x c, env.cells.lookup x = some c → False := fun x c z => by
    rw [pl.cells] at z
    cases z
  refine ⟨⟨e0.mod, pl.kind, pl.glob, pl.blt, cutAt_size, fun x y c h1 _ => (nol x c h1).elim, fun x hx => ?_, fun x c z _ => Bool.noConfusion z, fun _ => hh, Around.frames_deeper e0.frames, .inr ⟨rfl, pl.frame⟩, fun b z => (by cases z), fun b o e => ⟨?_, (e0.bs b o e).2⟩, ?_, fun b _ _ z => (by cases z), fun b z => (by cases z), ?_, e0.frf⟩,
    rfl, e0.bare, ⟨fun b o e n hf _ => (cutAt_lt e).2, fun b o e n hf _ => ⟨o.slots, (cutAt_lt e).2⟩, fun b o e n _ => n, fun b o e _ => ⟨o, (cutAt_lt e).2⟩, fun _ _ z => z, fun _ _ _ z => z, fun b ps z => ⟨#[], by simpa using z⟩⟩, fr _ hL, fun x c z => (nol x c z).elim, hL0, fun x c z => (nol x c z).elim, fun q hq => ?_, e0.hok, hl⟩
  · rcases hx with z | z
    · exact absurd z (pl.loc x).1
    · exact absurd z (pl.loc x).2
  · show (cutAt env.locals s.heap).get? b = some o
    rw [cutAt_get (Nat.lt_of_lt_of_le (Heap.lt_size e) hb)]
    exact (e0.bs b o e).1
  · show base.objs.size ≤ (s.heap.objs.extract 0 env.locals).size
    have h1 := e0.bsz
    rw [Array.size_extract]
    have h2 : @LE.le Nat _ base.objs.size env.locals := hb
    omega
  · exact funFrames_cut ho e0.funs
  · have hq : q ∈ pk ++ own := hq
    rcases List.mem_append.mp hq with z | z
    · obtain ⟨h1, h2, h3, h4, h5⟩ := wp q z
      exact ⟨h1, h2, h5 _ hfo, h3, h4⟩
    · obtain ⟨h1, h2, h3, h4⟩ := hown q z
      obtain ⟨g1, g2⟩ := wo q h1
      exact ⟨g1, g2, h2, h3, h4⟩
/-- what a stretch kept, from the context's own invariant -/
theorem ctr_of {own : List (Addr × Obj)} {σ : L2.St} {H1 : Hp} {s1 : Shared} (I : Inv (pcx P w K mg base N env A outer s H) (pk ++ own) σ H1 s1) (sm : Same H H1) : Ctr P w outer env.locals s H H1 pk s1 where
  os := I.os
  bare := I.bare
  old := fun b o hb e n hf => I.base.keep b o ((cutAt_get hb).trans e) n hf (fun z => nomatch z)
  slot := fun b o hb e n hf => I.base.slot b o ((cutAt_get hb).trans e) n hf (fun z => nomatch z)
  free := fun b o hb e n => I.base.free b o ((cutAt_get hb).trans e) n (fun z => nomatch z)
  pin := fun q hq => by
    obtain ⟨h1, h2, _⟩ := I.pin q (List.mem_append_right _ (List.mem_append_left _ hq))
    exact ⟨h1, h2⟩
  hok := I.hok
  same := sm
/-- a consumer's invariant behind a stretch -/
theorem inv_ctr {X : Cx} {pins : List (Addr × Obj)} {σ : L2.St} {lo : Addr} {H1 : Hp} {s1 : Shared} (I : Inv X pins σ H s) (hs : X.s_0.heap.objs.size ≤ lo) (hL : X.env.locals < lo) (hc : ∀ x c, X.env.cells.lookup x = some c → c < lo) (hex : ∀ b ∈ X.ex, b < lo)
    (ct : Ctr X.prog X.w X.stack lo s H H1 pk s1) (hp : ∀ p ∈ X.pn ++ pins, p ∈ pk ∨ p.1 < lo) : Inv X pins σ H1 s1 := by
  obtain ⟨c1, c2, c3, c4, c5, c6, c7, c8⟩ := ct
  obtain ⟨h1, g1, d1, t1, o1⟩ := s1
  have c1 : o1 = s.os := c1
  subst c1
  have stk : ∀ b, b ∉ X.fs → b ≠ X.env.locals → b ∉ frs X.stack := fun b h1 h2 hm => (List.mem_cons.mp (I.stkSub b hm)).elim h2 h1
  have young : ∀ {b : Addr} {o : Obj}, s.heap.get? b = some o → H b = none → ¬ b < lo → (∀ p ∈ X.pn ++ pins, p.1 ≠ b) → b ∈ (List.range s.heap.objs.size).filter fun b => decide (lo ≤ b) && ((H b).isNone && !((X.pn ++ pins).map (·.1)).contains b) := fun {b o} e n hb hp => by
    refine List.mem_filter.mpr ⟨List.mem_range.mpr (Heap.lt_size e), ?_⟩
    rw [decide_eq_true (Nat.le_of_not_lt hb), n]
    simp only [Option.isNone_none, Bool.true_and, Bool.not_eq_true', List.contains_eq_any_beq, List.any_eq_false, List.mem_map]
    rintro x ⟨p, hpm, rfl⟩ hx
    exact hp p hpm (beq_iff_eq.mp hx).symm
  generalize hch : (List.range s.heap.objs.size).filter (fun b => decide (lo ≤ b) && ((H b).isNone && !((X.pn ++ pins).map (·.1)).contains b)) = ch at young
  have inch : ∀ b ∈ ch, lo ≤ b ∧ H b = none ∧ ∀ p ∈ X.pn ++ pins, p.1 ≠ b := fun b hb => by
    rw [← hch] at hb
    obtain ⟨_, z⟩ := List.mem_filter.mp hb
    simp only [Bool.and_eq_true, decide_eq_true_eq, Option.isNone_iff_eq_none, Bool.not_eq_true', List.contains_eq_any_beq, List.any_eq_false, List.mem_map] at z
    refine ⟨z.1, z.2.1, fun p hp e => ?_⟩
    exact z.2.2 p.1 ⟨p, hp, rfl⟩ (beq_iff_eq.mpr e.symm)
  -- an untracked object that is not among these is old or pinned
  have one : ∀ {b : Addr} {o : Obj}, s.heap.get? b = some o → H b = none → b ∉ ch → b < lo ∨ ∃ p ∈ pk, p = (b, o) := fun {b o} e n hb => by
    by_cases hlt : b < lo
    · exact .inl hlt
    · by_cases hpin : ∃ p ∈ X.pn ++ pins, p.1 = b
      · obtain ⟨p, hpm, rfl⟩ := hpin
        rcases hp p hpm with z | z
        · refine .inr ⟨p, z, ?_⟩
          have e2 := (I.pin p hpm).1
          rw [e] at e2
          cases e2
          rfl
        · exact absurd z hlt
      · exact absurd (young e n hlt fun p hpm ep => hpin ⟨p, hpm, ep⟩) hb
  obtain ⟨m, ⟨ol, es, ep, hol, rl⟩, hlook⟩ := id I.loc
  refine I.step (g' := g1) (d' := d1) (t' := t1) (ch := ch) (fun b hb => ?_) (fun b o nL nf hb e n => ?_) (fun b o nL hf hb e n => ?_) (fun b o hb e n => ?_) (fun b o hb e => ?_) (fun b xs e => c8 _ _ e) (fun b o u e => c8 _ _ e) (fun b ps e => ⟨#[], by rw [c8 _ _ e]; simp⟩) (fun m' hm => ?_) c7 c2
  · obtain ⟨z1, z2, z3⟩ := inch b hb
    refine ⟨.inr (Nat.le_trans hs z1), fun e => ?_, fun x c hx e => ?_, z3⟩
    · rw [e] at z1
      exact absurd hL (Nat.not_lt_of_le z1)
    · have := hc x c hx
      rw [e] at this
      exact absurd this (Nat.not_lt_of_le z1)
  · rcases one e n hb with z | ⟨p, hpm, rfl⟩
    · exact c3 b o z e n (stk b nf nL)
    · exact (c6 _ hpm).1
  · rcases one e n hb with z | ⟨p, hpm, rfl⟩
    · by_cases hm : b ∈ frs X.stack
      · exact c4 b o z e n hm
      · exact ⟨o.slots, c3 b o z e n hm⟩
    · exact ⟨o.slots, (c6 _ hpm).1⟩
  · rcases one e n hb with z | ⟨p, hpm, rfl⟩
    · exact c5 b o z e n
    · exact (c6 _ hpm).2
  · cases hH : H b with
    | some u => exact objOk_there (c7 b u (c8 _ _ hH))
    | none =>
      rcases one e hH hb with z | ⟨p, hpm, rfl⟩
      · by_cases hm : b ∈ frs X.stack
        · obtain ⟨sl, z2⟩ := c4 b o z e hH hm
          exact ⟨_, z2⟩
        · exact ⟨o, c3 b o z e hH hm⟩
      · exact ⟨_, (c6 _ hpm).1⟩
  · obtain ⟨o', es', ep', ho', r'⟩ := hm
    rw [hol] at ho'
    cases ho'
    by_cases hm : X.env.locals ∈ frs X.stack
    · obtain ⟨sl, z⟩ := c4 _ _ hL hol I.free hm
      exact ⟨_, es', ep', z, r'⟩
    · exact ⟨_, es', ep', c3 _ _ hL hol I.free hm, r'⟩
end
end Gn
/-! What a generator of paths hands out; storing a name and making a tuple without touching the table of generators. -/
namespace Gn
open PySem PySem.Spec PyProof.Rows L2 GenW GrT Lw
/-! ### the paths of a record -/
inductive RowsR (R : V → List (List Str) → Prop) : List (Str × V) → List (List Str) → Prop
  | nil : RowsR R [] []
  | int {x : Str} {i : Int} {l : List (Str × V)} {ps : List (List Str)} : RowsR R l ps → RowsR R ((x, .int i) :: l) ([x] :: ps)
  | sub {x : Str} {v : V} {sub : List (List Str)} {l : List (Str × V)} {ps : List (List Str)} : R v sub → RowsR R l ps → RowsR R ((x, v) :: l) ([x] :: (sub.map (x :: ·) ++ ps))
theorem RowsR.imp {R R' : V → List (List Str) → Prop} (k : ∀ v ps, R v ps → R' v ps) : ∀ {l : List (Str × V)} {ps : List (List Str)}, RowsR R l ps → RowsR R' l ps
  | _, _, .nil => .nil
  | _, _, .int r => .int (r.imp k)
  | _, _, .sub h r => .sub (k _ _ h) (r.imp k)
/-- v is a record at most n deep, ps its paths -/
def Pt (C : Addr) (H : Hp) : Nat → V → List (List Str) → Prop
  | 0, _, _ => False
  | n + 1, v, ps => ∃ a l z, v = .ref a ∧ RA (fun _ => True) C H a l z ∧ l.length ≤ 40 ∧ RowsR (Pt C H n) l ps
theorem Pt.same {C : Addr} {H H' : Hp} (sm : Same H H') : ∀ {n : Nat} {v : V} {ps : List (List Str)}, Pt C H n v ps → Pt C H' n v ps
  | 0, _, _, h => h
  | n + 1, v, ps, ⟨a, l, z, e, r, hl, rows⟩ => ⟨a, l, z, e, r.keep fun b o _ q _ => sm b o q, hl, rows.imp fun _ _ q => q.same sm⟩
/-! ### the sleeping generator -/
/-- its own objects, apart from what the consumer has; the generators that it has -/
structure Own (lo it : Addr) (go : Obj) (g : Nat) (H1 : Hp) (pk : List (Addr × Obj)) (s1 : Shared) (og : List (Nat × GenState)) (ow : List (Addr × Obj)) : Prop where
  obj : (it, go) ∈ ow
  ow : ∀ q ∈ ow, lo ≤ q.1 ∧ s1.heap.get? q.1 = some q.2 ∧ H1 q.1 = none ∧ (∀ v, q.2.data ≠ .cell v) ∧ ∀ q' ∈ pk, q'.1 ≠ q.1
  og : ∀ q ∈ og, g < q.1 ∧ s1.gens[q.1]? = some q.2
section
variable (P : Program) (w : World) (K : PySem.W.Frag) (mg : Str → Option Value) (base : Heap) (A : Around) (outer : List Env) (lo it : Addr) (go : Obj) (g : Nat) (Hc : Hp)
/-- asleep, with ps still to come -/
def Slp : List (List Str) → List (Nat × GenState) → List (Addr × Obj) → GenState → Prop
  | [], og, ow, gs => gs.bare = true ∧ ∀ s H pk, Wake P w K mg base A outer Hc g og ow pk s H → Go (model P w) A (fun e s1 => e.result = .returned .none ∧ e.quiet = true ∧ ∃ H1, Ctr P w outer lo s H H1 pk s1) gs s
  | p :: ps, og, ow, gs => gs.bare = true ∧ ∀ s H pk, Wake P w K mg base A outer Hc g og ow pk s H → Go (model P w) A (fun e s1 => ∃ t H1 og' ow', e.result = .yielded (.ref t) ∧ e.quiet = true ∧ H t = none ∧ H1 t = some (.tup (p.map V.str)) ∧
      Ctr P w outer lo s H H1 pk s1 ∧ Own lo it go g H1 pk s1 og' ow' ∧ Slp ps og' ow' e.genState) gs s
/-- what is wanted of a stretch's end, ps still to come at its begin -/
def Phi (s : Shared) (H : Hp) (pk : List (Addr × Obj)) : List (List Str) → End → Shared → Prop
  | [] => fun e s1 => e.result = .returned .none ∧ e.quiet = true ∧ ∃ H1, Ctr P w outer lo s H H1 pk s1
  | p :: ps => fun e s1 => ∃ t H1 og' ow', e.result = .yielded (.ref t) ∧ e.quiet = true ∧ H t = none ∧ H1 t = some (.tup (p.map V.str)) ∧ Ctr P w outer lo s H H1 pk s1 ∧ Own lo it go g H1 pk s1 og' ow' ∧
      Slp P w K mg base A outer lo it go g Hc ps og' ow' e.genState
end
theorem Slp.iff {P : Program} {w : World} {K : PySem.W.Frag} {mg : Str → Option Value} {base : Heap} {A : Around} {outer : List Env} {lo it : Addr} {go : Obj} {g : Nat} {Hc : Hp} {ps : List (List Str)} {og : List (Nat × GenState)} {ow : List (Addr × Obj)} {gs : GenState} :
    Slp P w K mg base A outer lo it go g Hc ps og ow gs ↔ gs.bare = true ∧ ∀ s H pk, Wake P w K mg base A outer Hc g og ow pk s H → Go (model P w) A (Phi P w K mg base A outer lo it go g Hc s H pk ps) gs s := by
  cases ps <;> rfl
/-! ### the table of generators is left alone -/
section
variable {X : Cx} {pins : List (Addr × Obj)} {σ : L2.St} {H : Hp} {s : Shared} {A : Around} {E : Value → Shared → Prop}
theorem store_g {i : Nat} {x : Str} {v : V} {u : Value} {Q : Unit → Shared → Prop} (I : Inv X pins σ H s) (pl : Plain X.env) (hN : X.N.Nodup) (hi : X.N[i]? = some x) (hk : X.env.kindOf x = some .local) (r : RelV v u)
    (h : ∀ s', s'.gens = s.gens → Inv X pins (σ.set i (some v)) H s' → Q () s') : wpAny (model X.prog X.w) A (storeName X.env x u) Q E s := by
  obtain ⟨m, hn, hl⟩ := id I.loc
  have hcls : (X.env.scope.kind == .class || (X.env.scope.kind == .module && X.env.locals != X.env.globals)) = false := by rw [I.ok.kind]; rfl
  have hiσ : i < σ.length := by rw [I.len]; exact (List.getElem?_eq_some_iff.mp hi).1
  have nol : ∀ y c, X.env.cells.lookup y = some c → False := fun y c z => by
    rw [pl.cells] at z
    cases z
  refine wpAny_storeName_local hk hn (fun h' hn' hs => ?_) hcls
  have nL : ∀ b u, H b = some u → b ≠ X.env.locals := fun b u e z => by
    rw [z, I.free] at e
    cases e
  obtain ⟨oL, _, _, hoL, _⟩ := id hn
  obtain ⟨oL', _, _, hoL', _⟩ := id hn'
  have old : ∀ b o, X.s_0.heap.get? b = some o → b ≠ X.env.locals := fun b o e => Nat.ne_of_lt (Nat.lt_of_lt_of_le (Heap.lt_size e) I.ok.above)
  refine h _ rfl ⟨I.ok, I.os, I.bare, ⟨fun b o e n hb hx => ?_, fun b o e n hb hx => ?_, I.base.free, fun b o e hx => ?_, I.base.tups, I.base.frzs, I.base.tbls⟩, ⟨_, hn', fun j y v' e1 e2 e3 => ?_⟩, fun y c z => (nol y c z).elim, I.free, fun y c z => (nol y c z).elim, fun p hp => ?_, fun b u e => ?_, ?_⟩
  · exact (hs.2 b (old b o e)).trans (I.base.keep b o e n hb hx)
  · obtain ⟨sl, e1⟩ := I.base.slot b o e n hb hx
    exact ⟨sl, (hs.2 b (old b o e)).trans e1⟩
  · obtain ⟨o', e1⟩ := I.base.there b o e hx
    exact ⟨o', (hs.2 b (old b o e)).trans e1⟩
  · by_cases hj : j = i
    · subst hj
      rw [hi] at e1
      cases e1
      rw [List.getElem?_set_self hiσ] at e2
      cases e2
      exact ⟨u, r, .inl ⟨hk, by simp⟩⟩
    · rw [List.getElem?_set_ne (Ne.symm hj)] at e2
      obtain ⟨u', r', q⟩ := hl j y v' e1 e2 e3
      refine ⟨u', r', ?_⟩
      rcases q with ⟨k, e⟩ | ⟨k, c, e, _⟩
      · refine .inl ⟨k, ?_⟩
        have ne : y ≠ x := fun z => hj ((List.getElem?_inj (List.getElem?_eq_some_iff.mp e1).1 hN).mp (by rw [e1, hi, z]))
        simp only [if_neg ne]
        exact e
      · exact (nol y c e).elim
  · obtain ⟨h1, h2, h3, h4, h5⟩ := I.pin p hp
    exact ⟨(hs.2 p.1 h3).trans h1, h2, h3, h4, h5⟩
  · refine (I.hok b u e).stay (fun c v hc q => (hs.2 c ?_).trans q) (fun _ q => q) fun _ _ q => q
    rcases hc with z | z
    · rw [z]
      exact nL b u e
    · exact nL c _ z
  · rw [List.length_set]
    exact I.len
/-- (x, *y) -/
theorem pair_g {i j : Nat} {x y : Str} {n : Str} {t : Addr} {xs : List V} {p1 p2 p3 pos : Pos} {x1 : Nat} {Q : Value → Shared → Prop} (I : Inv X pins σ H s) (hi : X.N[i]? = some x) (hj : X.N[j]? = some y) (kx : X.env.kindOf x = some .local) (ky : X.env.kindOf y = some .local)
    (dx : (x == ("__debug__" : Str)) = false) (dy : (y == ("__debug__" : Str)) = false) (ex : σ[i]? = some (some (.str n))) (ey : σ[j]? = some (some (.ref t))) (ht : H t = some (.tup xs)) (hz : xs.length + 1 ≤ sizeLine)
    (h : ∀ s' p, s'.gens = s.gens → H p = none → Inv X pins σ (upd H p (.tup (.str n :: xs))) s' → Q (.ref p) s') : wpAny (model X.prog X.w) A (eval (.Tuple [.Name x p1, .Starred (.Name y p2) p3] x1 pos) X.env) Q E s := by
  obtain ⟨m, hn, hl⟩ := id I.loc
  have vis : ∀ {z : Str}, X.env.kindOf z = some .local → Vis X.env.scope z := fun k => .inl k
  obtain ⟨u1, r1, l1⟩ := hl i x (.str n) hi ex (vis kx)
  obtain ⟨u2, r2, l2⟩ := hl j y (.ref t) hj ey (vis ky)
  have m1 : m x = some u1 := by
    rcases l1 with ⟨_, z⟩ | ⟨z, _⟩
    · exact z
    · rw [kx] at z
      rcases z with z | z <;> cases z
  have m2 : m y = some u2 := by
    rcases l2 with ⟨_, z⟩ | ⟨z, _⟩
    · exact z
    · rw [ky] at z
      rcases z with z | z <;> cases z
  obtain rfl : u2 = Value.ref t := r2
  obtain ⟨hlen, its, rits, o, ho, hc, nn, hd⟩ := I.hok t _ ht
  have hl2 := rits.length
  refine wpAny_Tuple_spliced ?_
  show wpAny _ _ (spliced ((false, eval (.Name x p1) X.env) :: backTo pos (starEach [.Starred (.Name y p2) p3] X.env))) _ _ s
  refine Calls.spliced_cons (wpAny_Name (wpAny_loadName_local I.ok.kind kx hn m1 ?_) dx)
  refine PySem.W.items_star (wpAny_Name (wpAny_loadName_local I.ok.kind ky hn m2 ?_) dy)
  have hT : s.TypeIs (.ref t) "tuple" := ⟨o, ho, hc⟩
  unfold PySem.W.StarOf notIterableAtAll
  refine wpAny_bind (wpAny_specialOf hT PySem.F.slot_tuple_iter.lookup (wpAny_pure ⟨rfl, ?_⟩))
  refine wpAny_collect_seq t (.inr rfl) ho hc hd (fun h' hk => ?_) (by rw [List.size_toArray]; omega)
  have e : its.toArray.toList = its := by simp
  rw [e]
  refine Calls.spliced_nil ?_
  rw [List.append_nil]
  have I1 : Inv X pins σ H { s with heap := h' } := I.kept (t' := s.toks) hk
  have hf : H h'.objs.size = none := I1.hok.fresh (Nat.le_refl _)
  have hz2 : (V.str n :: xs).length ≤ sizeLine := by
    rw [List.length_cons]
    exact hz
  refine ⟨by rw [List.length_cons, ← hl2]; exact hz, h _ _ rfl hf ?_⟩
  refine I1.laid (t' := s.toks) (fun b u e => Heap.get?_push_of_some _ e) (Nat.le_refl _) ?_
  exact ⟨hz2, u1 :: its, .cons r1 rits, ⟨_, Heap.get?_push_size _ rfl, rfl, _, rfl⟩⟩
end
end Gn
/-! A point within a stretch of a generator's run; handing out; the end. -/
namespace Gn
open PySem PySem.Spec PyProof.Rows L2 GenW GrT Lw
/-- a point within a stretch that began at s0 with H0 and the pins pk0; own: the generator's own objects but its frame -/
structure Pnt (P : Program) (w : World) (K : PySem.W.Frag) (mg : Str → Option Value) (base : Heap) (N : List Str) (env : Env) (A : Around) (outer : List Env) (it : Addr) (go : Obj) (g : Nat) (Hc : Hp) (s0 : Shared) (H0 : Hp) (pk0 own : List (Addr × Obj)) (σ : L2.St) (H : Hp) (s : Shared) : Prop where
  I : Inv (pcx P w K mg base N env A outer s0 H0) (pk0 ++ own) σ H s
  same : Same H0 H
  ext : Same Hc H
  num : g < s.gens.size
  obj : (it, go) ∈ own
  low : ∀ q ∈ own, env.locals < q.1
  apart : ∀ q' ∈ pk0, ∀ q ∈ own, q'.1 ≠ q.1
section
variable {P : Program} {w : World} {K : PySem.W.Frag} {mg : Str → Option Value} {base : Heap} {N : List Str} {env : Env} {A : Around} {outer : List Env} {it : Addr} {go : Obj} {g : Nat} {Hc : Hp} {s0 : Shared} {H0 : Hp} {pk0 own : List (Addr × Obj)} {σ : L2.St} {H : Hp} {s : Shared}
theorem Pnt.ownAt (p : Pnt P w K mg base N env A outer it go g Hc s0 H0 pk0 own σ H s) : ∀ q ∈ own, s.heap.get? q.1 = some q.2 ∧ H q.1 = none ∧ q.1 ≠ env.locals ∧ q.1 ∉ frs outer ∧ ∀ v, q.2.data ≠ .cell v := fun q hq =>
  p.I.pin q (List.mem_append_right _ (List.mem_append_right _ hq))
/-- asleep at this point -/
theorem Pnt.sleep {ps : List (List Str)} {og : List (Nat × GenState)} {gs : GenState} (pl : Plain env) (hh : A.handled = none) (hb : base.objs.size ≤ env.locals) (ho : ∀ b ∈ frs outer, b < env.locals) (p : Pnt P w K mg base N env A outer it go g Hc s0 H0 pk0 own σ H s) (hg : gs.bare = true)
    (hog : ∀ q ∈ og, g < q.1 ∧ s.gens[q.1]? = some q.2)
    (next : ∀ s' H' pk', Pnt P w K mg base N env A outer it go g Hc s' H' pk' own σ H' s' → (∀ q ∈ og, s'.gens[q.1]? = some q.2) → Go (model P w) A (Phi P w K mg base A outer env.locals it go g Hc s' H' pk' ps) gs s') :
    ∃ ow, Own env.locals it go g H pk0 s og ow ∧ Slp P w K mg base A outer env.locals it go g Hc ps og ow gs := by
  obtain ⟨m, hns, hlk⟩ := p.I.loc
  obtain ⟨fo, es, ep, hfo, hd, r⟩ := id hns
  have nol : ∀ x c, env.cells.lookup x = some c → False := fun x c z => by
    rw [pl.cells] at z
    cases z
  have fr : FrOk N env fo σ := fun h hh => ⟨m, hns.at fun o e => by
    have e2 : s.heap.get? env.locals = some o := e
    rw [hfo] at e2
    cases e2
    exact hh, fun i x v e1 e2 e3 => by
    obtain ⟨u, rv, l⟩ := hlk i x v e1 e2 e3
    refine ⟨u, rv, ?_⟩
    rcases l with ⟨k, z⟩ | ⟨_, c, z, _⟩
    · exact .inl ⟨k, z⟩
    · exact (nol x c z).elim⟩
  have own1 := p.ownAt
  refine ⟨(env.locals, fo) :: own, ⟨List.mem_cons_of_mem _ p.obj, fun q hq => ?_, hog⟩, Slp.iff.mpr ⟨hg, fun s' H' pk' W => ?_⟩⟩
  · rcases List.mem_cons.mp hq with rfl | z
    · refine ⟨Nat.le_refl _, hfo, p.I.free, fun v z => ?_, fun q' hq' e => (p.I.pin q' (List.mem_append_right _ (List.mem_append_left _ hq'))).2.2.1 e⟩
      have hd2 : fo.data = .dict es ep := hd
      rw [hd2] at z
      cases z
    · obtain ⟨z1, z2, _, _, z5⟩ := own1 q z
      exact ⟨Nat.le_of_lt (p.low q z), z1, z2, z5, fun q' hq' => p.apart q' hq' q z⟩
  · refine next s' H' pk' ⟨inv_wake pl hh W List.mem_cons_self fr hb ho p.I.len fun q hq => ?_, Same.refl _, W.ext, W.num, p.obj, p.low, fun q' hq' q hq => ?_⟩ W.gens
    · obtain ⟨_, _, z3, z4, z5⟩ := own1 q hq
      exact ⟨List.mem_cons_of_mem _ hq, z3, z4, z5⟩
    · exact (W.pin q' hq').2.2.2.2 q (List.mem_cons_of_mem _ hq)
/-- p is handed out at this point -/
theorem Pnt.yield {t : Addr} {x : List Str} {ps : List (List Str)} {og : List (Nat × GenState)} {e : End} {cont : (End → Shared → Prop) → Shared → Prop} (pl : Plain env) (hh : A.handled = none) (hb : base.objs.size ≤ env.locals) (ho : ∀ b ∈ frs outer, b < env.locals)
    (p : Pnt P w K mg base N env A outer it go g Hc s0 H0 pk0 own σ H s) (ye : YEnd (model P w) A (.ref t) cont e) (h0 : H0 t = none) (h1 : H t = some (.tup (x.map V.str))) (hog : ∀ q ∈ og, g < q.1 ∧ s.gens[q.1]? = some q.2)
    (next : ∀ s' H' pk', Pnt P w K mg base N env A outer it go g Hc s' H' pk' own σ H' s' → (∀ q ∈ og, s'.gens[q.1]? = some q.2) → cont (Phi P w K mg base A outer env.locals it go g Hc s' H' pk' ps) s') :
    Phi P w K mg base A outer env.locals it go g Hc s0 H0 pk0 (x :: ps) e s := by
  obtain ⟨ow, h2, h3⟩ := p.sleep (ps := ps) (og := og) (gs := e.genState) pl hh hb ho (End.bare_of_quiet ye.quiet) hog fun s' H' pk' p' hg => ye.go _ _ (next s' H' pk' p' hg)
  exact ⟨t, H, og, ow, ye.res, ye.quiet, h0, h1, ctr_of p.I p.same, h2, h3⟩
/-- the end -/
theorem Pnt.fin (p : Pnt P w K mg base N env A outer it go g Hc s0 H0 pk0 own σ H s) : Phi P w K mg base A outer env.locals it go g Hc s0 H0 pk0 [] (.ret (.ok (.ret .none))) s :=
  ⟨rfl, rfl, H, ctr_of p.I p.same⟩
/-- a step that told of the invariant -/
theorem Pnt.to {own' : List (Addr × Obj)} {σ' : L2.St} {H' : Hp} {s' : Shared} (p : Pnt P w K mg base N env A outer it go g Hc s0 H0 pk0 own σ H s) (I : Inv (pcx P w K mg base N env A outer s0 H0) (pk0 ++ own') σ' H' s') (sm : Same H H') (hs : s.gens.size ≤ s'.gens.size) (ho : (it, go) ∈ own')
    (hl : ∀ q ∈ own', q ∈ own ∨ (env.locals < q.1 ∧ ∀ q' ∈ pk0, q'.1 ≠ q.1)) : Pnt P w K mg base N env A outer it go g Hc s0 H0 pk0 own' σ' H' s' :=
  ⟨I, p.same.trans sm, p.ext.trans sm, Nat.lt_of_lt_of_le p.num hs, ho, fun q hq => (hl q hq).elim (p.low q) And.left, fun q' hq' q hq => (hl q hq).elim (fun z => p.apart q' hq' q z) fun z => z.2 q' hq'⟩
theorem Pnt.keep {σ' : L2.St} {H' : Hp} {s' : Shared} (p : Pnt P w K mg base N env A outer it go g Hc s0 H0 pk0 own σ H s) (I : Inv (pcx P w K mg base N env A outer s0 H0) (pk0 ++ own) σ' H' s') (sm : Same H H') (hs : s.gens.size ≤ s'.gens.size) : Pnt P w K mg base N env A outer it go g Hc s0 H0 pk0 own σ' H' s' :=
  p.to I sm hs p.obj fun q hq => .inl hq
end
/-- a step, the table's size told -/
theorem thg {α : Type} {t : Sem α} {Q Q' : α → Shared → Prop} {M : Model} {A : Around} {s : Shared} (h : wpAny M A t Q NoE s) (hQ : ∀ a s', s.gens.size ≤ s'.gens.size → Q a s' → Q' a s') : wpAny M A t Q' NoE s :=
  wpAny_gsz (n := s.gens.size) (Nat.le_refl _) (wpAny_mono h (fun a s' q hs => hQ a s' hs q) fun _ _ z => z.elim)
end Gn
/-! The paths of a record: the body's parts. -/
namespace Gn
open PySem PySem.Spec PyProof.Rows L2 GenW GrT GrOwn Lw
abbrev sPaths : Stmt := inClass (top 11) 9
abbrev N4 : List Str := ["self", "name", "value", "rest"]
def forB : Stmt → List Stmt
  | .For _ _ b _ _ => b
  | _ => []
def ifB : Stmt → List Stmt
  | .If _ b _ _ => b
  | _ => []
def hdS (l : List Stmt) : Stmt := l.headD (.Pass ⟨0, 0, 0, 0⟩)
abbrev bd1 : List Stmt := forB (hdS (defBody sPaths))
abbrev bdI : List Stmt := ifB (hdS bd1.tail.tail)
abbrev bd2 : List Stmt := forB (hdS bdI)
abbrev penv (lo f : Addr) (cdv : Value) : Env := envOfC "Record.paths" (defScope sPaths) lo f cdv
theorem pnames : ∀ y ∈ (defScope sPaths).names, y.2 ≠ .cell ∧ y.2 ≠ .free := by decide +kernel
theorem plain_env {lo f : Addr} {cdv : Value} : Plain (penv lo f cdv) :=
  ⟨rfl, rfl, rfl, rfl, fun x => ⟨fun z => (pnames _ (PySem.mem_of_lookup z)).1 rfl, fun z => (pnames _ (PySem.mem_of_lookup z)).2 rfl⟩, rfl⟩
theorem nd4 : N4.Nodup := by decide +kernel
/-- what stands of the generator through its life -/
structure Gx (P : Program) (w : World) (K : PySem.W.Frag) (mg : Str → Option Value) (base : Heap) (C : Addr) (k : Nat) (lo f : Addr) (cdv : Value) (A : Around) (outer : List Env) (it : Addr) (go : Obj) (g : Nat) (Hc : Hp) (a : Addr) (l : List (Str × V)) (z : Int) : Prop where
  hh : A.handled = none
  hb : base.objs.size ≤ lo
  ho : ∀ b ∈ frs outer, b < lo
  room : Room k (A.deeper (penv lo f cdv))
  ra : RA (fun _ => True) C Hc a l z
section
variable {P : Program} {w : World} {K : PySem.W.Frag} {mg : Str → Option Value} {base : Heap} {C : Addr} {k : Nat} {lo f : Addr} {cdv : Value} {A : Around} {outer : List Env} {it : Addr} {go : Obj} {g : Nat} {Hc : Hp} {a : Addr} {l : List (Str × V)} {z : Int}
  {s0 : Shared} {H0 : Hp} {pk0 own : List (Addr × Obj)} {σ : L2.St} {H : Hp} {s : Shared} {px : Pos} {I0 tp : Addr} {fp : List Addr} {tn : Nat → Heap → Prop}
/-- the iterator over the names -/
structure Nit (P : Program) (w : World) (K : PySem.W.Frag) (px : Pos) (lo it tp I0 : Addr) (fp : List Addr) (tn : Nat → Heap → Prop) : Prop where
  T : Turn P w K (.Name "name" px) (Itt K tp) fp I0 tn
  hit : it ∉ fp
  low : ∀ b ∈ fp, lo < b
/-- it is pinned -/
def Fpin (fp : List Addr) (own : List (Addr × Obj)) : Prop := ∀ b ∈ fp, ∃ o, (b, o) ∈ own
theorem fpin_cons {q : Addr × Obj} {i : Nat} {h : Heap} (N : Nit P w K px lo it tp I0 fp tn) (t : tn i h) : Fpin fp (q :: pinsAt fp h) := fun b hb => by
  obtain ⟨o, e, _⟩ := N.T.obj i h t b hb
  exact ⟨o, List.mem_cons_of_mem _ (mem_pinsAt hb e)⟩
theorem tn_keep {i : Nat} {h h' : Heap} (N : Nit P w K px lo it tp I0 fp tn) (t : tn i h) (hp : Fpin fp own) (k1 : ∀ q ∈ own, h.get? q.1 = some q.2) (k2 : ∀ q ∈ own, h'.get? q.1 = some q.2) : tn i h' :=
  N.T.keep i h h' t fun b hb o e => by
    obtain ⟨o', hm⟩ := hp b hb
    have e1 := k1 _ hm
    rw [e] at e1
    cases e1
    exact k2 _ hm
theorem turn_names {i : Nat} (G : Gx P w K mg base C k lo f cdv A outer it go g Hc a l z) (N : Nit P w K px lo it tp I0 fp tn) (p : Pnt P w K mg base N4 (penv lo f cdv) A outer it go g Hc s0 H0 pk0 own σ H s) (hf : Fpin fp own) (t : tn i s.heap)
    (htp : Hc tp = some (.tup ((names l).map V.str))) :
    wpAny (model P w) (A.deeper (penv lo f cdv)) (pyNext (.ref I0)) (fun r s1 => (r = none ∧ l.length ≤ i ∧ Pnt P w K mg base N4 (penv lo f cdv) A outer it go g Hc s0 H0 pk0 [(it, go)] σ H s1) ∨
      ∃ u, r = some u ∧ wpAny (model P w) (A.deeper (penv lo f cdv)) (letOwnedTupleGo (.Name "name" px) (.ref I0) u) (fun _ s2 => ∃ x v, RelV (.str x) u ∧ l[i]? = some (x, v) ∧ tn (i + 1) s2.heap ∧
        Pnt P w K mg base N4 (penv lo f cdv) A outer it go g Hc s0 H0 pk0 ((it, go) :: pinsAt fp s2.heap) σ H s2) NoE s1) NoE s := by
  have ow := p.ownAt
  have I1 : Inv (pcx P w K mg base N4 (penv lo f cdv) A outer s0 H0) (pk0 ++ [(it, go)]) σ H s := p.I.pins_of fun q hq => by
    rcases List.mem_append.mp hq with h | h
    · exact p.I.pin q (List.mem_append_right _ (List.mem_append_left _ h))
    · rw [List.mem_singleton.mp h]
      exact ow _ p.obj
  have fok : ∀ {σ' H'} {s' : Shared}, Inv (pcx P w K mg base N4 (penv lo f cdv) A outer s0 H0) (pk0 ++ [(it, go)]) σ' H' s' → (∀ b ∈ fp, H' b = none) → ∀ b ∈ fp, FpOk (pcx P w K mg base N4 (penv lo f cdv) A outer s0 H0) (pk0 ++ [(it, go)]) H' b := fun {σ' H' s'} I' hn b hb => by
    obtain ⟨o, hm⟩ := hf b hb
    obtain ⟨_, _, z3, z4, _⟩ := ow _ hm
    refine ⟨hn b hb, z3, z4, .inr (Nat.le_trans cutAt_size (Nat.le_of_lt (N.low b hb))), fun x c e => (by cases e), fun q hq e => ?_⟩
    rcases List.mem_append.mp (show q ∈ pk0 ++ [(it, go)] from hq) with h | h
    · exact p.apart q h _ hm e
    · rw [List.mem_singleton.mp h] at e
      exact N.hit (by rw [show it = b from e]; exact hb)
  have hn0 : ∀ b ∈ fp, H b = none := fun b hb => by
    obtain ⟨o, hm⟩ := hf b hb
    exact (ow _ hm).2.1
  have hq : SqT K H tp ((names l).map V.str) := SqT.of (p.ext _ _ htp)
  by_cases hi : i < l.length
  · obtain ⟨x, v, hx⟩ : ∃ x v, l[i]? = some (x, v) := ⟨_, _, List.getElem?_eq_getElem hi⟩
    have hx2 : ((names l).map V.str)[i]? = some (.str x) := by
      rw [List.getElem?_map, List.getElem?_map, hx]
      rfl
    refine thg (N.T.item (pcx P w K mg base N4 (penv lo f cdv) A outer s0 H0) rfl rfl rfl rfl i _ s σ H NoE I1 (fok I1 hn0) t ⟨_, _, hq, hx2⟩) fun r s1 hs1 h1 => ?_
    obtain ⟨u, rfl, h1⟩ := h1
    refine .inr ⟨u, rfl, thg h1 fun _ s2 hs2 h2 => ?_⟩
    obtain ⟨y, H', I2, ry, ⟨rfl, hy⟩, t2, n2⟩ := h2
    have ey := hy _ hq
    rw [hx2] at ey
    cases ey
    refine ⟨x, v, ry, hx, t2, p.to ?_ (Same.refl _) (Nat.le_trans hs1 hs2) List.mem_cons_self fun q hq => ?_⟩
    · have I3 := I2.pinned (fok I2 n2) (N.T.obj _ _ t2)
      rw [List.append_assoc] at I3
      exact I3
    · rcases List.mem_cons.mp hq with rfl | h
      · exact .inl p.obj
      · obtain ⟨hb, _⟩ := of_pinsAt h
        obtain ⟨o, hm⟩ := hf _ hb
        exact .inr ⟨N.low _ hb, fun q' hq' => by
          have z := p.apart q' hq' (q.1, o) hm
          exact z⟩
  · refine thg (N.T.done (pcx P w K mg base N4 (penv lo f cdv) A outer s0 H0) rfl rfl rfl rfl i _ s σ H NoE I1 (fok I1 hn0) t ⟨_, hq, by rw [List.length_map, List.length_map]; omega⟩) fun r s1 hs1 h1 => ?_
    obtain ⟨rfl, I2⟩ := h1
    exact .inl ⟨rfl, by omega, p.to I2 (Same.refl _) hs1 List.mem_cons_self fun q hq => by
      rw [List.mem_singleton.mp hq]
      exact .inl p.obj⟩
end
end Gn
/-! The inner loop: over the generator of a field's record. -/
namespace Gn
open PySem PySem.Spec PyProof.Rows L2 GenW GrT GrOwn Lw
/-- a generator that a call gave, asleep at its begin -/
def Born (P : Program) (w : World) (K : PySem.W.Frag) (mg : Str → Option Value) (base : Heap) (k : Nat) (outer : List Env) (s : Shared) (H Hc : Hp) (ps : List (List Str)) (u : Value) (s1 : Shared) : Prop :=
  ∃ (it : Addr) (go : Obj) (g : Nat) (gs : GenState) (ow : List (Addr × Obj)), u = .ref it ∧ s.heap.objs.size < it ∧ (∀ h : Heap, h.get? it = some go → h.IsGen it g) ∧ s.gens.size ≤ g ∧ s1.gens[g]? = some gs ∧ s1.os = s.os ∧ AllBare s1.gens ∧
    (∀ b o, s.heap.get? b = some o → s1.heap.get? b = some o) ∧ Own s.heap.objs.size it go g H [] s1 [] ow ∧ ∀ A', Room k A' → A'.frames = some outer → Slp P w K mg base A' outer s.heap.objs.size it go g Hc ps [] ow gs
/-- what a call of paths promises, the record at most n deep -/
def CallOk (P : Program) (w : World) (K : PySem.W.Frag) (mg : Str → Option Value) (base : Heap) (C f : Addr) (n k : Nat) : Prop :=
  ∀ (A : Around) (outer : List Env) (s : Shared) (H Hc : Hp) (a : Addr) (ps : List (List Str)) (Q : Value → Shared → Prop) (E : Value → Shared → Prop), Room k A → Env0 P w K mg base A outer s H → Same Hc H → Pt C Hc n (.ref a) ps →
    (∀ u s1, Born P w K mg base k outer s H Hc ps u s1 → Q u s1) → wpAny (model P w) A (call (.ref f) [.ref a]) Q E s
/-- the inner generator, asleep -/
structure Inr (P : Program) (w : World) (K : PySem.W.Frag) (mg : Str → Option Value) (base : Heap) (lo : Addr) (B : Around) (st : List Env) (g : Nat) (Hc : Hp) (o1 : List (Addr × Obj)) (lo2 it2 : Addr) (go2 : Obj) (g2 : Nat) (sub : List (List Str)) (og2 : List (Nat × GenState)) (ow2 : List (Addr × Obj)) (gs2 : GenState) (s : Shared) : Prop where
  gen : s.gens[g2]? = some gs2
  num : g < g2
  og : ∀ q ∈ og2, g2 < q.1 ∧ s.gens[q.1]? = some q.2
  obj : (it2, go2) ∈ ow2
  lo : lo < lo2
  low : ∀ q ∈ ow2, lo2 ≤ q.1
  slp : Slp P w K mg base B.in1 st lo2 it2 go2 g2 Hc sub og2 ow2 gs2
  apart : ∀ q ∈ o1, ∀ q' ∈ ow2, q.1 ≠ q'.1
theorem setGen_ne {s : Shared} {g j : Nat} {x : GenState} (h : j ≠ g) : (s.setGen g x).gens[j]? = s.gens[j]? := by
  show (s.gens.setIfInBounds g x)[j]? = _
  rw [Array.getElem?_setIfInBounds_ne (Ne.symm h)]
section
variable {P : Program} {w : World} {K : PySem.W.Frag} {mg : Str → Option Value} {base : Heap} {C : Addr} {k : Nat} {lo f : Addr} {cdv : Value} {A : Around} {outer : List Env} {it : Addr} {go : Obj} {g : Nat} {Hc : Hp} {a : Addr} {l : List (Str × V)} {z : Int}
  {px : Pos} {I0 tp : Addr} {fp : List Addr} {tn : Nat → Heap → Prop}
/-- a consumer's step: the table's entry is set, objects may have come -/
theorem inv_set {X : Cx} {pins : List (Addr × Obj)} {σ : L2.St} {H : Hp} {s s' : Shared} (I : Inv X pins σ H s) (ho : s'.os = s.os) (hk : ∀ b o, s.heap.get? b = some o → s'.heap.get? b = some o) (hg : AllBare s'.gens) : Inv X pins σ H s' :=
  I.call' (ch := []) ho (Un.kept hk) (I.hok.kept hk) hg (fun b hb => nomatch hb)
/-- the next of the inner generator -/
theorem inner_next {lo2 it2 : Addr} {go2 : Obj} {g2 : Nat} {o1 : List (Addr × Obj)} {sub : List (List Str)} {og2 : List (Nat × GenState)} {ow2 : List (Addr × Obj)} {gs2 : GenState} {s0 : Shared} {H0 : Hp} {pk0 : List (Addr × Obj)} {σ : L2.St} {H : Hp} {s : Shared}
    (G : Gx P w K mg base C k lo f cdv A outer it go g Hc a l z) (ho1 : (it, go) ∈ o1) (hz2 : ∀ h : Heap, h.get? it2 = some go2 → h.IsGen it2 g2)
    (p : Pnt P w K mg base N4 (penv lo f cdv) A outer it go g Hc s0 H0 pk0 (o1 ++ ow2) σ H s) (r : Inr P w K mg base lo (A.deeper (penv lo f cdv)) (penv lo f cdv :: outer) g Hc o1 lo2 it2 go2 g2 sub og2 ow2 gs2 s) :
    wpAny (model P w) (A.deeper (penv lo f cdv)) (pyNext (.ref it2)) (fun u s1 => match sub with
      | [] => u = none ∧ ∃ H1, Pnt P w K mg base N4 (penv lo f cdv) A outer it go g Hc s0 H0 pk0 o1 σ H1 s1
      | q :: sub' => ∃ t H1 og' ow' gs', u = some (.ref t) ∧ H t = none ∧ H1 t = some (.tup (q.map V.str)) ∧ Pnt P w K mg base N4 (penv lo f cdv) A outer it go g Hc s0 H0 pk0 (o1 ++ ow') σ H1 s1 ∧
          Inr P w K mg base lo (A.deeper (penv lo f cdv)) (penv lo f cdv :: outer) g Hc o1 lo2 it2 go2 g2 sub' og' ow' gs' s1) NoE s := by
  have own := p.ownAt
  have I1 : Inv (pcx P w K mg base N4 (penv lo f cdv) A outer s0 H0) (pk0 ++ o1) σ H s := p.I.pins_of fun q hq => by
    rcases List.mem_append.mp hq with h | h
    · exact p.I.pin q (List.mem_append_right _ (List.mem_append_left _ h))
    · exact own q (List.mem_append_left _ h)
  have hg2 : g2 < s.gens.size := (Array.getElem?_eq_some_iff.mp r.gen).1
  have e0 := p.I.env0
  have frl : ∀ b, b ∈ frs (penv lo f cdv :: outer) → b = lo ∨ b ∈ frs outer := fun b hb => List.mem_cons.mp hb
  have W : Wake P w K mg base (A.deeper (penv lo f cdv)).in1 (penv lo f cdv :: outer) Hc g2 og2 ow2 (pk0 ++ o1) (s.setGen g2 .running) H := by
    refine ⟨by rw [setGen_size]; exact hg2, fun q hq => ?_, ⟨e0.frames, e0.mod, e0.bs, e0.bsz, e0.funs, e0.frf, e0.hok, allBare_setGen e0.bare rfl⟩, p.ext, fun q hq => ?_, fun q hq => ?_⟩
    · obtain ⟨z1, z2⟩ := r.og q hq
      rw [setGen_ne (Nat.ne_of_gt z1)]
      exact z2
    · obtain ⟨z1, z2, _⟩ := own q (List.mem_append_right _ hq)
      exact ⟨z1, z2⟩
    · obtain ⟨z1, z2, z3, z4, z5⟩ := I1.pin q (List.mem_append_right _ hq)
      refine ⟨z1, z2, fun hb => (frl _ hb).elim z3 z4, z5, fun q' hq' => ?_⟩
      rcases List.mem_append.mp hq with h | h
      · exact p.apart q h q' (List.mem_append_right _ hq')
      · exact r.apart q h q' hq'
  -- behind the stretch
  have after : ∀ {H1 : Hp} {s1 s' : Shared}, Ctr P w (penv lo f cdv :: outer) lo2 (s.setGen g2 .running) H H1 (pk0 ++ o1) s1 → s'.os = s1.os → (∀ b o, s1.heap.get? b = some o → s'.heap.get? b = some o) → AllBare s'.gens →
      Inv (pcx P w K mg base N4 (penv lo f cdv) A outer s0 H0) (pk0 ++ o1) σ H1 s' := fun {H1 s1 s'} ct ho hk hb => by
    have ct2 : Ctr P w (penv lo f cdv :: outer) lo2 s H H1 (pk0 ++ o1) s1 := ⟨ct.os, ct.bare, ct.old, ct.slot, ct.free, ct.pin, ct.hok, ct.same⟩
    exact inv_set (inv_ctr I1 (Nat.le_trans cutAt_size (Nat.le_of_lt r.lo)) r.lo (fun y c e => by cases e) (fun b hb => by cases hb) ct2 fun q hq => .inl hq) ho hk hb
  refine wpAny_gsz (n := s.gens.size) (Nat.le_refl _) (next_go G.hh p.I.nolimit ?_ (hz2 _ (own _ (List.mem_append_right _ r.obj)).1) r.gen ((Slp.iff.mp r.slp).2 _ H (pk0 ++ o1) W) fun e s1 he => ?_)
  · have := G.room.dp
    show (A.deeper (penv lo f cdv)).depth < _
    omega
  · cases sub with
    | nil =>
      obtain ⟨hr, hqt, H1, ct⟩ := he
      refine .inr ⟨hr, hqt, fun h' hk hsz => ⟨rfl, H1, p.to ?_ ct.same hsz ho1 fun q hq => .inl (List.mem_append_left _ hq)⟩⟩
      exact after ct rfl hk (allBare_setGen ct.bare (End.bare_of_quiet hqt))
    | cons q sub =>
      obtain ⟨t, H1, og', ow', hr, hqt, ht0, ht1, ct, ow, slp⟩ := he
      have hb2 := End.bare_of_quiet hqt
      refine .inl ⟨.ref t, hr, hqt, fun hsz => ?_⟩
      have I2 := after (s' := s1.setGen g2 e.genState) ct rfl (fun b o z => z) (allBare_setGen ct.bare hb2)
      have hg1 : g2 < s1.gens.size := by
        have h3 : s.gens.size ≤ (s1.setGen g2 e.genState).gens.size := hsz
        rw [setGen_size] at h3
        omega
      have lo2lt : ∀ q ∈ ow', lo < q.1 := fun q hq => Nat.lt_of_lt_of_le r.lo (ow.ow q hq).1
      refine ⟨t, H1, og', ow', e.genState, rfl, ht0, ht1, p.to (I2.pins_of fun q hq => ?_) ct.same hsz (List.mem_append_left _ ho1) fun q hq => ?_, ⟨setGen_at hg1, r.num, fun q hq => ?_, ow.obj, r.lo, fun q hq => (ow.ow q hq).1, slp, fun q hq q' hq' => (ow.ow q' hq').2.2.2.2 q (List.mem_append_right _ hq)⟩⟩
      · rcases List.mem_append.mp hq with h | h
        · exact I2.pin q (List.mem_append_right _ (List.mem_append_left _ h))
        · rcases List.mem_append.mp h with h | h
          · exact I2.pin q (List.mem_append_right _ (List.mem_append_right _ h))
          · obtain ⟨z1, z2, z3, z4, z5⟩ := ow.ow q h
            refine ⟨z2, z3, fun ee => absurd (lo2lt q h) (by rw [show q.1 = lo from ee]; exact Nat.lt_irrefl _), fun hm => absurd (G.ho _ hm) (Nat.not_lt_of_lt (lo2lt q h)), z4⟩
      · rcases List.mem_append.mp hq with h | h
        · exact .inl (List.mem_append_left _ h)
        · exact .inr ⟨lo2lt q h, fun q' hq' => (ow.ow q h).2.2.2.2 q' (List.mem_append_left _ hq')⟩
      · obtain ⟨z1, z2⟩ := ow.og q hq
        exact ⟨z1, by rw [setGen_ne (Nat.ne_of_gt z1)]; exact z2⟩
theorem inner_loop {lo2 it2 : Addr} {go2 : Obj} {g2 : Nat} {px2 : Pos} {c1 : Code} {fs1 : List Frame} {kk2 : Result → Sem PySem.Fin} {g0 : Bool} {l0 kp : List Value} {p2 : Pos} {o1 : List (Addr × Obj)} {x : Str} {ps' : List (List Str)} {i : Nat}
    (G : Gx P w K mg base C k lo f cdv A outer it go g Hc a l z) (N : Nit P w K px lo it tp I0 fp tn) (hf : Fpin fp o1) (ho1 : (it, go) ∈ o1) (hz2 : ∀ h : Heap, h.get? it2 = some go2 → h.IsGen it2 g2)
    (gc : Gc (A.deeper (penv lo f cdv)) A (.forLoop (.Name "rest" px2) (.ref it2) bd2 [] (penv lo f cdv)) (.ret kk2 none g0 l0 c1 p2 kp :: fs1) id)
    (hend : ∀ s0 H0 pk0 σ H s, Pnt P w K mg base N4 (penv lo f cdv) A outer it go g Hc s0 H0 pk0 o1 σ H s → tn i s.heap → σ[0]? = some (some (.ref a)) → Sg (model P w) A (Phi P w K mg base A outer lo it go g Hc s0 H0 pk0 ps') c1 (kk2 (.ok .next)) fs1 s) :
    ∀ (sub : List (List Str)) (og2 : List (Nat × GenState)) (ow2 : List (Addr × Obj)) (gs2 : GenState) (s0 : Shared) (H0 : Hp) (pk0 : List (Addr × Obj)) (σ : L2.St) (H : Hp) (s : Shared),
      Pnt P w K mg base N4 (penv lo f cdv) A outer it go g Hc s0 H0 pk0 (o1 ++ ow2) σ H s → Inr P w K mg base lo (A.deeper (penv lo f cdv)) (penv lo f cdv :: outer) g Hc o1 lo2 it2 go2 g2 sub og2 ow2 gs2 s → tn i s.heap → (∀ q ∈ sub, q.length ≤ 100) →
      σ[0]? = some (some (.ref a)) → σ[1]? = some (some (.str x)) →
      Sg (model P w) A (Phi P w K mg base A outer lo it go g Hc s0 H0 pk0 (sub.map (x :: ·) ++ ps')) (.forLoop (.Name "rest" px2) (.ref it2) bd2 [] (penv lo f cdv)) ((model P w).den (.forLoop (.Name "rest" px2) (.ref it2) bd2 [] (penv lo f cdv))) (.ret kk2 none g0 l0 c1 p2 kp :: fs1) s := by
  intro sub
  induction sub with
  | nil =>
    intro og2 ow2 gs2 s0 H0 pk0 σ H s p r ht _ h0 h1
    refine sg_turn gc (wpAny_mono (inner_next G ho1 hz2 p r) (fun u s1 h => ?_) fun _ _ z => z)
    obtain ⟨rfl, H1, p1⟩ := h
    exact hend s0 H0 pk0 σ H1 s1 p1 (tn_keep N ht hf (fun q hq => (p.ownAt q (List.mem_append_left _ hq)).1) fun q hq => (p1.ownAt q hq).1) h0
  | cons q sub ih =>
    intro og2 ow2 gs2 s0 H0 pk0 σ H s p r ht hq h0 h1
    refine sg_turn gc (wpAny_mono (inner_next G ho1 hz2 p r) (fun u s1 h => ?_) fun _ _ z => z)
    obtain ⟨t, H1, og', ow', gs', rfl, ht0, ht1, p1, r1⟩ := h
    refine wpAny_pure ?_
    have hlen : σ.length = 4 := p1.I.len
    refine store_g (i := 3) (x := "rest") (v := .ref t) (u := .ref t) p1.I plain_env nd4 rfl rfl rfl fun s3 hs3 I3 => fun Kb Jb hKb => ?_
    refine sg_execs_cons (sg_Yield gc rfl rfl ?_)
    have g0' : (σ.set 3 (some (V.ref t)))[0]? = some (some (.ref a)) := by
      rw [List.getElem?_set_ne (by decide)]
      exact h0
    have g1' : (σ.set 3 (some (V.ref t)))[1]? = some (some (.str x)) := by
      rw [List.getElem?_set_ne (by decide)]
      exact h1
    have ql : q.length ≤ 100 := hq q List.mem_cons_self
    refine pair_g (i := 1) (j := 3) (n := x) (t := t) (xs := q.map V.str) I3 rfl rfl rfl rfl rfl rfl g1' (List.getElem?_set_self (by omega)) ht1 (line_big (by rw [List.length_map]; omega)) fun s4 p' hs4 hp' I4 => fun e' ye => ?_
    have hgs : s4.gens = s1.gens := hs4.trans hs3
    have sm : Same H1 (upd H1 p' (.tup ((x :: q).map V.str))) := fun b o e => by
      rw [upd_ne (ne_of_none e hp')]
      exact e
    have p4 := p1.keep (σ' := σ.set 3 (some (V.ref t))) (H' := upd H1 p' (.tup ((x :: q).map V.str))) (s' := s4) I4 sm (by rw [hgs]; exact Nat.le_refl _)
    have hH0 : H0 p' = none := by
      cases e : H0 p' with
      | none => rfl
      | some o =>
        rw [p1.same _ _ e] at hp'
        cases hp'
    refine Pnt.yield (x := x :: q) (ps := sub.map (x :: ·) ++ ps') (og := (g2, gs') :: og') plain_env G.hh G.hb G.ho p4 ye hH0 upd_same (fun y hy => ?_) fun s' H' pk' p5 hg5 => ?_
    · rcases List.mem_cons.mp hy with rfl | hy
      · exact ⟨r1.num, by rw [hgs]; exact r1.gen⟩
      · obtain ⟨z1, z2⟩ := r1.og y hy
        exact ⟨Nat.lt_trans r1.num z1, by rw [hgs]; exact z2⟩
    · refine hKb _ _ (ih og' ow' gs' s' H' pk' _ H' s' p5 ⟨hg5 _ List.mem_cons_self, r1.num, fun y hy => ⟨(r1.og y hy).1, hg5 y (List.mem_cons_of_mem _ hy)⟩, r1.obj, r1.lo, r1.low, r1.slp, r1.apart⟩ ?_ (fun y hy => hq y (List.mem_cons_of_mem _ hy)) g0' g1')
      exact tn_keep N ht hf (fun y hy => (p.ownAt y (List.mem_append_left _ hy)).1) fun y hy => (p5.ownAt y (List.mem_append_left _ hy)).1
end
end Gn
/-! The outer loop, the body, the call. -/
namespace Gn
open PySem PySem.Spec PyProof.Rows L2 GenW GrT GrOwn Lw
theorem rows_len {R : V → List (List Str) → Prop} {m : Nat} (hR : ∀ v ps, R v ps → ∀ q ∈ ps, q.length ≤ m) : ∀ {l : List (Str × V)} {ps : List (List Str)}, RowsR R l ps → ∀ q ∈ ps, q.length ≤ m + 1
  | _, _, .nil, q, hq => by cases hq
  | _, _, .int r, q, hq => by
    rcases List.mem_cons.mp hq with rfl | h
    · simp
    · exact rows_len hR r q h
  | _, _, .sub h r, q, hq => by
    rcases List.mem_cons.mp hq with rfl | hq
    · simp
    · rcases List.mem_append.mp hq with hq | hq
      · obtain ⟨y, hy, rfl⟩ := List.mem_map.mp hq
        have := hR _ _ h y hy
        rw [List.length_cons]
        omega
      · exact rows_len hR r q hq
theorem Pt.len {C : Addr} {H : Hp} : ∀ {n : Nat} {v : V} {ps : List (List Str)}, Pt C H n v ps → ∀ q ∈ ps, q.length ≤ n
  | 0, _, _, h, _, _ => h.elim
  | n + 1, _, _, ⟨_, _, _, _, _, _, rows⟩, q, hq => rows_len (fun _ _ h => h.len) rows q hq
theorem look_at {x : Str} {v : V} : ∀ {l : List (Str × V)} {i : Nat}, (names l).Nodup → l[i]? = some (x, v) → look x l = some v
  | (z, w) :: r, 0, _, h => by
    cases h
    unfold look
    rw [if_pos rfl]
  | (z, w) :: r, i + 1, nd, h => by
    have nd' := List.nodup_cons.mp nd
    have h' : r[i]? = some (x, v) := h
    have ne : z ≠ x := fun e => nd'.1 (by
      show z ∈ r.map (·.1)
      rw [e]
      exact List.mem_map.mpr ⟨_, List.mem_of_getElem? h', rfl⟩)
    unfold look
    rw [if_neg ne]
    exact look_at nd'.2 h'
theorem nPN : ¬ (("paths" : Str) = "names") := by decide +kernel
theorem nPF : ¬ (("paths" : Str) = "_fields") := by decide +kernel
theorem nPS : ¬ (("paths" : Str) = "_size") := by decide +kernel
theorem rf_paths (t d : Addr) (z : Int) : (rf t d z).lookup ("paths" : Str) = none := by
  unfold rf
  rw [lookup_putF, if_neg nPS, lookup_putF, if_neg nPF, lookup_putF, if_neg nPN]
  rfl
section
variable {P : Program} {w : World} {K : PySem.W.Frag} {mg : Str → Option Value} {base : Heap} {C : Addr} {k n : Nat} {lo f : Addr} {cdv : Value} {A : Around} {outer : List Env} {it : Addr} {go : Obj} {g : Nat} {Hc : Hp} {a : Addr} {l : List (Str × V)} {z : Int}
  {px : Pos} {I0 tp : Addr} {fp : List Addr} {tn : Nat → Heap → Prop}
theorem outer_loop {c1 : Code} {fs1 : List Frame} {kk1 : Result → Sem PySem.Fin} {g0 : Bool} {l0 kp : List Value} {p1 : Pos} {d1 dx : Addr} (T : Bu mg) (R : RecK K mg C) (hm : Meth K C "paths" f) (hc : CallOk P w K mg base C f n k) (hn : n ≤ 100)
    (G : Gx P w K mg base C (k + 1) lo f cdv A outer it go g Hc a l z) (N : Nit P w K px lo it tp I0 fp tn) (ea : Hc a = some (.ins C dx (rf tp d1 z))) (et : Hc tp = some (.tup ((names l).map V.str))) (ed : Hc d1 = some (.dK (dk l))) (nd : (names l).Nodup)
    (gc : Gc (A.deeper (penv lo f cdv)) A (.forLoop (.Name "name" px) (.ref I0) bd1 [] (penv lo f cdv)) (.ret kk1 none g0 l0 c1 p1 kp :: fs1) id)
    (hend : ∀ s0 H0 pk0 own σ H s, Pnt P w K mg base N4 (penv lo f cdv) A outer it go g Hc s0 H0 pk0 own σ H s → Sg (model P w) A (Phi P w K mg base A outer lo it go g Hc s0 H0 pk0 []) c1 (kk1 (.ok .next)) fs1 s) :
    ∀ (rem : List (Str × V)) (i : Nat) (ps : List (List Str)), l.drop i = rem → RowsR (Pt C Hc n) rem ps → ∀ (s0 : Shared) (H0 : Hp) (pk0 own : List (Addr × Obj)) (σ : L2.St) (H : Hp) (s : Shared),
      Pnt P w K mg base N4 (penv lo f cdv) A outer it go g Hc s0 H0 pk0 own σ H s → Fpin fp own → tn i s.heap → σ[0]? = some (some (.ref a)) →
      Sg (model P w) A (Phi P w K mg base A outer lo it go g Hc s0 H0 pk0 ps) (.forLoop (.Name "name" px) (.ref I0) bd1 [] (penv lo f cdv)) ((model P w).den (.forLoop (.Name "name" px) (.ref I0) bd1 [] (penv lo f cdv))) (.ret kk1 none g0 l0 c1 p1 kp :: fs1) s := by
  intro rem
  induction rem with
  | nil =>
    intro i ps hd rows s0 H0 pk0 own σ H s p hf ht h0
    have hlen : l.length ≤ i := List.drop_eq_nil_iff.mp hd
    cases rows
    refine sg_turn gc (wpAny_mono (turn_names G N p hf ht et) (fun r s1 h => ?_) fun _ _ z => z)
    rcases h with ⟨rfl, _, p1⟩ | ⟨u, rfl, h⟩
    · exact hend s0 H0 pk0 _ σ H s1 p1
    · refine wpAny_mono h (fun _ s2 h2 => ?_) fun _ _ z => z
      obtain ⟨x, v, _, hx, _⟩ := h2
      have := (List.getElem?_eq_some_iff.mp hx).1
      omega
  | cons q rem ih =>
    intro i ps hd rows s0 H0 pk0 own σ H s p hf ht h0
    obtain ⟨x, v⟩ := q
    have hi : l[i]? = some (x, v) := by
      have e := congrArg (fun m => m[0]?) hd
      rw [List.getElem?_drop] at e
      simpa using e
    have hd' : l.drop (i + 1) = rem := by
      rw [← List.drop_drop, hd]
      rfl
    refine sg_turn gc (wpAny_mono (turn_names G N p hf ht et) (fun r s1 h => ?_) fun _ _ z => z)
    rcases h with ⟨rfl, hlen, _⟩ | ⟨u, rfl, h⟩
    · have := (List.getElem?_eq_some_iff.mp hi).1
      omega
    · refine wpAny_mono h (fun _ s2 h2 => ?_) fun _ _ z => z
      obtain ⟨x', v', ru, hx, t2, p2⟩ := h2
      rw [hi] at hx
      cases hx
      have hl4 : σ.length = 4 := p2.I.len
      refine store_g (i := 1) (x := "name") (v := .str x) p2.I plain_env nd4 rfl rfl ru fun s3 hs3 I3 => fun Kb Jb hKb => ?_
      have p3 := p2.keep I3 (Same.refl _) (by rw [hs3]; exact Nat.le_refl _)
      have g0' : (σ.set 1 (some (V.str x)))[0]? = some (some (.ref a)) := by
        rw [List.getElem?_set_ne (by decide)]
        exact h0
      have g1' : (σ.set 1 (some (V.str x)))[1]? = some (some (.str x)) := List.getElem?_set_self (by omega)
      refine sg_execs_cons (sg_Yield gc rfl rfl ?_)
      refine thg ((pe_tup (pa_cons (pv 1) pa_nil)).run _ s3 (σ.set 1 (some (V.str x))) H (fun y H' => ∃ t, y = .ref t ∧ H t = none ∧ H' = upd H t (.tup [.str x])) I3 ⟨_, g1', line_big (by show 1 ≤ 100000; decide), fun t ht => ⟨t, rfl, ht, rfl⟩⟩) fun y s4 hs4 hy => ?_
      obtain ⟨y', H', I4, ry, t, rfl, htn, rfl⟩ := hy
      obtain rfl : y = Value.ref t := ry
      intro e' ye
      have p4 := p3.keep I4 (fun b o e => by rw [upd_ne (ne_of_none e htn)]; exact e) hs4
      have hH0 : H0 t = none := by
        cases e : H0 t with
        | none => rfl
        | some o =>
          rw [p3.same _ _ e] at htn
          cases htn
      have hfp2 : Fpin fp ((it, go) :: pinsAt fp s2.heap) := fpin_cons N t2
      have tnk : ∀ {s0' : Shared} {H0' : Hp} {pk' : List (Addr × Obj)} {σ' : L2.St} {H' : Hp} {s' : Shared}, Pnt P w K mg base N4 (penv lo f cdv) A outer it go g Hc s0' H0' pk' ((it, go) :: pinsAt fp s2.heap) σ' H' s' → tn (i + 1) s'.heap := fun p' =>
        tn_keep N t2 hfp2 (fun y hy => (p2.ownAt y hy).1) fun y hy => (p'.ownAt y hy).1
      -- what follows the first item of this name
      obtain ⟨ps1, rfl, hmid⟩ : ∃ ps1, ps = [x] :: ps1 ∧ ((∃ j, v = .int j ∧ RowsR (Pt C Hc n) rem ps1) ∨ ∃ sub ps2, Pt C Hc n v sub ∧ RowsR (Pt C Hc n) rem ps2 ∧ ps1 = sub.map (x :: ·) ++ ps2) := by
        cases rows with
        | int r => exact ⟨_, rfl, .inl ⟨_, rfl, r⟩⟩
        | sub h r => exact ⟨_, rfl, .inr ⟨_, _, h, r, rfl⟩⟩
      refine Pnt.yield (x := [x]) (ps := ps1) (og := []) plain_env G.hh G.hb G.ho p4 ye hH0 upd_same (fun y hy => by cases hy) fun s' H' pk' p5 _ => ?_
      show Sg _ _ _ _ ((execs bd1.tail (penv lo f cdv)).wrap Kb Jb id id) _ s'
      have hu : (A.deeper (penv lo f cdv)).units + 1 < cLine := by
        have := G.room.un
        omega
      have hv : valV (dk l) (Sum.inr x : Key) = some v := by
        rw [dk_val]
        exact look_at nd hi
      have hdg := DGet.k (k := Sum.inr x) (p5.ext _ _ ed)
      rw [hv] at hdg
      refine sg_execs_cons (sg_wrapN gc (thg ((ps_set (i := 2) nd4 rfl (Or.inl rfl) (pe_dget hu (pe_fld (pv 0) rfl) (pv 1) (fun _ _ => rfl))).run _ s' (σ.set 1 (some (V.str x))) H' { nx := fun σ1 H1 => σ1 = (σ.set 1 (some (V.str x))).set 2 (some v) ∧ H1 = H', rt := fun _ _ => False } p5.I
        ⟨_, g0', a, C, dx, _, _, rfl, p5.ext _ _ ea, R.cl, R.nF, rf_fields _ _ _, _, g1', d1, v, rfl, hdg, rfl, rfl⟩) fun fl s6 hs6 hsp => ?_))
      cases fl with
      | brk => obtain ⟨_, _, _, q⟩ := hsp; exact q.elim
      | cont => obtain ⟨_, _, _, q⟩ := hsp; exact q.elim
      | ret u => obtain ⟨_, _, _, _, _, q⟩ := hsp; exact q.elim
      | next =>
        obtain ⟨σ6, H6, I6, rfl, rfl⟩ := hsp
        have p6 := p5.keep I6 (Same.refl _) hs6
        have q0 : ((σ.set 1 (some (V.str x))).set 2 (some v))[0]? = some (some (.ref a)) := by
          rw [List.getElem?_set_ne (by decide)]
          exact g0'
        have q1 : ((σ.set 1 (some (V.str x))).set 2 (some v))[1]? = some (some (.str x)) := by
          rw [List.getElem?_set_ne (by decide)]
          exact g1'
        have q2 : ((σ.set 1 (some (V.str x))).set 2 (some v))[2]? = some (some v) := List.getElem?_set_self (by rw [List.length_set]; omega)
        refine sg_execs_cons (sg_If gc ?_)
        rcases hmid with ⟨j, rfl, rows'⟩ | ⟨sub, ps2, hsub, rows', rfl⟩
        · refine thg ((pt_val (pe_callB call_isi (by rfl) T.b_isinstance bo_isinstance (pa_cons (pv 2) (pa_cons (pe_glob (by rfl) R.mgC (v := .ref C) rfl) pa_nil)))).run _ s6 _ H6 (fun b H1 => b = false ∧ H1 = H6) I6
            ⟨_, q2, _, _, _, _, _, rfl, .own C, .base (.int j), R.kI, _, rfl, rfl, rfl⟩) fun b s7 hs7 hb => ?_
          obtain ⟨H7, I7, rfl, rfl⟩ := hb
          rw [if_neg Bool.false_ne_true]
          have p7 := p6.keep I7 (Same.refl _) hs7
          exact hKb _ _ (ih (i + 1) ps1 hd' rows' _ _ _ _ _ _ s7 p7 hfp2 (tnk p7) q0)
        · obtain ⟨b, lb, zb, rfl, rb, _, _⟩ : ∃ b lb zb, v = .ref b ∧ RA (fun _ => True) C Hc b lb zb ∧ lb.length ≤ 40 ∧ True := by
            cases n with
            | zero => exact hsub.elim
            | succ n =>
              obtain ⟨b, lb, zb, e1, e2, e3, _⟩ := hsub
              exact ⟨b, lb, zb, e1, e2, e3, trivial⟩
          obtain ⟨⟨dxb, tpb, db, _, eb, _, _⟩, _, _⟩ := rb
          refine thg ((pt_val (pe_callB call_isi (by rfl) T.b_isinstance bo_isinstance (pa_cons (pv 2) (pa_cons (pe_glob (by rfl) R.mgC (v := .ref C) rfl) pa_nil)))).run _ s6 _ H6 (fun b H1 => b = true ∧ H1 = H6) I6
            ⟨_, q2, _, _, _, _, _, rfl, .own C, R.ty (p6.ext _ _ eb), R.kRC, _, rfl, rfl, rfl⟩) fun b' s7 hs7 hb => ?_
          obtain ⟨H7, I7, rfl, rfl⟩ := hb
          rw [if_pos rfl]
          have p7 := p6.keep I7 (Same.refl _) hs7
          refine sg_execs_cons (sg_For gc (fun _ => rfl) ?_)
          refine thg (Q := fun u s9 => ∃ s8, s7.gens.size ≤ s8.gens.size ∧ Inv (pcx P w K mg base N4 (penv lo f cdv) A outer s' H7) (pk' ++ (it, go) :: pinsAt fp s2.heap) ((σ.set 1 (some (V.str x))).set 2 (some (V.ref b))) H7 s8 ∧ Born P w K mg base k (penv lo f cdv :: outer) s8 H7 Hc sub u s9)
            (PySem.W.methodCall_KW (thg ((pv 2).run _ s7 _ H7 (fun y H1 => y = .ref b ∧ H1 = H7) I7 ⟨_, q2, rfl, rfl⟩) fun u s8 hs8 h8 => ?_) (by rfl)) fun u s9 hs9 h9 => ?_
          · obtain ⟨y, H8, I8, ry, rfl, rfl⟩ := h8
            obtain rfl : u = Value.ref b := ry
            refine getmeth_ok I8 (p7.ext _ _ eb) R.cl hm (rf_paths _ _ _) ?_
            refine PySem.W.callWith_K0 (first := [.ref b]) I8.kIn hm.kp ?_
            exact hc (A.deeper (penv lo f cdv)) (penv lo f cdv :: outer) s8 H8 Hc b sub _ _ (G.room.mono (Nat.le_succ _)) I8.env0 p7.ext hsub fun u' s9 hb => ⟨s8, hs8, I8, hb⟩
          · obtain ⟨s8, hs8, I8, it2, go2, g2, gs2, ow2, rfl, c1', c2', c3', c4', c5', c6', c7', c8', c9'⟩ := h9
            have p8 := p7.keep I8 (Same.refl _) hs8
            have hL8 : lo < s8.heap.objs.size := I8.lt
            have hit2 := c2' s9.heap (c8'.ow _ c8'.obj).2.1
            refine wpAny_pyIter_gen hit2 fun kk p hkk => ?_
            have low2 : ∀ y ∈ ow2, s8.heap.objs.size ≤ y.1 := fun y hy => (c8'.ow y hy).1
            have I9 := inv_set I8 c5' c7' c6'
            have p9 : Pnt P w K mg base N4 (penv lo f cdv) A outer it go g Hc s' H7 pk' (((it, go) :: pinsAt fp s2.heap) ++ ow2) ((σ.set 1 (some (V.str x))).set 2 (some (V.ref b))) H7 s9 := by
              refine p7.to (I9.pins_of fun y hy => ?_) (Same.refl _) hs9 (List.mem_append_left _ List.mem_cons_self) fun y hy => ?_
              · rcases List.mem_append.mp hy with h | h
                · exact I9.pin y (List.mem_append_right _ (List.mem_append_left _ h))
                · rcases List.mem_append.mp h with h | h
                  · exact I9.pin y (List.mem_append_right _ (List.mem_append_right _ h))
                  · obtain ⟨z1, z2, z3, z4, _⟩ := c8'.ow y h
                    have z0 : lo < y.1 := Nat.lt_of_lt_of_le hL8 z1
                    exact ⟨z2, z3, fun ee => absurd z0 (by rw [show y.1 = lo from ee]; exact Nat.lt_irrefl _), fun hm => absurd (G.ho _ hm) (Nat.not_lt_of_lt z0), z4⟩
              · rcases List.mem_append.mp hy with h | h
                · exact .inl h
                · have z1 := low2 y h
                  refine .inr ⟨Nat.lt_of_lt_of_le hL8 z1, fun q' hq' e => ?_⟩
                  have z2 := Heap.lt_size (I8.pin q' (List.mem_append_right _ (List.mem_append_left _ hq'))).1
                  rw [e] at z2
                  exact absurd z2 (Nat.not_lt_of_le z1)
            have hfr : (A.deeper (penv lo f cdv)).in1.frames = some (penv lo f cdv :: outer) := I8.ok.frames
            refine inner_loop (px2 := _) (x := x) (ps' := ps2) (i := i + 1) G N hfp2 List.mem_cons_self c2' (gc.loop rfl rfl) (fun s0' H0' pk'' σ' H' s'' p' t' q' => hkk _ _ (hKb _ _ (ih (i + 1) ps2 hd' rows' s0' H0' pk'' _ σ' H' s'' p' hfp2 t' q')))
              sub [] ow2 gs2 s' H7 pk' _ H7 s9 p9 ⟨c4', Nat.lt_of_lt_of_le p8.num c3', (fun y hy => by cases hy), c8'.obj, hL8, low2, c9' _ (Room.in1 G.room) hfr, fun y hy y' hy' e => ?_⟩ ?_ (fun y hy => Nat.le_trans (hsub.len y hy) hn) q0 q1
            · have z1 := Heap.lt_size (I8.pin y (List.mem_append_right _ (List.mem_append_right _ hy))).1
              rw [e] at z1
              exact absurd z1 (Nat.not_lt_of_le (low2 y' hy'))
            · exact tn_keep N t2 hfp2 (fun y hy => (p2.ownAt y hy).1) fun y hy => (p9.ownAt y (List.mem_append_left _ hy)).1
end
end Gn
/-! The body, the call. -/
namespace Gn
open PySem PySem.Spec PyProof.Rows L2 GenW GrT GrOwn Lw
theorem cutAt_full {n : Nat} {h : Heap} (hn : n ≤ h.objs.size) : (cutAt n h).objs.size = n := by
  show (h.objs.extract 0 n).size = n
  rw [Array.size_extract]
  omega
section
variable {P : Program} {w : World} {K : PySem.W.Frag} {mg : Str → Option Value} {base : Heap} {C : Addr} {k n : Nat} {lo f : Addr} {cdv : Value} {A : Around} {outer : List Env} {it : Addr} {go : Obj} {g : Nat} {Hc : Hp} {a : Addr} {l : List (Str × V)} {z : Int}
theorem body_slp {fo : Obj} {ps : List (List Str)} (T : Bu mg) (R : RecK K mg C) (hm : Meth K C "paths" f) (hc : CallOk P w K mg base C f n k) (hn : n ≤ 100) (G : Gx P w K mg base C (k + 1) lo f cdv A outer it go g Hc a l z) (rows : RowsR (Pt C Hc n) l ps)
    (hlo : lo < it) (fr : FrOk N4 (penv lo f cdv) fo (start N4 [.ref a])) (hgo : ∀ v, go.data ≠ .cell v) (hito : it ∉ frs outer) : Slp P w K mg base A outer lo it go g Hc ps [] [(lo, fo), (it, go)] (.fresh (.func (defBody sPaths) (penv lo f cdv))) := by
  obtain ⟨⟨dx, tp, d1, _, ea, et, ed⟩, nd, _⟩ := G.ra
  refine Slp.iff.mpr ⟨rfl, fun s H pk W => ?_⟩
  show Sg (model P w) A (Phi P w K mg base A outer lo it go g Hc s H pk ps) (.func (defBody sPaths) (penv lo f cdv)) ((model P w).den (.func (defBody sPaths) (penv lo f cdv))) [] s
  refine sg_func fun Kb Jb hK => ?_
  have gc0 : Gc (A.deeper (penv lo f cdv)) A (.func (defBody sPaths) (penv lo f cdv)) [] id := ⟨over_func, rfl, rfl, rfl⟩
  have I0 : Inv (pcx P w K mg base N4 (penv lo f cdv) A outer s H) (pk ++ [(it, go)]) (start N4 [.ref a]) H s := inv_wake (fo := fo) (own := [(it, go)]) plain_env G.hh W List.mem_cons_self fr G.hb G.ho rfl fun q hq => by
    rw [List.mem_singleton.mp hq]
    exact ⟨List.mem_cons_of_mem _ List.mem_cons_self, fun e => absurd hlo (by rw [show it = lo from e]; exact Nat.lt_irrefl _), hito, hgo⟩
  have p0 : Pnt P w K mg base N4 (penv lo f cdv) A outer it go g Hc s H pk [(it, go)] (start N4 [.ref a]) H s := ⟨I0, Same.refl _, W.ext, W.num, List.mem_cons_self, fun q hq => by
    rw [List.mem_singleton.mp hq]
    exact hlo, fun q' hq' q hq => by
    rw [List.mem_singleton.mp hq]
    exact (W.pin q' hq').2.2.2.2 _ (List.mem_cons_of_mem _ List.mem_cons_self)⟩
  refine sg_execs_cons (sg_For gc0 (fun _ => rfl) ?_)
  refine thg ((pi_tup (tg := .Name "name" ⟨90, 12, 90, 16⟩) (pe_fld (pv 0) rfl)).run _ s (start N4 [.ref a]) H (fun J H' => J = Itt K tp ∧ H' = H) I0 ⟨_, rfl, a, C, dx, _, _, rfl, p0.ext _ _ ea, R.cl, R.nN, rf_names _ _ _, tp, rfl, ⟨_, SqT.of (p0.ext _ _ et)⟩, rfl, rfl⟩) fun v s1 hs1 h1 => ?_
  refine thg h1 fun itv s2 hs2 h2 => ?_
  obtain ⟨I0', fp, tn, J, H', rfl, I2, T2, t0, fok, rfl, rfl⟩ := h2
  intro kk p hkk
  have hsz : lo ≤ s.heap.objs.size := Nat.le_of_lt (Heap.lt_size (W.own _ List.mem_cons_self).1)
  have low : ∀ b ∈ fp, lo < b := fun b hb => by
    obtain ⟨_, z2, _, z4, _, _⟩ := fok b hb
    rcases z4 with z4 | z4
    · cases z4
    · have z5 : lo ≤ b := by
        have z6 : (cutAt lo s.heap).objs.size ≤ b := z4
        rw [cutAt_full hsz] at z6
        exact z6
      exact Nat.lt_of_le_of_ne z5 fun e => z2 e.symm
  have NN : Nit P w K _ lo it tp I0' fp tn := ⟨T2, fun hm => (fok it hm).2.2.2.2.2 (it, go) (List.mem_append_right _ (List.mem_append_right _ List.mem_cons_self)) rfl, low⟩
  have p2 : Pnt P w K mg base N4 (penv lo f cdv) A outer it go g Hc s H' pk ((it, go) :: pinsAt fp s2.heap) (start N4 [.ref a]) H' s2 := by
    refine p0.to ?_ (Same.refl _) (Nat.le_trans hs1 hs2) List.mem_cons_self fun q hq => ?_
    · have I3 := I2.pinned fok (T2.obj _ _ t0)
      rw [List.append_assoc] at I3
      exact I3
    · rcases List.mem_cons.mp hq with rfl | h
      · exact .inl List.mem_cons_self
      · obtain ⟨hb, _⟩ := of_pinsAt h
        exact .inr ⟨low _ hb, fun q' hq' => (fok _ hb).2.2.2.2.2 q' (List.mem_append_right _ (List.mem_append_left _ hq'))⟩
  exact outer_loop T R hm hc hn G NN ea et ed nd (gc0.loop rfl rfl) (fun s0 H0 pk0 own σ H s p => hkk _ _ (hK _ _ p.fin)) l 0 ps rfl rows s H' pk _ _ H' s2 p2 (fpin_cons NN t0) t0 rfl
theorem scPaths : GScope N4 ["self"] (defScope sPaths) := ⟨rfl, rfl, rfl, nd4, rfl, by decide +kernel, by decide +kernel⟩
/-- the text of the method, in the written part -/
structure PaK (K : PySem.W.Frag) (C f : Addr) : Prop where
  m : Meth K C "paths" f
  ex : ∃ (oc : Value) (od : Option Addr) (kV doc pm cdv ct : Value) (an : Option Addr) (osl : Array (Option Value)),
    K.lookup f = some ⟨oc, od, .func (PySem.W.fnOf "paths" "Record.paths" (defArgs sPaths) (defBody sPaths) (defScope sPaths) .none kV doc pm an cdv ct), osl⟩ ∧ PySem.W.codeIn K cdv "Record.paths" = true ∧
    Binds K (PySem.W.fnOf "paths" "Record.paths" (defArgs sPaths) (defBody sPaths) (defScope sPaths) .none kV doc pm an cdv ct) ["self"] []
theorem call_ok (T : Bu mg) (R : RecK K mg C) (D : PaK K C f) (hc : CallOk P w K mg base C f n k) (hn : n ≤ 100) : CallOk P w K mg base C f (n + 1) (k + 2) := by
  obtain ⟨oc, od, kV, doc, pm, cdv, ct, an, osl, lk, hcd, hb⟩ := D.ex
  intro A outer s H Hc a ps Q E hr e0 sm hp hQ
  obtain ⟨a', l, z, e, ra, hl, rows⟩ := hp
  cases e
  have KX : K.In s.heap := e0.mod.kin.keeps fun b o e => (e0.bs b o e).1
  have lim : s.heap.NoLimit := e0.mod.nolimit.keeps fun b o e => (e0.bs b o e).1
  have hkind : ∀ y ∈ (["self"] : List Str).zip [Value.ref a], (defScope sPaths).names.lookup y.1 = some .local ∨ ((defScope sPaths).names.lookup y.1 = some .cell ∧ ((cellsFrom (s.heap.objs.size + 1) (defScope sPaths).names []).lookup y.1).isSome = true) := fun y hy => by
    have e : y = (("self" : Str), Value.ref a) := by simpa using hy
    rw [e]
    exact .inl rfl
  have b := hb s [Value.ref a] KX rfl
  refine wpAny_call (codeAny_call_generator (by have := hr.dp; omega) (KX _ _ lk) rfl rfl rfl rfl (PySem.W.codeRec_of KX hcd) (b _ _ _ _ ?_))
  refine wpAny_newFunctionEnv_cells (s := s) scPaths.kind hkind fun env he s1 x => ?_
  subst he
  refine ⟨lim.keeps x.toInCall.keep, ?_⟩
  obtain ⟨h1, tk, es1, hk1⟩ := x.done
  have gen1 : s1.gens = s.gens := by rw [es1]
  have os1 : s1.os = s.os := by rw [es1]
  have hns : s1.heap.Ns s.heap.objs.size (bindL (penv s.heap.objs.size f cdv).kindOf (((["self"] : List Str)).zip [Value.ref a]) fun _ => none) := x.toInCall.ns
  have lt1 : s.heap.objs.size < s1.heap.objs.size := hns.lt
  obtain ⟨fo, es, ep, hfo, hdat, hrest⟩ := id hns
  have kp1 : ∀ b o, s.heap.get? b = some o → s1.heap.get? b = some o := x.toInCall.keep
  have hfr : ∀ b ∈ frs outer, b < s.heap.objs.size := fun b hb => by
    obtain ⟨_, o, ho, _⟩ := e0.funs.mem hb
    exact Heap.lt_size ho
  have fr : FrOk N4 (penv s.heap.objs.size f cdv) fo (start N4 [.ref a]) := fun h hh => ⟨_, hns.at fun o e => by
    have e2 : s1.heap.get? s.heap.objs.size = some o := e
    rw [hfo] at e2
    cases e2
    exact hh, fun i y v e1 e2 e3 => by
    match i, e1, e2 with
    | 0, e1, e2 =>
      cases e1
      cases e2
      exact ⟨.ref a, rfl, .inl ⟨rfl, bindL_get (P := ["self"]) (vs := [.ref a]) (i := 0) (by decide +kernel) rfl rfl rfl⟩⟩
    | 1, e1, e2 => cases e2
    | 2, e1, e2 => cases e2
    | 3, e1, e2 => cases e2
    | i + 4, e1, e2 => cases e1⟩
  generalize hgo : ({ cls := .type "generator", data := .fields #[.int s1.gens.size 0, .str ("paths" : Str) s1.toks, .str ("Record.paths" : Str) (s1.toks + 1)] } : Obj) = go
  have hgc : go.cls = .type "generator" := by rw [← hgo]
  have hgd0 : go.data = .fields #[.int s1.gens.size 0, .str ("paths" : Str) s1.toks, .str ("Record.paths" : Str) (s1.toks + 1)] := by rw [← hgo]
  have hgs : go.slots = #[] := by rw [← hgo]
  have hnc : ∀ v, go.data ≠ .cell v := fun v q => by
    rw [hgd0] at q
    cases q
  have hgen : ∀ h : Heap, h.get? s1.heap.objs.size = some go → h.IsGen s1.heap.objs.size s1.gens.size := fun h e => ⟨go, _, _, e, hgc, hgd0, hgs⟩
  have hpush : (s1.heap.push go).get? s1.heap.objs.size = some go := by rw [← hgo]; exact Heap.get?_push_size _ rfl
  have nH : ∀ b, s.heap.objs.size ≤ b → H b = none := fun b hb => e0.hok.fresh hb
  refine hQ _ _ ⟨s1.heap.objs.size, go, s1.gens.size, .fresh (.func (defBody sPaths) (penv s.heap.objs.size f cdv)), [(s.heap.objs.size, fo), (s1.heap.objs.size, go)], rfl, lt1, hgen, by rw [gen1]; exact Nat.le_refl _, ?_, os1, ?_, fun b o e => ?_, ⟨List.mem_cons_of_mem _ List.mem_cons_self, fun q hq => ?_, fun q hq => by cases hq⟩, fun A' hr' hf' => ?_⟩
  · exact Array.getElem?_push_size ..
  · exact AllBare.push (by rw [gen1]; exact e0.bare) rfl
  · exact Heap.get?_push_of_some _ (kp1 b o e)
  · rcases List.mem_cons.mp hq with rfl | hq
    · refine ⟨Nat.le_refl _, Heap.get?_push_of_some _ hfo, nH _ (Nat.le_refl _), fun v q => ?_, fun q' hq' => by cases hq'⟩
      have q2 : fo.data = .cell v := q
      rw [hdat] at q2
      cases q2
    · rw [List.mem_singleton.mp hq]
      exact ⟨Nat.le_of_lt lt1, hpush, nH _ (Nat.le_of_lt lt1), hnc, fun q' hq' => by cases hq'⟩
  · exact body_slp T R D.m hc hn ⟨hr'.hd, e0.bsz, hfr, hr'.deeper _, ra.keep fun b o _ e _ => e⟩ rows lt1 fr hnc fun hm => absurd (hfr _ hm) (Nat.not_lt_of_lt lt1)
/-- at any depth -/
theorem call_all (T : Bu mg) (R : RecK K mg C) (D : PaK K C f) : ∀ n, n ≤ 101 → CallOk P w K mg base C f n (2 * n)
  | 0, _ => fun A outer s H Hc a ps Q E hr e0 sm hp hQ => hp.elim
  | n + 1, h => call_ok T R D (call_all T R D n (by omega)) (by omega)
end
end Gn
/-! list(r.paths()). -/
namespace Gn
open PySem PySem.Spec PyProof.Rows L2 GenW GrT GrOwn Lw
/-- a consumer that walks a generator born in its own code -/
structure Csm (X : Cx) (pins : List (Addr × Obj)) (lo : Addr) : Prop where
  s0 : X.s_0.heap.objs.size ≤ lo
  loc : X.env.locals < lo
  cell : ∀ x c, X.env.cells.lookup x = some c → c < lo
  ex : ∀ b ∈ X.ex, b < lo
  pin : ∀ p ∈ X.pn ++ pins, p.1 < lo
theorem csm_of {X : Cx} {pins : List (Addr × Obj)} {σ : L2.St} {H : Hp} {s : Shared} (I : Inv X pins σ H s) (hex : X.ex = []) : Csm X pins s.heap.objs.size where
  s0 := I.sz
  loc := I.lt
  cell := fun x c e => by
    obtain ⟨v, o, ho, _⟩ := I.cell x c e
    exact Heap.lt_size ho
  ex := fun b hb => by
    rw [hex] at hb
    cases hb
  pin := fun p hp => Heap.lt_size (I.pin p hp).1
/-- the walker's view of a sleeping generator -/
structure Asl (X : Cx) (A : Around) (lo it : Addr) (go : Obj) (g : Nat) (Hc : Hp) (ps : List (List Str)) (og : List (Nat × GenState)) (ow : List (Addr × Obj)) (gs : GenState) (H : Hp) (s : Shared) : Prop where
  gen : s.gens[g]? = some gs
  ogk : ∀ q ∈ og, g < q.1 ∧ s.gens[q.1]? = some q.2
  obj : (it, go) ∈ ow
  owk : ∀ q ∈ ow, lo ≤ q.1 ∧ s.heap.get? q.1 = some q.2 ∧ H q.1 = none
  ext : Same Hc H
  slp : Slp X.prog X.w X.K X.mg X.base A X.stack lo it go g Hc ps og ow gs
section
variable {X : Cx} {pins pk : List (Addr × Obj)} {σ : L2.St} {H : Hp} {s : Shared} {B : Around} {lo it : Addr} {go : Obj} {g : Nat} {Hc : Hp} {ps : List (List Str)} {og : List (Nat × GenState)} {ow : List (Addr × Obj)} {gs : GenState}
/-- the next of such a generator, the consumer having pk besides -/
theorem asl_next (hz : ∀ h : Heap, h.get? it = some go → h.IsGen it g) (Z : Csm X pins lo) (hB : B.handled = none) (hd : B.depth < recursionLimit) (hf : B.frames = some X.stack) (I : Inv X pins σ H s) (a : Asl X B.in1 lo it go g Hc ps og ow gs H s)
    (hpk : ∀ q ∈ pk, s.heap.get? q.1 = some q.2 ∧ H q.1 = none ∧ q.1 ∉ frs X.stack ∧ (∀ v, q.2.data ≠ .cell v) ∧ ∀ q' ∈ ow, q.1 ≠ q'.1) :
    wpAny (model X.prog X.w) B (pyNext (.ref it)) (fun u s1 => match ps with
      | [] => u = none ∧ ∃ H1, Inv X pins σ H1 s1 ∧ Same H H1 ∧ ∀ q ∈ pk, s1.heap.get? q.1 = some q.2 ∧ H1 q.1 = none
      | p :: ps' => ∃ t H1 og' ow' gs', u = some (.ref t) ∧ H t = none ∧ H1 t = some (.tup (p.map V.str)) ∧ Inv X pins σ H1 s1 ∧ Same H H1 ∧ (∀ q ∈ pk, s1.heap.get? q.1 = some q.2 ∧ H1 q.1 = none) ∧ Asl X B.in1 lo it go g Hc ps' og' ow' gs' H1 s1 ∧ ∀ q ∈ pk, ∀ q' ∈ ow', q.1 ≠ q'.1) NoE s := by
  have hg2 : g < s.gens.size := (Array.getElem?_eq_some_iff.mp a.gen).1
  have e0 := I.env0
  have W : Wake X.prog X.w X.K X.mg X.base B.in1 X.stack Hc g og ow pk (s.setGen g .running) H := by
    refine ⟨by rw [setGen_size]; exact hg2, fun q hq => ?_, ⟨hf, e0.mod, e0.bs, e0.bsz, e0.funs, e0.frf, e0.hok, allBare_setGen e0.bare rfl⟩, a.ext, fun q hq => (a.owk q hq).2, fun q hq => hpk q hq⟩
    obtain ⟨z1, z2⟩ := a.ogk q hq
    rw [setGen_ne (Nat.ne_of_gt z1)]
    exact z2
  have after : ∀ {H1 : Hp} {s1 s' : Shared}, Ctr X.prog X.w X.stack lo (s.setGen g .running) H H1 pk s1 → s'.os = s1.os → (∀ b o, s1.heap.get? b = some o → s'.heap.get? b = some o) → AllBare s'.gens → Inv X pins σ H1 s' := fun {H1 s1 s'} ct ho hk hb => by
    have ct2 : Ctr X.prog X.w X.stack lo s H H1 pk s1 := ⟨ct.os, ct.bare, ct.old, ct.slot, ct.free, ct.pin, ct.hok, ct.same⟩
    exact inv_set (inv_ctr I Z.s0 Z.loc Z.cell Z.ex ct2 fun q hq => .inr (Z.pin q hq)) ho hk hb
  refine wpAny_gsz (n := s.gens.size) (Nat.le_refl _) (next_go hB I.nolimit hd (hz _ (a.owk _ a.obj).2.1) a.gen ((Slp.iff.mp a.slp).2 _ H pk W) fun e s1 he => ?_)
  cases ps with
  | nil =>
    obtain ⟨hr, hqt, H1, ct⟩ := he
    exact .inr ⟨hr, hqt, fun h' hk _ => ⟨rfl, H1, after ct rfl hk (allBare_setGen ct.bare (End.bare_of_quiet hqt)), ct.same, fun q hq => ⟨hk _ _ (ct.pin q hq).1, (ct.pin q hq).2⟩⟩⟩
  | cons p ps =>
    obtain ⟨t, H1, og', ow', hr, hqt, ht0, ht1, ct, ow1, slp⟩ := he
    have hb2 := End.bare_of_quiet hqt
    refine .inl ⟨.ref t, hr, hqt, fun hsz => ?_⟩
    have hg1 : g < s1.gens.size := by
      have h3 : s.gens.size ≤ (s1.setGen g e.genState).gens.size := hsz
      rw [setGen_size] at h3
      omega
    refine ⟨t, H1, og', ow', e.genState, rfl, ht0, ht1, after (s' := s1.setGen g e.genState) ct rfl (fun b o z => z) (allBare_setGen ct.bare hb2), ct.same, fun q hq => ct.pin q hq, ⟨setGen_at hg1, fun q hq => ?_, ow1.obj, fun q hq => ?_, fun b o z => ct.same _ _ (a.ext _ _ z), slp⟩, fun q hq q' hq' => (ow1.ow q' hq').2.2.2.2 q hq⟩
    · obtain ⟨z1, z2⟩ := ow1.og q hq
      exact ⟨z1, by rw [setGen_ne (Nat.ne_of_gt z1)]; exact z2⟩
    · obtain ⟨z1, z2, z3, _⟩ := ow1.ow q hq
      exact ⟨z1, z2, z3⟩
/-- what was handed out, in the heap -/
def Outs (H : Hp) : List V → List (List Str) → Prop := Paired fun v p => ∃ t, v = .ref t ∧ H t = some (.tup (p.map V.str))
theorem Outs.same {H H' : Hp} (sm : Same H H') : ∀ {vs : List V} {ps : List (List Str)}, Outs H vs ps → Outs H' vs ps
  | _, _, .nil => .nil
  | _, _, .cons ⟨t, e, h⟩ r => .cons ⟨t, e, sm _ _ h⟩ (Outs.same sm r)
/-- the consumer's list -/
structure Lst (X : Cx) (pins : List (Addr × Obj)) (S : Addr) : Prop where
  nf : S ∉ frs X.stack
  s0 : X.s_0.heap.objs.size ≤ S
  loc : S ≠ X.env.locals
  cell : ∀ x c, X.env.cells.lookup x = some c → c ≠ S
  pin : ∀ p ∈ X.pn ++ pins, p.1 ≠ S
theorem inv_push {S : Addr} {v : Value} {acc : Array Value} {c : Nat} (L : Lst X pins S) (I : Inv X pins σ H s) (e : s.heap.get? S = some (lstObj acc c)) (h0 : H S = none) : Inv X pins σ H { s with heap := s.heap.update S (Obj.mapSeq (·.push v)) } :=
  I.turned (t' := s.toks) (it := S) (fun b o hb q => (Heap.get?_update_other _ _ (Ne.symm hb)).trans q) h0 L.loc (.inr L.s0) L.cell L.pin
theorem drain_p {S : Addr} {A : Around} {R : Result → Shared → Prop} {res : Value} (hz : ∀ h : Heap, h.get? it = some go → h.IsGen it g) (Z : Csm X pins lo) (L : Lst X pins S) (hB : A.handled = none) (hd : A.depth < recursionLimit) (hf : A.frames = some X.stack) :
    ∀ (ps : List (List Str)) (og : List (Nat × GenState)) (ow : List (Addr × Obj)) (gs : GenState) (ys : List V) (acc : Array Value) (c : Nat) (H : Hp) (s : Shared), Inv X pins σ H s → Asl X A.in1.in1 lo it go g Hc ps og ow gs H s →
      s.heap.get? S = some (lstObj acc c) → H S = none → Vals ys acc.toList → ys.length + ps.length ≤ 100000 → (∀ q ∈ ow, S ≠ q.1) →
      (∀ ts H' s' acc' c', Inv X pins σ H' s' → Same H H' → H' S = none → s'.heap.get? S = some (lstObj acc' c') → Vals (ys ++ ts) acc'.toList → Outs H' ts ps → R (.ok (.ret res)) s') →
      codeAny (model X.prog X.w) A (.builtin "list.extend.loop" ⟨[.ref S, .ref it, res], []⟩) R s := by
  intro ps
  induction ps with
  | nil =>
    intro og ow gs ys acc c H s I a eS hS r hle hne hend
    refine codeAny_builtin F.entry_extend_loop ?_
    rw [Around.under_plainId F.plain_extend_loop _]
    show wpAny _ A.in1 (pyNext (.ref it) >>= _) _ _ s
    refine wpAny_bind (wpAny_mono (asl_next (B := A.in1) (pk := [(S, lstObj acc c)]) hz Z hB hd hf I a fun q hq => ?_) (fun u s1 h => ?_) fun _ _ z => z.elim)
    · rw [List.mem_singleton.mp hq]
      exact ⟨eS, hS, L.nf, (fun v z => by cases z), hne⟩
    · obtain ⟨rfl, H1, I1, sm, hp⟩ := h
      obtain ⟨e1, h1⟩ := hp _ List.mem_cons_self
      exact wpAny_pure (hend [] H1 s1 acc c I1 sm h1 e1 (by rw [List.append_nil]; exact r) .nil)
  | cons p ps ih =>
    intro og ow gs ys acc c H s I a eS hS r hle hne hend
    have rl := r.length
    rw [List.length_cons] at hle
    have hacc : acc.size < sizeLine := by
      have h1 : acc.toList.length = acc.size := by simp
      have h2 := line_big (n := 100000) (Nat.le_refl _)
      omega
    refine codeAny_builtin F.entry_extend_loop ?_
    rw [Around.under_plainId F.plain_extend_loop _]
    show wpAny _ A.in1 (pyNext (.ref it) >>= _) _ _ s
    refine wpAny_bind (wpAny_mono (asl_next (B := A.in1) (pk := [(S, lstObj acc c)]) hz Z hB hd hf I a fun q hq => ?_) (fun u s1 h => ?_) fun _ _ z => z.elim)
    · rw [List.mem_singleton.mp hq]
      exact ⟨eS, hS, L.nf, (fun v z => by cases z), hne⟩
    · obtain ⟨t, H1, og', ow', gs', rfl, ht0, ht1, I1, sm, hp, a1, hne1⟩ := h
      obtain ⟨e1, h1⟩ := hp _ List.mem_cons_self
      show wpAny _ A.in1 (updateSeq S (·.push (.ref t)) >>= _) _ _ _
      refine wpAny_bind ?_
      refine wpAny_updateSeq e1 rfl (wpAny_pure ⟨plainId_quiet F.plain_extend_loop _, ?_⟩) (Nat.le_of_lt hacc) (by show (acc.push _).size ≤ sizeLine + 1; rw [Array.size_push]; omega)
      have neS : ∀ q ∈ ow', S ≠ q.1 := fun q hq => hne1 _ List.mem_cons_self q hq
      refine ih og' ow' gs' (ys ++ [.ref t]) (acc.push (.ref t)) _ H1 _ (inv_push (v := .ref t) L I1 e1 h1) ⟨a1.gen, a1.ogk, a1.obj, fun q hq => ?_, a1.ext, a1.slp⟩ (Heap.get?_update_self _ e1 rfl) h1 ?_ ?_ neS fun ts H' s' acc' c' I' sm' h' e' r' o' => ?_
      · obtain ⟨z1, z2, z3⟩ := a1.owk q hq
        exact ⟨z1, (Heap.get?_update_other _ _ (neS q hq)).trans z2, z3⟩
      · rw [Array.toList_push]
        exact r.append (.cons rfl .nil)
      · rw [List.length_append, List.length_singleton]
        omega
      · refine hend (.ref t :: ts) H' s' acc' c' I' (sm.trans sm') h' e' ?_ (.cons ⟨t, rfl, sm' _ _ ht1⟩ o')
        rw [List.append_assoc] at r'
        exact r'
theorem inv_list {S : Addr} {ys : List V} {acc : Array Value} {c : Nat} (L : Lst X pins S) (I : Inv X pins σ H s) (h0 : H S = none) (e : s.heap.get? S = some (lstObj acc c)) (r : Vals ys acc.toList) (hle : ys.length ≤ sizeLine) : Inv X pins σ (upd H S (.lst ys)) s := by
  refine I.call' (ch := [S]) rfl ⟨fun b o q _ _ _ => q, fun b o q _ _ _ => ⟨o.slots, q⟩, fun b o q n hx => ?_, fun b o q _ => ⟨o, q⟩, fun b xs q => ?_, fun b o u q => ?_, fun b ps q => ?_⟩ (fun b u q => ?_) I.bare fun b hb => ?_
  · rw [upd_ne (fun z => hx (by rw [z]; exact List.mem_singleton.mpr rfl))]
    exact n
  · rw [upd_ne (ne_of_none q h0)]
    exact q
  · rw [upd_ne (ne_of_none q h0)]
    exact q
  · exact ⟨#[], by rw [upd_ne (ne_of_none q h0), q]; simp⟩
  · by_cases hb : b = S
    · subst hb
      rw [upd_same] at q
      cases q
      exact ⟨hle, acc.toList, c, r, by rw [e]⟩
    · rw [upd_ne hb] at q
      exact (I.hok b u q).stay (fun _ _ _ z => z) (fun d z => by rw [upd_ne (ne_of_none z h0)]; exact z) fun d xs z => by rw [upd_ne (ne_of_none z h0)]; exact z
  · rw [List.mem_singleton.mp hb]
    exact ⟨.inr L.s0, L.loc, L.cell, L.pin⟩
/-- list(g), g just born -/
theorem call_list_p {u : Value} {k : Nat} {s8 : Shared} (hex : X.ex = []) (hB : X.A.handled = none) (hr : Room (k + 3) X.A) (I8 : Inv X pins σ H s8) (hb : Born X.prog X.w X.K X.mg X.base k X.stack s8 H Hc ps u s) (hc : Same Hc H) (hle : ps.length ≤ 100000) :
    wpAny (model X.prog X.w) X.A (call (.type "list") [u]) (fun v s' => ∃ S ts H', v = .ref S ∧ Inv X pins σ (upd H' S (.lst ts)) s' ∧ Same H H' ∧ H' S = none ∧ Outs H' ts ps) NoE s := by
  have Z := csm_of I8 hex
  obtain ⟨it, go, g, gs, ow, rfl, c1, c2, c3, c4, c5, c6, c7, c8, c9⟩ := hb
  have I : Inv X pins σ H s := inv_set I8 c5 c7 c6
  have hz : s.heap.IsGen it g := c2 _ (c8.ow _ c8.obj).2.1
  have hlim := I.nolimit
  have hSa : s.heap.objs.size ≠ it := Nat.ne_of_gt (Heap.lt_size (c8.ow _ c8.obj).2.1)
  refine callType_codes (Q₁ := fun obj s₁ => obj = .ref s.heap.objs.size ∧ s₁ = { s with heap := s.heap.push { cls := .type "list", data := .seq #[] } }) F.called_list (F.typeCall_list_1 _) F.entry_list_init
    (code_list_new _ ⟨rfl, rfl⟩) fun obj s₁ h₁ => ?_
  obtain ⟨rfl, rfl⟩ := h₁
  have hS : (s.heap.push { cls := .type "list", data := .seq #[] }).get? s.heap.objs.size = some { cls := .type "list", data := .seq #[] } := Heap.get?_push_size _ rfl
  refine ⟨⟨_, hS, rfl⟩, F.args_list_init_2 _ _, ?_⟩
  show wpAny _ X.A.in1.in1 (do let old ← Builtin.List.listItems (.ref s.heap.objs.size); Builtin.List.listUpdate (.ref s.heap.objs.size) (fun _ => #[]); letGo old.toList.reverse; Builtin.List.listExtendWith (.ref s.heap.objs.size) (.ref it) .none) _ _ _
  refine wpAny_bind ?_
  unfold Builtin.List.listItems
  refine wpAny_bind (wpAny_seqItems hS rfl (wpAny_pure ?_))
  show wpAny _ X.A.in1.in1 (updateSeq s.heap.objs.size (fun _ => #[]) >>= fun _ => letGo (#[] : Array Value).toList.reverse >>= fun _ => Builtin.List.listExtendWith (.ref s.heap.objs.size) (.ref it) .none) _ _ _
  refine wpAny_bind (wpAny_updateSeq hS rfl ?_)
  have hS2 := Heap.get?_update_self (Obj.mapSeq (fun _ => (#[] : Array Value))) hS rfl
  refine wpAny_bind (wpAny_letGo ?_)
  unfold Builtin.List.listExtendWith
  have up : ∀ (h : Heap) (f : Obj → Obj), (∀ b o, s.heap.get? b = some o → h.get? b = some o) → ∀ b o, s.heap.get? b = some o → (h.update s.heap.objs.size f).get? b = some o := fun h f q b o e =>
    (Heap.get?_update_other _ _ (Ne.symm (Nat.ne_of_lt (Heap.lt_size e)))).trans (q b o e)
  have k1 : ∀ b o, s.heap.get? b = some o → (s.heap.push { cls := .type "list", data := .seq #[] }).get? b = some o := fun b o e => Heap.get?_push_of_some _ e
  have k2 := up _ (Obj.mapSeq (fun _ => (#[] : Array Value))) k1
  have gty : ∀ {h : Heap}, (∀ b o, s.heap.get? b = some o → h.get? b = some o) → h.IsGen it g := fun {h} q => hz.keeps q
  refine wpAny_bind (wpAny_typeOf (Heap.IsGen.typeIs (s := { s with heap := _ }) (gty k2)) ?_)
  have h1 : Builtin.List.listSameRef (.ref s.heap.objs.size) (.ref it) = false := by simp [Builtin.List.listSameRef, hSa]
  have h2 : (Value.type "generator" == Value.type "list") = false := by decide
  have h3 : (Value.type "generator" == Value.type "tuple") = false := by decide
  simp only [h1, h2, h3, Bool.or_false, Bool.false_eq_true, if_false]
  refine wpAny_bind (wpAny_pyIter_gen (s := { s with heap := _ }) (gty k2) ?_)
  refine wpAny_bind (wpAny_holding ?_)
  unfold Builtin.List.listLengthHint
  refine wpAny_bind (wpAny_specialOf (Heap.IsGen.typeIs (s := { s with heap := _ }) (gty k2)) F.gen_no_len ?_)
  show wpAny _ X.A.in1.in1 (specialOf (Value.ref it) (Str.ofString "__length_hint__") >>= _) _ _ _
  refine wpAny_bind (wpAny_specialOf (Heap.IsGen.typeIs (s := { s with heap := _ }) (gty k2)) F.gen_no_hint ?_)
  refine wpAny_pure ?_
  show wpAny _ X.A.in1.in1 (rule "list.extend.makes-room" >>= fun _ => Builtin.List.listTouch (.ref s.heap.objs.size) >>= fun _ =>
    again (.builtin "list.extend.loop" ⟨[.ref s.heap.objs.size, .ref it, .none], []⟩)) _ _ _
  refine wpAny_bind (wpAny_rule ?_)
  refine wpAny_bind ?_
  show wpAny _ X.A.in1.in1 (updateSeq s.heap.objs.size (·.push .none) >>= fun _ => updateSeq s.heap.objs.size (·.pop)) _ _ _
  refine wpAny_bind (wpAny_updateSeq hS2 rfl ?_)
  have hS3 := Heap.get?_update_self (Obj.mapSeq (·.push Value.none)) hS2 rfl
  refine wpAny_updateSeq (hz := by seq_fits) hS3 rfl ?_
  have hS4 := Heap.get?_update_self (Obj.mapSeq (·.pop)) hS3 rfl
  have k4 := up _ (Obj.mapSeq (·.pop)) (up _ (Obj.mapSeq (·.push Value.none)) k2)
  have hSz := I.hok.fresh (a := s.heap.objs.size) (Nat.le_refl _)
  have L : Lst X pins s.heap.objs.size := ⟨fun hm => ?_, I.sz, Nat.ne_of_gt I.lt, fun x c e => ?_, fun p hp => Nat.ne_of_lt (Heap.lt_size (I.pin p hp).1)⟩
  · refine wpAny_pure ⟨plainId_quiet F.plain_extend_loop _, ?_⟩
    refine drain_p (A := X.A.in1) c2 Z L hB (by have := hr.dp; show X.A.depth < _; omega) I.ok.frames ps [] ow gs [] #[] _ H _ (inv_set I rfl k4 I.bare) ⟨c4, (fun q hq => by cases hq), c8.obj, fun q hq => ?_, hc, c9 _ ⟨hr.hd, ?_, ?_⟩ I.ok.frames⟩ hS4 hSz .nil (by rw [List.length_nil]; omega) (fun q hq => Nat.ne_of_gt (Heap.lt_size (c8.ow q hq).2.1))
      fun ts H' s' acc' c' I' sm h' e' r' o' => ⟨rfl, s.heap.objs.size, ts, H', rfl, inv_list L I' h' e' r' ?_, sm, h', o'⟩
    · obtain ⟨z1, z2, z3, _⟩ := c8.ow q hq
      exact ⟨z1, k4 _ _ z2, z3⟩
    · have := hr.dp
      show X.A.depth + 3 * k + 5 < _
      omega
    · have := hr.un
      show X.A.units + 1 + 1 + 1 + 16 * k + 200 < _
      omega
    · have e : ts.length = ps.length := Paired.length o'
      exact line_big (by rw [e]; exact hle)
  · have hm2 := I.stkSub _ hm
    rcases List.mem_cons.mp hm2 with z | z
    · exact absurd I.lt (by rw [← show s.heap.objs.size = X.env.locals from z]; exact Nat.lt_irrefl _)
    · exact I.nofs (Nat.le_refl _) z
  · obtain ⟨v, o, ho, _⟩ := I.cell x c e
    exact Nat.ne_of_lt (Heap.lt_size ho)
/-- list(o.paths()) -/
def tListP (C : Addr) (n : Nat) (te : TE) : TE := fun σ H Q => te σ H fun x H1 => ∃ a ps, x = .ref a ∧ Pt C H1 n (.ref a) ps ∧ ps.length ≤ 100000 ∧ ∀ S ts H2, Same H1 H2 → H2 S = some (.lst ts) → Outs H2 ts ps → Q (.ref S) H2
theorem pe_listP {C f : Addr} {mg : Str → Option Value} {n k j : Nat} {o : Expr} {te : TE} {p apos cpos pos : Pos} {pl : Sem Bool} (R : RecK X.K X.mg C) (hm : Meth X.K C "paths" f) (hc : CallOk X.prog X.w X.K X.mg X.base C f n k) (hr : Room j X.A) (hj : k + 3 ≤ j) (hxe : X.xe = NoE) (hex : X.ex = []) (hg : Gl X "list") (hl : X.mg "list" = none) (he : PE X o te)
    (ht : eval (.Call (.Attribute o "paths" apos) [] [] cpos) X.env = (do
      let ov ← eval o X.env
      standAt apos.atName
      let (f, first) ← holding [ov] (getMethod ov "paths" pl)
      callWith cpos f first (backTo cpos (starEach [] X.env)) (backToKw cpos (keywordEach [] X.env))) := by rfl)
    (hst : starEach [.Call (.Attribute o "paths" apos) [] [] cpos] X.env = (false, eval (.Call (.Attribute o "paths" apos) [] [] cpos) X.env) :: starEach [] X.env := by rfl) :
    PE X (.Call (.Name "list" p) [.Call (.Attribute o "paths" apos) [] [] cpos] [] pos) (tListP C n te) := by
  refine ⟨fun pins s σ H Q I h => ?_⟩
  rw [hxe]
  refine wpAny_Call_Name_kw (ld_blt I hg hl bo_list ?_ (by decide) (by decide))
  refine PyProof.Rows.callWith_type1 ?_ hst rfl
  rw [hst]
  show wpAny _ _ (spliced ((false, eval (.Call (.Attribute o "paths" apos) [] [] cpos) X.env) :: backTo pos (starEach [] X.env))) _ _ s
  have hI := he.run pins s σ H _ I h
  rw [hxe] at hI
  refine Calls.spliced_cons (PySem.W.methodCall_KW (pl := pl) (thn hI fun u s1 ⟨x, H1, I1, rx, a, ps, ex, hp, hle, q⟩ => ?_) ht)
  subst ex
  obtain rfl : u = Value.ref a := rx
  obtain ⟨dx, tp, d, z, e1⟩ : ∃ dx tp d z, H1 a = some (.ins C dx (rf tp d z)) := by
    cases n with
    | zero => exact hp.elim
    | succ n =>
      obtain ⟨a', l, z, e, ⟨⟨dx, tp, d, _, e1, _⟩, _, _⟩, _⟩ := hp
      cases e
      exact ⟨dx, tp, d, z, e1⟩
  refine getmeth_ok I1 e1 R.cl hm (rf_paths _ _ _) ?_
  refine PySem.W.callWith_K0 (first := [.ref a]) I1.kIn hm.kp ?_
  refine hc X.A X.stack s1 H1 H1 a ps _ _ (hr.mono (by omega)) I1.env0 (Same.refl _) hp fun u s2 hb => ?_
  refine Calls.spliced_nil ?_
  refine wpAny_mono (call_list_p hex hr.hd (hr.mono hj) I1 hb (Same.refl _) hle) (fun v s3 h3 => ?_) fun _ _ z => z
  obtain ⟨S, ts, H', rfl, I3, sm, h', o'⟩ := h3
  have sm2 : Same H' (upd H' S (.lst ts)) := fun b u e => by
    rw [upd_ne (ne_of_none e h')]
    exact e
  exact ⟨.ref S, _, I3, rfl, q S ts _ (sm.trans sm2) upd_same (o'.same sm2)⟩
end
end Gn
namespace Lw
open PySem PySem.Spec PyProof.Rows L2 GrT GrOwn
/-! ### the record's own defs -/
def spContains (C : Addr) : Sp := fun vs H Q _ => ∃ (a : Addr) (l : List (Str × V)) (z : Int) (x : Str), vs = [.ref a, .str x] ∧ RA (fun _ => True) C H a l z ∧ Q (.bl (look x l).isSome) H
def spLen (C : Addr) : Sp := fun vs H Q _ => ∃ (a : Addr) (l : List (Str × V)) (z : Int), vs = [.ref a] ∧ RA (fun _ => True) C H a l z ∧ Q (.int l.length) H
def spGet (C : Addr) : Sp := fun vs H Q _ => ∃ (a : Addr) (l : List (Str × V)) (z : Int) (x : Str) (v : V), vs = [.ref a, .str x] ∧ RA (fun _ => True) C H a l z ∧ look x l = some v ∧ Q v H
def spSize (C : Addr) : Sp := fun vs H Q _ => ∃ (a dx tp d : Addr) (z : Int), vs = [.ref a] ∧ H a = some (.ins C dx (rf tp d z)) ∧ Q (.int z) H
def spEq (C : Addr) : Sp := fun vs H Q _ => ∃ (a : Addr) (i : Int), vs = [.ref a, .int i] ∧ Q (.bl false) H
/-- how many fields a value has, as the program asks it -/
def SzV (C : Addr) (H : Hp) (v : V) (z : Int) : Prop := (∃ i, v = .int i ∧ z = 0) ∨ ∃ a dx tp d, v = .ref a ∧ H a = some (.ins C dx (rf tp d z))
def spVs (C : Addr) : Sp := fun vs H Q _ => ∃ (v : V) (z : Int), vs = [v] ∧ SzV C H v z ∧ Q (.int z) H
section
variable {P : Program} {w : World} {K : PySem.W.Frag} {mg : Str → Option Value} {base : Heap} {C : Addr}
theorem scContains : FnScope ["self", "name"] ["self", "name"] (defScope sContains) := ⟨rfl, rfl, rfl, by decide +kernel, rfl, by decide +kernel, by decide +kernel⟩
theorem scLen : FnScope ["self"] ["self"] (defScope sLen) := ⟨rfl, rfl, rfl, by decide +kernel, rfl, by decide +kernel, by decide +kernel⟩
theorem scGet : FnScope ["self", "name"] ["self", "name"] (defScope sGet) := ⟨rfl, rfl, rfl, by decide +kernel, rfl, by decide +kernel, by decide +kernel⟩
theorem scSize : FnScope ["self"] ["self"] (defScope sSize) := ⟨rfl, rfl, rfl, by decide +kernel, rfl, by decide +kernel, by decide +kernel⟩
theorem scIter : FnScope ["self"] ["self"] (defScope sIter) := ⟨rfl, rfl, rfl, by decide +kernel, rfl, by decide +kernel, by decide +kernel⟩
theorem scEq : FnScope ["self", "other"] ["self", "other"] (defScope sEq) := ⟨rfl, rfl, rfl, by decide +kernel, rfl, by decide +kernel, by decide +kernel⟩
theorem scValueSize : FnScope ["value"] ["value"] (defScope sValueSize) := ⟨rfl, rfl, rfl, by decide +kernel, rfl, by decide +kernel, by decide +kernel⟩
theorem m_contains (R : RecK K mg C) (D : DfM K C "__contains__" "Record.__contains__" sContains ["self", "name"]) : Mth P w K mg base C 1 "__contains__" (spContains C) := by
  refine D.cal scContains (fun vs H Q E h => ?_) (fun f cdv A outer s H vs Q E hr h => ?_)
  · obtain ⟨a, l, z, x, rfl, _⟩ := h
    rfl
  · obtain ⟨a, l, z, x, rfl, ⟨⟨dx, tp, d, _, e1, e2, e3⟩, _, _⟩, q⟩ := h
    have hu := hu_of hr
    refine ⟨_, (pss_one (ps_ret (pe_cmp (pc_din hu (pv 1) (pe_fld (pv 0) rfl))))), ?_⟩
    refine ⟨_, rfl, _, rfl, a, C, dx, _, _, rfl, e1, R.cl, R.nF, rf_fields _ _ _, d, _, rfl, DGet.k (k := Sum.inr x) e3, ?_⟩
    rw [dk_val]
    exact q
theorem m_len (T : Bt mg) (R : RecK K mg C) (D : DfM K C "__len__" "Record.__len__" sLen ["self"]) : Mth P w K mg base C 1 "__len__" (spLen C) := by
  refine D.cal scLen (fun vs H Q E h => ?_) (fun f cdv A outer s H vs Q E hr h => ?_)
  · obtain ⟨a, l, z, rfl, _⟩ := h
    rfl
  · obtain ⟨a, l, z, rfl, ⟨⟨dx, tp, d, _, e1, e2, e3⟩, _, _⟩, q⟩ := h
    refine ⟨_, (pss_one (ps_ret (pe_callB call_lenD (by rfl) T.b_len PySem.boot_len (pa_cons (pe_fld (pv 0) rfl) pa_nil)))), ?_⟩
    refine ⟨_, rfl, a, C, dx, _, _, rfl, e1, R.cl, R.nF, rf_fields _ _ _, d, _, rfl, e3, ?_⟩
    rw [dk_len]
    exact q
theorem m_get (R : RecK K mg C) (D : DfM K C "__getitem__" "Record.__getitem__" sGet ["self", "name"]) : Mth P w K mg base C 1 "__getitem__" (spGet C) := by
  refine D.cal scGet (fun vs H Q E h => ?_) (fun f cdv A outer s H vs Q E hr h => ?_)
  · obtain ⟨a, l, z, x, v, rfl, _⟩ := h
    rfl
  · obtain ⟨a, l, z, x, v, rfl, ⟨⟨dx, tp, d, _, e1, e2, e3⟩, _, _⟩, hv, q⟩ := h
    have hu := hu_of hr
    refine ⟨_, (pss_cons (ps_if (pt_cmp (pc_dnotin hu (pv 1) (pe_fld (pv 0) rfl)))
      (pss_one ps_no)
      pss_nil)
      (pss_one (ps_ret (pe_dget hu (pe_fld (pv 0) rfl) (pv 1) (fun _ _ => rfl))))), ?_⟩
    have hg : valV (dk l) (Sum.inr x : Key) = some v := by rw [dk_val, hv]
    have hd := DGet.k (k := Sum.inr x) e3
    rw [hg] at hd
    exact ⟨_, rfl, _, rfl, a, C, dx, _, _, rfl, e1, R.cl, R.nF, rf_fields _ _ _, d, some v, rfl, hd, _, rfl, iteF ⟨_, rfl, a, C, dx, _, _, rfl, e1, R.cl, R.nF, rf_fields _ _ _, _, rfl, d, v, rfl, hd, q⟩⟩
theorem fn_size (R : RecK K mg C) {f : Addr} {fd : FuncData} (F : L2.Fun K "size" "Record.size" sSize f fd) : FnOk P w K mg base CX0 1 f fd ["self"] (spSize C) := by
  refine F.ok scSize (fun vs H Q E h => ?_) (fun cdv A outer s H vs Q E hr h => ?_)
  · obtain ⟨a, dx, tp, d, z, rfl, _⟩ := h
    rfl
  · obtain ⟨a, dx, tp, d, z, rfl, e1, q⟩ := h
    refine ⟨_, (pss_one (ps_ret (pe_fld (pv 0) rfl))), ?_⟩
    exact ⟨_, rfl, a, C, dx, _, _, rfl, e1, R.cl, R.nS, rf_size _ _ _, q⟩
theorem m_iter (hi : mg "iter" = none) (R : RecK K mg C) (D : DfM K C "__iter__" "Record.__iter__" sIter ["self"]) : MthS P w K mg base C 1 "__iter__" (spIt K) := by
  obtain ⟨f, fd, hm, hfn, F, b⟩ := D.ex
  refine ⟨f, fd, ["self"], Fun.okS F scIter (fun n vs H Q E h => ?_) (fun cdv A outer s H vs Q E hr h => ?_), hm, hfn, b⟩
  · obtain ⟨a, C, dx, fs, t, zs, rfl, _⟩ := h
    rfl
  · obtain ⟨a, C, dx, fs, t, zs, rfl, e1, cl, na, el, hq, q⟩ := h
    refine ⟨_, (pss_one (ps_ret (pe_callB call_iterT (by rfl) hi (by decide +kernel) (pa_cons (pe_fld (pv 0) rfl) pa_nil)))), ?_⟩
    exact ⟨_, rfl, a, C, dx, _, _, rfl, e1, cl, na, el, t, zs, rfl, hq, fun it h1 h2 => q it h1 h2⟩
theorem m_eq (T : Bu mg) (R : RecK K mg C) (D : DfM K C "__eq__" "Record.__eq__" sEq ["self", "other"]) : Mth P w K mg base C 1 "__eq__" (spEq C) := by
  refine D.cal scEq (fun vs H Q E h => ?_) (fun f cdv A outer s H vs Q E hr h => ?_)
  · obtain ⟨a, i, rfl, _⟩ := h
    rfl
  · obtain ⟨a, i, rfl, q⟩ := h
    refine ⟨_, (pss_one (ps_ret (pe_and (pe_callB call_isi (by rfl) T.b_isinstance bo_isinstance (pa_cons (pv 1) (pa_cons (pe_glob (by rfl) R.mgC (v := .ref C) rfl) pa_nil))) pe_no))), ?_⟩
    exact ⟨_, rfl, _, _, _, _, _, rfl, .own C, .base (.int i), R.kI, _, rfl, iteF q⟩
theorem pe_size {X : Cx} {e : Expr} {pos : Pos} {ta : TE} {p g : Addr} {fd : FuncData} {j : Nat} (R : RecK X.K X.mg C) (hp : PropOf X.K C "size" p g) (F : L2.Fun X.K "size" "Record.size" sSize g fd) (b : Binds X.K fd ["self"] []) (hr : Room j X.A) (hk : 2 ≤ j) (he : PE X e ta)
    (hab : attributeBase e "size" X.env (eval e X.env) = eval e X.env) : PE X (.Attribute e "size" pos) (tProp C (spSize C) [] E0 ta) :=
  pe_prop he R.cl hp (fn_size R F) (hr.mono hk) b .nil pass0 hab
/-- the property, as the top has made it -/
structure PrK (K : PySem.W.Frag) (C : Addr) : Prop where
  ex : ∃ p g fd, PropOf K C "size" p g ∧ L2.Fun K "size" "Record.size" sSize g fd ∧ Binds K fd ["self"] []
theorem pe_sizeK {X : Cx} {e : Expr} {pos : Pos} {ta : TE} {j : Nat} (R : RecK X.K X.mg C) (h : PrK X.K C) (hr : Room j X.A) (hk : 2 ≤ j) (he : PE X e ta)
    (hab : attributeBase e "size" X.env (eval e X.env) = eval e X.env) : PE X (.Attribute e "size" pos) (tProp C (spSize C) [] E0 ta) := by
  obtain ⟨p, g, fd, hp, F, b⟩ := h.ex
  exact pe_size R hp F b hr hk he hab
theorem c_value_size (T : Bu mg) (R : RecK K mg C) (pr : PrK K C) (D : Dfn K mg "value_size" sValueSize ["value"]) : Cal P w K mg base 3 "value_size" (spVs C) := by
  refine D.cal scValueSize (fun vs H Q E h => ?_) (fun f cdv A outer s H vs Q E hr h => ?_)
  · obtain ⟨v, z, rfl, _⟩ := h
    rfl
  · obtain ⟨v, z, rfl, hv, q⟩ := h
    refine ⟨_, (pss_one (ps_ret (pe_ifExp (pt_val (pe_callB call_isi (by rfl) T.b_isinstance bo_isinstance (pa_cons (pv 0) (pa_cons (pe_glob (by rfl) R.mgC (v := .ref C) rfl) pa_nil)))) (pe_sizeK R pr hr (by decide) (pv 0) rfl) pe_int))), ?_⟩
    rcases hv with ⟨i, rfl, rfl⟩ | ⟨a, dx, tp, d, rfl, e1⟩
    · exact ⟨_, rfl, _, _, _, _, _, rfl, .own C, .base (.int i), R.kI, _, rfl, iteF q⟩
    · exact ⟨_, rfl, _, _, _, _, _, rfl, .own C, R.ty e1, R.kRC, _, rfl, iteT ⟨_, rfl, a, dx, _, rfl, e1, a, dx, tp, d, z, rfl, e1, q⟩⟩
end
end Lw
namespace Lw
open PySem PySem.Spec PyProof.Rows L2 GrT GrOwn
def spIsName : Sp := fun vs H Q _ => ∃ x : Str, vs = [.str x] ∧ Good x ∧ ∀ H', Same H H' → Q (.bl true) H'
theorem a_tl : (Str.ofString "a").cps.toList = [97] := by decide +kernel
theorem z_tl : (Str.ofString "z").cps.toList = [122] := by decide +kernel
theorem ge_a {c : Nat} (h : letter c) : (!decide ((⟨#[c]⟩ : Str).cps.toList < (Str.ofString "a").cps.toList)) = true := by
  rw [a_tl, Bool.not_eq_true', decide_eq_false_iff_not]
  show ¬ ([c] < [97])
  intro q
  have h' := h.1
  rcases List.cons_lt_cons_iff.mp q with e | ⟨_, e⟩
  · omega
  · exact absurd e (List.not_lt_nil _)
theorem le_z {c : Nat} (h : letter c) : (!decide ((Str.ofString "z").cps.toList < (⟨#[c]⟩ : Str).cps.toList)) = true := by
  rw [z_tl, Bool.not_eq_true', decide_eq_false_iff_not]
  show ¬ ([122] < [c])
  intro q
  have h' := h.2
  rcases List.cons_lt_cons_iff.mp q with e | ⟨_, e⟩
  · omega
  · exact absurd e (List.not_lt_nil _)
section
variable {P : Program} {w : World} {K : PySem.W.Frag} {mg : Str → Option Value} {base : Heap} {C : Addr}
theorem scIsName : FnScope ["text", "letter"] ["text"] (defScope sIsName) := ⟨rfl, rfl, rfl, by decide +kernel, rfl, by decide +kernel, by decide +kernel⟩
theorem c_is_name (T : Bu mg) (ba : mg "all" = none) {tL : Tok} (hL : mg "LONGEST_NAME" = some (.int 30 tL)) (D : Dfn K mg "is_name" sIsName ["text"]) : Cal P w K mg base 1 "is_name" spIsName := by
  refine D.cal scIsName (fun vs H Q E h => ?_) (fun f cdv A outer s H vs Q E hr h => ?_)
  · obtain ⟨x, rfl, _⟩ := h
    rfl
  · obtain ⟨x, rfl, ⟨g1, g2, g3⟩, q⟩ := h
    refine ⟨_, (pss_one (ps_ret (pe_and (pe_chain op_le op_le pe_int (pe_callB call_len_str (by rfl) T.b_len PySem.boot_len (pa_cons (pv 0) pa_nil)) (pe_glob (by rfl) hL (v := .int 30) ⟨tL, rfl⟩))
      (pe_one (pe_callB (cr_all rfl) (by rfl) ba (by decide +kernel) (pa_cons (pe_lc (own := [("letter", 1)]) (g := gName 1) (tt := tYes) rfl scIsName.nd (pi_str (pv 0)) (blkOk_by (own := [("letter", 1)]) (N := ["text", "letter"]) (sc := defScope sIsName) (by decide +kernel)) (fun _ _ _ _ _ => pg_name (i := 1) scIsName.nd rfl (Or.inl rfl)) (fun _ _ _ _ _ => pts_nil) (fun _ _ _ _ _ => (by exact (pe_chain op_le_str op_le_str pe_str (pv 1) pe_str)))) pa_nil)))))), ?_⟩
    refine ⟨_, rfl, x, rfl, line_big (by omega), _, _, rfl, rfl, _, rfl, ?_⟩
    rw [if_pos (decide_eq_true (by omega))]
    refine ⟨_, _, rfl, rfl, _, rfl, ?_⟩
    rw [if_pos (decide_eq_true (by omega))]
    refine ⟨_, rfl, _, rfl, fun Z hZ => lc_it walk_str (fun i H5 => H5 Z = some (.lst ((List.replicate i true).map V.bl)) ∧ Same H H5) ⟨upd_same, Same.new (Same.refl _) hZ⟩ (fun _ _ _ _ => True.intro) ?_ ?_⟩
    · rintro i y H5 H6 hi ⟨eZ, sm⟩ ⟨rfl, c, hc, rfl⟩
      have lc : letter c := g3 c (by
        rw [← Array.getElem?_toList] at hc
        exact List.mem_of_getElem? hc)
      have hsz : x.cps.size = x.length := rfl
      refine ⟨rfl, iteT (A := _) (B := True) (iteT ⟨_, rfl, _, _, rfl, rfl, _, rfl, ?_⟩)⟩
      rw [if_pos (ge_a lc)]
      refine ⟨_, _, rfl, rfl, _, eZ, line_big (by rw [List.length_map, List.length_replicate]; omega), ?_, ?_⟩
      · rw [upd_same, le_z lc, List.replicate_succ', List.map_append]
        rfl
      · intro b o e
        rw [upd_ne (ne_of_none e hZ)]
        exact sm b o e
    · rintro H5 ⟨eZ, sm⟩
      refine ⟨Z, _, rfl, .of eZ, ?_⟩
      have e : (List.replicate x.cps.size true).all id = true := by
        rw [List.all_eq_true]
        intro b hb
        rw [List.eq_of_mem_replicate hb]
        rfl
      rw [e]
      exact q _ sm
end
end Lw
namespace Lw
open PySem PySem.Spec PyProof.Rows L2 GrT GrOwn
section
variable {J : It} {n : Nat} {G : Hp → Prop} {Y : Nat → Hp → V → Hp → Prop}
/-- the loop of a dict comprehension, Pv by the turn and the heap -/
theorem dc_it (w : Walk J n G Y) {g : TG} {tt : TT} {tk tv : TE} {vs : List Nat} {σ : L2.St} {H1 : Hp} {D : Addr} {Qd : Hp → Prop} (Pv : Nat → Hp → Prop) (h0 : Pv 0 (upd H1 D (.dK []))) (hG : ∀ i H, i ≤ n → Pv i H → G H)
    (hs : ∀ i x H H', i < n → Pv i H → Y i H x H' → g x (wipe σ vs) H' fun σ2 H2 => wipe σ2 vs = wipe σ vs ∧ tt σ2 H2 fun b H3 =>
      if b = true then tk σ2 H3 fun y H4 => tv σ2 H4 fun z H5 => ∃ kvs k, y = kV k ∧ H5 D = some (.dK kvs) ∧ kvs.length < sizeLine ∧ Pv (i + 1) (upd H5 D (.dK (putK kvs k z))) else Pv (i + 1) H3) (hd : ∀ H, Pv n H → Qd H) :
    ∃ W : Nat → Nat → Hp → Prop, (∃ m, W 0 m (upd H1 D (.dK []))) ∧ ∀ i m H, W i m H →
      (J.stop i H ∧ Qd H) ∨ (J.go i H ∧ ∃ Nx : Hp → Prop, (∀ H', Nx H' → ∃ m', m' < m ∧ W (i + 1) m' H') ∧ ∀ x H', J.yld i H x H' → g x (wipe σ vs) H' fun σ2 H2 => wipe σ2 vs = wipe σ vs ∧ tt σ2 H2 fun b H3 =>
        if b = true then tk σ2 H3 fun y H4 => tv σ2 H4 fun z H5 => ∃ kvs k, y = kV k ∧ H5 D = some (.dK kvs) ∧ kvs.length < sizeLine ∧ Nx (upd H5 D (.dK (putK kvs k z))) else Nx H3) := by
  refine ⟨fun i m H => m = n - i ∧ i ≤ n ∧ Pv i H, ⟨n, by simp, Nat.zero_le _, h0⟩, ?_⟩
  rintro i m H ⟨rfl, hi, p⟩
  have q := hG i H hi p
  by_cases hlt : i < n
  · exact .inr ⟨w.goes i H hlt q, Pv (i + 1), fun H' p' => ⟨n - (i + 1), by omega, rfl, hlt, p'⟩, fun x H' y => hs i x H H' hlt p (w.yields i H x H' hlt q y)⟩
  · have e : i = n := by omega
    subst e
    exact .inl ⟨w.stops H q, hd H p⟩
end
theorem sum_perm {α : Type} {f : α → Int} {l m : List α} (h : l.Perm m) : (l.map f).sum = (m.map f).sum := by
  induction h with
  | nil => rfl
  | cons x _ ih => rw [List.map_cons, List.map_cons, List.sum_cons, List.sum_cons, ih]
  | swap x y l =>
    simp only [List.map_cons, List.sum_cons]
    omega
  | trans _ _ ih1 ih2 => rw [ih1, ih2]
def spInit (C : Addr) : Sp := fun vs H Q _ => ∃ (a dx d0 : Addr) (l0 : List (Str × V)) (sz : Str → Int), vs = [.ref a, .ref d0] ∧ H a = some (.ins C dx []) ∧ H d0 = some (.dK (dk l0)) ∧ (names l0).Nodup ∧ l0.length ≤ 40 ∧
  (∀ x v, look x l0 = some v → SzV C H v (sz x)) ∧
  ∀ (l : List (Str × V)) H', RA (fun b => b = a ∨ H b = none) C H' a l (l0.length + ((names l0).map sz).sum) → (names l).Perm (names l0) → (∀ x, look x l = look x l0) → Fx a H H' → Q .non H'
section
variable {P : Program} {w : World} {K : PySem.W.Frag} {mg : Str → Option Value} {base : Heap} {C : Addr}
theorem scInit : FnScope ["self", "fields", "names", "name"] ["self", "fields"] (defScope sInit) := ⟨rfl, rfl, rfl, by decide +kernel, rfl, by decide +kernel, by decide +kernel⟩
theorem fn_init (T : Bu mg) (R : RecK K mg C) (c_value_size : Cal P w K mg base 3 "value_size" (spVs C)) {f : Addr} {fd : FuncData} (F : L2.Fun K "__init__" "Record.__init__" sInit f fd) : FnOk P w K mg base CX0 4 f fd ["self", "fields"] (spInit C) := by
  refine F.ok scInit (fun vs H Q E h => ?_) (fun cdv A outer s H vs Q E hr h => ?_)
  · obtain ⟨a, dx, d0, l0, sz, rfl, _⟩ := h
    rfl
  · obtain ⟨a, dx, d0, l0, sz, rfl, ea, ed, nd, hl, hsz, q⟩ := h
    have hu := hu_of hr
    refine ⟨_, (pss_cons (ps_set (i := 2) scInit.nd rfl (Or.inl rfl) (pe_callB cr_sortedS (by rfl) T.b_sorted bo_sorted (pa_cons (pe_lock (pe_lc (own := [("name", 3)]) (g := gName 3) (tt := tYes) rfl scInit.nd (pi_keys (pv 1)) (blkOk_by (own := [("name", 3)]) (N := ["self", "fields", "names", "name"]) (sc := defScope sInit) (by decide +kernel)) (fun _ _ _ _ _ => pg_name (i := 3) scInit.nd rfl (Or.inl rfl)) (fun _ _ _ _ _ => pts_nil) (fun _ _ _ _ _ => (by exact (pe_callTy SkE.call_str_str (by rfl) T.b_str bo_str (pa_cons (pv 3) pa_nil)))))) pa_nil)))
      (pss_cons (ps_fld (pv 0) (pe_callTy call_tuple_of (by rfl) T.b_tuple bo_tuple (pa_cons (pv 2) pa_nil)) rfl)
      (pss_cons (ps_fld (pv 0) (pe_dc (own := [("name", 3)]) (g := gName 3) (tt := tYes) rfl scInit.nd (pi_list (pv 2)) (blkOk_by (own := [("name", 3)]) (N := ["self", "fields", "names", "name"]) (sc := defScope sInit) (by decide +kernel)) (fun _ _ _ _ _ => pg_name (i := 3) scInit.nd rfl (Or.inl rfl)) (fun _ _ _ _ _ => pts_nil) (fun _ _ _ _ _ => (by exact (pv 3))) (fun _ _ _ _ _ => (by exact (pe_dget hu (pv 1) (pv 3) (fun _ _ => rfl))))) rfl)
      (pss_one (ps_fld (pv 0) (pe_op op_add (pe_callB call_len_seq (by rfl) T.b_len PySem.boot_len (pa_cons (pv 2) pa_nil)) (pe_callB (cr_sum rfl) (by rfl) T.b_sum bo_sum (pa_cons (pe_lc (own := [("name", 3)]) (g := gName 3) (tt := tYes) rfl scInit.nd (pi_list (pv 2)) (blkOk_by (own := [("name", 3)]) (N := ["self", "fields", "names", "name"]) (sc := defScope sInit) (by decide +kernel)) (fun _ _ _ _ _ => pg_name (i := 3) scInit.nd rfl (Or.inl rfl)) (fun _ _ _ _ _ => pts_nil) (fun _ _ _ _ _ => (by exact (pe_c c_value_size hr (by decide) rfl (pa_cons (pe_dget hu (pv 1) (pv 3) (fun _ _ => rfl)) pa_nil))))) pa_nil))) rfl))))), ?_⟩
    refine ⟨d0, .dK (dk l0), ed, True.intro, fun od => ⟨_, rfl, d0, od, rfl, .inl ⟨_, upd_same, fun Z hZ => lc_it walk_keys (fun i H5 => H5 Z = some (.lst (((names l0).take i).map V.str)) ∧ Same (upd H d0 (.frz od (.dK (dk l0)))) H5)
      ⟨upd_same, Same.new (Same.refl _) hZ⟩ ?_ ?_ ?_⟩⟩⟩
    · rintro i H5 _ ⟨_, sm⟩
      exact sm _ _ upd_same
    · rintro i x H5 H6 hi ⟨eZ, sm⟩ ⟨rfl, k', v', hk, rfl⟩
      obtain ⟨x, rfl, hx⟩ := dk_at hk
      refine ⟨rfl, iteT (A := _) (B := True) (iteT ⟨_, rfl, x, rfl, _, eZ, line_big (by rw [List.length_map, List.length_take, show (names l0).length = l0.length from List.length_map _]; omega), ?_, ?_⟩)⟩
      · have hn : (names l0)[i]? = some x := by rw [List.getElem?_map, hx]; rfl
        rw [upd_same, List.take_add_one, hn]
        simp
      · intro b o e
        rw [upd_ne (ne_of_none e hZ)]
        exact sm b o e
    · rintro H5 ⟨eZ, sm⟩
      have hn : (names l0).length = l0.length := List.length_map _
      rw [dk_len, ← hn, List.take_length] at eZ
      have ea5 := sm _ _ (upd_same (H := H) (a := d0) (o := .frz od (.dK (dk l0))))
      have aZ : Z ≠ d0 := (ne_of_none upd_same hZ).symm
      refine ⟨ea5, Z, _, rfl, .of (by rw [upd_ne aZ]; exact eZ), by rw [hn]; omega, fun ys W pm so hW => ?_⟩
      have s1 : Same H (upd H5 d0 (.dK (dk l0))) := Same.unlock ed sm
      have s2 : Same H (upd (upd H5 d0 (.dK (dk l0))) W (.lst (ys.map V.str))) := Same.new s1 hW
      have eW : (upd (upd H5 d0 (.dK (dk l0))) W (.lst (ys.map V.str))) W = some (.lst (ys.map V.str)) := upd_same
      generalize upd (upd H5 d0 (.dK (dk l0))) W (.lst (ys.map V.str)) = H1 at s2 eW ⊢
      clear sm s1 ea5 eZ hZ hW
      have hyl : ys.length = l0.length := by rw [pm.length_eq, hn]
      have ydn : ys.Nodup := pm.nodup_iff.mpr nd
      have ea1 := s2 _ _ ea
      have ed1 := s2 _ _ ed
      have da : d0 ≠ a := fun e => by
        rw [e, ea] at ed
        cases ed
      have Wa : W ≠ a := fun e => by
        rw [e, ea1] at eW
        cases eW
      -- self.names
      refine ⟨_, rfl, W, _, rfl, .inl ⟨SqL.of eW, fun tp htp => ?_⟩⟩
      have ta : tp ≠ a := (ne_of_none ea1 htp).symm
      have htp0 : H tp = none := s2.free htp
      have s3 : Same H (upd H1 tp (.tup (ys.map V.str))) := Same.new s2 htp
      have eW3 : (upd H1 tp (.tup (ys.map V.str))) W = some (.lst (ys.map V.str)) := by
        rw [upd_ne (ne_of_none eW htp)]
        exact eW
      have et3 : (upd H1 tp (.tup (ys.map V.str))) tp = some (.tup (ys.map V.str)) := upd_same
      generalize upd H1 tp (.tup (ys.map V.str)) = H2 at s3 eW3 et3 ⊢
      refine ⟨_, rfl, a, C, dx, [], rfl, s3 _ _ ea, R.cl, R.nN, (by show 0 < 1000; decide), ?_⟩
      have x4 : Fx a H (upd H2 a (.ins C dx (putF "names" (.ref tp) []))) := fun b o nb e => by
        rw [upd_ne nb]
        exact s3 b o e
      have ea4 : (upd H2 a (.ins C dx (putF "names" (.ref tp) []))) a = some (.ins C dx (putF "names" (.ref tp) [])) := upd_same
      have eW4 : (upd H2 a (.ins C dx (putF "names" (.ref tp) []))) W = some (.lst (ys.map V.str)) := by
        rw [upd_ne Wa]
        exact eW3
      have et4 : (upd H2 a (.ins C dx (putF "names" (.ref tp) []))) tp = some (.tup (ys.map V.str)) := by
        rw [upd_ne ta]
        exact et3
      generalize upd H2 a (.ins C dx (putF "names" (.ref tp) [])) = H3 at x4 ea4 eW4 et4 ⊢
      clear s3 eW3 et3
      -- self._fields
      have get : ∀ x ∈ ys, ∃ v, look x l0 = some v := fun x hx => look_some (pm.mem_iff.mp hx)
      obtain ⟨l, hlY, hlL⟩ : ∃ l : List (Str × V), names l = ys ∧ ∀ p ∈ l, look p.1 l0 = some p.2 := by
        refine ⟨ys.map fun x => (x, (look x l0).getD .non), by simp [names, Function.comp_def], fun p hp => ?_⟩
        obtain ⟨x, hx, rfl⟩ := List.mem_map.mp hp
        obtain ⟨v, hv⟩ := get x hx
        show look x l0 = some ((look x l0).getD .non)
        rw [hv]
        rfl
      have hll : l.length = ys.length := by rw [← hlY]; simp [names]
      refine ⟨_, rfl, W, rfl, ⟨_, SqL.of eW4⟩, fun d hd => dc_it (walk_list (xs := ys.map V.str)) (fun i H5 => H5 d = some (.dK (dk (l.take i))) ∧ Same H3 H5) ⟨upd_same, Same.new (Same.refl _) hd⟩ (fun i H5 _ h => SqL.of (h.2 _ _ eW4)) ?_ ?_⟩
      · rintro i v H5 H6 hi ⟨eZ, sm⟩ ⟨rfl, hk⟩
        have hi2 : i < l.length := by
          rw [List.length_map] at hi
          omega
        obtain ⟨⟨x, u⟩, hx⟩ : ∃ p, l[i]? = some p := ⟨l[i], List.getElem?_eq_getElem hi2⟩
        have hyx : ys[i]? = some x := by
          rw [← hlY]
          show (l.map (·.1))[i]? = some x
          rw [List.getElem?_map, hx]
          rfl
        have ev : v = V.str x := by
          rw [List.getElem?_map, hyx] at hk
          exact (Option.some.inj hk).symm
        subst ev
        have hv := hlL _ (List.mem_of_getElem? hx)
        have hg : valV (dk l0) (Sum.inr x : Key) = some u := by rw [dk_val]; exact hv
        have ed5 : H6 d0 = some (.dK (dk l0)) := sm _ _ (x4 _ _ da ed)
        have hdg := DGet.k (k := Sum.inr x) ed5
        rw [hg] at hdg
        refine ⟨rfl, iteT (A := _) (B := True) (iteT ⟨_, rfl, _, rfl, _, rfl, d0, u, rfl, hdg, _, Sum.inr x, rfl, eZ, Nat.lt_of_lt_of_le (m := 100) (by rw [dk_len, List.length_take]; omega) (line_big (by decide)), ?_, ?_⟩)⟩
        · have hno : valV (dk (l.take i)) (Sum.inr x : Key) = none := by
            rw [dk_val, look_none]
            intro hm
            have e1 : names (l.take i) = (names l).take i := by simp [names, List.map_take]
            rw [e1, hlY] at hm
            obtain ⟨j, hj, ej⟩ := List.mem_take_iff_getElem.mp hm
            have hi3 : i < ys.length := by omega
            have e2 : ys[i] = x := by
              rw [List.getElem?_eq_getElem hi3] at hyx
              exact Option.some.inj hyx
            have := (List.getElem_inj ydn).mp (ej.trans e2.symm)
            omega
          rw [upd_same, putK_new _ hno, List.take_add_one, hx]
          simp [dk]
        · intro b o e
          rw [upd_ne (ne_of_none e hd)]
          exact sm b o e
      · rintro H5 ⟨eZ, sm⟩
        rw [List.length_map, ← hll, List.take_length] at eZ
        have ad : a ≠ d := ne_of_none ea4 hd
        have hd0 : H d = none := by
          cases e : H d with
          | none => rfl
          | some o =>
            rw [x4 d o ad.symm e] at hd
            cases hd
        have ea5 := sm _ _ ea4
        have et5 := sm _ _ et4
        have eW5 := sm _ _ eW4
        have x5 : Fx a H H5 := fun b o nb e => sm _ _ (x4 b o nb e)
        refine ⟨_, rfl, a, C, dx, _, rfl, ea5, R.cl, R.nF, (by show 1 < 1000; decide), ?_⟩
        have x6 : Fx a H (upd H5 a (.ins C dx (putF "_fields" (.ref d) (putF "names" (.ref tp) [])))) := fun b o nb e => by
          rw [upd_ne nb]
          exact x5 b o nb e
        have ea6 : (upd H5 a (.ins C dx (putF "_fields" (.ref d) (putF "names" (.ref tp) [])))) a = some (.ins C dx (putF "_fields" (.ref d) (putF "names" (.ref tp) []))) := upd_same
        have eW6 : (upd H5 a (.ins C dx (putF "_fields" (.ref d) (putF "names" (.ref tp) [])))) W = some (.lst (ys.map V.str)) := by
          rw [upd_ne Wa]
          exact eW5
        have et6 : (upd H5 a (.ins C dx (putF "_fields" (.ref d) (putF "names" (.ref tp) [])))) tp = some (.tup (ys.map V.str)) := by
          rw [upd_ne ta]
          exact et5
        have ed6 : (upd H5 a (.ins C dx (putF "_fields" (.ref d) (putF "names" (.ref tp) [])))) d = some (.dK (dk l)) := by
          rw [upd_ne ad.symm]
          exact eZ
        generalize upd H5 a (.ins C dx (putF "_fields" (.ref d) (putF "names" (.ref tp) []))) = H6 at x6 ea6 eW6 et6 ed6 ⊢
        -- self._size
        refine ⟨_, rfl, W, _, rfl, .inl (SqL.of eW6), _, rfl, W, rfl, ⟨_, SqL.of eW6⟩, fun Z hZ => lc_it (walk_list (xs := ys.map V.str)) (fun i H7 => H7 Z = some (.lst (((ys.map sz).take i).map V.int)) ∧ Same H6 H7) ⟨upd_same, Same.new (Same.refl _) hZ⟩ (fun i H7 _ h => SqL.of (h.2 _ _ eW6)) ?_ ?_⟩
        · rintro i v H7 H8 hi ⟨eZ7, sm7⟩ ⟨rfl, hk⟩
          have hi2 : i < ys.length := by
            rw [List.length_map] at hi
            exact hi
          obtain ⟨x, hyx⟩ : ∃ p, ys[i]? = some p := ⟨ys[i], List.getElem?_eq_getElem hi2⟩
          have ev : v = V.str x := by
            rw [List.getElem?_map, hyx] at hk
            exact (Option.some.inj hk).symm
          subst ev
          obtain ⟨u, hu2⟩ := get x (List.mem_of_getElem? hyx)
          have ed8 : H8 d0 = some (.dK (dk l0)) := sm7 _ _ (x6 _ _ da ed)
          have hdg := DGet.k (k := Sum.inr x) ed8
          rw [dk_val, hu2] at hdg
          have sv : SzV C H8 u (sz x) := by
            rcases hsz x u hu2 with h | ⟨b, dy, tq, dq, e1, e2⟩
            · exact .inl h
            · refine .inr ⟨b, dy, tq, dq, e1, sm7 _ _ (x6 b _ (fun e => ?_) e2)⟩
              rw [e, ea] at e2
              exact absurd (HO.ins.inj (Option.some.inj e2)).2.2 (by
                intro z
                have := congrArg (fun l => List.lookup ("_size" : Str) l) z
                simp only [rf_size] at this
                cases this)
          refine ⟨rfl, iteT (A := _) (B := True) (iteT ⟨_, rfl, _, rfl, d0, u, rfl, hdg, u, sz x, rfl, sv, _, eZ7, line_big (by rw [List.length_map, List.length_take, List.length_map]; omega), ?_, ?_⟩)⟩
          · rw [upd_same, List.take_add_one, List.getElem?_map, hyx]
            simp
          · intro b o e
            rw [upd_ne (ne_of_none e hZ)]
            exact sm7 b o e
        · rintro H7 ⟨eZ7, sm7⟩
          have hys : (ys.map sz).length = ys.length := List.length_map _
          rw [List.length_map, ← hys, List.take_length] at eZ7
          refine ⟨Z, _, rfl, .of eZ7, _, _, rfl, rfl, _, rfl, a, C, dx, _, rfl, sm7 _ _ ea6, R.cl, R.nS, (by show 2 < 1000; decide), ?_⟩
          have hz : ((ys.map V.str).length : Int) + (ys.map sz).sum = (l0.length : Int) + ((names l0).map sz).sum := by
            rw [List.length_map, hyl, sum_perm pm]
          refine q l _ ⟨⟨dx, tp, d, ⟨.inl rfl, .inr htp0, .inr hd0⟩, ?_, ?_, ?_⟩, by rw [hlY]; exact ydn, by rw [hlY]; exact so⟩ (by rw [hlY]; exact pm) (fun x => ?_) fun b o nb e => ?_
          · rw [upd_same, ← hz]
            rfl
          · rw [upd_ne ta, hlY]
            exact sm7 _ _ et6
          · rw [upd_ne ad.symm]
            exact sm7 _ _ ed6
          · cases e : look x l with
            | some v => exact (hlL _ (look_mem e)).symm
            | none =>
              refine (look_none.mpr fun hm => ?_).symm
              exact look_none.mp e (by rw [hlY]; exact pm.mem_iff.mpr hm)
          · rw [upd_ne nb]
            exact sm7 _ _ (x6 b o nb e)
end
end Lw
namespace Lw
open PySem PySem.Spec PyProof.Rows L2 GrT GrOwn
/-- the dicts of a tree all stand in the heap -/
theorem Tr.ex {S : Addr → Prop} {H : Hp} {L : Nat} : ∀ {n : Nat} {v : V} {t : T}, Tr S H L n v t → Tr (fun b => S b ∧ H b ≠ none) H L n v t
  | 0, _, _, h => h
  | n + 1, v, t, h => by
    rcases h with h | ⟨a, l, fs, e1, e2, es, e3, e4, e5⟩
    · exact .inl h
    · exact .inr ⟨a, l, fs, e1, e2, ⟨es, by rw [e3]; exact fun z => by cases z⟩, e3, e4, e5.imp fun _ _ _ q => Tr.ex q⟩
/-- a field's size by its name -/
def szf (fs : List (Str × T)) (x : Str) : Int := match look x fs with | some u => nf u | none => 0
theorem szf_sum : ∀ {gs fs : List (Str × T)}, (∀ p ∈ gs, look p.1 fs = some p.2) → ((names gs).map (szf fs)).sum + gs.length = nfs gs
  | [], _, _ => rfl
  | (x, t) :: r, fs, h => by
    have e : look x fs = some t := h (x, t) List.mem_cons_self
    have ih := szf_sum (gs := r) (fs := fs) fun p hp => h p (List.mem_cons_of_mem _ hp)
    have e2 : szf fs x = nf t := by
      unfold szf
      rw [e]
    show (szf fs x :: (names r).map (szf fs)).sum + ((r.length + 1 : Nat) : Int) = nfs ((x, t) :: r)
    rw [List.sum_cons, e2, nfs]
    omega
theorem nfs_len {fs : List (Str × T)} (nd : (names fs).Nodup) : (fs.length : Int) + ((names fs).map (szf fs)).sum = nfs fs := by
  have := szf_sum (gs := fs) (fs := fs) fun p hp => mem_look nd hp
  omega
theorem put_new {x : Str} {v : V} : ∀ {l : List (Str × V)}, x ∉ names l → put x v l = l ++ [(x, v)]
  | [], _ => rfl
  | (z, w) :: r, h => by
    have h' : z ≠ x ∧ x ∉ names r := ⟨fun e => h (by rw [← e]; exact List.mem_cons_self), fun e => h (List.mem_cons_of_mem _ e)⟩
    unfold put
    rw [if_neg h'.1, put_new h'.2]
    rfl
theorem Al.snoc {R : V → T → Prop} {l : List (Str × V)} {fs : List (Str × T)} {x : Str} {v : V} {t : T} (h : Al R l fs) (r : R v t) : Al R (l ++ [(x, v)]) (fs ++ [(x, t)]) := by
  induction h with
  | nil => exact .cons ⟨rfl, r⟩ .nil
  | cons a _ ih => exact .cons a ih
theorem Rc.sz {S : Addr → Prop} {C : Addr} {H : Hp} {n : Nat} {v : V} {t : T} (h : Rc S C H n v t) : SzV C H v (nf t) := by
  refine h.cases (fun i e1 e2 => .inl ⟨i, e1, by rw [e2, nf]⟩) fun k a l fs _ e1 e2 ra _ _ _ => ?_
  obtain ⟨⟨dx, tp, d, _, q, _⟩, _, _⟩ := ra
  exact .inr ⟨a, dx, tp, d, e1, by rw [e2, nf]; exact q⟩
def spMake (C : Addr) (n : Nat) : Sp := fun vs H Q _ => ∃ (v : V) (S : Addr → Prop) (fs : List (Str × T)), vs = [v] ∧ Tr S H 40 (n + 1) v (.fds fs) ∧ ∀ v' H', Rc (fun b => H b = none) C H' (n + 1) v' (.fds fs) → Same H H' → Q v' H'
def spMakeR (C : Addr) : Nat → Sp
  | 0 => spNo
  | n + 1 => spMake C n
/-- the static method, as the top has made it -/
structure StK (K : PySem.W.Frag) (C : Addr) : Prop where
  ex : ∃ p g fd, SMet K C (.type "type") "make" p g ∧ L2.Fun K "make" "Record.make" sMake g fd ∧ Binds K fd ["fields"] []
structure SCal (P : Program) (w : World) (K : PySem.W.Frag) (mg : Str → Option Value) (base : Heap) (C : Addr) (k : Nat) (sp : Sp) : Prop where
  ex : ∃ p g fd ps, SMet K C (.type "type") "make" p g ∧ FnOk P w K mg base CX0 k g fd ps sp ∧ Binds K fd ps []
/-- the class is made: its __init__ -/
structure InK (K : PySem.W.Frag) (C : Addr) : Prop where
  ex : ∃ f fd, Mk K C f ∧ L2.Fun K "__init__" "Record.__init__" sInit f fd ∧ Binds K fd ["self", "fields"] []
section
variable {X : Cx} {C : Addr} {k j : Nat} {sp : Sp} {o e : Expr} {es : List Expr} {pos apos : Pos} {ta : TE} {t : TA} {pl : Sem Bool}
theorem pe_smC (he : PE X o ta) (c : SCal X.prog X.w X.K X.mg X.base C k sp) (hr : Room j X.A) (hk : k ≤ j) (ha : PA X (e :: es) t)
    (hst : starEach (e :: es) X.env = (false, eval e X.env) :: starEach es X.env := by rfl) (hpl : (backTo pos (starEach es X.env)).any (·.1) = false := by rfl)
    (ht : eval (.Call (.Attribute o "make" apos) (e :: es) [] pos) X.env = (do
      let ov ← eval o X.env
      standAt apos.atName
      let (f, first) ← holding [ov] (getMethod ov "make" pl)
      callWith pos f first (backTo pos (starEach (e :: es) X.env)) (backToKw pos (keywordEach [] X.env))) := by rfl) :
    PE X (.Call (.Attribute o "make" apos) (e :: es) [] pos) (tSMet C sp E0 ta t) := by
  obtain ⟨p, g, fd, ps, m, F, b⟩ := c.ex
  exact pe_sm he m F (hr.mono hk) b pass0 ha hst hpl ht
theorem pe_new {p : Pos} (T : Bu X.mg) (R : RecK X.K X.mg C) (c_value_size : Cal X.prog X.w X.K X.mg X.base 3 "value_size" (spVs C)) (I : InK X.K C) (hr : Room j X.A) (hk : 5 ≤ j) (hg : Gl X "Record") (ha : PA X (e :: es) t)
    (he : starEach (e :: es) X.env = (false, eval e X.env) :: starEach es X.env := by rfl) (hpl : (backTo pos (starEach es X.env)).any (·.1) = false := by rfl) :
    PE X (.Call (.Name "Record" p) (e :: es) [] pos) (tMake C (spInit C) [] E0 t) := by
  obtain ⟨f, fd, M, F, b⟩ := I.ex
  exact pe_make M (fn_init T R c_value_size F) (hr.mono hk) hg R.mgC b .nil pass0 ha (by decide) he hpl
end
section
variable {P : Program} {w : World} {K : PySem.W.Frag} {mg : Str → Option Value} {base : Heap} {C : Addr}
theorem scMake : FnScope ["fields", "made", "name", "value"] ["fields"] (defScope sMake) := ⟨rfl, rfl, rfl, by decide +kernel, rfl, by decide +kernel, by decide +kernel⟩
theorem s_no {k : Nat} (D : StK K C) : SCal P w K mg base C (k + 1) spNo := by
  obtain ⟨p, g, fd, m, F, b⟩ := D.ex
  exact ⟨p, g, fd, _, m, F.ok scMake (fun _ _ _ _ h => h.elim) (fun _ _ _ _ _ _ _ _ _ h => h.elim), b⟩
theorem fn_make_step (T : Bu mg) (R : RecK K mg C) {pD g : Addr} {fd : FuncData} (mD : SMet K C (.type "type") "make" pD g) (F : L2.Fun K "make" "Record.make" sMake g fd) (bD : Binds K fd ["fields"] []) (I : InK K C) (c_value_size : Cal P w K mg base 3 "value_size" (spVs C)) (c_is_name : Cal P w K mg base 1 "is_name" spIsName) (n : Nat)
    (c_make : SCal P w K mg base C (n + 5) (spMakeR C n)) : FnOk P w K mg base CX0 (n + 6) g fd ["fields"] (spMake C n) := by
  refine F.ok scMake (fun vs H Q E h => ?_) (fun cdv A outer s H vs Q E hr h => ?_)
  · obtain ⟨v, S, fs, rfl, _⟩ := h
    rfl
  · obtain ⟨v, S, fs, rfl, tr, q⟩ := h
    have hu := hu_of hr
    refine ⟨_, (pss_cons (ps_set (i := 1) scMake.nd rfl (Or.inl rfl) pe_dnewK)
      (pss_cons (ps_lock (ps_for PassesOwn.never rfl (pi_items (pv 0)) (pg_tup rfl (pgs_cons (pg_name (i := 2) scMake.nd rfl (Or.inl rfl)) (pgs_cons (pg_name (i := 3) scMake.nd rfl (Or.inl rfl)) pgs_nil)))
      (pss_cons (ps_if (pt_not (pt_val (pe_c c_is_name hr (by omega) rfl (pa_cons (pv 2) pa_nil)))) (pss_one ps_no) pss_nil)
      (pss_one (ps_dput hu (pv 1) (pv 2) (pe_ifExp (pt_val (pe_callB call_isi (by rfl) T.b_isinstance bo_isinstance (pa_cons (pv 3) (pa_cons (pe_bltn (by rfl) T.b_dict bo_dict (v := .ty "dict") rfl) pa_nil)))) (pe_smC (pe_glob (by rfl) R.mgC (v := .ref C) rfl) c_make hr (by omega) (pa_cons (pv 3) pa_nil)) (pv 3)) rfl)))))
      (pss_one (ps_ret (pe_new T R c_value_size I hr (by omega) (by rfl) (pa_cons (pv 1) pa_nil)))))), ?_⟩
    refine tr.cases (fun i e1 e2 => by cases e2) (fun k a l fs' en e1 e2 sa ea wf al => ?_)
    cases en
    cases e2
    subst e1
    intro M hM
    have aM : a ≠ M := ne_of_none ea hM
    have s1 : Same H (upd H M (.dK [])) := Same.new (Same.refl _) hM
    have ea1 := s1 _ _ ea
    have eM1 : (upd H M (.dK [])) M = some (.dK (dk [])) := upd_same
    have al0 : Al (Tr (fun b => S b ∧ H b ≠ none) H 40 n) l fs := al.imp fun _ _ _ z => Tr.ex z
    have al1 : Al (Tr (fun b => (S b ∧ H b ≠ none)) (upd H M (.dK [])) 40 n) l fs := al0.imp fun _ _ _ z => Tr.same z s1
    have sa1 : (fun b => S b ∧ H b ≠ none) a := ⟨sa, by rw [ea]; exact fun z => by cases z⟩
    refine ⟨a, .dK (dk l), ea1, True.intro, fun od => ?_⟩
    have alB := al_away sa1 ea1 wf al1 (.frz od (.dK (dk l)))
    have eMB : (upd (upd H M (.dK [])) a (.frz od (.dK (dk l)))) M = some (.dK (dk [])) := by
      rw [upd_ne aM.symm]
      exact eM1
    have eaB : (upd (upd H M (.dK [])) a (.frz od (.dK (dk l)))) a = some (.frz od (.dK (dk l))) := upd_same
    have sB : ∀ b o, H b = some o → b ≠ a → (upd (upd H M (.dK [])) a (.frz od (.dK (dk l)))) b = some o := fun b o e nb => by
      rw [upd_ne nb]
      exact s1 b o e
    generalize upd (upd H M (.dK [])) a (.frz od (.dK (dk l))) = B at alB eMB eaB sB ⊢
    have hfl : fs.length ≤ 40 := wf.ln
    refine ⟨_, rfl, a, od, dk l, rfl, eaB, for_it walk_items (fun i σ H' => ∃ (nv vv : Option V) (lm : List (Str × V)), σ = [some (.ref a), some (.ref M), nv, vv] ∧ H' M = some (.dK (dk lm)) ∧ Al (Rc (fun b => H b = none ∧ b ≠ M) C H' n) lm (fs.take i) ∧ Fx M B H')
      ⟨none, none, [], rfl, eMB, .nil, Fx.refl⟩ ?_ ?_ ?_⟩
    · rintro i σ H' _ ⟨nv, vv, lm, _, _, _, x3⟩
      exact x3 _ _ aM eaB
    · rintro i x σ H' H2 hi ⟨nv, vv, lm, rfl, eM, ar, x3⟩ ⟨Tp, x1, y1, rfl, hT, rfl, hx1, hy1⟩
      have hi2 : i < l.length := by
        rw [dk_len] at hi
        exact hi
      obtain ⟨⟨x, v⟩, hx⟩ : ∃ p, l[i]? = some p := ⟨l[i], List.getElem?_eq_getElem hi2⟩
      have hd : (dk l)[i]? = some (Sum.inr x, v) := by
        unfold dk
        rw [List.getElem?_map, hx]
        rfl
      have hx2 : ((dk l)[i]?).map (fun kv => kV kv.1) = some x1 := hx1
      have hy2 : ((dk l)[i]?).map Prod.snd = some y1 := hy1
      rw [hd] at hx2 hy2
      cases hx2
      cases hy2
      obtain ⟨u, hu2, ru⟩ := Lw.Al.at alB hx
      have eT : (upd H' Tp (.tup [kV (Sum.inr x), v])) Tp = some (.tup [kV (Sum.inr x), v]) := upd_same
      have x4 : Fx M B (upd H' Tp (.tup [kV (Sum.inr x), v])) := x3.new hT
      have eM4 : (upd H' Tp (.tup [kV (Sum.inr x), v])) M = some (.dK (dk lm)) := by
        rw [upd_ne (ne_of_none eM hT)]
        exact eM
      have ar4 : Al (Rc (fun b => H b = none ∧ b ≠ M) C (upd H' Tp (.tup [kV (Sum.inr x), v])) n) lm (fs.take i) := ar.imp fun _ _ _ z => z.same (Same.new (Same.refl _) hT)
      generalize upd H' Tp (.tup [kV (Sum.inr x), v]) = H4 at eT x4 eM4 ar4 ⊢
      have gx : Good x := wf.gd (x, u) (List.mem_of_getElem? hu2)
      refine ⟨Tp, _, rfl, SqT.of eT, rfl, _, _, rfl, _, _, rfl, rfl, ?_⟩
      refine ⟨_, rfl, x, rfl, gx, fun H5 s5 => ⟨_, rfl, iteF ?_⟩⟩
      have x5 : Fx M B H5 := fun b o nb e => s5 _ _ (x4 b o nb e)
      have eM5 := s5 _ _ eM4
      have ar5 : Al (Rc (fun b => H b = none ∧ b ≠ M) C H5 n) lm (fs.take i) := ar4.imp fun _ _ _ z => z.same s5
      have ru5 : Tr (fun b => S b ∧ H b ≠ none) H5 40 n v u := ru.keep fun b kvs sb e => x5 b _ (fun z => sb.2 (by rw [z]; exact hM)) e
      have hno : x ∉ names lm := by
        rw [ar5.names]
        intro hm
        have e1 : names (fs.take i) = (names fs).take i := by simp [names, List.map_take]
        rw [e1] at hm
        obtain ⟨j, hj, ej⟩ := List.mem_take_iff_getElem.mp hm
        have e2 : (names fs)[i]? = some x := by rw [List.getElem?_map, hu2]; rfl
        have hi3 : i < (names fs).length := (List.getElem?_eq_some_iff.mp e2).1
        have e3 : (names fs)[i] = x := (List.getElem?_eq_some_iff.mp e2).2
        have := (List.getElem_inj wf.nd).mp (ej.trans e3.symm)
        omega
      have ndm : (names lm).Nodup := by
        rw [ar5.names]
        have e1 : names (fs.take i) = (names fs).take i := by simp [names, List.map_take]
        rw [e1]
        exact List.Nodup.sublist (List.take_sublist _ _) wf.nd
      have hml : (dk lm).length < sizeLine := by
        rw [dk_len, ar5.len, List.length_take]
        exact Nat.lt_of_lt_of_le (by omega : min i fs.length < 100) (line_big (by decide))
      have fin : ∀ (v' : V) (H6 : Hp), Rc (fun b => H b = none ∧ b ≠ M) C H6 n v' u → Same H5 H6 → ∃ H7, DPut H6 M (.str x) v' H7 ∧ ∃ lm', H7 M = some (.dK (dk lm')) ∧ Al (Rc (fun b => H b = none ∧ b ≠ M) C H7 n) lm' (fs.take (i + 1)) ∧ Fx M B H7 := by
        intro v' H6 r6 s6
        have eM6 := s6 _ _ eM5
        refine ⟨_, DPut.k (k := Sum.inr x) eM6 hml, lm ++ [(x, v')], ?_, ?_, fun b o nb e => by rw [upd_ne nb]; exact s6 _ _ (x5 b o nb e)⟩
        · rw [upd_same, dk_put x v' lm ndm, put_new hno]
        · rw [List.take_add_one, hu2]
          exact Al.snoc (ar5.imp fun _ _ _ z => (z.same s6).keep fun b o sb e _ => by rw [upd_ne sb.2]; exact e) (r6.keep fun b o sb e _ => by rw [upd_ne sb.2]; exact e)
      refine ru5.cases (fun j e1 e2 => ?_) (fun k ca cl cfs en e1 e2 cs ce cw cal => ?_)
      · subst e1 e2
        obtain ⟨H7, dp, lm', g1, g2, g3⟩ := fin (.int j) H5 (Rc.int j) (Same.refl _)
        exact ⟨_, rfl, _, _, _, _, _, rfl, .ty _, .base (.int j), rfl, _, rfl, iteF ⟨_, rfl, _, rfl, _, rfl, M, H7, rfl, dp, _, _, lm', rfl, g1, g2, g3⟩⟩
      · subst en e1 e2
        refine ⟨_, rfl, _, _, _, _, _, rfl, .ty _, .base (.dK ce), rfl, _, rfl, iteT ⟨rfl, _, rfl, .ref ca, _, cfs, rfl, ru5, fun v' H6 r6 s6 => ?_⟩⟩
        obtain ⟨H7, dp, lm', g1, g2, g3⟩ := fin v' H6 (r6.wid fun b hb => by
          refine ⟨?_, fun z => by rw [z, eM5] at hb; cases hb⟩
          cases e : H b with
          | none => rfl
          | some o =>
            by_cases q : b = a
            · have h2 := x5 _ _ aM eaB
              rw [q, h2] at hb
              cases hb
            · have h2 := x5 b o (fun z => by rw [z, hM] at e; cases e) (sB b o e q)
              rw [h2] at hb
              cases hb) s6
        exact ⟨_, rfl, _, rfl, M, H7, rfl, dp, _, _, lm', rfl, g1, g2, g3⟩
    · rintro σ H' ⟨nv, vv, lm, rfl, eM, ar, x3⟩
      have ell : (dk l).length = fs.length := by rw [dk_len, al.len]
      rw [ell, List.take_length] at ar
      have eaL : H' a = some (.frz od (.dK (dk l))) := x3 _ _ aM eaB
      refine ⟨eaL, ?_⟩
      have sU : Same H (upd H' a (.dK (dk l))) := fun b o e => by
        by_cases z : b = a
        · rw [z, upd_same, ← ea, ← z, e]
        · rw [upd_ne z]
          exact x3 b o (fun y => by rw [y, hM] at e; cases e) (sB b o e z)
      have arU : Al (Rc (fun b => H b = none ∧ b ≠ M) C (upd H' a (.dK (dk l))) n) lm fs := ar.imp fun _ _ _ z => z.keep fun b o sb e _ => by
        rw [upd_ne (fun y => by rw [y, ea] at sb; cases sb.1)]
        exact e
      have eMU : (upd H' a (.dK (dk l))) M = some (.dK (dk lm)) := by
        rw [upd_ne aM.symm]
        exact eM
      generalize upd H' a (.dK (dk l)) = HU at sU arU eMU ⊢
      have hnm : names lm = names fs := arU.names
      refine ⟨_, rfl, fun x dx hx hdx hne => ?_⟩
      have eX : (upd (upd HU dx (.own x)) x (.ins C dx [])) x = some (.ins C dx []) := upd_same
      have sX : Same HU (upd (upd HU dx (.own x)) x (.ins C dx [])) := Same.new (Same.new (Same.refl _) hdx) (by rw [upd_ne hne.symm]; exact hx)
      have nX : ∀ b, (upd (upd HU dx (.own x)) x (.ins C dx [])) b = none → HU b = none := fun b h => sX.free h
      generalize upd (upd HU dx (.own x)) x (.ins C dx []) = HX at eX sX nX ⊢
      have arX : Al (Rc (fun b => H b = none ∧ b ≠ M) C HX n) lm fs := arU.imp fun _ _ _ z => z.same sX
      refine ⟨x, dx, M, lm, szf fs, rfl, eX, sX _ _ eMU, by rw [hnm]; exact wf.nd, by rw [arX.len]; exact hfl, fun y v hv => ?_, fun l' H'' ra pm lk fx => ?_⟩
      · obtain ⟨u, hu2, ru⟩ := arX.get' hv
        have := Rc.sz ru
        unfold szf
        rw [hu2]
        exact this
      · refine ⟨rfl, q _ _ (.inr ⟨x, l', fs, rfl, rfl, ?_, wf, by rw [← hnm]; exact pm, fun y v u h1 h2 => ?_⟩) fun b o e => ?_⟩
        · have ez : (lm.length : Int) + ((names lm).map (szf fs)).sum = nfs fs := by
            rw [hnm, arX.len]
            exact nfs_len wf.nd
          rw [ez] at ra
          refine ra.wid fun b hb => ?_
          rcases hb with e | e
          · rw [e]
            exact sU.free hx
          · exact sU.free (nX b e)
        · rw [lk] at h1
          obtain ⟨u', h3, r3⟩ := arU.get' h1
          have e : u' = u := Option.some.inj (h3.symm.trans h2)
          subst e
          exact (r3.keep fun b o sb e _ => fx b o (fun z => by rw [z, hx] at e; cases e) (sX _ _ e)).wid fun b hb => hb.1
        · exact fx b o (fun z => by rw [z, sU.free hx] at e; cases e) (sX _ _ (sU _ _ e))
theorem s_make_step (T : Bu mg) (R : RecK K mg C) (D : StK K C) (I : InK K C) (c_value_size : Cal P w K mg base 3 "value_size" (spVs C)) (c_is_name : Cal P w K mg base 1 "is_name" spIsName) (n : Nat)
    (c_make : SCal P w K mg base C (n + 5) (spMakeR C n)) : SCal P w K mg base C (n + 6) (spMake C n) := by
  obtain ⟨pD, g, fd, mD, F, bD⟩ := D.ex
  exact ⟨pD, g, fd, _, mD, fn_make_step T R mD F bD I c_value_size c_is_name n c_make, bD⟩
theorem fn_make {pD g : Addr} {fd : FuncData} (T : Bu mg) (R : RecK K mg C) (mD : SMet K C (.type "type") "make" pD g) (F : L2.Fun K "make" "Record.make" sMake g fd) (bD : Binds K fd ["fields"] []) (I : InK K C) (c_value_size : Cal P w K mg base 3 "value_size" (spVs C)) (c_is_name : Cal P w K mg base 1 "is_name" spIsName) : ∀ n, FnOk P w K mg base CX0 (n + 6) g fd ["fields"] (spMake C n)
  | 0 => fn_make_step T R mD F bD I c_value_size c_is_name 0 (s_no ⟨pD, g, fd, mD, F, bD⟩)
  | n + 1 => fn_make_step T R mD F bD I c_value_size c_is_name (n + 1) ⟨pD, g, fd, _, mD, fn_make T R mD F bD I c_value_size c_is_name n, bD⟩
end
end Lw
namespace Lw
open PySem PySem.Spec PyProof.Rows L2 GrT GrOwn
theorem op_or {X : Cx} {op : Value → Value → Sem Value} {r1 r2 : R2} (h1 : OpR X op r1) (h2 : OpR X op r2) : OpR X op (fun x y H Q => r1 x y H Q ∨ r2 x y H Q) := by
  intro pins s σ H x y v u Q I rx ry h
  rcases h with h | h
  · exact h1 pins s σ H x y v u Q I rx ry h
  · exact h2 pins s σ H x y v u Q I rx ry h
theorem dint {i j : Int} : decide (V.int i = V.int j) = decide (i = j) := by simp
section
variable {P : Program} {w : World} {K : PySem.W.Frag} {mg : Str → Option Value} {base : Heap} {C : Addr}
theorem s_make (T : Bu mg) (R : RecK K mg C) (D : StK K C) (I : InK K C) (c_value_size : Cal P w K mg base 3 "value_size" (spVs C)) (c_is_name : Cal P w K mg base 1 "is_name" spIsName) : ∀ n, SCal P w K mg base C (n + 6) (spMake C n)
  | 0 => s_make_step T R D I c_value_size c_is_name 0 (s_no D)
  | n + 1 => s_make_step T R D I c_value_size c_is_name (n + 1) (s_make T R D I c_value_size c_is_name n)
theorem c_fields (T : Bt mg) (D : Dfn K mg "_law_fields" sFields ["tape", "names", "depth"]) (ct : Cal P w K mg base 1 "_law_take" spTake) (cn : Cal P w K mg base 2 "_law_number" spNumber) : ∀ n, Cal P w K mg base (n + 4) "_law_fields" (spFields n)
  | 0 => c_fields_step T D ct cn 0 (c_no D scFields)
  | n + 1 => c_fields_step T D ct cn (n + 1) (c_fields T D ct cn n)
theorem c_count (T : Bu mg) (D : Dfn K mg "_law_count" sCount ["value"]) : ∀ n, Cal P w K mg base (n + 2) "_law_count" (spCount n)
  | 0 => c_count_step T D 0 (c_no D scCount)
  | n + 1 => c_count_step T D (n + 1) (c_count T D n)
end
end Lw
namespace Lw
open PySem PySem.Spec PyProof.Rows L2 GrT GrOwn
def spTold (C : Addr) (n : Nat) : Sp := fun vs H Q _ => ∃ (v u : V) (S S' : Addr → Prop) (t : T), vs = [v, u] ∧ Rc S C H n v t ∧ Tr S' H 40 n u t ∧ ∀ H', Same H H' → Q (.bl true) H'
def spToldR (C : Addr) : Nat → Sp
  | 0 => spNo
  | n + 1 => spTold C n
section
variable {P : Program} {w : World} {K : PySem.W.Frag} {mg : Str → Option Value} {base : Heap} {C : Addr}
theorem scTold : FnScope ["record", "plain", "names", "name"] ["record", "plain"] (defScope sTold) := ⟨rfl, rfl, rfl, by decide +kernel, rfl, by decide +kernel, by decide +kernel⟩
theorem dp_strs {H : Hp} : ∀ ys : List Str, DpAll K H (ys.map V.str) (ys.map PyData.str)
  | [] => .nil
  | y :: r => .cons (.str y) (dp_strs r)
theorem lay_strs : ∀ {ys : List Str}, (∀ y ∈ ys, Good y) → PyData.canLayAll0 (ys.map PyData.str) = true
  | [], _ => rfl
  | y :: r, h => by
    have ih := lay_strs (ys := r) fun z hz => h z (List.mem_cons_of_mem _ hz)
    rw [List.map_cons, PyData.canLayAll0, ih, Bool.and_true, PyData.canLay0]
    show y.cps.all (fun c => decide (c < 0x110000)) = true
    rw [← Array.all_toList, List.all_eq_true]
    intro c hc
    have := (h y List.mem_cons_self).2.2 c hc
    exact decide_eq_true (by have := this.2; omega)
theorem dep_strs : ∀ {ys : List Str}, PyData.depthAll (ys.map PyData.str) = 0
  | [] => rfl
  | y :: r => by
    rw [List.map_cons, PyData.depthAll, dep_strs (ys := r)]
    rfl
theorem shaped_strs {ys : List Str} (h : ∀ y ∈ ys, Good y) : SeqAt.shaped (.list (ys.map PyData.str)) = true := by
  unfold SeqAt.shaped
  rw [PyData.canLay0, lay_strs h, PyData.depth, dep_strs]
  rfl
theorem eqv_strs {ys : List Str} (h : ∀ y ∈ ys, Good y) : PyData.eqv (.list (ys.map PyData.str)) (.list (ys.map PyData.str)) = true :=
  PySem.SeqAt.eqv_refl _ (by rw [PyData.canLay0]; exact lay_strs h)
theorem c_told_step (T : Bu mg) (R : RecK K mg C) (pr : PrK K C) (m_len : Mth P w K mg base C 1 "__len__" (spLen C)) (m_contains : Mth P w K mg base C 1 "__contains__" (spContains C)) (m_get : Mth P w K mg base C 1 "__getitem__" (spGet C))
    (c_law_is_integer : Cal P w K mg base 1 "_law_is_integer" spIsInt) (c_law_sorted : Cal P w K mg base 1 "_law_sorted" spSorted) (D : Dfn K mg "_law_told" sTold ["record", "plain"]) (n : Nat)
    (c_law_count : Cal P w K mg base (n + 2) "_law_count" (spCount n)) (c_law_told : Cal P w K mg base (n + 3) "_law_told" (spToldR C n)) : Cal P w K mg base (n + 4) "_law_told" (spTold C n) := by
  refine D.cal scTold (fun vs H Q E h => ?_) (fun f cdv A outer s H vs Q E hr h => ?_)
  · obtain ⟨v, u, S, S', t, rfl, _⟩ := h
    rfl
  · obtain ⟨v, u, S, S', t, rfl, rv, ru, q⟩ := h
    have hu := hu_of hr
    have hu64 := hr.units
    refine ⟨_, (pss_cons (ps_if (pt_not (pt_val (pe_callB call_isi (by rfl) T.b_isinstance bo_isinstance (pa_cons (pv 1) (pa_cons (pe_bltn (by rfl) T.b_dict bo_dict (v := .ty "dict") rfl) pa_nil)))))
      (pss_one (ps_ret (pe_and (pe_c c_law_is_integer hr (by omega) rfl (pa_cons (pv 0) pa_nil)) (pe_one (pe_cmpR op_eq (pv 0) (pv 1) (nomark _))))))
      pss_nil)
      (pss_cons (ps_set (i := 2) scTold.nd rfl (Or.inl rfl) (pe_c c_law_sorted hr (by omega) rfl (pa_cons (pv 1) pa_nil)))
      (pss_cons (ps_if (PW.pt (pw_or (pt_not (pt_val (pe_callB call_isi (by rfl) T.b_isinstance bo_isinstance (pa_cons (pv 0) (pa_cons (pe_glob (by rfl) R.mgC (v := .ref C) rfl) pa_nil))))) (pw_or1 (pt_not (pt_val (pe_callB call_isi (by rfl) T.b_isinstance bo_isinstance (pa_cons (pe_fld (pv 0) rfl) (pa_cons (pe_bltn (by rfl) T.b_tuple bo_tuple (v := .ty "tuple") rfl) pa_nil))))))))
      (pss_one (ps_ret pe_bl))
      pss_nil)
      (pss_cons (ps_if (PW.pt (pw_or (pt_cmpR (op_neD hu64) (pe_callTy call_list_of (by rfl) T.b_list bo_list (pa_cons (pe_fld (pv 0) rfl) pa_nil)) (pv 2) (nomark _)) (pw_or1 (pt_cmpR op_ne (pe_callB (call_lenM m_len hr (by omega)) (by rfl) T.b_len PySem.boot_len (pa_cons (pv 0) pa_nil)) (pe_callB call_len_seq (by rfl) T.b_len PySem.boot_len (pa_cons (pv 2) pa_nil)) (nomark _)))))
      (pss_one (ps_ret pe_bl))
      pss_nil)
      (pss_cons (ps_if (PW.pt (pw_or (pt_not (pt_val (pe_c c_law_is_integer hr (by omega) rfl (pa_cons (pe_sizeK R pr hr (by omega) (pv 0) rfl) pa_nil)))) (pw_or1 (pt_cmpR op_ne (pe_sizeK R pr hr (by omega) (pv 0) rfl) (pe_c c_law_count hr (by omega) rfl (pa_cons (pv 1) pa_nil)) (nomark _)))))
      (pss_one (ps_ret pe_bl))
      pss_nil)
      (pss_cons (ps_for PassesOwn.never rfl (pi_list (pv 2)) (pg_name (i := 3) scTold.nd rfl (Or.inl rfl))
      (pss_one (ps_if (PW.pt (pw_or (pt_cmpR (op_notInM m_contains hr (by omega)) (pv 3) (pv 0) (by rfl)) (pw_or1 (pt_not (pt_val (pe_c c_law_told hr (by omega) rfl (pa_cons (pe_ixM m_get hr (by omega) (pv 0) (pv 3)) (pa_cons (pe_dget hu (pv 1) (pv 3) (fun _ _ => rfl)) pa_nil))))))))
      (pss_one (ps_ret pe_bl))
      pss_nil)))
      (pss_one (ps_ret pe_bl)))))))), ?_⟩
    refine rv.cases (fun i e1 e2 => ?_) (fun k a l fs en e1 e2 ra wf pm ch => ?_)
    · subst e1 e2
      refine ru.cases (fun j e1 e2 => ?_) (fun _ _ _ _ _ _ e2 => by cases e2)
      cases e2
      subst e1
      exact ⟨_, rfl, _, _, _, _, _, rfl, .ty _, .base (.int i), rfl, _, rfl, iteT ⟨_, rfl, i, rfl, _, rfl, iteT ⟨_, rfl, _, rfl, rfl, by rw [dint, decide_eq_true rfl]; exact q H (Same.refl H)⟩⟩⟩
    · subst e1 e2 en
      refine ru.cases (fun j e1 e2 => by cases e2) (fun k' b m gs en e1 e2 sb eb wg ag => ?_)
      cases en
      cases e2
      subst e1
      obtain ⟨⟨dx, tp, d, _, ea, et, _⟩, la, lso⟩ := id ra
      have gy : ∀ y ∈ names l, Good y := fun y hy => by
        obtain ⟨p, hp, e⟩ := List.mem_map.mp (pm.mem_iff.mp hy)
        rw [← e]
        exact wf.gd p hp
      refine ⟨_, rfl, _, _, _, _, _, rfl, .ty _, .base (.dK eb), rfl, _, rfl, iteF ?_⟩
      have hln : fs.length ≤ 40 := wf.ln
      refine ⟨_, rfl, b, m, rfl, eb, by rw [ag.len]; omega, fun ys W H1 pw so eW hW s1 => ?_⟩
      have hys : ys = names l := sorted_one so lso (pw.trans (by rw [ag.names]; exact pm.symm))
      subst hys
      have ea1 := s1 _ _ ea
      have et1 := s1 _ _ et
      refine ⟨_, rfl, _, _, _, _, _, rfl, .own C, R.ty ea1, R.kRC, _, rfl, iteF ⟨_, rfl, a, C, dx, _, _, rfl, ea1, R.cl, R.nN, rf_names _ _ _, _, _, _, _, _, rfl, .ty _, .base (.tup et1), rfl, _, rfl, iteF ?_⟩⟩
      refine ⟨_, rfl, a, C, dx, _, _, rfl, ea1, R.cl, R.nN, rf_names _ _ _, tp, _, rfl, .inr (SqT.of et1), fun W2 hW2 => ?_⟩
      have s2 : Same H1 (upd H1 W2 (.lst ((names l).map V.str))) := Same.new (Same.refl _) hW2
      have eW2 : (upd H1 W2 (.lst ((names l).map V.str))) W2 = some (.lst ((names l).map V.str)) := upd_same
      have eW' := s2 _ _ eW
      generalize upd H1 W2 (.lst ((names l).map V.str)) = H2 at s2 eW2 eW' ⊢
      have s02 := s1.trans s2
      have ea2 := s02 _ _ ea
      have ra2 : RA S C H2 a l (nfs fs) := ra.keep fun b o _ e _ => s02 b o e
      refine ⟨_, rfl, _, _, .lst (SqL.of eW2) (dp_strs _), .lst (SqL.of eW') (dp_strs _), shaped_strs gy, shaped_strs gy, _, rfl, ?_⟩
      rw [eqv_strs gy]
      have hll : (names l).length = l.length := List.length_map _
      refine iteF ⟨_, rfl, a, dx, _, rfl, ea2, a, l, _, rfl, ra2.any, _, rfl, by omega, ?_, _, rfl, W, _, rfl, .inl (SqL.of eW'), rfl, _, rfl, ?_⟩
      · have : l.length ≤ 40 := by rw [← hll, pm.length_eq, List.length_map]; exact hln
        omega
      rw [show ((names l).map V.str).length = l.length by rw [List.length_map, hll], decide_eq_true rfl]
      refine iteF ?_
      refine ⟨_, rfl, a, dx, _, rfl, ea2, a, dx, tp, d, _, rfl, ea2, _, rfl, _, rfl, iteF ⟨_, rfl, a, dx, _, rfl, ea2, a, dx, tp, d, _, rfl, ea2, _, rfl, .ref b, S', .fds fs, rfl, Tr.same ru s02, fun H3 s3 => ⟨rfl, _, rfl, ?_⟩⟩⟩
      rw [show decide (V.int (nfs fs) = V.int (nf (.fds fs))) = true by rw [nf]; exact decide_eq_true rfl]
      refine iteF ?_
      have s03 := s02.trans s3
      have eW3 := s3 _ _ eW'
      refine ⟨_, rfl, W, rfl, ⟨_, SqL.of eW3⟩, for_it (walk_list (xs := (names l).map V.str)) (fun i σ H' => ∃ nv : Option V, σ = [some (.ref a), some (.ref b), some (.ref W), nv] ∧ Same H H' ∧ Same H3 H')
        ⟨none, rfl, s03, Same.refl _⟩ (fun i σ H' _ h => ?_) ?_ ?_⟩
      · obtain ⟨nv, _, _, h⟩ := h
        exact SqL.of (h _ _ eW3)
      · rintro i y σ H' H4 hi ⟨nv, rfl, h1, h2⟩ ⟨rfl, hy⟩
        obtain ⟨x, hx, rfl⟩ : ∃ x, (names l)[i]? = some x ∧ y = V.str x := by
          rw [List.getElem?_map] at hy
          cases e : (names l)[i]? with
          | none =>
            rw [e] at hy
            cases hy
          | some x =>
            rw [e] at hy
            exact ⟨x, rfl, (Option.some.inj hy).symm⟩
        have hxm : x ∈ names l := List.mem_of_getElem? hx
        obtain ⟨va, hva⟩ := look_some hxm
        obtain ⟨tx, htx⟩ := look_some (pm.mem_iff.mp hxm)
        obtain ⟨vb, hvb, rb⟩ := ag.get htx
        have ra4 : RA S C H4 a l (nfs fs) := ra.keep fun b o _ e _ => h1 b o e
        have ea4 := h1 _ _ ea
        have hdb := DGet.k (k := Sum.inr x) (h1 _ _ eb)
        rw [dk_val, hvb] at hdb
        refine ⟨_, rfl, _, rfl, a, dx, _, rfl, ea4, a, l, _, x, rfl, ra4.any, _, rfl, _, rfl, ?_⟩
        rw [hva]
        refine iteF ⟨_, rfl, _, rfl, a, dx, _, rfl, ea4, a, l, _, x, va, rfl, ra4.any, hva, _, rfl, _, rfl, b, vb, rfl, hdb, va, vb, S, S', tx, rfl, (ch x va tx hva htx).same h1, Tr.same rb h1, fun H5 s5 => ⟨_, rfl, iteF ?_⟩⟩
        exact ⟨_, rfl, h1.trans s5, h2.trans s5⟩
      · rintro σ H' ⟨nv, rfl, h1, h2⟩
        exact q _ h1
theorem c_told (T : Bu mg) (R : RecK K mg C) (pr : PrK K C) (m_len : Mth P w K mg base C 1 "__len__" (spLen C)) (m_contains : Mth P w K mg base C 1 "__contains__" (spContains C)) (m_get : Mth P w K mg base C 1 "__getitem__" (spGet C))
    (ci : Cal P w K mg base 1 "_law_is_integer" spIsInt) (cs : Cal P w K mg base 1 "_law_sorted" spSorted) (D : Dfn K mg "_law_told" sTold ["record", "plain"]) (DC : Dfn K mg "_law_count" sCount ["value"]) : ∀ n, Cal P w K mg base (n + 4) "_law_told" (spTold C n)
  | 0 => c_told_step T R pr m_len m_contains m_get ci cs D 0 (c_count T DC 0) (c_no D scTold)
  | n + 1 => c_told_step T R pr m_len m_contains m_get ci cs D (n + 1) (c_count T DC (n + 1)) (c_told T R pr m_len m_contains m_get ci cs D DC n)
end
end Lw
namespace GrT
open PySem L2
/-- alike up to the order of the fields -/
def Sm : Nat → T → T → Prop
  | 0, t, u => ∃ i, t = .int i ∧ u = .int i
  | n + 1, t, u => (∃ i, t = .int i ∧ u = .int i) ∨ ∃ fs gs, t = .fds fs ∧ u = .fds gs ∧ (names fs).Nodup ∧ (names fs).Perm (names gs) ∧ ∀ x v w, look x fs = some v → look x gs = some w → Sm n v w
end GrT
namespace Lw
open PySem PySem.Spec PyProof.Rows L2 GrT GrOwn
theorem Sm.nf : ∀ {n : Nat} {t u : T}, Sm n t u → GrT.nf t = GrT.nf u
  | 0, _, _, ⟨i, e1, e2⟩ => by rw [e1, e2]
  | n + 1, t, u, h => by
    rcases h with ⟨i, e1, e2⟩ | ⟨fs, gs, e1, e2, nd, pm, ch⟩
    · rw [e1, e2]
    · rw [e1, e2, GrT.nf, GrT.nf]
      have nd2 : (names gs).Nodup := pm.nodup_iff.mp nd
      rw [← nfs_len nd, ← nfs_len nd2]
      have hl : fs.length = gs.length := by
        have := pm.length_eq
        rwa [List.length_map, List.length_map] at this
      have hs : ((names fs).map (szf fs)).sum = ((names fs).map (szf gs)).sum := by
        congr 1
        refine List.map_congr_left fun x hx => ?_
        obtain ⟨v, hv⟩ := look_some hx
        obtain ⟨w, hw⟩ := look_some (pm.mem_iff.mp hx)
        unfold szf
        rw [hv, hw]
        exact Sm.nf (ch x v w hv hw)
      rw [hs, sum_perm pm, hl]
theorem Rc.sim {S : Addr → Prop} {C : Addr} {H : Hp} : ∀ {n : Nat} {v : V} {t u : T}, Rc S C H n v t → Sm n t u → Rc S C H n v u
  | 0, v, t, u, ⟨i, e1, e2⟩, ⟨j, f1, f2⟩ => by
    rw [e2] at f1
    cases f1
    exact ⟨i, e1, f2⟩
  | n + 1, v, t, u, h, g => by
    rcases h with ⟨i, e1, e2⟩ | ⟨a, l, fs, e1, e2, ra, wf, pm, ch⟩
    · rcases g with ⟨j, f1, f2⟩ | ⟨_, _, f1, _⟩
      · rw [e2] at f1
        cases f1
        exact .inl ⟨i, e1, f2⟩
      · rw [e2] at f1
        cases f1
    · have hn := Sm.nf g
      rcases g with ⟨j, f1, f2⟩ | ⟨fs', gs, f1, f2, nd, pg, cg⟩
      · rw [e2] at f1
        cases f1
      · rw [e2] at f1
        cases f1
        rw [e2, f2, GrT.nf, GrT.nf] at hn
        rw [hn] at ra
        have hl : fs.length = gs.length := by
          have := pg.length_eq
          rwa [List.length_map, List.length_map] at this
        refine .inr ⟨a, l, gs, e1, f2, ra, ⟨pg.nodup_iff.mp nd, by rw [← hl]; exact wf.ln, fun p hp => ?_⟩, pm.trans pg, fun x v w h1 h2 => ?_⟩
        · obtain ⟨q, hq, e⟩ := List.mem_map.mp (pg.mem_iff.mpr (List.mem_map.mpr ⟨p, hp, rfl⟩))
          rw [← e]
          exact wf.gd q hq
        · obtain ⟨u', hu⟩ := look_some (pg.mem_iff.mpr (List.mem_map.mpr ⟨_, look_mem h2, rfl⟩))
          exact (ch x v u' h1 hu).sim (cg x u' w hu h2)
theorem put_any {α : Type} {x : Str} {v : α} : ∀ {l : List (Str × α)}, x ∉ names l → GrT.put x v l = l ++ [(x, v)]
  | [], _ => rfl
  | (y, u) :: r, h => by
    rw [GrT.put, if_neg (fun z => h (by rw [← z]; exact List.mem_cons_self)), put_any fun z => h (List.mem_cons_of_mem _ z)]
    rfl
theorem look_snoc {α : Type} {x z : Str} {v : α} {l : List (Str × α)} (h : x ∉ names l) : look z (l ++ [(x, v)]) = if z = x then some v else look z l := by
  rw [← put_any h, look_put]
def spTurned (n : Nat) : Sp := fun vs H Q _ => ∃ (v : V) (S : Addr → Prop) (t : T), vs = [v] ∧ Tr S H 20 n v t ∧ ∀ v' t' H', Tr (fun b => H b = none) H' 20 n v' t' → Sm n t' t → Same H H' → Q v' H'
def spTurnedR : Nat → Sp
  | 0 => spNo
  | n + 1 => spTurned n
section
variable {P : Program} {w : World} {K : PySem.W.Frag} {mg : Str → Option Value} {base : Heap} {C : Addr}
theorem Sm.int {n : Nat} (i : Int) : Sm n (.int i) (.int i) := by
  cases n with
  | zero => exact ⟨i, rfl, rfl⟩
  | succ n => exact .inl ⟨i, rfl, rfl⟩
abbrev sTurn : Stmt := top 24
theorem scTurn : FnScope ["value", "fields", "name"] ["value"] (defScope sTurn) := ⟨rfl, rfl, rfl, by decide +kernel, rfl, by decide +kernel, by decide +kernel⟩
theorem c_turned_step (T : Bu mg) (br : mg "reversed" = none) (D : Dfn K mg "_law_turned" sTurn ["value"]) (n : Nat) (c_law_turned : Cal P w K mg base (n + 1) "_law_turned" (spTurnedR n)) : Cal P w K mg base (n + 2) "_law_turned" (spTurned n) := by
  refine D.cal scTurn (fun vs H Q E h => ?_) (fun f cdv A outer s H vs Q E hr h => ?_)
  · obtain ⟨v, S, t, rfl, _⟩ := h
    rfl
  · obtain ⟨v, S, t, rfl, tr, q⟩ := h
    have hu := hu_of hr
    refine ⟨_, (pss_cons (ps_if (pt_not (pt_val (pe_callB call_isi (by rfl) T.b_isinstance bo_isinstance (pa_cons (pv 0) (pa_cons (pe_bltn (by rfl) T.b_dict bo_dict (v := .ty "dict") rfl) pa_nil)))))
      (pss_one (ps_ret (pv 0)))
      pss_nil)
      (pss_cons (ps_set (i := 1) scTurn.nd rfl (Or.inl rfl) pe_dnewK)
      (pss_cons (ps_for PassesOwn.never rfl (pi_reversed (by rfl) br (pa_cons (pe_callTy (call_listD rfl) (by rfl) T.b_list bo_list (pa_cons (pv 0) pa_nil)) pa_nil)) (pg_name (i := 2) scTurn.nd rfl (Or.inl rfl))
      (pss_one (ps_dput hu (pv 1) (pv 2) (pe_c c_law_turned hr (by omega) rfl (pa_cons (pe_dget hu (pv 0) (pv 2) (fun _ _ => rfl)) pa_nil)) rfl)))
      (pss_one (ps_ret (pv 1)))))), ?_⟩
    refine tr.cases (fun i e1 e2 => ?_) (fun k a l fs en e1 e2 sa ea wf al => ?_)
    · subst e1 e2
      exact ⟨_, rfl, _, _, _, _, _, rfl, .ty _, .base (.int i), rfl, _, rfl, iteT ⟨_, rfl, q _ _ H (Tr.int i) (Sm.int i) (Same.refl _)⟩⟩
    · subst en e1 e2
      refine ⟨_, rfl, _, _, _, _, _, rfl, .ty _, .base (.dK ea), rfl, _, rfl, iteF ?_⟩
      intro D hD
      have s0 : Same H (upd H D (.dK [])) := Same.new (Same.refl _) hD
      have eD0 : (upd H D (.dK [])) D = some (.dK (dk [])) := upd_same
      generalize upd H D (.dK []) = H0 at s0 eD0 ⊢
      refine ⟨_, rfl, a, dk l, rfl, .inl (s0 _ _ ea), fun W hW => ?_⟩
      have kn : (dk l).map (fun kv => kV kv.1) = (names l).map V.str := by
        unfold dk names
        rw [List.map_map, List.map_map]
        rfl
      rw [kn]
      have s1 : Same H (upd H0 W (.lst ((names l).map V.str))) := Same.new s0 hW
      have eW : (upd H0 W (.lst ((names l).map V.str))) W = some (.lst ((names l).map V.str)) := upd_same
      have eD1 : (upd H0 W (.lst ((names l).map V.str))) D = some (.dK (dk [])) := by
        rw [upd_ne (ne_of_none eD0 hW)]
        exact eD0
      have WD : W ≠ D := (ne_of_none eD0 hW).symm
      generalize upd H0 W (.lst ((names l).map V.str)) = H1 at s1 eW eD1 ⊢
      have hfl : fs.length ≤ 20 := wf.ln
      have nll : (names l).length = fs.length := by rw [al.names, List.length_map]
      have rl : (names fs).reverse.length = fs.length := by rw [List.length_reverse, List.length_map]
      refine ⟨W, _, rfl, SqL.of eW, for_it (walk_rev (xs := (names l).map V.str)) (fun i σ H' => ∃ (nv : Option V) (lm : List (Str × V)) (fm : List (Str × GrT.T)), σ = [some (.ref a), some (.ref D), nv] ∧ H' D = some (.dK (dk lm)) ∧ H' W = some (.lst ((names l).map V.str)) ∧
          Al (Tr (fun b => H b = none ∧ b ≠ D) H' 20 k) lm fm ∧ names fm = (names fs).reverse.take i ∧ (∀ x v w, look x fm = some v → look x fs = some w → Sm k v w) ∧ Same H H')
        ⟨none, [], [], rfl, eD1, eW, .nil, rfl, (fun x v w h => by cases h), s1⟩ (fun i σ H' _ h => ?_) ?_ ?_⟩
      · obtain ⟨nv, lm, fm, _, _, h, _⟩ := h
        exact SqL.of h
      · rintro i y σ H' H2 hi ⟨nv, lm, fm, rfl, eD, eW', ar, nm, sm, sH⟩ ⟨rfl, hy⟩
        rw [List.length_map, nll] at hi hy
        obtain ⟨x, hx, rfl⟩ : ∃ x, (names l)[fs.length - 1 - i]? = some x ∧ y = V.str x := by
          rw [List.getElem?_map] at hy
          cases e : (names l)[fs.length - 1 - i]? with
          | none =>
            rw [e] at hy
            cases hy
          | some x =>
            rw [e] at hy
            exact ⟨x, rfl, (Option.some.inj hy).symm⟩
        rw [al.names] at hx
        have hrx : (names fs).reverse[i]? = some x := by
          rw [List.getElem?_reverse (by rw [List.length_map]; exact hi), List.length_map]
          exact hx
        have hxm : x ∈ names fs := List.mem_of_getElem? hx
        obtain ⟨u, hu2⟩ := look_some hxm
        obtain ⟨v', hv', rv⟩ := al.get hu2
        have gx : Good x := wf.gd (x, u) (look_mem hu2)
        have hg := DGet.k (k := Sum.inr x) (sH _ _ ea)
        rw [dk_val, hv'] at hg
        refine ⟨_, rfl, _, rfl, a, v', rfl, hg, v', S, u, rfl, Tr.same rv sH, fun w' t' H5 r5 m5 s5 => ?_⟩
        have r6 : Tr (fun b => H b = none ∧ b ≠ D) H5 20 k w' t' := r5.wid fun b hb => ⟨sH.free hb, fun z => by rw [z, eD] at hb; cases hb⟩
        have eD5 := s5 _ _ eD
        have ar5 : Al (Tr (fun b => H b = none ∧ b ≠ D) H5 20 k) lm fm := ar.imp fun _ _ _ z => Tr.same z s5
        have hno : x ∉ names fm := fun hm => by
          rw [nm] at hm
          obtain ⟨j, hj, ej⟩ := List.mem_take_iff_getElem.mp hm
          have hi3 : i < (names fs).reverse.length := (List.getElem?_eq_some_iff.mp hrx).1
          have e3 : (names fs).reverse[i] = x := (List.getElem?_eq_some_iff.mp hrx).2
          have ndr : (names fs).reverse.Nodup := (List.reverse_perm _).nodup_iff.mpr wf.nd
          have := (List.getElem_inj ndr).mp (ej.trans e3.symm)
          omega
        have hnl : x ∉ names lm := by
          rw [ar5.names]
          exact hno
        have ndm : (names lm).Nodup := by
          rw [ar5.names, nm]
          exact ((List.reverse_perm _).nodup_iff.mpr wf.nd).sublist (List.take_sublist _ _)
        have hml : (dk lm).length < sizeLine := by
          have h1 : fm.length ≤ 20 := by
            have z := congrArg List.length nm
            rw [List.length_map, List.length_take, rl] at z
            omega
          rw [dk_len, ar5.len]
          exact Nat.lt_of_lt_of_le (by omega : fm.length < 100) (line_big (by decide))
        refine ⟨_, rfl, _, rfl, D, _, rfl, DPut.k (k := Sum.inr x) eD5 hml, _, lm ++ [(x, w')], fm ++ [(x, t')], rfl, ?_, ?_, ?_, ?_, ?_, ?_⟩
        · rw [upd_same, dk_put x w' lm ndm, put_new hnl]
        · rw [upd_ne WD]
          exact s5 _ _ eW'
        · exact Al.snoc (ar5.imp fun _ _ _ z => z.keep fun b kvs sb e => by rw [upd_ne sb.2]; exact e) (r6.keep fun b kvs sb e => by rw [upd_ne sb.2]; exact e)
        · rw [List.take_add_one, hrx, ← nm]
          simp [names]
        · intro z v w h1 h2
          by_cases ez : z = x
          · rw [ez] at h1 h2
            rw [hu2] at h2
            cases h2
            have e0 : look x (fm ++ [(x, t')]) = some t' := by rw [look_snoc hno, if_pos rfl]
            rw [e0] at h1
            cases h1
            exact m5
          · rw [look_snoc hno, if_neg ez] at h1
            exact sm z v w h1 h2
        · intro b o e
          rw [upd_ne (ne_of_none e hD)]
          exact s5 _ _ (sH b o e)
      · rintro σ H' ⟨nv, lm, fm, rfl, eD, eW', ar, nm, sm, sH⟩
        rw [List.length_map, nll, ← rl, List.take_length] at nm
        have hfm : fm.length = fs.length := by
          have z := congrArg List.length nm
          rwa [List.length_map, rl] at z
        have ndf : (names fm).Nodup := by
          rw [nm]
          exact (List.reverse_perm _).nodup_iff.mpr wf.nd
        refine ⟨_, rfl, q _ (.fds fm) H' (.inr ⟨D, lm, fm, rfl, rfl, hD, eD, ⟨ndf, by omega, fun p hp => ?_⟩, ar.imp fun _ _ _ z => z.wid fun b h => h.1⟩) (.inr ⟨fm, fs, rfl, rfl, ndf, by rw [nm]; exact List.reverse_perm _, sm⟩) sH⟩
        have h1 : p.1 ∈ names fs := List.mem_reverse.mp (by rw [← nm]; exact List.mem_map.mpr ⟨p, hp, rfl⟩)
        obtain ⟨q2, hq, e⟩ := List.mem_map.mp h1
        rw [← e]
        exact wf.gd q2 hq
end
end Lw
namespace Lw
open PySem PySem.Spec PyProof.Rows L2 GrT GrOwn
/-- the fields stand in ascending order on every level -/
def Srt : Nat → T → Prop
  | 0, _ => True
  | n + 1, t => ∀ fs, t = .fds fs → sortedS (names fs) = true ∧ ∀ x v, look x fs = some v → Srt n v
def spPT (n : Nat) : Sp := fun vs H Q _ => ∃ (v u : V) (S S' : Addr → Prop) (t' t : T), vs = [v, u] ∧ Tr S H 40 n v t' ∧ Tr S' H 40 n u t ∧ (∀ b, S b → ¬ S' b) ∧ Sm n t' t ∧ Srt n t' ∧ ∀ H', Same H H' → Q (.bl true) H'
def spPTR : Nat → Sp
  | 0 => spNo
  | n + 1 => spPT n
abbrev sPlainTold : Stmt := top 29
section
variable {P : Program} {w : World} {K : PySem.W.Frag} {mg : Str → Option Value} {base : Heap} {C : Addr}
theorem scPlainTold : FnScope ["told", "plain", "name"] ["told", "plain"] (defScope sPlainTold) := ⟨rfl, rfl, rfl, by decide +kernel, rfl, by decide +kernel, by decide +kernel⟩
theorem c_plain_told_step (T : Bu mg) (c_law_is_integer : Cal P w K mg base 1 "_law_is_integer" spIsInt) (c_law_sorted : Cal P w K mg base 1 "_law_sorted" spSorted) (D : Dfn K mg "_law_plain_told" sPlainTold ["told", "plain"]) (n : Nat)
    (c_law_plain_told : Cal P w K mg base (n + 1) "_law_plain_told" (spPTR n)) : Cal P w K mg base (n + 2) "_law_plain_told" (spPT n) := by
  refine D.cal scPlainTold (fun vs H Q E h => ?_) (fun f cdv A outer s H vs Q E hr h => ?_)
  · obtain ⟨v, u, S, S', t', t, rfl, _⟩ := h
    rfl
  · obtain ⟨v, u, S, S', t', t, rfl, rv, ru, ds, sm, so, q⟩ := h
    have hu := hu_of hr
    have hu64 := hr.units
    refine ⟨_, (pss_cons (ps_if (pt_not (pt_val (pe_callB call_isi (by rfl) T.b_isinstance bo_isinstance (pa_cons (pv 1) (pa_cons (pe_bltn (by rfl) T.b_dict bo_dict (v := .ty "dict") rfl) pa_nil)))))
      (pss_one (ps_ret (pe_and (pe_c c_law_is_integer hr (by omega) rfl (pa_cons (pv 0) pa_nil)) (pe_one (pe_cmpR op_eq (pv 0) (pv 1) (nomark _))))))
      pss_nil)
      (pss_cons (ps_if (PW.pt (pw_or (pt_not (pt_val (pe_callB call_isi (by rfl) T.b_isinstance bo_isinstance (pa_cons (pv 0) (pa_cons (pe_bltn (by rfl) T.b_dict bo_dict (v := .ty "dict") rfl) pa_nil))))) (pw_or1 (pt_cmpR (op_neD hu64) (pe_callTy (call_listD rfl) (by rfl) T.b_list bo_list (pa_cons (pv 0) pa_nil)) (pe_c c_law_sorted hr (by omega) rfl (pa_cons (pv 1) pa_nil)) (nomark _)))))
      (pss_one (ps_ret pe_bl))
      pss_nil)
      (pss_cons (ps_lock (ps_for PassesOwn.never rfl (pi_keys (pv 1)) (pg_name (i := 2) scPlainTold.nd rfl (Or.inl rfl))
      (pss_one (ps_if (pt_not (pt_val (pe_c c_law_plain_told hr (by omega) rfl (pa_cons (pe_dget hu (pv 0) (pv 2) (fun _ _ => rfl)) (pa_cons (pe_dget hu (pv 1) (pv 2) (fun _ _ => rfl)) pa_nil)))))
      (pss_one (ps_ret pe_bl))
      pss_nil))))
      (pss_one (ps_ret pe_bl))))), ?_⟩
    refine ru.cases (fun i e1 e2 => ?_) (fun k b m gs en e1 e2 sb eb wg ag => ?_)
    · subst e1 e2
      refine rv.cases (fun j e1 e2 => ?_) (fun _ _ _ _ en e1 e2 => ?_)
      · subst e1 e2
        have hji : j = i := by
          cases n with
          | zero =>
            obtain ⟨z, f1, f2⟩ := sm
            cases f1
            cases f2
            rfl
          | succ n =>
            rcases sm with ⟨z, f1, f2⟩ | ⟨_, _, f1, _⟩
            · cases f1
              cases f2
              rfl
            · cases f1
        subst hji
        exact ⟨_, rfl, _, _, _, _, _, rfl, .ty _, .base (.int j), rfl, _, rfl, iteT ⟨_, rfl, j, rfl, _, rfl, iteT ⟨_, rfl, _, rfl, rfl, by rw [dint, decide_eq_true rfl]; exact q H (Same.refl H)⟩⟩⟩
      · subst en e1 e2
        rcases sm with ⟨z, f1, f2⟩ | ⟨_, _, f1, f2, _⟩
        · cases f1
        · cases f2
    · subst en e1 e2
      refine rv.cases (fun j e1 e2 => ?_) (fun k' a l fs en e1 e2 sa ea wf al => ?_)
      · subst e1 e2
        rcases sm with ⟨z, f1, f2⟩ | ⟨_, _, f1, f2, _⟩
        · cases f2
        · cases f1
      cases en
      subst e1 e2
      have sm' : (names fs).Nodup ∧ (names fs).Perm (names gs) ∧ ∀ x v w, look x fs = some v → look x gs = some w → Sm k v w := by
        rcases sm with ⟨z, f1, f2⟩ | ⟨_, _, f1, f2, h⟩
        · cases f1
        · cases f1
          cases f2
          exact h
      obtain ⟨ndf, pm, ch⟩ := sm'
      obtain ⟨sof, soc⟩ := so fs rfl
      refine ⟨_, rfl, _, _, _, _, _, rfl, .ty _, .base (.dK eb), rfl, _, rfl, iteF ?_⟩
      have gy : ∀ y ∈ names fs, Good y := fun y hy => by
        obtain ⟨p, hp, e⟩ := List.mem_map.mp hy
        rw [← e]
        exact wf.gd p hp
      have nl : names l = names fs := al.names
      have hgl : gs.length ≤ 40 := wg.ln
      refine ⟨_, rfl, _, _, _, _, _, rfl, .ty _, .base (.dK ea), rfl, _, rfl, iteF ⟨_, rfl, a, dk l, rfl, .inl ea, fun W2 hW2 => ?_⟩⟩
      have kn : (dk l).map (fun kv => kV kv.1) = (names l).map V.str := by
        unfold dk names
        rw [List.map_map, List.map_map]
        rfl
      rw [kn, nl]
      have s1 : Same H (upd H W2 (.lst ((names fs).map V.str))) := Same.new (Same.refl _) hW2
      have eW2 : (upd H W2 (.lst ((names fs).map V.str))) W2 = some (.lst ((names fs).map V.str)) := upd_same
      generalize upd H W2 (.lst ((names fs).map V.str)) = H1 at s1 eW2 ⊢
      refine ⟨_, rfl, b, m, rfl, s1 _ _ eb, by rw [ag.len]; omega, fun ys W H2 pw sy eW hW s2 => ?_⟩
      have hys : ys = names fs := sorted_one sy sof (pw.trans (by rw [ag.names]; exact pm.symm))
      subst hys
      refine ⟨_, _, .lst (SqL.of (s2 _ _ eW2)) (dp_strs _), .lst (SqL.of eW) (dp_strs _), shaped_strs gy, shaped_strs gy, _, rfl, ?_⟩
      rw [eqv_strs gy]
      refine iteF ?_
      have s02 := s1.trans s2
      have eb2 := s02 _ _ eb
      have ea2 := s02 _ _ ea
      have ba : b ≠ a := fun z => ds a sa (by rw [← z]; exact sb)
      refine ⟨b, .dK (dk m), eb2, True.intro, fun od => ?_⟩
      have ebB : (upd H2 b (.frz od (.dK (dk m)))) b = some (.frz od (.dK (dk m))) := upd_same
      have eaB : (upd H2 b (.frz od (.dK (dk m)))) a = some (.dK (dk l)) := by
        rw [upd_ne ba.symm]
        exact ea2
      have agB : Al (Tr S' (upd H2 b (.frz od (.dK (dk m)))) 40 k) m gs := al_away sb eb2 wg (ag.imp fun _ _ _ z => Tr.same z s02) (.frz od (.dK (dk m)))
      have alB : Al (Tr S (upd H2 b (.frz od (.dK (dk m)))) 40 k) l fs := al.imp fun _ _ _ z => (Tr.same z s02).keep fun c kvs sc e => by
        rw [upd_ne (fun z => ds c sc (by rw [z]; exact sb))]
        exact e
      refine ⟨_, rfl, b, od, rfl, .inl ⟨_, ebB, for_it walk_keys (fun i σ H' => ∃ nv : Option V, σ = [some (.ref a), some (.ref b), nv] ∧ Same (upd H2 b (.frz od (.dK (dk m)))) H')
        ⟨none, rfl, Same.refl _⟩ (fun i σ H' _ h => ?_) ?_ ?_⟩⟩
      · obtain ⟨nv, _, h⟩ := h
        exact h _ _ ebB
      · rintro i y σ H' H3 hi ⟨nv, rfl, h1⟩ ⟨rfl, k', v', hk, rfl⟩
        obtain ⟨x, rfl, hx⟩ := dk_at hk
        have ndm : (names m).Nodup := by
          rw [ag.names]
          exact wg.nd
        have hlm : look x m = some v' := mem_look ndm (List.mem_of_getElem? hx)
        obtain ⟨tx, htx, rb⟩ := agB.get' hlm
        obtain ⟨ux, hux⟩ := look_some (x := x) (l := fs) (pm.mem_iff.mpr (List.mem_map.mpr ⟨_, look_mem htx, rfl⟩))
        obtain ⟨va, hva, ra⟩ := alB.get hux
        have hda := DGet.k (k := Sum.inr x) (h1 _ _ eaB)
        rw [dk_val, hva] at hda
        refine ⟨_, rfl, _, rfl, a, va, rfl, hda, _, rfl, _, rfl, b, v', rfl, .inl ⟨dk m, Sum.inr x, .inr ⟨od, h1 _ _ ebB⟩, rfl, by rw [dk_val, hlm]⟩, va, v', S, S', ux, tx, rfl, Tr.same ra h1, Tr.same rb h1, ds, ch x ux tx hux htx, soc x ux hux, fun H5 s5 => ⟨_, rfl, iteF ?_⟩⟩
        exact ⟨_, rfl, h1.trans s5⟩
      · rintro σ H' ⟨nv, rfl, h1⟩
        refine ⟨h1 _ _ ebB, ?_⟩
        exact q _ (s02.trans (Same.unlock eb2 h1))
end
end Lw
namespace Lw
open PySem PySem.Spec PyProof.Rows L2 GrT GrOwn
theorem SzV.one {C : Addr} {H : Hp} {v : V} {z y : Int} (h : SzV C H v z) (g : SzV C H v y) : z = y := by
  rcases h with ⟨i, e, e1⟩ | ⟨a, dx, tp, d, e, e1⟩
  · rcases g with ⟨j, f, f1⟩ | ⟨b, dy, tq, c, f, f1⟩
    · rw [e1, f1]
    · rw [e] at f
      cases f
  · rcases g with ⟨j, f, f1⟩ | ⟨b, dy, tq, c, f, f1⟩
    · rw [e] at f
      cases f
    · rw [e] at f
      cases f
      rw [e1] at f1
      have h3 := HO.ins.inj (Option.some.inj f1)
      have h4 : (rf tp d z).lookup ("_size" : Str) = (rf tq c y).lookup ("_size" : Str) := by rw [h3.2.2]
      rw [rf_size, rf_size] at h4
      cases h4
      rfl
theorem nfs_one {C : Addr} {H : Hp} {l : List (Str × V)} {fs gs : List (Str × T)} (nf1 : (names fs).Nodup) (p1 : (names l).Perm (names fs)) (p2 : (names l).Perm (names gs))
    (c1 : ∀ x v u, look x l = some v → look x fs = some u → SzV C H v (nf u)) (c2 : ∀ x v u, look x l = some v → look x gs = some u → SzV C H v (nf u)) : nfs fs = nfs gs := by
  have pm : (names fs).Perm (names gs) := p1.symm.trans p2
  have nd2 : (names gs).Nodup := pm.nodup_iff.mp nf1
  rw [← nfs_len nf1, ← nfs_len nd2]
  have hl : fs.length = gs.length := by
    have := pm.length_eq
    rwa [List.length_map, List.length_map] at this
  have hs : ((names fs).map (szf fs)).sum = ((names fs).map (szf gs)).sum := by
    congr 1
    refine List.map_congr_left fun x hx => ?_
    obtain ⟨v, hv⟩ := look_some hx
    obtain ⟨w, hw⟩ := look_some (pm.mem_iff.mp hx)
    obtain ⟨u, hu⟩ := look_some (p1.mem_iff.mpr hx)
    unfold szf
    rw [hv, hw]
    exact (c1 x u v hu hv).one (c2 x u w hu hw)
  rw [hs, sum_perm pm, hl]
mutual
theorem nf_nn : ∀ t : T, 0 ≤ nf t
  | .int _ => by rw [nf]; exact Int.le_refl 0
  | .fds fs => by rw [nf]; exact nfs_nn fs
theorem nfs_nn : ∀ fs : List (Str × T), 0 ≤ nfs fs
  | [] => by rw [nfs]; exact Int.le_refl 0
  | (x, t) :: r => by
    have h1 := nf_nn t
    have h2 := nfs_nn r
    rw [nfs]
    omega
end
theorem nf_child {x : Str} {u : T} : ∀ {fs : List (Str × T)}, look x fs = some u → nf u < nfs fs
  | [], h => by cases h
  | (y, t) :: r, h => by
    have h1 := nf_nn t
    have h2 := nfs_nn r
    rw [nfs]
    by_cases q : y = x
    · rw [look, if_pos q] at h
      cases h
      omega
    · rw [look, if_neg q] at h
      have := nf_child h
      omega
/-- what is smaller than the record whose fields' dict is d does not reach d -/
theorem Rc.away {S : Addr → Prop} {C d : Addr} {H : Hp} {l : List (Str × V)} {z : Int} (ed : H d = some (.dK (dk l)))
    (hz : ∀ gs, (names gs).Nodup → (names l).Perm (names gs) → (∀ x v u, look x l = some v → look x gs = some u → SzV C H v (nf u)) → nfs gs = z) (o : HO) : ∀ {n : Nat} {v : V} {t : T}, Rc S C H n v t → nf t < z → Rc S C (upd H d o) n v t
  | 0, _, _, h, _ => h
  | n + 1, v, t, h, hs => by
    rcases h with h | ⟨a, m, fs, e1, e2, ra, wf, pm, ch⟩
    · exact .inl h
    · rw [e2, nf] at hs
      obtain ⟨⟨dx, tp, c, ss, f1, f2, f3⟩, nd, so⟩ := ra
      have ha : a ≠ d := fun q => by
        rw [q, ed] at f1
        cases f1
      have ht : tp ≠ d := fun q => by
        rw [q, ed] at f2
        cases f2
      have hc : c ≠ d := fun q => by
        rw [q, ed] at f3
        have hm : dk l = dk m := HO.dK.inj (Option.some.inj f3)
        have hlm : l = m := by
          apply dk_inj hm
        subst hlm
        have := hz fs wf.nd pm fun x v u h1 h2 => (ch x v u h1 h2).sz
        omega
      refine .inr ⟨a, m, fs, e1, e2, ⟨⟨dx, tp, c, ss, by rw [upd_ne ha]; exact f1, by rw [upd_ne ht]; exact f2, by rw [upd_ne hc]; exact f3⟩, nd, so⟩, wf, pm, fun x v u h1 h2 => Rc.away ed hz o (ch x v u h1 h2) ?_⟩
      have := nf_child h2
      omega
end Lw
namespace Lw
open PySem PySem.Spec PyProof.Rows L2 GrT GrOwn
/-- a method that is called by its name -/
structure MthK (P : Program) (w : World) (K : PySem.W.Frag) (mg : Str → Option Value) (base : Heap) (CX : CXT) (C : Addr) (k : Nat) (x : Str) (sp : Sp) : Prop where
  ex : ∃ (f : Addr) (fd : FuncData) (ps : List Str), FnOk P w K mg base CX k f fd ps sp ∧ Meth K C x f ∧ Binds K fd ps []
structure DfK (K : PySem.W.Frag) (C : Addr) (x q : Str) (st : Stmt) (ps : List Str) : Prop where
  ex : ∃ f fd, Meth K C x f ∧ L2.Fun K x q st f fd ∧ Binds K fd ps []
section
variable {X : Cx} {CX : CXT} {C : Addr} {k j : Nat} {sp : Sp} {E : XK} {x : Str} {o e : Expr} {es : List Expr} {pos apos : Pos} {ta : TE} {t : TA} {pl : Sem Bool}
theorem pe_mK0 (R : RecK X.K X.mg C) (c : MthK X.prog X.w X.K X.mg X.base CX C k x sp) (hr : Room j X.A) (hk : k ≤ j) (hx : Passes CX X E) (he : PE X o ta)
    (ht : eval (.Call (.Attribute o x apos) [] [] pos) X.env = (do
      let ov ← eval o X.env
      standAt apos.atName
      let (f, first) ← holding [ov] (getMethod ov x pl)
      callWith pos f first (backTo pos (starEach [] X.env)) (backToKw pos (keywordEach [] X.env))) := by rfl) :
    PE X (.Call (.Attribute o x apos) [] [] pos) (tMeth C x sp [] E ta tNil) := by
  obtain ⟨f, fd, ps, F, m, b⟩ := c.ex
  exact pe_meth0 he R.cl m F (hr.mono hk) b .nil hx ht
end
abbrev sPlain : Stmt := inClass (top 11) 4
def spPlain (C : Addr) (n : Nat) : Sp := fun vs H Q _ => ∃ (a : Addr) (S : Addr → Prop) (fs : List (Str × T)), vs = [.ref a] ∧ Rc S C H (n + 1) (.ref a) (.fds fs) ∧ ∀ v' t' H', Tr (fun b => H b = none) H' 40 (n + 1) v' t' → Sm (n + 1) t' (.fds fs) → Srt (n + 1) t' → Same H H' → Q v' H'
def spPlainR (C : Addr) : Nat → Sp
  | 0 => spNo
  | n + 1 => spPlain C n
theorem rf_no {x : Str} (h1 : x ≠ ("_size" : Str)) (h2 : x ≠ ("_fields" : Str)) (h3 : x ≠ ("names" : Str)) (t d : Addr) (z : Int) : (rf t d z).lookup x = none := by
  unfold rf
  rw [lookup_putF, if_neg h1, lookup_putF, if_neg h2, lookup_putF, if_neg h3]
  rfl
theorem RA.exs {S : Addr → Prop} {C : Addr} {H : Hp} {a : Addr} {l : List (Str × V)} {z : Int} (r : RA S C H a l z) : RA (fun b => S b ∧ H b ≠ none) C H a l z := by
  obtain ⟨⟨dx, tp, d, ⟨s1, s2, s3⟩, e1, e2, e3⟩, n, s⟩ := r
  exact ⟨⟨dx, tp, d, ⟨⟨s1, by rw [e1]; exact fun z => by cases z⟩, ⟨s2, by rw [e2]; exact fun z => by cases z⟩, ⟨s3, by rw [e3]; exact fun z => by cases z⟩⟩, e1, e2, e3⟩, n, s⟩
theorem Rc.exs {S : Addr → Prop} {C : Addr} {H : Hp} : ∀ {n : Nat} {v : V} {t : T}, Rc S C H n v t → Rc (fun b => S b ∧ H b ≠ none) C H n v t
  | 0, _, _, h => h
  | n + 1, v, t, h => by
    rcases h with h | ⟨a, l, fs, e1, e2, e3, e4, e5, e6⟩
    · exact .inl h
    · exact .inr ⟨a, l, fs, e1, e2, e3.exs, e4, e5, fun x v u h1 h2 => Rc.exs (e6 x v u h1 h2)⟩
section
variable {P : Program} {w : World} {K : PySem.W.Frag} {mg : Str → Option Value} {base : Heap} {C : Addr}
theorem scPlain : FnScope ["self", "told", "name", "value"] ["self"] (defScope sPlain) := ⟨rfl, rfl, rfl, by decide +kernel, rfl, by decide +kernel, by decide +kernel⟩
theorem m_plain_step (T : Bu mg) (R : RecK K mg C) (D : DfK K C "plain" "Record.plain" sPlain ["self"]) (n : Nat) (c_plain : MthK P w K mg base CX0 C (n + 1) "plain" (spPlainR C n)) : MthK P w K mg base CX0 C (n + 2) "plain" (spPlain C n) := by
  obtain ⟨g, fd, mD, F, bD⟩ := D.ex
  refine ⟨g, fd, _, F.ok scPlain (fun vs H Q E h => ?_) (fun cdv A outer s H vs Q E hr h => ?_), mD, bD⟩
  · obtain ⟨a, S, fs, rfl, _⟩ := h
    rfl
  · obtain ⟨a, S, fs, rfl, rc, q⟩ := h
    have hu := hu_of hr
    refine ⟨_, (pss_cons (ps_set (i := 1) scPlain.nd rfl (Or.inl rfl) pe_dnewK)
      (pss_cons (ps_lock (ps_for PassesOwn.never rfl (pi_items (pe_fld (pv 0) rfl)) (pg_tup rfl (pgs_cons (pg_name (i := 2) scPlain.nd rfl (Or.inl rfl)) (pgs_cons (pg_name (i := 3) scPlain.nd rfl (Or.inl rfl)) pgs_nil)))
      (pss_one (ps_dput hu (pv 1) (pv 2) (pe_ifExp (pt_val (pe_callB call_isi (by rfl) T.b_isinstance bo_isinstance (pa_cons (pv 3) (pa_cons (pe_glob (by rfl) R.mgC (v := .ref C) rfl) pa_nil)))) (pe_mK0 R c_plain hr (by omega) pass0 (pv 3)) (pv 3)) rfl))))
      (pss_one (ps_ret (pv 1))))), ?_⟩
    refine rc.cases (fun i e _ => by cases e) (fun k a' l fs' en e1 e2 ra wf pm ch => ?_)
    cases en
    cases e1
    cases e2
    obtain ⟨⟨dx, tp, d, _, ea, et, ed⟩, nl, so⟩ := ra
    have ll : l.length = fs.length := by
      have := pm.length_eq
      rwa [List.length_map, List.length_map] at this
    have hfl : fs.length ≤ 40 := wf.ln
    intro M hM
    have s1 : Same H (upd H M (.dK [])) := Same.new (Same.refl _) hM
    have dM : d ≠ M := ne_of_none ed hM
    have ea1 := s1 _ _ ea
    have ed1 := s1 _ _ ed
    have eM1 : (upd H M (.dK [])) M = some (.dK (dk [])) := upd_same
    have ch1 : ∀ x v u, look x l = some v → look x fs = some u → Rc (fun b => S b ∧ H b ≠ none) C (upd H M (.dK [])) n v u := fun x v u h1 h2 => (ch x v u h1 h2).exs.same s1
    generalize upd H M (.dK []) = H1 at s1 ea1 ed1 eM1 ch1 ⊢
    refine ⟨d, .dK (dk l), ed1, True.intro, fun od => ?_⟩
    have ad : a ≠ d := fun z => by
      rw [z, ed] at ea
      cases ea
    have chB : ∀ x v u, look x l = some v → look x fs = some u → Rc (fun b => S b ∧ H b ≠ none) C (upd H1 d (.frz od (.dK (dk l)))) n v u := fun x v u h1 h2 =>
      Rc.away (z := nfs fs) ed1 (fun gs ng pg cg => (nfs_one wf.nd pm pg (fun x v u h1 h2 => (ch1 x v u h1 h2).sz) cg).symm) _ (ch1 x v u h1 h2) (nf_child h2)
    have eaB : (upd H1 d (.frz od (.dK (dk l)))) a = some (.ins C dx (rf tp d (nfs fs))) := by
      rw [upd_ne ad]
      exact ea1
    have eMB : (upd H1 d (.frz od (.dK (dk l)))) M = some (.dK (dk [])) := by
      rw [upd_ne dM.symm]
      exact eM1
    have edB : (upd H1 d (.frz od (.dK (dk l)))) d = some (.frz od (.dK (dk l))) := upd_same
    have nB : ∀ b, (upd H1 d (.frz od (.dK (dk l)))) b = none → H b = none := fun b hb => by
      by_cases z : b = d
      · rw [z, upd_same] at hb
        cases hb
      · rw [upd_ne z] at hb
        exact s1.free hb
    have sU0 : ∀ H', Fx M (upd H1 d (.frz od (.dK (dk l)))) H' → Same H (upd H' d (.dK (dk l))) := fun H' x b o e => by
      by_cases z : b = d
      · rw [z, upd_same, ← ed, ← z, e]
      · rw [upd_ne z]
        exact x b o (fun y => by rw [y, hM] at e; cases e) (by rw [upd_ne z]; exact s1 _ _ e)
    generalize upd H1 d (.frz od (.dK (dk l))) = B at chB eaB eMB edB nB sU0 ⊢
    refine ⟨_, rfl, a, C, dx, _, _, rfl, eaB, R.cl, R.nF, rf_fields _ _ _, d, od, dk l, rfl, edB, for_it walk_items (fun i σ H' => ∃ (nv vv : Option V) (lm : List (Str × V)) (fm : List (Str × GrT.T)), σ = [some (.ref a), some (.ref M), nv, vv] ∧ H' M = some (.dK (dk lm)) ∧
        Al (Tr (fun b => H b = none ∧ b ≠ M) H' 40 n) lm fm ∧ names fm = (names l).take i ∧ (∀ x v w, look x fm = some v → look x fs = some w → GrT.Sm n v w ∧ Srt n v) ∧ Fx M B H')
      ⟨none, none, [], [], rfl, eMB, .nil, rfl, (fun x v w h => by cases h), Fx.refl⟩ (fun i σ H' _ h => ?_) ?_ ?_⟩
    · obtain ⟨nv, vv, lm, fm, _, _, _, _, _, h⟩ := h
      exact h _ _ dM edB
    · rintro i y σ H' H2 hi ⟨nv, vv, lm, fm, rfl, eM, ar, nm, sm, x3⟩ ⟨Tp, x1, y1, rfl, hT, rfl, hx1, hy1⟩
      have hi2 : i < l.length := by
        rw [dk_len] at hi
        exact hi
      obtain ⟨⟨x, v⟩, hx⟩ : ∃ p, l[i]? = some p := ⟨l[i], List.getElem?_eq_getElem hi2⟩
      have hd : (dk l)[i]? = some (Sum.inr x, v) := by
        unfold dk
        rw [List.getElem?_map, hx]
        rfl
      have hx2 : ((dk l)[i]?).map (fun kv => kV kv.1) = some x1 := hx1
      have hy2 : ((dk l)[i]?).map Prod.snd = some y1 := hy1
      rw [hd] at hx2 hy2
      cases hx2
      cases hy2
      have eT : (upd H' Tp (.tup [kV (Sum.inr x), v])) Tp = some (.tup [kV (Sum.inr x), v]) := upd_same
      have x4 : Fx M B (upd H' Tp (.tup [kV (Sum.inr x), v])) := x3.new hT
      have s4 : Same H' (upd H' Tp (.tup [kV (Sum.inr x), v])) := Same.new (Same.refl _) hT
      have eM4 := s4 _ _ eM
      have ar4 : Al (Tr (fun b => H b = none ∧ b ≠ M) (upd H' Tp (.tup [kV (Sum.inr x), v])) 40 n) lm fm := ar.imp fun _ _ _ z => Tr.same z s4
      generalize upd H' Tp (.tup [kV (Sum.inr x), v]) = H4 at eT x4 eM4 ar4 ⊢
      refine ⟨Tp, _, rfl, SqT.of eT, rfl, _, _, rfl, _, _, rfl, rfl, ?_⟩
      have hlx : look x l = some v := mem_look nl (List.mem_of_getElem? hx)
      obtain ⟨u, hu2⟩ := look_some (pm.mem_iff.mp (List.mem_map.mpr ⟨_, List.mem_of_getElem? hx, rfl⟩))
      have ru : Rc (fun b => S b ∧ H b ≠ none) C H4 n v u := (chB x v u hlx hu2).keep fun b o sb e r => x4 b o (fun z => sb.2 (by rw [z]; exact hM)) e
      have hno : x ∉ names fm := by
        rw [nm]
        intro hm
        obtain ⟨j, hj, ej⟩ := List.mem_take_iff_getElem.mp hm
        have e2 : (names l)[i]? = some x := by rw [List.getElem?_map, hx]; rfl
        have hi3 : i < (names l).length := (List.getElem?_eq_some_iff.mp e2).1
        have e3 : (names l)[i] = x := (List.getElem?_eq_some_iff.mp e2).2
        have := (List.getElem_inj nl).mp (ej.trans e3.symm)
        omega
      have hnol : x ∉ names lm := by
        rw [ar4.names]
        exact hno
      have ndm : (names lm).Nodup := by
        rw [ar4.names, nm]
        exact List.Nodup.sublist (List.take_sublist _ _) nl
      have hml : (dk lm).length < sizeLine := by
        have : fm.length = (names fm).length := (List.length_map _).symm
        rw [dk_len, ar4.len, this, nm, List.length_take, List.length_map]
        exact Nat.lt_of_lt_of_le (by omega : min i l.length < 100) (line_big (by decide))
      have fin : ∀ (v' : V) (t' : GrT.T) (H6 : Hp), Tr (fun b => H b = none ∧ b ≠ M) H6 40 n v' t' → GrT.Sm n t' u → Srt n t' → Same H4 H6 → ∃ H7, DPut H6 M (.str x) v' H7 ∧ ∃ lm' fm', H7 M = some (.dK (dk lm')) ∧
          Al (Tr (fun b => H b = none ∧ b ≠ M) H7 40 n) lm' fm' ∧ names fm' = (names l).take (i + 1) ∧ (∀ x v w, look x fm' = some v → look x fs = some w → GrT.Sm n v w ∧ Srt n v) ∧ Fx M B H7 := by
        intro v' t' H6 r6 m6 o6 s6
        have eM6 := s6 _ _ eM4
        refine ⟨_, DPut.k (k := Sum.inr x) eM6 hml, lm ++ [(x, v')], fm ++ [(x, t')], ?_, ?_, ?_, fun z v w h1 h2 => ?_, fun b o nb e => by rw [upd_ne nb]; exact s6 _ _ (x4 b o nb e)⟩
        · rw [upd_same, dk_put x v' lm ndm, put_new hnol]
        · exact Al.snoc (ar4.imp fun _ _ _ z => (Tr.same z s6).keep fun b o sb e => by rw [upd_ne sb.2]; exact e) (r6.keep fun b o sb e => by rw [upd_ne sb.2]; exact e)
        · have e2 : (names l)[i]? = some x := by rw [List.getElem?_map, hx]; rfl
          rw [List.take_add_one, e2, ← nm]
          unfold names
          rw [List.map_append]
          rfl
        · rw [look_snoc hno] at h1
          split at h1
          · rename_i q
            cases h1
            rw [q, hu2] at h2
            cases h2
            exact ⟨m6, o6⟩
          · exact sm z v w h1 h2
      refine ru.cases (fun j e1 e2 => ?_) (fun k ca cl cfs en e1 e2 cra cwf cpm cch => ?_)
      · subst e1 e2
        obtain ⟨H7, dp, lm', fm', g⟩ := fin (.int j) (.int j) H4 (Tr.int j) (Sm.int j) (by
          cases n with
          | zero => exact True.intro
          | succ n => exact fun fs e => by cases e) (Same.refl _)
        exact ⟨_, rfl, _, _, _, _, _, rfl, .own C, .base (.int j), R.kI, _, rfl, iteF ⟨_, rfl, _, rfl, _, rfl, M, H7, rfl, dp, _, _, lm', fm', rfl, g⟩⟩
      · subst en e1 e2
        obtain ⟨⟨cx, ctp, cd, _, ce, _, _⟩, _, _⟩ := id cra
        refine ⟨_, rfl, _, _, _, _, _, rfl, .own C, R.ty ce, R.kRC, _, rfl, iteT ⟨_, rfl, ca, cx, _, rfl, ce, rf_no (by decide) (by decide) (by decide) _ _ _, ca, _, cfs, rfl, ru, fun v' t' H6 r6 m6 o6 s6 => ?_⟩⟩
        obtain ⟨H7, dp, lm', fm', g⟩ := fin v' t' H6 (r6.wid fun b hb => by
          refine ⟨?_, fun z => by rw [z, eM4] at hb; cases hb⟩
          cases e : B b with
          | none => exact nB b e
          | some o =>
            by_cases q : b = M
            · rw [q]
              exact hM
            · have := x4 b o q e
              rw [hb] at this
              cases this) m6 o6 s6
        exact ⟨_, rfl, _, rfl, M, H7, rfl, dp, _, _, lm', fm', rfl, g⟩
    · rintro σ H' ⟨nv, vv, lm, fm, rfl, eM, ar, nm, sm, x3⟩
      have edL : H' d = some (.frz od (.dK (dk l))) := x3 _ _ dM edB
      refine ⟨edL, ?_⟩
      have sU := sU0 H' x3
      have eMU : (upd H' d (.dK (dk l))) M = some (.dK (dk lm)) := by
        rw [upd_ne dM.symm]
        exact eM
      have arU : Al (Tr (fun b => H b = none ∧ b ≠ M) (upd H' d (.dK (dk l))) 40 n) lm fm := ar.imp fun _ _ _ z => z.keep fun b kvs sb e => by
        rw [upd_ne (fun y => by rw [y, ed] at sb; cases sb.1)]
        exact e
      rw [dk_len, List.take_of_length_le (by rw [List.length_map]; exact Nat.le_refl _)] at nm
      have nfm : (names fm).Nodup := by
        rw [nm]
        exact nl
      have lfm : fm.length = fs.length := by
        have : (names fm).length = (names l).length := by rw [nm]
        rw [List.length_map, List.length_map] at this
        omega
      refine ⟨_, rfl, q (.ref M) (.fds fm) _ (.inr ⟨M, lm, fm, rfl, rfl, hM, eMU, ⟨nfm, by omega, fun p hp => ?_⟩, arU.imp fun _ _ _ z => z.wid fun b hb => hb.1⟩) (.inr ⟨fm, fs, rfl, rfl, nfm, by rw [nm]; exact pm, fun x v w h1 h2 => (sm x v w h1 h2).1⟩) (fun f e => ?_) sU⟩
      · obtain ⟨p', hp', e⟩ := List.mem_map.mp (pm.mem_iff.mp (by rw [← nm]; exact List.mem_map.mpr ⟨p, hp, rfl⟩))
        rw [← e]
        exact wf.gd p' hp'
      · cases e
        refine ⟨by rw [nm]; exact so, fun x v h => ?_⟩
        obtain ⟨w', hw'⟩ := look_some (x := x) (l := fs) (pm.mem_iff.mp (by rw [← nm]; exact List.mem_map.mpr ⟨_, look_mem h, rfl⟩))
        exact (sm x v w' h hw').2
end
end Lw
namespace Lw
open PySem PySem.Spec PyProof.Rows L2 GrT GrOwn
/-- v is t: made of dicts (in S) and of records (in R) -/
def Mx (S R : Addr → Prop) (C : Addr) (H : Hp) : Nat → V → T → Prop
  | 0, v, t => ∃ i, v = .int i ∧ t = .int i
  | n + 1, v, t => (∃ i, v = .int i ∧ t = .int i) ∨ (∃ a l fs, v = .ref a ∧ t = .fds fs ∧ S a ∧ H a = some (.dK (dk l)) ∧ Wf 40 fs ∧ Al (Mx S R C H n) l fs) ∨ Rc R C H (n + 1) v t
theorem nf_mem {p : Str × T} : ∀ {fs : List (Str × T)}, p ∈ fs → nf p.2 < nfs fs
  | [], h => by cases h
  | (y, t) :: r, h => by
    have h1 := nf_nn t
    have h2 := nfs_nn r
    rw [nfs]
    rcases List.mem_cons.mp h with e | e
    · subst e
      show nf t < _
      omega
    · have := nf_mem e
      omega
theorem al_nfs {R1 R2 : V → T → Prop} (f : ∀ v t t', R1 v t → R2 v t' → nf t = nf t') : ∀ {l : List (Str × V)} {fs gs : List (Str × T)}, Al R1 l fs → Al R2 l gs → nfs fs = nfs gs
  | _, _, _, .nil, .nil => rfl
  | _, _, _, .cons (b := (x, t)) r h, .cons (b := (y, u)) r' h' => by
    rw [nfs, nfs, al_nfs f h h', f _ _ _ r.2 r'.2]
section
variable {S S' R R' : Addr → Prop} {C : Addr} {H H' : Hp}
theorem Rc.out' {n : Nat} {a : Addr} {fs : List (Str × T)} (h : Rc S C H (n + 1) (.ref a) (.fds fs)) : ∃ l, RA S C H a l (nfs fs) ∧ Wf 40 fs ∧ (names l).Perm (names fs) ∧ ∀ x v u, look x l = some v → look x fs = some u → Rc S C H n v u := by
  refine h.cases (fun i e _ => by cases e) fun k a' l fs' en e1 e2 ra wf pm ch => ?_
  cases en
  cases e1
  cases e2
  exact ⟨l, ra, wf, pm, ch⟩
theorem Mx.int {n : Nat} (i : Int) : Mx S R C H n (.int i) (.int i) := by
  cases n with
  | zero => exact ⟨i, rfl, rfl⟩
  | succ n => exact .inl ⟨i, rfl, rfl⟩
theorem Mx.cases {n : Nat} {v : V} {t : T} {P : Prop} (h : Mx S R C H n v t) (h1 : ∀ i, v = .int i → t = .int i → P)
    (h2 : ∀ k a l fs, n = k + 1 → v = .ref a → t = .fds fs → S a → H a = some (.dK (dk l)) → Wf 40 fs → Al (Mx S R C H k) l fs → P)
    (h3 : ∀ k a fs, n = k + 1 → v = .ref a → t = .fds fs → Rc R C H (k + 1) (.ref a) (.fds fs) → P) : P := by
  cases n with
  | zero =>
    obtain ⟨i, e1, e2⟩ := h
    exact h1 i e1 e2
  | succ k =>
    rcases h with ⟨i, e1, e2⟩ | ⟨a, l, fs, e1, e2, e3, e4, e5, e6⟩ | r
    · exact h1 i e1 e2
    · exact h2 k a l fs rfl e1 e2 e3 e4 e5 e6
    · refine id r |>.cases h1 fun k' a l fs en e1 e2 _ _ _ _ => ?_
      rw [e1, e2] at r
      exact h3 k a fs rfl e1 e2 r
theorem Mx.nf_one : ∀ {n m : Nat} {v : V} {t t' : T}, Mx S R C H n v t → Mx S R C H m v t' → nf t = nf t'
  | n, m, v, t, t', h, g => by
    induction n generalizing m v t t' with
    | zero =>
      obtain ⟨i, e1, e2⟩ := h
      refine g.cases (fun j f1 f2 => ?_) (fun _ _ _ _ _ f1 => by rw [e1] at f1; cases f1) (fun _ _ _ _ f1 => by rw [e1] at f1; cases f1)
      rw [e2, f2, nf, nf]
    | succ n ih =>
      refine h.cases (fun i e1 e2 => ?_) (fun k a l fs en e1 e2 _ ea _ al => ?_) (fun k a fs en e1 e2 r => ?_)
      · refine g.cases (fun j f1 f2 => ?_) (fun _ _ _ _ _ f1 => by rw [e1] at f1; cases f1) (fun _ _ _ _ f1 => by rw [e1] at f1; cases f1)
        rw [e2, f2, nf, nf]
      · cases en
        refine g.cases (fun j f1 f2 => by rw [e1] at f1; cases f1) (fun k' b m' gs _ f1 f2 _ eb _ ag => ?_) (fun k' b gs _ f1 f2 r' => ?_)
        · rw [e1] at f1
          cases f1
          rw [ea] at eb
          have hl : l = m' := dk_inj (HO.dK.inj (Option.some.inj eb))
          subst hl
          rw [e2, f2, nf, nf]
          exact al_nfs (fun v t t' h1 h2 => ih _ v t t' h1 h2) al ag
        · rw [e1] at f1
          cases f1
          obtain ⟨_, ⟨⟨_, _, _, _, q, _⟩, _, _⟩, _⟩ := Rc.out' r'
          rw [ea] at q
          cases q
      · cases en
        refine g.cases (fun j f1 f2 => by rw [e1] at f1; cases f1) (fun k' b m' gs _ f1 f2 _ eb _ ag => ?_) (fun k' b gs _ f1 f2 r' => ?_)
        · rw [e1] at f1
          cases f1
          obtain ⟨_, ⟨⟨_, _, _, _, q, _⟩, _, _⟩, _⟩ := Rc.out' r
          rw [eb] at q
          cases q
        · rw [e1] at f1
          cases f1
          rw [e2, f2]
          exact r.sz.one r'.sz
theorem mx_nfs {n m : Nat} {l : List (Str × V)} {fs gs : List (Str × T)} (h : Al (Mx S R C H n) l fs) (g : Al (Mx S R C H m) l gs) : nfs fs = nfs gs := al_nfs (fun _ _ _ a b => a.nf_one b) h g
theorem Mx.keep : ∀ {n : Nat} {v : V} {t : T}, Mx S R C H n v t → (∀ b o, S b ∨ R b → H b = some o → Ro o → H' b = some o) → Mx S R C H' n v t
  | 0, _, _, h, _ => h
  | n + 1, v, t, h, k => by
    rcases h with h | ⟨a, l, fs, e1, e2, es, e3, e4, e5⟩ | r
    · exact .inl h
    · exact .inr (.inl ⟨a, l, fs, e1, e2, es, k _ _ (.inl es) e3 True.intro, e4, e5.imp fun _ _ _ z => Mx.keep z k⟩)
    · exact .inr (.inr (r.keep fun b o rb e q => k b o (.inr rb) e q))
theorem Mx.same {n : Nat} {v : V} {t : T} (h : Mx S R C H n v t) (s : Same H H') : Mx S R C H' n v t := h.keep fun b o _ e _ => s b o e
theorem Mx.wid : ∀ {n : Nat} {v : V} {t : T}, Mx S R C H n v t → (∀ b, S b → S' b) → (∀ b, R b → R' b) → Mx S' R' C H n v t
  | 0, _, _, h, _, _ => h
  | n + 1, v, t, h, k, k' => by
    rcases h with h | ⟨a, l, fs, e1, e2, es, e3, e4, e5⟩ | r
    · exact .inl h
    · exact .inr (.inl ⟨a, l, fs, e1, e2, k _ es, e3, e4, e5.imp fun _ _ _ z => Mx.wid z k k'⟩)
    · exact .inr (.inr (r.wid k'))
theorem Mx.exs : ∀ {n : Nat} {v : V} {t : T}, Mx S R C H n v t → Mx (fun b => S b ∧ H b ≠ none) (fun b => R b ∧ H b ≠ none) C H n v t
  | 0, _, _, h => h
  | n + 1, v, t, h => by
    rcases h with h | ⟨a, l, fs, e1, e2, es, e3, e4, e5⟩ | r
    · exact .inl h
    · exact .inr (.inl ⟨a, l, fs, e1, e2, ⟨es, by rw [e3]; exact fun z => by cases z⟩, e3, e4, e5.imp fun _ _ _ z => Mx.exs z⟩)
    · exact .inr (.inr r.exs)
theorem Mx.away {a : Addr} {l : List (Str × V)} {z : Int} (dj : ∀ b, S b → ¬ R b) (sa : S a) (ea : H a = some (.dK (dk l))) (hz : ∀ m fs, Al (Mx S R C H m) l fs → nfs fs = z) (o : HO) : ∀ {n : Nat} {v : V} {t : T}, Mx S R C H n v t → nf t < z → Mx S R C (upd H a o) n v t
  | 0, _, _, h, _ => h
  | n + 1, v, t, h, hs => by
    rcases h with h | ⟨b, m, fs, e1, e2, es, e3, e4, e5⟩ | r
    · exact .inl h
    · rw [e2, nf] at hs
      have hb : b ≠ a := fun q => by
        rw [q, ea] at e3
        have hl : l = m := dk_inj (HO.dK.inj (Option.some.inj e3))
        subst hl
        have := hz _ _ e5
        omega
      refine .inr (.inl ⟨b, m, fs, e1, e2, es, by rw [upd_ne hb]; exact e3, e4, e5.imp fun p hp _ y => Mx.away dj sa ea hz o y ?_⟩)
      have := nf_mem hp
      omega
    · exact .inr (.inr (r.keep fun b o' rb e _ => by rw [upd_ne (fun q => dj a sa (by rw [← q]; exact rb))]; exact e))
end
def spMakeM (C : Addr) (n : Nat) : Sp := fun vs H Q _ => ∃ (a : Addr) (S R : Addr → Prop) (l : List (Str × V)) (fs : List (Str × T)), vs = [.ref a] ∧ S a ∧ H a = some (.dK (dk l)) ∧ Wf 40 fs ∧ Al (Mx S R C H n) l fs ∧ (∀ b, S b → ¬ R b) ∧
  ∀ v' H', Rc (fun b => R b ∨ H b = none) C H' (n + 1) v' (.fds fs) → Same H H' → Q v' H'
def spMakeMR (C : Addr) : Nat → Sp
  | 0 => spNo
  | n + 1 => spMakeM C n
section
variable {P : Program} {w : World} {K : PySem.W.Frag} {mg : Str → Option Value} {base : Heap} {C : Addr}
theorem fn_makeM_step (T : Bu mg) (R : RecK K mg C) {pD g : Addr} {fd : FuncData} (mD : SMet K C (.type "type") "make" pD g) (F : L2.Fun K "make" "Record.make" sMake g fd) (bD : Binds K fd ["fields"] []) (I : InK K C) (c_value_size : Cal P w K mg base 3 "value_size" (spVs C)) (c_is_name : Cal P w K mg base 1 "is_name" spIsName) (n : Nat)
    (c_make : SCal P w K mg base C (n + 5) (spMakeMR C n)) : FnOk P w K mg base CX0 (n + 6) g fd ["fields"] (spMakeM C n) := by
  refine F.ok scMake (fun vs H Q E h => ?_) (fun cdv A outer s H vs Q E hr h => ?_)
  · obtain ⟨a, S, Rr, l, fs, rfl, _⟩ := h
    rfl
  · obtain ⟨a, S, Rr, l, fs, rfl, sa, ea, wf, al, dj, q⟩ := h
    have hu := hu_of hr
    refine ⟨_, (pss_cons (ps_set (i := 1) scMake.nd rfl (Or.inl rfl) pe_dnewK)
      (pss_cons (ps_lock (ps_for PassesOwn.never rfl (pi_items (pv 0)) (pg_tup rfl (pgs_cons (pg_name (i := 2) scMake.nd rfl (Or.inl rfl)) (pgs_cons (pg_name (i := 3) scMake.nd rfl (Or.inl rfl)) pgs_nil)))
      (pss_cons (ps_if (pt_not (pt_val (pe_c c_is_name hr (by omega) rfl (pa_cons (pv 2) pa_nil)))) (pss_one ps_no) pss_nil)
      (pss_one (ps_dput hu (pv 1) (pv 2) (pe_ifExp (pt_val (pe_callB call_isi (by rfl) T.b_isinstance bo_isinstance (pa_cons (pv 3) (pa_cons (pe_bltn (by rfl) T.b_dict bo_dict (v := .ty "dict") rfl) pa_nil)))) (pe_smC (pe_glob (by rfl) R.mgC (v := .ref C) rfl) c_make hr (by omega) (pa_cons (pv 3) pa_nil)) (pv 3)) rfl)))))
      (pss_one (ps_ret (pe_new T R c_value_size I hr (by omega) (by rfl) (pa_cons (pv 1) pa_nil)))))), ?_⟩
    intro M hM
    have aM : a ≠ M := ne_of_none ea hM
    have s1 : Same H (upd H M (.dK [])) := Same.new (Same.refl _) hM
    have ea1 := s1 _ _ ea
    have eM1 : (upd H M (.dK [])) M = some (.dK (dk [])) := upd_same
    have al0 : Al (Mx (fun b => S b ∧ H b ≠ none) (fun b => Rr b ∧ H b ≠ none) C H n) l fs := al.imp fun _ _ _ z => Mx.exs z
    have dj' : ∀ b, S b ∧ H b ≠ none → ¬ (Rr b ∧ H b ≠ none) := fun b h g => dj b h.1 g.1
    have al1 : Al (Mx (fun b => S b ∧ H b ≠ none) (fun b => Rr b ∧ H b ≠ none) C (upd H M (.dK [])) n) l fs := al0.imp fun _ _ _ z => Mx.same z s1
    have sa1 : (fun b => S b ∧ H b ≠ none) a := ⟨sa, by rw [ea]; exact fun z => by cases z⟩
    refine ⟨a, .dK (dk l), ea1, True.intro, fun od => ?_⟩
    have alB : Al (Mx (fun b => S b ∧ H b ≠ none) (fun b => Rr b ∧ H b ≠ none) C (upd (upd H M (.dK [])) a (.frz od (.dK (dk l)))) n) l fs := al1.imp fun p hp _ z => Mx.away (z := nfs fs) dj' sa1 ea1 (fun m gs g => mx_nfs g al1) _ z (nf_mem hp)
    have eMB : (upd (upd H M (.dK [])) a (.frz od (.dK (dk l)))) M = some (.dK (dk [])) := by
      rw [upd_ne aM.symm]
      exact eM1
    have eaB : (upd (upd H M (.dK [])) a (.frz od (.dK (dk l)))) a = some (.frz od (.dK (dk l))) := upd_same
    have sB : ∀ b o, H b = some o → b ≠ a → (upd (upd H M (.dK [])) a (.frz od (.dK (dk l)))) b = some o := fun b o e nb => by
      rw [upd_ne nb]
      exact s1 b o e
    generalize upd (upd H M (.dK [])) a (.frz od (.dK (dk l))) = B at alB eMB eaB sB ⊢
    have hfl : fs.length ≤ 40 := wf.ln
    refine ⟨_, rfl, a, od, dk l, rfl, eaB, for_it walk_items (fun i σ H' => ∃ (nv vv : Option V) (lm : List (Str × V)), σ = [some (.ref a), some (.ref M), nv, vv] ∧ H' M = some (.dK (dk lm)) ∧ Al (Rc (fun b => (Rr b ∨ H b = none) ∧ b ≠ M) C H' n) lm (fs.take i) ∧ Fx M B H')
      ⟨none, none, [], rfl, eMB, .nil, Fx.refl⟩ ?_ ?_ ?_⟩
    · rintro i σ H' _ ⟨nv, vv, lm, _, _, _, x3⟩
      exact x3 _ _ aM eaB
    · rintro i x σ H' H2 hi ⟨nv, vv, lm, rfl, eM, ar, x3⟩ ⟨Tp, x1, y1, rfl, hT, rfl, hx1, hy1⟩
      have hi2 : i < l.length := by
        rw [dk_len] at hi
        exact hi
      obtain ⟨⟨x, v⟩, hx⟩ : ∃ p, l[i]? = some p := ⟨l[i], List.getElem?_eq_getElem hi2⟩
      have hd : (dk l)[i]? = some (Sum.inr x, v) := by
        unfold dk
        rw [List.getElem?_map, hx]
        rfl
      have hx2 : ((dk l)[i]?).map (fun kv => kV kv.1) = some x1 := hx1
      have hy2 : ((dk l)[i]?).map Prod.snd = some y1 := hy1
      rw [hd] at hx2 hy2
      cases hx2
      cases hy2
      obtain ⟨u, hu2, ru⟩ := Lw.Al.at alB hx
      have eT : (upd H' Tp (.tup [kV (Sum.inr x), v])) Tp = some (.tup [kV (Sum.inr x), v]) := upd_same
      have x4 : Fx M B (upd H' Tp (.tup [kV (Sum.inr x), v])) := x3.new hT
      have eM4 : (upd H' Tp (.tup [kV (Sum.inr x), v])) M = some (.dK (dk lm)) := by
        rw [upd_ne (ne_of_none eM hT)]
        exact eM
      have ar4 : Al (Rc (fun b => (Rr b ∨ H b = none) ∧ b ≠ M) C (upd H' Tp (.tup [kV (Sum.inr x), v])) n) lm (fs.take i) := ar.imp fun _ _ _ z => z.same (Same.new (Same.refl _) hT)
      generalize upd H' Tp (.tup [kV (Sum.inr x), v]) = H4 at eT x4 eM4 ar4 ⊢
      have gx : Good x := wf.gd (x, u) (List.mem_of_getElem? hu2)
      refine ⟨Tp, _, rfl, SqT.of eT, rfl, _, _, rfl, _, _, rfl, rfl, ?_⟩
      refine ⟨_, rfl, x, rfl, gx, fun H5 s5 => ⟨_, rfl, iteF ?_⟩⟩
      have x5 : Fx M B H5 := fun b o nb e => s5 _ _ (x4 b o nb e)
      have eM5 := s5 _ _ eM4
      have ar5 : Al (Rc (fun b => (Rr b ∨ H b = none) ∧ b ≠ M) C H5 n) lm (fs.take i) := ar4.imp fun _ _ _ z => z.same s5
      have ru5 : Mx (fun b => S b ∧ H b ≠ none) (fun b => Rr b ∧ H b ≠ none) C H5 n v u := ru.keep fun b o sb e r => x5 b _ (fun z => sb.elim (fun h => h.2 (by rw [z]; exact hM)) fun h => h.2 (by rw [z]; exact hM)) e
      have hno : x ∉ names lm := by
        rw [ar5.names]
        intro hm
        have e1 : names (fs.take i) = (names fs).take i := by simp [names, List.map_take]
        rw [e1] at hm
        obtain ⟨j, hj, ej⟩ := List.mem_take_iff_getElem.mp hm
        have e2 : (names fs)[i]? = some x := by rw [List.getElem?_map, hu2]; rfl
        have hi3 : i < (names fs).length := (List.getElem?_eq_some_iff.mp e2).1
        have e3 : (names fs)[i] = x := (List.getElem?_eq_some_iff.mp e2).2
        have := (List.getElem_inj wf.nd).mp (ej.trans e3.symm)
        omega
      have ndm : (names lm).Nodup := by
        rw [ar5.names]
        have e1 : names (fs.take i) = (names fs).take i := by simp [names, List.map_take]
        rw [e1]
        exact List.Nodup.sublist (List.take_sublist _ _) wf.nd
      have hml : (dk lm).length < sizeLine := by
        rw [dk_len, ar5.len, List.length_take]
        exact Nat.lt_of_lt_of_le (by omega : min i fs.length < 100) (line_big (by decide))
      have fin : ∀ (v' : V) (H6 : Hp), Rc (fun b => (Rr b ∨ H b = none) ∧ b ≠ M) C H6 n v' u → Same H5 H6 → ∃ H7, DPut H6 M (.str x) v' H7 ∧ ∃ lm', H7 M = some (.dK (dk lm')) ∧ Al (Rc (fun b => (Rr b ∨ H b = none) ∧ b ≠ M) C H7 n) lm' (fs.take (i + 1)) ∧ Fx M B H7 := by
        intro v' H6 r6 s6
        have eM6 := s6 _ _ eM5
        refine ⟨_, DPut.k (k := Sum.inr x) eM6 hml, lm ++ [(x, v')], ?_, ?_, fun b o nb e => by rw [upd_ne nb]; exact s6 _ _ (x5 b o nb e)⟩
        · rw [upd_same, dk_put x v' lm ndm, put_new hno]
        · rw [List.take_add_one, hu2]
          exact Al.snoc (ar5.imp fun _ _ _ z => (z.same s6).keep fun b o sb e _ => by rw [upd_ne sb.2]; exact e) (r6.keep fun b o sb e _ => by rw [upd_ne sb.2]; exact e)
      have nH : ∀ b, H5 b = none → H b = none ∧ b ≠ M := fun b hb => by
        refine ⟨?_, fun z => by rw [z, eM5] at hb; cases hb⟩
        cases e : H b with
        | none => rfl
        | some o =>
          by_cases q : b = a
          · have h2 := x5 _ _ aM eaB
            rw [q, h2] at hb
            cases hb
          · have h2 := x5 b o (fun z => by rw [z, hM] at e; cases e) (sB b o e q)
            rw [h2] at hb
            cases hb
      refine ru5.cases (fun j e1 e2 => ?_) (fun k ca cl cfs en e1 e2 cs ce cw cal => ?_) (fun k ca cfs en e1 e2 crc => ?_)
      · subst e1 e2
        obtain ⟨H7, dp, lm', g1, g2, g3⟩ := fin (.int j) H5 (Rc.int j) (Same.refl _)
        exact ⟨_, rfl, _, _, _, _, _, rfl, .ty _, .base (.int j), rfl, _, rfl, iteF ⟨_, rfl, _, rfl, _, rfl, M, H7, rfl, dp, _, _, lm', rfl, g1, g2, g3⟩⟩
      · subst en e1 e2
        refine ⟨_, rfl, _, _, _, _, _, rfl, .ty _, .base (.dK ce), rfl, _, rfl, iteT ⟨rfl, _, rfl, ca, _, _, cl, cfs, rfl, cs, ce, cw, cal, dj', fun v' H6 r6 s6 => ?_⟩⟩
        obtain ⟨H7, dp, lm', g1, g2, g3⟩ := fin v' H6 (r6.wid fun b hb => hb.elim (fun h => ⟨.inl h.1, fun z => h.2 (by rw [z]; exact hM)⟩) fun h => ⟨.inr (nH b h).1, (nH b h).2⟩) s6
        exact ⟨_, rfl, _, rfl, M, H7, rfl, dp, _, _, lm', rfl, g1, g2, g3⟩
      · subst en e1 e2
        obtain ⟨cl', ⟨⟨cx, ctp, cd, _, ce, _, _⟩, _, _⟩, _⟩ := Rc.out' crc
        obtain ⟨H7, dp, lm', g1, g2, g3⟩ := fin (.ref ca) H5 (crc.wid fun b h => ⟨.inl h.1, fun z => h.2 (by rw [z]; exact hM)⟩) (Same.refl _)
        exact ⟨_, rfl, _, _, _, _, _, rfl, .ty _, R.ty ce, R.kRD, _, rfl, iteF ⟨_, rfl, _, rfl, _, rfl, M, H7, rfl, dp, _, _, lm', rfl, g1, g2, g3⟩⟩
    · rintro σ H' ⟨nv, vv, lm, rfl, eM, ar, x3⟩
      have ell : (dk l).length = fs.length := by rw [dk_len, al.len]
      rw [ell, List.take_length] at ar
      have eaL : H' a = some (.frz od (.dK (dk l))) := x3 _ _ aM eaB
      refine ⟨eaL, ?_⟩
      have sU : Same H (upd H' a (.dK (dk l))) := fun b o e => by
        by_cases z : b = a
        · rw [z, upd_same, ← ea, ← z, e]
        · rw [upd_ne z]
          exact x3 b o (fun y => by rw [y, hM] at e; cases e) (sB b o e z)
      have arU : Al (Rc (fun b => (Rr b ∨ H b = none) ∧ b ≠ M) C (upd H' a (.dK (dk l))) n) lm fs := ar.imp fun _ _ _ z => z.keep fun b o sb e _ => by
        rw [upd_ne (fun y => sb.1.elim (fun h => dj a sa (by rw [← y]; exact h)) fun h => by rw [y, ea] at h; cases h)]
        exact e
      have eMU : (upd H' a (.dK (dk l))) M = some (.dK (dk lm)) := by
        rw [upd_ne aM.symm]
        exact eM
      generalize upd H' a (.dK (dk l)) = HU at sU arU eMU ⊢
      have hnm : names lm = names fs := arU.names
      refine ⟨_, rfl, fun x dx hx hdx hne => ?_⟩
      have eX : (upd (upd HU dx (.own x)) x (.ins C dx [])) x = some (.ins C dx []) := upd_same
      have sX : Same HU (upd (upd HU dx (.own x)) x (.ins C dx [])) := Same.new (Same.new (Same.refl _) hdx) (by rw [upd_ne hne.symm]; exact hx)
      have nX : ∀ b, (upd (upd HU dx (.own x)) x (.ins C dx [])) b = none → HU b = none := fun b h => sX.free h
      generalize upd (upd HU dx (.own x)) x (.ins C dx []) = HX at eX sX nX ⊢
      have arX : Al (Rc (fun b => (Rr b ∨ H b = none) ∧ b ≠ M) C HX n) lm fs := arU.imp fun _ _ _ z => z.same sX
      refine ⟨x, dx, M, lm, szf fs, rfl, eX, sX _ _ eMU, by rw [hnm]; exact wf.nd, by rw [arX.len]; exact hfl, fun y v hv => ?_, fun l' H'' ra pm lk fx => ?_⟩
      · obtain ⟨u, hu2, ru⟩ := arX.get' hv
        have := Rc.sz ru
        unfold szf
        rw [hu2]
        exact this
      · refine ⟨rfl, q _ _ (.inr ⟨x, l', fs, rfl, rfl, ?_, wf, by rw [← hnm]; exact pm, fun y v u h1 h2 => ?_⟩) fun b o e => ?_⟩
        · have ez : (lm.length : Int) + ((names lm).map (szf fs)).sum = nfs fs := by
            rw [hnm, arX.len]
            exact nfs_len wf.nd
          rw [ez] at ra
          refine ra.wid fun b hb => ?_
          rcases hb with e | e
          · rw [e]
            exact .inr (sU.free hx)
          · exact .inr (sU.free (nX b e))
        · rw [lk] at h1
          obtain ⟨u', h3, r3⟩ := arU.get' h1
          have e : u' = u := Option.some.inj (h3.symm.trans h2)
          subst e
          exact (r3.keep fun b o sb e _ => fx b o (fun z => by rw [z, hx] at e; cases e) (sX _ _ e)).wid fun b hb => hb.1
        · exact fx b o (fun z => by rw [z, sU.free hx] at e; cases e) (sX _ _ (sU _ _ e))
theorem s_makeM_step (T : Bu mg) (R : RecK K mg C) (D : StK K C) (I : InK K C) (c_value_size : Cal P w K mg base 3 "value_size" (spVs C)) (c_is_name : Cal P w K mg base 1 "is_name" spIsName) (n : Nat)
    (c_make : SCal P w K mg base C (n + 5) (spMakeMR C n)) : SCal P w K mg base C (n + 6) (spMakeM C n) := by
  obtain ⟨pD, g, fd, mD, F, bD⟩ := D.ex
  exact ⟨pD, g, fd, _, mD, fn_makeM_step T R mD F bD I c_value_size c_is_name n c_make, bD⟩
theorem fn_makeM {pD g : Addr} {fd : FuncData} (T : Bu mg) (R : RecK K mg C) (mD : SMet K C (.type "type") "make" pD g) (F : L2.Fun K "make" "Record.make" sMake g fd) (bD : Binds K fd ["fields"] []) (I : InK K C) (c_value_size : Cal P w K mg base 3 "value_size" (spVs C)) (c_is_name : Cal P w K mg base 1 "is_name" spIsName) : ∀ n, FnOk P w K mg base CX0 (n + 6) g fd ["fields"] (spMakeM C n)
  | 0 => fn_makeM_step T R mD F bD I c_value_size c_is_name 0 (s_no ⟨pD, g, fd, mD, F, bD⟩)
  | n + 1 => fn_makeM_step T R mD F bD I c_value_size c_is_name (n + 1) ⟨pD, g, fd, _, mD, fn_makeM T R mD F bD I c_value_size c_is_name n, bD⟩
end
section
variable {P : Program} {w : World} {K : PySem.W.Frag} {mg : Str → Option Value} {base : Heap} {C : Addr}
theorem s_makeM (T : Bu mg) (R : RecK K mg C) (D : StK K C) (I : InK K C) (c_value_size : Cal P w K mg base 3 "value_size" (spVs C)) (c_is_name : Cal P w K mg base 1 "is_name" spIsName) : ∀ n, SCal P w K mg base C (n + 6) (spMakeM C n)
  | 0 => s_makeM_step T R D I c_value_size c_is_name 0 (s_no D)
  | n + 1 => s_makeM_step T R D I c_value_size c_is_name (n + 1) (s_makeM T R D I c_value_size c_is_name n)
end
end Lw
namespace Lw
open PySem PySem.Spec PyProof.Rows L2 GrT GrOwn
abbrev sPick : Stmt := top 20
def spPick : Sp := fun vs H Q _ => ∃ (p P : Addr) (ps : List Str), vs = [.ref p, .ref P] ∧ Tape H p ∧ P ≠ p ∧ H P = some (.lst (ps.map V.str)) ∧ 0 < ps.length ∧ ps.length ≤ 64 ∧ ∀ x H', x ∈ ps → Fx p H H' → Tape H' p → Q (.str x) H'
section
variable {P : Program} {w : World} {K : PySem.W.Frag} {mg : Str → Option Value} {base : Heap} {C : Addr}
theorem scPick : FnScope ["tape", "names"] ["tape", "names"] (defScope sPick) := ⟨rfl, rfl, rfl, by decide +kernel, rfl, by decide +kernel, by decide +kernel⟩
theorem c_pick (T : Bu mg) (D : Dfn K mg "_law_pick" sPick ["tape", "names"]) (c_law_take : Cal P w K mg base 1 "_law_take" spTake) : Cal P w K mg base 2 "_law_pick" spPick := by
  refine D.cal scPick (fun vs H Q E h => ?_) (fun f cdv A outer s H vs Q E hr h => ?_)
  · obtain ⟨p, P, ps, rfl, _⟩ := h
    rfl
  · obtain ⟨p, P, ps, rfl, tp, Pp, eP, l1, l2, q⟩ := h
    refine ⟨_, (pss_one (ps_ret (pe_ix ix_list (pv 1) (pe_op op_mod (pe_callTy call_int1 (by rfl) T.b_int (by decide +kernel) (pa_cons (pe_c c_law_take hr (by omega) rfl (pa_cons (pv 0) (pa_cons pe_int pa_nil))) pa_nil)) (pe_callB call_len_seq (by rfl) T.b_len PySem.boot_len (pa_cons (pv 1) pa_nil))) (fun _ _ => rfl)))), ?_⟩
    refine ⟨_, rfl, _, rfl, p, 720720, rfl, tp, p72, fun i H1 i0 i1 x1 t1 => ?_⟩
    have eP1 := x1 _ _ Pp eP
    obtain ⟨x, hx, hat⟩ := pick_ix (ps := ps) (z := i) l1
    exact .inl ⟨_, rfl, _, rfl, P, _, rfl, .inl (SqL.of eP1), _, _, rfl, rfl, by rw [List.length_map]; omega, P, _, _, _, rfl, rfl, SqL.of eP1, by rw [List.length_map]; exact hat, q x H1 hx x1 t1⟩
end
end Lw
/-! An own exception's __init__ that begins with super().__init__(..): its promise. -/
namespace GrEx
open PySem PySem.Spec PyProof.Rows L2 NdefX
abbrev supE (p0 p1 ap pos : Pos) (e : Expr) (es : List Expr) : Expr := .Call (.Attribute (.Call (.Name "super" p0) [] [] p1) "__init__" ap) (e :: es) [] pos
abbrev supNF (name qual : Str) (params : Arguments) (scope : Scope) (p0 p1 ap pos epos : Pos) (e : Expr) (es : List Expr) (rest : List Stmt) (cc cda : Addr) : NF := ⟨name, qual, params, .Expr (supE p0 p1 ap pos e es) epos :: rest, scope, [("__class__", cc)], cda⟩
theorem fn_sup {P : Program} {w : World} {K : PySem.W.Frag} {mg : Str → Option Value} {base : Heap} {CX : CXT} {N ps : List Str} {name qual : Str} {params : Arguments} {scope : Scope} {rest : List Stmt} {e : Expr} {es : List Expr} {p0 p1 ap pos epos : Pos}
    {f C cc cda : Addr} {oc ccl cl kV doc pm ct : Value} {od an cdd cld : Option Addr} {osl ccs csl : Array (Option Value)} {vs0 : Array Value} {file : Str} {tf : Tok} {ar : Arg} {k : Nat} {sp : Sp} {pl : Sem Bool}
    (T : OexC K C) (S : NScope N ps ["__class__"] scope)
    (lk : K.lookup f = some ⟨oc, od, .func (PySem.W.ksFn name qual params (.Expr (supE p0 p1 ap pos e es) epos :: rest) scope .none kV doc pm an (.ref cda) ct cc), osl⟩)
    (hcd : PySem.W.codeIn K (.ref cda) qual = true) (hcode : K.lookup cda = some ⟨ccl, cdd, .fields vs0, ccs⟩) (hvs : vs0[2]? = some (.str file tf)) (hfile : ((P.main.file : Str) == file) = true)
    (hcell : K.lookup cc = some ⟨cl, cld, .cell (some (.ref C)), csl⟩) (hsup : mg "super" = none) (htop : (P.main.scope.names.lookup ("super" : Str)).isSome = false)
    (hks : scope.names.lookup ("super" : Str) = some .globalImplicit) (hp : (params.posonlyargs ++ params.args).head? = some ar) (hps : ps[0]? = some ar.arg)
    (ho : PySem.W.nsIn K cStatics "thirdparty.any" = some none) (hm : PySem.W.ks_superIn K C C "__init__" = some (some (.builtin "ValueError.__init__"))) (hB : PySem.W.subIn K (.ref C) (.type "ValueError") = some true)
    (hmro : PySem.W.mroIn K C (.ref C) = some true)
    (he : ∀ L : Addr, eval (supE p0 p1 ap pos e es) (PySem.W.ksEnv qual scope L f (.ref cda) cc) = (do
      let ov ← attributeBase (.Call (.Name "super" p0) [] [] p1) "__init__" (PySem.W.ksEnv qual scope L f (.ref cda) cc) (eval (.Call (.Name "super" p0) [] [] p1) (PySem.W.ksEnv qual scope L f (.ref cda) cc))
      standAt ap.atName
      let (g, first) ← holding [ov] (getMethod ov "__init__" pl)
      callWith pos g first (backTo pos (starEach (e :: es) (PySem.W.ksEnv qual scope L f (.ref cda) cc))) []))
    (hsw : ∀ L : Addr, swapsWith (supE p0 p1 ap pos e es) none epos.line (PySem.W.ksEnv qual scope L f (.ref cda) cc) = pure false)
    (hst : ∀ L : Addr, starEach (e :: es) (PySem.W.ksEnv qual scope L f (.ref cda) cc) = (false, eval e (PySem.W.ksEnv qual scope L f (.ref cda) cc)) :: starEach es (PySem.W.ksEnv qual scope L f (.ref cda) cc))
    (hpl : ∀ L : Addr, (backTo pos (starEach es (PySem.W.ksEnv qual scope L f (.ref cda) cc))).any (·.1) = false)
    (len : ∀ vs H Q E, sp vs H Q E → vs.length = ps.length)
    (body : ∀ (A : Around) (outer : List Env) (s : Shared) (H : Hp) (vs : List V) (Q : VK) (E : XK), sp vs H Q E → ∃ a ta t, vs[0]? = some (.ref a) ∧ H a = some (exo a C none) ∧
      PA (ncx CX P w K mg base N (supNF name qual params scope p0 p1 ap pos epos e es rest cc cda) f A outer s H E) (e :: es) ta ∧
      PSs (ncx CX P w K mg base N (supNF name qual params scope p0 p1 ap pos epos e es rest cc cda) f A outer s H E) rest t ∧
      ta (startF N vs [some (.ref C)]) H fun ws H1 => ws.length ≤ 1000 ∧ H1 a = some (exo a C none) ∧ t { nx := fun _ H' => Q .non H', rt := Q } (startF N vs [some (.ref C)]) H1) :
    FnOk P w K mg base CX (k + 1) f (PySem.W.ksFn name qual params (.Expr (supE p0 p1 ap pos e es) epos :: rest) scope .none kV doc pm an (.ref cda) ct cc) ps sp := by
  refine ⟨len, fun A outer s H args us vs Q E hr e0 hb r q => ?_⟩
  have hl := len _ _ _ _ q
  have kb : ∀ b o, base.get? b = some o → s.heap.get? b = some o := fun b o z => (e0.bs b o z).1
  have KX : K.In s.heap := e0.mod.kin.keeps kb
  have lim : s.heap.NoLimit := e0.mod.nolimit.keeps kb
  obtain ⟨a, ta, t, ha0, ea, hA, hR, hq⟩ := body A outer s H vs Q E q
  refine PySem.ks_codeAny_call_defAt hr.depth (KX _ _ lk) rfl lim (PySem.W.codeRec_of KX hcd) rfl hb S.nocell (fun y hy => S.par y.1 (List.of_mem_zip hy).1) (fun h₀ hns kp => ?_) S.co S.gen S.kind
  have nop : ∀ b o, K.lookup b = some o → H b = none := fun b o z => (e0.bs b o (e0.mod.kin _ _ z)).2
  have hcl : ∀ {h : Heap}, K.In h → h.IsCell cc (some (.ref C)) := fun {h} X => ⟨_, X _ _ hcell, rfl⟩
  have cells : CellsAt [(("__class__" : Str), cc)] ["__class__"] [some (V.ref C)] s.heap H := by
    refine ⟨rfl, fun y c z => ?_, fun x y c h1 h2 => ?_, fun i y z => ?_⟩
    · have e1 : c = cc := by
        unfold List.lookup at z
        split at z
        · exact (Option.some.inj z).symm
        · cases z
      rw [e1]
      exact ⟨nop _ _ hcell, _, hcl KX⟩
    · have k : ∀ x : Str, List.lookup x [(("__class__" : Str), cc)] = some c → x = "__class__" := fun x h => by
        unfold List.lookup at h
        split at h
        · rename_i q
          exact eq_of_beq q
        · cases h
      rw [k x h1, k y h2]
    · cases i with
      | zero =>
        have e1 : y = "__class__" := (Option.some.inj z).symm
        rw [e1]
        refine ⟨cc, by rfl, fun v hv => ⟨.ref C, ?_, hcl KX⟩⟩
        have e2 : v = V.ref C := (Option.some.inj (Option.some.inj hv)).symm
        rw [e2]
        rfl
      | succ i => cases z
  have I0 := inv_startN (CX := CX) (N := N) (F := supNF name qual params scope p0 p1 ap pos epos e es rest cc cda) (f := f) (E := E) (tk := s.toks + (ps.zip us).length) S hr.hd e0 hl r cells hns kp
  have X0 := I0.kIn
  obtain ⟨nm, qn, Nn, bs, bm, sn, sub, ab, col, dd, k0, k1, k2, k3, k5, hC, hbm⟩ := T.cls
  obtain ⟨t1, hx⟩ := exo_at I0.hok ea
  have hus0 : us[0]? = some (Value.ref a) := by
    obtain ⟨u, h1, h2⟩ := r.get ha0
    rw [h1]
    exact congrArg some h2
  have ndP : ps.Nodup := by
    have z := S.nd.sublist (List.take_sublist (ps.length + ([("__class__" : Str)] : List Str).length) N)
    rw [S.pre] at z
    exact (List.nodup_append.mp z).1
  have hint : interactive (PySem.W.ksEnv qual scope s.heap.objs.size f (.ref cda) cc) = false := by
    unfold interactive
    rw [show (PySem.W.ksEnv qual scope s.heap.objs.size f (.ref cda) cc).scope.kind = .function from S.kind]
    rfl
  refine PySem.ks_wpAt_execs_cons (PySem.ks_wpAt_Expr_any (PySem.ks_wpAt_MethodCall (pl := pl) ?_ (he _)) hint (hsw _))
  have hkc : scope.names.lookup ("__class__" : Str) = some .free := S.frk _ (List.mem_singleton.mpr rfl)
  have hka : scope.names.lookup ar.arg = some .local := S.par _ (List.mem_of_getElem? hps)
  obtain ⟨mb, hb1, hb2⟩ := I0.mod.blt
  refine PySem.ks_wpAt_super_base (env := PySem.W.ksEnv qual scope s.heap.objs.size f (.ref cda) cc) hks hkc (by decide) rfl (X0 _ _ lk) rfl hp rfl (X0 _ _ hcode) rfl hvs hfile htop ?_
  refine PySem.W.ks_loadName_global S.kind hks (Calls.loadGlobal_builtin (env := PySem.W.ksEnv qual scope s.heap.objs.size f (.ref cda) cc) (I0.mod.glob.keeps I0.bk) hsup (hb1.keeps I0.bk) ((hb2 "super" (by decide)).trans (by decide +kernel)) ⟨rfl, ?_⟩)
  refine wpAny_loadName_free S.kind hkc rfl (hcl X0) ?_
  refine wpAny_loadName_local S.kind hka hns (zip_look ndP hps hus0) ?_
  refine ks_wpAny_isType_cls (X0 _ _ hC) rfl ⟨rfl, ?_⟩
  refine ks_wpAny_call_super (X0 _ _ hC) rfl hx rfl (fun c z => by cases z) (PySem.W.looks_mroIn X0 hmro) (fun h1 hso k1 => ?_)
  have I1 : Inv (ncx CX P w K mg base N (supNF name qual params scope p0 p1 ap pos epos e es rest cc cda) f A outer s H E) [] (startF N vs [some (.ref C)]) H ⟨h1, s.gens, s.drawn, s.toks + (ps.zip us).length, s.os⟩ := I0.kept (t' := s.toks + (ps.zip us).length) k1
  have X1 := I1.kIn
  have hcC : PySem.W.clsIn K C = some { name := nm, bases := bs, mro := .ref C :: bm, ns := Nn, qualname := qn, hasDict := true, slotNames := sn, subclasses := sub, abstract := ab, collection := col, hasDel := false } := by unfold PySem.W.clsIn; rw [hC] <;> rfl
  unfold PySem.W.ks_superIn at hm
  rw [hcC] at hm
  have ia : PySem.W.InstAt h1 a { cls := .ref C, dict := none, data := .fields #[.ref t1, .none, .none, .none, .bool false, .none] } C none := ⟨k1 _ _ hx, rfl, rfl, trivial⟩
  have aC : a ≠ C := fun z => by
    rw [z, nop _ _ hC] at ea
    cases ea
  refine PySem.W.kxs_getMethod PySem.W.kxs_ValueError hso (PySem.W.looks_opaque X1 ho) (fun A Q E s k q => wpAny_bind ((PySem.W.looks_clsIn X1 hcC) A _ E s k (wpAny_pure q))) rfl X1 hm (ia.type.andThen (PySem.W.looks_subIn X1 hB)) aC (by decide) ?_
  have hu : (h1.push (PySem.W.kxs_mw "ValueError.__init__" a)).get? h1.objs.size = some (PySem.W.kxs_mw "ValueError.__init__" a) := Heap.get?_push_size h1 rfl
  have I2 : Inv (ncx CX P w K mg base N (supNF name qual params scope p0 p1 ap pos epos e es rest cc cda) f A outer s H E) [(h1.objs.size, PySem.W.kxs_mw "ValueError.__init__" a)] (startF N vs [some (.ref C)]) H ⟨h1.push (PySem.W.kxs_mw "ValueError.__init__" a), s.gens, s.drawn, s.toks + (ps.zip us).length + 1, s.os⟩ := by
    refine (I1.kept (t' := s.toks + (ps.zip us).length + 1) fun b o z => Heap.get?_push_of_some _ z).pins_of fun p hp => ?_
    have e1 : p = (h1.objs.size, PySem.W.kxs_mw "ValueError.__init__" a) := List.mem_singleton.mp hp
    rw [e1]
    exact ⟨hu, I1.hok.fresh (Nat.le_refl _), Nat.ne_of_gt I1.lt, I1.nofs (Nat.le_refl _), fun v z => by cases z⟩
  have key : ∀ {A' : Around} {Q' : Value → Shared → Prop} {E' : Value → Shared → Prop} {s' : Shared}, wpAny (model P w) A' (spliced (backTo pos (starEach (e :: es) (PySem.W.ksEnv qual scope s.heap.objs.size f (.ref cda) cc)))) (fun vs s₁ => PySem.W.KxsAt "ValueError.__init__" h1.objs.size a s₁.heap ∧ wpAny (model P w) A' (call (.ref h1.objs.size) vs) Q' E' s₁) E' s' →
      wpAny (model P w) A' (callWith pos (.ref h1.objs.size) [] (backTo pos (starEach (e :: es) (PySem.W.ksEnv qual scope s.heap.objs.size f (.ref cda) cc))) []) Q' E' s' := by
    intro A' Q' E' s' h
    rw [hst] at h ⊢
    refine PySem.W.kxs_callWith (i := "ValueError.__init__") (x := a) (by show (false || (backTo pos (starEach es _)).any (·.1)) = false; rw [hpl]; rfl) ?_
    exact Calls.evalArgs_plain h
  refine key (thn (hA.run pos _ _ _ _ _ I2 hq) fun us2 s2 hv => ?_)
  obtain ⟨ws, H1, I3, rws, hz, ea1, hq1⟩ := hv
  have hu3 : s2.heap.get? h1.objs.size = some (PySem.W.kxs_mw "ValueError.__init__" a) := (I3.pin (h1.objs.size, PySem.W.kxs_mw "ValueError.__init__" a) (List.mem_append_right _ List.mem_cons_self)).1
  refine ⟨hu3, ?_⟩
  have I4 : Inv (ncx CX P w K mg base N (supNF name qual params scope p0 p1 ap pos epos e es rest cc cda) f A outer s H E) [] (startF N vs [some (.ref C)]) H1 s2 := I3.pins_of fun p hp => by cases hp
  obtain ⟨t2, hx2⟩ := exo_at I4.hok ea1
  have hC2 := I4.kIn _ _ hC
  have hus2 : us2.length ≤ sizeLine := by
    rw [← rws.length, sizeLine_eq]
    omega
  obtain ⟨hp2, g2, d2, tk2, os2⟩ := s2
  refine wpAny_call (codeAny_of_tree ?_)
  show wpAny _ _ (callAny (.ref h1.objs.size) ⟨us2, []⟩) _ _ _
  simp only [callAny]
  refine wpAny_bind (wpAny_load hu3 ?_)
  simp only [PySem.W.kxs_mw, show (Value.type "method-wrapper" == Value.type "method" || Value.type "method-wrapper" == Value.type "builtin_function_or_method" || Value.type "method-wrapper" == Value.type "method-wrapper") = true by decide, if_true]
  refine PySem.W.KFB.if_so (by decide) ?_
  refine wpAny_bind (PySem.W.check_bound_init PySem.F.excBase_ValueError.toExcCallFacts hC2 hx2 rfl ?_)
  refine wpAny_bind (wpAny_pure (wpAny_pure ?_))
  refine ⟨plainId_quiet PySem.F.excBase_ValueError.init.plain _, codeAny_builtin PySem.F.excBase_ValueError.initEntry ?_⟩
  refine PySem.W.exc_init_tree (cls := .ref C) (t0 := t2) (dv := none) (c2 := .none) (c3 := .none) (b4 := .bool false) hx2 hus2 (fun h' kh hxn _ => ?_)
  have J := I4.write (t' := tk2) (x := a) (e := a) (o := exo a C none) (by rw [ea1]; exact True.intro) (.inl rfl) kh ⟨_, hxn⟩ (exo_ok hxn)
  have eu : upd H1 a (exo a C none) = H1 := by
    funext b
    by_cases hb : b = a
    · rw [hb, upd_same, ea1]
    · rw [upd_ne hb]
  rw [eu] at J
  show PySem.wpAt _ _ _ _ _ _ _
  refine PySem.wpAt_of_wpAny (wpAny_mono (hR.run [] _ (startF N vs [some (.ref C)]) H1 _ J hq1) (fun fl s' hs => ?_) fun e s' hs => hs)
  match fl, hs with
  | .ret u, ⟨v, σ', H', J, rv, q⟩ => exact ⟨v, H', J.os, J.bare, J.base, J.hok, rv, q⟩
  | .next, ⟨σ', H', J, q⟩ => exact ⟨V.non, H', J.os, J.bare, J.base, J.hok, rfl, q⟩
  | .brk, ⟨_, _, _, q⟩ => exact q.elim
  | .cont, ⟨_, _, _, q⟩ => exact q.elim
end GrEx
namespace Lw
open PySem PySem.Spec PyProof.Rows L2 GrT GrOwn
/-! ### an exception that bears a name -/
def spEI (C : Addr) : Sp := fun vs H Q _ => ∃ (a : Addr) (x : Str), vs = [.ref a, .str x] ∧ H a = some (exo a C none) ∧ x.length ≤ 1000 ∧ (∀ c ∈ x.cps.toList, c < 16 ^ 8) ∧
  ∀ d, H d = none → d ≠ a → Q .non (upd (upd H d (exd d [("name", .str x)])) a (exo a C (some d)))
/-- what the top says of such a class; st: the text of its __init__ -/
structure ExK (P : Program) (K : PySem.W.Frag) (mg : Str → Option Value) (x q : Str) (st : Stmt) (C : Addr) : Prop where
  T : OexC K C
  ex : ∃ (f cc cda : Addr) (oc ccl cl kV doc pm ct : Value) (od an cdd cld : Option Addr) (osl ccs csl : Array (Option Value)) (vs0 : Array Value) (file : Str) (tf : Tok),
    PySem.W.findIn K (.ref C) "__init__" = some (some (.ref f)) ∧ PySem.W.typeIn K (.ref f) = some (.type "function") ∧
    K.lookup f = some ⟨oc, od, .func (PySem.W.ksFn "__init__" q (defArgs st) (defBody st) (defScope st) .none kV doc pm an (.ref cda) ct cc), osl⟩ ∧ PySem.W.codeIn K (.ref cda) q = true ∧
    K.lookup cda = some ⟨ccl, cdd, .fields vs0, ccs⟩ ∧ vs0[2]? = some (.str file tf) ∧ ((P.main.file : Str) == file) = true ∧ K.lookup cc = some ⟨cl, cld, .cell (some (.ref C)), csl⟩ ∧
    Binds K (PySem.W.ksFn "__init__" q (defArgs st) (defBody st) (defScope st) .none kV doc pm an (.ref cda) ct cc) ["self", "name"] []
  sup : mg "super" = none
  mgC : mg x = some (.ref C)
  top : (P.main.scope.names.lookup ("super" : Str)).isSome = false
  ho : PySem.W.nsIn K cStatics "thirdparty.any" = some none
  hm : PySem.W.ks_superIn K C C "__init__" = some (some (.builtin "ValueError.__init__"))
  hB : PySem.W.subIn K (.ref C) (.type "ValueError") = some true
  mro : PySem.W.mroIn K C (.ref C) = some true
  noN : PySem.W.findIn K (.ref C) "name" = some none
  te : PySem.W.exmOne K (.ref C) (.ref C) = some true
abbrev sBadInit : Stmt := inClass (top 2) 0
section
variable {P : Program} {w : World} {K : PySem.W.Frag} {mg : Str → Option Value} {base : Heap} {C : Addr}
theorem scBadInit : NdefX.NScope ["self", "name", "__class__"] ["self", "name"] ["__class__"] (defScope sBadInit) := NdefX.nscope_by (by decide +kernel)
theorem fn_badname {x q : Str} (Z : ExK P K mg x q sBadInit C) : ∃ (f : Addr) (fd : FuncData), PySem.W.findIn K (.ref C) "__init__" = some (some (.ref f)) ∧ PySem.W.typeIn K (.ref f) = some (.type "function") ∧ FnOk P w K mg base CX0 1 f fd ["self", "name"] (spEI C) ∧ Binds K fd ["self", "name"] [] := by
  obtain ⟨f, cc, cda, oc, ccl, cl, kV, doc, pm, ct, od, an, cdd, cld, osl, ccs, csl, vs0, file, tf, h1, h2, lk, hcd, hcode, hvs, hfile, hcell, hb⟩ := Z.ex
  refine ⟨f, _, h1, h2, ?_, hb⟩
  refine GrEx.fn_sup (N := ["self", "name", "__class__"]) (ar := { arg := "self", annotation := none, pos := ⟨6, 17, 6, 21⟩ }) Z.T scBadInit lk hcd hcode hvs hfile hcell Z.sup Z.top (by rfl) (by rfl) (by rfl) Z.ho Z.hm Z.hB Z.mro (fun L => by rfl) (fun L => by rfl) (fun L => by rfl) (fun L => by rfl) (fun vs H Q E h => ?_) (fun A outer s H vs Q E h => ?_)
  · obtain ⟨a, x, rfl, _⟩ := h
    rfl
  · obtain ⟨a, x, rfl, ea, xl, xc, k⟩ := h
    refine ⟨a, _, _, rfl, ea, pa_cons (pe_joined (PJ.cons pe_str (PJ.cons (pe_fmtR (pv 1)) .nil))) pa_nil, pss_one (ps_ost (pv 0) (pv 1)), ?_⟩
    have rl := PySem.StrLaws.reprText_len x xc
    have cl1 : (Str.empty ++ Str.ofString "not a name of a field: ").length ≤ 100 := by decide +kernel
    refine ⟨_, rfl, line_big (Nat.le_trans cl1 (by decide)), _, rfl, .inl ⟨x, rfl, line_big (by omega), _, rfl, line_big (by rw [cat_len]; omega), by show 1 ≤ 1000; decide, ea, ?_⟩⟩
    exact ⟨_, rfl, _, rfl, a, C, rfl, Z.T, Z.noN, .inl ⟨ea, fun d h1 h2 => k d h1 h2⟩⟩
end
end Lw
namespace GrOwn
open PySem PySem.Spec PyProof.Rows L2
section
variable {X : Cx} {CX : CXT} {k : Nat} {C f : Addr} {fd : FuncData} {ps : List Str} {sp : Sp} {E : XK}
theorem run_atS {A : Around} {pins : List (Addr × Obj)} {σ : L2.St} {H : Hp} {s : Shared} {Q : VK} {us : List Value} {vs : List V} (F : FnOk X.prog X.w X.K X.mg X.base CX k f fd ps sp)
    (hr : Room k A) (e0 : Env0 X.prog X.w X.K X.mg X.base A X.stack s H) (hb : Binds X.K fd ps []) (hx : PassesAt CX X σ E) (I : Inv X pins σ H s) (r : Vals vs us) (h : sp vs H Q E) :
    wpAny (model X.prog X.w) A (call (.ref f) us) (EP X pins σ Q) X.xe s := by
  have hl : (us ++ []).length = ps.length := by
    rw [List.append_nil, ← r.length]
    exact F.len _ _ _ _ h
  have b := hb s us I.kIn hl
  rw [List.append_nil] at b
  refine wpAny_call (codeAny_mono (F.run A X.stack s H ⟨us, []⟩ us vs Q E hr e0 b r h) fun r s' hq => ?_)
  match r, hq with
  | .error e, hq => exact hx pins H s e s' I hq
  | .ok (.ret u), hq => exact I.after hq
end
end GrOwn
namespace Lw
open PySem PySem.Spec PyProof.Rows L2 GrT GrOwn
/-- r[x], which may raise -/
structure MthY (P : Program) (w : World) (K : PySem.W.Frag) (mg : Str → Option Value) (base : Heap) (CX : CXT) (C : Addr) (k : Nat) (x : Str) (sp : Sp) : Prop where
  ex : ∃ (f : Addr) (fd : FuncData) (ps : List Str), FnOk P w K mg base CX k f fd ps sp ∧ Sm K C x f ∧ PySem.W.fnIn K f = true ∧ Binds K fd ps []
def tIxX (C : Addr) (sp : Sp) (E : L2.St → XK) (ta tb : TE) : TE := fun σ H Q => ta σ H fun x H1 => tb σ H1 fun y H2 => ∃ a dx fs, x = .ref a ∧ H2 a = some (.ins C dx fs) ∧ sp [.ref a, y] H2 Q (E σ)
section
variable {X : Cx} {CX : CXT} {C : Addr} {k j : Nat} {sp : Sp} {E : L2.St → XK} {a b : Expr} {ta tb : TE} {pos : Pos}
theorem pe_ixX (m : MthY X.prog X.w X.K X.mg X.base CX C k "__getitem__" sp) (hr : Room j X.A) (hk : k + 1 ≤ j) (hx : ∀ σ, PassesAt CX X σ (E σ)) (ha : PE X a ta) (hb' : PE X b tb)
    (hsl : ∀ (q : Addr) (i : Value), subscripted b true (.ref q) i = runValue (.builtin "lifetime.subscript" ⟨[.ref q, i], []⟩) := by intro _ _; with_unfolding_all rfl) :
    PE X (.Subscript a b pos) (tIxX C sp E ta tb) := by
  obtain ⟨f, fd, ps, F, sm, hfn, bd⟩ := m.ex
  refine ⟨fun pins s σ H Q I h => Subscript_ (binT ha hb' I h fun v u s2 x y H2 I2 rx ry q => ?_)⟩
  obtain ⟨p, dx, fs, rfl, ea, q⟩ := q
  cases rx
  obtain ⟨od, J⟩ := inst I2 ea
  obtain ⟨m0, hF⟩ := I2.fr
  exact PySem.W.sub_K hF I2.ok.mod.kin J sm.at_ hfn sm.fn (run_atS (vs := [V.ref p, y]) F (hr.mono hk).in1 I2.env0.in1 bd (hx σ) I2 (.cons rfl (.cons ry .nil)) q) (hsl _ _)
end
/-- isinstance of the exception in hand, which has a dict -/
def rIsED (K : PySem.W.Frag) (D a : Addr) (cls : Value) (d : Option Addr) : List V → Hp → VK → Prop := fun xs H Q => ∃ (c : V) (cv : Value) (b : Bool) (dd : Addr) (fs : List (Str × V)), xs = [.ref a, c] ∧ ClsV c cv ∧ cls = .ref D ∧ d = some dd ∧ H dd = some (.xd fs) ∧ PySem.W.kitOne K (.ref D) cv = some b ∧ Q (.bl b) H
theorem call_isED {X : Cx} {a D : Addr} {oe : Obj} {cls : Value} {d : Option Addr} {pn : List (Addr × Obj)} (C : ExcC X.K D) (hz : Zc cls d oe) (hf : ∃ vs, oe.data = .fields vs) : CallR (X.suite a ((a, oe) :: pn)) (.builtin "isinstance") (rIsED X.K D a cls d) := by
  intro pins s σ H xs us Q I r h
  obtain ⟨c, cv, b, dd, fs, rfl, hcv, rfl, rfl, hd, e, q⟩ := h
  obtain ⟨u, v, rfl, ru, rv⟩ := vals2 r
  cases ru
  have ev := hcv.eq rv
  subst ev
  obtain ⟨ha, _⟩ := I.pin (a, oe) (List.mem_append_left _ List.mem_cons_self)
  obtain ⟨vs, hv⟩ := hf
  have hx : ObjOk X.prog X.w H s.heap dd (.xd fs) := I.hok dd _ hd
  obtain ⟨mA, hns, _⟩ := hx
  obtain ⟨od, ho, _⟩ := lookIn_ns hns
  have J : PySem.W.InstAt s.heap a oe D (some od) := ⟨ha, hz.1, by unfold PySem.W.notCls; rw [hv] <;> rfl, by rw [hz.2]; exact ho⟩
  exact PySem.W.kia_one (PySem.W.kitx_exc (by obtain ⟨cd, hc, _⟩ := PySem.W.any_some C.hd; rw [hc]; rfl) C.hg C.hk C.hs C.ha C.hn C.ht C.hm) I.kIn J e (fun z => nomatch z) fun tk => ⟨.bl b, H, I.kept (t' := tk) fun _ _ z => z, rfl, q⟩
/-- what the top says further of the error's classes -/
structure ErK (K : PySem.W.Frag) (mg : Str → Option Value) (CS RE : Addr) : Prop where
  xf : XfC K CS
  ex : ExcC K CS
  mgR : mg "RecordsError" = some (.ref RE)
  bV : mg "ValueError" = none
  kR : PySem.W.kitOne K (.ref CS) (.ref RE) = some true
  kV : PySem.W.kitOne K (.ref CS) (.type "ValueError") = some true
theorem bo_VE : bootBuiltins "ValueError" = some (.type "ValueError") := by decide +kernel
end Lw
namespace Lw
open PySem PySem.Spec PyProof.Rows L2 GrT GrOwn
/-! is_name of any text -/
def letterB (c : Nat) : Bool := decide (97 ≤ c) && decide (c ≤ 122)
def goodB (x : Str) : Bool := decide (1 ≤ x.length) && decide (x.length ≤ 30) && x.cps.toList.all letterB
theorem goodB_iff {x : Str} : goodB x = true ↔ GrT.Good x := by
  unfold goodB GrT.Good
  rw [Bool.and_eq_true, Bool.and_eq_true, decide_eq_true_iff, decide_eq_true_iff, List.all_eq_true]
  constructor
  · rintro ⟨⟨h1, h2⟩, h3⟩
    refine ⟨h1, h2, fun c hc => ?_⟩
    have := h3 c hc
    unfold letterB at this
    rw [Bool.and_eq_true, decide_eq_true_iff, decide_eq_true_iff] at this
    exact this
  · rintro ⟨h1, h2, h3⟩
    refine ⟨⟨h1, h2⟩, fun c hc => ?_⟩
    unfold letterB
    rw [Bool.and_eq_true, decide_eq_true_iff, decide_eq_true_iff]
    exact h3 c hc
theorem ge_b (c : Nat) : (!decide ((⟨#[c]⟩ : Str).cps.toList < (Str.ofString "a").cps.toList)) = decide (97 ≤ c) := by
  rw [a_tl]
  show (!decide ([c] < [97])) = decide (97 ≤ c)
  by_cases h : 97 ≤ c
  · rw [decide_eq_true h, Bool.not_eq_true', decide_eq_false_iff_not]
    intro q
    rcases List.cons_lt_cons_iff.mp q with e | ⟨_, e⟩
    · omega
    · exact absurd e (List.not_lt_nil _)
  · rw [decide_eq_false h, Bool.not_eq_false', decide_eq_true_iff]
    exact List.cons_lt_cons_iff.mpr (.inl (by omega))
theorem le_b (c : Nat) : (!decide ((Str.ofString "z").cps.toList < (⟨#[c]⟩ : Str).cps.toList)) = decide (c ≤ 122) := by
  rw [z_tl]
  show (!decide ([122] < [c])) = decide (c ≤ 122)
  by_cases h : c ≤ 122
  · rw [decide_eq_true h, Bool.not_eq_true', decide_eq_false_iff_not]
    intro q
    rcases List.cons_lt_cons_iff.mp q with e | ⟨_, e⟩
    · omega
    · exact absurd e (List.not_lt_nil _)
  · rw [decide_eq_false h, Bool.not_eq_false', decide_eq_true_iff]
    exact List.cons_lt_cons_iff.mpr (.inl (by omega))
def spIsWord : Sp := fun vs H Q _ => ∃ x : Str, vs = [.str x] ∧ x.length ≤ 2000 ∧ ∀ H', Same H H' → Q (.bl (goodB x)) H'
section
variable {P : Program} {w : World} {K : PySem.W.Frag} {mg : Str → Option Value} {base : Heap} {C : Addr}
theorem c_is_word (T : Bu mg) (ba : mg "all" = none) {tL : Tok} (hL : mg "LONGEST_NAME" = some (.int 30 tL)) (D : Dfn K mg "is_name" sIsName ["text"]) : Cal P w K mg base 1 "is_name" spIsWord := by
  refine D.cal scIsName (fun vs H Q E h => ?_) (fun f cdv A outer s H vs Q E hr h => ?_)
  · obtain ⟨x, rfl, _⟩ := h
    rfl
  · obtain ⟨x, rfl, xl, q⟩ := h
    refine ⟨_, (pss_one (ps_ret (pe_and (pe_chain op_le op_le pe_int (pe_callB call_len_str (by rfl) T.b_len PySem.boot_len (pa_cons (pv 0) pa_nil)) (pe_glob (by rfl) hL (v := .int 30) ⟨tL, rfl⟩))
      (pe_one (pe_callB (cr_all rfl) (by rfl) ba (by decide +kernel) (pa_cons (pe_lc (own := [("letter", 1)]) (g := gName 1) (tt := tYes) rfl scIsName.nd (pi_str (pv 0)) (blkOk_by (own := [("letter", 1)]) (N := ["text", "letter"]) (sc := defScope sIsName) (by decide +kernel)) (fun _ _ _ _ _ => pg_name (i := 1) scIsName.nd rfl (Or.inl rfl)) (fun _ _ _ _ _ => pts_nil) (fun _ _ _ _ _ => (by exact (pe_chain op_le_str op_le_str pe_str (pv 1) pe_str)))) pa_nil)))))), ?_⟩
    have hsz : x.cps.size = x.length := rfl
    refine ⟨_, rfl, x, rfl, line_big (by omega), _, _, rfl, rfl, ?_⟩
    by_cases h1 : 1 ≤ x.length
    · refine ⟨_, rfl, ?_⟩
      rw [if_pos (decide_eq_true (by omega))]
      refine ⟨_, _, rfl, rfl, _, rfl, ?_⟩
      by_cases h2 : x.length ≤ 30
      · rw [if_pos (decide_eq_true (by omega))]
        refine ⟨_, rfl, _, rfl, fun Z hZ => lc_it walk_str (fun i H5 => H5 Z = some (.lst (((x.cps.toList.take i).map letterB).map V.bl)) ∧ Same H H5) ⟨upd_same, Same.new (Same.refl _) hZ⟩ (fun _ _ _ _ => True.intro) ?_ ?_⟩
        · rintro i y H5 H6 hi ⟨eZ, sm⟩ ⟨rfl, c, hc, rfl⟩
          have hc2 : x.cps.toList[i]? = some c := by
            rw [Array.getElem?_toList]
            exact hc
          have fin : ∀ b, b = letterB c → ∃ vs, H6 Z = some (.lst vs) ∧ vs.length < sizeLine ∧ (upd H6 Z (.lst (vs ++ [V.bl b]))) Z = some (.lst (((x.cps.toList.take (i + 1)).map letterB).map V.bl)) ∧ Same H (upd H6 Z (.lst (vs ++ [V.bl b]))) := by
            rintro b rfl
            refine ⟨_, eZ, line_big (by rw [List.length_map, List.length_map, List.length_take]; omega), ?_, fun b o e => by rw [upd_ne (ne_of_none e hZ)]; exact sm b o e⟩
            rw [upd_same, List.take_add_one, hc2, Option.toList_some, List.map_append, List.map_append]
            rfl
          refine ⟨rfl, iteT (A := _) (B := True) (iteT ⟨_, rfl, _, _, rfl, rfl, _, rfl, ?_⟩)⟩
          rw [ge_b]
          by_cases h : 97 ≤ c
          · rw [if_pos (decide_eq_true h)]
            obtain ⟨vs, f1, f2, f3, f4⟩ := fin (decide (c ≤ 122)) (by unfold letterB; rw [decide_eq_true h, Bool.true_and])
            refine ⟨_, _, rfl, rfl, vs, f1, f2, ?_, ?_⟩
            · rw [le_b]
              exact f3
            · rw [le_b]
              exact f4
          · rw [if_neg (by rw [decide_eq_false h]; exact Bool.false_ne_true)]
            obtain ⟨vs, f1, f2, f3, f4⟩ := fin false (by unfold letterB; rw [decide_eq_false h, Bool.false_and])
            exact ⟨vs, f1, f2, f3, f4⟩
        · rintro H5 ⟨eZ, sm⟩
          refine ⟨Z, _, rfl, .of eZ, ?_⟩
          have e : (((x.cps.toList.take x.cps.size).map letterB)).all id = goodB x := by
            rw [List.take_of_length_le (by rw [Array.length_toList]; exact Nat.le_refl _), List.all_map]
            unfold goodB
            rw [decide_eq_true h1, decide_eq_true h2, Bool.true_and, Bool.true_and]
            rfl
          rw [e]
          exact q _ sm
      · rw [if_neg (fun z => h2 (by have := of_decide_eq_true z; omega))]
        have e : goodB x = false := by
          rw [← Bool.not_eq_true, goodB_iff]
          exact fun g => h2 g.2.1
        have := q H (Same.refl _)
        rw [e] at this
        exact this
    · have e : goodB x = false := by
        rw [← Bool.not_eq_true, goodB_iff]
        exact fun g => h1 g.1
      have := q H (Same.refl _)
      rw [e] at this
      refine ⟨_, rfl, ?_⟩
      rw [if_neg (fun z => h1 (by have := of_decide_eq_true z; omega))]
      refine ⟨false, rfl, ?_⟩
      rw [if_neg Bool.false_ne_true]
      exact this
end
end Lw
/-! One dict's entries laid into another one, as a displayed dict with two stars does it. -/
namespace GrMg
open PySem PySem.Spec PyProof.Rows
section
variable {prog : Program} {w : World} {K : Type} [DecidableEq K] {knd : KeyKind prog w K} {A : Around} {E : Value → Shared → Prop} {s : Shared}
theorem put_pairs {d : Addr} {m : List (K × Value)} {k : K} {kv v : Value} {Q : Unit → Shared → Prop} (hk : knd.is k kv = true) (D : s.heap.DictOf knd d m) (hz : m.length ≤ sizeLine)
    (q : ∀ h', h'.DictOf knd d (stored m k v) → Heap.SameBut d s.heap h' → Q () { s with heap := h' }) : wpAny (model prog w) A (dictPut d (knd.hash k) kv v) Q E s := by
  obtain ⟨o, es, ep, g1, g2, g3, g4, g5, g6⟩ := D
  have len : es.size ≤ sizeLine := by
    have e1 := g5.length
    rw [Array.length_toList] at e1
    omega
  have ix : (es.findIdx? fun y => knd.is k y.key) = m.findIdx? fun y => decide (y.1 = k) := by
    rw [← g5.findIdx k]
    obtain ⟨z⟩ := es
    simp
  unfold dictPut
  refine wpAny_bind (wpAny_dictFind_of hk g1 g3 g4 ?_)
  cases f : es.findIdx? fun y => knd.is k y.key with
  | some i =>
    have yes : (m.any fun y => decide (y.1 = k)) = true := any_of_findIdx_some (ix ▸ f)
    have st : stored m k v = m.map fun y => if y.1 = k then (y.1, v) else y := by rw [stored, if_pos yes]
    refine wpAny_updateDict g1 g3 (q _ ?_ (Heap.SameBut.update ..))
    refine ⟨_, _, ep, Heap.get?_update_self _ g1 (Obj.isFreed_of_dict (Obj.data_mapDict g3 _)), g2.mapDict _, Obj.data_mapDict g3 _, g4.modify _ _, ?_, ?_⟩
    · have at_ : (es.toList.findIdx? fun y => knd.is k y.key) = some i := by
        rw [← f]
        obtain ⟨z⟩ := es
        simp
      have z := g5.modify g6 at_ v
      rw [st]
      obtain ⟨y⟩ := es
      simpa using z
    · rw [st, keys_map_store]
      exact g6
  | none =>
    have no : k ∉ m.map (·.1) := not_mem_of_findIdx_none (ix ▸ f)
    have no2 : ¬ (m.any fun y => decide (y.1 = k)) = true := fun c => by
      obtain ⟨y, hy, z⟩ := List.any_eq_true.mp c
      exact no (List.mem_map.mpr ⟨y, hy, of_decide_eq_true z⟩)
    have st : stored m k v = m ++ [(k, v)] := by rw [stored, if_neg no2]
    refine wpAny_updateDictKeys (hz := len) g1 g3 (q _ ?_ (Heap.SameBut.update ..))
    refine ⟨_, _, ep + 1, Heap.get?_update_self _ g1 (Obj.isFreed_of_dict (Obj.data_mapDictKeys g3 _)), g2.mapDictKeys _, Obj.data_mapDictKeys g3 _, g4.push hk _, ?_, ?_⟩
    · have z := g5.append hk (knd.hash k) v
      rw [st]
      obtain ⟨y⟩ := es
      simpa using z
    · rw [st, List.map_append]
      refine List.nodup_append.mpr ⟨g6, by simp, fun x hx y hy z => ?_⟩
      have e1 : y = k := by simpa using hy
      exact no (by rw [← e1, ← z]; exact hx)
theorem stored_len {m : List (K × Value)} {k : K} {v : Value} : (stored m k v).length ≤ m.length + 1 := by
  unfold stored
  split
  · rw [List.length_map]
    exact Nat.le_succ _
  · rw [List.length_append]
    exact Nat.le_refl _
/-- where a dict's object stands, it is a dict -/
theorem ty_dict {a : Addr} {ks : List (K × Value)} (B : s.heap.DictOf knd a ks) : s.TypeIs (.ref a) "dict" := B.typeIs
theorem pairs_at : ∀ {es : List DictEntry} {ks : List (K × Value)} {i : Nat} {e : DictEntry}, Pairs knd es ks → es[i]? = some e → ∃ y, ks[i]? = some y ∧ knd.is y.1 e.key = true ∧ e.val = y.2
  | _, _, 0, e, .cons (kv := y) h1 h2 _, h => by
    have z := Option.some.inj h
    subst z
    exact ⟨y, rfl, h1, h2⟩
  | _, _, i + 1, e, .cons _ _ t, h => by
    have h' := h
    rw [List.getElem?_cons_succ] at h'
    obtain ⟨y, a, b⟩ := pairs_at t h'
    exact ⟨y, by rw [List.getElem?_cons_succ]; exact a, b⟩
theorem range_loop {M : Model} {n : Nat} {f : Nat → PUnit → Sem (ForInStep PUnit)} (inv : Nat → Shared → Prop) (h0 : inv 0 s)
    (turn : ∀ i c s', i < n → inv i s' → wpAny M A (f i c) (fun r s2 => r = .yield ⟨⟩ ∧ inv (i + 1) s2) E s') : wpAny M A (forIn (List.range n) PUnit.unit f) (fun _ s' => inv n s') E s := by
  refine wpAny_forIn_list f (fun rest _ s' => ∃ i, rest = (List.range n).drop i ∧ i ≤ n ∧ inv i s') _ (fun x rest c s' hi => ?_) (fun c s' hi => ?_) _ _ ⟨0, rfl, Nat.zero_le _, h0⟩
  · obtain ⟨i, e, le, hv⟩ := hi
    have hlt : i < n := by
      by_cases q : i < n
      · exact q
      · rw [List.drop_eq_nil_of_le (by rw [List.length_range]; omega)] at e
        cases e
    rw [List.drop_eq_getElem_cons (by rw [List.length_range]; exact hlt)] at e
    injection e with e1 e2
    rw [List.getElem_range] at e1
    subst e1
    refine wpAny_mono (turn x c s' hlt hv) (fun r s2 h => ?_) fun _ _ z => z
    obtain ⟨rfl, h2⟩ := h
    exact ⟨x + 1, e2, hlt, h2⟩
  · obtain ⟨i, e, le, hv⟩ := hi
    have hn : i = n := by
      have := congrArg List.length e
      rw [List.length_drop, List.length_range] at this
      simp at this
      omega
    rw [← hn]
    exact hv
theorem merge_pairs {d a : Addr} {m ks : List (K × Value)} {Q : Unit → Shared → Prop} (ne : a ≠ d) (hs : (a == sysModules) = false) (D : s.heap.DictOf knd d m) (B : s.heap.DictOf knd a ks) (hz : m.length + ks.length ≤ sizeLine)
    (nr : ∀ k r, knd.is k (.ref r) = false) (q : ∀ h', h'.DictOf knd d (ks.foldl (fun m y => stored m y.1 y.2) m) → Heap.SameBut d s.heap h' → Q () { s with heap := h' }) :
    wpAny (model prog w) A (mergeMapping d (.ref a) false) Q E s := by
  have ty : s.TypeIs (.ref a) "dict" := B.typeIs
  obtain ⟨ob, eb, nb, b1, b2, b3, b4, b5, b6⟩ := id B
  obtain ⟨od, ed, nd, d1, d2, d3, d4, d5, d6⟩ := id D
  unfold mergeMapping
  refine wpAny_bind (m := isInstance (.ref a) (.type "dict")) ?_
  refine wpAny_isInstance (T := "dict") (U := "dict") (b := true) ty (by rw [isSubtype_type]; kernel_rfl) ?_
  simp only [if_true]
  refine wpAny_bind (m := specialOf (.ref a) "__iter__") ?_
  refine wpAny_specialOf ty PySem.F.slot_dict_iter.lookup ?_
  refine wpAny_bind (wpAny_pure ?_)
  simp only [beq_self_eq_true]
  rw [if_neg (by rw [hs]; exact Bool.false_ne_true)]
  let inv : Nat → Shared → Prop := fun i s' => ∃ h', s' = { s with heap := h' } ∧ h'.DictOf knd d ((ks.take i).foldl (fun m y => stored m y.1 y.2) m) ∧ Heap.SameBut d s.heap h'
  have i0 : inv 0 s := ⟨s.heap, rfl, D, Heap.SameBut.refl _ _⟩
  have kl : eb.size = ks.length := by
    have z := b5.length
    rwa [Array.length_toList] at z
  have fl : ∀ (r : List (K × Value)) (m : List (K × Value)), (r.foldl (fun m y => stored m y.1 y.2) m).length ≤ m.length + r.length := by
    intro r
    induction r with
    | nil => exact fun m => Nat.le_refl _
    | cons y r ih =>
      intro m
      have z := ih (stored m y.1 y.2)
      have z2 := stored_len (m := m) (k := y.1) (v := y.2)
      rw [List.foldl_cons, List.length_cons]
      omega
  have last : ∀ s', inv eb.size s' → Q () s' := fun s' ⟨h', e, x, y⟩ => by
    rw [kl, List.take_length] at x
    rw [e]
    exact q h' x y
  have step : ∀ i s', i < eb.size → inv i s' → ∃ e, eb[i]? = some e ∧ s'.heap.get? a = some ob ∧ ∀ Q' : Unit → Shared → Prop, (∀ s2, s2.heap.get? a = some ob → inv (i + 1) s2 → Q' () s2) → wpAny (model prog w) A (dictPut d e.hash e.key e.val) Q' E s' := by
    rintro i s' hi ⟨h', rfl, x, y⟩
    have ha : h'.get? a = some ob := (y.2 a ne).trans b1
    refine ⟨eb[i], Array.getElem?_eq_getElem hi, ha, fun Q' k => ?_⟩
    obtain ⟨z, hz1, hz2, hz3⟩ := pairs_at b5 (by rw [Array.getElem?_toList, Array.getElem?_eq_getElem hi])
    obtain ⟨k', hk1, hk2⟩ := b4 eb[i] (Array.getElem_mem hi)
    have ek : k' = z.1 := knd.inj _ _ _ hk1 hz2
    rw [hk2, ek, hz3]
    refine put_pairs hz2 x ?_ (fun h2 g1 g2 => k _ ((g2.2 a ne).trans ha) ⟨h2, rfl, ?_, ?_⟩)
    · have := fl (ks.take i) m
      rw [List.length_take] at this
      omega
    · rw [List.take_add_one, hz1, Option.toList_some, List.foldl_append]
      exact g1
    · exact y.trans g2
  refine wpAny_bind (wpAny_dictEntries d1 d3 ?_)
  have turn : True := trivial
  by_cases emp : ed.isEmpty = true
  · rw [if_pos emp]
    refine wpAny_bind (wpAny_dictEntries b1 b3 ?_)
    refine wpAny_bind ?_
    refine wpAny_forIn_array' _ (fun (rest : List DictEntry) (_ : PUnit) (s' : Shared) => s' = s ∧ ∀ e ∈ rest, e ∈ eb.toList) _ ?_ ?_ eb ⟨⟩ ⟨rfl, fun e h => h⟩
    · rintro x rest c s' ⟨rfl, h⟩
      obtain ⟨k', hk1, _⟩ := b4 x (by simpa using h x List.mem_cons_self)
      cases hx : x.key with
      | ref r =>
        rw [hx, nr] at hk1
        cases hk1
      | _ => exact wpAny_pure ⟨rfl, fun e he => h e (List.mem_cons_of_mem _ he)⟩
    · rintro c s' ⟨rfl, _⟩
      refine wpAny_bind (wpAny_dictEntries b1 b3 (wpAny_bind (wpAny_dictEpoch b1 b3 ?_)))
      refine wpAny_bind (wpAny_mono (range_loop inv i0 fun i c s2 hi hv => ?_) (fun _ s2 h => wpAny_pure (last s2 h)) fun _ _ z => z)
      obtain ⟨e, he, ha, k⟩ := step i s2 hi hv
      refine wpAny_bind (wpAny_dictEntries ha b3 ?_)
      rw [he]
      refine wpAny_bind (wpAny_holding ?_)
      simp only [Bool.false_eq_true, if_false]
      refine k _ fun s3 h1 h2 => wpAny_bind (wpAny_dictEpoch h1 b3 ?_)
      simp only [bne_self_eq_false, Bool.false_eq_true, if_false]
      exact wpAny_pure ⟨rfl, h2⟩
  · rw [if_neg emp]
    refine wpAny_bind (wpAny_dictEntries b1 b3 (wpAny_bind (wpAny_dictEpoch b1 b3 ?_)))
    refine wpAny_bind (wpAny_mono (range_loop inv i0 fun i c s2 hi hv => ?_) (fun _ s2 h => wpAny_pure (last s2 h)) fun _ _ z => z)
    obtain ⟨e, he, ha, k⟩ := step i s2 hi hv
    refine wpAny_bind (wpAny_dictEntries ha b3 ?_)
    rw [he]
    refine wpAny_bind (wpAny_holding ?_)
    simp only [Bool.false_eq_true, if_false]
    refine k _ fun s3 h1 h2 => wpAny_bind (wpAny_dictEpoch h1 b3 ?_)
    simp only [bne_self_eq_false, Bool.false_eq_true, if_false]
    exact wpAny_pure ⟨rfl, h2⟩
end
end GrMg
namespace Lw
open PySem PySem.Spec PyProof.Rows L2 GrT GrOwn GrMg
theorem dict2 {prog : Program} {w : World} {A : Around} {E : Value → Shared → Prop} {s : Shared} {t1 t2 : Sem Value} {Q : Value → Shared → Prop}
    (h : wpAny (model prog w) A t1 (fun v s1 => wpAny (model prog w) A (mergeMapping s.heap.objs.size v false) (fun _ s2 => wpAny (model prog w) A t2 (fun u s3 => wpAny (model prog w) A (mergeMapping s.heap.objs.size u false) (fun _ s4 => Q (.ref s.heap.objs.size) s4) (fun _ _ => False) s3) E s2) (fun _ _ => False) s1) E { s with heap := s.heap.push { cls := .type "dict", data := .dict #[] } }) :
    wpAny (model prog w) A (dictDisplay [(none, t1), (none, t2)]) Q E s := by
  unfold dictDisplay
  simp only [List.forIn_cons, List.forIn_nil, List.isEmpty_nil, if_true, pure_bind, bind_assoc]
  have quiet : ∀ {m : Sem Unit} {k1 k3 : Value → Sem Unit} {k2 : Value → Sem Unit} {Q' : Unit → Shared → Prop} {E' : Value → Shared → Prop} {s' : Shared}, wpAny (model prog w) A m Q' (fun _ _ => False) s' → wpAny (model prog w) A (((m.onRaise k1).tryCatch k2).onRaise k3) Q' E' s' := fun {m k1 k3 k2 Q' E' s'} z =>
    wpAny_onRaise (wpAny_tryCatch (wpAny_onRaise (wpAny_mono z (fun _ _ q => q) fun _ _ q => q.elim)))
  refine wpAny_bind (wpAny_alloc (wpAny_bind (wpAny_holding (wpAny_mono h (fun v s1 h1 => ?_) fun _ _ z => z))))
  refine wpAny_bind (quiet (wpAny_holding (wpAny_mono h1 (fun _ s2 h2 => ?_) fun _ _ z => z)))
  refine wpAny_bind (wpAny_holding (wpAny_mono h2 (fun u s3 h3 => ?_) fun _ _ z => z))
  refine wpAny_bind (quiet (wpAny_holding (wpAny_mono h3 (fun _ s4 h4 => ?_) fun _ _ z => z)))
  exact wpAny_pure h4
def mergeK (m ks : List (Key × V)) : List (Key × V) := ks.foldl (fun m y => putK m y.1 y.2) m
section
variable {X : Cx} {pins : List (Addr × Obj)} {σ : L2.St} {H : Hp} {s : Shared}
theorem merge_ok {d a : Addr} {ls ks : List (Key × V)} {Q : Unit → Shared → Prop} (I : Inv X pins σ H s) (hd : H d = some (.dK ls)) (ha : H a = some (.dK ks)) (ne : a ≠ d) (hz : ls.length + ks.length ≤ 1000)
    (q : ∀ s', Inv X pins σ (upd H d (.dK (mergeK ls ks))) s' → Q () s') : wpAny (model X.prog X.w) X.A (mergeMapping d (.ref a) false) Q (fun _ _ => False) s := by
  obtain ⟨z1, y1, v1, r1, D⟩ := dk_of I.hok hd
  obtain ⟨z2, y2, v2, r2, B⟩ := dk_of I.hok ha
  have l1 := r1.length
  have l2 := r2.length
  obtain ⟨hp, g, dr, t, os⟩ := s
  refine merge_pairs ne y2 D B (Nat.le_trans (by omega) (line_big (n := 1000) (by decide))) (fun k r => ?_) fun h' hD hs => q _ ?_
  · cases k <;> rfl
  · have rel : ∀ {ks : List (Key × V)} {v2 : List (Key × Value)} {ls : List (Key × V)} {v1 : List (Key × Value)}, KV ls v1 → KV ks v2 → KV (mergeK ls ks) (v2.foldl (fun m y => stored m y.1 y.2) v1) := by
      intro ks v2 ls v1 h1 h2
      induction h2 generalizing ls v1 with
      | nil => exact h1
      | cons r _ ih => exact ih (by dsimp only; rw [← r.1]; exact h1.put _ r.2)
    have ll : ∀ (ks ls : List (Key × V)), (mergeK ls ks).length ≤ ls.length + ks.length := by
      intro ks
      induction ks with
      | nil => exact fun ls => Nat.le_refl _
      | cons y r ih =>
        intro ls
        have z := ih (putK ls y.1 y.2)
        have z2 := length_putK ls y.1 y.2
        show (mergeK (putK ls y.1 y.2) r).length ≤ _
        rw [List.length_cons]
        omega
    have he : ∃ o, h'.get? d = some o := by
      obtain ⟨o, _, _, e, _⟩ := hD
      exact ⟨o, e⟩
    exact d_write I (t' := t) (by rw [hd]; exact True.intro) hs he (dk_new (Nat.le_trans (ll ks ls) (Nat.le_trans hz (line_big (by decide)))) y1 (rel r1 r2) hD)
end
/-- {**x, **y} -/
def tMrg2 (ta tb : TE) : TE := fun σ H Q => ∀ D, H D = none → ta σ (upd H D (.dK [])) fun x H1 => ∃ a ks, x = .ref a ∧ a ≠ D ∧ H1 a = some (.dK ks) ∧ H1 D = some (.dK []) ∧ ks.length ≤ 400 ∧
  tb σ (upd H1 D (.dK (mergeK [] ks))) fun y H3 => ∃ b ms, y = .ref b ∧ b ≠ D ∧ H3 b = some (.dK ms) ∧ H3 D = some (.dK (mergeK [] ks)) ∧ ms.length ≤ 400 ∧ Q (.ref D) (upd H3 D (.dK (mergeK (mergeK [] ks) ms)))
theorem mergeK_len (ks : List (Key × V)) : ∀ ls : List (Key × V), (mergeK ls ks).length ≤ ls.length + ks.length := by
  induction ks with
  | nil => exact fun ls => Nat.le_refl _
  | cons y r ih =>
    intro ls
    have z := ih (putK ls y.1 y.2)
    have z2 := length_putK ls y.1 y.2
    show (mergeK (putK ls y.1 y.2) r).length ≤ _
    rw [List.length_cons]
    omega
theorem pe_mrg2 {X : Cx} {a b : Expr} {ta tb : TE} {pos : Pos} (ha : PE X a ta) (hb : PE X b tb)
    (he : eval (.Dict [none, none] [a, b] pos) X.env = (do
      standAt pos
      dictDisplay [(none, do let x ← eval a X.env; standAt pos; pure x), (none, do let x ← eval b X.env; standAt pos; pure x)]) := by rfl) : PE X (.Dict [none, none] [a, b] pos) (tMrg2 ta tb) := by
  refine ⟨fun pins s σ H Q I h => ?_⟩
  rw [he]
  have hn : H s.heap.objs.size = none := I.hok.fresh (Nat.le_refl _)
  have I1 := I.laid (a := s.heap.objs.size) (o := .dK []) (t' := s.toks) (fun _ _ q => Heap.get?_push_of_some _ q) (Nat.le_refl _) (dk_empty s.heap I.big)
  refine wpAny_bind (wpAny_standAt (dict2 ?_))
  refine wpAny_bind (thn (ha.run pins _ σ _ _ I1 (h _ hn)) fun v s1 hv => wpAny_bind (wpAny_standAt (wpAny_pure ?_)))
  obtain ⟨x, H1, I2, rx, p, ks, rfl, np, ep, eD, kl, q1⟩ := hv
  cases rx
  refine merge_ok I2 eD ep np (by rw [List.length_nil]; omega) fun s2 I3 => ?_
  refine wpAny_bind (thn (hb.run pins _ σ _ _ I3 q1) fun u s3 hu => wpAny_bind (wpAny_standAt (wpAny_pure ?_)))
  obtain ⟨y, H3, I4, ry, r, ms, rfl, nr, er, eD3, ml, q2⟩ := hu
  cases ry
  have l0 := mergeK_len ks []
  refine merge_ok I4 eD3 er nr (by rw [List.length_nil] at l0; omega) fun s4 I5 => ?_
  exact ⟨.ref s.heap.objs.size, _, I5, rfl, q2⟩
end Lw
namespace Lw
open PySem PySem.Spec PyProof.Rows L2 GrT GrOwn GrMg
/-! ### a def that keeps two promises, one of which may raise -/
theorem FnOk.orX {P : Program} {w : World} {K : PySem.W.Frag} {mg : Str → Option Value} {base : Heap} {CX : CXT} {k : Nat} {f : Addr} {fd : FuncData} {ps : List Str} {sp1 sp2 : Sp}
    (F : L2.FnOk P w K mg base CX0 k f fd ps sp1) (G : L2.FnOk P w K mg base CX k f fd ps sp2) : L2.FnOk P w K mg base CX k f fd ps (fun vs H Q E => sp1 vs H Q E ∨ sp2 vs H Q E) := by
  refine ⟨fun vs H Q E h => h.elim (F.len vs H Q E) (G.len vs H Q E), fun A outer s H args us vs Q E hr e0 hb r h => ?_⟩
  rcases h with h | h
  · refine codeAny_mono (F.run A outer s H args us vs Q E hr e0 hb r h) fun x s' z => ?_
    match x, z with
    | .ok (.ret u), z => exact z
    | .error e, z => exact z.elim
  · exact G.run A outer s H args us vs Q E hr e0 hb r h
/-! ### what is raised while a dict is walked: the walk's lock is gone -/
def WL (X : Cx) (W : WX) : WX := fun c d σ H => W c d σ H ∨ ∃ a od u, H a = some (.frz od u) ∧ (∀ o' u', X.H_0 a ≠ some (.frz o' u')) ∧ W c d σ (upd H a u)
theorem takes_lock {X : Cx} {W : WX} (t : Takes X W) : Takes X (WL X W) := fun u s' ⟨a, B, sI, pins, σ, H, cls, d, e, I, nb, up, sky, na, os, ag, w⟩ => by
  rcases w with w | ⟨b, od, v, hb, hn, w⟩
  · exact t u s' ⟨a, B, sI, pins, σ, H, cls, d, e, I, nb, up, sky, na, os, ag, w⟩
  · exact t u s' ⟨a, B, sI, pins, σ, upd H b v, cls, d, e, I.unlock hb hn, nb, up, sky, by
      rw [upd_ne (fun z => by rw [z, hb] at na; cases na)]
      exact na, os, ag, w⟩
/-! ### calls that may raise -/
def tSMetX (C : Addr) (sp : Sp) (E : L2.St → XK) (ta : TE) (t : TA) : TE := fun σ H Q => ta σ H fun x H1 => x = .ref C ∧ t σ H1 fun vs H2 => sp vs H2 Q (E σ)
def tMethX (C : Addr) (m : Str) (sp : Sp) (E : L2.St → XK) (ta : TE) (t : TA) : TE := fun σ H Q => ta σ H fun x H1 => ∃ a dx fs, x = .ref a ∧ H1 a = some (.ins C dx fs) ∧ fs.lookup m = none ∧ t σ H1 fun vs H2 => sp (x :: vs) H2 Q (E σ)
section
variable {X : Cx} {CX : CXT} {k : Nat} {C p g f : Addr} {mc : Value} {fd : FuncData} {ps : List Str} {sp : Sp} {E : L2.St → XK} {o e : Expr} {es : List Expr} {m : Str} {pos apos : Pos} {ta : TE} {t : TA} {pl : Sem Bool}
theorem pe_smX (he : PE X o ta) (c : SMet X.K C mc m p g) (F : L2.FnOk X.prog X.w X.K X.mg X.base CX k g fd ps sp) (hr : Room k X.A) (hb : Binds X.K fd ps []) (hx : ∀ σ, PassesAt CX X σ (E σ)) (ha : PA X (e :: es) t)
    (hst : starEach (e :: es) X.env = (false, eval e X.env) :: starEach es X.env := by rfl) (hpl : (backTo pos (starEach es X.env)).any (·.1) = false := by rfl)
    (ht : eval (.Call (.Attribute o m apos) (e :: es) [] pos) X.env = (do
      let ov ← eval o X.env
      standAt apos.atName
      let (f, first) ← holding [ov] (getMethod ov m pl)
      callWith pos f first (backTo pos (starEach (e :: es) X.env)) (backToKw pos (keywordEach [] X.env))) := by rfl) :
    PE X (.Call (.Attribute o m apos) (e :: es) [] pos) (tSMetX C sp E ta t) := by
  refine ⟨fun pins s σ H Q I h => PySem.W.methodCall_KW (pl := pl) (thn (he.run pins s σ H _ I h) fun u s1 hv => ?_) ht⟩
  obtain ⟨x, H1, I1, rx, rfl, q⟩ := hv
  obtain rfl : u = Value.ref C := rx
  obtain ⟨rest, hp⟩ := c.rc
  refine PySem.W.method_cls I1.kIn c.rd.ga (PySem.W.cls_bind I1.kIn c.rd.rd c.at_ ?_)
  refine wpAny_call (PySem.W.sm_get (s := { s1 with toks := s1.toks + 1 }) I1.kIn hp (PySem.W.handed_on rfl ?_))
  have I2 := I1.tok (s1.toks + 1)
  refine PySem.W.callWith_K (h₀ := X.base) I2.ok.mod.kin c.kp (thn (ha.run pos pins _ σ H1 _ I2 q) fun us s2 h2 => ?_) hst hpl
  obtain ⟨vs, H2, I3, rv, q2⟩ := h2
  exact ⟨I3.kIn, run_atS F hr I3.env0 hb (hx σ) I3 rv q2⟩
theorem pe_methX (he : PE X o ta) (c : Cls X.K C) (hm : Meth X.K C m f) (F : L2.FnOk X.prog X.w X.K X.mg X.base CX k f fd ps sp) (hr : Room k X.A) (hb : Binds X.K fd ps []) (hx : ∀ σ, PassesAt CX X σ (E σ)) (ha : PA X (e :: es) t)
    (hst : starEach (e :: es) X.env = (false, eval e X.env) :: starEach es X.env := by rfl) (hpl : (backTo pos (starEach es X.env)).any (·.1) = false := by rfl)
    (ht : eval (.Call (.Attribute o m apos) (e :: es) [] pos) X.env = (do
      let ov ← eval o X.env
      standAt apos.atName
      let (f, first) ← holding [ov] (getMethod ov m pl)
      callWith pos f first (backTo pos (starEach (e :: es) X.env)) (backToKw pos (keywordEach [] X.env))) := by rfl) :
    PE X (.Call (.Attribute o m apos) (e :: es) [] pos) (tMethX C m sp E ta t) := by
  refine ⟨fun pins s σ H Q I h => ?_⟩
  refine PySem.W.methodCall_KW (pl := pl) (thn (he.run pins s σ H _ I h) fun u s1 ⟨x, H1, I1, rx, a, dx, fs, ex, ea, l, q⟩ => ?_) ht
  subst ex
  obtain rfl : u = Value.ref a := rx
  refine getmeth_ok I1 ea c hm l ?_
  refine PySem.W.callWith_K (first := [.ref a]) (h₀ := X.base) I.ok.mod.kin hm.kp (thn (ha.run pos pins s1 σ H1 _ I1 q) fun us s2 ⟨vs, H2, I2, r, q2⟩ => ⟨I2.kIn, ?_⟩) hst hpl
  exact run_atS (us := .ref a :: us) (vs := .ref a :: vs) F hr I2.env0 hb (hx σ) I2 (.cons rfl r) q2
end
/-! ### {**a, k: v} -/
theorem dict1k {prog : Program} {w : World} {A : Around} {E : Value → Shared → Prop} {s : Shared} {t1 tk tv : Sem Value} {Q : Value → Shared → Prop}
    (h : wpAny (model prog w) A t1 (fun v s1 => wpAny (model prog w) A (mergeMapping s.heap.objs.size v false) (fun _ s2 => wpAny (model prog w) A (subDict [(tk, tv)]) (fun b s3 => wpAny (model prog w) A (mergeMapping s.heap.objs.size (.ref b) false) (fun _ s4 => Q (.ref s.heap.objs.size) s4) (fun _ _ => False) s3) E s2) (fun _ _ => False) s1) E { s with heap := s.heap.push { cls := .type "dict", data := .dict #[] } }) :
    wpAny (model prog w) A (dictDisplay [(none, t1), (some tk, tv)]) Q E s := by
  unfold dictDisplay
  simp only [List.forIn_cons, List.forIn_nil, List.isEmpty_nil, if_true, pure_bind, bind_assoc]
  have quiet : ∀ {m : Sem Unit} {k1 k3 : Value → Sem Unit} {k2 : Value → Sem Unit} {Q' : Unit → Shared → Prop} {E' : Value → Shared → Prop} {s' : Shared}, wpAny (model prog w) A m Q' (fun _ _ => False) s' → wpAny (model prog w) A (((m.onRaise k1).tryCatch k2).onRaise k3) Q' E' s' := fun {m k1 k3 k2 Q' E' s'} z =>
    wpAny_onRaise (wpAny_tryCatch (wpAny_onRaise (wpAny_mono z (fun _ _ q => q) fun _ _ q => q.elim)))
  refine wpAny_bind (wpAny_alloc (wpAny_bind (wpAny_holding (wpAny_mono h (fun v s1 h1 => ?_) fun _ _ z => z))))
  refine wpAny_bind (quiet (wpAny_holding (wpAny_mono h1 (fun _ s2 h2 => ?_) fun _ _ z => z)))
  have e17 : ((0 + 1 : Nat) == 17) = false := rfl
  simp only [List.nil_append, List.length_cons, List.length_nil, e17, pure_bind, List.isEmpty_cons, Bool.false_eq_true, if_false, bind_assoc]
  refine wpAny_bind (wpAny_holding (wpAny_mono h2 (fun b s3 h3 => ?_) fun _ _ z => z))
  have quiet2 : ∀ {m : Sem Unit} {k1 : Value → Sem Unit} {Q' : Unit → Shared → Prop} {E' : Value → Shared → Prop} {s' : Shared}, wpAny (model prog w) A m Q' (fun _ _ => False) s' → wpAny (model prog w) A (m.onRaise k1) Q' E' s' := fun {m k1 Q' E' s'} z =>
    wpAny_onRaise (wpAny_mono z (fun _ _ q => q) fun _ _ q => q.elim)
  refine wpAny_bind (quiet2 (wpAny_holding (wpAny_mono h3 (fun _ s4 h4 => ?_) fun _ _ z => z)))
  exact wpAny_pure h4
/-- {**x, k: v} -/
def tMrg1 (ta tk tv : TE) : TE := fun σ H Q => ∀ D, H D = none → ta σ (upd H D (.dK [])) fun x H1 => ∃ a ks, x = .ref a ∧ a ≠ D ∧ H1 a = some (.dK ks) ∧ H1 D = some (.dK []) ∧ ks.length ≤ 400 ∧
  ∀ B, upd H1 D (.dK (mergeK [] ks)) B = none → tk σ (upd (upd H1 D (.dK (mergeK [] ks))) B (.dK [])) fun y H2 => tv σ H2 fun z H3 => ∃ k, y = kV k ∧ H3 B = some (.dK []) ∧ H3 D = some (.dK (mergeK [] ks)) ∧ B ≠ D ∧
    Q (.ref D) (upd (upd H3 B (.dK [(k, z)])) D (.dK (putK (mergeK [] ks) k z)))
theorem pe_mrg1 {X : Cx} {a k v : Expr} {ta tk tv : TE} {pos : Pos} (ha : PE X a ta) (hk : PE X k tk) (hv : PE X v tv)
    (he : eval (.Dict [none, some k] [a, v] pos) X.env = (do
      standAt pos
      dictDisplay [(none, do let x ← eval a X.env; standAt pos; pure x), (some (eval k X.env), do let x ← eval v X.env; standAt pos; pure x)]) := by rfl) : PE X (.Dict [none, some k] [a, v] pos) (tMrg1 ta tk tv) := by
  refine ⟨fun pins s σ H Q I h => ?_⟩
  rw [he]
  have hn : H s.heap.objs.size = none := I.hok.fresh (Nat.le_refl _)
  have I1 := I.laid (a := s.heap.objs.size) (o := .dK []) (t' := s.toks) (fun _ _ q => Heap.get?_push_of_some _ q) (Nat.le_refl _) (dk_empty s.heap I.big)
  refine wpAny_bind (wpAny_standAt (dict1k ?_))
  refine wpAny_bind (thn (ha.run pins _ σ _ _ I1 (h _ hn)) fun v s1 hv' => wpAny_bind (wpAny_standAt (wpAny_pure ?_)))
  obtain ⟨x, H1, I2, rx, p, ks, rfl, np, ep, eD, kl, q1⟩ := hv'
  cases rx
  refine merge_ok I2 eD ep np (by rw [List.length_nil]; omega) fun s2 I3 => ?_
  have hn2 : (upd H1 s.heap.objs.size (.dK (mergeK [] ks))) s2.heap.objs.size = none := I3.hok.fresh (Nat.le_refl _)
  have I4 := I3.laid (a := s2.heap.objs.size) (o := .dK []) (t' := s2.toks) (fun _ _ q => Heap.get?_push_of_some _ q) (Nat.le_refl _) (dk_empty s2.heap I3.big)
  refine wpAny_subDict (knd := mixKind X.prog X.w) (by show 1 ≤ 15; decide) ?_
  refine evalPairs_cons (thn (hk.run pins _ σ _ _ I4 (q1 _ hn2)) fun u s3 hu => ?_)
  obtain ⟨y, H2, I5, ry, q2⟩ := hu
  refine wpAny_bind (thn (hv.run pins _ σ _ _ I5 q2) fun u2 s4 hu2 => wpAny_bind (wpAny_standAt (wpAny_pure ?_)))
  obtain ⟨z, H3, I6, rz, kk, rfl, eB, eD3, ne, q3⟩ := hu2
  refine evalPairs_nil ?_
  have rel : VV ([(kk, z)].map (fun kv : Key × V => (kV kv.1, kv.2))) [(u, u2)] := .cons ⟨ry, rz⟩ .nil
  obtain ⟨rs, c, rk⟩ := carries_of (P := X.prog) (w := X.w) rel
  obtain ⟨zz, hd, vs0, r0, dd⟩ := dk_of I6.hok eB
  cases r0
  refine ⟨rs, c, dd, fun h' dd' hs => ?_⟩
  have hez : ∃ q, h'.get? s2.heap.objs.size = some q := let ⟨q, _, _, hq, _⟩ := dd'; ⟨q, hq⟩
  have I7 := d_write I6 (t' := s4.toks + [(u, u2)].length) (by rw [eB]; exact True.intro) hs hez (dk_new (kvs := [(kk, z)]) (by show 1 ≤ sizeLine; rw [sizeLine_eq]; decide) hd (rk.merge .nil) dd')
  have eB7 : (upd H3 s2.heap.objs.size (.dK [(kk, z)])) s2.heap.objs.size = some (.dK [(kk, z)]) := upd_same
  have eD7 : (upd H3 s2.heap.objs.size (.dK [(kk, z)])) s.heap.objs.size = some (.dK (mergeK [] ks)) := by
    rw [upd_ne ne.symm]
    exact eD3
  have l0 := mergeK_len ks []
  refine merge_ok I7 eD7 eB7 ne (by rw [List.length_nil] at l0; show (mergeK [] ks).length + 1 ≤ 1000; omega) fun s5 I8 => ?_
  exact ⟨.ref s.heap.objs.size, _, I8, rfl, q3⟩
end Lw
namespace Lw
open PySem PySem.Spec PyProof.Rows L2 GrT GrOwn GrMg
theorem merge_app : ∀ {l m : List (Str × V)}, (names (m ++ l)).Nodup → mergeK (dk m) (dk l) = dk (m ++ l)
  | [], m, _ => by rw [List.append_nil]; rfl
  | (x, v) :: r, m, h => by
    have h0 : (names m ++ x :: names r).Nodup := by
      have e : names (m ++ (x, v) :: r) = names m ++ x :: names r := by simp [names]
      rw [← e]
      exact h
    have h1 := List.nodup_append.mp h0
    have hx : x ∉ names m := fun z => h1.2.2 x z x List.mem_cons_self rfl
    show mergeK (putK (dk m) (Sum.inr x) v) (dk r) = _
    rw [dk_put x v m h1.1, put_any hx, merge_app (by rw [List.append_assoc]; exact h), List.append_assoc]
    rfl
theorem merge_nil {l : List (Str × V)} (h : (names l).Nodup) : mergeK [] (dk l) = dk l := merge_app (m := []) h
theorem rc_new {S S1 S2 : Addr → Prop} {C a : Addr} {H1 H' : Hp} {n : Nat} {lm l : List (Str × V)} {U : List (Str × T)} (pm : (names lm).Perm (names U)) (wf : Wf 40 U) (ch : ∀ x v u, look x lm = some v → look x U = some u → Rc S C H1 n v u)
    (ra : RA S1 C H' a l (lm.length + ((names lm).map (szf U)).sum)) (pl : (names l).Perm (names lm)) (lk : ∀ x, look x l = look x lm) (k : ∀ b o, S b → H1 b = some o → Ro o → H' b = some o) (w1 : ∀ b, S b → S2 b) (w2 : ∀ b, S1 b → S2 b) : Rc S2 C H' (n + 1) (.ref a) (.fds U) := by
  have e : (lm.length : Int) + ((names lm).map (szf U)).sum = nfs U := by
    have h1 : lm.length = U.length := by
      have := pm.length_eq
      rwa [List.length_map, List.length_map] at this
    rw [sum_perm pm, h1]
    exact nfs_len wf.nd
  rw [e] at ra
  exact .inr ⟨a, l, U, rfl, rfl, ra.wid w2, wf, pl.trans pm, fun x v u h1 h2 => ((ch x v u (by rw [← lk]; exact h1) h2).keep k).wid w1⟩
def All : Addr → Prop := fun _ => True
theorem Rc.out {S : Addr → Prop} {C : Addr} {H : Hp} {n : Nat} {a : Addr} {fs : List (Str × T)} (h : Rc S C H (n + 1) (.ref a) (.fds fs)) : ∃ l, RA S C H a l (nfs fs) ∧ Wf 40 fs ∧ (names l).Perm (names fs) ∧ ∀ x v u, look x l = some v → look x fs = some u → Rc S C H n v u := by
  refine h.cases (fun i e _ => by cases e) fun k a' l fs' en e1 e2 ra wf pm ch => ?_
  cases en
  cases e1
  cases e2
  exact ⟨l, ra, wf, pm, ch⟩
theorem perm_put {α β : Type} {l : List (Str × α)} {fs : List (Str × β)} {x : Str} {v : α} {t : β} (pm : (names l).Perm (names fs)) : (names (GrT.put x v l)).Perm (names (GrT.put x t fs)) := by
  rw [names_put, names_put]
  by_cases h : x ∈ names l
  · rw [if_pos h, if_pos (pm.mem_iff.mp h)]
    exact pm
  · rw [if_neg h, if_neg fun z => h (pm.mem_iff.mpr z)]
    exact pm.append_right _
def spPut (C CB : Addr) (n : Nat) : Sp := fun vs H Q E => ∃ (a : Addr) (fs : List (Str × T)) (x : Str) (v : V) (t : T), vs = [.ref a, .str x, v] ∧ Rc All C H (n + 1) (.ref a) (.fds fs) ∧ Rc All C H n v t ∧ fs.length ≤ 39 ∧ x.length ≤ 1000 ∧ (∀ c ∈ x.cps.toList, c < 16 ^ 8) ∧
  (Good x → ∀ r H', Rc All C H' (n + 1) (.ref r) (.fds (GrT.put x t fs)) → Same H H' → Q (.ref r) H') ∧
  (¬ Good x → ∀ d H', H' d = some (.xd [("name", .str x)]) → Same H H' → E (.ref CB) (some d) H')
abbrev sPut : Stmt := inClass (top 11) 5
section
variable {P : Program} {w : World} {K : PySem.W.Frag} {mg : Str → Option Value} {base : Heap} {C CB : Addr}
theorem scPut : FnScope ["self", "name", "value"] ["self", "name", "value"] (defScope sPut) := ⟨rfl, rfl, rfl, by decide +kernel, rfl, by decide +kernel, by decide +kernel⟩
theorem fn_put (T : Bu mg) (R : RecK K mg C) (I : InK K C) (vs_ : Cal P w K mg base 3 "value_size" (spVs C)) (iw : Cal P w K mg base 1 "is_name" spIsWord) (Z : ExK P K mg "BadName" "BadName.__init__" sBadInit CB) (n : Nat)
    {f : Addr} {fd : FuncData} (F : L2.Fun K "put" "Record.put" sPut f fd) : FnOk P w K mg base (L2.CX P w) 7 f fd ["self", "name", "value"] (spPut C CB n) := by
  obtain ⟨fI, fdI, iC, tI, FI, bI⟩ := fn_badname (w := w) (base := base) Z
  refine Fun.okX F scPut (fun vs H Q E h => ?_) (fun cdv A outer s H vs Q E hr h => ?_)
  · obtain ⟨a, fs, x, v, t, rfl, _⟩ := h
    rfl
  · obtain ⟨a, fs, x, v, t, rfl, rc, rv, hl, xl, xc, q1, q2⟩ := h
    have hr2 : Room 2 (A.deeper (envOfC "Record.put" (defScope sPut) s.heap.objs.size f cdv)) := hr.mono (by decide)
    obtain ⟨l, ⟨⟨dx, tp, d1, _, ea, _, ed1⟩, nl, _⟩, wf, pm, ch⟩ := Rc.out rc
    refine ⟨_, (pss_cons (ps_if (pt_not (pt_val (pe_c iw hr (by decide) rfl (pa_cons (pv 1) pa_nil))))
      (pss_one (ps_raise rfl (takes_of rfl rfl rfl rfl) (pmk_oex Z.T iC tI FI hr2 bI .nil pass0 (by rfl) Z.mgC (pa_cons (pv 1) pa_nil))))
      pss_nil)
      (pss_one (ps_ret (pe_new T R vs_ I hr (by decide) (by rfl) (pa_cons (pe_mrg1 (pe_fld (pv 0) rfl) (pv 1) (pv 2)) pa_nil))))), ?_⟩
    refine ⟨_, rfl, x, rfl, by omega, fun H0 s0 => ⟨_, rfl, ?_⟩⟩
    by_cases g : Good x
    · rw [goodB_iff.mpr g]
      refine iteF ?_
      intro D hD
      have s1 : Same H (upd H0 D (.dK [])) := Same.new s0 hD
      have ed0 := s0 _ _ ed1
      have ne1 : d1 ≠ D := ne_of_none ed0 hD
      have ll : l.length = fs.length := by
        have := pm.length_eq
        rwa [List.length_map, List.length_map] at this
      refine ⟨_, rfl, a, C, dx, _, _, rfl, s1 _ _ ea, R.cl, R.nF, rf_fields _ _ _, d1, dk l, rfl, ne1, s1 _ _ ed1, upd_same, by rw [dk_len]; omega, ?_⟩
      rw [merge_nil nl, upd_upd]
      intro B hB
      have BD : B ≠ D := fun z => by
        rw [z, upd_same] at hB
        cases hB
      have eB2 : (upd (upd H0 D (.dK (dk l))) B (.dK [])) D = some (.dK (dk l)) := by
        rw [upd_ne BD.symm]
        exact upd_same
      refine ⟨_, rfl, _, rfl, Sum.inr x, rfl, upd_same, eB2, BD, ?_⟩
      rw [dk_put x v l nl, upd_upd]
      have s2 : Same H (upd (upd (upd H0 D (.dK (dk l))) B (.dK [(Sum.inr x, v)])) D (.dK (dk (GrT.put x v l)))) := by
        intro b o e
        have e0 := s0 _ _ e
        have n1 : b ≠ D := ne_of_none e0 hD
        have n2 : b ≠ B := ne_of_none (by rw [upd_ne n1]; exact e0) hB
        rw [upd_ne n1, upd_ne n2, upd_ne n1]
        exact e0
      have eD : (upd (upd (upd H0 D (.dK (dk l))) B (.dK [(Sum.inr x, v)])) D (.dK (dk (GrT.put x v l)))) D = some (.dK (dk (GrT.put x v l))) := upd_same
      generalize (upd (upd (upd H0 D (.dK (dk l))) B (.dK [(Sum.inr x, v)])) D (.dK (dk (GrT.put x v l)))) = H1 at s2 eD ⊢
      intro y dx1 hx hdx hne
      have eX : (upd (upd H1 dx1 (.own y)) y (.ins C dx1 [])) y = some (.ins C dx1 []) := upd_same
      have sX : Same H1 (upd (upd H1 dx1 (.own y)) y (.ins C dx1 [])) := Same.new (Same.new (Same.refl _) hdx) (by rw [upd_ne hne.symm]; exact hx)
      generalize upd (upd H1 dx1 (.own y)) y (.ins C dx1 []) = HX at eX sX ⊢
      have s4 := s2.trans sX
      have cu : ∀ z v' u, look z (GrT.put x v l) = some v' → look z (GrT.put x t fs) = some u → Rc All C H n v' u := fun z v' u h1 h2 => by
        rw [look_put] at h1 h2
        by_cases e : z = x
        · rw [if_pos e] at h1 h2
          cases h1
          cases h2
          exact rv
        · rw [if_neg e] at h1 h2
          exact ch z v' u h1 h2
      have pu : (names (GrT.put x v l)).Perm (names (GrT.put x t fs)) := perm_put pm
      have wu : Wf 40 (GrT.put x t fs) := Wf.mono (Wf.put (L := 39) ⟨wf.nd, hl, wf.gd⟩ g) (by decide)
      have lp := length_put (x := x) (y := v) (l := l)
      refine ⟨y, dx1, D, GrT.put x v l, szf (GrT.put x t fs), rfl, eX, sX _ _ eD, nodup_put nl, by omega, fun z v' hv => ?_, fun l' H'' ra p2 lk fx => ⟨rfl, q1 g y H'' ?_ ?_⟩⟩
      · obtain ⟨u, hu⟩ := look_some (pu.mem_iff.mp (List.mem_map.mpr ⟨_, look_mem hv, rfl⟩))
        have z1 := Rc.sz ((cu z v' u hv hu).same s4)
        unfold szf
        rw [hu]
        exact z1
      · exact rc_new pu wu cu ra p2 lk (fun c o _ e _ => fx c o (fun z => by rw [z, s2.free hx] at e; cases e) (s4 _ _ e)) (fun _ _ => True.intro) (fun _ _ => True.intro)
      · exact fun c o e => fx c o (fun z => by rw [z, s2.free hx] at e; cases e) (s4 _ _ e)
    · have gb : goodB x = false := by
        rw [← Bool.not_eq_true, goodB_iff]
        exact g
      rw [gb]
      refine iteT ⟨_, rfl, by show 1 ≤ 1000; decide, fun ea2 he => ⟨ea2, x, rfl, upd_same, xl, xc, fun d2 hd2 hde => ⟨rfl, d2, _, upd_same, by rw [upd_ne hde]; exact upd_same, ?_, ?_⟩⟩⟩
      · rw [upd_ne hde] at hd2
        exact hd2
      · refine q2 g d2 _ upd_same fun c o z0 => ?_
        have z := s0 _ _ z0
        have h0 : H0 d2 = none := by
          rw [upd_ne hde] at hd2
          exact hd2
        have n1 : c ≠ ea2 := ne_of_none z he
        rw [upd_ne (ne_of_none z h0), del_ne n1, upd_ne n1, upd_ne (ne_of_none z h0), upd_ne n1]
        exact z
end
end Lw
namespace GrT
open PySem L2
section
variable {α : Type}
def flt (c : Str → Bool) (l : List (Str × α)) : List (Str × α) := l.filter fun p => c p.1
theorem names_flt {c : Str → Bool} {l : List (Str × α)} : names (flt c l) = (names l).filter c := by
  unfold flt names
  rw [List.filter_map]
  rfl
theorem look_flt {c : Str → Bool} {x : Str} : ∀ {l : List (Str × α)}, look x (flt c l) = if c x = true then look x l else none
  | [] => by simp [flt, look]
  | (y, v) :: r => by
    have ih := look_flt (c := c) (x := x) (l := r)
    unfold flt at ih ⊢
    rw [List.filter_cons]
    by_cases h : c y = true
    · rw [if_pos h]
      unfold look
      by_cases e : y = x
      · subst e
        rw [if_pos rfl, if_pos rfl, if_pos h]
      · rw [if_neg e, if_neg e]
        exact ih
    · rw [if_neg h]
      by_cases e : y = x
      · subst e
        rw [ih, if_neg h, if_neg h]
      · rw [ih]
        conv => rhs; unfold look
        rw [if_neg e]
end
theorem Wf.flt {L : Nat} {c : Str → Bool} {fs : List (Str × T)} (h : Wf L fs) : Wf L (GrT.flt c fs) :=
  ⟨by rw [names_flt]; exact h.nd.sublist List.filter_sublist, Nat.le_trans (List.length_filter_le _ _) h.ln, fun p hp => h.gd p (List.mem_filter.mp hp).1⟩
end GrT
namespace Lw
open PySem PySem.Spec PyProof.Rows L2 GrT GrOwn GrMg
theorem pe_fldK {X : Cx} {K : PySem.W.Frag} {e : Expr} {ta : TE} {f : Str} {pos : Pos} (h : X.K = K) (he : PE X e ta) (hb : attributeBase e f X.env (eval e X.env) = eval e X.env) : PE X (.Attribute e f pos) (tFld K ta f) := h ▸ pe_fld he hb
abbrev sWithout : Stmt := inClass (top 11) 6
abbrev sOnly : Stmt := inClass (top 11) 7
/-- the names that stay -/
def fl (xs : List Str) (there : Bool) (x : Str) : Bool := decide (x ∈ xs) == there
def spFewS (C : Addr) (n : Nat) (there : Bool) : Sp := fun vs H Q _ => ∃ (a p : Addr) (fs : List (Str × T)) (xs : List Str), vs = [.ref a, .ref p] ∧ Rc All C H (n + 1) (.ref a) (.fds fs) ∧ H p = some (.tup (xs.map V.str)) ∧
  ∀ r H', Rc All C H' (n + 1) (.ref r) (.fds (flt (fl xs there) fs)) → Same H H' → Q (.ref r) H'
def spFew (C : Addr) (n : Nat) (there : Bool) : Sp := fun vs H Q _ => ∃ (a : Addr) (fs : List (Str × T)) (xs : List Str), vs = .ref a :: xs.map V.str ∧ xs.length ≤ 1000 ∧ Rc All C H (n + 1) (.ref a) (.fds fs) ∧
  ∀ r H', Rc All C H' (n + 1) (.ref r) (.fds (flt (fl xs there) fs)) → Same H H' → Q (.ref r) H'
theorem inV_dec (x : Str) (xs : List Str) : inV (.str x) (xs.map V.str) = decide (x ∈ xs) := by
  by_cases h : x ∈ xs
  · rw [decide_eq_true h]
    exact inV_str.mpr h
  · rw [decide_eq_false h, ← Bool.not_eq_true]
    exact fun z => h (inV_str.mp z)
section
variable {P : Program} {w : World} {K : PySem.W.Frag} {mg : Str → Option Value} {base : Heap} {C : Addr}
theorem scWithout : FnScope ["self", "names", "name", "value"] ([("self" : Str)] ++ [("names" : Str)]) (defScope sWithout) := ⟨rfl, rfl, rfl, by decide +kernel, rfl, by decide +kernel, by decide +kernel⟩
theorem fn_without (T : Bu mg) (R : RecK K mg C) (I : InK K C) (vs_ : Cal P w K mg base 3 "value_size" (spVs C)) (n : Nat) {f : Addr} {fd : FuncData} (F : L2.Fun K "without" "Record.without" sWithout f fd) : FnR P w K mg base CX0 6 f (spFew C n false) := by
  obtain ⟨oc, od0, kw0, doc, pmd, an, cdv, ct, osl, rfl, lk, hcd⟩ := F.ex
  have G := StX.fn_star (P := P) (w := w) (K := K) (mg := mg) (base := base) (CX := CX0) (k := 5) (ps := ["self"]) (pv := "names") (sp := spFewS C n false) lk hcd scWithout StX.cxUp_none (StX.bind_star1 (B := fun us => bindArgs (PySem.W.fnOf "without" "Record.without" (defArgs sWithout) (defBody sWithout) (defScope sWithout) .none kw0 doc pmd an cdv ct) ⟨us, []⟩) (fun a => rfl) (fun a r rs => rfl))
    (fun A outer s H vs Q E hr h => by
    suffices hh : ∃ t, PSs (cxOf CX0 P w K mg base ["self", "names", "name", "value"] "Record.without" (defScope sWithout) f cdv A outer s H E).nox (defBody sWithout) t ∧ t { nx := fun _ H' => Q .non H', rt := Q } (start ["self", "names", "name", "value"] vs) H by
      obtain ⟨t, h1, h2⟩ := hh
      exact ⟨t, h1.nox, h2⟩
    obtain ⟨a, p, fs, xs, rfl, r1, ep, q⟩ := h
    have hu := hu_of hr
    obtain ⟨l, ⟨⟨dx, tp, d1, _, ea, _, ed1⟩, nl, _⟩, wf, pm, ch⟩ := Rc.out r1
    refine ⟨_, (pss_one (ps_ret (pe_new T R vs_ I hr (by decide) (by rfl) (pa_cons (pe_lock (pe_dc (own := [("name", 2), ("value", 3)]) (g := gTup K 2 (gCons (gName 2) (gCons (gName 3) gNil))) rfl scWithout.nd (pi_items (pe_fld (pv 0) rfl)) (blkOk_by (own := [("name", 2), ("value", 3)]) (N := ["self", "names", "name", "value"]) (sc := defScope sWithout) (by decide +kernel))
      (fun _ _ _ _ _ => pg_tup rfl (pgs_cons (pg_name (i := 2) scWithout.nd rfl (Or.inl rfl)) (pgs_cons (pg_name (i := 3) scWithout.nd rfl (Or.inl rfl)) pgs_nil))) (fun _ _ _ _ _ => (by exact (pts_one (pt_cmpR (op_notInK (K := K) rfl) (pv 2) (pv 1) (by rfl))))) (fun _ _ _ _ _ => (by exact (pv 2))) (fun _ _ _ _ _ => (by exact (pv 3))))) pa_nil)))), ?_⟩
    have hfl := wf.ln
    have ll : l.length = fs.length := by
      have := pm.length_eq
      rwa [List.length_map, List.length_map] at this
    have ad1 : a ≠ d1 := fun z => by
      rw [z, ed1] at ea
      cases ea
    refine ⟨d1, .dK (dk l), ed1, True.intro, fun od => ?_⟩
    have eaB : (upd H d1 (.frz od (.dK (dk l)))) a = some (.ins C dx (rf tp d1 (nfs fs))) := by
      rw [upd_ne ad1]
      exact ea
    have epB : (upd H d1 (.frz od (.dK (dk l)))) p = some (.tup (xs.map V.str)) := by
      rw [upd_ne (fun z => by rw [z, ed1] at ep; cases ep)]
      exact ep
    have edB : (upd H d1 (.frz od (.dK (dk l)))) d1 = some (.frz od (.dK (dk l))) := upd_same
    have take1 : ∀ i x v, l[i]? = some (x, v) → flt (fl xs false) (l.take (i + 1)) = flt (fl xs false) (l.take i) ++ (if fl xs false x = true then [(x, v)] else []) := fun i x v h => by
      unfold flt
      rw [List.take_add_one, h, List.filter_append, Option.toList_some, List.filter_cons, List.filter_nil]
    refine ⟨_, rfl, a, C, dx, _, _, rfl, eaB, R.cl, R.nF, rf_fields _ _ _, d1, od, dk l, rfl, edB, fun D hD => dc_it walk_items (fun i H5 => H5 D = some (.dK (dk (flt (fl xs false) (l.take i)))) ∧ Same (upd H d1 (.frz od (.dK (dk l)))) H5)
      ⟨upd_same, Same.new (Same.refl _) hD⟩ (fun i H5 _ h => h.2 _ _ edB) ?_ ?_⟩
    · rintro i y H5 H6 hi ⟨eD, sm⟩ ⟨Tp, x1, y1, rfl, hT, rfl, hx1, hy1⟩
      have hi2 : i < l.length := by
        rw [dk_len] at hi
        exact hi
      obtain ⟨⟨x, v⟩, hx⟩ : ∃ p, l[i]? = some p := ⟨l[i], List.getElem?_eq_getElem hi2⟩
      have hd : (dk l)[i]? = some (Sum.inr x, v) := by
        unfold dk
        rw [List.getElem?_map, hx]
        rfl
      have hx2 : ((dk l)[i]?).map (fun kv => kV kv.1) = some x1 := hx1
      have hy2 : ((dk l)[i]?).map Prod.snd = some y1 := hy1
      rw [hd] at hx2 hy2
      cases hx2
      cases hy2
      have eT : (upd H5 Tp (.tup [kV (Sum.inr x), v])) Tp = some (.tup [kV (Sum.inr x), v]) := upd_same
      have s6 : Same (upd H d1 (.frz od (.dK (dk l)))) (upd H5 Tp (.tup [kV (Sum.inr x), v])) := Same.new sm hT
      have eD6 : (upd H5 Tp (.tup [kV (Sum.inr x), v])) D = some (.dK (dk (flt (fl xs false) (l.take i)))) := by
        rw [upd_ne (ne_of_none eD hT)]
        exact eD
      generalize upd H5 Tp (.tup [kV (Sum.inr x), v]) = H4 at eT s6 eD6 ⊢
      refine ⟨Tp, _, rfl, SqT.of eT, rfl, _, _, rfl, _, _, rfl, rfl, ?_⟩
      have t1 := take1 i x v hx
      refine ⟨rfl, _, rfl, _, rfl, p, _, rfl, .inr (SqT.of (s6 _ _ epB)), rfl, flat_str _, _, rfl, ?_⟩
      have hno : x ∉ names (flt (fl xs false) (l.take i)) := fun hm => by
        rw [names_flt] at hm
        have hm2 := (List.mem_filter.mp hm).1
        have e1 : names (l.take i) = (names l).take i := by simp [names, List.map_take]
        rw [e1] at hm2
        obtain ⟨j, hj, ej⟩ := List.mem_take_iff_getElem.mp hm2
        have e2 : (names l)[i]? = some x := by rw [List.getElem?_map, hx]; rfl
        have hi3 : i < (names l).length := (List.getElem?_eq_some_iff.mp e2).1
        have e3 : (names l)[i] = x := (List.getElem?_eq_some_iff.mp e2).2
        have := (List.getElem_inj nl).mp (ej.trans e3.symm)
        omega
      have ndt : (names (flt (fl xs false) (l.take i))).Nodup := by
        rw [names_flt]
        have e1 : names (l.take i) = (names l).take i := by simp [names, List.map_take]
        rw [e1]
        exact (nl.sublist (List.take_sublist _ _)).sublist List.filter_sublist
      have ec : (!inV (V.str x) (xs.map V.str)) = fl xs false x := by
        rw [inV_dec]
        unfold fl
        cases decide (x ∈ xs) <;> rfl
      cases hc : fl xs false x with
      | true =>
        rw [hc] at t1 ec
        refine (show ite ((!inV (V.str x) (xs.map V.str)) = true) _ _ from by rw [ec]; exact iteT ⟨_, rfl, _, rfl, _, Sum.inr x, rfl, eD6, Nat.lt_of_lt_of_le (m := 100) (by rw [dk_len]; exact Nat.lt_of_le_of_lt (List.length_filter_le _ _) (by rw [List.length_take]; omega)) (line_big (by decide)), by
          rw [upd_same, dk_put x v _ ndt, put_new hno, t1]
          rfl, fun c o e => by
          rw [upd_ne (ne_of_none e hD)]
          exact s6 c o e⟩)
      | false =>
        rw [hc] at t1 ec
        refine (show ite ((!inV (V.str x) (xs.map V.str)) = true) _ _ from by rw [ec]; exact iteF ⟨by
          rw [t1, eD6]
          simp, s6⟩)
    · rintro H5 ⟨eD, sm⟩
      rw [dk_len, List.take_length] at eD
      have e5 := sm _ _ edB
      refine ⟨e5, ?_⟩
      have D1 : D ≠ d1 := (ne_of_none edB hD).symm
      have hD0 : H D = none := by
        rw [upd_ne D1] at hD
        exact hD
      have s3 : Same H (upd H5 d1 (.dK (dk l))) := Same.unlock ed1 sm
      have eDU : (upd H5 d1 (.dK (dk l))) D = some (.dK (dk (flt (fl xs false) l))) := by
        rw [upd_ne D1]
        exact eD
      generalize upd H5 d1 (.dK (dk l)) = H1 at s3 eDU ⊢
      intro x dx1 hx hdx hne
      have eX : (upd (upd H1 dx1 (.own x)) x (.ins C dx1 [])) x = some (.ins C dx1 []) := upd_same
      have sX : Same H1 (upd (upd H1 dx1 (.own x)) x (.ins C dx1 [])) := Same.new (Same.new (Same.refl _) hdx) (by rw [upd_ne hne.symm]; exact hx)
      generalize upd (upd H1 dx1 (.own x)) x (.ins C dx1 []) = HX at eX sX ⊢
      have s4 := s3.trans sX
      have cu : ∀ y v u, look y (flt (fl xs false) l) = some v → look y (flt (fl xs false) fs) = some u → Rc All C H n v u := fun y v u h1 h2 => by
        rw [look_flt] at h1 h2
        split at h1
        · rename_i c
          rw [if_pos c] at h2
          exact ch y v u h1 h2
        · cases h1
      have pu : (names (flt (fl xs false) l)).Perm (names (flt (fl xs false) fs)) := by
        rw [names_flt, names_flt]
        exact pm.filter _
      have ln : (flt (fl xs false) l).length ≤ l.length := List.length_filter_le _ _
      have ndl : (names (flt (fl xs false) l)).Nodup := by
        rw [names_flt]
        exact nl.sublist List.filter_sublist
      refine ⟨x, dx1, D, flt (fl xs false) l, szf (flt (fl xs false) fs), rfl, eX, sX _ _ eDU, ndl, by omega, fun y v hv => ?_, fun l' H'' ra p2 lk fx => ⟨rfl, q x H'' ?_ ?_⟩⟩
      · obtain ⟨u, hu⟩ := look_some (pu.mem_iff.mp (List.mem_map.mpr ⟨_, look_mem hv, rfl⟩))
        have z := Rc.sz ((cu y v u hv hu).same s4)
        unfold szf
        rw [hu]
        exact z
      · exact rc_new pu wf.flt cu ra p2 lk (fun c o _ e _ => fx c o (fun z => by rw [z, s3.free hx] at e; cases e) (s4 _ _ e)) (fun _ _ => True.intro) (fun _ _ => True.intro)
      · exact fun c o e => fx c o (fun z => by rw [z, s3.free hx] at e; cases e) (s4 _ _ e))
  intro A outer s H us vs Q E hr e0 r h
  obtain ⟨a, fs, xs, rfl, xl, rc, q⟩ := h
  refine G A outer s H us _ Q E hr e0 r ⟨[.ref a], xs.map V.str, rfl, rfl, line_big (by rw [List.length_map]; omega), fun p hp => ⟨a, p, fs, xs, rfl, rc.same (Same.new (Same.refl _) hp), upd_same, fun r H' rr s' => q r H' rr ((Same.new (Same.refl _) hp).trans s')⟩⟩
theorem scOnly : FnScope ["self", "names", "name", "value"] ([("self" : Str)] ++ [("names" : Str)]) (defScope sOnly) := ⟨rfl, rfl, rfl, by decide +kernel, rfl, by decide +kernel, by decide +kernel⟩
theorem fn_only (T : Bu mg) (R : RecK K mg C) (I : InK K C) (vs_ : Cal P w K mg base 3 "value_size" (spVs C)) (n : Nat) {f : Addr} {fd : FuncData} (F : L2.Fun K "only" "Record.only" sOnly f fd) : FnR P w K mg base CX0 6 f (spFew C n true) := by
  obtain ⟨oc, od0, kw0, doc, pmd, an, cdv, ct, osl, rfl, lk, hcd⟩ := F.ex
  have G := StX.fn_star (P := P) (w := w) (K := K) (mg := mg) (base := base) (CX := CX0) (k := 5) (ps := ["self"]) (pv := "names") (sp := spFewS C n true) lk hcd scOnly StX.cxUp_none (StX.bind_star1 (B := fun us => bindArgs (PySem.W.fnOf "only" "Record.only" (defArgs sOnly) (defBody sOnly) (defScope sOnly) .none kw0 doc pmd an cdv ct) ⟨us, []⟩) (fun a => rfl) (fun a r rs => rfl))
    (fun A outer s H vs Q E hr h => by
    suffices hh : ∃ t, PSs (cxOf CX0 P w K mg base ["self", "names", "name", "value"] "Record.only" (defScope sOnly) f cdv A outer s H E).nox (defBody sOnly) t ∧ t { nx := fun _ H' => Q .non H', rt := Q } (start ["self", "names", "name", "value"] vs) H by
      obtain ⟨t, h1, h2⟩ := hh
      exact ⟨t, h1.nox, h2⟩
    obtain ⟨a, p, fs, xs, rfl, r1, ep, q⟩ := h
    have hu := hu_of hr
    obtain ⟨l, ⟨⟨dx, tp, d1, _, ea, _, ed1⟩, nl, _⟩, wf, pm, ch⟩ := Rc.out r1
    refine ⟨_, (pss_one (ps_ret (pe_new T R vs_ I hr (by decide) (by rfl) (pa_cons (pe_lock (pe_dc (own := [("name", 2), ("value", 3)]) (g := gTup K 2 (gCons (gName 2) (gCons (gName 3) gNil))) rfl scOnly.nd (pi_items (pe_fld (pv 0) rfl)) (blkOk_by (own := [("name", 2), ("value", 3)]) (N := ["self", "names", "name", "value"]) (sc := defScope sOnly) (by decide +kernel))
      (fun _ _ _ _ _ => pg_tup rfl (pgs_cons (pg_name (i := 2) scOnly.nd rfl (Or.inl rfl)) (pgs_cons (pg_name (i := 3) scOnly.nd rfl (Or.inl rfl)) pgs_nil))) (fun _ _ _ _ _ => (by exact (pts_one (pt_cmpR (op_inK (K := K) rfl) (pv 2) (pv 1) (by rfl))))) (fun _ _ _ _ _ => (by exact (pv 2))) (fun _ _ _ _ _ => (by exact (pv 3))))) pa_nil)))), ?_⟩
    have hfl := wf.ln
    have ll : l.length = fs.length := by
      have := pm.length_eq
      rwa [List.length_map, List.length_map] at this
    have ad1 : a ≠ d1 := fun z => by
      rw [z, ed1] at ea
      cases ea
    refine ⟨d1, .dK (dk l), ed1, True.intro, fun od => ?_⟩
    have eaB : (upd H d1 (.frz od (.dK (dk l)))) a = some (.ins C dx (rf tp d1 (nfs fs))) := by
      rw [upd_ne ad1]
      exact ea
    have epB : (upd H d1 (.frz od (.dK (dk l)))) p = some (.tup (xs.map V.str)) := by
      rw [upd_ne (fun z => by rw [z, ed1] at ep; cases ep)]
      exact ep
    have edB : (upd H d1 (.frz od (.dK (dk l)))) d1 = some (.frz od (.dK (dk l))) := upd_same
    have take1 : ∀ i x v, l[i]? = some (x, v) → flt (fl xs true) (l.take (i + 1)) = flt (fl xs true) (l.take i) ++ (if fl xs true x = true then [(x, v)] else []) := fun i x v h => by
      unfold flt
      rw [List.take_add_one, h, List.filter_append, Option.toList_some, List.filter_cons, List.filter_nil]
    refine ⟨_, rfl, a, C, dx, _, _, rfl, eaB, R.cl, R.nF, rf_fields _ _ _, d1, od, dk l, rfl, edB, fun D hD => dc_it walk_items (fun i H5 => H5 D = some (.dK (dk (flt (fl xs true) (l.take i)))) ∧ Same (upd H d1 (.frz od (.dK (dk l)))) H5)
      ⟨upd_same, Same.new (Same.refl _) hD⟩ (fun i H5 _ h => h.2 _ _ edB) ?_ ?_⟩
    · rintro i y H5 H6 hi ⟨eD, sm⟩ ⟨Tp, x1, y1, rfl, hT, rfl, hx1, hy1⟩
      have hi2 : i < l.length := by
        rw [dk_len] at hi
        exact hi
      obtain ⟨⟨x, v⟩, hx⟩ : ∃ p, l[i]? = some p := ⟨l[i], List.getElem?_eq_getElem hi2⟩
      have hd : (dk l)[i]? = some (Sum.inr x, v) := by
        unfold dk
        rw [List.getElem?_map, hx]
        rfl
      have hx2 : ((dk l)[i]?).map (fun kv => kV kv.1) = some x1 := hx1
      have hy2 : ((dk l)[i]?).map Prod.snd = some y1 := hy1
      rw [hd] at hx2 hy2
      cases hx2
      cases hy2
      have eT : (upd H5 Tp (.tup [kV (Sum.inr x), v])) Tp = some (.tup [kV (Sum.inr x), v]) := upd_same
      have s6 : Same (upd H d1 (.frz od (.dK (dk l)))) (upd H5 Tp (.tup [kV (Sum.inr x), v])) := Same.new sm hT
      have eD6 : (upd H5 Tp (.tup [kV (Sum.inr x), v])) D = some (.dK (dk (flt (fl xs true) (l.take i)))) := by
        rw [upd_ne (ne_of_none eD hT)]
        exact eD
      generalize upd H5 Tp (.tup [kV (Sum.inr x), v]) = H4 at eT s6 eD6 ⊢
      refine ⟨Tp, _, rfl, SqT.of eT, rfl, _, _, rfl, _, _, rfl, rfl, ?_⟩
      have t1 := take1 i x v hx
      refine ⟨rfl, _, rfl, _, rfl, p, _, rfl, .inr (SqT.of (s6 _ _ epB)), rfl, flat_str _, _, rfl, ?_⟩
      have hno : x ∉ names (flt (fl xs true) (l.take i)) := fun hm => by
        rw [names_flt] at hm
        have hm2 := (List.mem_filter.mp hm).1
        have e1 : names (l.take i) = (names l).take i := by simp [names, List.map_take]
        rw [e1] at hm2
        obtain ⟨j, hj, ej⟩ := List.mem_take_iff_getElem.mp hm2
        have e2 : (names l)[i]? = some x := by rw [List.getElem?_map, hx]; rfl
        have hi3 : i < (names l).length := (List.getElem?_eq_some_iff.mp e2).1
        have e3 : (names l)[i] = x := (List.getElem?_eq_some_iff.mp e2).2
        have := (List.getElem_inj nl).mp (ej.trans e3.symm)
        omega
      have ndt : (names (flt (fl xs true) (l.take i))).Nodup := by
        rw [names_flt]
        have e1 : names (l.take i) = (names l).take i := by simp [names, List.map_take]
        rw [e1]
        exact (nl.sublist (List.take_sublist _ _)).sublist List.filter_sublist
      have ec : (inV (V.str x) (xs.map V.str)) = fl xs true x := by
        rw [inV_dec]
        unfold fl
        cases decide (x ∈ xs) <;> rfl
      cases hc : fl xs true x with
      | true =>
        rw [hc] at t1 ec
        refine (show ite ((inV (V.str x) (xs.map V.str)) = true) _ _ from by rw [ec]; exact iteT ⟨_, rfl, _, rfl, _, Sum.inr x, rfl, eD6, Nat.lt_of_lt_of_le (m := 100) (by rw [dk_len]; exact Nat.lt_of_le_of_lt (List.length_filter_le _ _) (by rw [List.length_take]; omega)) (line_big (by decide)), by
          rw [upd_same, dk_put x v _ ndt, put_new hno, t1]
          rfl, fun c o e => by
          rw [upd_ne (ne_of_none e hD)]
          exact s6 c o e⟩)
      | false =>
        rw [hc] at t1 ec
        refine (show ite ((inV (V.str x) (xs.map V.str)) = true) _ _ from by rw [ec]; exact iteF ⟨by
          rw [t1, eD6]
          simp, s6⟩)
    · rintro H5 ⟨eD, sm⟩
      rw [dk_len, List.take_length] at eD
      have e5 := sm _ _ edB
      refine ⟨e5, ?_⟩
      have D1 : D ≠ d1 := (ne_of_none edB hD).symm
      have hD0 : H D = none := by
        rw [upd_ne D1] at hD
        exact hD
      have s3 : Same H (upd H5 d1 (.dK (dk l))) := Same.unlock ed1 sm
      have eDU : (upd H5 d1 (.dK (dk l))) D = some (.dK (dk (flt (fl xs true) l))) := by
        rw [upd_ne D1]
        exact eD
      generalize upd H5 d1 (.dK (dk l)) = H1 at s3 eDU ⊢
      intro x dx1 hx hdx hne
      have eX : (upd (upd H1 dx1 (.own x)) x (.ins C dx1 [])) x = some (.ins C dx1 []) := upd_same
      have sX : Same H1 (upd (upd H1 dx1 (.own x)) x (.ins C dx1 [])) := Same.new (Same.new (Same.refl _) hdx) (by rw [upd_ne hne.symm]; exact hx)
      generalize upd (upd H1 dx1 (.own x)) x (.ins C dx1 []) = HX at eX sX ⊢
      have s4 := s3.trans sX
      have cu : ∀ y v u, look y (flt (fl xs true) l) = some v → look y (flt (fl xs true) fs) = some u → Rc All C H n v u := fun y v u h1 h2 => by
        rw [look_flt] at h1 h2
        split at h1
        · rename_i c
          rw [if_pos c] at h2
          exact ch y v u h1 h2
        · cases h1
      have pu : (names (flt (fl xs true) l)).Perm (names (flt (fl xs true) fs)) := by
        rw [names_flt, names_flt]
        exact pm.filter _
      have ln : (flt (fl xs true) l).length ≤ l.length := List.length_filter_le _ _
      have ndl : (names (flt (fl xs true) l)).Nodup := by
        rw [names_flt]
        exact nl.sublist List.filter_sublist
      refine ⟨x, dx1, D, flt (fl xs true) l, szf (flt (fl xs true) fs), rfl, eX, sX _ _ eDU, ndl, by omega, fun y v hv => ?_, fun l' H'' ra p2 lk fx => ⟨rfl, q x H'' ?_ ?_⟩⟩
      · obtain ⟨u, hu⟩ := look_some (pu.mem_iff.mp (List.mem_map.mpr ⟨_, look_mem hv, rfl⟩))
        have z := Rc.sz ((cu y v u hv hu).same s4)
        unfold szf
        rw [hu]
        exact z
      · exact rc_new pu wf.flt cu ra p2 lk (fun c o _ e _ => fx c o (fun z => by rw [z, s3.free hx] at e; cases e) (s4 _ _ e)) (fun _ _ => True.intro) (fun _ _ => True.intro)
      · exact fun c o e => fx c o (fun z => by rw [z, s3.free hx] at e; cases e) (s4 _ _ e))
  intro A outer s H us vs Q E hr e0 r h
  obtain ⟨a, fs, xs, rfl, xl, rc, q⟩ := h
  refine G A outer s H us _ Q E hr e0 r ⟨[.ref a], xs.map V.str, rfl, rfl, line_big (by rw [List.length_map]; omega), fun p hp => ⟨a, p, fs, xs, rfl, rc.same (Same.new (Same.refl _) hp), upd_same, fun r H' rr s' => q r H' rr ((Same.new (Same.refl _) hp).trans s')⟩⟩
end
end Lw
namespace Lw
open PySem PySem.Spec PyProof.Rows L2 GrT GrOwn GrMg
abbrev sNoInit : Stmt := inClass (top 3) 0
section
variable {P : Program} {w : World} {K : PySem.W.Frag} {mg : Str → Option Value} {base : Heap} {C : Addr}
theorem scNoInit : NdefX.NScope ["self", "name", "__class__"] ["self", "name"] ["__class__"] (defScope sNoInit) := NdefX.nscope_by (by decide +kernel)
theorem fn_nofield {x q : Str} (Z : ExK P K mg x q sNoInit C) : ∃ (f : Addr) (fd : FuncData), PySem.W.findIn K (.ref C) "__init__" = some (some (.ref f)) ∧ PySem.W.typeIn K (.ref f) = some (.type "function") ∧ FnOk P w K mg base CX0 1 f fd ["self", "name"] (spEI C) ∧ Binds K fd ["self", "name"] [] := by
  obtain ⟨f, cc, cda, oc, ccl, cl, kV, doc, pm, ct, od, an, cdd, cld, osl, ccs, csl, vs0, file, tf, h1, h2, lk, hcd, hcode, hvs, hfile, hcell, hb⟩ := Z.ex
  refine ⟨f, _, h1, h2, ?_, hb⟩
  refine GrEx.fn_sup (N := ["self", "name", "__class__"]) (ar := { arg := "self", annotation := none, pos := ⟨11, 17, 11, 21⟩ }) Z.T scNoInit lk hcd hcode hvs hfile hcell Z.sup Z.top (by rfl) (by rfl) (by rfl) Z.ho Z.hm Z.hB Z.mro (fun L => by rfl) (fun L => by rfl) (fun L => by rfl) (fun L => by rfl) (fun vs H Q E h => ?_) (fun A outer s H vs Q E h => ?_)
  · obtain ⟨a, x, rfl, _⟩ := h
    rfl
  · obtain ⟨a, x, rfl, ea, xl, xc, k⟩ := h
    refine ⟨a, _, _, rfl, ea, pa_cons (pe_joined (PJ.cons pe_str (PJ.cons (pe_fmtR (pv 1)) .nil))) pa_nil, pss_one (ps_ost (pv 0) (pv 1)), ?_⟩
    have rl := PySem.StrLaws.reprText_len x xc
    have cl1 : (Str.empty ++ Str.ofString "no field ").length ≤ 100 := by decide +kernel
    refine ⟨_, rfl, line_big (Nat.le_trans cl1 (by decide)), _, rfl, .inl ⟨x, rfl, line_big (by omega), _, rfl, line_big (by rw [cat_len]; omega), by show 1 ≤ 1000; decide, ea, ?_⟩⟩
    exact ⟨_, rfl, _, rfl, a, C, rfl, Z.T, Z.noN, .inl ⟨ea, fun d h1 h2 => k d h1 h2⟩⟩
end
abbrev sThInit : Stmt := inClass (top 4) 0
section
variable {P : Program} {w : World} {K : PySem.W.Frag} {mg : Str → Option Value} {base : Heap} {C : Addr}
theorem scThInit : NdefX.NScope ["self", "name", "__class__"] ["self", "name"] ["__class__"] (defScope sThInit) := NdefX.nscope_by (by decide +kernel)
theorem fn_there {x q : Str} (Z : ExK P K mg x q sThInit C) : ∃ (f : Addr) (fd : FuncData), PySem.W.findIn K (.ref C) "__init__" = some (some (.ref f)) ∧ PySem.W.typeIn K (.ref f) = some (.type "function") ∧ FnOk P w K mg base CX0 1 f fd ["self", "name"] (spEI C) ∧ Binds K fd ["self", "name"] [] := by
  obtain ⟨f, cc, cda, oc, ccl, cl, kV, doc, pm, ct, od, an, cdd, cld, osl, ccs, csl, vs0, file, tf, h1, h2, lk, hcd, hcode, hvs, hfile, hcell, hb⟩ := Z.ex
  refine ⟨f, _, h1, h2, ?_, hb⟩
  refine GrEx.fn_sup (N := ["self", "name", "__class__"]) (ar := { arg := "self", annotation := none, pos := ⟨16, 17, 16, 21⟩ }) Z.T scThInit lk hcd hcode hvs hfile hcell Z.sup Z.top (by rfl) (by rfl) (by rfl) Z.ho Z.hm Z.hB Z.mro (fun L => by rfl) (fun L => by rfl) (fun L => by rfl) (fun L => by rfl) (fun vs H Q E h => ?_) (fun A outer s H vs Q E h => ?_)
  · obtain ⟨a, x, rfl, _⟩ := h
    rfl
  · obtain ⟨a, x, rfl, ea, xl, xc, k⟩ := h
    refine ⟨a, _, _, rfl, ea, pa_cons (pe_joined (PJ.cons pe_str (PJ.cons (pe_fmtR (pv 1)) (PJ.cons pe_str .nil)))) pa_nil, pss_one (ps_ost (pv 0) (pv 1)), ?_⟩
    have rl := PySem.StrLaws.reprText_len x xc
    have al : (Str.ofString " already").length = 8 := by decide +kernel
    have cl1 : (Str.empty ++ Str.ofString "there is a field ").length ≤ 100 := by decide +kernel
    refine ⟨_, rfl, line_big (Nat.le_trans cl1 (by decide)), _, rfl, .inl ⟨x, rfl, line_big (by omega), _, rfl, line_big (by rw [cat_len]; omega), _, rfl, line_big (by rw [cat_len, cat_len, al]; omega), by show 1 ≤ 1000; decide, ea, ?_⟩⟩
    exact ⟨_, rfl, _, rfl, a, C, rfl, Z.T, Z.noN, .inl ⟨ea, fun d h1 h2 => k d h1 h2⟩⟩
end
end Lw
namespace Lw
open PySem PySem.Spec PyProof.Rows L2 GrT GrOwn GrMg
theorem passE0 {X : Cx} (σ : L2.St) : PassesAt (L2.CX X.prog X.w) X σ E0 := fun _ _ _ _ _ _ c => by
  obtain ⟨_, _, _, _, _, _, _, _, _, _, _, _, hE⟩ := c
  exact hE.elim
/-- a method of a positional promise -/
structure MthR (P : Program) (w : World) (K : PySem.W.Frag) (mg : Str → Option Value) (base : Heap) (CX : CXT) (C : Addr) (k : Nat) (x : Str) (sp : Sp) : Prop where
  ex : ∃ (f : Addr), FnR P w K mg base CX k f sp ∧ Meth K C x f
section
variable {X : Cx} {CX : CXT} {C : Addr} {k j : Nat} {sp : Sp} {E : XK} {m : Str} {o e : Expr} {es : List Expr} {pos apos : Pos} {ta : TE} {t : TA} {pl : Sem Bool}
theorem pe_mR (R : RecK X.K X.mg C) (c : MthR X.prog X.w X.K X.mg X.base CX C k m sp) (hr : Room j X.A) (hk : k ≤ j) (hx : Passes CX X E) (he : PE X o ta) (ha : PA X (e :: es) t)
    (hst : starEach (e :: es) X.env = (false, eval e X.env) :: starEach es X.env := by rfl) (hpl : (backTo pos (starEach es X.env)).any (·.1) = false := by rfl)
    (ht : eval (.Call (.Attribute o m apos) (e :: es) [] pos) X.env = (do
      let ov ← eval o X.env
      standAt apos.atName
      let (f, first) ← holding [ov] (getMethod ov m pl)
      callWith pos f first (backTo pos (starEach (e :: es) X.env)) (backToKw pos (keywordEach [] X.env))) := by rfl) :
    PE X (.Call (.Attribute o m apos) (e :: es) [] pos) (tMethR C m sp E ta t) := by
  obtain ⟨f, F, hm⟩ := c.ex
  exact pe_methR he R.cl hm F (hr.mono hk) hx ha hst hpl ht
theorem pe_mR0 (R : RecK X.K X.mg C) (c : MthR X.prog X.w X.K X.mg X.base CX C k m sp) (hr : Room j X.A) (hk : k ≤ j) (hx : Passes CX X E) (he : PE X o ta)
    (ht : eval (.Call (.Attribute o m apos) [] [] pos) X.env = (do
      let ov ← eval o X.env
      standAt apos.atName
      let (f, first) ← holding [ov] (getMethod ov m pl)
      callWith pos f first (backTo pos (starEach [] X.env)) (backToKw pos (keywordEach [] X.env))) := by rfl) :
    PE X (.Call (.Attribute o m apos) [] [] pos) (tMethR C m sp E ta tNil) := by
  obtain ⟨f, F, hm⟩ := c.ex
  refine ⟨fun pins s σ H Q I h => ?_⟩
  refine PySem.W.methodCall_KW (pl := pl) (thn (he.run pins s σ H _ I h) fun u s1 ⟨x, H1, I1, rx, a, dx, fs, ex, ea, l, q⟩ => ?_) ht
  subst ex
  obtain rfl : u = Value.ref a := rx
  refine getmeth_ok I1 ea R.cl hm l ?_
  exact PySem.W.callWith_K0 (first := [.ref a]) I1.kIn hm.kp (wpAny_call (run_fnR (us := [.ref a]) (vs := [.ref a]) F (hr.mono hk) hx I1 (.cons rfl .nil) q))
theorem pe_mKX {CX : CXT} {E : L2.St → XK} (R : RecK X.K X.mg C) (c : MthK X.prog X.w X.K X.mg X.base CX C k m sp) (hr : Room j X.A) (hk : k ≤ j) (hx : ∀ σ, PassesAt CX X σ (E σ)) (he : PE X o ta) (ha : PA X (e :: es) t)
    (hst : starEach (e :: es) X.env = (false, eval e X.env) :: starEach es X.env := by rfl) (hpl : (backTo pos (starEach es X.env)).any (·.1) = false := by rfl)
    (ht : eval (.Call (.Attribute o m apos) (e :: es) [] pos) X.env = (do
      let ov ← eval o X.env
      standAt apos.atName
      let (f, first) ← holding [ov] (getMethod ov m pl)
      callWith pos f first (backTo pos (starEach (e :: es) X.env)) (backToKw pos (keywordEach [] X.env))) := by rfl) :
    PE X (.Call (.Attribute o m apos) (e :: es) [] pos) (tMethX C m sp E ta t) := by
  obtain ⟨f, fd, ps, F, hm, b⟩ := c.ex
  exact pe_methX he R.cl hm F (hr.mono hk) b hx ha hst hpl ht
end
def spRen (C CN CB CT : Addr) (n : Nat) : Sp := fun vs H Q E => ∃ (a : Addr) (fs : List (Str × T)) (old new : Str), vs = [.ref a, .str old, .str new] ∧ Rc All C H (n + 1) (.ref a) (.fds fs) ∧ old.length ≤ 1000 ∧ (∀ c ∈ old.cps.toList, c < 16 ^ 8) ∧ new.length ≤ 1000 ∧ (∀ c ∈ new.cps.toList, c < 16 ^ 8) ∧
  (look old fs = none → ∀ d H', H' d = some (.xd [("name", .str old)]) → Same H H' → E (.ref CN) (some d) H') ∧
  (∀ t, look old fs = some t → ¬ Good new → ∀ d H', H' d = some (.xd [("name", .str new)]) → Same H H' → E (.ref CB) (some d) H') ∧
  (∀ t, look old fs = some t → Good new → new ∈ names (flt (fl [old] false) fs) → ∀ d H', H' d = some (.xd [("name", .str new)]) → Same H H' → E (.ref CT) (some d) H') ∧
  (∀ t, look old fs = some t → Good new → new ∉ names (flt (fl [old] false) fs) → ∀ r H', Rc All C H' (n + 1) (.ref r) (.fds (flt (fl [old] false) fs ++ [(new, t)])) → Same H H' → Q (.ref r) H')
abbrev sRen : Stmt := inClass (top 11) 8
theorem look_none_names {α β : Type} {l : List (Str × α)} {fs : List (Str × β)} (pm : (names l).Perm (names fs)) {x : Str} (h : look x fs = none) : look x l = none := by
  cases e : look x l with
  | none => rfl
  | some v =>
    obtain ⟨u, hu⟩ := look_some (pm.mem_iff.mp (List.mem_map.mpr ⟨_, look_mem e, rfl⟩))
    rw [h] at hu
    cases hu
theorem flt_len {α : Type} {old : Str} : ∀ {l : List (Str × α)} {t : α}, look old l = some t → (flt (fl [old] false) l).length + 1 ≤ l.length
  | [], _, h => by cases h
  | (y, v) :: r, t, h => by
    unfold flt
    rw [List.filter_cons]
    have e1 : look old ((y, v) :: r) = if y = old then some v else look old r := rfl
    rw [e1] at h
    by_cases e : y = old
    · subst e
      have : fl [y] false y = false := by
        unfold fl
        rw [decide_eq_true (List.mem_singleton.mpr rfl)]
        rfl
      rw [this, if_neg Bool.false_ne_true]
      exact Nat.succ_le_succ (List.length_filter_le _ _)
    · rw [if_neg e] at h
      have ih := flt_len h
      unfold flt at ih
      split
      · exact Nat.succ_le_succ ih
      · exact Nat.le_trans ih (Nat.le_succ _)
section
variable {P : Program} {w : World} {K : PySem.W.Frag} {mg : Str → Option Value} {base : Heap} {C CN CB CT : Addr}
theorem scRen : FnScope ["self", "old", "new", "rest"] ["self", "old", "new"] (defScope sRen) := ⟨rfl, rfl, rfl, by decide +kernel, rfl, by decide +kernel, by decide +kernel⟩
theorem fn_renamed (T : Bu mg) (R : RecK K mg C) (iw : Cal P w K mg base 1 "is_name" spIsWord) (ZN : ExK P K mg "NoField" "NoField.__init__" sNoInit CN) (ZB : ExK P K mg "BadName" "BadName.__init__" sBadInit CB) (ZT : ExK P K mg "FieldThere" "FieldThere.__init__" sThInit CT) (n : Nat)
    (m_contains : Mth P w K mg base C 1 "__contains__" (spContains C)) (mw : MthR P w K mg base CX0 C 6 "without" (spFew C n false)) (mp : MthK P w K mg base (L2.CX P w) C 7 "put" (spPut C CB n))
    {f : Addr} {fd : FuncData} (F : L2.Fun K "renamed" "Record.renamed" sRen f fd) : FnOk P w K mg base (L2.CX P w) 8 f fd ["self", "old", "new"] (spRen C CN CB CT n) := by
  obtain ⟨fB, fdB, iB, tB, FB, bB⟩ := fn_badname (w := w) (base := base) ZB
  obtain ⟨fN, fdN, iN, tN, FN, bN⟩ := fn_nofield (w := w) (base := base) ZN
  obtain ⟨fT, fdT, iT, tT, FT, bT⟩ := fn_there (w := w) (base := base) ZT
  refine Fun.okX F scRen (fun vs H Q E h => ?_) (fun cdv A outer s H vs Q E hr h => ?_)
  · obtain ⟨a, fs, old, new, rfl, _⟩ := h
    rfl
  · obtain ⟨a, fs, old, new, rfl, rc, ol, oc, nl, nc, q1, q2, q3, q4⟩ := h
    have hu := hu_of hr
    have hr2 : Room 2 (A.deeper (envOfC "Record.renamed" (defScope sRen) s.heap.objs.size f cdv)) := hr.mono (by decide)
    obtain ⟨l, ra, wf, pm, ch⟩ := Rc.out rc
    obtain ⟨⟨dx, tp, d1, _, ea, _, ed1⟩, ndl, _⟩ := id ra
    refine ⟨_, (pss_cons (ps_if (pt_cmp (pc_dnotin hu (pv 1) (pe_fld (pv 0) rfl)))
        (pss_one (ps_raise rfl (takes_of rfl rfl rfl rfl) (pmk_oex ZN.T iN tN FN hr2 bN .nil pass0 (by rfl) ZN.mgC (pa_cons (pv 1) pa_nil)))) pss_nil)
      (pss_cons (ps_if (pt_not (pt_val (pe_c iw hr (by decide) rfl (pa_cons (pv 2) pa_nil))))
        (pss_one (ps_raise rfl (takes_of rfl rfl rfl rfl) (pmk_oex ZB.T iB tB FB hr2 bB .nil pass0 (by rfl) ZB.mgC (pa_cons (pv 2) pa_nil)))) pss_nil)
      (pss_cons (ps_set (i := 3) scRen.nd rfl (Or.inl rfl) (pe_mR R mw hr (by decide) pass0 (pv 0) (pa_cons (pv 1) pa_nil)))
      (pss_cons (ps_if (pt_cmpR (op_inM m_contains hr (by decide)) (pv 2) (pv 3) (by rfl))
        (pss_one (ps_raise rfl (takes_of rfl rfl rfl rfl) (pmk_oex ZT.T iT tT FT hr2 bT .nil pass0 (by rfl) ZT.mgC (pa_cons (pv 2) pa_nil)))) pss_nil)
      (pss_one (ps_ret (pe_mKX (E := fun _ => E0) R mp hr (by decide) (fun σ => passE0 σ) (pv 3) (pa_cons (pv 2) (pa_cons (pe_dget hu (pe_fld (pv 0) rfl) (pv 1) (fun _ _ => rfl)) pa_nil))))))))), ?_⟩
    have hd := DGet.k (k := Sum.inr old) ed1
    rw [dk_val] at hd
    refine ⟨_, rfl, _, rfl, a, C, dx, _, _, rfl, ea, R.cl, R.nF, rf_fields _ _ _, d1, _, rfl, hd, ?_⟩
    cases hlo : look old fs with
    | none =>
      rw [look_none_names pm hlo]
      refine ⟨_, rfl, iteT ⟨_, rfl, by show 1 ≤ 1000; decide, fun ea2 he => ⟨ea2, old, rfl, upd_same, ol, oc, fun d2 hd2 hde => ⟨rfl, d2, _, upd_same, by rw [upd_ne hde]; exact upd_same, ?_, ?_⟩⟩⟩⟩
      · rw [upd_ne hde] at hd2
        exact hd2
      · refine q1 hlo d2 _ upd_same fun c o z => ?_
        have h0 : H d2 = none := by
          rw [upd_ne hde] at hd2
          exact hd2
        have n1 : c ≠ ea2 := ne_of_none z he
        rw [upd_ne (ne_of_none z h0), del_ne n1, upd_ne n1, upd_ne (ne_of_none z h0), upd_ne n1]
        exact z
    | some t =>
      obtain ⟨v, hv⟩ := look_some (pm.mem_iff.mpr (List.mem_map.mpr ⟨_, look_mem hlo, rfl⟩))
      rw [hv] at hd ⊢
      refine ⟨_, rfl, iteF ?_⟩
      refine ⟨_, rfl, new, rfl, by omega, fun H0 s0 => ⟨_, rfl, ?_⟩⟩
      by_cases g : Good new
      · rw [goodB_iff.mpr g]
        refine iteF ?_
        have r0 := rc.same s0
        refine ⟨_, rfl, a, dx, _, rfl, s0 _ _ ea, rf_no (by decide) (by decide) (by decide) _ _ _, _, rfl, a, fs, [old], rfl, by show 1 ≤ 1000; decide, r0, fun r H1 rr s1 => ?_⟩
        obtain ⟨l2, ra2, wf2, pm2, ch2⟩ := Rc.out rr
        have s01 := s0.trans s1
        obtain ⟨⟨dx2, tp2, d2, _, ea2, _, ed2⟩, ndl2, _⟩ := id ra2
        refine ⟨_, rfl, _, rfl, r, dx2, _, rfl, ea2, r, l2, _, new, rfl, ra2.any, ?_⟩
        by_cases hn : new ∈ names (flt (fl [old] false) fs)
        · obtain ⟨u, hu2⟩ := look_some (pm2.mem_iff.mpr hn)
          rw [hu2]
          refine ⟨_, rfl, _, rfl, iteT ⟨_, rfl, by show 1 ≤ 1000; decide, fun ee he => ⟨ee, new, rfl, upd_same, nl, nc, fun dd hd2 hde => ⟨rfl, dd, _, upd_same, by rw [upd_ne hde]; exact upd_same, ?_, ?_⟩⟩⟩⟩
          · rw [upd_ne hde] at hd2
            exact hd2
          · refine q3 t hlo g hn dd _ upd_same fun c o z0 => ?_
            have z := s01 _ _ z0
            have h0 : H1 dd = none := by
              rw [upd_ne hde] at hd2
              exact hd2
            have n1 : c ≠ ee := ne_of_none z he
            rw [upd_ne (ne_of_none z h0), del_ne n1, upd_ne n1, upd_ne (ne_of_none z h0), upd_ne n1]
            exact z
        · have hz : look new l2 = none := by
            cases e : look new l2 with
            | none => rfl
            | some u => exact absurd (pm2.mem_iff.mp (List.mem_map.mpr ⟨_, look_mem e, rfl⟩)) hn
          rw [hz]
          refine ⟨_, rfl, _, rfl, iteF ?_⟩
          have hl2 := flt_len hlo
          have hl1 := wf.ln
          refine ⟨_, rfl, r, dx2, _, rfl, ea2, rf_no (by decide) (by decide) (by decide) _ _ _, _, rfl, _, rfl, a, C, dx, _, _, rfl, s01 _ _ ea, R.cl, R.nF, rf_fields _ _ _, _, rfl, d1, v, rfl, ?_, r, _, new, v, t, rfl, rr, (ch old v t hv hlo).same s01, by omega, nl, nc, fun _ r3 H3 rr3 s3 => ?_, fun gn => absurd g gn⟩
          · have hd1 := DGet.k (k := Sum.inr old) (s01 _ _ ed1)
            rw [dk_val, hv] at hd1
            exact hd1
          · rw [put_any hn] at rr3
            exact q4 t hlo g hn r3 H3 rr3 (s01.trans s3)
      · have gb : goodB new = false := by
          rw [← Bool.not_eq_true, goodB_iff]
          exact g
        rw [gb]
        refine iteT ⟨_, rfl, by show 1 ≤ 1000; decide, fun ee he => ⟨ee, new, rfl, upd_same, nl, nc, fun dd hd2 hde => ⟨rfl, dd, _, upd_same, by rw [upd_ne hde]; exact upd_same, ?_, ?_⟩⟩⟩
        · rw [upd_ne hde] at hd2
          exact hd2
        · refine q2 t hlo g dd _ upd_same fun c o z0 => ?_
          have z := s0 _ _ z0
          have h0 : H0 dd = none := by
            rw [upd_ne hde] at hd2
            exact hd2
          have n1 : c ≠ ee := ne_of_none z he
          rw [upd_ne (ne_of_none z h0), del_ne n1, upd_ne n1, upd_ne (ne_of_none z h0), upd_ne n1]
          exact z
end
end Lw
namespace GrT
open PySem L2
section
variable {α : Type}
/-- the second list's entries laid over the first one's -/
def unite (fs gs : List (Str × α)) : List (Str × α) := gs.foldl (fun m p => put p.1 p.2 m) fs
theorem unite_nd : ∀ {gs fs : List (Str × α)}, (names fs).Nodup → (names (unite fs gs)).Nodup
  | [], _, h => h
  | p :: r, _, h => unite_nd (gs := r) (nodup_put h)
theorem unite_len : ∀ {gs fs : List (Str × α)}, (unite fs gs).length ≤ fs.length + gs.length
  | [], _ => Nat.le_refl _
  | p :: r, fs => by
    have z := unite_len (gs := r) (fs := put p.1 p.2 fs)
    have z2 := length_put (x := p.1) (y := p.2) (l := fs)
    show (unite (put p.1 p.2 fs) r).length ≤ _
    rw [List.length_cons]
    omega
theorem look_unite {x : Str} : ∀ {gs fs : List (Str × α)}, (names gs).Nodup → look x (unite fs gs) = (look x gs).or (look x fs)
  | [], _, _ => rfl
  | (y, v) :: r, fs, h => by
    have h' := List.nodup_cons.mp h
    have ih := look_unite (x := x) (gs := r) (fs := put y v fs) h'.2
    show look x (unite (put y v fs) r) = _
    have e0 : look x ((y, v) :: r) = if y = x then some v else look x r := rfl
    rw [ih, look_put, e0]
    by_cases e : y = x
    · subst e
      have hn : look y r = none := look_none.mpr h'.1
      rw [if_pos rfl, if_pos rfl, hn]
      rfl
    · rw [if_neg e, if_neg fun z => e z.symm]
theorem unite_names {x : Str} {gs fs : List (Str × α)} (h : (names gs).Nodup) : x ∈ names (unite fs gs) ↔ x ∈ names gs ∨ x ∈ names fs := by
  have k : ∀ l : List (Str × α), x ∈ names l ↔ look x l ≠ none := fun l => by
    rw [Ne, look_none]
    exact Decidable.not_not.symm
  rw [k, k, k, look_unite h]
  cases look x gs <;> simp
end
theorem Wf.unite {L M : Nat} : ∀ {gs fs : List (Str × T)}, Wf L fs → (∀ p ∈ gs, Good p.1) → L + gs.length ≤ M → Wf M (GrT.unite fs gs)
  | [], _, h, _, z => h.mono (by simpa using z)
  | p :: r, fs, h, g, z => by
    rw [List.length_cons] at z
    exact Wf.unite (gs := r) (h.put (g p List.mem_cons_self)) (fun q hq => g q (List.mem_cons_of_mem _ hq)) (by omega)
end GrT
namespace Lw
open PySem PySem.Spec PyProof.Rows L2 GrT GrOwn GrMg
theorem merge_dk : ∀ {m l : List (Str × V)}, (names l).Nodup → mergeK (dk l) (dk m) = dk (unite l m)
  | [], _, _ => rfl
  | (x, v) :: r, l, h => by
    show mergeK (putK (dk l) (Sum.inr x) v) (dk r) = dk (unite (put x v l) r)
    rw [dk_put x v l h, merge_dk (nodup_put h)]
theorem unite_nil {α : Type} {l : List (Str × α)} (h : (names l).Nodup) : ∀ {m : List (Str × α)}, (∀ x ∈ names l, x ∉ names m) → unite m l = m ++ l := by
  induction l with
  | nil => exact fun _ => (List.append_nil _).symm
  | cons p r ih =>
    intro m hm
    obtain ⟨x, v⟩ := p
    have h' := List.nodup_cons.mp h
    have e : put x v m = m ++ [(x, v)] := by
      have : ∀ {m : List (Str × α)}, x ∉ names m → put x v m = m ++ [(x, v)] := by
        intro m
        induction m with
        | nil => exact fun _ => rfl
        | cons q s ih2 =>
          obtain ⟨y, u⟩ := q
          intro hx
          rw [put, if_neg (fun z => hx (by rw [← z]; exact List.mem_cons_self)), ih2 fun z => hx (List.mem_cons_of_mem _ z)]
          rfl
      exact this (hm x List.mem_cons_self)
    show unite (put x v m) r = _
    rw [e, ih h'.2 fun y hy z => ?_, List.append_assoc]
    · rfl
    · have z' : y ∈ names m ++ [x] := by simpa [names] using z
      rcases List.mem_append.mp z' with q | q
      · exact hm y (List.mem_cons_of_mem _ hy) q
      · exact h'.1 (by rw [← List.mem_singleton.mp q]; exact hy)
/-! ### the operators' promises -/
def spOr (C : Addr) (n : Nat) : Sp := fun vs H Q _ => ∃ (a b : Addr) (fs gs : List (Str × T)), vs = [.ref a, .ref b] ∧ Rc All C H (n + 1) (.ref a) (.fds fs) ∧ Rc All C H (n + 1) (.ref b) (.fds gs) ∧ fs.length + gs.length ≤ 40 ∧
  ∀ r H', Rc All C H' (n + 1) (.ref r) (.fds (unite fs gs)) → Same H H' → Q (.ref r) H'
def spPart (C : Addr) (n : Nat) (there : Bool) : Sp := fun vs H Q _ => ∃ (a b : Addr) (fs gs : List (Str × T)), vs = [.ref a, .ref b] ∧ Rc All C H (n + 1) (.ref a) (.fds fs) ∧ Rc All C H (n + 1) (.ref b) (.fds gs) ∧
  ∀ r H', Rc All C H' (n + 1) (.ref r) (.fds (flt (fun x => (look x gs).isSome == there) fs)) → Same H H' → Q (.ref r) H'
abbrev sOr : Stmt := inClass (top 11) 10
abbrev sAdd : Stmt := inClass (top 11) 11
abbrev sSub : Stmt := inClass (top 11) 12
abbrev sAnd : Stmt := inClass (top 11) 13
section
variable {P : Program} {w : World} {K : PySem.W.Frag} {mg : Str → Option Value} {base : Heap} {C : Addr}
theorem scOr : FnScope ["self", "other"] ["self", "other"] (defScope sOr) := ⟨rfl, rfl, rfl, by decide +kernel, rfl, by decide +kernel, by decide +kernel⟩
/-- a record taken apart -/
theorem fn_or (T : Bu mg) (R : RecK K mg C) (I : InK K C) (vs_ : Cal P w K mg base 3 "value_size" (spVs C)) (n : Nat) {f : Addr} {fd : FuncData} (F : L2.Fun K "__or__" "Record.__or__" sOr f fd) : FnOk P w K mg base CX0 6 f fd ["self", "other"] (spOr C n) := by
  refine F.ok scOr (fun vs H Q E h => ?_) (fun cdv A outer s H vs Q E hr h => ?_)
  · obtain ⟨a, b, fs, gs, rfl, _⟩ := h
    rfl
  · obtain ⟨a, b, fs, gs, rfl, r1, r2, hl, q⟩ := h
    obtain ⟨l, ⟨⟨dx, tp, d1, _, ea, _, ed1⟩, nl, _⟩, wf, pm, ch⟩ := Rc.out r1
    obtain ⟨m, ⟨⟨dy, tq, d2, _, eb, _, ed2⟩, nm, _⟩, wg, pg, cg⟩ := Rc.out r2
    refine ⟨_, (pss_one (ps_ret (pe_new T R vs_ I hr (by decide) (by rfl) (pa_cons (pe_mrg2 (pe_fld (pv 0) rfl) (pe_fld (pv 1) rfl)) pa_nil)))), ?_⟩
    intro D hD
    have s1 : Same H (upd H D (.dK [])) := Same.new (Same.refl _) hD
    have ne1 : d1 ≠ D := ne_of_none ed1 hD
    have ne2 : d2 ≠ D := ne_of_none ed2 hD
    have ll : l.length = fs.length := by
      have := pm.length_eq
      rwa [List.length_map, List.length_map] at this
    have lm : m.length = gs.length := by
      have := pg.length_eq
      rwa [List.length_map, List.length_map] at this
    have hfl := wf.ln
    have hgl := wg.ln
    have e0 : mergeK [] (dk l) = dk l := by
      have z := merge_dk (m := l) (l := []) (by simp [names])
      rw [unite_nil nl (fun x _ h => by simp [names] at h)] at z
      exact z
    refine ⟨_, rfl, a, C, dx, _, _, rfl, s1 _ _ ea, R.cl, R.nF, rf_fields _ _ _, d1, dk l, rfl, ne1, s1 _ _ ed1, upd_same, by rw [dk_len]; omega, ?_⟩
    rw [e0]
    have s2 : Same H (upd (upd H D (.dK [])) D (.dK (dk l))) := by
      rw [upd_upd]
      exact Same.new (Same.refl _) hD
    refine ⟨_, rfl, b, C, dy, _, _, rfl, s2 _ _ eb, R.cl, R.nF, rf_fields _ _ _, d2, dk m, rfl, ne2, s2 _ _ ed2, upd_same, by rw [dk_len]; omega, ?_⟩
    rw [merge_dk nl, upd_upd, upd_upd]
    have s3 : Same H (upd H D (.dK (dk (unite l m)))) := Same.new (Same.refl _) hD
    have eD : (upd H D (.dK (dk (unite l m)))) D = some (.dK (dk (unite l m))) := upd_same
    generalize upd H D (.dK (dk (unite l m))) = H1 at s3 eD ⊢
    intro x dx1 hx hdx hne
    have eX : (upd (upd H1 dx1 (.own x)) x (.ins C dx1 [])) x = some (.ins C dx1 []) := upd_same
    have sX : Same H1 (upd (upd H1 dx1 (.own x)) x (.ins C dx1 [])) := Same.new (Same.new (Same.refl _) hdx) (by rw [upd_ne hne.symm]; exact hx)
    generalize upd (upd H1 dx1 (.own x)) x (.ins C dx1 []) = HX at eX sX ⊢
    have s4 := s3.trans sX
    have lu := unite_len (fs := l) (gs := m)
    have cu : ∀ y v u, look y (unite l m) = some v → look y (unite fs gs) = some u → Rc All C H n v u := fun y v u h1 h2 => by
      rw [look_unite nm] at h1
      rw [look_unite wg.nd] at h2
      cases e1 : look y m with
      | some v' =>
        obtain ⟨u', hu'⟩ := look_some (pg.mem_iff.mp (List.mem_map.mpr ⟨_, look_mem e1, rfl⟩ : y ∈ names m))
        rw [e1] at h1
        rw [hu'] at h2
        cases h1
        cases h2
        exact cg y _ _ e1 hu'
      | none =>
        have e2 : look y gs = none := look_none.mpr fun z => look_none.mp e1 (pg.mem_iff.mpr z)
        rw [e1] at h1
        rw [e2] at h2
        exact ch y v u h1 h2
    have pu : (names (unite l m)).Perm (names (unite fs gs)) := (List.perm_ext_iff_of_nodup (unite_nd nl) (unite_nd wf.nd)).mpr fun y => by
      rw [unite_names nm, unite_names wg.nd, pm.mem_iff, pg.mem_iff]
    have wu : Wf 40 (unite fs gs) := Wf.unite (L := fs.length) ⟨wf.nd, Nat.le_refl _, wf.gd⟩ wg.gd hl
    refine ⟨x, dx1, D, unite l m, szf (unite fs gs), rfl, eX, sX _ _ eD, unite_nd nl, by omega, fun y v hv => ?_, fun l' H'' ra p2 lk fx => ⟨rfl, q x H'' ?_ ?_⟩⟩
    · obtain ⟨u, hu⟩ := look_some (pu.mem_iff.mp (List.mem_map.mpr ⟨_, look_mem hv, rfl⟩))
      have z := Rc.sz ((cu y v u hv hu).same s4)
      unfold szf
      rw [hu]
      exact z
    · exact rc_new pu wu cu ra p2 lk (fun c o _ e _ => fx c o (fun z => by rw [z, s3.free hx] at e; cases e) (s4 _ _ e)) (fun _ _ => True.intro) (fun _ _ => True.intro)
    · exact fun c o e => fx c o (fun z => by rw [z, s3.free hx] at e; cases e) (s4 _ _ e)
end
end Lw
namespace Lw
open PySem PySem.Spec PyProof.Rows L2 GrT GrOwn GrMg
section
variable {P : Program} {w : World} {K : PySem.W.Frag} {mg : Str → Option Value} {base : Heap} {C : Addr}
theorem scSub : FnScope ["self", "other", "name", "value"] ["self", "other"] (defScope sSub) := ⟨rfl, rfl, rfl, by decide +kernel, rfl, by decide +kernel, by decide +kernel⟩
theorem fn_sub (T : Bu mg) (R : RecK K mg C) (I : InK K C) (vs_ : Cal P w K mg base 3 "value_size" (spVs C)) (n : Nat) {f : Addr} {fd : FuncData} (F : L2.Fun K "__sub__" "Record.__sub__" sSub f fd) : FnOk P w K mg base CX0 6 f fd ["self", "other"] (spPart C n false) := by
  refine F.ok scSub (fun vs H Q E h => ?_) (fun cdv A outer s H vs Q E hr h => ?_)
  · obtain ⟨a, b, fs, gs, rfl, _⟩ := h
    rfl
  · obtain ⟨a, b, fs, gs, rfl, r1, r2, q⟩ := h
    have hu := hu_of hr
    obtain ⟨l, ⟨⟨dx, tp, d1, _, ea, _, ed1⟩, nl, _⟩, wf, pm, ch⟩ := Rc.out r1
    obtain ⟨m, ⟨⟨dy, tq, d2, _, eb, _, ed2⟩, nm, _⟩, wg, pg, cg⟩ := Rc.out r2
    refine ⟨_, (pss_one (ps_ret (pe_new T R vs_ I hr (by decide) (by rfl) (pa_cons (pe_lock (pe_dc (own := [("name", 2), ("value", 3)]) (g := gTup K 2 (gCons (gName 2) (gCons (gName 3) gNil))) rfl scSub.nd (pi_items (pe_fld (pv 0) rfl)) (blkOk_by (own := [("name", 2), ("value", 3)]) (N := ["self", "other", "name", "value"]) (sc := defScope sSub) (by decide +kernel))
      (fun _ _ _ _ _ => pg_tup rfl (pgs_cons (pg_name (i := 2) scSub.nd rfl (Or.inl rfl)) (pgs_cons (pg_name (i := 3) scSub.nd rfl (Or.inl rfl)) pgs_nil))) (fun _ _ _ _ _ => (by exact (pts_one (pt_cmp (pc_dnotin hu (pv 2) (pe_fldK (K := K) rfl (pv 1) (by rfl))))))) (fun _ _ _ _ _ => (by exact (pv 2))) (fun _ _ _ _ _ => (by exact (pv 3))))) pa_nil)))), ?_⟩
    have hfl := wf.ln
    have ll : l.length = fs.length := by
      have := pm.length_eq
      rwa [List.length_map, List.length_map] at this
    have ad1 : a ≠ d1 := fun z => by
      rw [z, ed1] at ea
      cases ea
    have bd1 : b ≠ d1 := fun z => by
      rw [z, ed1] at eb
      cases eb
    refine ⟨d1, .dK (dk l), ed1, True.intro, fun od => ?_⟩
    have eaB : (upd H d1 (.frz od (.dK (dk l)))) a = some (.ins C dx (rf tp d1 (nfs fs))) := by
      rw [upd_ne ad1]
      exact ea
    have ebB : (upd H d1 (.frz od (.dK (dk l)))) b = some (.ins C dy (rf tq d2 (nfs gs))) := by
      rw [upd_ne bd1]
      exact eb
    have edB : (upd H d1 (.frz od (.dK (dk l)))) d1 = some (.frz od (.dK (dk l))) := upd_same
    have look2 : ∀ H5, Same (upd H d1 (.frz od (.dK (dk l)))) H5 → ∀ x, DGet H5 d2 (.str x) (look x m) := fun H5 s5 x => by
      by_cases z : d2 = d1
      · have e : dk l = dk m := by
          rw [z, ed1] at ed2
          exact HO.dK.inj (Option.some.inj ed2)
        rw [z]
        exact .inl ⟨dk m, Sum.inr x, .inr ⟨od, by rw [← e]; exact s5 _ _ edB⟩, rfl, (dk_val x m).symm⟩
      · exact .inl ⟨dk m, Sum.inr x, .inl (s5 _ _ (by rw [upd_ne z]; exact ed2)), rfl, (dk_val x m).symm⟩
    have take1 : ∀ i x v, l[i]? = some (x, v) → flt (fun x => (look x m).isSome == false) (l.take (i + 1)) = flt (fun x => (look x m).isSome == false) (l.take i) ++ (if ((look x m).isSome == false) = true then [(x, v)] else []) := fun i x v h => by
      unfold flt
      rw [List.take_add_one, h, List.filter_append, Option.toList_some, List.filter_cons, List.filter_nil]
    refine ⟨_, rfl, a, C, dx, _, _, rfl, eaB, R.cl, R.nF, rf_fields _ _ _, d1, od, dk l, rfl, edB, fun D hD => dc_it walk_items (fun i H5 => H5 D = some (.dK (dk (flt (fun x => (look x m).isSome == false) (l.take i)))) ∧ Same (upd H d1 (.frz od (.dK (dk l)))) H5)
      ⟨upd_same, Same.new (Same.refl _) hD⟩ (fun i H5 _ h => h.2 _ _ edB) ?_ ?_⟩
    · rintro i y H5 H6 hi ⟨eD, sm⟩ ⟨Tp, x1, y1, rfl, hT, rfl, hx1, hy1⟩
      have hi2 : i < l.length := by
        rw [dk_len] at hi
        exact hi
      obtain ⟨⟨x, v⟩, hx⟩ : ∃ p, l[i]? = some p := ⟨l[i], List.getElem?_eq_getElem hi2⟩
      have hd : (dk l)[i]? = some (Sum.inr x, v) := by
        unfold dk
        rw [List.getElem?_map, hx]
        rfl
      have hx2 : ((dk l)[i]?).map (fun kv => kV kv.1) = some x1 := hx1
      have hy2 : ((dk l)[i]?).map Prod.snd = some y1 := hy1
      rw [hd] at hx2 hy2
      cases hx2
      cases hy2
      have eT : (upd H5 Tp (.tup [kV (Sum.inr x), v])) Tp = some (.tup [kV (Sum.inr x), v]) := upd_same
      have s6 : Same (upd H d1 (.frz od (.dK (dk l)))) (upd H5 Tp (.tup [kV (Sum.inr x), v])) := Same.new sm hT
      have eD6 : (upd H5 Tp (.tup [kV (Sum.inr x), v])) D = some (.dK (dk (flt (fun x => (look x m).isSome == false) (l.take i)))) := by
        rw [upd_ne (ne_of_none eD hT)]
        exact eD
      generalize upd H5 Tp (.tup [kV (Sum.inr x), v]) = H4 at eT s6 eD6 ⊢
      refine ⟨Tp, _, rfl, SqT.of eT, rfl, _, _, rfl, _, _, rfl, rfl, ?_⟩
      have t1 := take1 i x v hx
      refine ⟨rfl, _, rfl, _, rfl, b, C, dy, _, _, rfl, s6 _ _ ebB, R.cl, R.nF, rf_fields _ _ _, d2, _, rfl, look2 _ s6 x, _, rfl, ?_⟩
      have hno : x ∉ names (flt (fun x => (look x m).isSome == false) (l.take i)) := fun hm => by
        rw [names_flt] at hm
        have hm2 := (List.mem_filter.mp hm).1
        have e1 : names (l.take i) = (names l).take i := by simp [names, List.map_take]
        rw [e1] at hm2
        obtain ⟨j, hj, ej⟩ := List.mem_take_iff_getElem.mp hm2
        have e2 : (names l)[i]? = some x := by rw [List.getElem?_map, hx]; rfl
        have hi3 : i < (names l).length := (List.getElem?_eq_some_iff.mp e2).1
        have e3 : (names l)[i] = x := (List.getElem?_eq_some_iff.mp e2).2
        have := (List.getElem_inj nl).mp (ej.trans e3.symm)
        omega
      have ndt : (names (flt (fun x => (look x m).isSome == false) (l.take i))).Nodup := by
        rw [names_flt]
        have e1 : names (l.take i) = (names l).take i := by simp [names, List.map_take]
        rw [e1]
        exact (nl.sublist (List.take_sublist _ _)).sublist List.filter_sublist
      cases hc : look x m with
      | none =>
        rw [hc] at t1
        refine iteT ⟨_, rfl, _, rfl, _, Sum.inr x, rfl, eD6, Nat.lt_of_lt_of_le (m := 100) (by rw [dk_len]; exact Nat.lt_of_le_of_lt (List.length_filter_le _ _) (by rw [List.length_take]; omega)) (line_big (by decide)), ?_, ?_⟩
        · rw [upd_same, dk_put x v _ ndt, put_new hno, t1]
          rfl
        · intro c o e
          rw [upd_ne (ne_of_none e hD)]
          exact s6 c o e
      | some v0 =>
        rw [hc] at t1
        refine iteF ⟨?_, s6⟩
        rw [t1, eD6]
        simp
    · rintro H5 ⟨eD, sm⟩
      rw [dk_len, List.take_length] at eD
      have e5 := sm _ _ edB
      refine ⟨e5, ?_⟩
      have D1 : D ≠ d1 := (ne_of_none edB hD).symm
      have hD0 : H D = none := by
        rw [upd_ne D1] at hD
        exact hD
      have s3 : Same H (upd H5 d1 (.dK (dk l))) := Same.unlock ed1 sm
      have eDU : (upd H5 d1 (.dK (dk l))) D = some (.dK (dk (flt (fun x => (look x m).isSome == false) l))) := by
        rw [upd_ne D1]
        exact eD
      generalize upd H5 d1 (.dK (dk l)) = H1 at s3 eDU ⊢
      intro x dx1 hx hdx hne
      have eX : (upd (upd H1 dx1 (.own x)) x (.ins C dx1 [])) x = some (.ins C dx1 []) := upd_same
      have sX : Same H1 (upd (upd H1 dx1 (.own x)) x (.ins C dx1 [])) := Same.new (Same.new (Same.refl _) hdx) (by rw [upd_ne hne.symm]; exact hx)
      generalize upd (upd H1 dx1 (.own x)) x (.ins C dx1 []) = HX at eX sX ⊢
      have s4 := s3.trans sX
      have cc : ∀ y, ((look y m).isSome == false) = ((look y gs).isSome == false) := fun y => by
        cases e1 : look y m with
        | none =>
          rw [(look_none.mpr fun z => look_none.mp e1 (pg.mem_iff.mpr z) : look y gs = none)]
          rfl
        | some v' =>
          obtain ⟨u', hu'⟩ := look_some (pg.mem_iff.mp (List.mem_map.mpr ⟨_, look_mem e1, rfl⟩ : y ∈ names m))
          rw [hu']
          rfl
      have ef : flt (fun x => (look x m).isSome == false) l = flt (fun x => (look x gs).isSome == false) l := by
        unfold flt
        exact List.filter_congr fun p _ => cc p.1
      rw [ef] at eDU
      have cu : ∀ y v u, look y (flt (fun x => (look x gs).isSome == false) l) = some v → look y (flt (fun x => (look x gs).isSome == false) fs) = some u → Rc All C H n v u := fun y v u h1 h2 => by
        rw [look_flt] at h1 h2
        split at h1
        · rename_i c
          rw [if_pos c] at h2
          exact ch y v u h1 h2
        · cases h1
      have pu : (names (flt (fun x => (look x gs).isSome == false) l)).Perm (names (flt (fun x => (look x gs).isSome == false) fs)) := by
        rw [names_flt, names_flt]
        exact pm.filter _
      have ln : (flt (fun x => (look x gs).isSome == false) l).length ≤ l.length := List.length_filter_le _ _
      have ndl : (names (flt (fun x => (look x gs).isSome == false) l)).Nodup := by
        rw [names_flt]
        exact nl.sublist List.filter_sublist
      refine ⟨x, dx1, D, flt (fun x => (look x gs).isSome == false) l, szf (flt (fun x => (look x gs).isSome == false) fs), rfl, eX, sX _ _ eDU, ndl, by omega, fun y v hv => ?_, fun l' H'' ra p2 lk fx => ⟨rfl, q x H'' ?_ ?_⟩⟩
      · obtain ⟨u, hu⟩ := look_some (pu.mem_iff.mp (List.mem_map.mpr ⟨_, look_mem hv, rfl⟩))
        have z := Rc.sz ((cu y v u hv hu).same s4)
        unfold szf
        rw [hu]
        exact z
      · exact rc_new pu wf.flt cu ra p2 lk (fun c o _ e _ => fx c o (fun z => by rw [z, s3.free hx] at e; cases e) (s4 _ _ e)) (fun _ _ => True.intro) (fun _ _ => True.intro)
      · exact fun c o e => fx c o (fun z => by rw [z, s3.free hx] at e; cases e) (s4 _ _ e)
theorem scAnd : FnScope ["self", "other", "name", "value"] ["self", "other"] (defScope sAnd) := ⟨rfl, rfl, rfl, by decide +kernel, rfl, by decide +kernel, by decide +kernel⟩
theorem fn_and (T : Bu mg) (R : RecK K mg C) (I : InK K C) (vs_ : Cal P w K mg base 3 "value_size" (spVs C)) (n : Nat) {f : Addr} {fd : FuncData} (F : L2.Fun K "__and__" "Record.__and__" sAnd f fd) : FnOk P w K mg base CX0 6 f fd ["self", "other"] (spPart C n true) := by
  refine F.ok scAnd (fun vs H Q E h => ?_) (fun cdv A outer s H vs Q E hr h => ?_)
  · obtain ⟨a, b, fs, gs, rfl, _⟩ := h
    rfl
  · obtain ⟨a, b, fs, gs, rfl, r1, r2, q⟩ := h
    have hu := hu_of hr
    obtain ⟨l, ⟨⟨dx, tp, d1, _, ea, _, ed1⟩, nl, _⟩, wf, pm, ch⟩ := Rc.out r1
    obtain ⟨m, ⟨⟨dy, tq, d2, _, eb, _, ed2⟩, nm, _⟩, wg, pg, cg⟩ := Rc.out r2
    refine ⟨_, (pss_one (ps_ret (pe_new T R vs_ I hr (by decide) (by rfl) (pa_cons (pe_lock (pe_dc (own := [("name", 2), ("value", 3)]) (g := gTup K 2 (gCons (gName 2) (gCons (gName 3) gNil))) rfl scAnd.nd (pi_items (pe_fld (pv 0) rfl)) (blkOk_by (own := [("name", 2), ("value", 3)]) (N := ["self", "other", "name", "value"]) (sc := defScope sAnd) (by decide +kernel))
      (fun _ _ _ _ _ => pg_tup rfl (pgs_cons (pg_name (i := 2) scAnd.nd rfl (Or.inl rfl)) (pgs_cons (pg_name (i := 3) scAnd.nd rfl (Or.inl rfl)) pgs_nil))) (fun _ _ _ _ _ => (by exact (pts_one (pt_cmp (pc_din hu (pv 2) (pe_fldK (K := K) rfl (pv 1) (by rfl))))))) (fun _ _ _ _ _ => (by exact (pv 2))) (fun _ _ _ _ _ => (by exact (pv 3))))) pa_nil)))), ?_⟩
    have hfl := wf.ln
    have ll : l.length = fs.length := by
      have := pm.length_eq
      rwa [List.length_map, List.length_map] at this
    have ad1 : a ≠ d1 := fun z => by
      rw [z, ed1] at ea
      cases ea
    have bd1 : b ≠ d1 := fun z => by
      rw [z, ed1] at eb
      cases eb
    refine ⟨d1, .dK (dk l), ed1, True.intro, fun od => ?_⟩
    have eaB : (upd H d1 (.frz od (.dK (dk l)))) a = some (.ins C dx (rf tp d1 (nfs fs))) := by
      rw [upd_ne ad1]
      exact ea
    have ebB : (upd H d1 (.frz od (.dK (dk l)))) b = some (.ins C dy (rf tq d2 (nfs gs))) := by
      rw [upd_ne bd1]
      exact eb
    have edB : (upd H d1 (.frz od (.dK (dk l)))) d1 = some (.frz od (.dK (dk l))) := upd_same
    have look2 : ∀ H5, Same (upd H d1 (.frz od (.dK (dk l)))) H5 → ∀ x, DGet H5 d2 (.str x) (look x m) := fun H5 s5 x => by
      by_cases z : d2 = d1
      · have e : dk l = dk m := by
          rw [z, ed1] at ed2
          exact HO.dK.inj (Option.some.inj ed2)
        rw [z]
        exact .inl ⟨dk m, Sum.inr x, .inr ⟨od, by rw [← e]; exact s5 _ _ edB⟩, rfl, (dk_val x m).symm⟩
      · exact .inl ⟨dk m, Sum.inr x, .inl (s5 _ _ (by rw [upd_ne z]; exact ed2)), rfl, (dk_val x m).symm⟩
    have take1 : ∀ i x v, l[i]? = some (x, v) → flt (fun x => (look x m).isSome == true) (l.take (i + 1)) = flt (fun x => (look x m).isSome == true) (l.take i) ++ (if ((look x m).isSome == true) = true then [(x, v)] else []) := fun i x v h => by
      unfold flt
      rw [List.take_add_one, h, List.filter_append, Option.toList_some, List.filter_cons, List.filter_nil]
    refine ⟨_, rfl, a, C, dx, _, _, rfl, eaB, R.cl, R.nF, rf_fields _ _ _, d1, od, dk l, rfl, edB, fun D hD => dc_it walk_items (fun i H5 => H5 D = some (.dK (dk (flt (fun x => (look x m).isSome == true) (l.take i)))) ∧ Same (upd H d1 (.frz od (.dK (dk l)))) H5)
      ⟨upd_same, Same.new (Same.refl _) hD⟩ (fun i H5 _ h => h.2 _ _ edB) ?_ ?_⟩
    · rintro i y H5 H6 hi ⟨eD, sm⟩ ⟨Tp, x1, y1, rfl, hT, rfl, hx1, hy1⟩
      have hi2 : i < l.length := by
        rw [dk_len] at hi
        exact hi
      obtain ⟨⟨x, v⟩, hx⟩ : ∃ p, l[i]? = some p := ⟨l[i], List.getElem?_eq_getElem hi2⟩
      have hd : (dk l)[i]? = some (Sum.inr x, v) := by
        unfold dk
        rw [List.getElem?_map, hx]
        rfl
      have hx2 : ((dk l)[i]?).map (fun kv => kV kv.1) = some x1 := hx1
      have hy2 : ((dk l)[i]?).map Prod.snd = some y1 := hy1
      rw [hd] at hx2 hy2
      cases hx2
      cases hy2
      have eT : (upd H5 Tp (.tup [kV (Sum.inr x), v])) Tp = some (.tup [kV (Sum.inr x), v]) := upd_same
      have s6 : Same (upd H d1 (.frz od (.dK (dk l)))) (upd H5 Tp (.tup [kV (Sum.inr x), v])) := Same.new sm hT
      have eD6 : (upd H5 Tp (.tup [kV (Sum.inr x), v])) D = some (.dK (dk (flt (fun x => (look x m).isSome == true) (l.take i)))) := by
        rw [upd_ne (ne_of_none eD hT)]
        exact eD
      generalize upd H5 Tp (.tup [kV (Sum.inr x), v]) = H4 at eT s6 eD6 ⊢
      refine ⟨Tp, _, rfl, SqT.of eT, rfl, _, _, rfl, _, _, rfl, rfl, ?_⟩
      have t1 := take1 i x v hx
      refine ⟨rfl, _, rfl, _, rfl, b, C, dy, _, _, rfl, s6 _ _ ebB, R.cl, R.nF, rf_fields _ _ _, d2, _, rfl, look2 _ s6 x, _, rfl, ?_⟩
      have hno : x ∉ names (flt (fun x => (look x m).isSome == true) (l.take i)) := fun hm => by
        rw [names_flt] at hm
        have hm2 := (List.mem_filter.mp hm).1
        have e1 : names (l.take i) = (names l).take i := by simp [names, List.map_take]
        rw [e1] at hm2
        obtain ⟨j, hj, ej⟩ := List.mem_take_iff_getElem.mp hm2
        have e2 : (names l)[i]? = some x := by rw [List.getElem?_map, hx]; rfl
        have hi3 : i < (names l).length := (List.getElem?_eq_some_iff.mp e2).1
        have e3 : (names l)[i] = x := (List.getElem?_eq_some_iff.mp e2).2
        have := (List.getElem_inj nl).mp (ej.trans e3.symm)
        omega
      have ndt : (names (flt (fun x => (look x m).isSome == true) (l.take i))).Nodup := by
        rw [names_flt]
        have e1 : names (l.take i) = (names l).take i := by simp [names, List.map_take]
        rw [e1]
        exact (nl.sublist (List.take_sublist _ _)).sublist List.filter_sublist
      cases hc : look x m with
      | none =>
        rw [hc] at t1
        refine iteF ⟨?_, s6⟩
        rw [t1, eD6]
        simp
      | some v0 =>
        rw [hc] at t1
        refine iteT ⟨_, rfl, _, rfl, _, Sum.inr x, rfl, eD6, Nat.lt_of_lt_of_le (m := 100) (by rw [dk_len]; exact Nat.lt_of_le_of_lt (List.length_filter_le _ _) (by rw [List.length_take]; omega)) (line_big (by decide)), ?_, ?_⟩
        · rw [upd_same, dk_put x v _ ndt, put_new hno, t1]
          rfl
        · intro c o e
          rw [upd_ne (ne_of_none e hD)]
          exact s6 c o e
    · rintro H5 ⟨eD, sm⟩
      rw [dk_len, List.take_length] at eD
      have e5 := sm _ _ edB
      refine ⟨e5, ?_⟩
      have D1 : D ≠ d1 := (ne_of_none edB hD).symm
      have hD0 : H D = none := by
        rw [upd_ne D1] at hD
        exact hD
      have s3 : Same H (upd H5 d1 (.dK (dk l))) := Same.unlock ed1 sm
      have eDU : (upd H5 d1 (.dK (dk l))) D = some (.dK (dk (flt (fun x => (look x m).isSome == true) l))) := by
        rw [upd_ne D1]
        exact eD
      generalize upd H5 d1 (.dK (dk l)) = H1 at s3 eDU ⊢
      intro x dx1 hx hdx hne
      have eX : (upd (upd H1 dx1 (.own x)) x (.ins C dx1 [])) x = some (.ins C dx1 []) := upd_same
      have sX : Same H1 (upd (upd H1 dx1 (.own x)) x (.ins C dx1 [])) := Same.new (Same.new (Same.refl _) hdx) (by rw [upd_ne hne.symm]; exact hx)
      generalize upd (upd H1 dx1 (.own x)) x (.ins C dx1 []) = HX at eX sX ⊢
      have s4 := s3.trans sX
      have cc : ∀ y, ((look y m).isSome == true) = ((look y gs).isSome == true) := fun y => by
        cases e1 : look y m with
        | none =>
          rw [(look_none.mpr fun z => look_none.mp e1 (pg.mem_iff.mpr z) : look y gs = none)]
          rfl
        | some v' =>
          obtain ⟨u', hu'⟩ := look_some (pg.mem_iff.mp (List.mem_map.mpr ⟨_, look_mem e1, rfl⟩ : y ∈ names m))
          rw [hu']
          rfl
      have ef : flt (fun x => (look x m).isSome == true) l = flt (fun x => (look x gs).isSome == true) l := by
        unfold flt
        exact List.filter_congr fun p _ => cc p.1
      rw [ef] at eDU
      have cu : ∀ y v u, look y (flt (fun x => (look x gs).isSome == true) l) = some v → look y (flt (fun x => (look x gs).isSome == true) fs) = some u → Rc All C H n v u := fun y v u h1 h2 => by
        rw [look_flt] at h1 h2
        split at h1
        · rename_i c
          rw [if_pos c] at h2
          exact ch y v u h1 h2
        · cases h1
      have pu : (names (flt (fun x => (look x gs).isSome == true) l)).Perm (names (flt (fun x => (look x gs).isSome == true) fs)) := by
        rw [names_flt, names_flt]
        exact pm.filter _
      have ln : (flt (fun x => (look x gs).isSome == true) l).length ≤ l.length := List.length_filter_le _ _
      have ndl : (names (flt (fun x => (look x gs).isSome == true) l)).Nodup := by
        rw [names_flt]
        exact nl.sublist List.filter_sublist
      refine ⟨x, dx1, D, flt (fun x => (look x gs).isSome == true) l, szf (flt (fun x => (look x gs).isSome == true) fs), rfl, eX, sX _ _ eDU, ndl, by omega, fun y v hv => ?_, fun l' H'' ra p2 lk fx => ⟨rfl, q x H'' ?_ ?_⟩⟩
      · obtain ⟨u, hu⟩ := look_some (pu.mem_iff.mp (List.mem_map.mpr ⟨_, look_mem hv, rfl⟩))
        have z := Rc.sz ((cu y v u hv hu).same s4)
        unfold szf
        rw [hu]
        exact z
      · exact rc_new pu wf.flt cu ra p2 lk (fun c o _ e _ => fx c o (fun z => by rw [z, s3.free hx] at e; cases e) (s4 _ _ e)) (fun _ _ => True.intro) (fun _ _ => True.intro)
      · exact fun c o e => fx c o (fun z => by rw [z, s3.free hx] at e; cases e) (s4 _ _ e)
end
end Lw
namespace Lw
open PySem PySem.Spec PyProof.Rows L2 GrT GrOwn
/-! ### an exception that bears a name -/
abbrev sShInit : Stmt := inClass (top 5) 0
section
variable {P : Program} {w : World} {K : PySem.W.Frag} {mg : Str → Option Value} {base : Heap} {C : Addr}
theorem scShInit : NdefX.NScope ["self", "name", "__class__"] ["self", "name"] ["__class__"] (defScope sShInit) := NdefX.nscope_by (by decide +kernel)
theorem fn_shared {x q : Str} (Z : ExK P K mg x q sShInit C) : ∃ (f : Addr) (fd : FuncData), PySem.W.findIn K (.ref C) "__init__" = some (some (.ref f)) ∧ PySem.W.typeIn K (.ref f) = some (.type "function") ∧ FnOk P w K mg base CX0 1 f fd ["self", "name"] (spEI C) ∧ Binds K fd ["self", "name"] [] := by
  obtain ⟨f, cc, cda, oc, ccl, cl, kV, doc, pm, ct, od, an, cdd, cld, osl, ccs, csl, vs0, file, tf, h1, h2, lk, hcd, hcode, hvs, hfile, hcell, hb⟩ := Z.ex
  refine ⟨f, _, h1, h2, ?_, hb⟩
  refine GrEx.fn_sup (N := ["self", "name", "__class__"]) (ar := { arg := "self", annotation := none, pos := ⟨21, 17, 21, 21⟩ }) Z.T scShInit lk hcd hcode hvs hfile hcell Z.sup Z.top (by rfl) (by rfl) (by rfl) Z.ho Z.hm Z.hB Z.mro (fun L => by rfl) (fun L => by rfl) (fun L => by rfl) (fun L => by rfl) (fun vs H Q E h => ?_) (fun A outer s H vs Q E h => ?_)
  · obtain ⟨a, x, rfl, _⟩ := h
    rfl
  · obtain ⟨a, x, rfl, ea, xl, xc, k⟩ := h
    refine ⟨a, _, _, rfl, ea, pa_cons (pe_joined (PJ.cons pe_str (PJ.cons (pe_fmtR (pv 1)) .nil))) pa_nil, pss_one (ps_ost (pv 0) (pv 1)), ?_⟩
    have rl := PySem.StrLaws.reprText_len x xc
    have cl1 : (Str.empty ++ Str.ofString "both records have a field ").length ≤ 100 := by decide +kernel
    refine ⟨_, rfl, line_big (Nat.le_trans cl1 (by decide)), _, rfl, .inl ⟨x, rfl, line_big (by omega), _, rfl, line_big (by rw [cat_len]; omega), by show 1 ≤ 1000; decide, ea, ?_⟩⟩
    exact ⟨_, rfl, _, rfl, a, C, rfl, Z.T, Z.noN, .inl ⟨ea, fun d h1 h2 => k d h1 h2⟩⟩
end
end Lw
namespace Lw
open PySem PySem.Spec PyProof.Rows L2 GrT GrOwn
/-! ### r op s, both of one class that defines op -/
structure MthX (P : Program) (w : World) (K : PySem.W.Frag) (mg : Str → Option Value) (base : Heap) (CX : CXT) (C : Addr) (k : Nat) (x : Str) (sp : Sp) : Prop where
  ex : ∃ (f : Addr) (fd : FuncData) (ps : List Str), FnOk P w K mg base CX k f fd ps sp ∧ Sm K C x f ∧ Binds K fd ps []
def tBinX (C : Addr) (sp : Sp) (E : L2.St → XK) (ta tb : TE) : TE := fun σ H Q => ta σ H fun x H1 => tb σ H1 fun y H2 => ∃ a dx fs b dy gs, x = .ref a ∧ y = .ref b ∧ H2 a = some (.ins C dx fs) ∧ H2 b = some (.ins C dy gs) ∧
  sp [.ref a, .ref b] H2 (fun v H' => ∃ r, v = .ref r ∧ Q (.ref r) H') (E σ)
section
variable {X : Cx} {CX : CXT} {C : Addr} {k j : Nat} {sp : Sp} {E : L2.St → XK} {a b : Expr} {ta tb : TE} {pos : Pos} {op : Operator}
theorem pe_binX {nm : Str} (m : MthX X.prog X.w X.K X.mg X.base CX C k nm sp) (hd : PySem.dunder op.info.2 = nm) (sf : PySem.W.selfFirst X.K C = true) (hr : Room j X.A) (hk : k ≤ j) (hx : ∀ σ, PassesAt CX X σ (E σ)) (ha : PE X a ta) (hb : PE X b tb) : PE X (.BinOp a op b pos) (tBinX C sp E ta tb) := by
  obtain ⟨f, fd, ps, F, sm, bd⟩ := m.ex
  refine ⟨fun pins s σ H Q I h => ?_⟩
  refine wpAny_BinOp (binT ha hb I h fun v u s2 x y H2 I2 rx ry q => ?_)
  obtain ⟨p, dx, fs, r, dy, gs, rfl, rfl, ea, eb, q⟩ := q
  cases rx
  cases ry
  obtain ⟨od, J⟩ := inst I2 ea
  obtain ⟨oe, J2⟩ := inst I2 eb
  obtain ⟨m0, hF⟩ := I2.fr
  refine PySem.W.binop_K hF I2.ok.mod.kin J J2.type sf (by rw [hd]; exact sm.at_) sm.fn (thn (run_fnS (vs := [V.ref p, V.ref r]) F (hr.mono hk) bd (hx σ) I2 (.cons rfl (.cons rfl .nil)) q) fun w s3 hq => ?_)
  obtain ⟨z, H', I', rz, r', rfl, qq⟩ := hq
  cases rz
  exact ⟨.ref r', H', I', rfl, qq⟩
end
end Lw
namespace Lw
open PySem PySem.Spec PyProof.Rows L2 GrT GrOwn GrMg
theorem d_or : PySem.dunder (Operator.info .BitOr).2 = (Str.ofString "__or__") := by decide +kernel
theorem d_add : PySem.dunder (Operator.info .Add).2 = (Str.ofString "__add__") := by decide +kernel
theorem d_sub : PySem.dunder (Operator.info .Sub).2 = (Str.ofString "__sub__") := by decide +kernel
theorem d_and : PySem.dunder (Operator.info .BitAnd).2 = (Str.ofString "__and__") := by decide +kernel
/-- the least common name, of names in ascending order -/
def common (ys : List Str) (gs : List (Str × T)) : Option Str := ys.find? fun x => (look x gs).isSome
def spAdd (C CS : Addr) (n : Nat) : Sp := fun vs H Q E => ∃ (a b : Addr) (fs gs : List (Str × T)), vs = [.ref a, .ref b] ∧ Rc All C H (n + 1) (.ref a) (.fds fs) ∧ Rc All C H (n + 1) (.ref b) (.fds gs) ∧ fs.length + gs.length ≤ 40 ∧
  (∀ ys, ys.Perm (names fs) → sortedS ys = true → common ys gs = none → ∀ r H', Rc All C H' (n + 1) (.ref r) (.fds (unite fs gs)) → Same H H' → Q (.ref r) H') ∧
  ∀ ys x, ys.Perm (names fs) → sortedS ys = true → common ys gs = some x → ∀ d H', H' d = some (.xd [("name", .str x)]) → Same H H' → E (.ref CS) (some d) H'
theorem find_at {α : Type} {p : α → Bool} {x : α} : ∀ {ys : List α} {i : Nat}, (∀ y ∈ ys.take i, p y = false) → ys[i]? = some x → p x = true → ys.find? p = some x
  | y :: r, 0, _, h, hp => by
    have e : y = x := Option.some.inj h
    rw [e, List.find?_cons, hp]
  | y :: r, i + 1, h0, h, hp => by
    have h1 := h0 y (by rw [List.take_succ_cons]; exact List.mem_cons_self)
    rw [List.find?_cons, h1]
    exact find_at (fun z hz => h0 z (by rw [List.take_succ_cons]; exact List.mem_cons_of_mem _ hz)) (by rw [← List.getElem?_cons_succ (a := y)]; exact h) hp
theorem good_cp {x : Str} (h : Good x) : x.length ≤ 1000 ∧ ∀ c ∈ x.cps.toList, c < 16 ^ 8 := ⟨by have := h.2.1; omega, fun c hc => by
  have := (h.2.2 c hc).2
  have e : (16 : Nat) ^ 8 = 4294967296 := by decide
  omega⟩
section
variable {P : Program} {w : World} {K : PySem.W.Frag} {mg : Str → Option Value} {base : Heap} {C CS : Addr}
theorem scAdd : FnScope ["self", "other", "name"] ["self", "other"] (defScope sAdd) := ⟨rfl, rfl, rfl, by decide +kernel, rfl, by decide +kernel, by decide +kernel⟩
theorem fn_add (R : RecK K mg C) (sf : PySem.W.selfFirst K C = true) (Z : ExK P K mg "Shared" "Shared.__init__" sShInit CS) (n : Nat) (m_or : MthX P w K mg base CX0 C 6 "__or__" (spOr C n)) {f : Addr} {fd : FuncData} (F : L2.Fun K "__add__" "Record.__add__" sAdd f fd) : FnOk P w K mg base (L2.CX P w) 7 f fd ["self", "other"] (spAdd C CS n) := by
  obtain ⟨fI, fdI, iC, tI, FI, bI⟩ := fn_shared (w := w) (base := base) Z
  refine Fun.okX F scAdd (fun vs H Q E h => ?_) (fun cdv A outer s H vs Q E hr h => ?_)
  · obtain ⟨a, b, fs, gs, rfl, _⟩ := h
    rfl
  · obtain ⟨a, b, fs, gs, rfl, r1, r2, hl, q1, q2⟩ := h
    have hu := hu_of hr
    have hr2 : Room 2 (A.deeper (envOfC "Record.__add__" (defScope sAdd) s.heap.objs.size f cdv)) := hr.mono (by decide)
    obtain ⟨l, ⟨⟨dx, tp, d1, _, ea, et, ed1⟩, nl, sl⟩, wf, pm, ch⟩ := Rc.out r1
    obtain ⟨m, ⟨⟨dy, tq, d2, _, eb, _, ed2⟩, nm, _⟩, wg, pg, cg⟩ := Rc.out r2
    refine ⟨_, (pss_cons (ps_for (passes_of rfl) rfl (pi_tup (pe_fld (pv 0) rfl)) (pg_name (i := 2) scAdd.nd rfl (Or.inl rfl))
      (pss_one (ps_if (pt_cmp (pc_din hu (pv 2) (pe_fld (pv 1) rfl)))
      (pss_one (ps_raise rfl (takes_of rfl rfl rfl rfl) (pmk_oex Z.T iC tI FI hr2 bI .nil pass0 (by rfl) Z.mgC (pa_cons (pv 2) pa_nil))))
      pss_nil)))
      (pss_one (ps_ret (pe_binX (E := fun _ => E0) m_or d_or sf hr (by decide) (fun σ pins H s e s' I h => pass0 pins σ H s e s' I h) (pv 0) (pv 1))))), ?_⟩
    have gm : ∀ x, look x m = none → look x gs = none := fun x e => look_none.mpr fun z => look_none.mp e (pg.mem_iff.mpr z)
    have gm2 : ∀ x v, look x m = some v → (look x gs).isSome = true := fun x v e => by
      obtain ⟨u, hu⟩ := look_some (pg.mem_iff.mp (List.mem_map.mpr ⟨_, look_mem e, rfl⟩ : x ∈ names m))
      rw [hu]
      rfl
    refine ⟨_, rfl, a, C, dx, _, _, rfl, ea, R.cl, R.nN, rf_names _ _ _, tp, rfl, ⟨_, SqT.of et⟩, for_it (walk_tup (xs := (names l).map V.str)) (fun i σ H' => ∃ nv : Option V, σ = [some (.ref a), some (.ref b), nv] ∧ H' = H ∧ ∀ x ∈ (names l).take i, (look x gs).isSome = false)
      ⟨none, rfl, rfl, fun x hx => by simp at hx⟩ (fun i σ H' _ h => ?_) ?_ ?_⟩
    · obtain ⟨nv, _, rfl, _⟩ := h
      exact SqT.of et
    · rintro i y σ H' H2 hi ⟨nv, rfl, rfl, ok⟩ ⟨rfl, hy⟩
      obtain ⟨x, hx, rfl⟩ : ∃ x, (names l)[i]? = some x ∧ y = V.str x := by
        rw [List.getElem?_map] at hy
        cases e : (names l)[i]? with
        | none =>
          rw [e] at hy
          cases hy
        | some x =>
          rw [e] at hy
          exact ⟨x, rfl, (Option.some.inj hy).symm⟩
      have hg := DGet.k (k := Sum.inr x) ed2
      rw [dk_val] at hg
      refine ⟨_, rfl, _, rfl, b, C, dy, _, _, rfl, eb, R.cl, R.nF, rf_fields _ _ _, d2, _, rfl, hg, _, rfl, ?_⟩
      cases e : look x m with
      | none =>
        refine iteF ⟨_, rfl, rfl, fun z hz => ?_⟩
        rw [List.take_add_one, hx] at hz
        rcases List.mem_append.mp hz with h | h
        · exact ok z h
        · have ez : z = x := by simpa using h
          rw [ez, gm x e]
          rfl
      | some v =>
        have gx : Good x := by
          obtain ⟨p, hp, ep⟩ := List.mem_map.mp (pm.mem_iff.mp (List.mem_of_getElem? hx))
          rw [← ep]
          exact wf.gd p hp
        obtain ⟨c1, c2⟩ := good_cp gx
        refine iteT ⟨_, rfl, by show 1 ≤ 1000; decide, fun ea2 he => ⟨ea2, x, rfl, upd_same, c1, c2, fun d hd hde => ⟨rfl, d, _, upd_same, by rw [upd_ne hde]; exact upd_same, ?_, ?_⟩⟩⟩
        · rw [upd_ne hde] at hd
          exact hd
        · refine q2 (names l) x pm sl (find_at ok hx (gm2 x v e)) d _ upd_same fun c o z => ?_
          have h0 : H2 d = none := by
            rw [upd_ne hde] at hd
            exact hd
          have n1 : c ≠ ea2 := ne_of_none z he
          rw [upd_ne (ne_of_none z h0), del_ne n1, upd_ne n1, upd_ne (ne_of_none z h0), upd_ne n1]
          exact z
    · rintro σ H' ⟨nv, rfl, rfl, ok⟩
      rw [List.length_map, List.take_length] at ok
      refine ⟨_, rfl, _, rfl, a, dx, _, b, dy, _, rfl, rfl, ea, eb, a, b, fs, gs, rfl, r1, r2, hl, fun r H2 rr s2 => ⟨r, rfl, q1 (names l) pm sl ?_ r H2 rr s2⟩⟩
      exact List.find?_eq_none.mpr fun x hx => by rw [ok x hx]; exact Bool.false_ne_true
end
end Lw
namespace Lw
open PySem PySem.Spec PyProof.Rows L2 GrT GrOwn
section
variable {X : Cx} {CX : CXT} {C : Addr} {k j : Nat} {sp : Sp} {E : XK} {x : Str} {o e : Expr} {es : List Expr} {pos apos : Pos} {ta : TE} {t : TA} {pl : Sem Bool}
end
end Lw
/-! == of two dicts whose values' == may run code: the two dicts stand physically still -/
namespace Qd
open PySem PySem.W PySem.Calls PyProof.Rows PyProof.V PySem.Spec
section
variable {prog : Program} {w : World} {K : Type} [DecidableEq K] {knd : KeyKind prog w K} {A : Around} {E : Value → Shared → Prop} {s : Shared}
theorem samePairsG {nm : String} {a b : Addr} {ka kb : List (K × Value)} {oa ob : Obj} {Q : Bool → Shared → Prop} (I : Nat → Shared → Prop) (ha : (a == sysModules) = false) (hb : (b == sysModules) = false)
    (da : s.heap.DictOf knd a ka) (db : s.heap.DictOf knd b kb) (ga : s.heap.get? a = some oa) (gb : s.heap.get? b = some ob)
    (keep : ∀ i s', I i s' → s'.heap.get? a = some oa ∧ s'.heap.get? b = some ob) (h0 : ka.length = kb.length → I 0 s) (hne : ka.length ≠ kb.length → Q false s)
    (turn : ∀ i k v s', ka[i]? = some (k, v) → I i s' → (valueAt kb k = none → Q false s') ∧ ∀ y, valueAt kb k = some y → wpAny (model prog w) A (eqBool v y) (fun r s2 => if r = true then I (i + 1) s2 else Q false s2) E s')
    (fin : ∀ s', I ka.length s' → Q true s') : wpAny (model prog w) A (Builtin.Dict.samePairs nm a b) Q E s := by
  obtain ⟨oa', es, ep, hoa, _, hda, hka, hpa, _⟩ := da
  obtain ⟨ob', es', ep', hob, _, hdb, hkb, hpb, _⟩ := db
  rw [ga] at hoa
  rw [gb] at hob
  cases hoa
  cases hob
  have hla : ka.length = es.size := by rw [← hpa.length]; exact Array.length_toList
  have hlb : kb.length = es'.size := by rw [← hpb.length]; exact Array.length_toList
  have hfind : ∀ k, findBy knd.is es' k = valueAt kb k := fun k => by
    rw [← hpb.find k]
    clear hlb hpb hkb hdb
    obtain ⟨l⟩ := es'
    simp [findBy]
  unfold Builtin.Dict.samePairs Builtin.Dict.showsAll
  rw [if_neg (show ¬ (a == sysModules) = true by rw [ha]; exact Bool.false_ne_true), if_neg (show ¬ (b == sysModules) = true by rw [hb]; exact Bool.false_ne_true)]
  refine wpAny_bind (wpAny_pure (wpAny_bind (wpAny_pure ?_)))
  refine wpAny_bind (wpAny_dictEntries ga hda ?_)
  dsimp only
  refine wpAny_bind (wpAny_dictEntries gb hdb ?_)
  by_cases hsz : es.size = es'.size
  case neg =>
    rw [if_pos (by simpa using hsz)]
    exact wpAny_bind (wpAny_rule (wpAny_pure (hne (by rw [hla, hlb]; exact hsz))))
  case pos =>
    have i0 := h0 (by rw [hla, hlb]; exact hsz)
    rw [if_neg (by rw [hsz]; simp)]
    refine wpAny_bind (wpAny_dictEpoch ga hda ?_)
    refine wpAny_bind ?_
    rw [Std.Legacy.Range.forIn_eq_forIn_range']
    simp only [Std.Legacy.Range.size, Nat.sub_zero, Nat.add_sub_cancel, Nat.div_one]
    refine wpAny_forIn_list _ (fun rest q s' => q = (none, ()) ∧ ∃ i, rest = List.range' i (es.size - i) ∧ i ≤ es.size ∧ I i s') _ ?_ ?_ _ _ ⟨rfl, 0, by simp, Nat.zero_le _, i0⟩
    · rintro x rest q s' ⟨rfl, i, hr, hi, hI⟩
      obtain ⟨ga', gb'⟩ := keep i s' hI
      have hlt : i < es.size := by
        rcases Nat.lt_or_ge i es.size with h | h
        · exact h
        · rw [Nat.sub_eq_zero_of_le h] at hr; simp at hr
      obtain ⟨rfl, hrest⟩ : x = i ∧ rest = List.range' (i + 1) (es.size - (i + 1)) := by
        have e : es.size - i = (es.size - (i + 1)) + 1 := by omega
        rw [e, List.range'_succ] at hr
        injection hr with h1 h2
        exact ⟨h1, h2⟩
      refine wpAny_bind (wpAny_dictEntries ga' hda ?_)
      rw [Array.getElem?_eq_getElem hlt]
      have hlt' : x < ka.length := by rw [hla]; exact hlt
      obtain ⟨k, v, hkv⟩ : ∃ k v, ka[x] = (k, v) := ⟨_, _, rfl⟩
      have hg : ka[x]? = some (k, v) := by rw [List.getElem?_eq_getElem hlt', hkv]
      obtain ⟨hkey, hval⟩ := hpa.get? (i := x) (e := es[x]) (k := k) (v := v) (by rw [Array.getElem?_toList]; exact Array.getElem?_eq_getElem hlt) hg
      obtain ⟨k', hk', hh⟩ := hka es[x] (Array.getElem_mem hlt)
      have ekk : k' = k := knd.inj _ _ _ hk' hkey
      rw [ekk] at hh
      obtain ⟨tn, ts⟩ := turn x k v s' hg hI
      show wpAny _ _ (holding [es[x].key, es[x].val] _ >>= _) _ _ _
      rw [hh]
      refine wpAny_bind (wpAny_holding (wpAny_bind (wpAny_dictFind_of hkey gb' hdb hkb ?_)))
      cases hj : es'.findIdx? fun e => knd.is k e.key with
      | none =>
        have hn : valueAt kb k = none := by rw [← hfind k, findBy_of_findIdx?, hj]
        refine wpAny_pure ?_
        show wpAny _ _ (if (!false) = true then _ else _) _ _ _
        rw [if_pos (by decide)]
        exact wpAny_pure (wpAny_pure (tn hn))
      | some j =>
        obtain ⟨hjlt, _, _⟩ := Array.findIdx?_eq_some_iff_getElem.mp hj
        have hv' : valueAt kb k = some es'[j].val := by
          rw [← hfind k, findBy_of_findIdx?, hj]
          simp [Array.getElem?_eq_getElem hjlt]
        refine wpAny_bind (wpAny_dictEntries gb' hdb ?_)
        rw [Array.getElem?_eq_getElem hjlt]
        have t1 := ts _ hv'
        rw [← hval] at t1
        refine wpAny_holding (wpAny_mono t1 (fun r s2 q2 => ?_) fun _ _ z => z)
        cases r with
        | false =>
          rw [if_neg Bool.false_ne_true] at q2
          show wpAny _ _ (if (!false) = true then _ else _) _ _ _
          rw [if_pos (by decide)]
          exact wpAny_pure (wpAny_pure q2)
        | true =>
          rw [if_pos rfl] at q2
          show wpAny _ _ (if (!true) = true then _ else _) _ _ _
          rw [if_neg (by decide)]
          refine wpAny_bind (wpAny_dictEpoch (keep _ _ q2).1 hda ?_)
          rw [if_neg (by simp)]
          exact wpAny_pure ⟨rfl, x + 1, hrest, hlt, q2⟩
    · rintro q s' ⟨rfl, i, hr, hi, hI⟩
      have hin : i = es.size := by
        rcases Nat.lt_or_ge i es.size with h | h
        · have e : es.size - i = (es.size - (i + 1)) + 1 := by omega
          rw [e, List.range'_succ] at hr; exact nomatch hr
        · exact Nat.le_antisymm hi h
      refine wpAny_pure (fin s' ?_)
      rw [hla, ← hin]
      exact hI
theorem rc_dictsG {a b : Addr} {ka kb : List (K × Value)} {oa ob : Obj} {Q : Bool → Shared → Prop} (I : Nat → Shared → Prop) (ha : (a == sysModules) = false) (hb : (b == sysModules) = false) (hu : A.units < cLine)
    (da : s.heap.DictOf knd a ka) (db : s.heap.DictOf knd b kb) (ga : s.heap.get? a = some oa) (gb : s.heap.get? b = some ob)
    (keep : ∀ i s', I i s' → s'.heap.get? a = some oa ∧ s'.heap.get? b = some ob) (h0 : ka.length = kb.length → I 0 s) (hne : ka.length ≠ kb.length → Q false s)
    (turn : ∀ i k v s', ka[i]? = some (k, v) → I i s' → (valueAt kb k = none → Q false s') ∧ ∀ y, valueAt kb k = some y → wpAny (model prog w) A.in1 (eqBool v y) (fun r s2 => if r = true then I (i + 1) s2 else Q false s2) E s')
    (fin : ∀ s', I ka.length s' → Q true s') : wpAny (model prog w) A (richCompare .Eq (.ref a) (.ref b)) (fun v s' => ∃ r, v = .bool r ∧ Q r s') E s := by
  refine wpAny_richCompare_same_room (op := .Eq) da.typeIs db.typeIs PySem.F.slot_dict_eq (wpAny_call_entry PySem.F.slot_dict_eq da.typeIs PySem.F.entry_dict_eq ?_ (PySem.F.args_dict_eq_2 _ _)) hu
  show wpAny _ _ (Builtin.Dict.dictSlotArgs "__eq__" ⟨[.ref a, .ref b], []⟩ >>= _) _ _ s
  refine wpAny_bind ?_
  unfold Builtin.Dict.dictSlotArgs
  refine wpAny_bind (wpAny_notOrdered_dict da.typeIs ?_)
  show wpAny _ _ (pure (Value.ref a, Value.ref b)) _ _ s
  refine wpAny_pure ?_
  refine wpAny_bind (wpAny_isInstance (T := "dict") db.typeIs PySem.F.sub_dict_dict ?_)
  simp only [Bool.not_true, Bool.false_eq_true, if_false]
  refine wpAny_bind (wpAny_pure (wpAny_bind (wpAny_pure ?_)))
  refine wpAny_bind (wpAny_mono (samePairsG (Q := Q) I ha hb da db ga gb keep h0 hne turn fin) (fun r s' q => ?_) fun e s' z => z)
  refine wpAny_pure ⟨_, rfl, ?_, ?_⟩
  · exact fun x => nomatch x
  · exact ⟨r, by simp, q⟩
end
end Qd
namespace Qd
open PySem PySem.Spec PyProof.Rows L2
/-- what is decided of two values -/
abbrev Dcd := V → V → Bool → Hp → Prop
def MonB (D : Dcd) : Prop := ∀ x y e H H', Ext H H' → D x y e H → D x y e H'
/-- == within a builtin gives what D says, and only makes objects -/
def EqB (X : Cx) (n : Nat) (D : Dcd) : Prop :=
  ∀ (A : Around) (pins : List (Addr × Obj)) (s : Shared) (σ : L2.St) (H : Hp) (x y : V) (u v : Value) (e : Bool), Sub X n A → Inv X pins σ H s → RelV x u → RelV y v → D x y e H →
    wpAny (model X.prog X.w) A (eqBool u v) (fun r s' => r = e ∧ ∃ H', Inv X pins σ H' s' ∧ Ext H H') X.xe s
def tstB (d : V → V → Bool) (kb : List (Key × V)) (p : Key × V) : Bool := match valV kb p.1 with
  | none => false
  | some y => d p.2 y
def allB (d : V → V → Bool) (ka kb : List (Key × V)) : Bool := (ka.length == kb.length) && ka.all (tstB d kb)
section
variable {X : Cx} {n : Nat} {D : Dcd} {A : Around} {pins : List (Addr × Obj)} {σ : L2.St} {H : Hp} {s : Shared} {a b : Addr} {ka kb : List (Key × V)}
theorem lock2 (I : Inv X pins σ H s) (ha : H a = some (.dK ka)) (hb : H b = some (.dK kb)) : ∃ oa ob, Inv X pins σ (upd (upd H a (.frz oa (.dK ka))) b (.frz ob (.dK kb))) s ∧
    (upd (upd H a (.frz oa (.dK ka))) b (.frz ob (.dK kb))) a = some (.frz oa (.dK ka)) ∧
    ∀ H' s', Inv X pins σ H' s' → Ext (upd (upd H a (.frz oa (.dK ka))) b (.frz ob (.dK kb))) H' → ∃ H'', Inv X pins σ H'' s' ∧ Ext H H'' := by
  have na := I.nofrz ha True.intro
  have nb := I.nofrz hb True.intro
  obtain ⟨oa, I1⟩ := I.lock ha True.intro
  by_cases e : a = b
  · subst e
    rw [ha] at hb
    cases hb
    refine ⟨oa, oa, by rw [upd_upd]; exact I1, upd_same, fun H' s' I' x => ?_⟩
    have x' := x a _ upd_same
    refine ⟨_, I'.unlock x' na, fun c o hc => ?_⟩
    by_cases q : c = a
    · rw [q, upd_same, ← ha, ← q, hc]
    · rw [upd_ne q]
      exact x c o (by rw [upd_ne q, upd_ne q]; exact hc)
  · have ne : b ≠ a := fun z => e z.symm
    obtain ⟨ob, I2⟩ := I1.lock (d := b) (u := .dK kb) (by rw [upd_ne ne]; exact hb) True.intro
    refine ⟨oa, ob, I2, by rw [upd_ne e]; exact upd_same, fun H' s' I' x => ?_⟩
    have xb := x b _ upd_same
    have xa := x a (.frz oa (.dK ka)) (by rw [upd_ne e]; exact upd_same)
    have J := I'.unlock xb nb
    refine ⟨_, J.unlock (d := a) (od := oa) (u := .dK ka) (by rw [upd_ne e]; exact xa) na, fun c o hc => ?_⟩
    by_cases q : c = a
    · rw [q, upd_same, ← ha, ← q, hc]
    · rw [upd_ne q]
      by_cases q2 : c = b
      · rw [q2, upd_same, ← hb, ← q2, hc]
      · rw [upd_ne q2]
        exact x c o (by rw [upd_ne q2, upd_ne q]; exact hc)
theorem rcB_dict (mon : MonB D) (h : EqB X n D) {d : V → V → Bool} (sb : Sub X (n + 1) A) (I : Inv X pins σ H s) (ha : H a = some (.dK ka)) (hb : H b = some (.dK kb))
    (hd : ka.length = kb.length → ∀ oa ob k v y, (k, v) ∈ ka → valV kb k = some y → D v y (d v y) (upd (upd H a (.frz oa (.dK ka))) b (.frz ob (.dK kb)))) :
    wpAny (model X.prog X.w) A (richCompare .Eq (.ref a) (.ref b)) (fun r s' => r = .bool (allB d ka kb) ∧ ∃ H', Inv X pins σ H' s' ∧ Ext H H') X.xe s := by
  obtain ⟨_, sa, vsa, kva, da⟩ := dk_of I.hok ha
  obtain ⟨_, sy, vsb, kvb, db⟩ := dk_of I.hok hb
  obtain ⟨oa, ob, IL, hla, un⟩ := lock2 I ha hb
  have hlb : (upd (upd H a (.frz oa (.dK ka))) b (.frz ob (.dK kb))) b = some (.frz ob (.dK kb)) := upd_same
  have la := kva.length
  have lb := kvb.length
  generalize hHL : upd (upd H a (.frz oa (.dK ka))) b (.frz ob (.dK kb)) = HL at IL hla un hlb
  have bad : ∀ p ∈ ka, tstB d kb p = false → allB d ka kb = false := fun p hp e => by
    unfold allB
    rw [Bool.and_eq_false_iff]
    refine .inr ?_
    rw [← Bool.not_eq_true, List.all_eq_true]
    intro z
    rw [z p hp] at e
    cases e
  refine wpAny_mono (rc_dictsG (Q := fun r s' => r = allB d ka kb ∧ ∃ H', Inv X pins σ H' s' ∧ Ext H H') (fun i s' => ka.length = kb.length ∧ (ka.take i).all (tstB d kb) = true ∧ ∃ H', Inv X pins σ H' s' ∧ Ext HL H') sa sy sb.room.units0 da db (IL.hok a _ hla).1 (IL.hok b _ hlb).1
    (fun i s' q => ?_) (fun e => ?_) (fun e => ?_) (fun i k v s' hi q => ?_) (fun s' q => ?_)) (fun v s' q => ?_) fun _ _ z => z
  · obtain ⟨_, _, H', I', x⟩ := q
    exact ⟨(I'.hok a _ (x _ _ hla)).1, (I'.hok b _ (x _ _ hlb)).1⟩
  · exact ⟨by rw [la, lb]; exact e, by simp, HL, IL, Ext.rfl'⟩
  · refine ⟨?_, H, I, Ext.rfl'⟩
    unfold allB
    have : (ka.length == kb.length) = false := by rw [beq_eq_false_iff_ne]; intro z; exact e (by rw [← la, ← lb]; exact z)
    rw [this, Bool.false_and]
  · obtain ⟨hlen, hall, H', I', x⟩ := q
    obtain ⟨xv, hx, rx⟩ := KV.at' kva hi
    have hm : (k, xv) ∈ ka := List.mem_of_getElem? hx
    have rv := kvb.val k
    have step : (ka.take (i + 1)).all (tstB d kb) = ((ka.take i).all (tstB d kb) && tstB d kb (k, xv)) := by
      rw [List.take_add_one, hx, Option.toList_some, List.all_append]
      simp
    refine ⟨fun hn => ?_, fun y hy => ?_⟩
    · have e : valV kb k = none := by
        rw [hn] at rv
        cases e : valV kb k with
        | none => rfl
        | some z =>
          rw [e] at rv
          exact rv.elim
      obtain ⟨H2, I2, e2⟩ := un H' s' I' x
      exact ⟨(bad _ hm (by unfold tstB; rw [e])).symm, H2, I2, e2⟩
    · obtain ⟨z, hz, rz⟩ : ∃ z, valV kb k = some z ∧ RelV z y := by
        rw [hy] at rv
        cases e : valV kb k with
        | none =>
          rw [e] at rv
          exact rv.elim
        | some z =>
          rw [e] at rv
          exact ⟨z, rfl, rv⟩
      have hD := hd hlen oa ob k xv z hm hz
      rw [hHL] at hD
      have et : tstB d kb (k, xv) = d xv z := by
        unfold tstB
        rw [hz]
      refine wpAny_mono (h A.in1 pins s' σ H' xv z v y _ sb.in1 I' rx rz (mon _ _ _ _ _ x hD)) (fun r s2 q2 => ?_) fun _ _ z => z
      obtain ⟨rfl, H2, I2, e2⟩ := q2
      by_cases hdv : d xv z = true
      · rw [if_pos hdv]
        exact ⟨hlen, by rw [step, hall, et, hdv]; rfl, H2, I2, x.trans e2⟩
      · rw [if_neg hdv]
        obtain ⟨H3, I3, e3⟩ := un H2 s2 I2 (x.trans e2)
        exact ⟨(bad _ hm (by rw [et]; simpa using hdv)).symm, H3, I3, e3⟩
  · obtain ⟨hlen, hall, H', I', x⟩ := q
    obtain ⟨H2, I2, e2⟩ := un H' s' I' x
    refine ⟨?_, H2, I2, e2⟩
    rw [← la, List.take_length] at hall
    unfold allB
    rw [hall, hlen]
    simp
  · obtain ⟨r, rfl, rfl, q⟩ := q
    exact ⟨rfl, q⟩
end
end Qd
namespace Qd
open PySem PySem.Spec PyProof.Rows L2 GrOwn
section
variable {X : Cx} {CX : CXT} {k : Nat} {C f : Addr} {fd : FuncData} {ps : List Str} {sp : Sp} {E : XK} {A : Around} {pins : List (Addr × Obj)} {σ : L2.St} {H : Hp} {s : Shared}
theorem run_sub {Q : VK} {us : List Value} {vs : List V} (F : FnOk X.prog X.w X.K X.mg X.base CX k f fd ps sp) (sb : Sub X k A) (hb : Binds X.K fd ps []) (hx : Passes CX X E) (I : Inv X pins σ H s) (r : Vals vs us) (h : sp vs H Q E) :
    wpAny (model X.prog X.w) A (call (.ref f) us) (EP X pins σ Q) X.xe s := by
  have e0 : Env0 X.prog X.w X.K X.mg X.base A X.stack s H := by
    have e := I.env0
    exact ⟨by rw [sb.fr]; exact e.frames, e.mod, e.bs, e.bsz, e.funs, e.frf, e.hok, e.bare⟩
  have hl := F.len _ _ _ _ h
  refine wpAny_call (codeAny_mono (F.run A X.stack s H ⟨us, []⟩ us vs Q E sb.room e0 (by
    have hl2 : us.length = ps.length := by rw [← r.length]; exact hl
    have := hb s us I.kIn (by simpa using hl2)
    simpa using this) r h) fun r s' hq => ?_)
  cases r with
  | error e => exact hx pins σ H s e s' I hq
  | ok fl =>
    cases fl with
    | ret w => exact I.after hq
    | next => exact False.elim hq
    | brk => exact False.elim hq
    | cont => exact False.elim hq
/-- == of two values, at any depth below: r == y by r's own def -/
theorem rc_own {Q : VK} {a : Addr} {y : V} {u : Value} (m : GrOwn.Sm X.K C "__eq__" f) (hi : PySem.W.subIn X.K (.type "int") (.ref C) = some false) (F : FnOk X.prog X.w X.K X.mg X.base CX k f fd ps sp) (sb : Sub X k A) (hb : Binds X.K fd ps []) (hx : Passes CX X E)
    (I : Inv X pins σ H s) (ry : RelV y u) {dx : Addr} {fs : List (Str × V)} (ea : H a = some (.ins C dx fs)) (hy : (∃ i, y = .int i) ∨ ∃ b dy gs, y = .ref b ∧ H b = some (.ins C dy gs)) (q : sp [.ref a, y] H (fun v H' => ∃ b, v = .bl b ∧ Q (.bl b) H') E) :
    wpAny (model X.prog X.w) A (richCompare .Eq (.ref a) u) (EP X pins σ Q) X.xe s := by
  obtain ⟨od, J⟩ := inst I ea
  obtain ⟨m0, hF⟩ := I.fr
  have fin : wpAny (model X.prog X.w) A (call (.ref f) [.ref a, u]) (PySem.W.CmpBack (EP X pins σ Q)) X.xe s := by
    refine thn (run_sub (vs := [V.ref a, y]) F sb hb hx I (.cons rfl (.cons ry .nil)) q) fun r s' hq => ?_
    obtain ⟨z, H', I', rz, b, rfl, qq⟩ := hq
    cases rz
    exact ⟨.bl b, H', I', rfl, qq⟩
  rcases hy with ⟨i, rfl⟩ | ⟨b, dy, gs, rfl, eb⟩
  · obtain ⟨t, rfl⟩ := ry
    refine PySem.W.cmp_K (op := .Eq) (tb := .type "int") sb.room.units0 hF I.ok.mod.kin J .now ?_ m.at_ m.fn fin
    unfold PySem.W.notFirst
    rw [hi]
    rfl
  · cases ry
    obtain ⟨oe, J2⟩ := inst I eb
    exact PySem.W.cmp_K (op := .Eq) (tb := .ref C) sb.room.units0 hF I.ok.mod.kin J J2.type (by simp [PySem.W.notFirst]) m.at_ m.fn fin
theorem rc_int {Q : VK} {a : Addr} {i : Int} {t : Tok} (m : GrOwn.Sm X.K C "__eq__" f) (hi : PySem.W.subIn X.K (.ref C) (.type "int") = some false) (F : FnOk X.prog X.w X.K X.mg X.base CX k f fd ps sp) (sb : Sub X k A) (hb : Binds X.K fd ps []) (hx : Passes CX X E)
    (I : Inv X pins σ H s) {dx : Addr} {fs : List (Str × V)} (ea : H a = some (.ins C dx fs)) (q : sp [.ref a, .int i] H (fun v H' => ∃ b, v = .bl b ∧ Q (.bl b) H') E) :
    wpAny (model X.prog X.w) A (richCompare .Eq (.int i t) (.ref a)) (EP X pins σ Q) X.xe s := by
  obtain ⟨od, J⟩ := inst I ea
  obtain ⟨m0, hF⟩ := I.fr
  have K0 := I.kIn
  have one : wpAny (model X.prog X.w) A (tryCompare (.ref a) "__eq__" (.int i t)) (fun r s' => ∃ v, r = some v ∧ EP X pins σ Q v s') X.xe s := by
    unfold tryCompare
    refine wpAny_bind (PySem.W.ifBound_K K0 J m.at_ m.fn (thn (run_sub (vs := [V.ref a, V.int i]) F sb hb hx I (.cons rfl (.cons ⟨t, rfl⟩ .nil)) q) fun r s' hq => ?_))
    obtain ⟨z, H', I', rz, b, rfl, qq⟩ := hq
    cases rz
    exact wpAny_pure ⟨_, rfl, .bl b, H', I', rfl, qq⟩
  have o0 : oneThing? .Eq (.int i t) (.ref a) = none := by first | rfl | decide +kernel
  have ne : (Value.type "int" != Value.ref C) = true := by simp
  unfold richCompare
  simp only [o0]
  refine wpAny_holding (wpAny_bind (wpAny_cRoomFor sb.room.units0 ?_))
  refine wpAny_bind (wpAny_typeOf (T := "int") (PySem.typeIs_int s i t) (wpAny_bind (J.type.here ?_)))
  simp only [ne, if_true]
  refine wpAny_bind ((PySem.W.looks_subIn K0 hi).here ?_)
  simp only [Bool.false_eq_true, if_false, Bool.not_false, if_true]
  refine wpAny_bind (m := tryCompare (.int i t) _ (.ref a)) (wpAny_tryCompare_declines (PySem.typeIs_int s i t) PySem.F.slot_int_eq (int_eq_ins J.at_ rfl ⟨rfl, ?_⟩))
  refine wpAny_bind (m := tryCompare (.ref a) _ (.int i t)) (wpAny_mono one (fun r s' z => ?_) fun _ _ e => e)
  obtain ⟨v, rfl, hq⟩ := z
  exact wpAny_pure hq
/-- from a rich comparison to == within a builtin -/
theorem eqBool_ri {a : Addr} {i : Int} {t : Tok} {Q : Bool → Shared → Prop} {M : Model} {E : Value → Shared → Prop} (h : wpAny M A (richCompare .Eq (.ref a) (.int i t)) (fun r s' => ∃ b, r = .bool b ∧ Q b s') E s) : wpAny M A (eqBool (.ref a) (.int i t)) Q E s := by
  unfold eqBool
  refine wpAny_holding ?_
  refine wpAny_ite_split (fun hab => absurd (eq_of_beq hab) (fun z => nomatch z)) (fun _ => ?_)
  refine wpAny_bind (wpAny_mono h (fun v s' hv => ?_) fun _ _ x => x)
  obtain ⟨r, rfl, q⟩ := hv
  exact wpAny_truthy_bool q
theorem eqBool_ir {a : Addr} {i : Int} {t : Tok} {Q : Bool → Shared → Prop} {M : Model} {E : Value → Shared → Prop} (h : wpAny M A (richCompare .Eq (.int i t) (.ref a)) (fun r s' => ∃ b, r = .bool b ∧ Q b s') E s) : wpAny M A (eqBool (.int i t) (.ref a)) Q E s := by
  unfold eqBool
  refine wpAny_holding ?_
  refine wpAny_ite_split (fun hab => absurd (eq_of_beq hab) (fun z => nomatch z)) (fun _ => ?_)
  refine wpAny_bind (wpAny_mono h (fun v s' hv => ?_) fun _ _ x => x)
  obtain ⟨r, rfl, q⟩ := hv
  exact wpAny_truthy_bool q
end
end Qd
namespace Lw
open PySem PySem.Spec PyProof.Rows L2 GrT GrOwn Qd
/-! ### alike up to order is an equivalence; what a record is, is told once -/
theorem Sm.symm : ∀ {n : Nat} {t u : T}, GrT.Sm n t u → GrT.Sm n u t
  | 0, t, u, ⟨i, e1, e2⟩ => ⟨i, e2, e1⟩
  | n + 1, t, u, h => by
    rcases h with ⟨i, e1, e2⟩ | ⟨fs, gs, e1, e2, nd, pm, ch⟩
    · exact .inl ⟨i, e2, e1⟩
    · exact .inr ⟨gs, fs, e2, e1, pm.nodup_iff.mp nd, pm.symm, fun x v w h1 h2 => Lw.Sm.symm (ch x w v h2 h1)⟩
theorem Sm.trans : ∀ {n : Nat} {t u v : T}, GrT.Sm n t u → GrT.Sm n u v → GrT.Sm n t v
  | 0, t, u, v, ⟨i, e1, e2⟩, ⟨j, f1, f2⟩ => by
    rw [e2] at f1
    cases f1
    exact ⟨i, e1, f2⟩
  | n + 1, t, u, v, h, g => by
    rcases h with ⟨i, e1, e2⟩ | ⟨fs, gs, e1, e2, nd, pm, ch⟩
    · rcases g with ⟨j, f1, f2⟩ | ⟨_, _, f1, _⟩
      · rw [e2] at f1
        cases f1
        exact .inl ⟨i, e1, f2⟩
      · rw [e2] at f1
        cases f1
    · rcases g with ⟨j, f1, _⟩ | ⟨gs', hs, f1, f2, nd', pm', ch'⟩
      · rw [e2] at f1
        cases f1
      · rw [e2] at f1
        cases f1
        refine .inr ⟨fs, hs, e1, f2, nd, pm.trans pm', fun x a c h1 h2 => ?_⟩
        obtain ⟨b, hb⟩ := look_some (pm.mem_iff.mp (List.mem_map.mpr ⟨_, look_mem h1, rfl⟩))
        exact Lw.Sm.trans (ch x a b h1 hb) (ch' x b c hb h2)
theorem RA.one {S S' : Addr → Prop} {C : Addr} {H : Hp} {a : Addr} {l m : List (Str × V)} {z y : Int} (r : RA S C H a l z) (q : RA S' C H a m y) : l = m := by
  obtain ⟨⟨dx, tp, d, _, e1, _, e3⟩, _, _⟩ := r
  obtain ⟨⟨dx', tp', d', _, f1, _, f3⟩, _, _⟩ := q
  rw [e1] at f1
  have h : rf tp d z = rf tp' d' y := by
    injection f1 with f1
    injection f1
  have hd : d = d' := by
    have := rf_fields tp d z
    rw [h, rf_fields] at this
    exact (V.ref.inj (Option.some.inj this)).symm
  rw [hd, f3] at e3
  exact (dk_inj (HO.dK.inj (Option.some.inj e3))).symm
theorem Rc.one {S S' : Addr → Prop} {C : Addr} {H : Hp} : ∀ {n : Nat} {v : V} {t u : T}, Rc S C H n v t → Rc S' C H n v u → GrT.Sm n t u
  | 0, v, t, u, ⟨i, e1, e2⟩, ⟨j, f1, f2⟩ => by
    rw [e1] at f1
    cases f1
    exact ⟨i, e2, f2⟩
  | n + 1, v, t, u, h, g => by
    rcases h with ⟨i, e1, e2⟩ | ⟨a, l, fs, e1, e2, ra, wf, pm, ch⟩
    · rcases g with ⟨j, f1, f2⟩ | ⟨_, _, _, f1, _⟩
      · rw [e1] at f1
        cases f1
        exact .inl ⟨i, e2, f2⟩
      · rw [e1] at f1
        cases f1
    · rcases g with ⟨j, f1, _⟩ | ⟨b, m, gs, f1, f2, rb, wg, pg, cg⟩
      · rw [e1] at f1
        cases f1
      · rw [e1] at f1
        cases f1
        have e := RA.one ra rb
        subst e
        refine .inr ⟨fs, gs, e2, f2, wf.nd, pm.symm.trans pg, fun x p q h1 h2 => ?_⟩
        obtain ⟨y, hy⟩ := look_some (pm.mem_iff.mpr (List.mem_map.mpr ⟨_, look_mem h1, rfl⟩))
        exact Rc.one (ch x y p hy h1) (cg x y q hy h2)
/-- what == decides of two values -/
def DRec (C : Addr) (n : Nat) : Dcd := fun x y e H => ∃ t u, Rc All C H n x t ∧ Rc All C H n y u ∧ (e = true ↔ GrT.Sm n t u)
theorem mon_rec {C : Addr} {n : Nat} : MonB (DRec C n) := fun x y e H H' x' ⟨t, u, h1, h2, h3⟩ => ⟨t, u, h1.same x', h2.same x', h3⟩
open Classical in
/-- the decision, as a function of the values -/
noncomputable def dRec (C : Addr) (n : Nat) (H : Hp) (x y : V) : Bool := decide (∃ t u, Rc All C H n x t ∧ Rc All C H n y u ∧ GrT.Sm n t u)
theorem dRec_iff {C : Addr} {n : Nat} {H : Hp} {x y : V} {t u : T} (h1 : Rc All C H n x t) (h2 : Rc All C H n y u) : dRec C n H x y = true ↔ GrT.Sm n t u := by
  unfold dRec
  rw [@decide_eq_true_iff _ (Classical.propDecidable _)]
  exact ⟨fun ⟨t', u', g1, g2, s⟩ => Lw.Sm.trans (Rc.one h1 g1) (Lw.Sm.trans s (Rc.one g2 h2)), fun s => ⟨t, u, h1, h2, s⟩⟩
theorem perm_of {l m : List Str} (n1 : l.Nodup) (n2 : m.Nodup) (hl : l.length = m.length) (h : ∀ x ∈ l, x ∈ m) : l.Perm m := by
  refine (List.perm_ext_iff_of_nodup n1 n2).mpr fun z => ⟨h z, fun hz => ?_⟩
  by_cases q : z ∈ l
  · exact q
  · have := sub_len (l := z :: l) (m := m) (List.nodup_cons.mpr ⟨q, n1⟩) fun x hx => by
      rcases List.mem_cons.mp hx with e | e
      · rw [e]
        exact hz
      · exact h x e
    rw [List.length_cons] at this
    omega
theorem all_iff {C : Addr} {n : Nat} {H : Hp} {l m : List (Str × V)} {fs gs : List (Str × T)} (nl : (names l).Nodup) (nm : (names m).Nodup) (nf1 : (names fs).Nodup) (pl : (names l).Perm (names fs)) (pm : (names m).Perm (names gs))
    (cl : ∀ x v u, look x l = some v → look x fs = some u → Rc All C H n v u) (cm : ∀ x v u, look x m = some v → look x gs = some u → Rc All C H n v u) :
    Qd.allB (dRec C n H) (dk l) (dk m) = true ↔ GrT.Sm (n + 1) (.fds fs) (.fds gs) := by
  unfold Qd.allB
  rw [Bool.and_eq_true, beq_iff_eq, dk_len, dk_len, List.all_eq_true]
  constructor
  · rintro ⟨h1, h2⟩
    have hh : ∀ x v, look x l = some v → ∃ y, look x m = some y ∧ dRec C n H v y = true := fun x v hx => by
      have := h2 (Sum.inr x, v) (List.mem_map.mpr ⟨(x, v), look_mem hx, rfl⟩)
      unfold tstB at this
      rw [dk_val] at this
      cases e : look x m with
      | none =>
        rw [e] at this
        cases this
      | some y =>
        rw [e] at this
        exact ⟨y, rfl, this⟩
    have pn : (names l).Perm (names m) := perm_of nl nm (by rw [List.length_map, List.length_map]; exact h1) fun x hx => by
      obtain ⟨v, hv⟩ := look_some hx
      obtain ⟨y, hy, _⟩ := hh x v hv
      exact List.mem_map.mpr ⟨_, look_mem hy, rfl⟩
    refine .inr ⟨fs, gs, rfl, rfl, nf1, (pl.symm.trans pn).trans pm, fun x t u h3 h4 => ?_⟩
    obtain ⟨v, hv⟩ := look_some (pl.mem_iff.mpr (List.mem_map.mpr ⟨_, look_mem h3, rfl⟩))
    obtain ⟨y, hy, hd⟩ := hh x v hv
    exact (dRec_iff (cl x v t hv h3) (cm x y u hy h4)).mp hd
  · intro h
    rcases h with ⟨i, e, _⟩ | ⟨fs', gs', e1, e2, nd, pn, ch⟩
    · cases e
    · cases e1
      cases e2
      have pp : (names l).Perm (names m) := (pl.trans pn).trans pm.symm
      refine ⟨by have := pp.length_eq; rwa [List.length_map, List.length_map] at this, fun p hp => ?_⟩
      obtain ⟨⟨x, v⟩, hx, rfl⟩ := List.mem_map.mp hp
      have hv := mem_look nl hx
      obtain ⟨y, hy⟩ := look_some (pp.mem_iff.mp (List.mem_map.mpr ⟨_, hx, rfl⟩))
      obtain ⟨t, ht⟩ := look_some (pl.mem_iff.mp (List.mem_map.mpr ⟨_, hx, rfl⟩))
      obtain ⟨u, hu⟩ := look_some (pm.mem_iff.mp (List.mem_map.mpr ⟨_, look_mem hy, rfl⟩))
      show tstB (dRec C n H) (dk m) (Sum.inr x, v) = true
      unfold tstB
      rw [dk_val, hy]
      exact (dRec_iff (cl x v t hv ht) (cm x y u hy hu)).mpr (ch x t u ht hu)
end Lw
namespace Lw
open PySem PySem.Spec PyProof.Rows L2 GrT GrOwn Qd
/-- == of two dicts in the text -/
def rDict (D : Dcd) : R2 := fun x y H Q => ∃ (a b : Addr) (ka kb : List (Key × V)) (d : V → V → Bool), x = .ref a ∧ y = .ref b ∧ H a = some (.dK ka) ∧ H b = some (.dK kb) ∧
  (ka.length = kb.length → ∀ oa ob k v y, (k, v) ∈ ka → valV kb k = some y → D v y (d v y) (upd (upd H a (.frz oa (.dK ka))) b (.frz ob (.dK kb)))) ∧ ∀ H', Ext H H' → Q (.bl (Qd.allB d ka kb)) H'
theorem op_dictB {X : Cx} {n : Nat} {D : Dcd} (mon : MonB D) (h : EqB X n D) (hr : Room (n + 1) X.A) : OpR X (compareOp .Eq) (rDict D) := by
  intro pins s σ H x y v u Q I rx ry hq
  obtain ⟨a, b, ka, kb, d, rfl, rfl, ha, hb, hd, q⟩ := hq
  cases rx
  cases ry
  show wpAny (model X.prog X.w) X.A (richCompare .Eq (.ref a) (.ref b)) (EP X pins σ Q) X.xe s
  refine wpAny_mono (rcB_dict mon h ⟨hr, rfl⟩ I ha hb hd) (fun r s' z => ?_) fun _ _ x => x
  obtain ⟨rfl, H', I', e⟩ := z
  exact ⟨.bl _, H', I', rfl, q H' e⟩
/-- __eq__, asked of an int or of a record n + 1 deep -/
def spEqR (C : Addr) (n : Nat) : Sp := fun vs H Q _ => ∃ (a : Addr) (fs : List (Str × T)), Rc All C H (n + 1) (.ref a) (.fds fs) ∧
  ((∃ i, vs = [.ref a, .int i] ∧ ∀ H', Same H H' → Q (.bl false) H') ∨
   ∃ (b : Addr) (gs : List (Str × T)), vs = [.ref a, .ref b] ∧ Rc All C H (n + 1) (.ref b) (.fds gs) ∧ ∀ e H', (e = true ↔ GrT.Sm (n + 1) (.fds fs) (.fds gs)) → Same H H' → Q (.bl e) H')
theorem Rc.outR {C : Addr} {H : Hp} {n : Nat} {a : Addr} {t : T} (h : Rc All C H (n + 1) (.ref a) t) : ∃ fs l, t = .fds fs ∧ RA All C H a l (nfs fs) ∧ Wf 40 fs ∧ (names l).Perm (names fs) ∧ ∀ x v u, look x l = some v → look x fs = some u → Rc All C H n v u := by
  rcases h with ⟨i, e, _⟩ | ⟨a', l, fs, e1, e2, ra, wf, pm, ch⟩
  · cases e
  · cases e1
    exact ⟨fs, l, e2, ra, wf, pm, ch⟩
theorem eqV_int {i j : Int} : eqV (.int i) (.int j) = true ↔ i = j := by
  show (i == j) = true ↔ i = j
  exact beq_iff_eq
theorem sm_int {n : Nat} {i j : Int} : GrT.Sm n (.int i) (.int j) ↔ i = j := by
  constructor
  · intro h
    cases n with
    | zero =>
      obtain ⟨k, e1, e2⟩ := h
      cases e1
      cases e2
      rfl
    | succ n =>
      rcases h with ⟨k, e1, e2⟩ | ⟨_, _, e1, _⟩
      · cases e1
        cases e2
        rfl
      · cases e1
  · intro e
    rw [e]
    cases n with
    | zero => exact ⟨j, rfl, rfl⟩
    | succ n => exact .inl ⟨j, rfl, rfl⟩
theorem eqB_int {X : Cx} {C : Addr} : EqB X 0 (DRec C 0) := by
  intro A pins s σ H x y u v e sb I rx ry d
  obtain ⟨t, t', ⟨i, rfl, rfl⟩, ⟨j, rfl, rfl⟩, he⟩ := d
  have q := eqAt_V (A := A) (s := s) rx ry rfl rfl
  refine q X.prog X.w X.xe _ ⟨?_, H, I, Ext.rfl'⟩
  rw [sm_int] at he
  rw [Bool.eq_iff_iff, he]
  exact eqV_int
theorem eqB_rec {X : Cx} {C f : Addr} {fd : FuncData} {k n : Nat} (R : RecK X.K X.mg C) (m : GrOwn.Sm X.K C "__eq__" f) (F : FnOk X.prog X.w X.K X.mg X.base CX0 k f fd ["self", "other"] (spEqR C n)) (hb : Binds X.K fd ["self", "other"] []) : EqB X k (DRec C (n + 1)) := by
  intro A pins s σ H x y u v e sb I rx ry d
  obtain ⟨t, t', h1, h2, he⟩ := d
  have fin : ∀ {w : Value} {Q : VK} {s2 : Shared}, (∀ z H', Q z H' → ∃ b, z = .bl b ∧ b = e ∧ Ext H H') → EP X pins σ Q w s2 → ∃ b, w = .bool b ∧ b = e ∧ ∃ H', Inv X pins σ H' s2 ∧ Ext H H' := fun hq ⟨z, H', I', rz, q⟩ => by
    obtain ⟨b, rfl, hb, x⟩ := hq z H' q
    cases rz
    exact ⟨b, rfl, hb, H', I', x⟩
  refine h1.cases (fun i e1 e2 => ?_) (fun k1 a l fs en e1 e2 ra wf pm ch => ?_)
  · subst e1 e2
    refine h2.cases (fun j f1 f2 => ?_) (fun k2 b m' gs _ f1 f2 rb wg pg cg => ?_)
    · subst f1 f2
      have q := eqAt_V (A := A) (s := s) rx ry rfl rfl
      refine q X.prog X.w X.xe _ ⟨?_, H, I, Ext.rfl'⟩
      rw [sm_int] at he
      rw [Bool.eq_iff_iff, he]
      exact eqV_int
    · subst f1 f2
      obtain ⟨tk, rfl⟩ := rx
      cases ry
      obtain ⟨⟨dx, tp, d, _, eb, _, _⟩, _, _⟩ := id rb
      have ef : e = false := by
        rw [← Bool.not_eq_true, he]
        rintro (⟨_, _, e2⟩ | ⟨_, _, e1, _⟩)
        · cases e2
        · cases e1
      refine eqBool_ir (wpAny_mono (rc_int (Q := fun z H' => z = .bl false ∧ Ext H H') m R.sR F sb hb pass0 I eb ⟨b, gs, h2, .inl ⟨i, rfl, fun H' s' => ⟨false, rfl, rfl, s'⟩⟩⟩) (fun r s2 q => ?_) fun _ _ z => z)
      exact fin (fun z H' ⟨hz, x⟩ => ⟨false, hz, ef.symm, x⟩) q
  · subst e1 e2
    cases rx
    obtain ⟨⟨dx, tp, d, _, ea, _, _⟩, _, _⟩ := id ra
    refine h2.cases (fun j f1 f2 => ?_) (fun k2 b m' gs _ f1 f2 rb wg pg cg => ?_)
    · subst f1 f2
      obtain ⟨tk, rfl⟩ := ry
      have ef : e = false := by
        rw [← Bool.not_eq_true, he]
        rintro (⟨_, e1, _⟩ | ⟨_, _, _, e2, _⟩)
        · cases e1
        · cases e2
      refine eqBool_ri (wpAny_mono (rc_own (Q := fun z H' => z = .bl false ∧ Ext H H') (y := .int j) m R.sI F sb hb pass0 I ⟨tk, rfl⟩ ea (.inl ⟨j, rfl⟩) ⟨a, fs, h1, .inl ⟨j, rfl, fun H' s' => ⟨false, rfl, rfl, s'⟩⟩⟩) (fun r s2 q => ?_) fun _ _ z => z)
      exact fin (fun z H' ⟨hz, x⟩ => ⟨false, hz, ef.symm, x⟩) q
    · subst f1 f2
      cases ry
      obtain ⟨⟨dy, tq, d', _, eb, _, _⟩, _, _⟩ := id rb
      by_cases hab : a = b
      · subst hab
        have et : e = true := he.mpr (Rc.one h1 h2)
        subst et
        exact SeqAt.EqAt.same (A := A) (s := s) (.ref a) X.prog X.w X.xe _ ⟨rfl, H, I, Ext.rfl'⟩
      · refine GQ.eqBool_refG hab (wpAny_mono (rc_own (Q := fun z H' => z = .bl e ∧ Ext H H') (y := .ref b) m R.sI F sb hb pass0 I rfl ea (.inr ⟨b, dy, _, rfl, eb⟩) ⟨a, fs, h1, .inr ⟨b, gs, rfl, h2, fun e' H' he' s' => ⟨e', rfl, by rw [show e' = e from Bool.eq_iff_iff.mpr (he'.trans he.symm)], s'⟩⟩⟩) (fun r s2 q => ?_) fun _ _ z => z)
        exact fin (fun z H' ⟨hz, x⟩ => ⟨e, hz, rfl, x⟩) q
end Lw
namespace Lw
open PySem PySem.Spec PyProof.Rows L2 GrT GrOwn Qd
section
variable {P : Program} {w : World} {K : PySem.W.Frag} {mg : Str → Option Value} {base : Heap} {C : Addr}
theorem fn_eq_step (T : Bu mg) (R : RecK K mg C) {n k : Nat} (hE : ∀ X : Cx, X.prog = P → X.w = w → X.K = K → X.mg = mg → X.base = base → EqB X k (DRec C n)) {f : Addr} {fd : FuncData} (F : L2.Fun K "__eq__" "Record.__eq__" sEq f fd) :
    FnOk P w K mg base CX0 (k + 2) f fd ["self", "other"] (spEqR C n) := by
  refine F.ok scEq (fun vs H Q E h => ?_) (fun cdv A outer s H vs Q E hr h => ?_)
  · obtain ⟨a, fs, _, ⟨i, rfl, _⟩ | ⟨b, gs, rfl, _⟩⟩ := h
    · rfl
    · rfl
  · obtain ⟨a, fs, ra0, hy⟩ := h
    suffices hh : ∃ t, PSs (cxOf CX0 P w K mg base ["self", "other"] "Record.__eq__" (defScope sEq) f cdv A outer s H E).nox (defBody sEq) t ∧ t { nx := fun _ H' => Q .non H', rt := Q } (start ["self", "other"] vs) H from hh
    refine ⟨_, (pss_one (ps_ret (pe_and (pe_callB call_isi (by rfl) T.b_isinstance bo_isinstance (pa_cons (pv 1) (pa_cons (pe_glob (by rfl) R.mgC (v := .ref C) rfl) pa_nil)))
      (pe_and (pe_cmpR op_eq (pe_fld (pv 0) rfl) (pe_fld (pv 1) rfl) (nomark _)) (pe_one (pe_cmpR (op_dictB mon_rec (hE _ rfl rfl rfl rfl rfl) hr) (pe_fld (pv 0) rfl) (pe_fld (pv 1) rfl) (nomark _))))))), ?_⟩
    rcases hy with ⟨i, rfl, q⟩ | ⟨b, gs, rfl, rb0, q⟩
    · exact ⟨_, rfl, _, _, _, _, _, rfl, .own C, .base (.int i), R.kI, _, rfl, iteF (q H (Same.refl _))⟩
    · obtain ⟨fs', l, e1, ra, wf, pm, ch⟩ := Rc.outR ra0
      obtain ⟨gs', m, e2, rb, wg, pg, cg⟩ := Rc.outR rb0
      cases e1
      cases e2
      obtain ⟨⟨dx, tp, d1, _, ea, _, ed1⟩, nl, _⟩ := id ra
      obtain ⟨⟨dy, tq, d2, _, eb, _, ed2⟩, nm, _⟩ := id rb
      refine ⟨_, rfl, _, _, _, _, _, rfl, .own C, R.ty eb, R.kRC, _, rfl, iteT ?_⟩
      refine ⟨_, rfl, a, C, dx, _, _, rfl, ea, R.cl, R.nS, rf_size _ _ _, _, rfl, b, C, dy, _, _, rfl, eb, R.cl, R.nS, rf_size _ _ _, rfl, _, rfl, ?_⟩
      by_cases hz : nfs fs = nfs gs
      · rw [show decide (V.int (nfs fs) = V.int (nfs gs)) = true from decide_eq_true (by rw [hz])]
        refine iteT ?_
        refine ⟨_, rfl, a, C, dx, _, _, rfl, ea, R.cl, R.nF, rf_fields _ _ _, _, rfl, b, C, dy, _, _, rfl, eb, R.cl, R.nF, rf_fields _ _ _, d1, d2, dk l, dk m, dRec C n H, rfl, rfl, ed1, ed2, fun _ oa ob k v y hk hv => ?_, fun H' x => q _ H' (all_iff nl nm wf.nd pm pg ch cg) x⟩
        obtain ⟨⟨x, v'⟩, hx, e⟩ := List.mem_map.mp hk
        cases e
        rw [dk_val] at hv
        have hv1 := mem_look nl hx
        obtain ⟨t, ht⟩ := look_some (pm.mem_iff.mp (List.mem_map.mpr ⟨_, hx, rfl⟩))
        obtain ⟨u, hu⟩ := look_some (pg.mem_iff.mp (List.mem_map.mpr ⟨_, look_mem hv, rfl⟩))
        refine ⟨t, u, ?_, ?_, dRec_iff (ch x v' t hv1 ht) (cg x y u hv hu)⟩
        · have a1 : ∀ o {x v u}, look x l = some v → look x fs = some u → Rc All C (upd H d1 o) n v u := fun o x v u h1 h2 =>
            Rc.away (z := nfs fs) ed1 (fun gs' ng pg' cg' => (nfs_one wf.nd pm pg' (fun x v u h1 h2 => (ch x v u h1 h2).sz) cg').symm) o (ch x v u h1 h2) (nf_child h2)
          by_cases hd : d1 = d2
          · subst hd
            rw [upd_upd]
            exact a1 _ hv1 ht
          · have ed2' : (upd H d1 (.frz oa (.dK (dk l)))) d2 = some (.dK (dk m)) := by
              rw [upd_ne fun z => hd z.symm]
              exact ed2
            have b1 : ∀ {x v u}, look x m = some v → look x gs = some u → Rc All C (upd H d1 (.frz oa (.dK (dk l)))) n v u := fun {x v u} h1 h2 =>
              Rc.away (z := nfs fs) ed1 (fun gs' ng pg' cg' => (nfs_one wf.nd pm pg' (fun x v u h1 h2 => (ch x v u h1 h2).sz) cg').symm) _ (cg x v u h1 h2) (by rw [hz]; exact nf_child h2)
            exact Rc.away (z := nfs gs) ed2' (fun gs' ng pg' cg' => (nfs_one wg.nd pg pg' (fun x v u h1 h2 => (b1 h1 h2).sz) cg').symm) _ (a1 _ hv1 ht) (by rw [← hz]; exact nf_child ht)
        · have b1 : ∀ o {x v u}, look x m = some v → look x gs = some u → Rc All C (upd H d1 o) n v u := fun o {x v u} h1 h2 =>
            Rc.away (z := nfs fs) ed1 (fun gs' ng pg' cg' => (nfs_one wf.nd pm pg' (fun x v u h1 h2 => (ch x v u h1 h2).sz) cg').symm) o (cg x v u h1 h2) (by rw [hz]; exact nf_child h2)
          by_cases hd : d1 = d2
          · subst hd
            rw [upd_upd]
            exact b1 _ hv hu
          · have ed2' : (upd H d1 (.frz oa (.dK (dk l)))) d2 = some (.dK (dk m)) := by
              rw [upd_ne fun z => hd z.symm]
              exact ed2
            exact Rc.away (z := nfs gs) ed2' (fun gs' ng pg' cg' => (nfs_one wg.nd pg pg' (fun x v u h1 h2 => (b1 _ h1 h2).sz) cg').symm) _ (b1 _ hv hu) (nf_child hu)
      · rw [show decide (V.int (nfs fs) = V.int (nfs gs)) = false from decide_eq_false fun e => hz (V.int.inj e)]
        refine iteF (q false H ?_ (Same.refl _))
        refine ⟨(fun e => nomatch e), fun h => ?_⟩
        have := Lw.Sm.nf h
        rw [nf, nf] at this
        exact absurd this hz
theorem fn_eq (T : Bu mg) (R : RecK K mg C) {f : Addr} {fd : FuncData} (m : GrOwn.Sm K C "__eq__" f) (hb : Binds K fd ["self", "other"] []) (F : L2.Fun K "__eq__" "Record.__eq__" sEq f fd) : ∀ n, FnOk P w K mg base CX0 (2 * n + 2) f fd ["self", "other"] (spEqR C n)
  | 0 => fn_eq_step T R (k := 0) (fun X _ _ _ _ _ => eqB_int) F
  | n + 1 => by
    have ih := fn_eq T R m hb F n
    exact fn_eq_step T R (k := 2 * n + 2) (fun X e1 e2 e3 e4 e5 => by
      subst e1 e2 e3 e4 e5
      exact eqB_rec R m ih hb) F
end
end Lw
namespace Qd
open PySem PySem.W PySem.Spec PyProof.Rows L2 GrOwn
theorem on_slot : Slot "object" "__ne__" "object.__ne__" :=
  Slot.of (T := "object") (name := "__ne__") (owner := "object") (n := "__ne__") (by rw [typeLookup_type, builtinLookup_eq_fast]; kernel_rfl) (by decide +kernel) (by decide +kernel) (by decide +kernel) (.inl (by decide +kernel)) (by rw [isSubtype_type]; kernel_rfl)
section
variable {prog : Program} {w : World} {A : Around} {E : Value → Shared → Prop} {s : Shared} {K : Frag} {x C : Addr} {ox : Obj} {od : Option Obj} {name : Str} {b : Value}
theorem ifBound_ne {M : Model} {args : List Value} {Q : Option Value → Shared → Prop} (X : K.In s.heap) (I : InstAt s.heap x ox C od) (hs : findIn K (.ref C) "__ne__" = some (some (.builtin "object.__ne__")))
    (h : wpAny M A (call (.builtin "object.__ne__") (.ref x :: args)) (fun v => Q (some v)) E s) : wpAny M A (callSpecialIfBound? (.ref x) "__ne__" args) Q E s := by
  simp only [callSpecialIfBound?, bindSpecialIfBound?]
  refine wpAny_holding (wpAny_bind (wpAny_bind (wpAny_bind (I.type.here ((looks_findIn X hs).here ?_)))))
  simp only [on_slot.bind]
  refine wpAny_bind (wpAny_askSetting (wpAny_ite ?_))
  have fin : wpAny M A (call (.builtin "object.__ne__") ([.ref x] ++ args) >>= fun v => pure (some v)) Q E s := wpAny_bind (wpAny_mono h (fun v s' h' => wpAny_pure h') fun _ _ h' => h')
  split
  · exact wpAny_bind (wpAny_pure (wpAny_pure fin))
  · exact wpAny_tryCatch (wpAny_bind (wpAny_pure (wpAny_pure fin)))
theorem objNe_entry {h0 : Heap} {y : Value} {f : Addr} {m0 : Str → Option Value} (X : K.In s.heap) (I : InstAt s.heap x ox C od) (hs : findIn K (.ref C) "__eq__" = some (some (.ref f))) (hf : isFn K (.ref f) = true) (hu : A.units < cLine)
    {Q : Fin → Shared → Prop} (h : wpAny (model prog w) A (call (.ref f) [.ref x, y]) (fun v s' => ∃ e, v = .bool e ∧ Q (.done (.ret (.bool (!e)))) s') E s) :
    wpAny (model prog w) A (Builtin.«object.__ne__» ⟨[.ref x, y], []⟩) Q E s := by
  unfold Builtin.«object.__ne__»
  repeat (first | with_reducible refine wpAny_cRoomFor hu ?_ | with_reducible refine wpAny_bind (ifBound_K X I hs hf (wpAny_mono h (fun v s' hv => ?_) fun _ _ e => e)) | wp_step)
  obtain ⟨e, rfl, q⟩ := hv
  exact wpAny_bind (wpAny_truthy_bool (wpAny_pure q))
theorem cmp_ne {y : Value} {f : Addr} {L : Addr} {h0 : Heap} {m0 : Str → Option Value} {Q : Value → Shared → Prop} (hu : A.units + 1 < cLine) (F : Fr h0 L s.heap m0) (X0 : K.In h0) (I : InstAt s.heap x ox C od) (hb : Looks (model prog w) s.heap (typeOf y) (.ref C))
    (hn : findIn K (.ref C) "__ne__" = some (some (.builtin "object.__ne__"))) (hm : mroIn K C (.type "object") = some true) (hs : findIn K (.ref C) "__eq__" = some (some (.ref f))) (hf : isFn K (.ref f) = true)
    (h : wpAny (model prog w) A.in1 (call (.ref f) [.ref x, y]) (fun v s' => ∃ e, v = .bool e ∧ Q (.bool (!e)) s') E s) : wpAny (model prog w) A (richCompare .NotEq (.ref x) y) Q E s := by
  have X := X0.keeps F.keep
  have inst : Looks (model prog w) s.heap (isInstance (.ref x) (.type "object")) true := I.type.andThen (looks_subIn X hm)
  have one : wpAny (model prog w) A (tryCompare (.ref x) "__ne__" y) (fun r s' => ∃ v, r = some v ∧ Q v s') E s := by
    unfold tryCompare
    refine wpAny_bind (ifBound_ne X I hn (wpAny_call (codeAny_call_builtin on_slot.plain PySem.F.cmpEntry_ne (check_slot PySem.F.cmpKind_ne PySem.F.cmpSplit_ne inst (PySem.F.cmpArgs_ne _ _) ?_))))
    refine objNe_entry (h0 := s.heap) (m0 := m0) X I hs hf (by show A.units + 1 < cLine; exact hu) (wpAny_mono h (fun v s' hv => ?_) fun _ _ e => e)
    obtain ⟨e, rfl, q⟩ := hv
    exact ⟨e, rfl, wpAny_pure ⟨_, rfl, q⟩⟩
  unfold richCompare
  simp only [oneThing_ref]
  refine wpAny_holding (wpAny_bind (wpAny_cRoomFor (by omega) ?_))
  refine wpAny_bind (I.type.here (wpAny_bind (hb.here ?_)))
  rw [if_neg (by simp)]
  refine wpAny_bind (wpAny_pure ?_)
  simp only [Bool.false_eq_true, if_false]
  refine wpAny_bind (wpAny_mono one (fun r s' z => ?_) fun _ _ e => e)
  obtain ⟨v, rfl, hq⟩ := z
  exact wpAny_pure hq
end
end Qd
namespace Lw
open PySem PySem.Spec PyProof.Rows L2 GrT GrOwn Qd
/-- what is kept of __eq__ -/
structure EqM (P : Program) (w : World) (K : PySem.W.Frag) (mg : Str → Option Value) (base : Heap) (C : Addr) (k n : Nat) : Prop where
  ex : ∃ (f : Addr) (fd : FuncData), FnOk P w K mg base CX0 k f fd ["self", "other"] (spEqR C n) ∧ GrOwn.Sm K C "__eq__" f ∧ Binds K fd ["self", "other"] []
/-- records n + 1 deep -/
def rEqRec (neg : Bool) (C : Addr) (n : Nat) : R2 := fun x y H Q => ∃ (a b : Addr) (fs gs : List (Str × T)), x = .ref a ∧ y = .ref b ∧ Rc All C H (n + 1) (.ref a) (.fds fs) ∧ Rc All C H (n + 1) (.ref b) (.fds gs) ∧
  ∀ e H', (e = true ↔ GrT.Sm (n + 1) (.fds fs) (.fds gs)) → Same H H' → Q (.bl (if neg then !e else e)) H'
/-- ints, or records n + 1 deep -/
def rEqVal (C : Addr) (n : Nat) : R2 := fun x y H Q => ∃ (t u : T), Rc All C H (n + 1) x t ∧ Rc All C H (n + 1) y u ∧ ∀ e H', (e = true ↔ GrT.Sm (n + 1) t u) → Same H H' → Q (.bl e) H'
theorem Rc.ins {C : Addr} {H : Hp} {n : Nat} {a : Addr} {fs : List (Str × T)} (h : Rc All C H (n + 1) (.ref a) (.fds fs)) : ∃ dx vs, H a = some (.ins C dx vs) := by
  obtain ⟨l, ⟨⟨dx, tp, d, _, ea, _⟩, _, _⟩, _⟩ := Rc.out h
  exact ⟨dx, _, ea⟩
section
variable {X : Cx} {C : Addr} {k j n : Nat}
theorem op_eqRec (R : RecK X.K X.mg C) (M : EqM X.prog X.w X.K X.mg X.base C k n) (hr : Room j X.A) (hk : k ≤ j) : OpR X (compareOp .Eq) (rEqRec false C n) := by
  intro pins s σ H x y v u Q I rx ry h
  obtain ⟨f, fd, F, m, hb⟩ := M.ex
  obtain ⟨a, b, fs, gs, rfl, rfl, r1, r2, q⟩ := h
  cases rx
  cases ry
  obtain ⟨dx, vs, ea⟩ := Rc.ins r1
  obtain ⟨dy, ws, eb⟩ := Rc.ins r2
  show wpAny _ _ (richCompare .Eq (.ref a) (.ref b)) _ _ _
  exact rc_own (y := .ref b) m R.sI F ⟨hr.mono hk, rfl⟩ hb pass0 I rfl ea (.inr ⟨b, dy, _, rfl, eb⟩) ⟨a, fs, r1, .inr ⟨b, gs, rfl, r2, fun e H' he s' => ⟨e, rfl, q e H' he s'⟩⟩⟩
theorem op_neRec (R : RecK X.K X.mg C) (hn : PySem.W.findIn X.K (.ref C) "__ne__" = some (some (.builtin "object.__ne__"))) (M : EqM X.prog X.w X.K X.mg X.base C k n) (hr : Room j X.A) (hk : k + 1 ≤ j) : OpR X (compareOp .NotEq) (rEqRec true C n) := by
  intro pins s σ H x y v u Q I rx ry h
  obtain ⟨f, fd, F, m, hb⟩ := M.ex
  obtain ⟨a, b, fs, gs, rfl, rfl, r1, r2, q⟩ := h
  cases rx
  cases ry
  obtain ⟨dx, vs, ea⟩ := Rc.ins r1
  obtain ⟨dy, ws, eb⟩ := Rc.ins r2
  obtain ⟨od, J⟩ := inst I ea
  obtain ⟨oe, J2⟩ := inst I eb
  obtain ⟨m0, hF⟩ := I.fr
  have sb : Sub X (k + 1) X.A := ⟨hr.mono hk, rfl⟩
  show wpAny _ _ (richCompare .NotEq (.ref a) (.ref b)) _ _ _
  refine cmp_ne (by have := sb.in1.room.units0; exact this) hF I.ok.mod.kin J J2.type hn R.hm m.at_ m.fn (thn (run_sub (Q := fun z H' => ∃ e, z = .bl e ∧ Q (.bl (!e)) H') (vs := [V.ref a, V.ref b]) F sb.in1 hb pass0 I (.cons rfl (.cons rfl .nil)) ⟨a, fs, r1, .inr ⟨b, gs, rfl, r2, fun e H' he s' => ⟨e, rfl, q e H' he s'⟩⟩⟩) fun r s' hq => ?_)
  obtain ⟨z, H', I', rz, e, rfl, qq⟩ := hq
  cases rz
  exact ⟨e, rfl, .bl _, H', I', rfl, qq⟩
theorem op_eqVal (R : RecK X.K X.mg C) (M : EqM X.prog X.w X.K X.mg X.base C k n) (hr : Room j X.A) (hk : k ≤ j) : OpR X (compareOp .Eq) (rEqVal C n) := by
  intro pins s σ H x y v u Q I rx ry h
  obtain ⟨f, fd, F, m, hb⟩ := M.ex
  obtain ⟨t, t', r1, r2, q⟩ := h
  have sb : Sub X k X.A := ⟨hr.mono hk, rfl⟩
  refine r1.cases (fun i e1 e2 => ?_) (fun k1 a l fs en e1 e2 ra wf pm ch => ?_)
  · subst e1 e2
    refine r2.cases (fun i2 f1 f2 => ?_) (fun k2 b m' gs _ f1 f2 rb wg pg cg => ?_)
    · subst f1 f2
      refine op_eq pins s σ H _ _ v u Q I rx ry ⟨rfl, q _ H ?_ (Same.refl _)⟩
      rw [decide_eq_true_iff, sm_int]
      exact ⟨fun e => V.int.inj e, fun e => by rw [e]⟩
    · subst f1 f2
      obtain ⟨tk, rfl⟩ := rx
      cases ry
      obtain ⟨dy, ws, eb⟩ := Rc.ins r2
      show wpAny _ _ (richCompare .Eq (.int i tk) (.ref b)) _ _ _
      refine rc_int m R.sR F sb hb pass0 I eb ⟨b, gs, r2, .inl ⟨i, rfl, fun H' s' => ⟨false, rfl, q false H' ⟨(fun e => nomatch e), ?_⟩ s'⟩⟩⟩
      rintro (⟨_, _, e2⟩ | ⟨_, _, e1, _⟩)
      · cases e2
      · cases e1
  · subst e1 e2
    cases rx
    obtain ⟨dx, vs, ea⟩ := Rc.ins r1
    show wpAny _ _ (richCompare .Eq (.ref a) u) _ _ _
    refine r2.cases (fun i2 f1 f2 => ?_) (fun k2 b m' gs _ f1 f2 rb wg pg cg => ?_)
    · subst f1 f2
      refine rc_own (y := .int i2) m R.sI F sb hb pass0 I ry ea (.inl ⟨i2, rfl⟩) ⟨a, fs, r1, .inl ⟨i2, rfl, fun H' s' => ⟨false, rfl, q false H' ⟨(fun e => nomatch e), ?_⟩ s'⟩⟩⟩
      rintro (⟨_, e1, _⟩ | ⟨_, _, _, e2, _⟩)
      · cases e1
      · cases e2
    · subst f1 f2
      obtain ⟨dy, ws, eb⟩ := Rc.ins r2
      exact rc_own (y := .ref b) m R.sI F sb hb pass0 I ry ea (.inr ⟨b, dy, _, rfl, eb⟩) ⟨a, fs, r1, .inr ⟨b, gs, rfl, r2, fun e H' he s' => ⟨e, rfl, q e H' he s'⟩⟩⟩
end
/-! ### <= -/
def LeT (n : Nat) (fs gs : List (Str × T)) : Prop := ∀ x t, look x fs = some t → ∃ u, look x gs = some u ∧ GrT.Sm n t u
def spLeR (C : Addr) (n : Nat) : Sp := fun vs H Q _ => ∃ (a b : Addr) (fs gs : List (Str × T)), vs = [.ref a, .ref b] ∧ Rc All C H (n + 1) (.ref a) (.fds fs) ∧ Rc All C H (n + 1) (.ref b) (.fds gs) ∧ ∀ e H', (e = true ↔ LeT n fs gs) → Same H H' → Q (.bl e) H'
abbrev sLe : Stmt := inClass (top 11) 15
def rLeRec (C : Addr) (n : Nat) : R2 := fun x y H Q => ∃ (a b : Addr) (fs gs : List (Str × T)), x = .ref a ∧ y = .ref b ∧ Rc All C H (n + 1) (.ref a) (.fds fs) ∧ Rc All C H (n + 1) (.ref b) (.fds gs) ∧ ∀ e H', (e = true ↔ LeT n fs gs) → Same H H' → Q (.bl e) H'
theorem op_leRec {X : Cx} {C : Addr} {k j n : Nat} (M : MthX X.prog X.w X.K X.mg X.base CX0 C k "__le__" (spLeR C n)) (hr : Room j X.A) (hk : k ≤ j) : OpR X (compareOp .LtE) (rLeRec C n) := by
  intro pins s σ H x y v u Q I rx ry h
  obtain ⟨f, fd, ps, F, m, hb⟩ := M.ex
  obtain ⟨a, b, fs, gs, rfl, rfl, r1, r2, q⟩ := h
  cases rx
  cases ry
  obtain ⟨dx, vs, ea⟩ := Rc.ins r1
  obtain ⟨dy, ws, eb⟩ := Rc.ins r2
  obtain ⟨od, J⟩ := inst I ea
  obtain ⟨oe, J2⟩ := inst I eb
  obtain ⟨m0, hF⟩ := I.fr
  show wpAny _ _ (richCompare .LtE (.ref a) (.ref b)) _ _ _
  refine PySem.W.cmp_K (op := .LtE) (tb := .ref C) (hr.units0) hF I.ok.mod.kin J J2.type (by simp [PySem.W.notFirst]) m.at_ m.fn ?_
  refine thn (run_at (vs := [V.ref a, V.ref b]) (Q := fun z H' => ∃ e, z = .bl e ∧ Q (.bl e) H') F (hr.mono hk) I.env0 hb pass0 I (.cons rfl (.cons rfl .nil)) ⟨a, b, fs, gs, rfl, r1, r2, fun e H' he s' => ⟨e, rfl, q e H' he s'⟩⟩) fun r s' hq => ?_
  obtain ⟨z, H', I', rz, e, rfl, qq⟩ := hq
  cases rz
  exact ⟨.bl e, H', I', rfl, qq⟩
section
variable {P : Program} {w : World} {K : PySem.W.Frag} {mg : Str → Option Value} {base : Heap} {C : Addr}
theorem scLe : FnScope ["self", "other", "name"] ["self", "other"] (defScope sLe) := ⟨rfl, rfl, rfl, by decide +kernel, rfl, by decide +kernel, by decide +kernel⟩
theorem fn_le (T : Bu mg) (ba : mg "all" = none) (R : RecK K mg C) {k n : Nat} (M : EqM P w K mg base C k n) {f : Addr} {fd : FuncData} (F : L2.Fun K "__le__" "Record.__le__" sLe f fd) : FnOk P w K mg base CX0 (k + 1) f fd ["self", "other"] (spLeR C (n + 1)) := by
  refine F.ok scLe (fun vs H Q E h => ?_) (fun cdv A outer s H vs Q E hr h => ?_)
  · obtain ⟨a, b, fs, gs, rfl, _⟩ := h
    rfl
  · obtain ⟨a, b, fs, gs, rfl, r1, r2, q⟩ := h
    have hu := hu_of hr
    obtain ⟨l, ⟨⟨dx, tp, d1, _, ea, et, ed1⟩, nl, sl⟩, wf, pm, ch⟩ := Rc.out r1
    obtain ⟨m, ⟨⟨dy, tq, d2, _, eb, _, ed2⟩, nm, _⟩, wg, pg, cg⟩ := Rc.out r2
    refine ⟨_, (pss_one (ps_ret (pe_callB (cr_all rfl) (by rfl) ba (by decide +kernel) (pa_cons (pe_lc (own := [("name", 2)]) (g := gName 2) (tt := tYes) rfl scLe.nd (pi_tup (pe_fld (pv 0) rfl)) (blkOk_by (own := [("name", 2)]) (N := ["self", "other", "name"]) (sc := defScope sLe) (by decide +kernel)) (fun _ _ _ _ _ => pg_name (i := 2) scLe.nd rfl (Or.inl rfl)) (fun _ _ _ _ _ => pts_nil)
      (fun _ _ _ _ _ => (by exact (pe_and (pe_cmp (pc_din hu (pv 2) (pe_fldK (K := K) rfl (pv 1) rfl))) (pe_one (pe_cmpR (op_eqVal R M hr (by omega)) (pe_dget hu (pe_fldK (K := K) rfl (pv 0) rfl) (pv 2) (fun _ _ => rfl)) (pe_dget hu (pe_fldK (K := K) rfl (pv 1) rfl) (pv 2) (fun _ _ => rfl)) (nomark _))))))) pa_nil)))), ?_⟩
    have gm : ∀ x, look x m = none → look x gs = none := fun x e => look_none.mpr fun z => look_none.mp e (pg.mem_iff.mpr z)
    refine ⟨_, rfl, a, C, dx, _, _, rfl, ea, R.cl, R.nN, rf_names _ _ _, tp, rfl, ⟨_, SqT.of et⟩, fun Z hZ => lc_it (walk_tup (xs := (names l).map V.str)) (fun i H5 => ∃ bs : List Bool, H5 Z = some (.lst (bs.map V.bl)) ∧ bs.length = i ∧ (bs.all id = true ↔ ∀ x t, look x fs = some t → x ∈ (names l).take i → ∃ u, look x gs = some u ∧ GrT.Sm (n + 1) t u) ∧ Same H H5)
      ⟨[], upd_same, rfl, ⟨fun _ x t _ hx => by simp at hx, fun _ => rfl⟩, Same.new (Same.refl _) hZ⟩ (fun i H5 _ h => ?_) ?_ ?_⟩
    · obtain ⟨_, _, _, _, sm⟩ := h
      exact SqT.of (sm _ _ et)
    · rintro i y H5 H6 hi ⟨bs, e1, e2, e3, sm⟩ ⟨rfl, hy⟩
      obtain ⟨x, hx, rfl⟩ : ∃ x, (names l)[i]? = some x ∧ y = V.str x := by
        rw [List.getElem?_map] at hy
        cases e : (names l)[i]? with
        | none =>
          rw [e] at hy
          cases hy
        | some x =>
          rw [e] at hy
          exact ⟨x, rfl, (Option.some.inj hy).symm⟩
      have hxm : x ∈ names l := List.mem_of_getElem? hx
      obtain ⟨v, hv⟩ := look_some hxm
      obtain ⟨t, ht⟩ := look_some (pm.mem_iff.mp hxm)
      have hln := wf.ln
      have hll : (names l).length = fs.length := by rw [pm.length_eq, List.length_map]
      have hil : i < (names l).length := by rw [List.length_map] at hi; exact hi
      have fin : ∀ (e : Bool) H7, (e = true ↔ ∃ u, look x gs = some u ∧ GrT.Sm (n + 1) t u) → Same H6 H7 → ∃ acc, H7 Z = some (.lst acc) ∧ acc.length < sizeLine ∧ ∃ bs' : List Bool, (upd H7 Z (.lst (acc ++ [V.bl e]))) Z = some (.lst (bs'.map V.bl)) ∧ bs'.length = i + 1 ∧
          (bs'.all id = true ↔ ∀ x t, look x fs = some t → x ∈ (names l).take (i + 1) → ∃ u, look x gs = some u ∧ GrT.Sm (n + 1) t u) ∧ Same H (upd H7 Z (.lst (acc ++ [V.bl e]))) := fun e H7 he s7 => by
        refine ⟨_, s7 _ _ e1, line_big (by rw [List.length_map, e2]; omega), bs ++ [e], by rw [upd_same, List.map_append]; rfl, by rw [List.length_append, e2]; rfl, ?_, fun c o hc => by rw [upd_ne (ne_of_none hc hZ)]; exact s7 _ _ (sm _ _ hc)⟩
        rw [List.all_append, Bool.and_eq_true, e3, List.take_add_one, hx, Option.toList_some]
        have one : ([e].all id = true) ↔ e = true := by simp
        rw [one, he]
        constructor
        · rintro ⟨g1, g2⟩ z tz hz hm
          rcases List.mem_append.mp hm with hm | hm
          · exact g1 z tz hz hm
          · rw [List.mem_singleton.mp hm] at hz ⊢
            rw [ht] at hz
            cases hz
            exact g2
        · exact fun g => ⟨fun z tz hz hm => g z tz hz (List.mem_append_left _ hm), g x t ht (List.mem_append_right _ (List.mem_singleton.mpr rfl))⟩
      refine ⟨rfl, iteT (A := _) (B := True) (iteT ⟨_, rfl, _, rfl, b, C, dy, _, _, rfl, sm _ _ eb, R.cl, R.nF, rf_fields _ _ _, d2, _, rfl, DGet.k (k := Sum.inr x) (sm _ _ ed2), ?_⟩)⟩
      rw [dk_val]
      cases hy2 : look x m with
      | none =>
        exact ⟨_, rfl, iteF (fin false H6 ⟨(fun e => nomatch e), fun ⟨u, hu, _⟩ => by rw [gm x hy2] at hu; cases hu⟩ (Same.refl _))⟩
      | some y =>
        obtain ⟨u, hu⟩ := look_some (pg.mem_iff.mp (List.mem_map.mpr ⟨_, look_mem hy2, rfl⟩ : x ∈ names m) )
        have g1 := DGet.k (k := Sum.inr x) (sm _ _ ed1)
        rw [dk_val, hv] at g1
        have g2 := DGet.k (k := Sum.inr x) (sm _ _ ed2)
        rw [dk_val, hy2] at g2
        refine ⟨_, rfl, iteT ⟨_, rfl, a, C, dx, _, _, rfl, sm _ _ ea, R.cl, R.nF, rf_fields _ _ _, _, rfl, d1, v, rfl, g1, _, rfl, b, C, dy, _, _, rfl, sm _ _ eb, R.cl, R.nF, rf_fields _ _ _, _, rfl, d2, y, rfl, g2, t, u, (ch x v t hv ht).same sm, (cg x y u hy2 hu).same sm, fun e H7 he s7 => fin e H7 (he.trans ⟨fun z => ⟨u, hu, z⟩, fun ⟨u', hu', z⟩ => by rw [hu] at hu'; cases hu'; exact z⟩) s7⟩⟩
    · rintro H5 ⟨bs, e1, e2, e3, sm⟩
      refine ⟨Z, _, rfl, .of e1, q _ _ (e3.trans ?_) sm⟩
      constructor
      · intro g x t ht
        exact g x t ht (by rw [List.length_map, List.take_length]; exact pm.mem_iff.mpr (List.mem_map.mpr ⟨_, look_mem ht, rfl⟩))
      · intro g x t ht _
        exact g x t ht
end
end Lw
namespace Qd
open PySem PySem.W PySem.Spec PyProof.Rows L2 GrOwn
/-! ### str and format of an own instance -/
section
variable {prog : Program} {w : World} {A : Around} {E : Value → Shared → Prop} {s : Shared} {K : Frag} {x C f : Addr} {ox : Obj} {od : Option Obj} {name : Str}
theorem callSpecial_own {M : Model} {args : List Value} {Q : Option Value → Shared → Prop} (X : K.In s.heap) (I : InstAt s.heap x ox C od) (hs : findIn K (.ref C) name = some (some (.ref f))) (hf : isFn K (.ref f) = true)
    (h : wpAny M A (call (.ref f) (.ref x :: args)) (fun v => Q (some v)) E s) : wpAny M A (callSpecial? (.ref x) name args) Q E s := by
  unfold callSpecial?
  refine wpAny_bind (wpAny_bind (I.type.here ((looks_findIn X hs).here ?_)))
  refine wpAny_holding (wpAny_bind ((bind_fn X _ (beq_iff_eq.mp hf)).here ?_))
  exact wpAny_bind (wpAny_mono h (fun v s' q => wpAny_pure q) fun _ _ e => e)
theorem str_own {Q : Value → Shared → Prop} (X : K.In s.heap) (I : InstAt s.heap x ox C od) (hs : findIn K (.ref C) "__str__" = some (some (.ref f))) (hf : isFn K (.ref f) = true) (hu : A.units < cLine)
    (h : wpAny (model prog w) A (call (.ref f) [.ref x]) (fun v s' => ∃ y t, v = .str y t ∧ Q (.str y t) s') E s) : wpAny (model prog w) A (pyStrObj (.ref x)) Q E s := by
  unfold pyStrObj
  refine wpAny_bind (wpAny_cRoomFor hu ?_)
  refine wpAny_bind (callSpecial_own X I hs hf (wpAny_mono h (fun v s' q => ?_) fun _ _ e => e))
  obtain ⟨y, t, rfl, q⟩ := q
  have hi : isInstance (.str y t) (.type "str") = pure true := by
    unfold isInstance
    show (isSubtype (.type "str") (.type "str") : Sem Bool) = pure true
    rw [isSubtype_type]
    kernel_rfl
  show wpAny (model prog w) A (isInstance (.str y t) (.type "str") >>= _) Q E s'
  rw [hi]
  exact wpAny_bind (wpAny_pure (wpAny_pure q))
theorem of_slot : Slot "object" "__format__" "object.__format__" :=
  Slot.of (T := "object") (name := "__format__") (owner := "object") (n := "__format__") (by rw [typeLookup_type, builtinLookup_eq_fast]; kernel_rfl) (by decide +kernel) (by decide +kernel) (by decide +kernel) (.inr (by decide +kernel)) (by rw [isSubtype_type]; kernel_rfl)
theorem of_entry : entryFor table "object.__format__" = some Builtin.«object.__format__» := entryFor_of_tree (by kernel_rfl)
theorem of_kind : builtinKind "object.__format__" = some .method := by decide +kernel
theorem of_split : splitId "object.__format__" = some ("object", "__format__") := by decide +kernel
theorem of_args (a b : Value) : argsOk "object.__format__" ⟨[a, b], []⟩ := by unfold argsOk; kernel_rfl
theorem check_method {M : Model} {i owner n : String} {self : Value} {rest : List Value} {kw : List (Str × Value)} {Q : Unit → Shared → Prop}
    (hk : builtinKind i = some .method) (hs : splitId i = some (owner, n)) (hi : Looks M s.heap (isInstance self (.type owner)) true) (ha : argsOk i ⟨self :: rest, kw⟩) (q : Q () s) :
    wpAny M A (checkBuiltinCall i ⟨self :: rest, kw⟩) Q E s := by
  simp only [checkBuiltinCall, hk, hs]
  refine wpAny_bind (hi.here ?_)
  simp only [Bool.not_true, Bool.false_eq_true, if_false]
  cases hsig : Manifest.signature? i with
  | none => exact wpAny_pure q
  | some sig =>
    simp only [argsOk, hsig] at ha
    have h2 : Bind.checkArgs i sig ⟨self :: rest, kw⟩ = pure () := ha
    show wpAny M A (Bind.checkArgs i sig ⟨self :: rest, kw⟩) Q E s
    rw [h2]
    exact wpAny_pure q
theorem format_entry {t0 : Tok} {Q : Fin → Shared → Prop} (h : wpAny (model prog w) A (pyStrObj (.ref x)) (fun v s' => Q (.done (.ret v)) s') E s) :
    wpAny (model prog w) A (Builtin.«object.__format__» ⟨[.ref x, .str Str.empty t0], []⟩) Q E s := by
  unfold Builtin.«object.__format__»
  repeat (first | with_reducible refine wpAny_bind (wpAny_mono h (fun v s' q => ?_) fun _ _ e => e) | wp_step)
  exact q
theorem callSpecial_fmt {M : Model} {args : List Value} {Q : Option Value → Shared → Prop} (X : K.In s.heap) (I : InstAt s.heap x ox C od) (hs : findIn K (.ref C) "__format__" = some (some (.builtin "object.__format__")))
    (h : wpAny M A (call (.builtin "object.__format__") (.ref x :: args)) (fun v => Q (some v)) E s) : wpAny M A (callSpecial? (.ref x) "__format__" args) Q E s := by
  unfold callSpecial?
  refine wpAny_bind (wpAny_bind (I.type.here ((looks_findIn X hs).here ?_)))
  refine wpAny_holding ?_
  simp only [of_slot.bind]
  refine wpAny_bind (wpAny_pure ?_)
  exact wpAny_bind (wpAny_mono h (fun v s' q => wpAny_pure q) fun _ _ e => e)
end
end Qd
namespace Qd
open PySem PySem.W PySem.Spec PyProof.Rows L2 GrOwn
section
variable {prog : Program} {w : World} {A : Around} {E : Value → Shared → Prop} {s : Shared} {K : Frag} {x C f : Addr} {ox : Obj} {od : Option Obj} {name : Str}
/-- object.__format__ of an own instance, with no spec -/
theorem call_fmt {Q : Value → Shared → Prop} {t0 : Tok} (X : K.In s.heap) (I : InstAt s.heap x ox C od) (hm : mroIn K C (.type "object") = some true) (hs : findIn K (.ref C) "__str__" = some (some (.ref f))) (hf : isFn K (.ref f) = true) (hu : A.units + 1 < cLine)
    (h : wpAny (model prog w) A.in1 (call (.ref f) [.ref x]) (fun v s' => ∃ y t, v = .str y t ∧ Q (.str y t) s') E s) : wpAny (model prog w) A (call (.builtin "object.__format__") [.ref x, .str Str.empty t0]) Q E s := by
  have inst : Looks (model prog w) s.heap (isInstance (.ref x) (.type "object")) true := I.type.andThen (looks_subIn X hm)
  refine wpAny_call (codeAny_call_builtin of_slot.plain of_entry ?_)
  refine check_method (i := "object.__format__") (owner := "object") (n := "__format__") (self := .ref x) (rest := [.str Str.empty t0]) (kw := []) of_kind of_split inst (of_args (.ref x) (.str Str.empty t0)) ?_
  refine format_entry (str_own X I hs hf (by show A.units + 1 < cLine; exact hu) (wpAny_mono h (fun v s' q => ?_) fun _ _ e => e))
  obtain ⟨y, t, rfl, q⟩ := q
  exact ⟨y, t, rfl, q⟩
theorem fmt_own {Q : Value → Shared → Prop} (X : K.In s.heap) (I : InstAt s.heap x ox C od) (hfm : findIn K (.ref C) "__format__" = some (some (.builtin "object.__format__"))) (hm : mroIn K C (.type "object") = some true) (hs : findIn K (.ref C) "__str__" = some (some (.ref f))) (hf : isFn K (.ref f) = true) (hu : A.units + 1 < cLine)
    (h : wpAny (model prog w) A.in1 (call (.ref f) [.ref x]) (fun v s' => ∃ y t, v = .str y t ∧ Q (.str y t) s') E { s with toks := s.toks + 1 }) : wpAny (model prog w) A (formatField (.ref x) Str.empty) Q E s := by
  show wpAny (model prog w) A (holding [.ref x] (pyFormat (.ref x) Str.empty)) Q E s
  refine wpAny_holding ?_
  unfold pyFormat
  refine wpAny_bind ?_
  refine wpAny_mkStr ?_ (Nat.zero_le _)
  refine wpAny_bind (callSpecial_fmt X I hfm (call_fmt X I hm hs hf hu (wpAny_mono h (fun v s' q => ?_) fun _ _ e => e)))
  obtain ⟨y, t, rfl, q⟩ := q
  refine ⟨y, t, rfl, ?_⟩
  have hi : isInstance (.str y t) (.type "str") = pure true := by
    unfold isInstance
    show (isSubtype (.type "str") (.type "str") : Sem Bool) = pure true
    rw [isSubtype_type]
    kernel_rfl
  show wpAny (model prog w) A (isInstance (.str y t) (.type "str") >>= _) Q E s'
  rw [hi]
  exact wpAny_bind (wpAny_pure (wpAny_pure q))
end
end Qd
namespace Lw
open PySem PySem.Spec PyProof.Rows L2 GrT GrOwn Qd
/-- {x}: an int, or an own instance by its own __str__ -/
def tFmtO (C : Addr) (sp : Sp) (te : TE) : TE := fun σ H Q => te σ H fun x H1 => (∃ i : Int, x = .int i ∧ i.natAbs.log2 < 1920 ∧ Q (.str (toString i)) H1) ∨
  ∃ a dx fs, x = .ref a ∧ H1 a = some (.ins C dx fs) ∧ sp [.ref a] H1 (fun v H' => ∃ y : Str, v = .str y ∧ Q (.str y) H') E0
theorem pe_fmtO {X : Cx} {C f : Addr} {fd : FuncData} {k j : Nat} {sp : Sp} {e : Expr} {te : TE} {pos : Pos} (hfm : PySem.W.findIn X.K (.ref C) "__format__" = some (some (.builtin "object.__format__"))) (hm : PySem.W.mroIn X.K C (.type "object") = some true) (m : GrOwn.Sm X.K C "__str__" f)
    (F : FnOk X.prog X.w X.K X.mg X.base CX0 k f fd ["self"] sp) (hb : Binds X.K fd ["self"] []) (hr : Room j X.A) (hk : k + 1 ≤ j) (he : PE X e te) : PE X (.FormattedValue e (-1) none pos) (tFmtO C sp te) := by
  refine ⟨fun pins s σ H Q I h => ?_⟩
  refine wpAny_FormattedValue_plain (thn (he.run pins s σ H _ I h) fun v s1 hv => ?_)
  obtain ⟨x, H1, I1, r1, q⟩ := hv
  rcases q with ⟨i, rfl, hz, q⟩ | ⟨a, dx, fs, rfl, ea, q⟩
  · obtain ⟨t, rfl⟩ := r1
    exact wpAny_formatField_int hz ⟨.str (toString i), H1, I1.tok _, ⟨_, rfl⟩, q⟩
  · cases r1
    have I2 := I1.tok (s1.toks + 1)
    obtain ⟨od, J⟩ := inst I1 ea
    have sb : Sub X (k + 1) X.A := ⟨hr.mono hk, rfl⟩
    refine fmt_own I1.kIn J hfm hm m.at_ m.fn (by have := sb.in1.room.units0; exact this) (thn (run_sub (Q := fun z H' => ∃ y : Str, z = .str y ∧ Q (.str y) H') (vs := [V.ref a]) F sb.in1 hb pass0 I2 (.cons rfl .nil) q) fun r s' hq => ?_)
    obtain ⟨z, H', I', rz, y, rfl, qq⟩ := hq
    obtain ⟨t, rfl⟩ := rz
    exact ⟨y, t, rfl, .str y, H', I', ⟨t, rfl⟩, qq⟩
end Lw
namespace Ra
open PySem PySem.W PySem.Calls PyProof.Rows PyProof.V PySem.Spec
/-! ### == and != of ints and dicts among one another: nothing is changed -/
section
variable {prog : Program} {w : World} {A : Around} {s : Shared}
theorem int_eq_dict {a : Int} {t : Tok} {l : Addr} {ox : Obj} {es : Array DictEntry} {ep : Nat} {E Q : Value → Shared → Prop} (ho : s.heap.get? l = some ox) (hd : ox.data = .dict es ep) (h : Q .notImplemented s) :
    wpAny (model prog w) A (call (.builtin "int.__eq__") [.int a t, .ref l]) Q E s := by
  refine GQ.call_here PySem.F.slot_int_eq (typeIs_int s a t) PySem.F.entry_int_eq (PySem.F.args_int_eq_2 _ _) ?_
  obtain ⟨hp, g, d, tk, os⟩ := s
  obtain ⟨oc, od, oda, osl⟩ := ox
  dsimp only at hd
  subst hd
  wp_walk
  exact h
theorem int_ne_dict {a : Int} {t : Tok} {l : Addr} {ox : Obj} {es : Array DictEntry} {ep : Nat} {E Q : Value → Shared → Prop} (ho : s.heap.get? l = some ox) (hd : ox.data = .dict es ep) (h : Q .notImplemented s) :
    wpAny (model prog w) A (call (.builtin "int.__ne__") [.int a t, .ref l]) Q E s := by
  refine GQ.call_here PySem.F.slot_int_ne (typeIs_int s a t) PySem.F.entry_int_ne (PySem.F.args_int_ne_2 _ _) ?_
  obtain ⟨hp, g, d, tk, os⟩ := s
  obtain ⟨oc, od, oda, osl⟩ := ox
  dsimp only at hd
  subst hd
  wp_walk
  exact h
theorem dict_eq_int {l : Addr} {b : Int} {u : Tok} {E Q : Value → Shared → Prop} (tl : s.TypeIs (.ref l) "dict") (h : Q .notImplemented s) :
    wpAny (model prog w) A (call (.builtin "dict.__eq__") [.ref l, .int b u]) Q E s := by
  refine wpAny_call_entry PySem.F.slot_dict_eq tl PySem.F.entry_dict_eq ?_ (PySem.F.args_dict_eq_2 _ _)
  show wpAny _ _ (Builtin.Dict.dictSlotArgs "__eq__" ⟨[.ref l, .int b u], []⟩ >>= _) _ _ s
  refine wpAny_bind ?_
  unfold Builtin.Dict.dictSlotArgs
  refine wpAny_bind (wpAny_notOrdered_dict tl ?_)
  show wpAny _ _ (pure (Value.ref l, Value.int b u)) _ _ s
  refine wpAny_pure ?_
  refine wpAny_bind (wpAny_isInstance (T := "int") (typeIs_int s b u) PySem.F.sub_int_dict ?_)
  simp only [Bool.not_false, if_true]
  exact wpAny_bind (wpAny_rule (wpAny_bind (wpAny_pure (wpAny_pure ⟨_, rfl, h⟩))))
theorem dict_ne_int {l : Addr} {b : Int} {u : Tok} {E Q : Value → Shared → Prop} (tl : s.TypeIs (.ref l) "dict") (h : Q .notImplemented s) :
    wpAny (model prog w) A (call (.builtin "dict.__ne__") [.ref l, .int b u]) Q E s := by
  refine wpAny_call_entry PySem.F.slot_dict_ne tl PySem.F.entry_dict_ne ?_ (PySem.F.args_dict_ne_2 _ _)
  show wpAny _ _ (Builtin.Dict.dictSlotArgs "__ne__" ⟨[.ref l, .int b u], []⟩ >>= _) _ _ s
  refine wpAny_bind ?_
  unfold Builtin.Dict.dictSlotArgs
  refine wpAny_bind (wpAny_notOrdered_dict tl ?_)
  show wpAny _ _ (pure (Value.ref l, Value.int b u)) _ _ s
  refine wpAny_pure ?_
  refine wpAny_bind (wpAny_isInstance (T := "int") (typeIs_int s b u) PySem.F.sub_int_dict ?_)
  simp only [Bool.not_false, if_true]
  exact wpAny_bind (wpAny_rule (wpAny_bind (wpAny_pure (wpAny_pure ⟨_, rfl, h⟩))))
theorem rc_ne_decline {M : Model} {E : Value → Shared → Prop} {a b : Value} {Ta Tb ida idb : String} {k : Bool} {Q : Value → Shared → Prop} (ha : s.TypeIs a Ta) (hb : s.TypeIs b Tb)
    (hne : (Value.type Ta != Value.type Tb) = true) (hsub : isSubtype (.type Tb) (.type Ta) = pure false) (h1 : Slot Ta (cmpInfo .NotEq).2.1 ida) (h2 : Slot Tb (cmpInfo .NotEq).2.2 idb)
    (hc1 : ∀ Q' : Value → Shared → Prop, Q' .notImplemented s → wpAny M A (call (.builtin ida) [a, b]) Q' E s)
    (hc2 : ∀ Q' : Value → Shared → Prop, Q' .notImplemented s → wpAny M A (call (.builtin idb) [b, a]) Q' E s)
    (hk : ∀ Q' : Bool → Shared → Prop, Q' k s → wpAny M A (isSame a b) Q' E s)
    (hr : [a, b].any Value.onHeap = false ∨ A.units < cLine) (h : Q (.bool (!k)) s) : wpAny M A (richCompare .NotEq a b) Q E s := by
  rcases hi : cmpInfo CmpOp.NotEq with ⟨sym, f, r⟩
  rw [hi] at h1 h2
  simp only [richCompare, hi, ha.oneThing_none]
  try with_reducible refine wpAny_holding ?_
  refine wpAny_bind (wpAny_cRoomFor_or hr ?_)
  refine wpAny_bind (wpAny_typeOf ha (wpAny_bind (wpAny_typeOf hb ?_)))
  simp only [hne, if_true]
  refine wpAny_bind (wpAny_of_eq hsub ?_)
  simp only [Bool.false_eq_true, if_false, Bool.not_false, if_true]
  refine wpAny_bind (m := tryCompare a _ b) (wpAny_tryCompare_declines ha h1 (hc1 _ ⟨rfl, ?_⟩))
  refine wpAny_bind (m := tryCompare b _ a) (wpAny_tryCompare_declines hb h2 (hc2 _ ⟨rfl, ?_⟩))
  exact wpAny_bind (wpAny_rule (wpAny_bind (hk _ (wpAny_pure h))))
section
variable {K : Type} [DecidableEq K] {knd : KeyKind prog w K} {l : Addr} {ka kb : List (K × Value)} {i : Int} {t : Tok}
theorem rc_di (da : s.heap.DictOf knd l ka) (hu : A.units < cLine) (E Q : Value → Shared → Prop) (h : Q (.bool false) s) : wpAny (model prog w) A (richCompare .Eq (.ref l) (.int i t)) Q E s := by
  obtain ⟨o, es, ep, ho, hc, hd, _⟩ := id da
  exact SeqAt.rc_eq_decline_or (k := false) da.typeIs (typeIs_int s i t) (by decide) PySem.F.sub_int_dict PySem.F.slot_dict_eq PySem.F.slot_int_eq_refl
    (fun _ hq => dict_eq_int da.typeIs hq) (fun _ hq => int_eq_dict ho hd hq) (fun _ hq => wpAny_of_eq (rfl : isSame (.ref l) (.int i t) = pure false) hq) (.inr hu) h
theorem rc_id (da : s.heap.DictOf knd l ka) (hu : A.units < cLine) (E Q : Value → Shared → Prop) (h : Q (.bool false) s) : wpAny (model prog w) A (richCompare .Eq (.int i t) (.ref l)) Q E s := by
  obtain ⟨o, es, ep, ho, hc, hd, _⟩ := id da
  exact SeqAt.rc_eq_decline_or (k := false) (typeIs_int s i t) da.typeIs (by decide) PySem.F.sub_dict_int PySem.F.slot_int_eq PySem.F.slot_dict_eq_refl
    (fun _ hq => int_eq_dict ho hd hq) (fun _ hq => dict_eq_int da.typeIs hq) (fun _ hq => wpAny_of_eq (rfl : isSame (.int i t) (.ref l) = pure false) hq) (.inr hu) h
theorem rcn_di (da : s.heap.DictOf knd l ka) (hu : A.units < cLine) (E Q : Value → Shared → Prop) (h : Q (.bool true) s) : wpAny (model prog w) A (richCompare .NotEq (.ref l) (.int i t)) Q E s := by
  obtain ⟨o, es, ep, ho, hc, hd, _⟩ := id da
  exact rc_ne_decline (k := false) da.typeIs (typeIs_int s i t) (by decide) PySem.F.sub_int_dict PySem.F.slot_dict_ne PySem.F.slot_int_ne_refl
    (fun _ hq => dict_ne_int da.typeIs hq) (fun _ hq => int_ne_dict ho hd hq) (fun _ hq => wpAny_of_eq (rfl : isSame (.ref l) (.int i t) = pure false) hq) (.inr hu) h
theorem rcn_id (da : s.heap.DictOf knd l ka) (hu : A.units < cLine) (E Q : Value → Shared → Prop) (h : Q (.bool true) s) : wpAny (model prog w) A (richCompare .NotEq (.int i t) (.ref l)) Q E s := by
  obtain ⟨o, es, ep, ho, hc, hd, _⟩ := id da
  exact rc_ne_decline (k := false) (typeIs_int s i t) da.typeIs (by decide) PySem.F.sub_dict_int PySem.F.slot_int_ne PySem.F.slot_dict_ne_refl
    (fun _ hq => int_ne_dict ho hd hq) (fun _ hq => dict_ne_int da.typeIs hq) (fun _ hq => wpAny_of_eq (rfl : isSame (.int i t) (.ref l) = pure false) hq) (.inr hu) h
theorem rcn_dd {a b : Addr} {r : Bool} (ha : (a == sysModules) = false) (hb : (b == sysModules) = false)
    (da : s.heap.DictOf knd a ka) (db : s.heap.DictOf knd b kb) (hu : A.units < cLine) (hits : ka.length = kb.length → KeqHitsP prog w A.in1 s kb ka r) (E Q : Value → Shared → Prop) (h : Q (.bool (!(ka.length == kb.length && r))) s) : wpAny (model prog w) A (richCompare .NotEq (.ref a) (.ref b)) Q E s := by
  refine wpAny_richCompare_same_room (op := .NotEq) da.typeIs db.typeIs PySem.F.slot_dict_ne (wpAny_call_entry PySem.F.slot_dict_ne da.typeIs PySem.F.entry_dict_ne ?_ (PySem.F.args_dict_ne_2 _ _)) hu
  show wpAny _ _ (Builtin.Dict.dictSlotArgs "__ne__" ⟨[.ref a, .ref b], []⟩ >>= _) _ _ s
  refine wpAny_bind ?_
  unfold Builtin.Dict.dictSlotArgs
  refine wpAny_bind (wpAny_notOrdered_dict da.typeIs ?_)
  show wpAny _ _ (pure (Value.ref a, Value.ref b)) _ _ s
  refine wpAny_pure ?_
  refine wpAny_bind (wpAny_isInstance (T := "dict") db.typeIs PySem.F.sub_dict_dict ?_)
  simp only [Bool.not_true, Bool.false_eq_true, if_false]
  refine wpAny_bind (wpAny_pure (wpAny_bind (wpAny_pure ?_)))
  refine wpAny_bind (samePairsP ha hb da db hits ?_)
  refine wpAny_pure ⟨_, rfl, ?_, ?_⟩
  · exact fun x => nomatch x
  · simpa using h
end
end
end Ra
namespace Lw
open PySem PySem.Spec PyProof.Rows L2 GrT GrOwn Qd Ra
open Classical in
/-- alike up to order, decided -/
noncomputable def smB (n : Nat) (t u : T) : Bool := decide (GrT.Sm n t u)
theorem smB_iff {n : Nat} {t u : T} : smB n t u = true ↔ GrT.Sm n t u := by
  unfold smB
  rw [@decide_eq_true_iff _ (Classical.propDecidable _)]
theorem smB_int {n : Nat} {i j : Int} : smB n (.int i) (.int j) = (i == j) := by
  rw [Bool.eq_iff_iff, smB_iff, beq_iff_eq]
  constructor
  · intro h
    cases n with
    | zero =>
      obtain ⟨k, e1, e2⟩ := h
      cases e1
      cases e2
      rfl
    | succ n =>
      rcases h with ⟨k, e1, e2⟩ | ⟨_, _, e1, _⟩
      · cases e1
        cases e2
        rfl
      · cases e1
  · intro e
    rw [e]
    exact Sm.int j
theorem smB_id {n : Nat} {i : Int} {fs : List (Str × T)} : smB n (.int i) (.fds fs) = false := by
  rw [← Bool.not_eq_true, smB_iff]
  intro h
  cases n with
  | zero =>
    obtain ⟨k, e1, e2⟩ := h
    cases e2
  | succ n =>
    rcases h with ⟨k, e1, e2⟩ | ⟨_, _, e1, _⟩
    · cases e2
    · cases e1
theorem smB_di {n : Nat} {i : Int} {fs : List (Str × T)} : smB n (.fds fs) (.int i) = false := by
  rw [← Bool.not_eq_true, smB_iff]
  intro h
  cases n with
  | zero =>
    obtain ⟨k, e1, e2⟩ := h
    cases e1
  | succ n =>
    rcases h with ⟨k, e1, e2⟩ | ⟨_, _, _, e2, _⟩
    · cases e1
    · cases e2
/-- a field of fs is there in gs, and alike -/
noncomputable def tstT (n : Nat) (gs : List (Str × T)) (p : Str × T) : Bool := match look p.1 gs with
  | none => false
  | some u => smB n p.2 u
theorem all_sm {n : Nat} {fs gs : List (Str × T)} (nf : (names fs).Nodup) (ng : (names gs).Nodup) : ((fs.length == gs.length) && fs.all (tstT n gs)) = smB (n + 1) (.fds fs) (.fds gs) := by
  rw [Bool.eq_iff_iff, smB_iff, Bool.and_eq_true, beq_iff_eq, List.all_eq_true]
  constructor
  · rintro ⟨h1, h2⟩
    have hh : ∀ x t, look x fs = some t → ∃ u, look x gs = some u ∧ GrT.Sm n t u := fun x t hx => by
      have := h2 (x, t) (look_mem hx)
      unfold tstT at this
      cases e : look x gs with
      | none =>
        rw [show look (x, t).1 gs = none from e] at this
        cases this
      | some u =>
        rw [show look (x, t).1 gs = some u from e] at this
        exact ⟨u, rfl, smB_iff.mp this⟩
    have pn : (names fs).Perm (names gs) := perm_of nf ng (by rw [List.length_map, List.length_map]; exact h1) fun x hx => by
      obtain ⟨t, ht⟩ := look_some hx
      obtain ⟨u, hu, _⟩ := hh x t ht
      exact List.mem_map.mpr ⟨_, look_mem hu, rfl⟩
    refine .inr ⟨fs, gs, rfl, rfl, nf, pn, fun x t u h3 h4 => ?_⟩
    obtain ⟨u', h5, h6⟩ := hh x t h3
    rw [h5] at h4
    cases h4
    exact h6
  · intro h
    rcases h with ⟨i, e, _⟩ | ⟨fs', gs', e1, e2, nd, pn, ch⟩
    · cases e
    · cases e1
      cases e2
      refine ⟨by have := pn.length_eq; rwa [List.length_map, List.length_map] at this, fun p hp => ?_⟩
      obtain ⟨x, t⟩ := p
      have ht := mem_look nf hp
      obtain ⟨u, hu⟩ := look_some (pn.mem_iff.mp (List.mem_map.mpr ⟨_, hp, rfl⟩))
      have hu' : look x gs = some u := hu
      unfold tstT
      rw [show look (x, t).1 gs = some u from hu]
      exact smB_iff.mpr (ch x t u ht hu')
theorem Sm.rfl' {S : Addr → Prop} {H : Hp} {L : Nat} : ∀ {n : Nat} {v : V} {t : T}, Tr S H L n v t → GrT.Sm n t t
  | 0, v, t, ⟨i, _, e⟩ => ⟨i, e, e⟩
  | n + 1, v, t, h => by
    rcases h with ⟨i, _, e⟩ | ⟨a, l, fs, e1, e2, es, e3, e4, e5⟩
    · exact .inl ⟨i, e, e⟩
    · refine .inr ⟨fs, fs, e2, e2, e4.nd, .refl _, fun x v w h1 h2 => ?_⟩
      rw [h1] at h2
      cases h2
      obtain ⟨y, _, r⟩ := e5.get h1
      exact Sm.rfl' r
theorem hits_T {P : Program} {w : World} {A : Around} {s : Shared} {S S' : Addr → Prop} {H : Hp} {L L' n : Nat} (ih : ∀ x y v u t t', Tr S H L n x t → Tr S' H L' n y t' → RelV x v → RelV y u → SeqAt.EqP P w A s v u (smB n t t'))
    {m : List (Str × V)} {gs : List (Str × T)} (am : Al (Tr S' H L' n) m gs) {vb : List (Key × Value)} (rb : KV (dk m) vb) :
    ∀ {l : List (Str × V)} {fs : List (Str × T)} {va : List (Key × Value)}, Al (Tr S H L n) l fs → KV (dk l) va → PySem.W.KeqHitsP P w A s vb va (fs.all (tstT n gs))
  | [], [], va, .nil, ra => by
    cases ra
    exact .nil
  | (x, v) :: l, (x', t) :: fs, va, .cons r al, ra => by
    obtain ⟨e, r⟩ := r
    have e' : x = x' := e
    subst e'
    cases ra with
    | @cons _ q _ qs h k =>
      obtain ⟨h1, h2⟩ := h
      obtain ⟨key, val⟩ := q
      have h1' : (Sum.inr x : Key) = key := h1
      subst h1'
      have rr := rb.val (Sum.inr x : Key)
      rw [dk_val] at rr
      have ih' := hits_T ih am rb al k
      rw [List.all_cons]
      cases hm : look x m with
      | none =>
        have hg : look x gs = none := am.none.mp hm
        rw [hm] at rr
        have hn : valueAt vb (Sum.inr x : Key) = none := by
          cases e : valueAt vb (Sum.inr x : Key) with
          | none => rfl
          | some z =>
            rw [e] at rr
            exact rr.elim
        have e1 : tstT n gs (x, t) = false := by
          unfold tstT
          rw [show look (x, t).1 gs = none from hg]
        rw [e1, Bool.false_and]
        exact .miss hn
      | some y =>
        obtain ⟨u, hu, ru⟩ := am.get' hm
        rw [hm] at rr
        obtain ⟨z, hz, rz⟩ := rr.some_of
        have e1 : tstT n gs (x, t) = smB n t u := by
          unfold tstT
          rw [show look (x, t).1 gs = some u from hu]
        rw [e1]
        exact .hit hz (ih _ _ _ _ _ _ r ru h2 rz) ih'
section
variable {X : Cx} {pins : List (Addr × Obj)} {σ : L2.St} {H : Hp} {s : Shared}
theorem eqP_ri {P : Program} {w : World} {A : Around} {a : Addr} {i : Int} {tk : Tok} {b : Bool} (h : ∀ (E Q : Value → Shared → Prop), Q (.bool b) s → wpAny (model P w) A (richCompare .Eq (.ref a) (.int i tk)) Q E s) : SeqAt.EqP P w A s (.ref a) (.int i tk) b := fun E Q hq => by
  unfold eqBool
  refine wpAny_holding ?_
  refine wpAny_ite_split (fun hab => absurd (eq_of_beq hab) (fun z => nomatch z)) (fun _ => ?_)
  exact wpAny_bind (h E _ (wpAny_truthy_bool hq))
theorem eqP_ir {P : Program} {w : World} {A : Around} {a : Addr} {i : Int} {tk : Tok} {b : Bool} (h : ∀ (E Q : Value → Shared → Prop), Q (.bool b) s → wpAny (model P w) A (richCompare .Eq (.int i tk) (.ref a)) Q E s) : SeqAt.EqP P w A s (.int i tk) (.ref a) b := fun E Q hq => by
  unfold eqBool
  refine wpAny_holding ?_
  refine wpAny_ite_split (fun hab => absurd (eq_of_beq hab) (fun z => nomatch z)) (fun _ => ?_)
  exact wpAny_bind (h E _ (wpAny_truthy_bool hq))
/-- == of two trees: decided, and nothing is changed -/
theorem eqT_run (I : Inv X pins σ H s) {S S' : Addr → Prop} {L L' : Nat} : ∀ (n : Nat) (A : Around), A.units + n < cLine → ∀ (x y : V) (v u : Value) (t t' : T), Tr S H L n x t → Tr S' H L' n y t' → RelV x v → RelV y u → SeqAt.EqP X.prog X.w A s v u (smB n t t')
  | 0, A, hu, x, y, v, u, t, t', ⟨i, e1, e2⟩, ⟨j, f1, f2⟩, rx, ry => by
    subst e1 e2 f1 f2
    rw [smB_int]
    exact (eqAt_V (A := A) (s := s) rx ry rfl rfl).eqP
  | n + 1, A, hu, x, y, v, u, t, t', h, g, rx, ry => by
    refine h.cases (fun i e1 e2 => ?_) (fun k a l fs en e1 e2 sa ea wf al => ?_)
    · subst e1 e2
      refine g.cases (fun j f1 f2 => ?_) (fun k2 b m gs en2 f1 f2 sb eb wg am => ?_)
      · subst f1 f2
        rw [smB_int]
        exact (eqAt_V (A := A) (s := s) rx ry rfl rfl).eqP
      · subst f1 f2
        rw [smB_id]
        obtain ⟨tk, rfl⟩ := rx
        cases ry
        obtain ⟨_, sy, vb, kv, db⟩ := dk_of I.hok eb
        exact eqP_ir fun E Q q => rc_id db (by omega) E Q q
    · subst e1 e2
      cases en
      cases rx
      refine g.cases (fun j f1 f2 => ?_) (fun k2 b m gs en2 f1 f2 sb eb wg am => ?_)
      · subst f1 f2
        rw [smB_di]
        obtain ⟨tk, rfl⟩ := ry
        obtain ⟨_, sy, vb, kv, da⟩ := dk_of I.hok ea
        exact eqP_ri fun E Q q => rc_di da (by omega) E Q q
      · subst f1 f2
        cases en2
        cases ry
        by_cases e : a = b
        · subst e
          have tt : T.fds fs = T.fds gs := Tr.inj h g
          rw [← tt, smB_iff.mpr (Sm.rfl' h)]
          exact (SeqAt.EqAt.same _).eqP
        · obtain ⟨_, ya, va, ra, da⟩ := dk_of I.hok ea
          obtain ⟨_, yb, vb, rb, db⟩ := dk_of I.hok eb
          refine SeqAt.eqP_refs e fun E Q q => ?_
          have la := ra.length
          have lb := rb.length
          rw [dk_len, al.len] at la
          rw [dk_len, am.len] at lb
          refine PySem.W.rcP_dicts (knd := mixKind X.prog X.w) ya yb da db (by omega) (fun _ => hits_T (fun x y v u t t' h1 h2 r1 r2 => eqT_run I n A.in1 (by show A.units + 1 + n < cLine; omega) x y v u t t' h1 h2 r1 r2) am rb al ra) E Q ?_
          rw [← la, ← lb, all_sm wf.nd wg.nd]
          exact q
end
section
variable {X : Cx}
def rEqT (neg : Bool) : R2 := fun x y H Q => ∃ (n : Nat) (t u : T) (S S' : Addr → Prop) (L L' : Nat), n ≤ 50 ∧ Tr S H L n x t ∧ Tr S' H L' n y u ∧ Q (.bl (if neg then !smB n t u else smB n t u)) H
theorem op_eqT (hu : X.A.units + 64 < cLine) : OpR X (compareOp .Eq) (rEqT false) := by
  intro pins s σ H x y v u Q I rx ry h
  obtain ⟨n, t, t', S, S', L, L', hn, h, g, q⟩ := h
  refine h.cases (fun i e1 e2 => ?_) (fun k a l fs en e1 e2 sa ea wf al => ?_)
  · subst e1 e2
    refine g.cases (fun j f1 f2 => ?_) (fun k2 b m gs en2 f1 f2 sb eb wg am => ?_)
    · subst f1 f2
      refine op_eq pins s σ H _ _ v u Q I rx ry ⟨rfl, ?_⟩
      rw [dec_int, ← smB_int]
      exact q
    · subst f1 f2
      rw [smB_id] at q
      obtain ⟨tk, rfl⟩ := rx
      cases ry
      obtain ⟨_, sy, vb, kv, db⟩ := dk_of I.hok eb
      exact rc_id db (by omega) _ _ ⟨.bl _, H, I, rfl, q⟩
  · subst e1 e2
    cases en
    cases rx
    refine g.cases (fun j f1 f2 => ?_) (fun k2 b m gs en2 f1 f2 sb eb wg am => ?_)
    · subst f1 f2
      rw [smB_di] at q
      obtain ⟨tk, rfl⟩ := ry
      obtain ⟨_, sy, vb, kv, da⟩ := dk_of I.hok ea
      exact rc_di da (by omega) _ _ ⟨.bl _, H, I, rfl, q⟩
    · subst f1 f2
      cases en2
      cases ry
      obtain ⟨_, ya, va, ra, da⟩ := dk_of I.hok ea
      obtain ⟨_, yb, vb, rb, db⟩ := dk_of I.hok eb
      have la := ra.length
      have lb := rb.length
      rw [dk_len, al.len] at la
      rw [dk_len, am.len] at lb
      refine PySem.W.rcP_dicts (knd := mixKind X.prog X.w) ya yb da db (by omega) (fun _ => hits_T (fun x y v u t t' h1 h2 r1 r2 => eqT_run I k X.A.in1 (by show X.A.units + 1 + k < cLine; omega) x y v u t t' h1 h2 r1 r2) am rb al ra) _ _ ?_
      rw [← la, ← lb, all_sm wf.nd wg.nd]
      exact ⟨.bl _, H, I, rfl, q⟩
theorem op_neT (hu : X.A.units + 64 < cLine) : OpR X (compareOp .NotEq) (rEqT true) := by
  intro pins s σ H x y v u Q I rx ry h
  obtain ⟨n, t, t', S, S', L, L', hn, h, g, q⟩ := h
  refine h.cases (fun i e1 e2 => ?_) (fun k a l fs en e1 e2 sa ea wf al => ?_)
  · subst e1 e2
    refine g.cases (fun j f1 f2 => ?_) (fun k2 b m gs en2 f1 f2 sb eb wg am => ?_)
    · subst f1 f2
      refine op_ne pins s σ H _ _ v u Q I rx ry ⟨rfl, ?_⟩
      rw [dec_int, ← smB_int]
      exact q
    · subst f1 f2
      rw [smB_id] at q
      obtain ⟨tk, rfl⟩ := rx
      cases ry
      obtain ⟨_, sy, vb, kv, db⟩ := dk_of I.hok eb
      exact rcn_id db (by omega) _ _ ⟨.bl _, H, I, rfl, q⟩
  · subst e1 e2
    cases en
    cases rx
    refine g.cases (fun j f1 f2 => ?_) (fun k2 b m gs en2 f1 f2 sb eb wg am => ?_)
    · subst f1 f2
      rw [smB_di] at q
      obtain ⟨tk, rfl⟩ := ry
      obtain ⟨_, sy, vb, kv, da⟩ := dk_of I.hok ea
      exact rcn_di da (by omega) _ _ ⟨.bl _, H, I, rfl, q⟩
    · subst f1 f2
      cases en2
      cases ry
      obtain ⟨_, ya, va, ra, da⟩ := dk_of I.hok ea
      obtain ⟨_, yb, vb, rb, db⟩ := dk_of I.hok eb
      have la := ra.length
      have lb := rb.length
      rw [dk_len, al.len] at la
      rw [dk_len, am.len] at lb
      refine rcn_dd (knd := mixKind X.prog X.w) ya yb da db (by omega) (fun _ => hits_T (fun x y v u t t' h1 h2 r1 r2 => eqT_run I k X.A.in1 (by show X.A.units + 1 + k < cLine; omega) x y v u t t' h1 h2 r1 r2) am rb al ra) _ _ ?_
      rw [← la, ← lb, all_sm wf.nd wg.nd]
      exact ⟨.bl _, H, I, rfl, q⟩
end
end Lw
namespace Lw
open PySem PySem.Spec PyProof.Rows L2 GrT GrOwn Qd Ra
/-! ### the text of a tree -/
def oneText (x w : Str) : Str := x ++ (": " : Str) ++ w
def allText (zs : List Str) : Str := ("{" : Str) ++ Txt.join (", " : Str) zs ++ ("}" : Str)
/-- y is t's text -/
def Tx : Nat → T → Str → Prop
  | 0, t, y => ∃ i : Int, t = .int i ∧ y = Str.ofString (toString i)
  | n + 1, t, y => (∃ i : Int, t = .int i ∧ y = Str.ofString (toString i)) ∨ ∃ (fs : List (Str × T)) (ys zs : List Str), t = .fds fs ∧ ys.Perm (names fs) ∧ sortedS ys = true ∧
      Paired (fun x z => ∃ u w, look x fs = some u ∧ Tx n u w ∧ z = oneText x w) ys zs ∧ y = allText zs
theorem pr_one {R S : Str → Str → Prop} (h : ∀ x z z', R x z → S x z' → z = z') : ∀ {ys zs zs' : List Str}, Paired R ys zs → Paired S ys zs' → zs = zs'
  | _, _, _, .nil, .nil => rfl
  | _, _, _, .cons r t, .cons s u => by rw [h _ _ _ r s, pr_one h t u]
theorem Tx.one : ∀ {n : Nat} {t u : T} {y z : Str}, Tx n t y → Tx n u z → GrT.Sm n t u → y = z
  | 0, t, u, y, z, ⟨i, e1, e2⟩, ⟨j, f1, f2⟩, ⟨k, g1, g2⟩ => by
    rw [e1] at g1
    rw [f1] at g2
    cases g1
    cases g2
    rw [e2, f2]
  | n + 1, t, u, y, z, h, g, m => by
    rcases m with ⟨k, g1, g2⟩ | ⟨fs, gs, e1, e2, nd, pm, ch⟩
    · subst g1 g2
      rcases h with ⟨i, e1, e2⟩ | ⟨_, _, _, e, _⟩
      · rcases g with ⟨j, f1, f2⟩ | ⟨_, _, _, e, _⟩
        · cases e1
          cases f1
          rw [e2, f2]
        · cases e
      · cases e
    · subst e1 e2
      rcases h with ⟨i, e1, e2⟩ | ⟨fs', ys, zs, e, p1, s1, r1, h1⟩
      · cases e1
      · rcases g with ⟨i, e1, e2⟩ | ⟨gs', ys', zs', e', p2, s2, r2, h2⟩
        · cases e1
        · cases e
          cases e'
          have ey : ys = ys' := sorted_one s1 s2 (p1.trans (pm.trans p2.symm))
          subst ey
          have ez : zs = zs' := pr_one (fun x a b ⟨u1, w1, l1, t1, d1⟩ ⟨u2, w2, l2, t2, d2⟩ => by rw [d1, d2, Tx.one t1 t2 (ch x u1 u2 l1 l2)]) r1 r2
          rw [h1, h2, ez]
/-- how long a text can be -/
def BB : Nat → Nat
  | 0 => 40
  | n + 1 => 7 * (BB n + 40) + 10
theorem BB_le (n : Nat) : 40 ≤ BB n := by
  cases n with
  | zero => exact Nat.le_refl _
  | succ n => unfold BB; omega
theorem int_len {i : Int} (h : i.natAbs < 2 ^ 100) : (Str.ofString (toString i)).length ≤ 40 := by
  have h2 : i.natAbs < 10 ^ 31 := Nat.lt_of_lt_of_le h (by decide)
  have := int_text_length_le10 (k := 31) (by decide) h2
  rw [PySem.ofString_length]
  omega
theorem log_of {i : Int} (h : i.natAbs < 2 ^ 100) : i.natAbs.log2 < 1920 := by
  by_cases h0 : i.natAbs = 0
  · rw [h0]
    decide
  · rw [Nat.log2_lt h0]
    exact Nat.lt_of_lt_of_le h (Nat.pow_le_pow_right (by decide) (by decide))
theorem app_len (a b : Str) : (a ++ b).length = a.length + b.length := Str.length_append a b
theorem oneT_len {x w : Str} : (oneText x w).length = x.length + 2 + w.length := by
  unfold oneText
  rw [app_len, app_len]
  rfl
theorem sum_le {B : Nat} : ∀ {zs : List Str}, (∀ z ∈ zs, z.length ≤ B) → (zs.map (·.length)).sum ≤ zs.length * B
  | [], _ => Nat.zero_le _
  | z :: r, h => by
    have h1 := h z List.mem_cons_self
    have h2 := sum_le (zs := r) fun y hy => h y (List.mem_cons_of_mem _ hy)
    rw [List.map_cons, List.sum_cons, List.length_cons, Nat.add_mul, Nat.one_mul]
    omega
theorem join_le {B : Nat} {zs : List Str} (h : ∀ z ∈ zs, z.length ≤ B) : (Txt.join (", " : Str) zs).length ≤ zs.length * B + zs.length * 2 := by
  rw [TL.join_eq]
  have h1 := StrLaws.join_length_le (", " : Str) zs
  have h2 := sum_le h
  have h3 : (", " : Str).length = 2 := rfl
  rw [h3] at h1
  omega
theorem all_len {B : Nat} {zs : List Str} (hl : zs.length ≤ 7) (h : ∀ z ∈ zs, z.length ≤ B + 32) : (allText zs).length ≤ 7 * (B + 40) + 10 ∧ (zs.map (·.length)).sum + zs.length * 2 ≤ 7 * (B + 40) := by
  have h1 := join_le h
  have h2 := sum_le h
  have h3 : zs.length * (B + 32) ≤ 7 * (B + 32) := Nat.mul_le_mul_right _ hl
  unfold allText
  rw [app_len, app_len]
  have e1 : ("{" : Str).length = 1 := rfl
  have e2 : ("}" : Str).length = 1 := rfl
  omega
theorem pr_mem {R : Str → Str → Prop} : ∀ {ys zs : List Str}, Paired R ys zs → ∀ z ∈ zs, ∃ x ∈ ys, R x z
  | _, _, .nil, z, h => by cases h
  | _, _, .cons r t, z, h => by
    rcases List.mem_cons.mp h with e | e
    · rw [e]
      exact ⟨_, List.mem_cons_self, r⟩
    · obtain ⟨x, hx, q⟩ := pr_mem t z e
      exact ⟨x, List.mem_cons_of_mem _ hx, q⟩
theorem Tx.len : ∀ {n : Nat} {t : T} {y : Str}, Tx n t y → Bd n t → y.length ≤ BB n
  | 0, t, y, ⟨i, e1, e2⟩, ⟨j, f1, f2⟩ => by
    rw [e1] at f1
    cases f1
    rw [e2]
    exact int_len f2
  | n + 1, t, y, h, b => by
    rcases h with ⟨i, e1, e2⟩ | ⟨fs, ys, zs, e, p1, s1, r1, h1⟩
    · subst e1
      rcases b with ⟨j, f1, f2⟩ | ⟨_, f, _⟩
      · cases f1
        rw [e2]
        exact Nat.le_trans (int_len f2) (BB_le _)
      · cases f
    · subst e
      obtain ⟨bl, bg, bc⟩ := b.at
      have hl : zs.length ≤ 7 := by
        have e1 := Paired.length r1
        have e2 := p1.length_eq
        rw [List.length_map] at e2
        omega
      rw [h1]
      refine (all_len (B := BB n) hl fun z hz => ?_).1
      obtain ⟨x, _, u, w, l, t1, e⟩ := pr_mem r1 z hz
      have hm := look_mem l
      have h2 := Tx.len t1 (bc _ hm)
      have h3 := (bg _ hm).2.1
      rw [e, oneT_len]
      have h3' : x.length ≤ 30 := h3
      omega
theorem Bd.sim : ∀ {n : Nat} {t u : T}, Bd n u → GrT.Sm n t u → Bd n t
  | 0, t, u, ⟨i, e1, e2⟩, ⟨j, f1, f2⟩ => by
    rw [e1] at f2
    cases f2
    exact ⟨i, f1, e2⟩
  | n + 1, t, u, b, m => by
    rcases m with ⟨k, g1, g2⟩ | ⟨fs, gs, e1, e2, nd, pm, ch⟩
    · subst g1 g2
      exact b
    · subst e1 e2
      obtain ⟨bl, bg, bc⟩ := b.at
      have hl := pm.length_eq
      rw [List.length_map, List.length_map] at hl
      have hg : ∀ p ∈ fs, ∃ u, look p.1 gs = some u := fun p hp => look_some (pm.mem_iff.mp (List.mem_map.mpr ⟨p, hp, rfl⟩))
      refine .inr ⟨fs, rfl, by omega, fun p hp => ?_, fun p hp => ?_⟩
      · obtain ⟨u, hu⟩ := hg p hp
        exact bg (p.1, u) (look_mem hu)
      · obtain ⟨u, hu⟩ := hg p hp
        exact (bc (p.1, u) (look_mem hu)).sim (ch p.1 p.2 u (mem_look nd hp) hu)
end Lw
/-! From a record that bears a value to its paths. -/
namespace Gn
open PySem PySem.Spec PyProof.Rows L2 GenW GrT GrOwn Lw
section
variable {S : Addr → Prop} {C : Addr} {H : Hp}
theorem rc_out {n : Nat} {a : Addr} {fs : List (Str × T)} (h : Rc S C H (n + 1) (.ref a) (.fds fs)) : ∃ l, RA S C H a l (nfs fs) ∧ Wf 40 fs ∧ (names l).Perm (names fs) ∧ ∀ x v u, look x l = some v → look x fs = some u → Rc S C H n v u := by
  refine h.cases (fun i e _ => by cases e) fun k a' l fs' en e1 e2 ra wf pm ch => ?_
  cases en
  cases e1
  cases e2
  exact ⟨l, ra, wf, pm, ch⟩
theorem rc_ref {n : Nat} {v : V} {fs : List (Str × T)} (h : Rc S C H n v (.fds fs)) : ∃ a, v = .ref a :=
  h.cases (fun i _ e => by cases e) fun k a l fs' _ e1 _ _ _ _ _ => ⟨a, e1⟩
theorem sum_permI {α : Type} {f : α → Int} {l m : List α} (h : l.Perm m) : (l.map f).sum = (m.map f).sum := by
  induction h with
  | nil => rfl
  | cons x _ ih => rw [List.map_cons, List.map_cons, List.sum_cons, List.sum_cons, ih]
  | swap x y l =>
    simp only [List.map_cons, List.sum_cons]
    omega
  | trans _ _ ih1 ih2 => rw [ih1, ih2]
theorem rows_of {n : Nat} (ih : ∀ v fs, Rc S C H n v (.fds fs) → ∃ ps, Pt C H n v ps ∧ (ps.length : Int) = nfs fs) (g : Str → T) :
    ∀ {l : List (Str × V)}, (∀ p ∈ l, Rc S C H n p.2 (g p.1)) → ∃ ps, RowsR (Pt C H n) l ps ∧ (ps.length : Int) = (l.map fun p => 1 + nf (g p.1)).sum
  | [], _ => ⟨[], .nil, rfl⟩
  | (x, v) :: r, h => by
    obtain ⟨ps, q, e⟩ := rows_of ih g (l := r) fun p hp => h p (List.mem_cons_of_mem _ hp)
    have hx : Rc S C H n v (g x) := h (x, v) List.mem_cons_self
    rw [List.map_cons, List.sum_cons, ← e]
    show ∃ ps', _ ∧ _ = 1 + nf (g x) + _
    generalize hu : g x = u at hx
    cases u with
    | int i =>
      have ev : v = .int i := hx.cases (fun j e1 e2 => by cases e2; exact e1) fun k a l' fs' _ _ e2 _ _ _ _ => by cases e2
      subst ev
      refine ⟨_, .int q, ?_⟩
      rw [List.length_cons, nf]
      omega
    | fds fs =>
      obtain ⟨sub, p, e2⟩ := ih _ _ hx
      refine ⟨_, .sub p q, ?_⟩
      rw [List.length_cons, List.length_append, List.length_map, nf, ← e2]
      omega
theorem sum_names {f : Str → Int} : ∀ {α : Type} {l : List (Str × α)}, (l.map fun p => 1 + f p.1).sum = ((names l).map fun x => 1 + f x).sum := by
  intro α l
  rw [names, List.map_map]
  rfl
/-- a record has its paths, as many as its size tells -/
theorem pt_of : ∀ {n : Nat} {v : V} {fs : List (Str × T)}, Rc S C H n v (.fds fs) → ∃ ps, Pt C H n v ps ∧ (ps.length : Int) = nfs fs
  | 0, v, fs, h => by
    obtain ⟨i, _, e⟩ := h
    cases e
  | n + 1, v, fs, h => by
    obtain ⟨a, rfl⟩ := rc_ref h
    obtain ⟨l, ra, wf, pm, ch⟩ := rc_out h
    have lk : ∀ p ∈ l, ∃ u, look p.1 fs = some u ∧ Rc S C H n p.2 u := fun p hp => by
      obtain ⟨u, hu⟩ := look_some (pm.mem_iff.mp (List.mem_map.mpr ⟨p, hp, rfl⟩))
      exact ⟨u, hu, ch p.1 p.2 u (mem_look ra.nd hp) hu⟩
    obtain ⟨ps, q, e⟩ := rows_of (n := n) (fun v fs h => pt_of h) (fun x => (look x fs).getD (.int 0)) (l := l) fun p hp => by
      obtain ⟨u, hu, hr⟩ := lk p hp
      rw [hu]
      exact hr
    refine ⟨ps, ⟨a, l, _, rfl, ra.any, ?_, q⟩, ?_⟩
    · have := pm.length_eq
      rw [List.length_map, List.length_map] at this
      rw [this]
      exact wf.ln
    · have e3 := nfs_sum fs
      have e4 : (fs.map fun p => 1 + nf p.2) = fs.map fun p => 1 + nf ((look p.1 fs).getD (.int 0)) := by
        refine List.map_congr_left fun p hp => ?_
        rw [mem_look wf.nd hp]
        rfl
      rw [e, e3, e4, sum_names (f := fun x => nf ((look x fs).getD (.int 0))), sum_names (f := fun x => nf ((look x fs).getD (.int 0)))]
      exact sum_permI pm
end
end Gn
/-! str of a record at any depth, its length bounded by its size. -/
namespace Lw
open PySem PySem.Spec PyProof.Rows L2 GrT GrOwn Qd Ra
theorem sz_ok {n : Nat} (h : n ≤ 10000000) : n ≤ sizeLine := by
  rw [sizeLine_eq]
  omega
theorem pr_snoc {R : Str → Str → Prop} : ∀ {ys zs : List Str} {x z : Str}, Paired R ys zs → R x z → Paired R (ys ++ [x]) (zs ++ [z])
  | _, _, x, z, .nil, r => .cons r .nil
  | _, _, x, z, .cons r t, q => .cons r (pr_snoc t q)
/-- a field's text -/
def RT (n : Nat) (fs : List (Str × T)) (x z : Str) : Prop := ∃ u w, look x fs = some u ∧ Tx n u w ∧ z = oneText x w
theorem pr_sumI {R : Str → Str → Prop} {f : Str → Int} (h : ∀ x z, R x z → (z.length : Int) ≤ f x) : ∀ {ys zs : List Str}, Paired R ys zs → (((zs.map (·.length)).sum : Nat) : Int) ≤ (ys.map f).sum
  | _, _, .nil => Int.le_refl _
  | _, _, .cons r t => by
    have h1 := h _ _ r
    have h2 := pr_sumI h t
    rw [List.map_cons, List.map_cons, List.sum_cons, List.sum_cons]
    omega
theorem join_sum {zs : List Str} : (Txt.join (", " : Str) zs).length ≤ (zs.map (·.length)).sum + zs.length * 2 := by
  rw [TL.join_eq]
  have h1 := StrLaws.join_length_le (", " : Str) zs
  have h3 : (", " : Str).length = 2 := rfl
  rw [h3] at h1
  omega
theorem sum_szf {fs : List (Str × T)} (nd : (names fs).Nodup) : ((names fs).map fun x => 72 + 80 * szf fs x).sum = 80 * nfs fs - 8 * fs.length := by
  have h := nfs_len nd
  have k : ∀ (l : List Str), (l.map fun x => 72 + 80 * szf fs x).sum = 72 * l.length + 80 * (l.map (szf fs)).sum := by
    intro l
    induction l with
    | nil => rfl
    | cons x r ih =>
      rw [List.map_cons, List.sum_cons, ih, List.map_cons, List.sum_cons, List.length_cons]
      push_cast
      omega
  rw [k, List.length_map]
  omega
/-- the fields' texts, by the size -/
theorem rt_sum {n : Nat} {fs : List (Str × T)} (nd : (names fs).Nodup) (g : ∀ p ∈ fs, Good p.1) (b : ∀ x u w, look x fs = some u → Tx n u w → (w.length : Int) ≤ 40 + 80 * nf u) {ys zs : List Str} (pm : ys.Perm (names fs)) (pr : Paired (RT n fs) ys zs) :
    (((zs.map (·.length)).sum + zs.length * 2 : Nat) : Int) ≤ 80 * nfs fs := by
  have h1 := pr_sumI (f := fun x => 72 + 80 * szf fs x) (fun x z ⟨u, w, l, t, e⟩ => by
    have h2 := b x u w l t
    have h3 : x.length ≤ 30 := (g (x, u) (look_mem l)).2.1
    have e2 : szf fs x = nf u := by
      unfold szf
      rw [l]
    rw [e, oneT_len, e2]
    push_cast
    omega) pr
  rw [sum_perm (f := fun x => 72 + 80 * szf fs x) pm, sum_szf nd] at h1
  have h2 := Paired.length pr
  have h3 := pm.length_eq
  rw [List.length_map] at h3
  push_cast
  push_cast at h1
  omega
theorem tx_len : ∀ {n : Nat} {S : Addr → Prop} {C : Addr} {H : Hp} {v : V} {t : T} {y : Str}, Tx n t y → Bd n t → Rc S C H n v t → (y.length : Int) ≤ 40 + 80 * nf t
  | 0, S, C, H, v, t, y, ⟨i, e1, e2⟩, ⟨j, f1, f2⟩, _ => by
    rw [e1] at f1
    cases f1
    have := int_len f2
    rw [e2, e1, nf]
    omega
  | n + 1, S, C, H, v, t, y, h, b, rc => by
    rcases h with ⟨i, e1, e2⟩ | ⟨fs, ys, zs, e, p1, s1, r1, h1⟩
    · subst e1
      rcases b with ⟨j, f1, f2⟩ | ⟨_, f, _⟩
      · cases f1
        have := int_len f2
        rw [e2, nf]
        omega
      · cases f
    · subst e
      obtain ⟨bl, bg, bc⟩ := b.at
      obtain ⟨a, rfl⟩ := Gn.rc_ref rc
      obtain ⟨l, ra, wf, pm, ch⟩ := Gn.rc_out rc
      have h2 := rt_sum (n := n) wf.nd bg (fun x u w lk tx => by
        obtain ⟨v, hv⟩ := look_some (pm.mem_iff.mpr (List.mem_map.mpr ⟨_, look_mem lk, rfl⟩ : x ∈ names fs))
        exact tx_len tx (bc (x, u) (look_mem lk)) (ch x v u hv lk)) p1 r1
      have h3 := join_sum (zs := zs)
      rw [h1, nf]
      unfold allText
      rw [app_len, app_len]
      have e1 : ("{" : Str).length = 1 := rfl
      have e2 : ("}" : Str).length = 1 := rfl
      rw [e1, e2]
      push_cast at h2 ⊢
      omega
abbrev sStr : Stmt := inClass (top 11) 20
def spStr (C : Addr) (n : Nat) : Sp := fun vs H Q _ => ∃ (a : Addr) (fs : List (Str × T)), vs = [.ref a] ∧ Rc All C H (n + 1) (.ref a) (.fds fs) ∧ Bd (n + 1) (.fds fs) ∧ nfs fs ≤ 1000 ∧ ∀ y H', Tx (n + 1) (.fds fs) y → Same H H' → Q (.str y) H'
def spStrR (C : Addr) : Nat → Sp
  | 0 => spNo
  | n + 1 => spStr C n
section
variable {P : Program} {w : World} {K : PySem.W.Frag} {mg : Str → Option Value} {base : Heap} {C : Addr}
theorem scStr : FnScope ["self", "told", "name", "value", "inner"] ["self"] (defScope sStr) := ⟨rfl, rfl, rfl, by decide +kernel, rfl, by decide +kernel, by decide +kernel⟩
theorem fn_str_step (T : Bu mg) (R : RecK K mg C) (hfm : PySem.W.findIn K (.ref C) "__format__" = some (some (.builtin "object.__format__"))) {f : Addr} {fd : FuncData} (m : GrOwn.Sm K C "__str__" f) (hb : Binds K fd ["self"] []) (F : L2.Fun K "__str__" "Record.__str__" sStr f fd) (n : Nat)
    (F0 : FnOk P w K mg base CX0 (2 * n + 1) f fd ["self"] (spStrR C n)) : FnOk P w K mg base CX0 (2 * n + 3) f fd ["self"] (spStr C n) := by
  refine F.ok scStr (fun vs H Q E h => ?_) (fun cdv A outer s H vs Q E hr h => ?_)
  · obtain ⟨a, fs, rfl, _⟩ := h
    rfl
  · obtain ⟨a, fs, rfl, rc, bd, hn, q⟩ := h
    have hu := hu_of hr
    obtain ⟨bl, bg, bc⟩ := bd.at
    refine ⟨_, (pss_cons (ps_set (i := 1) scStr.nd rfl (Or.inl rfl) (pe_lst pa_nil))
      (pss_cons (ps_lock (ps_for PassesOwn.never rfl (pi_items (pe_fld (pv 0) rfl)) (pg_tup rfl (pgs_cons (pg_name (i := 2) scStr.nd rfl (Or.inl rfl)) (pgs_cons (pg_name (i := 3) scStr.nd rfl (Or.inl rfl)) pgs_nil)))
        (pss_one (ps_expr (pe_bm PySem.F.plainAttrs_list PySem.F.slot_list_append PySem.F.type_list_append mt_append (pv 1) (pa_cons (pe_joined (PJ.cons (pe_fmt (pv 2)) (PJ.cons pe_str (PJ.cons (pe_fmtO hfm R.hm m F0 hb hr (Nat.le_refl _) (pv 3)) PJ.nil)))) pa_nil))))))
      (pss_cons (ps_set (i := 4) scStr.nd rfl (Or.inl rfl) (pe_join pe_str (pv 1)))
      (pss_one (ps_ret (pe_joined (PJ.cons pe_str (PJ.cons (pe_fmt (pv 4)) (PJ.cons pe_str PJ.nil))))))))), ?_⟩
    obtain ⟨l, ra, wf, pm, ch⟩ := Rc.out rc
    obtain ⟨⟨dx, tp, d, _, ea, et, ed⟩, nl, so⟩ := ra
    have ll : l.length = fs.length := by
      have := pm.length_eq
      rwa [List.length_map, List.length_map] at this
    have nll : (names l).length = l.length := List.length_map _
    refine ⟨Nat.zero_le _, fun M hM => ?_⟩
    have s1 : Same H (upd H M (.lst [])) := Same.new (Same.refl _) hM
    have dM : d ≠ M := ne_of_none ed hM
    have ea1 := s1 _ _ ea
    have ed1 := s1 _ _ ed
    have eM1 : (upd H M (.lst [])) M = some (.lst (([] : List Str).map V.str)) := upd_same
    have ch1 : ∀ x v u, look x l = some v → look x fs = some u → Rc (fun b => All b ∧ H b ≠ none) C (upd H M (.lst [])) n v u := fun x v u h1 h2 => (ch x v u h1 h2).exs.same s1
    generalize upd H M (.lst []) = H1 at s1 ea1 ed1 eM1 ch1 ⊢
    refine ⟨d, .dK (dk l), ed1, True.intro, fun od => ?_⟩
    have ad : a ≠ d := fun z => by
      rw [z, ed] at ea
      cases ea
    have chB : ∀ x v u, look x l = some v → look x fs = some u → Rc (fun b => All b ∧ H b ≠ none) C (upd H1 d (.frz od (.dK (dk l)))) n v u := fun x v u h1 h2 =>
      Rc.away (z := nfs fs) ed1 (fun gs ng pg cg => (nfs_one wf.nd pm pg (fun x v u h1 h2 => (ch1 x v u h1 h2).sz) cg).symm) _ (ch1 x v u h1 h2) (nf_child h2)
    have eaB : (upd H1 d (.frz od (.dK (dk l)))) a = some (.ins C dx (rf tp d (nfs fs))) := by
      rw [upd_ne ad]
      exact ea1
    have eMB : (upd H1 d (.frz od (.dK (dk l)))) M = some (.lst (([] : List Str).map V.str)) := by
      rw [upd_ne dM.symm]
      exact eM1
    have edB : (upd H1 d (.frz od (.dK (dk l)))) d = some (.frz od (.dK (dk l))) := upd_same
    have sU0 : ∀ H', Fx M (upd H1 d (.frz od (.dK (dk l)))) H' → Same H (upd H' d (.dK (dk l))) := fun H' x b o e => by
      by_cases z : b = d
      · rw [z, upd_same, ← ed, ← z, e]
      · rw [upd_ne z]
        exact x b o (fun y => by rw [y, hM] at e; cases e) (by rw [upd_ne z]; exact s1 _ _ e)
    generalize upd H1 d (.frz od (.dK (dk l))) = B at chB eaB eMB edB sU0 ⊢
    refine ⟨_, rfl, a, C, dx, _, _, rfl, eaB, R.cl, R.nF, rf_fields _ _ _, d, od, dk l, rfl, edB, for_it walk_items (fun i σ H' => ∃ (nv vv : Option V) (zs : List Str), σ = [some (.ref a), some (.ref M), nv, vv, none] ∧ H' M = some (.lst (zs.map V.str)) ∧ Paired (RT n fs) ((names l).take i) zs ∧ Fx M B H')
      ⟨none, none, [], rfl, eMB, .nil, Fx.refl⟩ (fun i σ H' _ h => ?_) ?_ ?_⟩
    · obtain ⟨nv, vv, zs, _, _, _, h⟩ := h
      exact h _ _ dM edB
    · rintro i y σ H' H2 hi ⟨nv, vv, zs, rfl, eM, pr, x3⟩ ⟨Tp, x1, y1, rfl, hT, rfl, hx1, hy1⟩
      have hi2 : i < l.length := by
        rw [dk_len] at hi
        exact hi
      obtain ⟨⟨x, v⟩, hx⟩ : ∃ p, l[i]? = some p := ⟨l[i], List.getElem?_eq_getElem hi2⟩
      have hd : (dk l)[i]? = some (Sum.inr x, v) := by
        unfold dk
        rw [List.getElem?_map, hx]
        rfl
      have hx2 : ((dk l)[i]?).map (fun kv => kV kv.1) = some x1 := hx1
      have hy2 : ((dk l)[i]?).map Prod.snd = some y1 := hy1
      rw [hd] at hx2 hy2
      cases hx2
      cases hy2
      have hn1 : (names l)[i]? = some x := by rw [List.getElem?_map, hx]; rfl
      have eT : (upd H' Tp (.tup [kV (Sum.inr x), v])) Tp = some (.tup [kV (Sum.inr x), v]) := upd_same
      have x4 : Fx M B (upd H' Tp (.tup [kV (Sum.inr x), v])) := x3.new hT
      have s4 : Same H' (upd H' Tp (.tup [kV (Sum.inr x), v])) := Same.new (Same.refl _) hT
      have eM4 := s4 _ _ eM
      generalize upd H' Tp (.tup [kV (Sum.inr x), v]) = H4 at eT x4 eM4 ⊢
      have hv : look x l = some v := mem_look nl (List.mem_of_getElem? hx)
      obtain ⟨u, hu2⟩ := look_some (pm.mem_iff.mp (List.mem_of_getElem? hn1))
      have ru : Rc (fun b => All b ∧ H b ≠ none) C H4 n v u := (chB x v u hv hu2).keep fun b o sb e _ => x4 b o (fun z => sb.2 (by rw [z]; exact hM)) e
      have bu := bc (x, u) (look_mem hu2)
      have xl : x.length ≤ 30 := (bg (x, u) (look_mem hu2)).2.1
      have pl := Paired.length pr
      rw [List.length_take] at pl
      have e0 : Str.empty ++ x = x := Str.empty_append x
      have t1 : (Str.empty ++ x).length ≤ sizeLine := by
        rw [e0]
        exact sz_ok (by omega)
      have t2 : (Str.empty ++ x ++ (": " : Str)).length ≤ sizeLine := by
        rw [e0, app_len]
        exact sz_ok (by show x.length + 2 ≤ _; omega)
      have fin : ∀ (w' : Str) (H7 : Hp), Tx n u w' → Same H4 H7 → (Str.empty ++ x ++ (": " : Str) ++ w').length ≤ sizeLine ∧ ∃ l0 xs v0, V.ref M = V.ref l0 ∧ [V.str (Str.empty ++ x ++ (": " : Str) ++ w')] = [v0] ∧ H7 l0 = some (.lst xs) ∧ xs.length < sizeLine ∧
          ∃ (nv vv : Option V) (zs : List Str), [some (V.ref a), some (V.ref M), some (V.str x), some v, none] = [some (V.ref a), some (V.ref M), nv, vv, none] ∧ (upd H7 l0 (.lst (xs ++ [v0]))) M = some (.lst (zs.map V.str)) ∧ Paired (RT n fs) ((names l).take (i + 1)) zs ∧ Fx M B (upd H7 l0 (.lst (xs ++ [v0]))) := fun w' H7 tx s7 => by
        have wl := tx_len tx bu ru
        have nu : nf u ≤ 1000 := Int.le_trans (Int.le_of_lt (nf_child hu2)) hn
        have eo : Str.empty ++ x ++ (": " : Str) ++ w' = oneText x w' := by rw [e0]; rfl
        rw [eo]
        refine ⟨sz_ok (by rw [oneT_len]; omega), M, _, _, rfl, rfl, s7 _ _ eM4, line_big (by rw [List.length_map]; omega), _, _, zs ++ [oneText x w'], rfl, by rw [upd_same, List.map_append]; rfl, ?_, fun b o nb e => by rw [upd_ne nb]; exact s7 _ _ (x4 _ _ nb e)⟩
        rw [List.take_add_one, hn1, Option.toList_some]
        exact pr_snoc pr ⟨u, w', hu2, tx, rfl⟩
      refine ⟨Tp, _, rfl, SqT.of eT, rfl, _, _, rfl, _, _, rfl, rfl, ?_⟩
      refine ⟨_, rfl, .inl ⟨rfl, _, SqL.of eM4⟩, ?_⟩
      refine ⟨_, rfl, .inl ⟨x, rfl, sz_ok (by omega), x, rfl, t1, _, rfl, t2, _, rfl, ?_⟩⟩
      refine ru.cases (fun i e1 e2 => ?_) (fun k a2 l2 fs2 en e1 e2 ra2 wf2 pm2 ch2 => ?_)
      · subst e1 e2
        have hi : i.natAbs < 2 ^ 100 := by
          cases n with
          | zero =>
            obtain ⟨j, f1, f2⟩ := bu
            cases f1
            exact f2
          | succ n =>
            rcases bu with ⟨j, f1, f2⟩ | ⟨_, f1, _⟩
            · cases f1
              exact f2
            · cases f1
        have tx : Tx n (.int i) (Str.ofString (toString i)) := by
          cases n with
          | zero => exact ⟨i, rfl, rfl⟩
          | succ n => exact .inl ⟨i, rfl, rfl⟩
        obtain ⟨g1, g2⟩ := fin _ H4 tx (Same.refl _)
        exact .inl ⟨i, rfl, log_of hi, _, rfl, g1, g2⟩
      · subst en e1 e2
        obtain ⟨⟨dy, tq, d2, _, ea2, _, _⟩, _, _⟩ := id ra2
        refine .inr ⟨a2, dy, _, rfl, ea2, a2, fs2, rfl, ru.wid fun b h => h.1, bu, by have := nf_child hu2; rw [nf] at this; omega, fun y H7 tx s7 => ?_⟩
        obtain ⟨g1, g2⟩ := fin _ H7 tx s7
        exact ⟨y, rfl, _, rfl, g1, g2⟩
    · rintro σ H' ⟨nv, vv, zs, rfl, eM, pr, x3⟩
      rw [dk_len, ← nll, List.take_length] at pr
      have edL : H' d = some (.frz od (.dK (dk l))) := x3 _ _ dM edB
      refine ⟨edL, ?_⟩
      have sU := sU0 _ x3
      have eMU : (upd H' d (.dK (dk l))) M = some (.lst (zs.map V.str)) := by
        rw [upd_ne dM.symm]
        exact eM
      generalize upd H' d (.dK (dk l)) = HU at sU eMU ⊢
      have zl : zs.length ≤ 7 := by
        have := Paired.length pr
        omega
      have b2 := rt_sum (n := n) wf.nd bg (fun x u w lk tx => by
        obtain ⟨v, hv⟩ := look_some (pm.mem_iff.mpr (List.mem_map.mpr ⟨_, look_mem lk, rfl⟩ : x ∈ names fs))
        exact tx_len tx (bc (x, u) (look_mem lk)) (ch x v u hv lk)) pm pr
      have b1 := join_sum (zs := zs)
      push_cast at b2
      have b3 : (allText zs).length = 1 + (Txt.join (", " : Str) zs).length + 1 := by
        unfold allText
        rw [app_len, app_len]
        rfl
      have e0 : Str.empty ++ ("{" : Str) = "{" := Str.empty_append _
      refine ⟨⟨_, rfl⟩, _, rfl, _, M, zs, rfl, rfl, .inl (SqL.of eMU), by show (zs.map (·.length)).sum + zs.length * 2 ≤ 16777216; omega, ?_⟩
      refine ⟨_, rfl, by rw [e0]; exact sz_ok (by decide), _, rfl, .inl ⟨_, rfl, sz_ok (by omega), _, rfl, ?_, _, rfl, ?_, ?_⟩⟩
      · rw [e0, app_len]
        exact sz_ok (by show 1 + _ ≤ _; omega)
      · rw [e0, app_len, app_len]
        exact sz_ok (by show 1 + _ + 1 ≤ _; omega)
      · rw [e0]
        exact q _ _ (.inr ⟨fs, names l, zs, rfl, pm, so, pr, rfl⟩) sU
theorem fn_str (T : Bu mg) (R : RecK K mg C) (hfm : PySem.W.findIn K (.ref C) "__format__" = some (some (.builtin "object.__format__"))) {f : Addr} {fd : FuncData} (m : GrOwn.Sm K C "__str__" f) (hb : Binds K fd ["self"] []) (F : L2.Fun K "__str__" "Record.__str__" sStr f fd) : ∀ n, FnOk P w K mg base CX0 (2 * n + 3) f fd ["self"] (spStr C n)
  | 0 => fn_str_step T R hfm m hb F 0 (F.ok scStr (fun _ _ _ _ h => h.elim) (fun _ _ _ _ _ _ _ _ _ h => h.elim))
  | n + 1 => fn_str_step T R hfm m hb F (n + 1) (fn_str T R hfm m hb F n)
end
end Lw
namespace Lw
open PySem PySem.Spec PyProof.Rows L2 GrT GrOwn
abbrev sExtends : Stmt := top 9
def spExt (C : Addr) (n : Nat) : Sp := fun vs H Q _ => ∃ (v u : V) (S S' : Addr → Prop) (t t' : T), vs = [v, u] ∧ Rc S C H n v t ∧ Rc S' C H n u t' ∧ Q (.bl (ext t t')) H
def spExtR (C : Addr) : Nat → Sp
  | 0 => spNo
  | n + 1 => spExt C n
section
variable {P : Program} {w : World} {K : PySem.W.Frag} {mg : Str → Option Value} {base : Heap} {C : Addr}
theorem scExtends : FnScope ["large", "small", "name"] ["large", "small"] (defScope sExtends) := ⟨rfl, rfl, rfl, by decide +kernel, rfl, by decide +kernel, by decide +kernel⟩
theorem c_extends_step (T : Bu mg) (R : RecK K mg C) (m_eq : Mth P w K mg base C 1 "__eq__" (spEq C)) (m_iter : MthS P w K mg base C 1 "__iter__" (spIt K)) (m_contains : Mth P w K mg base C 1 "__contains__" (spContains C)) (m_get : Mth P w K mg base C 1 "__getitem__" (spGet C))
    (D : Dfn K mg "extends" sExtends ["large", "small"]) (n : Nat) (c_extends : Cal P w K mg base (n + 2) "extends" (spExtR C n)) : Cal P w K mg base (n + 3) "extends" (spExt C n) := by
  refine D.cal scExtends (fun vs H Q E h => ?_) (fun f cdv A outer s H vs Q E hr h => ?_)
  · obtain ⟨v, u, S, S', t, t', rfl, _⟩ := h
    rfl
  · obtain ⟨v, u, S, S', t, t', rfl, rv, ru, q⟩ := h
    refine ⟨_, (pss_cons (ps_if (PW.pt (pw_or (pt_not (pt_val (pe_callB call_isi (by rfl) T.b_isinstance bo_isinstance (pa_cons (pv 0) (pa_cons (pe_glob (by rfl) R.mgC (v := .ref C) rfl) pa_nil))))) (pw_or1 (pt_not (pt_val (pe_callB call_isi (by rfl) T.b_isinstance bo_isinstance (pa_cons (pv 1) (pa_cons (pe_glob (by rfl) R.mgC (v := .ref C) rfl) pa_nil))))))))
      (pss_one (ps_ret (pe_cmpR (op_or op_eq (op_or (op_eqML R m_eq hr (by omega)) (op_eqMR R m_eq hr (by omega)))) (pv 0) (pv 1) (nomark _))))
      pss_nil)
      (pss_cons (ps_for PassesOwn.never rfl (pi_ownM R m_iter hr (by omega) (pv 1)) (pg_name (i := 2) scExtends.nd rfl (Or.inl rfl))
      (pss_one (ps_if (PW.pt (pw_or (pt_cmpR (op_notInM m_contains hr (by omega)) (pv 2) (pv 0) (by rfl)) (pw_or1 (pt_not (pt_val (pe_c c_extends hr (by omega) rfl (pa_cons (pe_ixM m_get hr (by omega) (pv 0) (pv 2)) (pa_cons (pe_ixM m_get hr (by omega) (pv 1) (pv 2)) pa_nil))))))))
      (pss_one (ps_ret pe_bl))
      pss_nil)))
      (pss_one (ps_ret pe_bl)))), ?_⟩
    refine rv.cases (fun i e1 e2 => ?_) (fun k a l fs en e1 e2 ra wf pm ch => ?_)
    · subst e1 e2
      refine ru.cases (fun j e1 e2 => ?_) (fun k b m gs en e1 e2 rb wg pg cg => ?_)
      · subst e1 e2
        refine ⟨_, rfl, _, _, _, _, _, rfl, .own C, .base (.int i), R.kI, _, rfl, iteT (iteT ⟨_, rfl, _, rfl, .inl ⟨rfl, ?_⟩⟩)⟩
        rw [dint]
        rw [ext] at q
        exact q
      · subst e1 e2
        obtain ⟨⟨dx, tp, d, _, e1, _⟩, _, _⟩ := id rb
        rw [ext] at q
        exact ⟨_, rfl, _, _, _, _, _, rfl, .own C, .base (.int i), R.kI, _, rfl, iteT (iteT ⟨_, rfl, _, rfl, .inr (.inr ⟨i, b, dx, _, rfl, rfl, e1, b, i, rfl, _, rfl, q⟩)⟩)⟩
    · subst e1 e2 en
      obtain ⟨⟨dx, tp, d, _, ea, et, _⟩, la, _⟩ := id ra
      refine ru.cases (fun j e1 e2 => ?_) (fun k b m gs en e1 e2 rb wg pg cg => ?_)
      · subst e1 e2
        rw [ext] at q
        exact ⟨_, rfl, _, _, _, _, _, rfl, .own C, R.ty ea, R.kRC, _, rfl, iteF ⟨_, rfl, _, _, _, _, _, rfl, .own C, .base (.int j), R.kI, _, rfl, iteT ⟨_, rfl, _, rfl, .inr (.inl ⟨a, dx, _, rfl, ea, .inl ⟨j, rfl⟩, a, j, rfl, _, rfl, q⟩)⟩⟩⟩
      · cases en
        subst e1 e2
        obtain ⟨⟨dy, tq, d2, _, eb, etb, _⟩, lb, _⟩ := id rb
        refine ⟨_, rfl, _, _, _, _, _, rfl, .own C, R.ty ea, R.kRC, _, rfl, iteF ⟨_, rfl, _, _, _, _, _, rfl, .own C, R.ty eb, R.kRC, _, rfl, iteF ?_⟩⟩
        refine ⟨_, rfl, b, dy, _, tq, _, rfl, eb, rf_names _ _ _, SqT.of etb, for_it (walk_tup (xs := (names m).map V.str)) (fun i σ H' => ∃ nv : Option V, σ = [some (.ref a), some (.ref b), nv] ∧ H' = H ∧ ∀ x ∈ (names m).take i, ∀ t, look x gs = some t → ∃ u, look x fs = some u ∧ ext u t = true)
          ⟨none, rfl, rfl, fun x hx => by simp at hx⟩ (fun i σ H' _ h => ?_) ?_ ?_⟩
        · obtain ⟨nv, _, rfl, _⟩ := h
          exact SqT.of etb
        · rintro i y σ H' H2 hi ⟨nv, rfl, rfl, ok⟩ ⟨rfl, hy⟩
          obtain ⟨x, hx, rfl⟩ : ∃ x, (names m)[i]? = some x ∧ y = V.str x := by
            rw [List.getElem?_map] at hy
            cases e : (names m)[i]? with
            | none =>
              rw [e] at hy
              cases hy
            | some x =>
              rw [e] at hy
              exact ⟨x, rfl, (Option.some.inj hy).symm⟩
          have hxm : x ∈ names m := List.mem_of_getElem? hx
          obtain ⟨vb, hvb⟩ := look_some hxm
          obtain ⟨tb, htb⟩ := look_some (pg.mem_iff.mp hxm)
          have no : ∀ (h : ¬ ∃ u, look x fs = some u ∧ ext u tb = true), Q (.bl false) H2 := fun h => by
            have e : ext (.fds fs) (.fds gs) = false := by
              rw [ext]
              cases e : extL fs gs with
              | false => rfl
              | true => exact absurd (extL_iff.mp e (x, tb) (look_mem htb)) h
            rw [e] at q
            exact q
          refine ⟨_, rfl, _, rfl, a, dx, _, rfl, ea, a, l, _, x, rfl, ra.any, _, rfl, _, rfl, ?_⟩
          cases e : look x l with
          | none =>
            refine iteT (iteT (no ?_))
            rintro ⟨u, hu, _⟩
            have : x ∈ names l := pm.mem_iff.mpr (List.mem_map.mpr ⟨_, look_mem hu, rfl⟩)
            exact look_none.mp e this
          | some va =>
            obtain ⟨ta, hta⟩ := look_some (pm.mem_iff.mp (List.mem_map.mpr ⟨_, look_mem e, rfl⟩ : x ∈ names l))
            refine iteF ⟨_, rfl, _, rfl, a, dx, _, rfl, ea, a, l, _, x, va, rfl, ra.any, e, _, rfl, _, rfl, b, dy, _, rfl, eb, b, m, _, x, vb, rfl, rb.any, hvb, va, vb, S, S', ta, tb, rfl, ch x va ta e hta, cg x vb tb hvb htb, _, rfl, ?_⟩
            cases e2 : ext ta tb with
            | false =>
              refine iteT (no ?_)
              rintro ⟨u, hu, he⟩
              rw [hta] at hu
              cases hu
              rw [e2] at he
              cases he
            | true =>
              refine iteF ⟨_, rfl, rfl, fun y hy t ht => ?_⟩
              rw [List.take_add_one, hx] at hy
              rcases List.mem_append.mp hy with h | h
              · exact ok y h t ht
              · have ey : y = x := by simpa using h
                subst ey
                rw [htb] at ht
                cases ht
                exact ⟨ta, hta, e2⟩
        · rintro σ H' ⟨nv, rfl, rfl, ok⟩
          have e : ext (.fds fs) (.fds gs) = true := by
            rw [ext]
            refine extL_iff.mpr fun p hp => ?_
            have h1 : p.1 ∈ names m := pg.mem_iff.mpr (List.mem_map.mpr ⟨p, hp, rfl⟩)
            exact ok p.1 (by rw [List.length_map, List.take_length]; exact h1) p.2 (mem_look wg.nd hp)
          rw [e] at q
          exact q
end
end Lw
/-! _law_depth, and what a depth says of a record. -/
namespace Lw
open PySem PySem.Spec PyProof.Rows L2 GrT GrOwn
def mx (i j : Int) : Int := if j > i then j else i
mutual
def dT : T → Int
  | .int _ => 0
  | .fds fs => dL 1 fs
def dL (m : Int) : List (Str × T) → Int
  | [] => m
  | (_, t) :: r => dL (mx m (1 + dT t)) r
end
theorem mx_le {i j k : Int} : mx i j ≤ k ↔ i ≤ k ∧ j ≤ k := by
  unfold mx
  split <;> omega
theorem dL_snoc {x : Str} {t : T} : ∀ {l : List (Str × T)} {m : Int}, dL m (l ++ [(x, t)]) = mx (dL m l) (1 + dT t)
  | [], m => by rw [List.nil_append, dL, dL, dL]
  | (y, u) :: r, m => by rw [List.cons_append, dL, dL, dL_snoc]
theorem dL_le {k : Int} : ∀ {l : List (Str × T)} {m : Int}, dL m l ≤ k → m ≤ k ∧ ∀ p ∈ l, 1 + dT p.2 ≤ k
  | [], m, h => by
    rw [dL] at h
    exact ⟨h, fun p hp => by cases hp⟩
  | (y, u) :: r, m, h => by
    rw [dL] at h
    obtain ⟨h1, h2⟩ := dL_le h
    obtain ⟨h3, h4⟩ := mx_le.mp h1
    refine ⟨h3, fun p hp => ?_⟩
    rcases List.mem_cons.mp hp with e | e
    · rw [e]
      exact h4
    · exact h2 p e
/-- no deeper than told -/
theorem rc_deep {S : Addr → Prop} {C : Addr} {H : Hp} : ∀ {n m : Nat} {v : V} {t : T}, Rc S C H n v t → dT t ≤ m → Rc S C H m v t
  | 0, m, v, t, h, _ => by
    obtain ⟨i, rfl, rfl⟩ := h
    exact Rc.int i
  | n + 1, m, v, t, h, d => by
    rcases h with ⟨i, rfl, rfl⟩ | ⟨a, l, fs, e1, e2, e3, e4, e5, e6⟩
    · exact Rc.int i
    · subst e2
      rw [dT] at d
      obtain ⟨h1, h2⟩ := dL_le d
      cases m with
      | zero => exact absurd h1 (by decide)
      | succ m =>
        exact .inr ⟨a, l, fs, e1, rfl, e3, e4, e5, fun x v u q1 q2 => rc_deep (e6 x v u q1 q2) (by
          have := h2 (x, u) (look_mem q2)
          have e : ((m + 1 : Nat) : Int) = (m : Int) + 1 := by push_cast; rfl
          rw [e] at this
          show dT u ≤ (m : Int)
          have h3 : 1 + dT u ≤ (m : Int) + 1 := this
          omega)⟩
abbrev sDepth : Stmt := top 31
def spDepth (n : Nat) : Sp := fun vs H Q _ => ∃ (v : V) (S : Addr → Prop) (t : T), vs = [v] ∧ Tr S H 40 n v t ∧ Q (.int (dT t)) H
def spDepthR : Nat → Sp
  | 0 => spNo
  | n + 1 => spDepth n
section
variable {P : Program} {w : World} {K : PySem.W.Frag} {mg : Str → Option Value} {base : Heap}
theorem scDepth : FnScope ["plain", "depth", "name"] ["plain"] (defScope sDepth) := ⟨rfl, rfl, rfl, by decide +kernel, rfl, by decide +kernel, by decide +kernel⟩
theorem c_depth_step (T : Bu mg) (bm : mg "max" = none) (D : Dfn K mg "_law_depth" sDepth ["plain"]) (n : Nat) (c_law_depth : Cal P w K mg base (n + 1) "_law_depth" (spDepthR n)) : Cal P w K mg base (n + 2) "_law_depth" (spDepth n) := by
  refine D.cal scDepth (fun vs H Q E h => ?_) (fun f cdv A outer s H vs Q E hr h => ?_)
  · obtain ⟨v, S, t, rfl, _⟩ := h
    rfl
  · obtain ⟨v, S, t, rfl, tr, q⟩ := h
    have hu := hu_of hr
    refine ⟨_, (pss_cons (ps_if (pt_not (pt_val (pe_callB call_isi (by rfl) T.b_isinstance bo_isinstance (pa_cons (pv 0) (pa_cons (pe_bltn (by rfl) T.b_dict bo_dict (v := .ty "dict") rfl) pa_nil)))))
      (pss_one (ps_ret pe_int))
      pss_nil)
      (pss_cons (ps_set (i := 1) scDepth.nd rfl (Or.inl rfl) pe_int)
      (pss_cons (ps_lock (ps_for PassesOwn.never rfl (pi_keys (pv 0)) (pg_name (i := 2) scDepth.nd rfl (Or.inl rfl))
      (pss_one (ps_set (i := 1) scDepth.nd rfl (Or.inl rfl) (pe_callB (call_max2 rfl) (by rfl) bm (by decide +kernel) (pa_cons (pe_callTy call_int1 (by rfl) T.b_int (by decide +kernel) (pa_cons (pv 1) pa_nil)) (pa_cons (pe_op op_add pe_int (pe_callTy call_int1 (by rfl) T.b_int (by decide +kernel) (pa_cons (pe_c c_law_depth hr (by omega) rfl (pa_cons (pe_dget hu (pv 0) (pv 2) (fun _ _ => rfl)) pa_nil)) pa_nil))) pa_nil)))))))
      (pss_one (ps_ret (pv 1)))))), ?_⟩
    refine tr.cases (fun i e1 e2 => ?_) (fun k a l fs en e1 e2 sa ea wf al => ?_)
    · subst e1 e2
      rw [dT] at q
      exact ⟨_, rfl, _, _, _, _, _, rfl, .ty _, .base (.int i), rfl, _, rfl, iteT q⟩
    · subst en e1 e2
      rw [dT] at q
      refine ⟨_, rfl, _, _, _, _, _, rfl, .ty _, .base (.dK ea), rfl, _, rfl, iteF ?_⟩
      refine ⟨a, .dK (dk l), ea, True.intro, fun od => ?_⟩
      have back : upd (upd H a (.frz od (.dK (dk l)))) a (.dK (dk l)) = H := upd_back ea
      have alB := al_away sa ea wf al (.frz od (.dK (dk l)))
      have eaB : (upd H a (.frz od (.dK (dk l)))) a = some (.frz od (.dK (dk l))) := upd_same
      have ndl : (names l).Nodup := by
        rw [al.names]
        exact wf.nd
      refine ⟨_, rfl, a, od, rfl, .inl ⟨_, eaB, for_it walk_keys (fun i σ H' => ∃ nv : Option V, σ = [some (.ref a), some (.int (dL 1 (fs.take i))), nv] ∧ H' = upd H a (.frz od (.dK (dk l))))
        ⟨none, by rw [List.take_zero, dL]; rfl, rfl⟩ (fun i σ H' _ h => ?_) ?_ ?_⟩⟩
      · obtain ⟨nv, _, rfl⟩ := h
        exact eaB
      · rintro i y σ H' H2 hi ⟨nv, rfl, rfl⟩ ⟨rfl, k', v', hk, rfl⟩
        obtain ⟨x, rfl, hx⟩ := dk_at hk
        obtain ⟨t1, hfx, r1⟩ := Lw.Al.at alB hx
        have hda : DGet (upd H a (.frz od (.dK (dk l)))) a (.str x) (some v') := .inl ⟨dk l, Sum.inr x, .inr ⟨od, eaB⟩, rfl, by rw [dk_val, mem_look ndl (List.mem_of_getElem? hx)]⟩
        refine ⟨_, rfl, .inl ⟨_, rfl, _, rfl, _, rfl, a, v', rfl, hda, v', S, t1, rfl, r1, .inl ⟨_, rfl, _, _, rfl, rfl, _, _, rfl, some (V.str x), ?_, rfl⟩⟩⟩
        rw [List.take_add_one, hfx, Option.toList_some, dL_snoc]
        rfl
      · rintro σ H' ⟨nv, rfl, rfl⟩
        refine ⟨eaB, ?_⟩
        rw [back]
        refine ⟨_, rfl, ?_⟩
        rw [dk_len, al.len, List.take_length]
        exact q
theorem c_depth (T : Bu mg) (bm : mg "max" = none) (D : Dfn K mg "_law_depth" sDepth ["plain"]) : ∀ n, Cal P w K mg base (n + 2) "_law_depth" (spDepth n)
  | 0 => c_depth_step T bm D 0 (c_no D scDepth)
  | n + 1 => c_depth_step T bm D (n + 1) (c_depth T bm D n)
end
end Lw
/-! str(own); _law_looked. -/
namespace Ra
open PySem PySem.W PySem.Calls PyProof.Rows PyProof.V PySem.Spec Builtin Builtin.Str L2
theorem str_new_in {prog : Program} {w : World} {v : Value} {S : PySem.Spec} (hs : ∀ (A : Around) (R : Result → Shared → Prop) (s : Shared), S A R s → wpAny (model prog w) A.in1 (Builtin.Str.strOf v) (fun r s' => R (.ok (.ret r)) s') (fun e s' => R (.error e) s') s) :
    MeetsIn prog w («str.__new__» ⟨[.type "str", v], []⟩) S := by
  refine MeetsIn.of_wp fun A R s h => ?_
  rw [str_new_tree v]
  refine wpAny_bind (wpAny_pure ?_)
  refine wpAny_bind (wpAny_of_eq isSubtype_str_str ?_)
  exact wpAny_bind (wpAny_mono (hs A R s h) (fun r s' h' => wpAny_pure ⟨_, rfl, h'⟩) fun _ _ e => e)
theorem strOf_own {prog : Program} {w : World} {A : Around} {E : Value → Shared → Prop} {s : Shared} {K : Frag} {x C f : Addr} {ox : Obj} {od : Option Obj} {Q : Value → Shared → Prop} (X : K.In s.heap) (I : InstAt s.heap x ox C od) (hs : findIn K (.ref C) "__str__" = some (some (.ref f))) (hf : isFn K (.ref f) = true) (hu : A.units < cLine)
    (h : wpAny (model prog w) A (call (.ref f) [.ref x]) (fun v s' => ∃ y t, v = .str y t ∧ Q (.str y t) s') E s) : wpAny (model prog w) A (Builtin.Str.strOf (.ref x)) Q E s := by
  unfold Builtin.Str.strOf
  have e0 : isExactStr (.ref x) = false := rfl
  rw [e0]
  refine wpAny_bind (wpAny_cRoomFor hu ?_)
  refine wpAny_bind (Qd.callSpecial_own X I hs hf (wpAny_mono h (fun v s' q => ?_) fun _ _ e => e))
  obtain ⟨y, t, rfl, q⟩ := q
  exact wpAny_bind (wpAny_pure (wpAny_pure q))
end Ra
namespace Lw
open PySem PySem.Spec PyProof.Rows L2 GrT GrOwn Qd Ra
section
variable {X : Cx} {CX : CXT} {C f : Addr} {fd : FuncData} {k j : Nat} {sp : Sp}
/-- str(r), by r's own __str__ -/
def rStrO (C : Addr) (sp : Sp) : List V → Hp → VK → Prop := fun xs H Q => ∃ a dx fs, xs = [.ref a] ∧ H a = some (.ins C dx fs) ∧ sp [.ref a] H (fun v H' => ∃ y : Str, v = .str y ∧ Q (.str y) H') E0
theorem call_strO (m : GrOwn.Sm X.K C "__str__" f) (F : FnOk X.prog X.w X.K X.mg X.base CX0 k f fd ["self"] sp) (hb : Binds X.K fd ["self"] []) (hr : Room j X.A) (hk : k + 2 ≤ j) : CallR X (.type "str") (rStrO C sp) := by
  intro pins s σ H xs us Q I r h
  obtain ⟨a, dx, fs, rfl, ea, q⟩ := h
  obtain ⟨u, rfl, ru⟩ := vals1 r
  cases ru
  obtain ⟨od, J⟩ := inst I ea
  have sb : Sub X (k + 2) X.A := ⟨hr.mono hk, rfl⟩
  refine PySem.callType_newIn PySem.F.called_str (by decide) (PySem.F.typeCall_str_1 _) (PySem.F.newCall_str_1 _) (fun obj => PySem.F.args_object_init_2 obj _) PySem.F.entry_str_new
    (str_new_in (S := fun A R s => wpAny (model X.prog X.w) A.in1 (Builtin.Str.strOf (.ref a)) (fun r s' => R (.ok (.ret r)) s') (fun e s' => R (.error e) s') s) fun A R s h => h) ?_
  refine strOf_own I.kIn J m.at_ m.fn (by have := sb.in1.in1.room.units0; exact this) (thn (run_sub (Q := fun z H' => ∃ y : Str, z = .str y ∧ Q (.str y) H') (vs := [V.ref a]) F sb.in1.in1 hb pass0 I (.cons rfl .nil) q) fun r s' hq => ?_)
  obtain ⟨z, H', I', rz, y, rfl, qq⟩ := hq
  obtain ⟨t, rfl⟩ := rz
  exact ⟨y, t, rfl, typeIs_str _ _ _, .str y, H', I', ⟨t, rfl⟩, qq⟩
end
abbrev sLooked : Stmt := top 32
/-- what is looked at: of a and b, tp the names of b, ps the paths of a -/
def LookV (n : Nat) (fs gs : List (Str × T)) (tp : Addr) (ps : List (List Str)) (xs : List V) (H : Hp) : Prop :=
  ∃ (e1 e2 : Bool) (y : Str) (pl : Addr) (ts : List V), xs = [.bl e1, .bl e2, .bl (ext (.fds fs) (.fds gs)), .str y, .int gs.length, .ref tp, .ref pl] ∧ (e1 = true ↔ GrT.Sm (n + 1) (.fds fs) (.fds gs)) ∧ (e2 = true ↔ LeT n fs gs) ∧ Tx (n + 1) (.fds fs) y ∧ H pl = some (.lst ts) ∧ Gn.Outs H ts ps
def spLooked (C : Addr) (n : Nat) : Sp := fun vs H Q _ => ∃ (a b : Addr) (fs gs : List (Str × T)) (dy tq d2 : Addr) (z : Int) (ps : List (List Str)), vs = [.ref a, .ref b] ∧ Rc All C H (n + 1) (.ref a) (.fds fs) ∧ Rc All C H (n + 1) (.ref b) (.fds gs) ∧ Bd (n + 1) (.fds fs) ∧ nfs fs ≤ 1000 ∧
  H b = some (.ins C dy (rf tq d2 z)) ∧ Gn.Pt C H (n + 1) (.ref a) ps ∧ ps.length ≤ 100000 ∧ ∀ M xs H', Same H H' → H' M = some (.lst xs) → LookV n fs gs tq ps xs H' → Q (.ref M) H'
section
variable {P : Program} {w : World} {K : PySem.W.Frag} {mg : Str → Option Value} {base : Heap} {C : Addr}
theorem scLooked : FnScope ["r", "s", "told"] ["r", "s"] (defScope sLooked) := ⟨rfl, rfl, rfl, by decide +kernel, rfl, by decide +kernel, by decide +kernel⟩
theorem c_looked (T : Bu mg) (R : RecK K mg C) {n kp ke kl kx ks kn kt kk : Nat} (D : Dfn K mg "_law_looked" sLooked ["r", "s"]) (m_plain : MthK P w K mg base CX0 C kp "plain" (spPlain C n)) (M : EqM P w K mg base C ke n) (m_le : MthX P w K mg base CX0 C kl "__le__" (spLeR C n))
    (c_ext : Cal P w K mg base kx "extends" (spExt C (n + 1))) {f : Addr} {fd : FuncData} (ms : GrOwn.Sm K C "__str__" f) (Fs : FnOk P w K mg base CX0 ks f fd ["self"] (spStr C n)) (bs : Binds K fd ["self"] []) (m_len : Mth P w K mg base C kn "__len__" (spLen C))
    {fp : Addr} (mp : Meth K C "paths" fp) (cp : Gn.CallOk P w K mg base C fp (n + 1) kt) (h1 : kp ≤ kk) (h2 : ke ≤ kk) (h3 : kl ≤ kk) (h4 : kx ≤ kk) (h5 : ks + 2 ≤ kk) (h6 : kn + 1 ≤ kk) (h7 : kt + 3 ≤ kk) : Cal P w K mg base (kk + 1) "_law_looked" (spLooked C n) := by
  refine D.cal scLooked (fun vs H Q E h => ?_) (fun f' cdv A outer s H vs Q E hr h => ?_)
  · obtain ⟨a, b, fs, gs, dy, tq, d2, z, ps, rfl, _⟩ := h
    rfl
  · obtain ⟨a, b, fs, gs, dy, tq, d2, z, ps, rfl, r1, r2, bd, hz, eb, pt, pl, q⟩ := h
    have hu := hu_of hr
    refine ⟨_, (pss_cons (ps_set (i := 2) scLooked.nd rfl (Or.inl rfl) (pe_mK0 R m_plain hr h1 pass0 (pv 0)))
      (pss_cons (ps_expr (pe_dclear (pv 2)))
      (pss_one (ps_ret (pe_lst (pa_cons (pe_cmpR (op_eqRec R M hr h2) (pv 0) (pv 1) (nomark _)) (pa_cons (pe_cmpR (op_leRec m_le hr h3) (pv 0) (pv 1) (nomark _)) (pa_cons (pe_c c_ext hr h4 rfl (pa_cons (pv 0) (pa_cons (pv 1) pa_nil)))
        (pa_cons (pe_callTy (call_strO ms Fs bs hr h5) (by rfl) T.b_str bo_str (pa_cons (pv 0) pa_nil)) (pa_cons (pe_callB (call_lenM m_len hr h6) (by rfl) T.b_len PySem.boot_len (pa_cons (pv 1) pa_nil)) (pa_cons (pe_fld (pv 1) rfl)
        (pa_cons (Gn.pe_listP (mg := mg) R mp cp hr h7 rfl rfl (by rfl) T.b_list (pv 0)) pa_nil)))))))))))), ?_⟩
    obtain ⟨l, ⟨⟨dx, tp, d, _, ea, et, ed⟩, nl, so⟩, wf, pm, ch⟩ := Rc.out r1
    refine ⟨_, rfl, a, dx, _, rfl, ea, rf_no (by decide +kernel) (by decide +kernel) (by decide +kernel) _ _ _, a, All, fs, rfl, r1, fun v' t' H1 tr sm _ s1 => ?_⟩
    refine tr.cases (fun i e1 e2 => ?_) (fun k1 D' l' fs' en e1 e2 sD eD wf' al' => ?_)
    · subst e2
      rcases sm with ⟨_, _, e⟩ | ⟨_, _, e, _⟩
      · cases e
      · cases e
    subst e1
    refine ⟨_, rfl, .inr (.inr (.inl ⟨rfl, .inl ⟨_, eD⟩⟩)), D', dk l', rfl, rfl, eD, ?_⟩
    have s2 : Same H (upd H1 D' (.dK [])) := fun c o e => by
      rw [upd_ne (fun z => by rw [z, sD] at e; cases e)]
      exact s1 _ _ e
    generalize upd H1 D' (.dK []) = H2 at s2 ⊢
    refine ⟨_, rfl, _, rfl, a, b, fs, gs, rfl, rfl, r1.same s2, r2.same s2, fun e1 H3 he1 s3 => ?_⟩
    have s03 := s2.trans s3
    refine ⟨_, rfl, _, rfl, a, b, fs, gs, rfl, rfl, r1.same s03, r2.same s03, fun e2 H4 he2 s4 => ?_⟩
    have s04 := s03.trans s4
    refine ⟨_, rfl, _, rfl, _, _, All, All, .fds fs, .fds gs, rfl, r1.same s04, r2.same s04, ?_⟩
    refine ⟨_, rfl, a, dx, _, rfl, s04 _ _ ea, a, fs, rfl, r1.same s04, bd, hz, fun y H5 tx s5 => ⟨y, rfl, ?_⟩⟩
    have s05 := s04.trans s5
    obtain ⟨m, rb, wg, pg, cg⟩ := Rc.out r2
    have ml : m.length = gs.length := by
      have := pg.length_eq
      rwa [List.length_map, List.length_map] at this
    have gl : gs.length ≤ 40 := wg.ln
    refine ⟨_, rfl, b, dy, _, rfl, s05 _ _ eb, b, m, _, rfl, (rb.any).keep fun c o _ e _ => s05 c o e, _, rfl, by omega, by rw [ml]; omega, ?_⟩
    refine ⟨_, rfl, b, C, dy, _, _, rfl, s05 _ _ eb, R.cl, R.nN, rf_names _ _ _, ?_⟩
    refine ⟨_, rfl, a, ps, rfl, pt.same s05, pl, fun S ts H6 s6 eS o => ?_⟩
    refine ⟨line_big (by simp), fun M hM => ?_⟩
    have s06 := s05.trans s6
    refine q M _ _ (Same.new s06 hM) upd_same ⟨e1, e2, y, S, ts, by rw [ml]; rfl, he1, he2, tx, ?_, o.same (Same.new (Same.refl _) hM)⟩
    rw [upd_ne (ne_of_none eS hM)]
    exact eS
end
end Lw
/-! What is looked at twice is alike. -/
namespace Lw
open PySem PySem.Spec PyProof.Rows L2 GrT GrOwn Qd Ra
def CpOk (x : Str) : Prop := ∀ c ∈ x.cps.toList, c < 0x110000
theorem CpOk.app {a b : Str} (h : CpOk a) (k : CpOk b) : CpOk (a ++ b) := fun c hc => by
  have e : (a ++ b).cps.toList = a.cps.toList ++ b.cps.toList := by
    show (a.cps ++ b.cps).toList = _
    rw [Array.toList_append]
  rw [e] at hc
  rcases List.mem_append.mp hc with q | q
  · exact h c q
  · exact k c q
theorem CpOk.of (s : String) : CpOk (Str.ofString s) := fun c hc => by
  rw [signs_ofString] at hc
  obtain ⟨d, _, rfl⟩ := List.mem_map.mp hc
  have := d.valid
  rcases this with h | h
  · have h2 : d.toNat < 0xd800 := h
    omega
  · exact h.2
theorem CpOk.good {x : Str} (h : Good x) : CpOk x := fun c hc => by
  have := (h.2.2 c hc).2
  omega
theorem CpOk.join {y : Str} (hy : CpOk y) : ∀ {zs : List Str}, (∀ z ∈ zs, CpOk z) → CpOk (y.join zs)
  | [], _ => fun c hc => by
    have : (y.join []).cps.toList = [] := rfl
    rw [this] at hc
    cases hc
  | [z], h => h z List.mem_cons_self
  | z :: z2 :: r, h => by
    have e : y.join (z :: z2 :: r) = z ++ y ++ y.join (z2 :: r) := rfl
    rw [e]
    exact ((h z List.mem_cons_self).app hy).app (CpOk.join hy fun w hw => h w (List.mem_cons_of_mem _ hw))
theorem Tx.cp : ∀ {n : Nat} {t : T} {y : Str}, Tx n t y → Bd n t → CpOk y
  | 0, t, y, ⟨i, e1, e2⟩, _ => by
    rw [e2]
    exact CpOk.of _
  | n + 1, t, y, h, b => by
    rcases h with ⟨i, e1, e2⟩ | ⟨fs, ys, zs, e, p1, s1, r1, h1⟩
    · rw [e2]
      exact CpOk.of _
    · subst e
      obtain ⟨bl, bg, bc⟩ := b.at
      rw [h1]
      unfold allText
      refine ((CpOk.of "{").app ?_).app (CpOk.of "}")
      rw [TL.join_eq]
      refine CpOk.join (CpOk.of ", ") fun z hz => ?_
      obtain ⟨x, _, u, w, l, t1, e⟩ := pr_mem r1 z hz
      rw [e]
      unfold oneText
      exact ((CpOk.good (bg (x, u) (look_mem l))).app (CpOk.of ": ")).app (Tx.cp t1 (bc (x, u) (look_mem l)))
/-! ### data -/
def DpL (K : PySem.W.Frag) (H : Hp) (m : Nat) (v : V) (d : PyData) : Prop := Dp K H v d ∧ d.canLay0 = true ∧ d.depth ≤ m
theorem dl_str {K : PySem.W.Frag} {H : Hp} {m : Nat} {x : Str} (h : CpOk x) : DpL K H m (.str x) (.str x) := ⟨.str x, by
  rw [PyData.canLay0]
  show x.cps.all (fun c => decide (c < 0x110000)) = true
  rw [← Array.all_toList, List.all_eq_true]
  exact fun c hc => decide_eq_true (h c hc), by rw [PyData.depth]; exact Nat.zero_le _⟩
theorem dl_strs {K : PySem.W.Frag} {H : Hp} : ∀ {ys : List Str}, (∀ y ∈ ys, CpOk y) → DpAll K H (ys.map V.str) (ys.map PyData.str) ∧ PyData.canLayAll0 (ys.map PyData.str) = true ∧ PyData.depthAll (ys.map PyData.str) ≤ 0
  | [], _ => ⟨.nil, rfl, by simp [PyData.depthAll]⟩
  | y :: r, h => by
    obtain ⟨h1, h2, h3⟩ := dl_strs (K := K) (H := H) (ys := r) fun z hz => h z (List.mem_cons_of_mem _ hz)
    obtain ⟨g1, g2, g3⟩ := dl_str (K := K) (H := H) (m := 0) (h y List.mem_cons_self)
    exact ⟨.cons g1 h1, by rw [List.map_cons, PyData.canLayAll0, g2, h2]; rfl, by rw [List.map_cons, PyData.depthAll]; omega⟩
theorem dl_tup {K : PySem.W.Frag} {H : Hp} {b : Addr} {ys : List Str} (e : H b = some (.tup (ys.map V.str))) (h : ∀ y ∈ ys, CpOk y) : DpL K H 1 (.ref b) (.tuple (ys.map PyData.str)) := by
  obtain ⟨h1, h2, h3⟩ := dl_strs (K := K) (H := H) h
  exact ⟨.tup (SqT.of e) h1, by rw [PyData.canLay0]; exact h2, by rw [PyData.depth]; omega⟩
theorem dl_outs {K : PySem.W.Frag} {H : Hp} : ∀ {ts : List V} {ps : List (List Str)}, Gn.Outs H ts ps → (∀ p ∈ ps, ∀ y ∈ p, CpOk y) → DpAll K H ts (ps.map fun p => PyData.tuple (p.map PyData.str)) ∧ PyData.canLayAll0 (ps.map fun p => PyData.tuple (p.map PyData.str)) = true ∧ PyData.depthAll (ps.map fun p => PyData.tuple (p.map PyData.str)) ≤ 1
  | _, _, .nil, _ => ⟨.nil, rfl, by simp [PyData.depthAll]⟩
  | _, _, .cons ⟨t, et, e⟩ r, h => by
    subst et
    obtain ⟨h1, h2, h3⟩ := dl_outs (K := K) r fun p hp => h p (List.mem_cons_of_mem _ hp)
    obtain ⟨g1, g2, g3⟩ := dl_tup (K := K) e (h _ List.mem_cons_self)
    exact ⟨.cons g1 h1, by rw [List.map_cons, PyData.canLayAll0, g2, h2]; rfl, by rw [List.map_cons, PyData.depthAll]; omega⟩
/-- what both lists are -/
def lookD (e1 e2 e3 : Bool) (y : Str) (k : Int) (ns : List Str) (ps : List (List Str)) : PyData :=
  .list [.bool e1, .bool e2, .bool e3, .str y, .int k, .tuple (ns.map PyData.str), .list (ps.map fun p => PyData.tuple (p.map PyData.str))]
theorem look_dp {K : PySem.W.Frag} {H : Hp} {R tq pl : Addr} {e1 e2 e3 : Bool} {y : Str} {k : Int} {ns : List Str} {ps : List (List Str)} {ts : List V} (hR : H R = some (.lst [.bl e1, .bl e2, .bl e3, .str y, .int k, .ref tq, .ref pl])) (hy : CpOk y) (ht : H tq = some (.tup (ns.map V.str)))
    (hn : ∀ x ∈ ns, CpOk x) (hl : H pl = some (.lst ts)) (ho : Gn.Outs H ts ps) (hp : ∀ p ∈ ps, ∀ x ∈ p, CpOk x) : Dp K H (.ref R) (lookD e1 e2 e3 y k ns ps) ∧ (lookD e1 e2 e3 y k ns ps).canLay0 = true ∧ (lookD e1 e2 e3 y k ns ps).depth ≤ 8 := by
  obtain ⟨a1, a2, a3⟩ := dl_str (K := K) (H := H) (m := 0) hy
  obtain ⟨b1, b2, b3⟩ := dl_tup (K := K) ht hn
  obtain ⟨c1, c2, c3⟩ := dl_outs (K := K) ho hp
  refine ⟨.lst (SqL.of hR) (.cons (.bl _) (.cons (.bl _) (.cons (.bl _) (.cons a1 (.cons (.int _) (.cons b1 (.cons (.lst (SqL.of hl) c1) .nil))))))), ?_, ?_⟩
  · unfold lookD
    rw [PyData.canLay0]
    simp only [PyData.canLayAll0, PyData.canLay0] at a2 b2 c2 ⊢
    simp only [a2, b2, c2]
    rfl
  · unfold lookD
    rw [PyData.depth]
    simp only [PyData.depthAll, PyData.depth] at a3 b3 c3 ⊢
    omega
/-- looked at twice: alike -/
theorem look_two {K : PySem.W.Frag} {H H1 : Hp} {n : Nat} {fs gs : List (Str × T)} {tq R S : Addr} {ns : List Str} {ps : List (List Str)} {xs zs : List V} (l1 : LookV n fs gs tq ps xs H1) (sm : Same H1 H) (l2 : LookV n fs gs tq ps zs H) (hm : GrT.Sm (n + 1) (.fds fs) (.fds fs)) (bd : Bd (n + 1) (.fds fs))
    (e1 : H R = some (.lst xs)) (e2 : H S = some (.lst zs)) (ht : H tq = some (.tup (ns.map V.str))) (hn : ∀ x ∈ ns, CpOk x) (hp : ∀ p ∈ ps, ∀ x ∈ p, CpOk x) :
    ∃ d, Dp K H (.ref R) d ∧ Dp K H (.ref S) d ∧ SeqAt.shaped d = true ∧ PyData.eqv d d = true := by
  obtain ⟨a1, a2, y, pl, ts, rfl, i1, i2, t1, h1, o1⟩ := l1
  obtain ⟨b1, b2, y2, pl2, ts2, rfl, j1, j2, t2, h2, o2⟩ := l2
  have ey : y = y2 := Tx.one t1 t2 hm
  have ea : a1 = b1 := Bool.eq_iff_iff.mpr (i1.trans j1.symm)
  have eb : a2 = b2 := Bool.eq_iff_iff.mpr (i2.trans j2.symm)
  subst ey ea eb
  obtain ⟨g1, g2, g3⟩ := look_dp (K := K) e1 (Tx.cp t1 bd) ht hn (sm _ _ h1) (o1.same sm) hp
  obtain ⟨f1, _, _⟩ := look_dp (K := K) e2 (Tx.cp t2 bd) ht hn h2 o2 hp
  refine ⟨_, g1, f1, ?_, SeqAt.eqv_refl _ g2⟩
  unfold SeqAt.shaped
  rw [g2, Bool.true_and]
  exact decide_eq_true (by omega)
end Lw
/-! _law_called. -/
namespace Lw
open PySem PySem.Spec PyProof.Rows L2 GrT GrOwn GrMg
theorem PlT.at {ps : List Str} {n : Nat} {fs : List (Str × T)} (h : PlT ps (n + 1) (.fds fs)) : ∀ p ∈ fs, p.1 ∈ ps ∧ PlT ps n p.2 := by
  rcases h with ⟨i, e, _⟩ | ⟨gs, e, h⟩
  · cases e
  · cases e
    exact h
theorem PlT.up {ps : List Str} : ∀ {n : Nat} {t : T}, PlT ps n t → PlT ps (n + 1) t
  | 0, t, h => .inl h
  | n + 1, t, h => by
    rcases h with h | ⟨fs, e, h⟩
    · exact .inl h
    · exact .inr ⟨fs, e, fun p hp => ⟨(h p hp).1, (h p hp).2.up⟩⟩
theorem rc_up {S : Addr → Prop} {C : Addr} {H : Hp} : ∀ {n : Nat} {v : V} {t : T}, Rc S C H n v t → Rc S C H (n + 1) v t
  | 0, v, t, h => .inl h
  | n + 1, v, t, h => by
    rcases h with h | ⟨a, l, fs, e1, e2, e3, e4, e5, e6⟩
    · exact .inl h
    · exact .inr ⟨a, l, fs, e1, e2, e3, e4, e5, fun x v u q1 q2 => rc_up (e6 x v u q1 q2)⟩
/-- no deeper than the record -/
theorem pl_deep {S : Addr → Prop} {C : Addr} {H : Hp} {ps : List Str} : ∀ {n m : Nat} {v : V} {t : T}, PlT ps m t → Rc S C H n v t → PlT ps n t
  | 0, m, v, t, h, r => by
    obtain ⟨i, _, rfl⟩ := r
    cases m with
    | zero => exact h
    | succ m =>
      rcases h with h | ⟨_, e, _⟩
      · exact h
      · cases e
  | n + 1, m, v, t, h, r => by
    cases m with
    | zero => exact .inl h
    | succ m =>
      rcases h with h | ⟨fs, e, h⟩
      · exact .inl h
      · subst e
        obtain ⟨a, rfl⟩ := Gn.rc_ref r
        obtain ⟨l, ra, wf, pm, ch⟩ := Gn.rc_out r
        refine .inr ⟨fs, rfl, fun p hp => ⟨(h p hp).1, ?_⟩⟩
        obtain ⟨v, hv⟩ := look_some (pm.mem_iff.mpr (List.mem_map.mpr ⟨p, hp, rfl⟩))
        exact pl_deep (h p hp).2 (ch p.1 v p.2 hv (mem_look wf.nd hp))
theorem nd_len : ∀ {xs ps : List Str}, xs.Nodup → (∀ x ∈ xs, x ∈ ps) → xs.length ≤ ps.length
  | [], _, _, _ => Nat.zero_le _
  | x :: r, ps, nd, h => by
    have nd' := List.nodup_cons.mp nd
    have hx := h x List.mem_cons_self
    have ih := nd_len (xs := r) (ps := ps.erase x) nd'.2 fun y hy => (List.mem_erase_of_ne (fun e => nd'.1 (by rw [← e]; exact hy))).mpr (h y (List.mem_cons_of_mem _ hy))
    have e := List.length_erase_of_mem hx
    have pos : 0 < ps.length := List.length_pos_of_mem hx
    rw [List.length_cons]
    omega
theorem pl_len {ps : List Str} {fs : List (Str × T)} (nd : (names fs).Nodup) (h : ∀ p ∈ fs, p.1 ∈ ps) : fs.length ≤ ps.length := by
  have h1 := nd_len (ps := ps) nd fun x hx => by
    obtain ⟨p, hp, rfl⟩ := List.mem_map.mp hx
    exact h p hp
  rwa [List.length_map] at h1
theorem bd_of {S : Addr → Prop} {C : Addr} {H : Hp} {ps : List Str} (hl : ps.length ≤ 7) (hg : ∀ x ∈ ps, Good x) : ∀ {n : Nat} {v : V} {t : T}, PlT ps n t → Rc S C H n v t → Bd n t
  | 0, v, t, h, r => h
  | n + 1, v, t, h, r => by
    rcases h with h | ⟨fs, e, h⟩
    · exact .inl h
    · subst e
      obtain ⟨a, rfl⟩ := Gn.rc_ref r
      obtain ⟨l, ra, wf, pm, ch⟩ := Gn.rc_out r
      refine .inr ⟨fs, rfl, Nat.le_trans (pl_len wf.nd fun p hp => (h p hp).1) hl, fun p hp => hg _ (h p hp).1, fun p hp => ?_⟩
      obtain ⟨v, hv⟩ := look_some (pm.mem_iff.mpr (List.mem_map.mpr ⟨p, hp, rfl⟩))
      exact bd_of hl hg (h p hp).2 (ch p.1 v p.2 hv (mem_look wf.nd hp))
theorem pl_unite {Q : Str × T → Prop} : ∀ {gs fs : List (Str × T)}, (∀ p ∈ fs, Q p) → (∀ p ∈ gs, Q p) → ∀ p ∈ unite fs gs, Q p
  | [], fs, h, _ => h
  | q :: r, fs, h, k => by
    refine pl_unite (gs := r) (fs := put q.1 q.2 fs) (fun p hp => ?_) fun p hp => k p (List.mem_cons_of_mem _ hp)
    rcases mem_put hp with e | e
    · rw [e]
      exact k q List.mem_cons_self
    · exact h p e
end Lw
/-! _law_called. -/
namespace Lw
open PySem PySem.Spec PyProof.Rows L2 GrT GrOwn GrMg
theorem tape_same {H H' : Hp} {p : Addr} (t : Tape H p) (s : Same H H') : Tape H' p := by
  obtain ⟨z, f1, f2⟩ := t
  exact ⟨z, s _ _ f1, f2⟩
abbrev sCalled : Stmt := top 30
def spCalled (C : Addr) (n : Nat) : Sp := fun vs H Q _ => ∃ (p W a b : Addr) (ps : List Str) (fs gs : List (Str × T)), vs = [.ref p, .ref W, .ref a, .ref b] ∧ Tape H p ∧ W ≠ p ∧ H W = some (.lst (ps.map V.str)) ∧ 0 < ps.length ∧ ps.length ≤ 6 ∧ (∀ x ∈ ps, Good x) ∧
  Rc All C H n (.ref a) (.fds fs) ∧ Rc All C H n (.ref b) (.fds gs) ∧ PlT ps n (.fds fs) ∧ PlT ps n (.fds gs) ∧ ∀ r hs H', Rc All C H' (n + 1) (.ref r) (.fds hs) → PlT ps (n + 1) (.fds hs) → Fx p H H' → Tape H' p → Q (.ref r) H'
def tEqI (i : Nat) (k : Int) : TT := tTest (tOp rEq (tVar i) (tC (.int k)))
def tbCalled (C CS CN CB CT : Addr) (n : Nat) (W : WX) : TS :=
  tSeq (tIfS (tEqI 4 0) (tRet (tBinX C (spOr C n) (fun _ => E0) (tVar 2) (tVar 3))) tNext)
  (tSeq (tIfS (tEqI 4 1) (tRet (tBinX C (spAdd C CS n) (WE W) (tVar 2) (tVar 3))) tNext)
  (tSeq (tIfS (tEqI 4 2) (tRet (tBinX C (spPart C n false) (fun _ => E0) (tVar 2) (tVar 3))) tNext)
  (tSeq (tIfS (tEqI 4 3) (tRet (tBinX C (spPart C n true) (fun _ => E0) (tVar 2) (tVar 3))) tNext)
  (tSeq (tIfS (tEqI 4 4) (tRet (tMethX C "put" (spPut C CB n) (WE W) (tVar 2) (tCons (tVar 5) (tCons (tVar 3) tNil)))) tNext)
  (tSeq (tIfS (tEqI 4 5) (tRet (tMethX C "put" (spPut C CB n) (WE W) (tVar 2) (tCons (tVar 5) (tCons (tCall spNumber [] E0 (tCons (tVar 0) tNil)) tNil)))) tNext)
  (tSeq (tIfS (tEqI 4 6) (tRet (tMethX C "renamed" (spRen C CN CB CT n) (WE W) (tVar 2) (tCons (tVar 5) (tCons (tCall spPick [] E0 (tCons (tVar 0) (tCons (tVar 1) tNil))) tNil)))) tNext)
  (tRet (tMethR C "without" (spFew C n false) E0 (tVar 2) (tCons (tVar 5) tNil)))))))))
section
variable {P : Program} {w : World} {K : PySem.W.Frag} {mg : Str → Option Value} {base : Heap} {C CN CB CT CS RE : Addr}
theorem scCalled : FnScope ["tape", "names", "r", "s", "choice", "name"] ["tape", "names", "r", "s"] (defScope sCalled) := ⟨rfl, rfl, rfl, by decide +kernel, rfl, by decide +kernel, by decide +kernel⟩
theorem c_called {n ko ka kb kc kp kr kw kk : Nat} (T : Bu mg) (R : RecK K mg C) (sf : PySem.W.selfFirst K C = true) (mgR : mg "RecordsError" = some (.ref RE)) (tS : PySem.W.exmOne K (.ref CS) (.ref RE) = some true) (tN : PySem.W.exmOne K (.ref CN) (.ref RE) = some true) (tT : PySem.W.exmOne K (.ref CT) (.ref RE) = some true)
    (c_take : Cal P w K mg base 1 "_law_take" spTake) (c_pick : Cal P w K mg base 2 "_law_pick" spPick) (c_number : Cal P w K mg base 2 "_law_number" spNumber)
    (m_or : MthX P w K mg base CX0 C ko "__or__" (spOr C n)) (m_add : MthX P w K mg base (L2.CX P w) C ka "__add__" (spAdd C CS n)) (m_sub : MthX P w K mg base CX0 C kb "__sub__" (spPart C n false)) (m_and : MthX P w K mg base CX0 C kc "__and__" (spPart C n true))
    (m_put : MthK P w K mg base (L2.CX P w) C kp "put" (spPut C CB n)) (m_ren : MthK P w K mg base (L2.CX P w) C kr "renamed" (spRen C CN CB CT n)) (m_wo : MthR P w K mg base CX0 C kw "without" (spFew C n false))
    (D : Dfn K mg "_law_called" sCalled ["tape", "names", "r", "s"]) (h2 : 2 ≤ kk) (ho : ko ≤ kk) (ha : ka ≤ kk) (hb : kb ≤ kk) (hc : kc ≤ kk) (hp : kp ≤ kk) (hrn : kr ≤ kk) (hw : kw ≤ kk) : Cal P w K mg base (kk + 1) "_law_called" (spCalled C n) := by
  refine D.cal scCalled (fun vs H Q E h => ?_) (fun f cdv A outer s H vs Q E hr h => ?_)
  · obtain ⟨p, W, a, b, ps, fs, gs, rfl, _⟩ := h
    rfl
  · obtain ⟨p, W, a, b, ps, fs, gs, rfl, tp, Wp, eW, l0, l6, wg, r1, r2, p1, p2, q⟩ := h
    refine ⟨_, (pss_cons (ps_set (i := 4) scCalled.nd rfl (Or.inl rfl) (pe_c c_take hr (by omega) rfl (pa_cons (pv 0) (pa_cons pe_int pa_nil))))
      (pss_cons (ps_set (i := 5) scCalled.nd rfl (Or.inl rfl) (pe_c c_pick hr h2 rfl (pa_cons (pv 0) (pa_cons (pv 1) pa_nil))))
      (pss_one (ps_try_only (tb := tbCalled C CS CN CB CT n) (ts := fun _ _ _ => tRet (tVar 2)) (Wout := fun _ _ _ _ => False) rfl rfl ⟨rfl, by decide, Or.inl mgR⟩ takes0
        (fun W pn xe tk _ => pss_cons (ps_if (pt_cmpR op_eq (pv 4) pe_int (nomark _)) (pss_one (ps_ret (pe_binX (E := fun _ => E0) m_or d_or sf hr ho (fun σ pins H s e s' I h => pass0 pins σ H s e s' I h) (pv 2) (pv 3)))) pss_nil)
          (pss_cons (ps_if (pt_cmpR op_eq (pv 4) pe_int (nomark _)) (pss_one (ps_ret (pe_binX (E := WE W) m_add d_add sf hr ha (fun σ => passAt tk σ) (pv 2) (pv 3)))) pss_nil)
          (pss_cons (ps_if (pt_cmpR op_eq (pv 4) pe_int (nomark _)) (pss_one (ps_ret (pe_binX (E := fun _ => E0) m_sub d_sub sf hr hb (fun σ pins H s e s' I h => pass0 pins σ H s e s' I h) (pv 2) (pv 3)))) pss_nil)
          (pss_cons (ps_if (pt_cmpR op_eq (pv 4) pe_int (nomark _)) (pss_one (ps_ret (pe_binX (E := fun _ => E0) m_and d_and sf hr hc (fun σ pins H s e s' I h => pass0 pins σ H s e s' I h) (pv 2) (pv 3)))) pss_nil)
          (pss_cons (ps_if (pt_cmpR op_eq (pv 4) pe_int (nomark _)) (pss_one (ps_ret (pe_mKX (E := WE W) R m_put hr hp (fun σ => passAt tk σ) (pv 2) (pa_cons (pv 5) (pa_cons (pv 3) pa_nil))))) pss_nil)
          (pss_cons (ps_if (pt_cmpR op_eq (pv 4) pe_int (nomark _)) (pss_one (ps_ret (pe_mKX (E := WE W) R m_put hr hp (fun σ => passAt tk σ) (pv 2) (pa_cons (pv 5) (pa_cons (pe_c c_number hr h2 rfl (pa_cons (pv 0) pa_nil)) pa_nil))))) pss_nil)
          (pss_cons (ps_if (pt_cmpR op_eq (pv 4) pe_int (nomark _)) (pss_one (ps_ret (pe_mKX (E := WE W) R m_ren hr hrn (fun σ => passAt tk σ) (pv 2) (pa_cons (pv 5) (pa_cons (pe_c c_pick hr h2 rfl (pa_cons (pv 0) (pa_cons (pv 1) pa_nil))) pa_nil))))) pss_nil)
          (pss_one (ps_ret (pe_mR R m_wo hr hw pass0 (pv 2) (pa_cons (pv 5) pa_nil)))))))))))
        (fun a oe cls d pn hz hf => pss_one (ps_ret (pv 2))))))), ?_⟩
    refine ⟨_, rfl, p, 8, rfl, tp, by decide, fun c H1 c0 c1 x1 t1 => ⟨_, rfl, _, rfl, p, W, ps, rfl, t1, Wp, x1 _ _ Wp eW, l0, by omega, fun x H2 hx x2 t2 => ?_⟩⟩
    have x02 := x1.trans x2
    have eW2 := x02 _ _ Wp eW
    have r1n := r1.fx tp x02
    have r2n := r2.fx tp x02
    have r1u := rc_up r1n
    have r2u := rc_up r2n
    have p1u := p1.up
    have p2u := p2.up
    have len1 : fs.length ≤ 6 := Nat.le_trans (pl_len (Gn.rc_out r1u).choose_spec.2.1.nd fun p hp => (p1u.at p hp).1) l6
    have len2 : gs.length ≤ 6 := Nat.le_trans (pl_len (Gn.rc_out r2u).choose_spec.2.1.nd fun p hp => (p2u.at p hp).1) l6
    obtain ⟨l, ⟨⟨dx, tq, d1, _, ea, _⟩, _, _⟩, _⟩ := Gn.rc_out r1u
    obtain ⟨m, ⟨⟨dy, tr, d2, _, eb, _⟩, _, _⟩, _⟩ := Gn.rc_out r2u
    have fin : ∀ {H3 H4 : Hp}, Fx p H H3 → Tape H3 p → ∀ r hs, Rc All C H4 (n + 1) (.ref r) (.fds hs) → (∀ z ∈ hs, z.1 ∈ ps ∧ PlT ps n z.2) → Same H3 H4 → Q (.ref r) H4 := fun x3 t3 r hs rr pl s4 =>
      q r hs _ rr (.inr ⟨hs, rfl, pl⟩) (x3.trans (Fx.same s4)) (tape_same t3 s4)
    have exf : ∀ {H3 H4 : Hp}, Fx p H H3 → Tape H3 p → Same H3 H4 → Q (.ref a) H4 := fun x3 t3 s4 => q a fs _ (rc_up ((r1.fx tp x3).same s4)) p1u (x3.trans (Fx.same s4)) (tape_same t3 s4)
    have flp : ∀ (c : Str → Bool), ∀ z ∈ flt c fs, z.1 ∈ ps ∧ PlT ps n z.2 := fun c z hz => p1u.at z (List.mem_filter.mp hz).1
    have unp : ∀ z ∈ unite fs gs, z.1 ∈ ps ∧ PlT ps n z.2 := pl_unite p1u.at p2u.at
    have no : ∀ m : Str, m ≠ "_size" → m ≠ "_fields" → m ≠ "names" → (rf tq d1 (nfs fs)).lookup m = none := fun m h1 h2 h3 => rf_no h1 h2 h3 _ _ _
    obtain ⟨xl, xc⟩ := good_cp (wg x hx)
    refine ⟨_, rfl, rfl, _, rfl, ite2 (fun _ => ?_) (fun _ => ⟨_, rfl, rfl, _, rfl, ite2 (fun _ => ?_) (fun _ => ⟨_, rfl, rfl, _, rfl, ite2 (fun _ => ?_) (fun _ => ⟨_, rfl, rfl, _, rfl, ite2 (fun _ => ?_) (fun _ => ⟨_, rfl, rfl, _, rfl, ite2 (fun _ => ?_) (fun _ => ⟨_, rfl, rfl, _, rfl, ite2 (fun _ => ?_) (fun _ => ⟨_, rfl, rfl, _, rfl, ite2 (fun _ => ?_) (fun _ => ?_)⟩)⟩)⟩)⟩)⟩)⟩)⟩
    · exact ⟨_, rfl, _, rfl, a, dx, _, b, dy, _, rfl, rfl, ea, eb, a, b, fs, gs, rfl, r1u, r2u, by omega, fun r H3 rr s3 => ⟨r, rfl, fin x02 t2 r _ rr unp s3⟩⟩
    · exact ⟨_, rfl, _, rfl, a, dx, _, b, dy, _, rfl, rfl, ea, eb, a, b, fs, gs, rfl, r1u, r2u, by omega, fun ys pm so cm r H3 rr s3 => ⟨r, rfl, fin x02 t2 r _ rr unp s3⟩,
        fun ys z pm so cm d H3 hd s3 => ⟨true, tS, fun _ e he => ⟨_, rfl, exf x02 t2 s3⟩, fun h => by cases h⟩⟩
    · exact ⟨_, rfl, _, rfl, a, dx, _, b, dy, _, rfl, rfl, ea, eb, a, b, fs, gs, rfl, r1u, r2u, fun r H3 rr s3 => ⟨r, rfl, fin x02 t2 r _ rr (flp _) s3⟩⟩
    · exact ⟨_, rfl, _, rfl, a, dx, _, b, dy, _, rfl, rfl, ea, eb, a, b, fs, gs, rfl, r1u, r2u, fun r H3 rr s3 => ⟨r, rfl, fin x02 t2 r _ rr (flp _) s3⟩⟩
    · refine ⟨_, rfl, a, dx, _, rfl, ea, no _ (by decide) (by decide) (by decide), _, rfl, _, rfl, a, fs, x, .ref b, .fds gs, rfl, r1u, r2n, by omega, xl, xc, fun g r H3 rr s3 => fin x02 t2 r _ rr (fun z hz => ?_) s3, fun g => absurd (wg x hx) g⟩
      rcases mem_put hz with e | e
      · rw [e]
        exact ⟨hx, p2⟩
      · exact p1u.at z e
    · refine ⟨_, rfl, a, dx, _, rfl, ea, no _ (by decide) (by decide) (by decide), _, rfl, _, rfl, p, rfl, t2, fun i H3 i0 i1 x3 t3 => ?_⟩
      have r1w := rc_up (r1n.fx t2 x3)
      refine ⟨a, fs, x, .int i, .int i, rfl, r1w, Rc.int i, by omega, xl, xc, fun g r H4 rr s4 => fin (x02.trans x3) t3 r _ rr (fun z hz => ?_) s4, fun g => absurd (wg x hx) g⟩
      rcases mem_put hz with e | e
      · rw [e]
        refine ⟨hx, ?_⟩
        have hi : i.natAbs < 2 ^ 100 := by omega
        cases n with
        | zero => exact ⟨i, rfl, hi⟩
        | succ n => exact .inl ⟨i, rfl, hi⟩
      · exact p1u.at z e
    · refine ⟨_, rfl, a, dx, _, rfl, ea, no _ (by decide) (by decide) (by decide), _, rfl, _, rfl, _, rfl, p, W, ps, rfl, t2, Wp, eW2, l0, by omega, fun y H3 hy x3 t3 => ?_⟩
      have r1w := rc_up (r1n.fx t2 x3)
      obtain ⟨yl, yc⟩ := good_cp (wg y hy)
      have x03 := x02.trans x3
      refine ⟨a, fs, x, y, rfl, r1w, xl, xc, yl, yc, fun g d H4 hd s4 => ⟨true, tN, fun _ e he => ⟨_, rfl, exf x03 t3 s4⟩, fun h => by cases h⟩, fun t g1 g => absurd (wg y hy) g,
        fun t g1 g g2 d H4 hd s4 => ⟨true, tT, fun _ e he => ⟨_, rfl, exf x03 t3 s4⟩, fun h => by cases h⟩, fun t g1 g g2 r H4 rr s4 => fin x03 t3 r _ rr (fun z hz => ?_) s4⟩
      rcases List.mem_append.mp hz with e | e
      · exact flp _ z e
      · rw [List.mem_singleton.mp e]
        exact ⟨hy, (p1u.at (x, t) (look_mem g1)).2⟩
    · exact ⟨_, rfl, a, dx, _, rfl, ea, no _ (by decide) (by decide) (by decide), _, rfl, a, fs, [x], rfl, by show 1 ≤ 1000; decide, r1u, fun r H3 rr s3 => fin x02 t2 r _ rr (flp _) s3⟩
end
end Lw
/-! What is kept of a record: itself, its plain form, its text. -/
namespace Lw
open PySem PySem.Spec PyProof.Rows L2 GrT GrOwn GrMg Qd Ra
/-- v is a record, D its plain form, Y its text -/
def Kp (C : Addr) (ps : List Str) (H : Hp) (v D Y : V) : Prop :=
  ∃ (a : Addr) (fs : List (Str × T)) (t : T) (y : Str), v = .ref a ∧ Y = .str y ∧ Rc All C H 10 (.ref a) (.fds fs) ∧ PlT ps 10 (.fds fs) ∧ nfs fs ≤ 60 ∧ Tr All H 40 11 D t ∧ GrT.Sm 11 t (.fds fs) ∧ Tx 10 (.fds fs) y
theorem Kp.keep {C : Addr} {ps : List Str} {H H' : Hp} {v D Y : V} (h : Kp C ps H v D Y) (k : ∀ b o, H b = some o → Ro o → H' b = some o) : Kp C ps H' v D Y := by
  obtain ⟨a, fs, t, y, e1, e2, h1, h2, h3, h4, h5, h6⟩ := h
  exact ⟨a, fs, t, y, e1, e2, h1.keep fun b o _ e r => k b o e r, h2, h3, h4.keep fun b kvs _ e => k b _ e True.intro, h5, h6⟩
theorem Kp.same {C : Addr} {ps : List Str} {H H' : Hp} {v D Y : V} (h : Kp C ps H v D Y) (s : Same H H') : Kp C ps H' v D Y := h.keep fun b o e _ => s b o e
/-- a list is replaced: nothing is lost of what is kept -/
theorem Kp.lst {C : Addr} {ps : List Str} {H : Hp} {v D Y : V} {R : Addr} {xs ys : List V} (h : Kp C ps H v D Y) (e : H R = some (.lst xs)) : Kp C ps (upd H R (.lst ys)) v D Y := h.keep fun b o h1 r => by
  by_cases z : b = R
  · rw [z, e] at h1
    cases h1
    cases r
  · rw [upd_ne z]
    exact h1
/-- for what _law_told asks -/
theorem Kp.told {C : Addr} {ps : List Str} {H : Hp} {v D Y : V} (h : Kp C ps H v D Y) : ∃ (a : Addr) (t : T), v = .ref a ∧ Rc All C H 11 (.ref a) t ∧ Tr All H 40 11 D t := by
  obtain ⟨a, fs, t, y, e1, e2, h1, h2, h3, h4, h5, h6⟩ := h
  exact ⟨a, t, e1, (rc_up h1).sim (Lw.Sm.symm h5), h4⟩
/-- three lists side by side -/
structure Iv (C : Addr) (ps : List Str) (H : Hp) (rs ks ts : List V) : Prop where
  lk : ks.length = rs.length
  lt : ts.length = rs.length
  lo : 1 ≤ rs.length
  hi : rs.length ≤ 40
  at' : ∀ (i : Nat) (v D Y : V), rs[i]? = some v → ks[i]? = some D → ts[i]? = some Y → Kp C ps H v D Y
theorem Iv.imp {C : Addr} {ps : List Str} {H H' : Hp} {rs ks ts : List V} (h : Iv C ps H rs ks ts) (k : ∀ v D Y, Kp C ps H v D Y → Kp C ps H' v D Y) : Iv C ps H' rs ks ts :=
  ⟨h.lk, h.lt, h.lo, h.hi, fun i v D Y e1 e2 e3 => k _ _ _ (h.at' i v D Y e1 e2 e3)⟩
theorem Iv.get {C : Addr} {ps : List Str} {H : Hp} {rs ks ts : List V} (h : Iv C ps H rs ks ts) {i : Nat} (hi : i < rs.length) : ∃ v D Y, rs[i]? = some v ∧ ks[i]? = some D ∧ ts[i]? = some Y ∧ Kp C ps H v D Y := by
  have e1 := List.getElem?_eq_getElem hi
  have e2 := List.getElem?_eq_getElem (l := ks) (i := i) (by rw [h.lk]; exact hi)
  have e3 := List.getElem?_eq_getElem (l := ts) (i := i) (by rw [h.lt]; exact hi)
  exact ⟨_, _, _, e1, e2, e3, h.at' i _ _ _ e1 e2 e3⟩
theorem Iv.snoc {C : Addr} {ps : List Str} {H : Hp} {rs ks ts : List V} {v D Y : V} (h : Iv C ps H rs ks ts) (hl : rs.length < 40) (k : Kp C ps H v D Y) : Iv C ps H (rs ++ [v]) (ks ++ [D]) (ts ++ [Y]) := by
  have g : ∀ {l : List V} {x y : V} {i : Nat}, (l ++ [x])[i]? = some y → l[i]? = some y ∨ (i = l.length ∧ y = x) := fun {l x y i} e => by
    by_cases hi : i < l.length
    · rw [List.getElem?_append_left hi] at e
      exact .inl e
    · rw [List.getElem?_append_right (Nat.le_of_not_lt hi)] at e
      by_cases z : i - l.length = 0
      · rw [z] at e
        exact .inr ⟨by omega, (Option.some.inj e).symm⟩
      · rw [List.getElem?_eq_none (by rw [List.length_singleton]; omega)] at e
        cases e
  have q : ∀ {l : List V} {y : V} {i : Nat}, l[i]? = some y → i < l.length := fun e => (List.getElem?_eq_some_iff.mp e).1
  have lk := h.lk
  have lt := h.lt
  refine ⟨by rw [List.length_append, List.length_append, lk]; rfl, by rw [List.length_append, List.length_append, lt]; rfl, by rw [List.length_append]; exact Nat.le_add_left _ _, by rw [List.length_append]; exact hl, fun i v' D' Y' e1 e2 e3 => ?_⟩
  rcases g e1 with a1 | ⟨b1, c1⟩
  · have := q a1
    rcases g e2 with a2 | ⟨b2, _⟩
    · rcases g e3 with a3 | ⟨b3, _⟩
      · exact h.at' i _ _ _ a1 a2 a3
      · omega
    · omega
  · rcases g e2 with a2 | ⟨b2, c2⟩
    · have := q a2
      omega
    · rcases g e3 with a3 | ⟨b3, c3⟩
      · have := q a3
        omega
      · rw [c1, c2, c3]
        exact k
end Lw
/-! Small facts for the law's reading. -/
namespace Lw
open PySem PySem.Spec PyProof.Rows L2 GrT GrOwn GrMg Qd Ra
theorem Fx.fresh {p : Addr} {H H1 H2 : Hp} (h : H p = none) (s : Same H H1) (x : Fx p H1 H2) : Same H H2 := fun b o e => x b o (fun z => by
  rw [z, h] at e
  cases e) (s b o e)
theorem Tr.out2 {S : Addr → Prop} {H : Hp} {L n : Nat} {v : V} {fs : List (Str × T)} (h : Tr S H L n v (.fds fs)) : ∃ k a l, n = k + 1 ∧ v = .ref a ∧ S a ∧ H a = some (.dK (dk l)) :=
  h.cases (fun i _ e => by cases e) fun k a l fs' en e1 e2 sa ea wf al => ⟨k, a, l, en, e1, sa, ea⟩
theorem cutV_mem {xs : List V} {lo hi : Option Int} {x : V} (h : x ∈ cutV xs lo hi) : x ∈ xs := by
  unfold cutV at h
  exact List.mem_of_mem_drop (List.mem_of_mem_take h)
theorem rc_le {S : Addr → Prop} {C : Addr} {H : Hp} {n m : Nat} {v : V} {t : T} (h : Rc S C H n v t) (k : n ≤ m) : Rc S C H m v t := by
  induction k with
  | refl => exact h
  | step _ ih => exact rc_up ih
theorem pl_le {ps : List Str} {n m : Nat} {t : T} (h : PlT ps n t) (k : n ≤ m) : PlT ps m t := by
  induction k with
  | refl => exact h
  | step _ ih => exact ih.up
theorem tr_al {S : Addr → Prop} {H : Hp} {L n : Nat} {v : V} {fs : List (Str × T)} (h : Tr S H L (n + 1) v (.fds fs)) : fs.length ≤ L ∧ ∀ p ∈ fs, ∃ u, Tr S H L n u p.2 :=
  h.cases (fun i _ e => by cases e) fun k a l fs' en e1 e2 sa ea wf al => by
    cases en
    cases e2
    refine ⟨wf.ln, fun p hp => ?_⟩
    obtain ⟨v, _, r⟩ := al.get (mem_look wf.nd hp)
    exact ⟨v, r⟩
theorem sum_leI {α : Type} {f : α → Int} {c : Int} : ∀ {l : List α}, (∀ x ∈ l, f x ≤ c) → (l.map f).sum ≤ l.length * c
  | [], _ => by simp
  | x :: r, h => by
    have h1 := h x List.mem_cons_self
    have h2 := sum_leI (l := r) fun y hy => h y (List.mem_cons_of_mem _ hy)
    rw [List.map_cons, List.sum_cons, List.length_cons]
    have e : ((r.length + 1 : Nat) : Int) * c = r.length * c + c := by
      rw [Int.natCast_add, Int.add_mul]
      simp
    omega
theorem nf_small {S : Addr → Prop} {H : Hp} {v : V} {fs : List (Str × T)} (h : Tr S H 6 2 v (.fds fs)) : nfs fs ≤ 42 := by
  obtain ⟨l1, h1⟩ := tr_al h
  rw [nfs_sum]
  have := sum_leI (f := fun p : Str × T => 1 + nf p.2) (c := 7) (l := fs) fun p hp => by
    obtain ⟨u, r⟩ := h1 p hp
    generalize p.2 = t at r
    cases t with
    | int i => rw [nf]; decide
    | fds gs =>
      obtain ⟨l2, h2⟩ := tr_al r
      rw [nf, nfs_sum]
      have := sum_leI (f := fun p : Str × T => 1 + nf p.2) (c := 1) (l := gs) fun q hq => by
        obtain ⟨u', r'⟩ := h2 q hq
        obtain ⟨i, _, e⟩ := r'
        rw [e, nf]
        decide
      omega
  omega
theorem sm_up : ∀ {n : Nat} {t u : T}, GrT.Sm n t u → GrT.Sm (n + 1) t u
  | 0, t, u, h => .inl h
  | n + 1, t, u, h => by
    rcases h with h | ⟨fs, gs, e1, e2, nd, pm, ch⟩
    · exact .inl h
    · exact .inr ⟨fs, gs, e1, e2, nd, pm, fun x v w h1 h2 => sm_up (ch x v w h1 h2)⟩
theorem sm_le {n m : Nat} {t u : T} (h : GrT.Sm n t u) (k : n ≤ m) : GrT.Sm m t u := by
  induction k with
  | refl => exact h
  | step _ ih => exact sm_up ih
theorem pl_sim {ps : List Str} : ∀ {n : Nat} {t u : T}, PlT ps n t → GrT.Sm n t u → PlT ps n u
  | 0, t, u, h, ⟨i, e1, e2⟩ => by
    subst e1 e2
    exact h
  | n + 1, t, u, h, s => by
    rcases s with ⟨i, e1, e2⟩ | ⟨fs, gs, e1, e2, nd, pm, ch⟩
    · subst e1 e2
      exact h
    · subst e1 e2
      have h' := PlT.at h
      refine .inr ⟨gs, rfl, fun q hq => ?_⟩
      have ndg : (names gs).Nodup := pm.nodup_iff.mp nd
      obtain ⟨p, hp, e⟩ := List.mem_map.mp (pm.mem_iff.mpr (List.mem_map.mpr ⟨q, hq, rfl⟩))
      have l1 : look q.1 fs = some p.2 := by
        rw [← e]
        exact mem_look nd hp
      exact ⟨by rw [← e]; exact (h' p hp).1, pl_sim (h' p hp).2 (ch q.1 p.2 q.2 l1 (mem_look ndg hq))⟩
theorem at_mod {xs : List V} {z : Int} (h : 0 < xs.length) : ∃ (j : Nat) (v : V), xs[j]? = some v ∧ atI xs (z % (xs.length : Int)) = some v := by
  have h0 : (0 : Int) < xs.length := by omega
  have h1 := Int.emod_nonneg z (by omega : (xs.length : Int) ≠ 0)
  have h2 := Int.emod_lt_of_pos z h0
  obtain ⟨j, hj⟩ : ∃ j : Nat, z % (xs.length : Int) = (j : Int) := ⟨(z % (xs.length : Int)).toNat, by omega⟩
  have hl : j < xs.length := by omega
  exact ⟨j, xs[j], List.getElem?_eq_getElem hl, by rw [hj]; exact atI_nat (List.getElem?_eq_getElem hl)⟩
theorem Kp.fx {C : Addr} {ps : List Str} {H H' : Hp} {p : Addr} {v D Y : V} (h : Kp C ps H v D Y) (t : Tape H p) (x : Fx p H H') : Kp C ps H' v D Y := h.keep fun b o e r => x b o (fun z => by
  obtain ⟨_, e2, _⟩ := t
  rw [z, e2] at e
  cases e
  cases r) e
theorem Iv.fx {C : Addr} {ps : List Str} {H H' : Hp} {p : Addr} {rs ks ts : List V} (h : Iv C ps H rs ks ts) (t : Tape H p) (x : Fx p H H') : Iv C ps H' rs ks ts := h.imp fun _ _ _ k => k.fx t x
theorem Iv.same {C : Addr} {ps : List Str} {H H' : Hp} {rs ks ts : List V} (h : Iv C ps H rs ks ts) (s : Same H H') : Iv C ps H' rs ks ts := h.imp fun _ _ _ k => k.same s
theorem Iv.lst {C : Addr} {ps : List Str} {H : Hp} {rs ks ts : List V} {R : Addr} {xs ys : List V} (h : Iv C ps H rs ks ts) (e : H R = some (.lst xs)) : Iv C ps (upd H R (.lst ys)) rs ks ts := h.imp fun _ _ _ k => k.lst e
theorem Pt.keep {C : Addr} {H H' : Hp} (k : ∀ b o, H b = some o → Ro o → H' b = some o) : ∀ {n : Nat} {v : V} {ps : List (List Str)}, Gn.Pt C H n v ps → Gn.Pt C H' n v ps
  | 0, _, _, h => h
  | n + 1, v, ps, ⟨a, l, z, e, r, hl, rows⟩ => ⟨a, l, z, e, r.keep fun b o _ q ro => k b o q ro, hl, rows.imp fun _ _ q => Pt.keep k q⟩
/-- what stands in a path -/
theorem rows_cp {R : V → List (List Str) → Prop} : ∀ {l : List (Str × V)} {ps : List (List Str)}, Gn.RowsR R l ps → (∀ p ∈ l, CpOk p.1 ∧ ∀ qs, R p.2 qs → ∀ q ∈ qs, ∀ x ∈ q, CpOk x) → ∀ q ∈ ps, ∀ x ∈ q, CpOk x
  | _, _, .nil, _ => fun q hq => by cases hq
  | _, _, .int r, h => fun q hq x hx => by
    rcases List.mem_cons.mp hq with e | e
    · subst e
      rw [List.mem_singleton.mp hx]
      exact (h _ List.mem_cons_self).1
    · exact rows_cp r (fun p hp => h p (List.mem_cons_of_mem _ hp)) q e x hx
  | _, _, .sub hs r, h => fun q hq x hx => by
    have hh := h _ List.mem_cons_self
    rcases List.mem_cons.mp hq with e | e
    · subst e
      rw [List.mem_singleton.mp hx]
      exact hh.1
    · rcases List.mem_append.mp e with e | e
      · obtain ⟨q', hq', rfl⟩ := List.mem_map.mp e
        rcases List.mem_cons.mp hx with z | z
        · rw [z]
          exact hh.1
        · exact hh.2 _ hs q' hq' x z
      · exact rows_cp r (fun p hp => h p (List.mem_cons_of_mem _ hp)) q e x hx
theorem rc_names {S : Addr → Prop} {C : Addr} {H : Hp} {n : Nat} {a : Addr} {fs : List (Str × T)} (h : Rc S C H (n + 1) (.ref a) (.fds fs)) {l : List (Str × V)} {z : Int} (r : RA All C H a l z) : ∀ y ∈ names l, Good y := fun y hy => by
  obtain ⟨l', r', wf, pm, _⟩ := Gn.rc_out h
  have e : names l = names l' := by
    obtain ⟨⟨dx, tp, d, _, e1, e2, _⟩, _, _⟩ := r
    obtain ⟨⟨dx', tp', d', _, f1, f2, _⟩, _, _⟩ := r'
    rw [e1] at f1
    have g := (HO.ins.inj (Option.some.inj f1)).2.2
    have g2 := congrArg (fun l => List.lookup ("names" : Str) l) g
    simp only [rf_names] at g2
    cases g2
    rw [e2] at f2
    have g3 := HO.tup.inj (Option.some.inj f2)
    exact List.map_inj_right (fun x y h => by cases h; rfl) |>.mp g3
  rw [e] at hy
  obtain ⟨p, hp, e⟩ := List.mem_map.mp (pm.mem_iff.mp hy)
  rw [← e]
  exact wf.gd p hp
theorem look_ne {C : Addr} {ws : List Str} {H : Hp} {rs ks ys : List V} {R : Addr} {xs : List V} (iv : Iv C ws H rs ks ys) (e : H R = some (.lst xs)) :
    (xs = rs → ∃ a dx vs, xs.head? = some (.ref a) ∧ H a = some (.ins C dx vs)) ∧ (xs = ks → ∃ a kvs, xs.head? = some (.ref a) ∧ H a = some (.dK kvs)) ∧ (xs = ys → ∃ y, xs.head? = some (.str y)) := by
  obtain ⟨v, D, Y, e1, e2, e3, a, fs, t, y, rfl, rfl, k1, k2, k3, k4, k5, k6⟩ := iv.get (i := 0) (by have := iv.lo; omega)
  refine ⟨fun h => ?_, fun h => ?_, fun h => ?_⟩
  · rw [h, List.head?_eq_getElem?, e1]
    obtain ⟨dx, vs, q⟩ := Rc.ins k1
    exact ⟨a, dx, vs, rfl, q⟩
  · rw [h, List.head?_eq_getElem?, e2]
    obtain ⟨gs, rfl⟩ : ∃ gs, t = .fds gs := by
      rcases k5 with ⟨i, _, z⟩ | ⟨gs, _, z, _⟩
      · cases z
      · exact ⟨gs, z⟩
    obtain ⟨_, b, l, _, rfl, _, q⟩ := Lw.Tr.out2 k4
    exact ⟨b, _, rfl, q⟩
  · rw [h, List.head?_eq_getElem?, e3]
    exact ⟨y, rfl⟩
/-- the lists grow: what was looked at stays -/
theorem look_keep {C : Addr} {ws : List Str} {H H' : Hp} {rs ks ys : List V} {R Z Y M tq : Addr} {xs : List V} {n : Nat} {fs gs : List (Str × T)} {ps : List (List Str)} (iv : Iv C ws H rs ks ys) (eR : H R = some (.lst rs)) (eZ : H Z = some (.lst ks)) (eY : H Y = some (.lst ys))
    (lk : LookV n fs gs tq ps xs H) (eM : H M = some (.lst xs)) (k : ∀ b o, H b = some o → b ≠ R → b ≠ Z → b ≠ Y → H' b = some o) : LookV n fs gs tq ps xs H' ∧ H' M = some (.lst xs) := by
  obtain ⟨e1, e2, y, pl, ts, rfl, i1, i2, t1, h1, o1⟩ := lk
  obtain ⟨n1, n2, n3⟩ := look_ne iv h1
  obtain ⟨m1, m2, m3⟩ := look_ne iv eM
  have same : ∀ {b c : Addr} {us vs : List V}, H b = some (.lst us) → H c = some (.lst vs) → b = c → us = vs := fun e f z => by
    rw [z, f] at e
    exact (HO.lst.inj (Option.some.inj e)).symm
  have tup : ∀ {a : Addr}, ts.head? = some (.ref a) → ∃ us, H a = some (.tup us) := fun {a} h => by
    cases ts with
    | nil => cases h
    | cons t r =>
      cases o1 with
      | cons h1 h2 =>
        obtain ⟨b, e, q⟩ := h1
        cases h
        cases e
        exact ⟨_, q⟩
  have strn : ∀ {a : Str}, ts.head? = some (.str a) → False := fun {a} h => by
    cases ts with
    | nil => cases h
    | cons t r =>
      cases o1 with
      | cons h1 h2 =>
        obtain ⟨b, e, q⟩ := h1
        cases h
        cases e
  refine ⟨⟨e1, e2, y, pl, ts, rfl, i1, i2, t1, k _ _ h1 (fun z => ?_) (fun z => ?_) (fun z => ?_), ?_⟩, k _ _ eM (fun z => ?_) (fun z => ?_) (fun z => ?_)⟩
  · obtain ⟨a, o, _, q1, q2⟩ := n1 (same h1 eR z)
    obtain ⟨us, q3⟩ := tup q1
    rw [q2] at q3
    cases q3
  · obtain ⟨a, o, q1, q2⟩ := n2 (same h1 eZ z)
    obtain ⟨us, q3⟩ := tup q1
    rw [q2] at q3
    cases q3
  · obtain ⟨y, q1⟩ := n3 (same h1 eY z)
    exact strn q1
  · have nt : ∀ {b c : Addr} {us vs : List V}, H b = some (.tup us) → H c = some (.lst vs) → b ≠ c := fun {b c us vs} e f z => by
      rw [z, f] at e
      cases e
    clear tup strn n1 n2 n3 h1
    induction o1 with
    | nil => exact .nil
    | cons q _ ih =>
      obtain ⟨b, e, q⟩ := q
      exact .cons ⟨b, e, k _ _ q (nt q eR) (nt q eZ) (nt q eY)⟩ ih
  · obtain ⟨a, o, _, q1, q2⟩ := m1 (same eM eR z)
    cases q1
  · obtain ⟨a, o, q1, q2⟩ := m2 (same eM eZ z)
    cases q1
  · obtain ⟨y, q1⟩ := m3 (same eM eY z)
    cases q1
/-- behind the call: what is kept, and what was looked at -/
structure Md (C : Addr) (ws : List Str) (R Z Y W q M tb : Addr) (cs xs : List V) (fs gs : List (Str × T)) (ps : List (List Str)) (H0 : Hp) (rs ks ts : List V) (H : Hp) : Prop where
  iv : Iv C ws H rs ks ts
  eR : H R = some (.lst rs)
  eZ : H Z = some (.lst ks)
  eY : H Y = some (.lst ts)
  eW : H W = some (.lst (ws.map V.str))
  eq : H q = some (.lst cs)
  eM : H M = some (.lst xs)
  lk : LookV 9 fs gs tb ps xs H
  kp : ∀ b o, H0 b = some o → Ro o → H b = some o
section
variable {C : Addr} {ws : List Str} {R Z Y W q M tb : Addr} {cs xs : List V} {fs gs : List (Str × T)} {ps : List (List Str)} {H0 : Hp} {rs ks ts : List V} {H H' : Hp}
theorem look_keep0 {n : Nat} (lk : LookV n fs gs tb ps xs H) (s : Same H H') : LookV n fs gs tb ps xs H' := by
  obtain ⟨e1, e2, y, pl, ts, rfl, i1, i2, t1, h1, o1⟩ := lk
  exact ⟨e1, e2, y, pl, ts, rfl, i1, i2, t1, s _ _ h1, o1.same s⟩
theorem Md.same (m : Md C ws R Z Y W q M tb cs xs fs gs ps H0 rs ks ts H) (s : Same H H') : Md C ws R Z Y W q M tb cs xs fs gs ps H0 rs ks ts H' :=
  ⟨m.iv.same s, s _ _ m.eR, s _ _ m.eZ, s _ _ m.eY, s _ _ m.eW, s _ _ m.eq, s _ _ m.eM, look_keep0 m.lk s, fun b o e r => s _ _ (m.kp b o e r)⟩
theorem Md.ro (m : Md C ws R Z Y W q M tb cs xs fs gs ps H0 rs ks ts H) (k : ∀ b o, H b = some o → b ≠ R → b ≠ Z → b ≠ Y → H' b = some o) (b : Addr) (o : HO) (e : H b = some o) (r : Ro o) : H' b = some o :=
  k b o e (fun z => by rw [z, m.eR] at e; cases e; cases r) (fun z => by rw [z, m.eZ] at e; cases e; cases r) (fun z => by rw [z, m.eY] at e; cases e; cases r)
theorem Md.grow {v D Y' : V} (m : Md C ws R Z Y W q M tb cs xs fs gs ps H0 rs ks ts H) (k : ∀ b o, H b = some o → b ≠ R → b ≠ Z → b ≠ Y → H' b = some o) (hl : rs.length < 40) (kp : Kp C ws H' v D Y')
    (eR : H' R = some (.lst (rs ++ [v]))) (eZ : H' Z = some (.lst (ks ++ [D]))) (eY : H' Y = some (.lst (ts ++ [Y']))) (nW : W ≠ R ∧ W ≠ Z ∧ W ≠ Y) (nq : q ≠ R ∧ q ≠ Z ∧ q ≠ Y) : Md C ws R Z Y W q M tb cs xs fs gs ps H0 (rs ++ [v]) (ks ++ [D]) (ts ++ [Y']) H' := by
  obtain ⟨l1, l2⟩ := look_keep m.iv m.eR m.eZ m.eY m.lk m.eM k
  exact ⟨(m.iv.imp fun _ _ _ h => h.keep (m.ro k)).snoc hl kp, eR, eZ, eY, k _ _ m.eW nW.1 nW.2.1 nW.2.2, k _ _ m.eq nq.1 nq.2.1 nq.2.2, l2, l1, fun b o e r => m.ro k b o (m.kp b o e r) r⟩
end
theorem ra_one {S S' : Addr → Prop} {C : Addr} {H : Hp} {a : Addr} {l l' : List (Str × V)} {z z' : Int} (r : RA S C H a l z) (r' : RA S' C H a l' z') : l = l' := by
  obtain ⟨⟨dx, tp, d, _, e1, _, e2⟩, _, _⟩ := r
  obtain ⟨⟨dx', tp', d', _, f1, _, f2⟩, _, _⟩ := r'
  rw [e1] at f1
  have g := (HO.ins.inj (Option.some.inj f1)).2.2
  have g2 := congrArg (fun l => List.lookup ("_fields" : Str) l) g
  simp only [rf_fields] at g2
  cases g2
  rw [e2] at f2
  have g3 := HO.dK.inj (Option.some.inj f2)
  exact List.map_inj_right (fun x y h => by
    obtain ⟨x1, x2⟩ := x
    obtain ⟨y1, y2⟩ := y
    cases h
    rfl) |>.mp g3
theorem pt_cp {C : Addr} {H : Hp} : ∀ {n : Nat} {v : V} {ps : List (List Str)} {fs : List (Str × T)}, Gn.Pt C H n v ps → Rc All C H n v (.fds fs) → ∀ q ∈ ps, ∀ x ∈ q, CpOk x
  | 0, _, _, _, h, _ => h.elim
  | n + 1, v, ps, fs, ⟨a, l, z, e, ra, hl, rows⟩, rc => by
    subst e
    have nm := rc_names rc ra.any
    obtain ⟨l', ra', wf, pm, ch⟩ := Gn.rc_out rc
    have e := ra_one ra ra'
    subst e
    refine rows_cp rows fun p hp => ⟨CpOk.good (nm _ (List.mem_map.mpr ⟨p, hp, rfl⟩)), fun qs hqs => ?_⟩
    obtain ⟨u, hu⟩ := look_some (pm.mem_iff.mp (List.mem_map.mpr ⟨p, hp, rfl⟩))
    have hr := ch p.1 p.2 u (mem_look ra.nd hp) hu
    cases n with
    | zero => exact hqs.elim
    | succ n =>
      obtain ⟨b, m, z', e2, _⟩ := id hqs
      rw [e2] at hr hqs
      cases u with
      | int i =>
        rcases hr with ⟨i, e3, _⟩ | ⟨_, _, _, _, e3, _⟩
        · cases e3
        · cases e3
      | fds gs => exact pt_cp hqs hr
theorem c_extends {P : Program} {w : World} {K : PySem.W.Frag} {mg : Str → Option Value} {base : Heap} {C : Addr} (T : Bu mg) (R : RecK K mg C) (m_eq : Mth P w K mg base C 1 "__eq__" (spEq C)) (m_iter : MthS P w K mg base C 1 "__iter__" (spIt K)) (m_contains : Mth P w K mg base C 1 "__contains__" (spContains C)) (m_get : Mth P w K mg base C 1 "__getitem__" (spGet C))
    (D : Dfn K mg "extends" sExtends ["large", "small"]) : ∀ n, Cal P w K mg base (n + 3) "extends" (spExt C n)
  | 0 => c_extends_step T R m_eq m_iter m_contains m_get D 0 (c_no D scExtends)
  | n + 1 => c_extends_step T R m_eq m_iter m_contains m_get D (n + 1) (c_extends T R m_eq m_iter m_contains m_get D n)
section
variable {P : Program} {w : World} {K : PySem.W.Frag} {mg : Str → Option Value} {base : Heap} {C : Addr}
theorem m_no {k : Nat} (D : DfK K C "plain" "Record.plain" sPlain ["self"]) : MthK P w K mg base CX0 C (k + 1) "plain" spNo := by
  obtain ⟨g, fd, mD, F, bD⟩ := D.ex
  exact ⟨g, fd, _, F.ok scPlain (fun _ _ _ _ h => h.elim) (fun _ _ _ _ _ _ _ _ _ h => h.elim), mD, bD⟩
end
theorem m_plain {P : Program} {w : World} {K : PySem.W.Frag} {mg : Str → Option Value} {base : Heap} {C : Addr} (T : Bu mg) (R : RecK K mg C) (D : DfK K C "plain" "Record.plain" sPlain ["self"]) : ∀ n, MthK P w K mg base CX0 C (n + 2) "plain" (spPlain C n)
  | 0 => m_plain_step T R D 0 (m_no D)
  | n + 1 => m_plain_step T R D (n + 1) (m_plain T R D n)
end Lw
/-! The law's statements as rules. -/
namespace Lw
open PySem PySem.Spec PyProof.Rows L2 GrT GrOwn GrMg Qd Ra
abbrev NL : List Str := ["script", "tape", "names", "plain", "records", "kept", "texts", "cell", "draws", "r", "s", "found", "looked", "k", "record"]
def spLaw (K : PySem.W.Frag) : Sp := fun vs H Q _ => ∃ (a : Addr) (ns : List Int), vs = [.ref a] ∧ SqL K H a (ns.map V.int) ∧ ns.length ≤ 63 ∧ ∀ H', Q (.bl true) H'
section
variable {P : Program} {w : World} {K : PySem.W.Frag} {mg : Str → Option Value} {base : Heap} {C : Addr}
theorem scLaw : FnScope NL ["script"] (defScope sLaw) := ⟨rfl, rfl, rfl, by decide +kernel, rfl, by decide +kernel, by decide +kernel⟩
theorem fn_law {kk ks ke : Nat} (T : Bu mg) (R : RecK K mg C) (pr : PrK K C) (hn : PySem.W.findIn K (.ref C) "__ne__" = some (some (.builtin "object.__ne__")))
    (c_law_cell : Cal P w K mg base 1 "_law_cell" (spCell K)) (c_law_tape : Cal P w K mg base 2 "_law_tape" spTape) (c_law_take : Cal P w K mg base 1 "_law_take" spTake) (c_law_pool : Cal P w K mg base 4 "_law_pool" spPool) (c_law_fields : Cal P w K mg base 5 "_law_fields" (spFields 1))
    (s_make : SCal P w K mg base C 7 (spMake C 1)) (M : EqM P w K mg base C ke 9) (m_plain : MthK P w K mg base CX0 C 12 "plain" (spPlain C 10)) {fs0 : Addr} {fds0 : FuncData} (ms : GrOwn.Sm K C "__str__" fs0) (bs : Binds K fds0 ["self"] []) (Fs : FnOk P w K mg base CX0 ks fs0 fds0 ["self"] (spStr C 9))
    (c_called : Cal P w K mg base kk "_law_called" (spCalled C 10)) (c_looked : Cal P w K mg base kk "_law_looked" (spLooked C 9)) (c_depth : Cal P w K mg base 13 "_law_depth" (spDepth 11)) (c_told : Cal P w K mg base 15 "_law_told" (spTold C 11))
    (hk : 15 ≤ kk) (hks : ks + 2 ≤ kk) (hke : ke + 1 ≤ kk) {f : Addr} {fd : FuncData} (F : L2.Fun K "law" "law" sLaw f fd) : FnOk P w K mg base CX0 (kk + 1) f fd ["script"] (spLaw K) := by
  refine F.ok scLaw (fun vs H Q E h => ?_) (fun cdv A outer s H vs Q E hr h => ?_)
  · obtain ⟨a, ns, rfl, _⟩ := h
    rfl
  · obtain ⟨a, ns, rfl, hS, hl, q⟩ := h
    have hu := hu_of hr
    have hu64 := hr.units
    refine ⟨_, (pss_cons (ps_set (i := 1) scLaw.nd rfl (Or.inl rfl) (pe_c c_law_tape hr (by omega) rfl (pa_cons (pe_c c_law_cell hr (by omega) rfl (pa_cons (pv 0) (pa_cons pe_int pa_nil))) (pa_cons (pe_c c_law_cell hr (by omega) rfl (pa_cons (pv 0) (pa_cons pe_int pa_nil))) (pa_cons pe_int pa_nil)))))
      (pss_cons (ps_set (i := 2) scLaw.nd rfl (Or.inl rfl) (pe_c c_law_pool hr (by omega) rfl (pa_cons (pv 1) (pa_cons (pe_op op_add pe_int (pe_c c_law_take hr (by omega) rfl (pa_cons (pv 1) (pa_cons pe_int pa_nil)))) pa_nil))))
      (pss_cons (ps_set (i := 3) scLaw.nd rfl (Or.inl rfl) (pe_c c_law_fields hr (by omega) rfl (pa_cons (pv 1) (pa_cons (pv 2) (pa_cons pe_int pa_nil)))))
      (pss_cons (ps_set (i := 4) scLaw.nd rfl (Or.inl rfl) (pe_lst (pa_cons (pe_smC (pe_glob (by rfl) R.mgC (v := .ref C) rfl) s_make hr (by omega) (pa_cons (pv 3) pa_nil)) (pa_cons (pe_smC (pe_glob (by rfl) R.mgC (v := .ref C) rfl) s_make hr (by omega) (pa_cons (pv 3) pa_nil)) pa_nil))))
      (pss_cons (ps_expr (pe_dclear (pv 3)))
      (pss_cons (ps_if (pt_cmpR (op_neRec R hn M hr (by omega)) (pe_ix ix_list (pv 4) pe_int (fun _ _ => rfl)) (pe_ix ix_list (pv 4) pe_int (fun _ _ => rfl)) (nomark _)) (pss_one (ps_ret pe_bl)) pss_nil)
      (pss_cons (ps_setLc (i := 5) (own := [("record", 14)]) (g := gName 14) (tt := tYes) rfl scLaw.nd rfl rfl (sw_true rfl rfl rfl (by decide +kernel)) (pi_list (pv 4)) (blkOk_by (own := [("record", 14)]) (N := NL) (sc := defScope sLaw) (by decide +kernel)) (fun _ _ _ _ _ => pg_name (i := 14) scLaw.nd rfl (Or.inl rfl))
        (fun _ _ _ _ _ => pts_nil) (fun _ _ _ _ _ => (by exact (pe_mK0 R m_plain hr (by omega) pass0 (pv 14)))))
      (pss_cons (ps_setLc (i := 6) (own := [("record", 14)]) (g := gName 14) (tt := tYes) rfl scLaw.nd rfl rfl (sw_true rfl rfl rfl (by decide +kernel)) (pi_list (pv 4)) (blkOk_by (own := [("record", 14)]) (N := NL) (sc := defScope sLaw) (by decide +kernel)) (fun _ _ _ _ _ => pg_name (i := 14) scLaw.nd rfl (Or.inl rfl))
        (fun _ _ _ _ _ => pts_nil) (fun _ _ _ _ _ => (by exact (pe_callTy (call_strO ms Fs bs hr hks) (by rfl) T.b_str bo_str (pa_cons (pv 14) pa_nil)))))
      (pss_cons (ps_for PassesOwn.never rfl (pi_list (pe_slice sl_list (pv 0) (po_some pe_int) (po_some pe_int))) (pg_name (i := 7) scLaw.nd rfl (Or.inl rfl))
        (pss_cons (ps_set (i := 8) scLaw.nd rfl (Or.inl rfl) (pe_c c_law_tape hr (by omega) rfl (pa_cons (pv 7) (pa_cons (pe_callB call_len_seq (by rfl) T.b_len PySem.boot_len (pa_cons (pv 4) pa_nil)) (pa_cons pe_int pa_nil)))))
        (pss_cons (ps_set (i := 9) scLaw.nd rfl (Or.inl rfl) (pe_ix ix_list (pv 4) (pe_op op_mod (pe_c c_law_take hr (by omega) rfl (pa_cons (pv 8) (pa_cons pe_int pa_nil))) (pe_callB call_len_seq (by rfl) T.b_len PySem.boot_len (pa_cons (pv 4) pa_nil))) (fun _ _ => rfl)))
        (pss_cons (ps_set (i := 10) scLaw.nd rfl (Or.inl rfl) (pe_ix ix_list (pv 4) (pe_op op_mod (pe_c c_law_take hr (by omega) rfl (pa_cons (pv 8) (pa_cons pe_int pa_nil))) (pe_callB call_len_seq (by rfl) T.b_len PySem.boot_len (pa_cons (pv 4) pa_nil))) (fun _ _ => rfl)))
        (pss_cons (ps_set (i := 11) scLaw.nd rfl (Or.inl rfl) (pe_c c_called hr (by omega) rfl (pa_cons (pv 8) (pa_cons (pv 2) (pa_cons (pv 9) (pa_cons (pv 10) pa_nil))))))
        (pss_cons (ps_if (pt_not (pt_val (pe_callB call_isi (by rfl) T.b_isinstance bo_isinstance (pa_cons (pv 11) (pa_cons (pe_glob (by rfl) R.mgC (v := .ref C) rfl) pa_nil))))) (pss_one (ps_ret pe_bl)) pss_nil)
        (pss_cons (ps_set (i := 12) scLaw.nd rfl (Or.inl rfl) (pe_c c_looked hr (by omega) rfl (pa_cons (pv 9) (pa_cons (pv 10) pa_nil))))
        (C8.pss_cut (ps_if (PW.pt (pw_and (pt_cmpR op_le (pe_sizeK R pr hr (by omega) (pv 11) rfl) pe_int (nomark _)) (pw_and (pt_cmpR op_le (pe_c c_depth hr (by omega) rfl (pa_cons (pe_mK0 R m_plain hr (by omega) pass0 (pv 11)) pa_nil)) pe_int (nomark _)) (pw_and1 (pt_cmpR op_lt (pe_callB call_len_seq (by rfl) T.b_len PySem.boot_len (pa_cons (pv 4) pa_nil)) pe_int (nomark _))))))
          (pss_cons (ps_expr (pe_bm PySem.F.plainAttrs_list PySem.F.slot_list_append PySem.F.type_list_append mt_append (pv 4) (pa_cons (pv 11) pa_nil)))
          (pss_cons (ps_expr (pe_bm PySem.F.plainAttrs_list PySem.F.slot_list_append PySem.F.type_list_append mt_append (pv 5) (pa_cons (pe_mK0 R m_plain hr (by omega) pass0 (pv 11)) pa_nil)))
          (pss_one (ps_expr (pe_bm PySem.F.plainAttrs_list PySem.F.slot_list_append PySem.F.type_list_append mt_append (pv 6) (pa_cons (pe_callTy (call_strO ms Fs bs hr hks) (by rfl) T.b_str bo_str (pa_cons (pv 11) pa_nil)) pa_nil)))))) pss_nil)
        (pss_one (ps_if (pt_cmpR (op_neD hu64) (pv 12) (pe_c c_looked hr (by omega) rfl (pa_cons (pv 9) (pa_cons (pv 10) pa_nil))) (nomark _)) (pss_one (ps_ret pe_bl)) pss_nil))))))))))
      (pss_cons (ps_for PassesOwn.never rfl (pi_range1 (by rfl) T.b_range (pa_cons (pe_callB call_len_seq (by rfl) T.b_len PySem.boot_len (pa_cons (pv 4) pa_nil)) pa_nil)) (pg_name (i := 13) scLaw.nd rfl (Or.inl rfl))
        (pss_one (ps_if (PW.pt (pw_or (pt_not (pt_val (pe_c c_told hr (by omega) rfl (pa_cons (pe_ix ix_list (pv 4) (pv 13) (fun _ _ => rfl)) (pa_cons (pe_ix ix_list (pv 5) (pv 13) (fun _ _ => rfl)) pa_nil))))) (pw_or1 (pt_cmpR op_ne (pe_callTy (call_strO ms Fs bs hr hks) (by rfl) T.b_str bo_str (pa_cons (pe_ix ix_list (pv 4) (pv 13) (fun _ _ => rfl)) pa_nil)) (pe_ix ix_list (pv 6) (pv 13) (fun _ _ => rfl)) (nomark _))))) (pss_one (ps_ret pe_bl)) pss_nil)))
      (pss_one (ps_ret pe_bl)))))))))))), ?_⟩
    refine ⟨_, rfl, a, ns, 0, rfl, hS, by decide, fun g => ?_⟩
    refine ⟨_, rfl, a, ns, 1, rfl, hS, by decide, fun g2 => ?_⟩
    refine ⟨g, g2, 120, rfl, by decide, by decide, fun p H1 hp tp1 s1 => ?_⟩
    refine ⟨_, rfl, _, rfl, p, 6, rfl, tp1, by decide, fun c H2 c0 c1 x2 t2 => ⟨_, _, rfl, rfl, ?_⟩⟩
    refine ⟨p, _, rfl, t2, by omega, by omega, fun W ws H3 hW eW wl wn x3 t3 => ?_⟩
    have Wp : W ≠ p := t2.ne'' hW
    have s03 : Same H H3 := Fx.fresh hp s1 (x2.trans x3)
    refine ⟨_, rfl, _, rfl, p, W, ws, rfl, t3, eW, Wp, by omega, by omega, wn, fun D1 fs H4 r4 b4 x4 t4 => ?_⟩
    obtain ⟨_, D1', l1, _, eD1', sD1, eD1⟩ := Lw.Tr.out2 r4
    cases eD1'
    have eW4 := x4 _ _ Wp eW
    have s04 : Same H H4 := Fx.fresh hp s03 x4
    refine ⟨rfl, _, rfl, .ref D1, _, fs, rfl, r4.mono (by decide) (by decide), fun v1 H5 rr1 s5 => ?_⟩
    have eD15 := s5 _ _ eD1
    refine ⟨rfl, _, rfl, .ref D1, _, fs, rfl, (Tr.same r4 s5).mono (by decide) (by decide), fun v2 H6 rr2 s6 => ?_⟩
    obtain ⟨ra, rfl⟩ := Gn.rc_ref rr1
    obtain ⟨rb, rfl⟩ := Gn.rc_ref rr2
    refine ⟨line_big (by simp), fun R0 hR0 => ?_⟩
    have eD16 := s6 _ _ eD15
    have D1R : D1 ≠ R0 := ne_of_none eD16 hR0
    refine ⟨_, rfl, .inr (.inr (.inl ⟨rfl, .inl ⟨_, by rw [upd_ne D1R]; exact eD16⟩⟩)), D1, _, rfl, rfl, by rw [upd_ne D1R]; exact eD16, ?_⟩
    have k7 : ∀ b o, H6 b = some o → b ≠ D1 → (upd (upd H6 R0 (.lst [.ref ra, .ref rb])) D1 (.dK [])) b = some o := fun b o e n => by
      rw [upd_ne n, upd_ne (fun z => by rw [z, hR0] at e; cases e)]
      exact e
    have eR7 : (upd (upd H6 R0 (.lst [.ref ra, .ref rb])) D1 (.dK [])) R0 = some (.lst [.ref ra, .ref rb]) := by
      rw [upd_ne D1R.symm]
      exact upd_same
    generalize upd (upd H6 R0 (.lst [.ref ra, .ref rb])) D1 (.dK []) = H7 at k7 eR7 ⊢
    have nd : ∀ b o, H b = some o → b ≠ D1 := fun b o e z => by
      have e3 := s03 _ _ e
      rw [z, sD1] at e3
      cases e3
    have s07 : Same H H7 := fun b o e => k7 b o (s6 _ _ (s5 _ _ (s04 _ _ e))) (nd b o e)
    have WD : W ≠ D1 := fun z => by
      rw [z, sD1] at eW
      cases eW
    have eW7 : H7 W = some (.lst (ws.map V.str)) := k7 _ _ (s6 _ _ (s5 _ _ eW4)) WD
    have rc1 : Rc All C H7 10 (.ref ra) (.fds fs) := rc_le ((rr1.keep fun b o sb e _ => k7 b o (s6 _ _ e) (fun z => by
      rw [z, eD1] at sb
      cases sb)).wid fun _ _ => True.intro) (by decide)
    have rc2 : Rc All C H7 10 (.ref rb) (.fds fs) := rc_le ((rr2.keep fun b o sb e _ => k7 b o e (fun z => by
      rw [z, eD15] at sb
      cases sb)).wid fun _ _ => True.intro) (by decide)
    have pl : PlT ws 10 (.fds fs) := pl_le b4.2 (by decide)
    have wl6 : ws.length ≤ 6 := by omega
    have bd : Bd 10 (.fds fs) := bd_of (by omega) wn pl rc1
    have nf42 : nfs fs ≤ 42 := nf_small r4
    refine ⟨_, rfl, R0, _, 0, _, rfl, rfl, SqL.of eR7, rfl, _, rfl, R0, _, 1, _, rfl, rfl, SqL.of eR7, rfl, ra, rb, fs, fs, rfl, rfl, rc1, rc2, fun e H8 he s8 => ⟨_, rfl, ?_⟩⟩
    obtain rfl : e = true := he.mpr (Lw.Rc.one rc1 rc1)
    refine iteF ?_
    have eR8 := s8 _ _ eR7
    have rc18 := rc1.same s8
    have rc28 := rc2.same s8
    have two : ∀ {x : V} {i : Nat}, ([V.ref ra, V.ref rb] : List V)[i]? = some x → ∃ r, x = .ref r ∧ Rc All C H8 10 (.ref r) (.fds fs) := fun {x i} e => by
      match i, e with
      | 0, e => exact ⟨ra, (Option.some.inj e).symm, rc18⟩
      | 1, e => exact ⟨rb, (Option.some.inj e).symm, rc28⟩
    refine ⟨_, rfl, R0, rfl, ⟨_, SqL.of eR8⟩, fun Z hZ => lc_list (xs := [.ref ra, .ref rb]) (fun i H' => ∃ ds : List V, ds.length = i ∧ H' Z = some (.lst ds) ∧ Same H8 H' ∧ ∀ D ∈ ds, ∃ t, Tr All H' 40 11 D t ∧ GrT.Sm 11 t (.fds fs))
      ⟨[], rfl, upd_same, Same.new (Same.refl _) hZ, fun D h => by cases h⟩ (fun i H' _ ⟨_, _, _, s', _⟩ => SqL.of (s' _ _ eR8)) ?_ ?_⟩
    · rintro i x H' hi ⟨ds, hl', eZ, s', al⟩
      obtain ⟨r, rfl, rcr⟩ := two hi
      obtain ⟨l, ⟨⟨dx, tq, d, _, ea, _⟩, _, _⟩, _⟩ := Gn.rc_out rcr
      have hi2 : i < 2 := (List.getElem?_eq_some_iff.mp hi).1
      refine ⟨rfl, iteT (A := _) (B := True) (iteT ?_)⟩
      refine ⟨_, rfl, r, dx, _, rfl, s' _ _ ea, rf_no (by decide +kernel) (by decide +kernel) (by decide +kernel) _ _ _, r, All, fs, rfl, rc_up (rcr.same s'), fun v' t' H9 tr sm _ s9 => ?_⟩
      have s89 : Same H9 (upd H9 Z (.lst (ds ++ [v']))) ∨ True := .inr True.intro
      have eZ9 := s9 _ _ eZ
      have kd : ∀ b o, H9 b = some o → (∀ xs, o ≠ .lst xs) → (upd H9 Z (.lst (ds ++ [v']))) b = some o := fun b o e n => by
        rw [upd_ne (fun z => by
          rw [z, eZ9] at e
          exact n _ (Option.some.inj e).symm)]
        exact e
      refine ⟨ds, eZ9, line_big (by omega), ds ++ [v'], by rw [List.length_append, hl']; rfl, upd_same, fun b o e => ?_, fun D hD => ?_⟩
      · rw [upd_ne (ne_of_none e hZ)]
        exact s9 _ _ (s' _ _ e)
      · rcases List.mem_append.mp hD with h | h
        · obtain ⟨t, h1, h2⟩ := al D h
          exact ⟨t, h1.keep fun b kvs _ e => kd b _ (s9 _ _ e) (fun xs z => by cases z), h2⟩
        · rw [List.mem_singleton.mp h]
          exact ⟨t', (tr.wid fun _ _ => True.intro).keep fun b kvs _ e => kd b _ e (fun xs z => by cases z), sm⟩
    · rintro H9 ⟨ds, hl2, eZ, s9, al⟩
      have eR9 := s9 _ _ eR8
      have RZ : R0 ≠ Z := ne_of_none eR8 hZ
      refine ⟨_, rfl, R0, rfl, ⟨_, SqL.of eR9⟩, fun Y hY => lc_list (xs := [.ref ra, .ref rb]) (fun i H' => ∃ ys : List Str, ys.length = i ∧ H' Y = some (.lst (ys.map V.str)) ∧ Same H9 H' ∧ ∀ y ∈ ys, Tx 10 (.fds fs) y)
        ⟨[], rfl, upd_same, Same.new (Same.refl _) hY, fun D h => by cases h⟩ (fun i H' _ ⟨_, _, _, s', _⟩ => SqL.of (s' _ _ eR9)) ?_ ?_⟩
      · rintro i x H' hi ⟨ys, hl', eY, s', al2⟩
        obtain ⟨r, rfl, rcr⟩ := two hi
        have rcr9 := rcr.same (s9.trans s')
        obtain ⟨dx, vs', ea⟩ := Rc.ins rcr9
        have hi2 : i < 2 := (List.getElem?_eq_some_iff.mp hi).1
        refine ⟨rfl, iteT (A := _) (B := True) (iteT ?_)⟩
        refine ⟨_, rfl, r, dx, vs', rfl, ea, r, fs, rfl, rcr9, bd, by omega, fun y H10 tx s10 => ⟨y, rfl, ?_⟩⟩
        have eY10 := s10 _ _ eY
        refine ⟨_, eY10, line_big (by rw [List.length_map]; omega), ys ++ [y], by rw [List.length_append, hl']; rfl, by rw [List.map_append]; exact upd_same, fun b o e => ?_, fun z hz => ?_⟩
        · rw [upd_ne (ne_of_none e hY)]
          exact s10 _ _ (s' _ _ e)
        · rcases List.mem_append.mp hz with h | h
          · exact al2 z h
          · rw [List.mem_singleton.mp h]
            exact tx
      · rintro H10 ⟨ys, hly, eY, s10, al2⟩
        have iv : Iv C ws H10 [.ref ra, .ref rb] ds (ys.map V.str) := ⟨hl2, by rw [List.length_map]; exact hly, by show 1 ≤ 2; decide, by show 2 ≤ 40; decide, fun i v D Y' f1 f2 f3 => by
          obtain ⟨r, rfl, rcr⟩ := two f1
          obtain ⟨t, h1, h2⟩ := al D (List.mem_of_getElem? f2)
          obtain ⟨y, hy, rfl⟩ := List.mem_map.mp (List.mem_of_getElem? f3)
          exact ⟨r, fs, t, y, rfl, rfl, rcr.same (s9.trans s10), pl, by omega, Tr.same h1 s10, h2, al2 y hy⟩⟩
        have eR10 := s10 _ _ eR9
        have eZ10 := s10 _ _ eZ
        have eW10 : H10 W = some (.lst (ws.map V.str)) := s10 _ _ (s9 _ _ (s8 _ _ eW7))
        have RY : R0 ≠ Y := ne_of_none eR9 hY
        have ZY : Z ≠ Y := ne_of_none eZ hY
        have WR : W ≠ R0 := ne_of_none (s6 _ _ (s5 _ _ eW4)) hR0
        have WZ : W ≠ Z := ne_of_none (s8 _ _ eW7) hZ
        have WY : W ≠ Y := ne_of_none (s9 _ _ (s8 _ _ eW7)) hY
        have s010 : Same H H10 := ((s07.trans s8).trans s9).trans s10
        have hS10 := s010.seq hS
        refine ⟨_, rfl, 2, rfl, 62, rfl, a, _, rfl, hS10, fun sl hq => ⟨sl, rfl, ⟨_, SqL.of upd_same⟩, ?_⟩⟩
        have qR : R0 ≠ sl := ne_of_none eR10 hq
        have qZ : Z ≠ sl := ne_of_none eZ10 hq
        have qY : Y ≠ sl := ne_of_none eY hq
        have qW : W ≠ sl := ne_of_none eW10 hq
        generalize hcut : cutV (ns.map V.int) (some 2) (some 62) = cs
        have hcs : ∀ x ∈ cs, ∃ i : Int, x = .int i := fun x hx => by
          rw [← hcut] at hx
          obtain ⟨i, _, e⟩ := List.mem_map.mp (cutV_mem hx)
          exact ⟨i, e.symm⟩
        refine for_it (walk_list (xs := cs)) (fun i σ H' => ∃ (tv cv dv rv sv fv lv kv ov : Option V) (rs ks ts : List V), σ = [some (.ref a), tv, some (.ref W), some (.ref D1), some (.ref R0), some (.ref Z), some (.ref Y), cv, dv, rv, sv, fv, lv, kv, ov] ∧
            Iv C ws H' rs ks ts ∧ H' R0 = some (.lst rs) ∧ H' Z = some (.lst ks) ∧ H' Y = some (.lst ts) ∧ H' W = some (.lst (ws.map V.str)) ∧ H' sl = some (.lst cs))
          ⟨some (.ref p), none, none, none, none, none, none, none, none, _, _, _, rfl, iv.same (Same.new (Same.refl _) hq), by rw [upd_ne qR]; exact eR10, by rw [upd_ne qZ]; exact eZ10, by rw [upd_ne qY]; exact eY, by rw [upd_ne qW]; exact eW10, upd_same⟩
          (fun i σ H' _ ⟨_, _, _, _, _, _, _, _, _, _, _, _, _, _, _, _, _, _, e⟩ => SqL.of e) ?_ ?_
        · rintro i x σ H11 H11' hi ⟨tv, cv, dv, rv, sv, fv, lv, kv, ov, rs, ks, ts, rfl, iv, eR, eZ, eY, eW, eq⟩ ⟨rfl, hk⟩
          obtain ⟨cell, rfl⟩ := hcs x (List.mem_of_getElem? hk)
          have lrs : 0 < rs.length := iv.lo
          refine ⟨_, rfl, _, rfl, R0, rs, rfl, .inl (SqL.of eR), cell, rs.length, 8, rfl, by decide, by decide, fun t H12 ht tp s12 => ?_⟩
          refine ⟨_, rfl, _, rfl, t, 720720, rfl, tp, by decide, fun c1 H13 _ _ x13 t13 => ?_⟩
          have tR : R0 ≠ t := ne_of_none eR ht
          have tZ : Z ≠ t := ne_of_none eZ ht
          have tY : Y ≠ t := ne_of_none eY ht
          have tW : W ≠ t := ne_of_none eW ht
          have tq : sl ≠ t := ne_of_none eq ht
          have eR13 := x13 _ _ tR (s12 _ _ eR)
          obtain ⟨i1, v1, hv1, ha1⟩ := at_mod (z := c1) lrs
          refine ⟨_, rfl, R0, rs, rfl, .inl (SqL.of eR13), _, _, rfl, rfl, by omega, R0, rs, _, v1, rfl, rfl, SqL.of eR13, ha1, ?_⟩
          refine ⟨_, rfl, _, rfl, t, 720720, rfl, t13, by decide, fun c2 H14 _ _ x14 t14 => ?_⟩
          have eR14 := x14 _ _ tR eR13
          obtain ⟨i2, v2, hv2, ha2⟩ := at_mod (z := c2) lrs
          refine ⟨_, rfl, R0, rs, rfl, .inl (SqL.of eR14), _, _, rfl, rfl, by omega, R0, rs, _, v2, rfl, rfl, SqL.of eR14, ha2, ?_⟩
          have x24 := x13.trans x14
          have iv14 := (iv.same s12).fx tp x24
          have eW14 := x24 _ _ tW (s12 _ _ eW)
          obtain ⟨v1', D1', Y1', f1, _, _, kp1⟩ := iv14.get (List.getElem?_eq_some_iff.mp hv1).1
          obtain ⟨v2', D2', Y2', f2, _, _, kp2⟩ := iv14.get (List.getElem?_eq_some_iff.mp hv2).1
          rw [hv1] at f1
          rw [hv2] at f2
          cases f1
          cases f2
          obtain ⟨a1, fs1, t1, y1, rfl, _, ca, pa, na, _, _, _⟩ := kp1
          obtain ⟨a2, fs2, t2', y2, rfl, _, cb, pb, nb, _, _, _⟩ := kp2
          refine ⟨_, rfl, _, rfl, _, rfl, _, rfl, t, W, a1, a2, ws, fs1, fs2, rfl, t14, tW, eW14, by omega, wl6, wn, ca, cb, pa, pb, fun r hs H15 rr plr x15 t15 => ?_⟩
          have iv15 := iv14.fx t14 x15
          have eR15 := x15 _ _ tR eR14
          have eZ15 := x15 _ _ tZ (x24 _ _ tZ (s12 _ _ eZ))
          have eY15 := x15 _ _ tY (x24 _ _ tY (s12 _ _ eY))
          have eW15 := x15 _ _ tW eW14
          have eq15 := x15 _ _ tq (x24 _ _ tq (s12 _ _ eq))
          have ca15 := ca.fx t14 x15
          have cb15 := cb.fx t14 x15
          obtain ⟨lr, ⟨⟨dxr, tqr, dr, _, ear, etr, edr⟩, _, _⟩, _⟩ := Gn.rc_out rr
          refine ⟨_, rfl, _, _, _, _, _, rfl, .own C, R.ty ear, R.kRC, _, rfl, iteF ?_⟩
          have bda : Bd 10 (.fds fs1) := bd_of (by omega) wn pa ca
          obtain ⟨ps, pt, pl'⟩ := Gn.pt_of ca15
          obtain ⟨lb, rab, _⟩ := Gn.rc_out cb15
          have nmb := rc_names cb15 rab.any
          obtain ⟨⟨dy, tb, db, _, eb, etb, _⟩, _, _⟩ := rab
          refine ⟨_, rfl, _, rfl, a1, a2, fs1, fs2, dy, tb, db, _, ps, rfl, ca15, cb15, bda, by omega, eb, pt, by omega, fun M xs H16 s16 eM lk => ?_⟩
          have md : Md C ws R0 Z Y W sl M tb cs xs fs1 fs2 ps H16 rs ks ts H16 := ⟨iv15.same s16, s16 _ _ eR15, s16 _ _ eZ15, s16 _ _ eY15, s16 _ _ eW15, s16 _ _ eq15, eM, lk, fun b o e _ => e⟩
          have ear16 := s16 _ _ ear
          have rr16 := rr.same s16
          refine ⟨fun σ' H' => ∃ rs ks ts, σ' = [some (.ref a), tv, some (.ref W), some (.ref D1), some (.ref R0), some (.ref Z), some (.ref Y), some (.int cell), some (.ref t), some (.ref a1), some (.ref a2), some (.ref r), some (.ref M), kv, ov] ∧ Md C ws R0 Z Y W sl M tb cs xs fs1 fs2 ps H16 rs ks ts H', ?_, ?_⟩
          · refine ⟨_, rfl, r, dxr, _, rfl, ear16, r, dxr, tqr, dr, _, rfl, ear16, _, _, rfl, rfl, _, rfl, ite2 (fun hz => ?_) fun _ => iteF ⟨rs, ks, ts, rfl, md⟩⟩
            have hz60 : nfs hs ≤ 60 := of_decide_eq_true hz
            refine ⟨_, rfl, r, dxr, _, rfl, ear16, rf_no (by decide +kernel) (by decide +kernel) (by decide +kernel) _ _ _, r, All, hs, rfl, rr16, fun v' t' H17 tr sm _ s17 => ⟨v', _, t', rfl, tr, _, _, rfl, rfl, _, rfl, ite2 (fun hd => ?_) fun _ => iteF ⟨rs, ks, ts, rfl, md.same s17⟩⟩⟩
            have hd10 : dT t' ≤ 10 := of_decide_eq_true hd
            have md17 := md.same s17
            refine ⟨_, rfl, R0, rs, rfl, .inl (SqL.of md17.eR), _, _, rfl, rfl, _, rfl, ?_⟩
            refine ite2 (fun hl40 => ?_) fun _ => ⟨rs, ks, ts, rfl, md17⟩
            have hrs : rs.length < 40 := by
              have : (rs.length : Int) < 40 := of_decide_eq_true hl40
              omega
            obtain ⟨fs', rfl⟩ : ∃ fs', t' = .fds fs' := by
              rcases sm with ⟨i, _, z⟩ | ⟨fs', _, z, _⟩
              · cases z
              · exact ⟨fs', z⟩
            have sms : GrT.Sm 11 (.fds hs) (.fds fs') := Lw.Sm.symm sm
            have rr17 := rr16.same s17
            have rcf : Rc All C H17 10 (.ref r) (.fds fs') := rc_deep (Lw.Rc.sim rr17 sms) hd10
            have plf : PlT ws 10 (.fds fs') := pl_deep (pl_sim plr sms) rcf
            have nff : nfs fs' ≤ 60 := by
              have e := Sm.nf sm
              rw [GrT.nf, GrT.nf] at e
              omega
            refine ⟨_, rfl, .inl ⟨rfl, _, .inl (.inl md17.eR)⟩, _, rfl, R0, rs, _, rfl, rfl, md17.eR, line_big (by omega), ?_⟩
            have kA : ∀ b o, H17 b = some o → b ≠ R0 → (upd H17 R0 (.lst (rs ++ [.ref r]))) b = some o := fun b o e n => by
              rw [upd_ne n]
              exact e
            have eRA : (upd H17 R0 (.lst (rs ++ [.ref r]))) R0 = some (.lst (rs ++ [.ref r])) := upd_same
            have roA : ∀ b o, H17 b = some o → Ro o → (upd H17 R0 (.lst (rs ++ [.ref r]))) b = some o := fun b o e r => kA b o e fun z => by
              rw [z, md17.eR] at e
              cases e
              cases r
            generalize upd H17 R0 (.lst (rs ++ [.ref r])) = HA at kA eRA roA ⊢
            refine ⟨_, rfl, .inl ⟨rfl, _, .inl (.inl (kA _ _ md17.eZ RZ.symm))⟩, _, rfl, r, dxr, _, rfl, roA _ _ (s17 _ _ ear16) True.intro, rf_no (by decide +kernel) (by decide +kernel) (by decide +kernel) _ _ _, r, All, hs, rfl, rr17.keep fun b o _ e r => roA b o e r, fun v2 t2 H18 tr2 sm2 _ s18 => ?_⟩
            have eZ18 := s18 _ _ (kA _ _ md17.eZ RZ.symm)
            refine ⟨Z, ks, _, rfl, rfl, eZ18, line_big (by have := md17.iv.lk; omega), ?_⟩
            have kB : ∀ b o, H18 b = some o → b ≠ Z → (upd H18 Z (.lst (ks ++ [v2]))) b = some o := fun b o e n => by
              rw [upd_ne n]
              exact e
            have eZB : (upd H18 Z (.lst (ks ++ [v2]))) Z = some (.lst (ks ++ [v2])) := upd_same
            have trB : Tr All (upd H18 Z (.lst (ks ++ [v2]))) 40 11 v2 t2 := (tr2.wid fun _ _ => True.intro).keep fun b kvs _ e => kB b _ e fun z => by
              rw [z, eZ18] at e
              cases e
            have roB : ∀ b o, H18 b = some o → Ro o → (upd H18 Z (.lst (ks ++ [v2]))) b = some o := fun b o e r => kB b o e fun z => by
              rw [z, eZ18] at e
              cases e
              cases r
            generalize upd H18 Z (.lst (ks ++ [v2])) = HB at kB eZB trB roB ⊢
            have rcB : Rc All C HB 10 (.ref r) (.fds fs') := rcf.keep fun b o _ e r => roB _ _ (s18 _ _ (roA b o e r)) r
            obtain ⟨dxf, vsf, eaf⟩ := Rc.ins rcB
            have eYB := kB _ _ (s18 _ _ (kA _ _ md17.eY RY.symm)) ZY.symm
            refine ⟨_, rfl, .inl ⟨rfl, _, .inl (.inl eYB)⟩, _, rfl, r, dxf, vsf, rfl, eaf, r, fs', rfl, rcB, bd_of (by omega) wn plf rcB, by omega, fun y H19 tx s19 => ⟨y, rfl, ?_⟩⟩
            have eY19 := s19 _ _ eYB
            refine ⟨Y, ts, _, rfl, rfl, eY19, line_big (by have := md17.iv.lt; omega), rs ++ [.ref r], ks ++ [v2], ts ++ [.str y], rfl, ?_⟩
            have kC : ∀ b o, H19 b = some o → b ≠ Y → (upd H19 Y (.lst (ts ++ [.str y]))) b = some o := fun b o e n => by
              rw [upd_ne n]
              exact e
            have roC : ∀ b o, H19 b = some o → Ro o → (upd H19 Y (.lst (ts ++ [.str y]))) b = some o := fun b o e r => kC b o e fun z => by
              rw [z, eY19] at e
              cases e
              cases r
            refine md17.grow (fun b o e n1 n2 n3 => kC b o (s19 _ _ (kB _ _ (s18 _ _ (kA _ _ e n1)) n2)) n3) hrs ⟨r, fs', t2, y, rfl, rfl, rcB.keep fun b o _ e r => roC _ _ (s19 _ _ e) r, plf, nff, (Tr.same trB s19).keep fun b kvs _ e => roC b _ e True.intro, Lw.Sm.trans sm2 sms, tx⟩
              (kC _ _ (s19 _ _ (kB _ _ (s18 _ _ eRA) RZ)) RY) (kC _ _ (s19 _ _ eZB) ZY) upd_same ⟨WR, WZ, WY⟩ ⟨qR.symm, qZ.symm, qY.symm⟩
          · rintro σ' H20 ⟨rs, ks, ts, rfl, md⟩
            have ca20 : Rc All C H20 10 (.ref a1) (.fds fs1) := (ca15.same s16).keep fun b o _ e r => md.kp b o e r
            have cb20 : Rc All C H20 10 (.ref a2) (.fds fs2) := (cb15.same s16).keep fun b o _ e r => md.kp b o e r
            have pt20 := Pt.keep md.kp (pt.same s16)
            have eb20 := md.kp _ _ (s16 _ _ eb) True.intro
            have etb20 := md.kp _ _ (s16 _ _ etb) True.intro
            refine ⟨_, rfl, _, rfl, _, rfl, a1, a2, fs1, fs2, dy, tb, db, _, ps, rfl, ca20, cb20, bda, by omega, eb20, pt20, by omega, fun M2 xs2 H21 s21 eM2 lk2 => ?_⟩
            obtain ⟨d, dp1, dp2, sh, ev⟩ := look_two (K := K) md.lk s21 lk2 (Lw.Rc.one ca20 ca20) bda (s21 _ _ md.eM) eM2 (s21 _ _ etb20) (fun x hx => CpOk.good (nmb x hx)) (pt_cp pt20 ca20)
            refine ⟨d, d, dp1, dp2, sh, sh, _, rfl, ?_⟩
            rw [ev]
            exact iteF ⟨tv, _, _, _, _, _, _, _, _, rs, ks, ts, rfl, md.iv.same s21, s21 _ _ md.eR, s21 _ _ md.eZ, s21 _ _ md.eY, s21 _ _ md.eW, s21 _ _ md.eq⟩
        · rintro σ H11 ⟨tv, cv, dv, rv, sv, fv, lv, kv, ov, rs, ks, ts, rfl, iv, eR, eZ, eY, eW, eq⟩
          have hi40 := iv.hi
          refine ⟨_, rfl, R0, rs, rfl, .inl (SqL.of eR), _, rfl, by omega, by omega, ?_⟩
          rw [Int.toNat_natCast]
          refine for_range (lo := 0) (n := rs.length) (fun i σ H' => ∃ kv : Option V, σ = [some (.ref a), tv, some (.ref W), some (.ref D1), some (.ref R0), some (.ref Z), some (.ref Y), cv, dv, rv, sv, fv, lv, kv, ov] ∧ Same H11 H') ⟨kv, rfl, Same.refl _⟩ ?_ ?_
          · rintro i σ H12 hi ⟨kv, rfl, s12⟩
            obtain ⟨v, D, Y', f1, f2, f3, kp⟩ := iv.get hi
            have kp12 := kp.same s12
            obtain ⟨_, t0, rfl, ct, tt⟩ := id kp12.told
            have ix : ∀ {xs : List V} {v : V}, xs[i]? = some v → atI xs (0 + (i : Int)) = some v := fun e => by
              rw [Int.zero_add]
              exact atI_nat e
            refine ⟨_, rfl, _, rfl, R0, rs, _, _, rfl, rfl, SqL.of (s12 _ _ eR), ix f1, _, rfl, _, rfl, Z, ks, _, D, rfl, rfl, SqL.of (s12 _ _ eZ), ix f2, _, D, All, All, t0, rfl, ct, tt, fun H13 s13 => ⟨_, rfl, iteF ?_⟩⟩
            have s113 := s12.trans s13
            obtain ⟨b, gs, t1, y, e1, rfl, cc, pc, nc, _, _, tx⟩ := kp.same s113
            cases e1
            obtain ⟨dx, vs', eb⟩ := Rc.ins cc
            refine ⟨_, rfl, _, rfl, R0, rs, _, _, rfl, rfl, SqL.of (s113 _ _ eR), ix f1, _, dx, vs', rfl, eb, _, gs, rfl, cc, bd_of (by omega) wn pc cc, by omega, fun y2 H14 tx2 s14 => ⟨y2, rfl, ?_⟩⟩
            have s114 := s113.trans s14
            refine ⟨_, rfl, _, rfl, Y, ts, _, _, rfl, rfl, SqL.of (s114 _ _ eY), ix f3, ?_⟩
            have ey : y2 = y := Tx.one tx2 tx (Lw.Rc.one cc cc)
            subst ey
            refine ⟨rfl, _, rfl, ?_⟩
            rw [show decide (V.str y2 = V.str y2) = true from decide_eq_true rfl]
            exact iteF ⟨_, rfl, s114⟩
          · rintro σ H12 ⟨kv, rfl, s12⟩
            exact q _
end
end Lw
namespace Lw
open PySem PySem.Spec PyProof.Rows L2 GrT GrOwn GrMg StX Qd Ra
theorem all_mk {l : PySem.W.OpenLaw} {w : World} {K : PySem.W.Frag} {h : Heap} {mg : Str → Option Value} {fa C RE CB fB cdB ccB NB CN fN cdN ccN NN CT fT cdT ccT NT CS fS cdS ccS NS pm ps f1 f2 f3 f4 f5 f6 f7 f8 f9 f10 f11 f12 f13 f14 f15 f16 f17 f18 f19 f20 f21 f22 f23 f24 f25 f26 f27 f28 f29 f30 f31 f32 f33 f34 f35 f36 f37 f38 f39 f40 f41 : Addr} {cdC : ClassData} {ocC : Value} {odC : Option Addr} {slC : Array (Option Value)} {tL : Tok} {cdR : ClassData} {ocR : Value} {odR : Option Addr} {slR : Array (Option Value)} {nmB qB fileB : Str} {bsB bmB subB : List Value} {snB : List Str} {abB : Bool} {colB : Option Bool} {ddB odB anB cddB cldB : Option Addr} {k0B k1B k2B k3B k5B : Option Value} {ocB kVB dcB pmB ctB cclB clB : Value} {slB ccsB cslB : Array (Option Value)} {vsB : Array Value} {tfB : Tok} {nmN qN fileN : Str} {bsN bmN subN : List Value} {snN : List Str} {abN : Bool} {colN : Option Bool} {ddN odN anN cddN cldN : Option Addr} {k0N k1N k2N k3N k5N : Option Value} {ocN kVN dcN pmN ctN cclN clN : Value} {slN ccsN cslN : Array (Option Value)} {vsN : Array Value} {tfN : Tok} {nmT qT fileT : Str} {bsT bmT subT : List Value} {snT : List Str} {abT : Bool} {colT : Option Bool} {ddT odT anT cddT cldT : Option Addr} {k0T k1T k2T k3T k5T : Option Value} {ocT kVT dcT pmT ctT cclT clT : Value} {slT ccsT cslT : Array (Option Value)} {vsT : Array Value} {tfT : Tok} {nmS qS fileS : Str} {bsS bmS subS : List Value} {snS : List Str} {abS : Bool} {colS : Option Bool} {ddS odS anS cddS cldS : Option Addr} {k0S k1S k2S k3S k5S : Option Value} {ocS kVS dcS pmS ctS cclS clS : Value} {slS ccsS cslS : Array (Option Value)} {vsS : Array Value} {tfS : Tok} {rest1 : List Value} {rest2 : List Value} (X : K.In h) (G : h.Ns mainGlobals mg) (hfa : mg "law" = some (.ref fa))
    {od1 an1 od2 an2 od3 an3 od4 an4 od5 an5 od6 an6 od7 an7 od8 an8 od9 an9 od10 an10 od11 an11 od12 an12 od13 an13 od14 an14 od15 an15 od16 an16 od17 an17 od18 an18 od19 an19 od20 an20 od21 an21 od22 an22 od23 an23 od24 an24 od25 an25 od26 an26 od27 an27 od28 an28 od29 an29 od30 an30 od31 an31 od32 an32 od33 an33 od34 an34 od35 an35 od36 an36 od37 an37 od38 an38 od39 an39 od40 an40 od41 an41 : Option Addr} {sl1 sl2 sl3 sl4 sl5 sl6 sl7 sl8 sl9 sl10 sl11 sl12 sl13 sl14 sl15 sl16 sl17 sl18 sl19 sl20 sl21 sl22 sl23 sl24 sl25 sl26 sl27 sl28 sl29 sl30 sl31 sl32 sl33 sl34 sl35 sl36 sl37 sl38 sl39 sl40 sl41 : Array (Option Value)} {oc1 kV1 dc1 pm1 cd1 ct1 oc2 kV2 dc2 pm2 cd2 ct2 oc3 kV3 dc3 pm3 cd3 ct3 oc4 kV4 dc4 pm4 cd4 ct4 oc5 kV5 dc5 pm5 cd5 ct5 oc6 kV6 dc6 pm6 cd6 ct6 oc7 kV7 dc7 pm7 cd7 ct7 oc8 kV8 dc8 pm8 cd8 ct8 oc9 kV9 dc9 pm9 cd9 ct9 oc10 kV10 dc10 pm10 cd10 ct10 oc11 kV11 dc11 pm11 cd11 ct11 oc12 kV12 dc12 pm12 cd12 ct12 oc13 kV13 dc13 pm13 cd13 ct13 oc14 kV14 dc14 pm14 cd14 ct14 oc15 kV15 dc15 pm15 cd15 ct15 oc16 kV16 dc16 pm16 cd16 ct16 oc17 kV17 dc17 pm17 cd17 ct17 oc18 kV18 dc18 pm18 cd18 ct18 oc19 kV19 dc19 pm19 cd19 ct19 oc20 kV20 dc20 pm20 cd20 ct20 oc21 kV21 dc21 pm21 cd21 ct21 oc22 kV22 dc22 pm22 cd22 ct22 oc23 kV23 dc23 pm23 cd23 ct23 oc24 kV24 dc24 pm24 cd24 ct24 oc25 kV25 dc25 pm25 cd25 ct25 oc26 kV26 dc26 pm26 cd26 ct26 oc27 kV27 dc27 pm27 cd27 ct27 oc28 kV28 dc28 pm28 cd28 ct28 oc29 kV29 dc29 pm29 cd29 ct29 oc30 kV30 dc30 pm30 cd30 ct30 oc31 kV31 dc31 pm31 cd31 ct31 oc32 kV32 dc32 pm32 cd32 ct32 oc33 kV33 dc33 pm33 cd33 ct33 oc34 kV34 dc34 pm34 cd34 ct34 oc35 kV35 dc35 pm35 cd35 ct35 oc36 kV36 dc36 pm36 cd36 ct36 oc37 kV37 dc37 pm37 cd37 ct37 oc38 kV38 dc38 pm38 cd38 ct38 oc39 kV39 dc39 pm39 cd39 ct39 oc40 kV40 dc40 pm40 cd40 ct40 oc41 kV41 dc41 pm41 cd41 ct41 : Value}
    (aC : PySem.W.nsIn K mainGlobals "Record" = some (some (.ref C)))
    (pg : PySem.W.plainGet K C Str.empty = true)
    (hd : PySem.W.hasDictIn K C = true)
    (po : PySem.W.plainOver K C = true)
    (sa : PySem.W.findIn K (.ref C) "__setattr__" = some (some (.builtin "object.__setattr__")))
    (mk : PySem.W.makesIn K C = true)
    (kc : PySem.W.keepIn K (.ref C) = true)
    (nN : PySem.W.findIn K (.ref C) "names" = some none)
    (nF : PySem.W.findIn K (.ref C) "_fields" = some none)
    (nS : PySem.W.findIn K (.ref C) "_size" = some none)
    (ha : PySem.W.findIn K (.ref C) "__class__" = some (some (.builtin "object.__class__")))
    (hn : PySem.W.specialIn K (.builtin "object.__class__") "__get__" = some (some (.builtin "getset_descriptor.__get__")))
    (htk : PySem.W.takesIn K (.builtin "object.__class__") = some true)
    (hm : PySem.W.mroIn K C (.type "object") = some true)
    (cI : K.lookup C = some ⟨ocC, odC, .cls cdC, slC⟩)
    (tI : PySem.W.typeIn K (.ref C) = some (.type "type"))
    (sD : PySem.W.subIn K (.ref C) (.type "dict") = some false)
    (sI : PySem.W.subIn K (.type "int") (.ref C) = some false)
    (sR : PySem.W.subIn K (.ref C) (.type "int") = some false)
    (gL : PySem.W.nsIn K mainGlobals "LONGEST_NAME" = some (some (.int 30 tL)))
    (sf : PySem.W.selfFirst K C = true)
    (aR : PySem.W.nsIn K mainGlobals "RecordsError" = some (some (.ref RE)))
    (lR : K.lookup RE = some ⟨ocR, odR, .cls cdR, slR⟩)
    (tR : PySem.W.typeIn K (.ref RE) = some (.type "type"))
    (hoS : PySem.W.nsIn K cStatics "thirdparty.any" = some none)
    (tpS : (l.prog.main.scope.names.lookup ("super" : Str)).isSome = false)
    (aB : PySem.W.nsIn K mainGlobals "BadName" = some (some (.ref CB)))
    (cB : K.lookup CB = some (excClassObj nmB qB CB NB bsB bmB true snB subB abB colB ddB k0B k1B k2B k3B k5B "ValueError.__new__"))
    (vB : PySem.HandSPX.refsVE bmB = true)
    (zB : PySem.W.findIn K (.ref CB) "__setattr__" = some (some (.builtin "object.__setattr__")))
    (bB : PySem.W.subIn K (.ref CB) (.type "BaseException") = some true)
    (tB : PySem.W.typeIn K (.ref CB) = some (.type "type"))
    (kB : PySem.W.keepIn K (.ref CB) = true)
    (iB : PySem.W.findIn K (.ref CB) "__init__" = some (some (.ref fB)))
    (yB : PySem.W.typeIn K (.ref fB) = some (.type "function"))
    (lB : K.lookup fB = some ⟨ocB, odB, .func (PySem.W.ksFn "__init__" "BadName.__init__" (defArgs sBadInit) (defBody sBadInit) (defScope sBadInit) .none kVB dcB pmB anB (.ref cdB) ctB ccB), slB⟩)
    (dB : PySem.W.codeIn K (.ref cdB) "BadName.__init__" = true)
    (eB : K.lookup cdB = some ⟨cclB, cddB, .fields vsB, ccsB⟩)
    (wB : vsB[2]? = some (.str fileB tfB))
    (xB : ((l.prog.main.file : Str) == fileB) = true)
    (oB : K.lookup ccB = some ⟨clB, cldB, .cell (some (.ref CB)), cslB⟩)
    (hmB : PySem.W.ks_superIn K CB CB "__init__" = some (some (.builtin "ValueError.__init__")))
    (hBB : PySem.W.subIn K (.ref CB) (.type "ValueError") = some true)
    (mB : PySem.W.mroIn K CB (.ref CB) = some true)
    (nnB : PySem.W.findIn K (.ref CB) "name" = some none)
    (ssB : PySem.W.subIn K (.ref CB) (.ref CB) = some true)
    (hdB : PySem.W.hasDictIn K CB = true)
    (gaB : PySem.W.findIn K (.ref CB) "__getattribute__" = some (some (.builtin "BaseException.__getattribute__")))
    (ggB : PySem.W.findIn K (.ref CB) "__getattr__" = some none)
    (haB : PySem.W.findIn K (.ref CB) "__class__" = some (some (.builtin "object.__class__")))
    (moB : PySem.W.mroIn K CB (.type "object") = some true)
    (rB : PySem.W.subIn K (.ref CB) (.ref RE) = some true)
    (aN : PySem.W.nsIn K mainGlobals "NoField" = some (some (.ref CN)))
    (cN : K.lookup CN = some (excClassObj nmN qN CN NN bsN bmN true snN subN abN colN ddN k0N k1N k2N k3N k5N "ValueError.__new__"))
    (vN : PySem.HandSPX.refsVE bmN = true)
    (zN : PySem.W.findIn K (.ref CN) "__setattr__" = some (some (.builtin "object.__setattr__")))
    (bN : PySem.W.subIn K (.ref CN) (.type "BaseException") = some true)
    (tN : PySem.W.typeIn K (.ref CN) = some (.type "type"))
    (kN : PySem.W.keepIn K (.ref CN) = true)
    (iN : PySem.W.findIn K (.ref CN) "__init__" = some (some (.ref fN)))
    (yN : PySem.W.typeIn K (.ref fN) = some (.type "function"))
    (lN : K.lookup fN = some ⟨ocN, odN, .func (PySem.W.ksFn "__init__" "NoField.__init__" (defArgs sNoInit) (defBody sNoInit) (defScope sNoInit) .none kVN dcN pmN anN (.ref cdN) ctN ccN), slN⟩)
    (dN : PySem.W.codeIn K (.ref cdN) "NoField.__init__" = true)
    (eN : K.lookup cdN = some ⟨cclN, cddN, .fields vsN, ccsN⟩)
    (wN : vsN[2]? = some (.str fileN tfN))
    (xN : ((l.prog.main.file : Str) == fileN) = true)
    (oN : K.lookup ccN = some ⟨clN, cldN, .cell (some (.ref CN)), cslN⟩)
    (hmN : PySem.W.ks_superIn K CN CN "__init__" = some (some (.builtin "ValueError.__init__")))
    (hBN : PySem.W.subIn K (.ref CN) (.type "ValueError") = some true)
    (mN : PySem.W.mroIn K CN (.ref CN) = some true)
    (nnN : PySem.W.findIn K (.ref CN) "name" = some none)
    (ssN : PySem.W.subIn K (.ref CN) (.ref CN) = some true)
    (hdN : PySem.W.hasDictIn K CN = true)
    (gaN : PySem.W.findIn K (.ref CN) "__getattribute__" = some (some (.builtin "BaseException.__getattribute__")))
    (ggN : PySem.W.findIn K (.ref CN) "__getattr__" = some none)
    (haN : PySem.W.findIn K (.ref CN) "__class__" = some (some (.builtin "object.__class__")))
    (moN : PySem.W.mroIn K CN (.type "object") = some true)
    (rN : PySem.W.subIn K (.ref CN) (.ref RE) = some true)
    (aT : PySem.W.nsIn K mainGlobals "FieldThere" = some (some (.ref CT)))
    (cT : K.lookup CT = some (excClassObj nmT qT CT NT bsT bmT true snT subT abT colT ddT k0T k1T k2T k3T k5T "ValueError.__new__"))
    (vT : PySem.HandSPX.refsVE bmT = true)
    (zT : PySem.W.findIn K (.ref CT) "__setattr__" = some (some (.builtin "object.__setattr__")))
    (bT : PySem.W.subIn K (.ref CT) (.type "BaseException") = some true)
    (tT : PySem.W.typeIn K (.ref CT) = some (.type "type"))
    (kT : PySem.W.keepIn K (.ref CT) = true)
    (iT : PySem.W.findIn K (.ref CT) "__init__" = some (some (.ref fT)))
    (yT : PySem.W.typeIn K (.ref fT) = some (.type "function"))
    (lT : K.lookup fT = some ⟨ocT, odT, .func (PySem.W.ksFn "__init__" "FieldThere.__init__" (defArgs sThInit) (defBody sThInit) (defScope sThInit) .none kVT dcT pmT anT (.ref cdT) ctT ccT), slT⟩)
    (dT : PySem.W.codeIn K (.ref cdT) "FieldThere.__init__" = true)
    (eT : K.lookup cdT = some ⟨cclT, cddT, .fields vsT, ccsT⟩)
    (wT : vsT[2]? = some (.str fileT tfT))
    (xT : ((l.prog.main.file : Str) == fileT) = true)
    (oT : K.lookup ccT = some ⟨clT, cldT, .cell (some (.ref CT)), cslT⟩)
    (hmT : PySem.W.ks_superIn K CT CT "__init__" = some (some (.builtin "ValueError.__init__")))
    (hBT : PySem.W.subIn K (.ref CT) (.type "ValueError") = some true)
    (mT : PySem.W.mroIn K CT (.ref CT) = some true)
    (nnT : PySem.W.findIn K (.ref CT) "name" = some none)
    (ssT : PySem.W.subIn K (.ref CT) (.ref CT) = some true)
    (hdT : PySem.W.hasDictIn K CT = true)
    (gaT : PySem.W.findIn K (.ref CT) "__getattribute__" = some (some (.builtin "BaseException.__getattribute__")))
    (ggT : PySem.W.findIn K (.ref CT) "__getattr__" = some none)
    (haT : PySem.W.findIn K (.ref CT) "__class__" = some (some (.builtin "object.__class__")))
    (moT : PySem.W.mroIn K CT (.type "object") = some true)
    (rT : PySem.W.subIn K (.ref CT) (.ref RE) = some true)
    (aS : PySem.W.nsIn K mainGlobals "Shared" = some (some (.ref CS)))
    (cS : K.lookup CS = some (excClassObj nmS qS CS NS bsS bmS true snS subS abS colS ddS k0S k1S k2S k3S k5S "ValueError.__new__"))
    (vS : PySem.HandSPX.refsVE bmS = true)
    (zS : PySem.W.findIn K (.ref CS) "__setattr__" = some (some (.builtin "object.__setattr__")))
    (bS : PySem.W.subIn K (.ref CS) (.type "BaseException") = some true)
    (tS : PySem.W.typeIn K (.ref CS) = some (.type "type"))
    (kS : PySem.W.keepIn K (.ref CS) = true)
    (iS : PySem.W.findIn K (.ref CS) "__init__" = some (some (.ref fS)))
    (yS : PySem.W.typeIn K (.ref fS) = some (.type "function"))
    (lS : K.lookup fS = some ⟨ocS, odS, .func (PySem.W.ksFn "__init__" "Shared.__init__" (defArgs sShInit) (defBody sShInit) (defScope sShInit) .none kVS dcS pmS anS (.ref cdS) ctS ccS), slS⟩)
    (dS : PySem.W.codeIn K (.ref cdS) "Shared.__init__" = true)
    (eS : K.lookup cdS = some ⟨cclS, cddS, .fields vsS, ccsS⟩)
    (wS : vsS[2]? = some (.str fileS tfS))
    (xS : ((l.prog.main.file : Str) == fileS) = true)
    (oS : K.lookup ccS = some ⟨clS, cldS, .cell (some (.ref CS)), cslS⟩)
    (hmS : PySem.W.ks_superIn K CS CS "__init__" = some (some (.builtin "ValueError.__init__")))
    (hBS : PySem.W.subIn K (.ref CS) (.type "ValueError") = some true)
    (mS : PySem.W.mroIn K CS (.ref CS) = some true)
    (nnS : PySem.W.findIn K (.ref CS) "name" = some none)
    (ssS : PySem.W.subIn K (.ref CS) (.ref CS) = some true)
    (hdS : PySem.W.hasDictIn K CS = true)
    (gaS : PySem.W.findIn K (.ref CS) "__getattribute__" = some (some (.builtin "BaseException.__getattribute__")))
    (ggS : PySem.W.findIn K (.ref CS) "__getattr__" = some none)
    (haS : PySem.W.findIn K (.ref CS) "__class__" = some (some (.builtin "object.__class__")))
    (moS : PySem.W.mroIn K CS (.type "object") = some true)
    (rS : PySem.W.subIn K (.ref CS) (.ref RE) = some true)
    (bR : PySem.W.subIn K (.ref RE) (.type "BaseException") = some true)
    (hdR : PySem.W.hasDictIn K RE = true)
    (hne : PySem.W.findIn K (.ref C) "__ne__" = some (some (.builtin "object.__ne__")))
    (hfm : PySem.W.findIn K (.ref C) "__format__" = some (some (.builtin "object.__format__")))
    (a1 : PySem.W.nsIn K mainGlobals "_law_cell" = some (some (.ref f1)))
    (l1 : K.lookup f1 = some ⟨oc1, od1, .func (PySem.W.fnOf "_law_cell" "_law_cell" (defArgs sCell) (defBody sCell) (defScope sCell) .none kV1 dc1 pm1 an1 cd1 ct1), sl1⟩)
    (c1 : PySem.W.codeIn K cd1 "_law_cell" = true)
    (k1 : PySem.W.keepIn K (.ref f1) = true)
    (a2 : PySem.W.nsIn K mainGlobals "_law_mixed" = some (some (.ref f2)))
    (l2 : K.lookup f2 = some ⟨oc2, od2, .func (PySem.W.fnOf "_law_mixed" "_law_mixed" (defArgs sMixed) (defBody sMixed) (defScope sMixed) .none kV2 dc2 pm2 an2 cd2 ct2), sl2⟩)
    (c2 : PySem.W.codeIn K cd2 "_law_mixed" = true)
    (k2 : PySem.W.keepIn K (.ref f2) = true)
    (a3 : PySem.W.nsIn K mainGlobals "_law_tape" = some (some (.ref f3)))
    (l3 : K.lookup f3 = some ⟨oc3, od3, .func (PySem.W.fnOf "_law_tape" "_law_tape" (defArgs sTape) (defBody sTape) (defScope sTape) .none kV3 dc3 pm3 an3 cd3 ct3), sl3⟩)
    (c3 : PySem.W.codeIn K cd3 "_law_tape" = true)
    (k3 : PySem.W.keepIn K (.ref f3) = true)
    (a4 : PySem.W.nsIn K mainGlobals "_law_take" = some (some (.ref f4)))
    (l4 : K.lookup f4 = some ⟨oc4, od4, .func (PySem.W.fnOf "_law_take" "_law_take" (defArgs sTake) (defBody sTake) (defScope sTake) .none kV4 dc4 pm4 an4 cd4 ct4), sl4⟩)
    (c4 : PySem.W.codeIn K cd4 "_law_take" = true)
    (k4 : PySem.W.keepIn K (.ref f4) = true)
    (a5 : PySem.W.nsIn K mainGlobals "_law_number" = some (some (.ref f5)))
    (l5 : K.lookup f5 = some ⟨oc5, od5, .func (PySem.W.fnOf "_law_number" "_law_number" (defArgs sNumber) (defBody sNumber) (defScope sNumber) .none kV5 dc5 pm5 an5 cd5 ct5), sl5⟩)
    (c5 : PySem.W.codeIn K cd5 "_law_number" = true)
    (k5 : PySem.W.keepIn K (.ref f5) = true)
    (a6 : PySem.W.nsIn K mainGlobals "_law_word" = some (some (.ref f6)))
    (l6 : K.lookup f6 = some ⟨oc6, od6, .func (PySem.W.fnOf "_law_word" "_law_word" (defArgs sWord) (defBody sWord) (defScope sWord) .none kV6 dc6 pm6 an6 cd6 ct6), sl6⟩)
    (c6 : PySem.W.codeIn K cd6 "_law_word" = true)
    (k6 : PySem.W.keepIn K (.ref f6) = true)
    (a7 : PySem.W.nsIn K mainGlobals "_law_words" = some (some (.ref f7)))
    (l7 : K.lookup f7 = some ⟨oc7, od7, .func (PySem.W.fnOf "_law_words" "_law_words" (defArgs sWords) (defBody sWords) (defScope sWords) .none kV7 dc7 pm7 an7 cd7 ct7), sl7⟩)
    (c7 : PySem.W.codeIn K cd7 "_law_words" = true)
    (k7 : PySem.W.keepIn K (.ref f7) = true)
    (a8 : PySem.W.nsIn K mainGlobals "_law_pick" = some (some (.ref f8)))
    (l8 : K.lookup f8 = some ⟨oc8, od8, .func (PySem.W.fnOf "_law_pick" "_law_pick" (defArgs sPick) (defBody sPick) (defScope sPick) .none kV8 dc8 pm8 an8 cd8 ct8), sl8⟩)
    (c8 : PySem.W.codeIn K cd8 "_law_pick" = true)
    (k8 : PySem.W.keepIn K (.ref f8) = true)
    (a9 : PySem.W.nsIn K mainGlobals "_law_long" = some (some (.ref f9)))
    (l9 : K.lookup f9 = some ⟨oc9, od9, .func (PySem.W.fnOf "_law_long" "_law_long" (defArgs sLong) (defBody sLong) (defScope sLong) .none kV9 dc9 pm9 an9 cd9 ct9), sl9⟩)
    (c9 : PySem.W.codeIn K cd9 "_law_long" = true)
    (k9 : PySem.W.keepIn K (.ref f9) = true)
    (a10 : PySem.W.nsIn K mainGlobals "_law_pool" = some (some (.ref f10)))
    (l10 : K.lookup f10 = some ⟨oc10, od10, .func (PySem.W.fnOf "_law_pool" "_law_pool" (defArgs sPool) (defBody sPool) (defScope sPool) .none kV10 dc10 pm10 an10 cd10 ct10), sl10⟩)
    (c10 : PySem.W.codeIn K cd10 "_law_pool" = true)
    (k10 : PySem.W.keepIn K (.ref f10) = true)
    (a11 : PySem.W.nsIn K mainGlobals "_law_fields" = some (some (.ref f11)))
    (l11 : K.lookup f11 = some ⟨oc11, od11, .func (PySem.W.fnOf "_law_fields" "_law_fields" (defArgs sFields) (defBody sFields) (defScope sFields) .none kV11 dc11 pm11 an11 cd11 ct11), sl11⟩)
    (c11 : PySem.W.codeIn K cd11 "_law_fields" = true)
    (k11 : PySem.W.keepIn K (.ref f11) = true)
    (a12 : PySem.W.nsIn K mainGlobals "_law_count" = some (some (.ref f12)))
    (l12 : K.lookup f12 = some ⟨oc12, od12, .func (PySem.W.fnOf "_law_count" "_law_count" (defArgs sCount) (defBody sCount) (defScope sCount) .none kV12 dc12 pm12 an12 cd12 ct12), sl12⟩)
    (c12 : PySem.W.codeIn K cd12 "_law_count" = true)
    (k12 : PySem.W.keepIn K (.ref f12) = true)
    (a13 : PySem.W.nsIn K mainGlobals "_law_sorted" = some (some (.ref f13)))
    (l13 : K.lookup f13 = some ⟨oc13, od13, .func (PySem.W.fnOf "_law_sorted" "_law_sorted" (defArgs sSorted) (defBody sSorted) (defScope sSorted) .none kV13 dc13 pm13 an13 cd13 ct13), sl13⟩)
    (c13 : PySem.W.codeIn K cd13 "_law_sorted" = true)
    (k13 : PySem.W.keepIn K (.ref f13) = true)
    (a14 : PySem.W.nsIn K mainGlobals "_law_is_integer" = some (some (.ref f14)))
    (l14 : K.lookup f14 = some ⟨oc14, od14, .func (PySem.W.fnOf "_law_is_integer" "_law_is_integer" (defArgs sIsInt) (defBody sIsInt) (defScope sIsInt) .none kV14 dc14 pm14 an14 cd14 ct14), sl14⟩)
    (c14 : PySem.W.codeIn K cd14 "_law_is_integer" = true)
    (k14 : PySem.W.keepIn K (.ref f14) = true)
    (a15 : PySem.W.nsIn K mainGlobals "_law_told" = some (some (.ref f15)))
    (l15 : K.lookup f15 = some ⟨oc15, od15, .func (PySem.W.fnOf "_law_told" "_law_told" (defArgs sTold) (defBody sTold) (defScope sTold) .none kV15 dc15 pm15 an15 cd15 ct15), sl15⟩)
    (c15 : PySem.W.codeIn K cd15 "_law_told" = true)
    (k15 : PySem.W.keepIn K (.ref f15) = true)
    (a16 : PySem.W.nsIn K mainGlobals "_law_called" = some (some (.ref f16)))
    (l16 : K.lookup f16 = some ⟨oc16, od16, .func (PySem.W.fnOf "_law_called" "_law_called" (defArgs sCalled) (defBody sCalled) (defScope sCalled) .none kV16 dc16 pm16 an16 cd16 ct16), sl16⟩)
    (c16 : PySem.W.codeIn K cd16 "_law_called" = true)
    (k16 : PySem.W.keepIn K (.ref f16) = true)
    (a17 : PySem.W.nsIn K mainGlobals "_law_depth" = some (some (.ref f17)))
    (l17 : K.lookup f17 = some ⟨oc17, od17, .func (PySem.W.fnOf "_law_depth" "_law_depth" (defArgs sDepth) (defBody sDepth) (defScope sDepth) .none kV17 dc17 pm17 an17 cd17 ct17), sl17⟩)
    (c17 : PySem.W.codeIn K cd17 "_law_depth" = true)
    (k17 : PySem.W.keepIn K (.ref f17) = true)
    (a18 : PySem.W.nsIn K mainGlobals "_law_looked" = some (some (.ref f18)))
    (l18 : K.lookup f18 = some ⟨oc18, od18, .func (PySem.W.fnOf "_law_looked" "_law_looked" (defArgs sLooked) (defBody sLooked) (defScope sLooked) .none kV18 dc18 pm18 an18 cd18 ct18), sl18⟩)
    (c18 : PySem.W.codeIn K cd18 "_law_looked" = true)
    (k18 : PySem.W.keepIn K (.ref f18) = true)
    (a19 : PySem.W.nsIn K mainGlobals "law" = some (some (.ref f19)))
    (l19 : K.lookup f19 = some ⟨oc19, od19, .func (PySem.W.fnOf "law" "law" (defArgs sLaw) (defBody sLaw) (defScope sLaw) .none kV19 dc19 pm19 an19 cd19 ct19), sl19⟩)
    (c19 : PySem.W.codeIn K cd19 "law" = true)
    (k19 : PySem.W.keepIn K (.ref f19) = true)
    (a20 : PySem.W.nsIn K mainGlobals "is_name" = some (some (.ref f20)))
    (l20 : K.lookup f20 = some ⟨oc20, od20, .func (PySem.W.fnOf "is_name" "is_name" (defArgs sIsName) (defBody sIsName) (defScope sIsName) .none kV20 dc20 pm20 an20 cd20 ct20), sl20⟩)
    (c20 : PySem.W.codeIn K cd20 "is_name" = true)
    (k20 : PySem.W.keepIn K (.ref f20) = true)
    (a21 : PySem.W.nsIn K mainGlobals "value_size" = some (some (.ref f21)))
    (l21 : K.lookup f21 = some ⟨oc21, od21, .func (PySem.W.fnOf "value_size" "value_size" (defArgs sValueSize) (defBody sValueSize) (defScope sValueSize) .none kV21 dc21 pm21 an21 cd21 ct21), sl21⟩)
    (c21 : PySem.W.codeIn K cd21 "value_size" = true)
    (k21 : PySem.W.keepIn K (.ref f21) = true)
    (a22 : PySem.W.nsIn K mainGlobals "extends" = some (some (.ref f22)))
    (l22 : K.lookup f22 = some ⟨oc22, od22, .func (PySem.W.fnOf "extends" "extends" (defArgs sExtends) (defBody sExtends) (defScope sExtends) .none kV22 dc22 pm22 an22 cd22 ct22), sl22⟩)
    (c22 : PySem.W.codeIn K cd22 "extends" = true)
    (k22 : PySem.W.keepIn K (.ref f22) = true)
    (a23 : PySem.W.findIn K (.ref C) "__init__" = some (some (.ref f23)))
    (i23 : PySem.W.isFn K (.ref f23) = true)
    (j23 : PySem.W.fnIn K f23 = true)
    (l23 : K.lookup f23 = some ⟨oc23, od23, .func (PySem.W.fnOf "__init__" "Record.__init__" (defArgs sInit) (defBody sInit) (defScope sInit) .none kV23 dc23 pm23 an23 cd23 ct23), sl23⟩)
    (c23 : PySem.W.codeIn K cd23 "Record.__init__" = true)
    (k23 : PySem.W.keepIn K (.ref f23) = true)
    (a24 : PySem.W.findIn K (.ref C) "__contains__" = some (some (.ref f24)))
    (i24 : PySem.W.isFn K (.ref f24) = true)
    (j24 : PySem.W.fnIn K f24 = true)
    (l24 : K.lookup f24 = some ⟨oc24, od24, .func (PySem.W.fnOf "__contains__" "Record.__contains__" (defArgs sContains) (defBody sContains) (defScope sContains) .none kV24 dc24 pm24 an24 cd24 ct24), sl24⟩)
    (c24 : PySem.W.codeIn K cd24 "Record.__contains__" = true)
    (k24 : PySem.W.keepIn K (.ref f24) = true)
    (a25 : PySem.W.findIn K (.ref C) "__len__" = some (some (.ref f25)))
    (i25 : PySem.W.isFn K (.ref f25) = true)
    (j25 : PySem.W.fnIn K f25 = true)
    (l25 : K.lookup f25 = some ⟨oc25, od25, .func (PySem.W.fnOf "__len__" "Record.__len__" (defArgs sLen) (defBody sLen) (defScope sLen) .none kV25 dc25 pm25 an25 cd25 ct25), sl25⟩)
    (c25 : PySem.W.codeIn K cd25 "Record.__len__" = true)
    (k25 : PySem.W.keepIn K (.ref f25) = true)
    (a26 : PySem.W.findIn K (.ref C) "__getitem__" = some (some (.ref f26)))
    (i26 : PySem.W.isFn K (.ref f26) = true)
    (j26 : PySem.W.fnIn K f26 = true)
    (l26 : K.lookup f26 = some ⟨oc26, od26, .func (PySem.W.fnOf "__getitem__" "Record.__getitem__" (defArgs sGet) (defBody sGet) (defScope sGet) .none kV26 dc26 pm26 an26 cd26 ct26), sl26⟩)
    (c26 : PySem.W.codeIn K cd26 "Record.__getitem__" = true)
    (k26 : PySem.W.keepIn K (.ref f26) = true)
    (a27 : PySem.W.findIn K (.ref C) "__iter__" = some (some (.ref f27)))
    (i27 : PySem.W.isFn K (.ref f27) = true)
    (j27 : PySem.W.fnIn K f27 = true)
    (l27 : K.lookup f27 = some ⟨oc27, od27, .func (PySem.W.fnOf "__iter__" "Record.__iter__" (defArgs sIter) (defBody sIter) (defScope sIter) .none kV27 dc27 pm27 an27 cd27 ct27), sl27⟩)
    (c27 : PySem.W.codeIn K cd27 "Record.__iter__" = true)
    (k27 : PySem.W.keepIn K (.ref f27) = true)
    (a28 : PySem.W.findIn K (.ref C) "__or__" = some (some (.ref f28)))
    (i28 : PySem.W.isFn K (.ref f28) = true)
    (j28 : PySem.W.fnIn K f28 = true)
    (l28 : K.lookup f28 = some ⟨oc28, od28, .func (PySem.W.fnOf "__or__" "Record.__or__" (defArgs sOr) (defBody sOr) (defScope sOr) .none kV28 dc28 pm28 an28 cd28 ct28), sl28⟩)
    (c28 : PySem.W.codeIn K cd28 "Record.__or__" = true)
    (k28 : PySem.W.keepIn K (.ref f28) = true)
    (a29 : PySem.W.findIn K (.ref C) "__add__" = some (some (.ref f29)))
    (i29 : PySem.W.isFn K (.ref f29) = true)
    (j29 : PySem.W.fnIn K f29 = true)
    (l29 : K.lookup f29 = some ⟨oc29, od29, .func (PySem.W.fnOf "__add__" "Record.__add__" (defArgs sAdd) (defBody sAdd) (defScope sAdd) .none kV29 dc29 pm29 an29 cd29 ct29), sl29⟩)
    (c29 : PySem.W.codeIn K cd29 "Record.__add__" = true)
    (k29 : PySem.W.keepIn K (.ref f29) = true)
    (a30 : PySem.W.findIn K (.ref C) "__sub__" = some (some (.ref f30)))
    (i30 : PySem.W.isFn K (.ref f30) = true)
    (j30 : PySem.W.fnIn K f30 = true)
    (l30 : K.lookup f30 = some ⟨oc30, od30, .func (PySem.W.fnOf "__sub__" "Record.__sub__" (defArgs sSub) (defBody sSub) (defScope sSub) .none kV30 dc30 pm30 an30 cd30 ct30), sl30⟩)
    (c30 : PySem.W.codeIn K cd30 "Record.__sub__" = true)
    (k30 : PySem.W.keepIn K (.ref f30) = true)
    (a31 : PySem.W.findIn K (.ref C) "__and__" = some (some (.ref f31)))
    (i31 : PySem.W.isFn K (.ref f31) = true)
    (j31 : PySem.W.fnIn K f31 = true)
    (l31 : K.lookup f31 = some ⟨oc31, od31, .func (PySem.W.fnOf "__and__" "Record.__and__" (defArgs sAnd) (defBody sAnd) (defScope sAnd) .none kV31 dc31 pm31 an31 cd31 ct31), sl31⟩)
    (c31 : PySem.W.codeIn K cd31 "Record.__and__" = true)
    (k31 : PySem.W.keepIn K (.ref f31) = true)
    (a32 : PySem.W.findIn K (.ref C) "__eq__" = some (some (.ref f32)))
    (i32 : PySem.W.isFn K (.ref f32) = true)
    (j32 : PySem.W.fnIn K f32 = true)
    (l32 : K.lookup f32 = some ⟨oc32, od32, .func (PySem.W.fnOf "__eq__" "Record.__eq__" (defArgs sEq) (defBody sEq) (defScope sEq) .none kV32 dc32 pm32 an32 cd32 ct32), sl32⟩)
    (c32 : PySem.W.codeIn K cd32 "Record.__eq__" = true)
    (k32 : PySem.W.keepIn K (.ref f32) = true)
    (a33 : PySem.W.findIn K (.ref C) "__le__" = some (some (.ref f33)))
    (i33 : PySem.W.isFn K (.ref f33) = true)
    (j33 : PySem.W.fnIn K f33 = true)
    (l33 : K.lookup f33 = some ⟨oc33, od33, .func (PySem.W.fnOf "__le__" "Record.__le__" (defArgs sLe) (defBody sLe) (defScope sLe) .none kV33 dc33 pm33 an33 cd33 ct33), sl33⟩)
    (c33 : PySem.W.codeIn K cd33 "Record.__le__" = true)
    (k33 : PySem.W.keepIn K (.ref f33) = true)
    (a34 : PySem.W.findIn K (.ref C) "__str__" = some (some (.ref f34)))
    (i34 : PySem.W.isFn K (.ref f34) = true)
    (j34 : PySem.W.fnIn K f34 = true)
    (l34 : K.lookup f34 = some ⟨oc34, od34, .func (PySem.W.fnOf "__str__" "Record.__str__" (defArgs sStr) (defBody sStr) (defScope sStr) .none kV34 dc34 pm34 an34 cd34 ct34), sl34⟩)
    (c34 : PySem.W.codeIn K cd34 "Record.__str__" = true)
    (k34 : PySem.W.keepIn K (.ref f34) = true)
    (a35 : PySem.W.findIn K (.ref C) "plain" = some (some (.ref f35)))
    (i35 : PySem.W.isFn K (.ref f35) = true)
    (j35 : PySem.W.fnIn K f35 = true)
    (l35 : K.lookup f35 = some ⟨oc35, od35, .func (PySem.W.fnOf "plain" "Record.plain" (defArgs sPlain) (defBody sPlain) (defScope sPlain) .none kV35 dc35 pm35 an35 cd35 ct35), sl35⟩)
    (c35 : PySem.W.codeIn K cd35 "Record.plain" = true)
    (k35 : PySem.W.keepIn K (.ref f35) = true)
    (a36 : PySem.W.findIn K (.ref C) "put" = some (some (.ref f36)))
    (i36 : PySem.W.isFn K (.ref f36) = true)
    (j36 : PySem.W.fnIn K f36 = true)
    (l36 : K.lookup f36 = some ⟨oc36, od36, .func (PySem.W.fnOf "put" "Record.put" (defArgs sPut) (defBody sPut) (defScope sPut) .none kV36 dc36 pm36 an36 cd36 ct36), sl36⟩)
    (c36 : PySem.W.codeIn K cd36 "Record.put" = true)
    (k36 : PySem.W.keepIn K (.ref f36) = true)
    (a37 : PySem.W.findIn K (.ref C) "without" = some (some (.ref f37)))
    (i37 : PySem.W.isFn K (.ref f37) = true)
    (j37 : PySem.W.fnIn K f37 = true)
    (l37 : K.lookup f37 = some ⟨oc37, od37, .func (PySem.W.fnOf "without" "Record.without" (defArgs sWithout) (defBody sWithout) (defScope sWithout) .none kV37 dc37 pm37 an37 cd37 ct37), sl37⟩)
    (c37 : PySem.W.codeIn K cd37 "Record.without" = true)
    (k37 : PySem.W.keepIn K (.ref f37) = true)
    (a38 : PySem.W.findIn K (.ref C) "renamed" = some (some (.ref f38)))
    (i38 : PySem.W.isFn K (.ref f38) = true)
    (j38 : PySem.W.fnIn K f38 = true)
    (l38 : K.lookup f38 = some ⟨oc38, od38, .func (PySem.W.fnOf "renamed" "Record.renamed" (defArgs sRen) (defBody sRen) (defScope sRen) .none kV38 dc38 pm38 an38 cd38 ct38), sl38⟩)
    (c38 : PySem.W.codeIn K cd38 "Record.renamed" = true)
    (k38 : PySem.W.keepIn K (.ref f38) = true)
    (a39 : PySem.W.findIn K (.ref C) "paths" = some (some (.ref f39)))
    (i39 : PySem.W.isFn K (.ref f39) = true)
    (j39 : PySem.W.fnIn K f39 = true)
    (l39 : K.lookup f39 = some ⟨oc39, od39, .func (PySem.W.fnOf "paths" "Record.paths" (defArgs Gn.sPaths) (defBody Gn.sPaths) (defScope Gn.sPaths) .none kV39 dc39 pm39 an39 cd39 ct39), sl39⟩)
    (c39 : PySem.W.codeIn K cd39 "Record.paths" = true)
    (k39 : PySem.W.keepIn K (.ref f39) = true)
    (mrd : PySem.W.readsIn K C (.type "type") = true)
    (mga : PySem.W.specialIn K (.ref C) "__getattribute__" = some (some (.builtin "type.__getattribute__")))
    (a40 : PySem.W.findCls K (.ref C) (.type "type") "make" = some (.get (.builtin "staticmethod.__get__") (.ref pm) .none (.ref C)))
    (r40 : PySem.W.recIn K pm "staticmethod" = some (.ref f40 :: rest1))
    (l40 : K.lookup f40 = some ⟨oc40, od40, .func (PySem.W.fnOf "make" "Record.make" (defArgs sMake) (defBody sMake) (defScope sMake) .none kV40 dc40 pm40 an40 cd40 ct40), sl40⟩)
    (c40 : PySem.W.codeIn K cd40 "Record.make" = true)
    (k40 : PySem.W.keepIn K (.ref f40) = true)
    (a41 : PySem.W.findIn K (.ref C) "size" = some (some (.ref ps)))
    (g41 : PySem.W.specialIn K (.ref ps) "__get__" = some (some (.builtin "property.__get__")))
    (t41 : PySem.W.takesIn K (.ref ps) = some true)
    (r41 : PySem.W.recIn K ps "property" = some (.ref f41 :: rest2))
    (l41 : K.lookup f41 = some ⟨oc41, od41, .func (PySem.W.fnOf "size" "Record.size" (defArgs sSize) (defBody sSize) (defScope sSize) .none kV41 dc41 pm41 an41 cd41 ct41), sl41⟩)
    (c41 : PySem.W.codeIn K cd41 "Record.size" = true)
    (k41 : PySem.W.keepIn K (.ref f41) = true)
    (z_len : PySem.W.nsIn K mainGlobals "len" = some none)
    (z_int : PySem.W.nsIn K mainGlobals "int" = some none)
    (z_range : PySem.W.nsIn K mainGlobals "range" = some none)
    (z_isinstance : PySem.W.nsIn K mainGlobals "isinstance" = some none)
    (z_dict : PySem.W.nsIn K mainGlobals "dict" = some none)
    (z_tuple : PySem.W.nsIn K mainGlobals "tuple" = some none)
    (z_bool : PySem.W.nsIn K mainGlobals "bool" = some none)
    (z_list : PySem.W.nsIn K mainGlobals "list" = some none)
    (z_str : PySem.W.nsIn K mainGlobals "str" = some none)
    (z_sum : PySem.W.nsIn K mainGlobals "sum" = some none)
    (z_sorted : PySem.W.nsIn K mainGlobals "sorted" = some none)
    (z_all : PySem.W.nsIn K mainGlobals "all" = some none)
    (z_super : PySem.W.nsIn K mainGlobals "super" = some none)
    (z_ValueError : PySem.W.nsIn K mainGlobals "ValueError" = some none)
    (z_max : PySem.W.nsIn K mainGlobals "max" = some none)
    (z_iter : PySem.W.nsIn K mainGlobals "iter" = some none) :
    ∃ fd : FuncData, (∀ (s : Shared) (v : Value), BindsTo s fd ⟨[v], []⟩ [("script", v)]) ∧ ∀ base : Heap, K.In base → base.Ns mainGlobals mg → FnOk l.prog w K mg base CX0 25 fa fd ["script"] (spLaw K) := by
  have cI1 : PySem.W.clsIn K C = some cdC := by
    unfold PySem.W.clsIn
    rw [cI]
  have kit : ∀ t : Value, ¬ (t = .ref C) → ∀ b, PySem.W.subIn K t (.ref C) = some b → PySem.W.kitOne K t (.ref C) = some b := fun t ht b hb => by
    unfold PySem.W.kitOne
    rw [if_neg (by simpa using ht)]
    show (if ((PySem.W.clsIn K C).isSome && PySem.W.typeIn K (.ref C) == some (.type "type")) = true then PySem.W.subIn K t (.ref C) else none) = some b
    rw [cI1, tI, if_pos (by simp)]
    exact hb
  have R : RecK K mg C := ⟨⟨pg, hd, po, sa⟩, nN, nF, nS, ha, hn, htk, hm, kit _ (by simp) _ sI, (by
    unfold PySem.W.kitOne
    rw [if_neg (by simp)]
    exact sD), (by
    unfold PySem.W.kitOne
    rw [if_pos (by simp)]), sI, sR, PySem.W.mg_of X G aC⟩
  have hL := PySem.W.mg_of X G gL
  have cR1 : PySem.W.clsIn K RE = some cdR := by
    unfold PySem.W.clsIn
    rw [lR]
  have kitR : ∀ t : Value, PySem.W.subIn K t (.ref RE) = some true → PySem.W.kitOne K t (.ref RE) = some true := fun t hb => by
    unfold PySem.W.kitOne
    split
    · rfl
    · show (if ((PySem.W.clsIn K RE).isSome && PySem.W.typeIn K (.ref RE) == some (.type "type")) = true then PySem.W.subIn K t (.ref RE) else none) = some true
      rw [cR1, tR, if_pos (by simp)]
      exact hb
  have OXB : OexC K CB := ⟨⟨_, _, _, _, _, _, _, _, _, _, _, _, _, _, _, cB, vB⟩, zB, bB, tB, kB⟩
  have bnB := (show Binds K (PySem.W.ksFn "__init__" "BadName.__init__" (defArgs sBadInit) (defBody sBadInit) (defScope sBadInit) .none kVB dcB pmB anB (.ref cdB) ctB ccB) ["self", "name"] [] from Binds.all fun us hl => match us, hl with | [_, _], _ => rfl)
  have ZB : ExK l.prog K mg "BadName" "BadName.__init__" sBadInit CB := ⟨OXB, ⟨fB, ccB, cdB, _, _, _, _, _, _, _, _, _, _, _, _, _, _, _, _, _, iB, yB, lB, dB, eB, wB, xB, oB, bnB⟩, PySem.W.mg_none_of X G z_super, PySem.W.mg_of X G aB, tpS, hoS, hmB, hBB, mB, nnB, PySem.W.exm_ref bB hdB tB ssB⟩
  have YB : ErK K mg CB RE := ⟨⟨gaB, ggB, bB, hdB⟩, ⟨gaB, ggB, bB, hdB, haB, hn, htk, moB⟩, PySem.W.mg_of X G aR, PySem.W.mg_none_of X G z_ValueError, kitR _ rB, (by
    unfold PySem.W.kitOne
    rw [if_neg (by simp)]
    show (if PySem.W.kitMeta "ValueError" = true then PySem.W.subIn K (.ref CB) (.type "ValueError") else none) = some true
    rw [if_pos (by decide +kernel)]
    exact hBB)⟩
  have OXN : OexC K CN := ⟨⟨_, _, _, _, _, _, _, _, _, _, _, _, _, _, _, cN, vN⟩, zN, bN, tN, kN⟩
  have bnN := (show Binds K (PySem.W.ksFn "__init__" "NoField.__init__" (defArgs sNoInit) (defBody sNoInit) (defScope sNoInit) .none kVN dcN pmN anN (.ref cdN) ctN ccN) ["self", "name"] [] from Binds.all fun us hl => match us, hl with | [_, _], _ => rfl)
  have ZN : ExK l.prog K mg "NoField" "NoField.__init__" sNoInit CN := ⟨OXN, ⟨fN, ccN, cdN, _, _, _, _, _, _, _, _, _, _, _, _, _, _, _, _, _, iN, yN, lN, dN, eN, wN, xN, oN, bnN⟩, PySem.W.mg_none_of X G z_super, PySem.W.mg_of X G aN, tpS, hoS, hmN, hBN, mN, nnN, PySem.W.exm_ref bN hdN tN ssN⟩
  have YN : ErK K mg CN RE := ⟨⟨gaN, ggN, bN, hdN⟩, ⟨gaN, ggN, bN, hdN, haN, hn, htk, moN⟩, PySem.W.mg_of X G aR, PySem.W.mg_none_of X G z_ValueError, kitR _ rN, (by
    unfold PySem.W.kitOne
    rw [if_neg (by simp)]
    show (if PySem.W.kitMeta "ValueError" = true then PySem.W.subIn K (.ref CN) (.type "ValueError") else none) = some true
    rw [if_pos (by decide +kernel)]
    exact hBN)⟩
  have OXT : OexC K CT := ⟨⟨_, _, _, _, _, _, _, _, _, _, _, _, _, _, _, cT, vT⟩, zT, bT, tT, kT⟩
  have bnT := (show Binds K (PySem.W.ksFn "__init__" "FieldThere.__init__" (defArgs sThInit) (defBody sThInit) (defScope sThInit) .none kVT dcT pmT anT (.ref cdT) ctT ccT) ["self", "name"] [] from Binds.all fun us hl => match us, hl with | [_, _], _ => rfl)
  have ZT : ExK l.prog K mg "FieldThere" "FieldThere.__init__" sThInit CT := ⟨OXT, ⟨fT, ccT, cdT, _, _, _, _, _, _, _, _, _, _, _, _, _, _, _, _, _, iT, yT, lT, dT, eT, wT, xT, oT, bnT⟩, PySem.W.mg_none_of X G z_super, PySem.W.mg_of X G aT, tpS, hoS, hmT, hBT, mT, nnT, PySem.W.exm_ref bT hdT tT ssT⟩
  have YT : ErK K mg CT RE := ⟨⟨gaT, ggT, bT, hdT⟩, ⟨gaT, ggT, bT, hdT, haT, hn, htk, moT⟩, PySem.W.mg_of X G aR, PySem.W.mg_none_of X G z_ValueError, kitR _ rT, (by
    unfold PySem.W.kitOne
    rw [if_neg (by simp)]
    show (if PySem.W.kitMeta "ValueError" = true then PySem.W.subIn K (.ref CT) (.type "ValueError") else none) = some true
    rw [if_pos (by decide +kernel)]
    exact hBT)⟩
  have OXS : OexC K CS := ⟨⟨_, _, _, _, _, _, _, _, _, _, _, _, _, _, _, cS, vS⟩, zS, bS, tS, kS⟩
  have bnS := (show Binds K (PySem.W.ksFn "__init__" "Shared.__init__" (defArgs sShInit) (defBody sShInit) (defScope sShInit) .none kVS dcS pmS anS (.ref cdS) ctS ccS) ["self", "name"] [] from Binds.all fun us hl => match us, hl with | [_, _], _ => rfl)
  have ZS : ExK l.prog K mg "Shared" "Shared.__init__" sShInit CS := ⟨OXS, ⟨fS, ccS, cdS, _, _, _, _, _, _, _, _, _, _, _, _, _, _, _, _, _, iS, yS, lS, dS, eS, wS, xS, oS, bnS⟩, PySem.W.mg_none_of X G z_super, PySem.W.mg_of X G aS, tpS, hoS, hmS, hBS, mS, nnS, PySem.W.exm_ref bS hdS tS ssS⟩
  have YS : ErK K mg CS RE := ⟨⟨gaS, ggS, bS, hdS⟩, ⟨gaS, ggS, bS, hdS, haS, hn, htk, moS⟩, PySem.W.mg_of X G aR, PySem.W.mg_none_of X G z_ValueError, kitR _ rS, (by
    unfold PySem.W.kitOne
    rw [if_neg (by simp)]
    show (if PySem.W.kitMeta "ValueError" = true then PySem.W.subIn K (.ref CS) (.type "ValueError") else none) = some true
    rw [if_pos (by decide +kernel)]
    exact hBS)⟩
  have F1 := fun_mk (st := sCell) l1 c1 k1
  have b1 := F1.binds (ps := ["script", "k"]) fun _ _ _ _ _ _ us hl => match us, hl with | [_, _], _ => rfl
  have D1 : Dfn K mg "_law_cell" sCell ["script", "k"] := ⟨_, _, PySem.W.mg_of X G a1, F1, b1⟩
  have F2 := fun_mk (st := sMixed) l2 c2 k2
  have b2 := F2.binds (ps := ["cell", "k"]) fun _ _ _ _ _ _ us hl => match us, hl with | [_, _], _ => rfl
  have D2 : Dfn K mg "_law_mixed" sMixed ["cell", "k"] := ⟨_, _, PySem.W.mg_of X G a2, F2, b2⟩
  have F3 := fun_mk (st := sTape) l3 c3 k3
  have b3 := F3.binds (ps := ["great", "lesser", "count"]) fun _ _ _ _ _ _ us hl => match us, hl with | [_, _, _], _ => rfl
  have D3 : Dfn K mg "_law_tape" sTape ["great", "lesser", "count"] := ⟨_, _, PySem.W.mg_of X G a3, F3, b3⟩
  have F4 := fun_mk (st := sTake) l4 c4 k4
  have b4 := F4.binds (ps := ["tape", "many"]) fun _ _ _ _ _ _ us hl => match us, hl with | [_, _], _ => rfl
  have D4 : Dfn K mg "_law_take" sTake ["tape", "many"] := ⟨_, _, PySem.W.mg_of X G a4, F4, b4⟩
  have F5 := fun_mk (st := sNumber) l5 c5 k5
  have b5 := F5.binds (ps := ["tape"]) fun _ _ _ _ _ _ us hl => match us, hl with | [_], _ => rfl
  have D5 : Dfn K mg "_law_number" sNumber ["tape"] := ⟨_, _, PySem.W.mg_of X G a5, F5, b5⟩
  have F6 := fun_mk (st := sWord) l6 c6 k6
  have b6 := F6.binds (ps := ["tape", "longest"]) fun _ _ _ _ _ _ us hl => match us, hl with | [_, _], _ => rfl
  have D6 : Dfn K mg "_law_word" sWord ["tape", "longest"] := ⟨_, _, PySem.W.mg_of X G a6, F6, b6⟩
  have F7 := fun_mk (st := sWords) l7 c7 k7
  have b7 := F7.binds (ps := ["tape", "many", "taken"]) fun _ _ _ _ _ _ us hl => match us, hl with | [_, _, _], _ => rfl
  have D7 : Dfn K mg "_law_words" sWords ["tape", "many", "taken"] := ⟨_, _, PySem.W.mg_of X G a7, F7, b7⟩
  have F8 := fun_mk (st := sPick) l8 c8 k8
  have b8 := F8.binds (ps := ["tape", "names"]) fun _ _ _ _ _ _ us hl => match us, hl with | [_, _], _ => rfl
  have D8 : Dfn K mg "_law_pick" sPick ["tape", "names"] := ⟨_, _, PySem.W.mg_of X G a8, F8, b8⟩
  have F9 := fun_mk (st := sLong) l9 c9 k9
  have b9 := F9.binds (ps := ["tape", "word"]) fun _ _ _ _ _ _ us hl => match us, hl with | [_, _], _ => rfl
  have D9 : Dfn K mg "_law_long" sLong ["tape", "word"] := ⟨_, _, PySem.W.mg_of X G a9, F9, b9⟩
  have F10 := fun_mk (st := sPool) l10 c10 k10
  have b10 := F10.binds (ps := ["tape", "many"]) fun _ _ _ _ _ _ us hl => match us, hl with | [_, _], _ => rfl
  have D10 : Dfn K mg "_law_pool" sPool ["tape", "many"] := ⟨_, _, PySem.W.mg_of X G a10, F10, b10⟩
  have F11 := fun_mk (st := sFields) l11 c11 k11
  have b11 := F11.binds (ps := ["tape", "names", "depth"]) fun _ _ _ _ _ _ us hl => match us, hl with | [_, _, _], _ => rfl
  have D11 : Dfn K mg "_law_fields" sFields ["tape", "names", "depth"] := ⟨_, _, PySem.W.mg_of X G a11, F11, b11⟩
  have F12 := fun_mk (st := sCount) l12 c12 k12
  have b12 := F12.binds (ps := ["value"]) fun _ _ _ _ _ _ us hl => match us, hl with | [_], _ => rfl
  have D12 : Dfn K mg "_law_count" sCount ["value"] := ⟨_, _, PySem.W.mg_of X G a12, F12, b12⟩
  have F13 := fun_mk (st := sSorted) l13 c13 k13
  have b13 := F13.binds (ps := ["names"]) fun _ _ _ _ _ _ us hl => match us, hl with | [_], _ => rfl
  have D13 : Dfn K mg "_law_sorted" sSorted ["names"] := ⟨_, _, PySem.W.mg_of X G a13, F13, b13⟩
  have F14 := fun_mk (st := sIsInt) l14 c14 k14
  have b14 := F14.binds (ps := ["found"]) fun _ _ _ _ _ _ us hl => match us, hl with | [_], _ => rfl
  have D14 : Dfn K mg "_law_is_integer" sIsInt ["found"] := ⟨_, _, PySem.W.mg_of X G a14, F14, b14⟩
  have F15 := fun_mk (st := sTold) l15 c15 k15
  have b15 := F15.binds (ps := ["record", "plain"]) fun _ _ _ _ _ _ us hl => match us, hl with | [_, _], _ => rfl
  have D15 : Dfn K mg "_law_told" sTold ["record", "plain"] := ⟨_, _, PySem.W.mg_of X G a15, F15, b15⟩
  have F16 := fun_mk (st := sCalled) l16 c16 k16
  have b16 := F16.binds (ps := ["tape", "names", "r", "s"]) fun _ _ _ _ _ _ us hl => match us, hl with | [_, _, _, _], _ => rfl
  have D16 : Dfn K mg "_law_called" sCalled ["tape", "names", "r", "s"] := ⟨_, _, PySem.W.mg_of X G a16, F16, b16⟩
  have F17 := fun_mk (st := sDepth) l17 c17 k17
  have b17 := F17.binds (ps := ["plain"]) fun _ _ _ _ _ _ us hl => match us, hl with | [_], _ => rfl
  have D17 : Dfn K mg "_law_depth" sDepth ["plain"] := ⟨_, _, PySem.W.mg_of X G a17, F17, b17⟩
  have F18 := fun_mk (st := sLooked) l18 c18 k18
  have b18 := F18.binds (ps := ["r", "s"]) fun _ _ _ _ _ _ us hl => match us, hl with | [_, _], _ => rfl
  have D18 : Dfn K mg "_law_looked" sLooked ["r", "s"] := ⟨_, _, PySem.W.mg_of X G a18, F18, b18⟩
  have F19 := fun_mk (st := sLaw) l19 c19 k19
  have b19 := F19.binds (ps := ["script"]) fun _ _ _ _ _ _ us hl => match us, hl with | [_], _ => rfl
  have F20 := fun_mk (st := sIsName) l20 c20 k20
  have b20 := F20.binds (ps := ["text"]) fun _ _ _ _ _ _ us hl => match us, hl with | [_], _ => rfl
  have D20 : Dfn K mg "is_name" sIsName ["text"] := ⟨_, _, PySem.W.mg_of X G a20, F20, b20⟩
  have F21 := fun_mk (st := sValueSize) l21 c21 k21
  have b21 := F21.binds (ps := ["value"]) fun _ _ _ _ _ _ us hl => match us, hl with | [_], _ => rfl
  have D21 : Dfn K mg "value_size" sValueSize ["value"] := ⟨_, _, PySem.W.mg_of X G a21, F21, b21⟩
  have F22 := fun_mk (st := sExtends) l22 c22 k22
  have b22 := F22.binds (ps := ["large", "small"]) fun _ _ _ _ _ _ us hl => match us, hl with | [_, _], _ => rfl
  have D22 : Dfn K mg "extends" sExtends ["large", "small"] := ⟨_, _, PySem.W.mg_of X G a22, F22, b22⟩
  have F23 := fun_mk (st := sInit) l23 c23 k23
  have b23 := F23.binds (ps := ["self", "fields"]) fun _ _ _ _ _ _ us hl => match us, hl with | [_, _], _ => rfl
  have IN : InK K C := ⟨_, _, ⟨mk, a23, i23, kc⟩, F23, b23⟩
  have F24 := fun_mk (st := sContains) l24 c24 k24
  have b24 := F24.binds (ps := ["self", "name"]) fun _ _ _ _ _ _ us hl => match us, hl with | [_, _], _ => rfl
  have D24 : DfM K C "__contains__" "Record.__contains__" sContains ["self", "name"] := ⟨_, _, ⟨a24, i24⟩, j24, F24, b24⟩
  have F25 := fun_mk (st := sLen) l25 c25 k25
  have b25 := F25.binds (ps := ["self"]) fun _ _ _ _ _ _ us hl => match us, hl with | [_], _ => rfl
  have D25 : DfM K C "__len__" "Record.__len__" sLen ["self"] := ⟨_, _, ⟨a25, i25⟩, j25, F25, b25⟩
  have F26 := fun_mk (st := sGet) l26 c26 k26
  have b26 := F26.binds (ps := ["self", "name"]) fun _ _ _ _ _ _ us hl => match us, hl with | [_, _], _ => rfl
  have D26 : DfM K C "__getitem__" "Record.__getitem__" sGet ["self", "name"] := ⟨_, _, ⟨a26, i26⟩, j26, F26, b26⟩
  have F27 := fun_mk (st := sIter) l27 c27 k27
  have b27 := F27.binds (ps := ["self"]) fun _ _ _ _ _ _ us hl => match us, hl with | [_], _ => rfl
  have D27 : DfM K C "__iter__" "Record.__iter__" sIter ["self"] := ⟨_, _, ⟨a27, i27⟩, j27, F27, b27⟩
  have F28 := fun_mk (st := sOr) l28 c28 k28
  have b28 := F28.binds (ps := ["self", "other"]) fun _ _ _ _ _ _ us hl => match us, hl with | [_, _], _ => rfl
  have D28 : DfM K C "__or__" "Record.__or__" sOr ["self", "other"] := ⟨_, _, ⟨a28, i28⟩, j28, F28, b28⟩
  have F29 := fun_mk (st := sAdd) l29 c29 k29
  have b29 := F29.binds (ps := ["self", "other"]) fun _ _ _ _ _ _ us hl => match us, hl with | [_, _], _ => rfl
  have D29 : DfM K C "__add__" "Record.__add__" sAdd ["self", "other"] := ⟨_, _, ⟨a29, i29⟩, j29, F29, b29⟩
  have F30 := fun_mk (st := sSub) l30 c30 k30
  have b30 := F30.binds (ps := ["self", "other"]) fun _ _ _ _ _ _ us hl => match us, hl with | [_, _], _ => rfl
  have D30 : DfM K C "__sub__" "Record.__sub__" sSub ["self", "other"] := ⟨_, _, ⟨a30, i30⟩, j30, F30, b30⟩
  have F31 := fun_mk (st := sAnd) l31 c31 k31
  have b31 := F31.binds (ps := ["self", "other"]) fun _ _ _ _ _ _ us hl => match us, hl with | [_, _], _ => rfl
  have D31 : DfM K C "__and__" "Record.__and__" sAnd ["self", "other"] := ⟨_, _, ⟨a31, i31⟩, j31, F31, b31⟩
  have F32 := fun_mk (st := sEq) l32 c32 k32
  have b32 := F32.binds (ps := ["self", "other"]) fun _ _ _ _ _ _ us hl => match us, hl with | [_, _], _ => rfl
  have D32 : DfM K C "__eq__" "Record.__eq__" sEq ["self", "other"] := ⟨_, _, ⟨a32, i32⟩, j32, F32, b32⟩
  have F33 := fun_mk (st := sLe) l33 c33 k33
  have b33 := F33.binds (ps := ["self", "other"]) fun _ _ _ _ _ _ us hl => match us, hl with | [_, _], _ => rfl
  have D33 : DfM K C "__le__" "Record.__le__" sLe ["self", "other"] := ⟨_, _, ⟨a33, i33⟩, j33, F33, b33⟩
  have F34 := fun_mk (st := sStr) l34 c34 k34
  have b34 := F34.binds (ps := ["self"]) fun _ _ _ _ _ _ us hl => match us, hl with | [_], _ => rfl
  have D34 : DfM K C "__str__" "Record.__str__" sStr ["self"] := ⟨_, _, ⟨a34, i34⟩, j34, F34, b34⟩
  have F35 := fun_mk (st := sPlain) l35 c35 k35
  have b35 := F35.binds (ps := ["self"]) fun _ _ _ _ _ _ us hl => match us, hl with | [_], _ => rfl
  have D35 : DfK K C "plain" "Record.plain" sPlain ["self"] := ⟨_, _, ⟨a35, i35, k35⟩, F35, b35⟩
  have F36 := fun_mk (st := sPut) l36 c36 k36
  have b36 := F36.binds (ps := ["self", "name", "value"]) fun _ _ _ _ _ _ us hl => match us, hl with | [_, _, _], _ => rfl
  have F37 := fun_mk (st := sWithout) l37 c37 k37
  have F38 := fun_mk (st := sRen) l38 c38 k38
  have b38 := F38.binds (ps := ["self", "old", "new"]) fun _ _ _ _ _ _ us hl => match us, hl with | [_, _, _], _ => rfl
  have F39 := fun_mk (st := Gn.sPaths) l39 c39 k39
  have b39 := F39.binds (ps := ["self"]) fun _ _ _ _ _ _ us hl => match us, hl with | [_], _ => rfl
  have F40 := fun_mk (st := sMake) l40 c40 k40
  have b40 := F40.binds (ps := ["fields"]) fun _ _ _ _ _ _ us hl => match us, hl with | [_], _ => rfl
  have mD : SMet K C (.type "type") "make" pm f40 := ⟨⟨mrd, mga⟩, a40, ⟨_, r40⟩, k40⟩
  have DM : StK K C := ⟨_, _, _, mD, F40, b40⟩
  have F41 := fun_mk (st := sSize) l41 c41 k41
  have b41 := F41.binds (ps := ["self"]) fun _ _ _ _ _ _ us hl => match us, hl with | [_], _ => rfl
  have PR : PrK K C := ⟨_, _, _, ⟨a41, g41, t41, ⟨_, r41⟩⟩, F41, b41⟩
  have T : Bu mg := { b_len := PySem.W.mg_none_of X G z_len, b_int := PySem.W.mg_none_of X G z_int, b_range := PySem.W.mg_none_of X G z_range, b_isinstance := PySem.W.mg_none_of X G z_isinstance, b_dict := PySem.W.mg_none_of X G z_dict, b_tuple := PySem.W.mg_none_of X G z_tuple, b_bool := PySem.W.mg_none_of X G z_bool, b_list := PySem.W.mg_none_of X G z_list, b_str := PySem.W.mg_none_of X G z_str, b_sum := PySem.W.mg_none_of X G z_sum, b_sorted := PySem.W.mg_none_of X G z_sorted }
  refine ⟨PySem.W.fnOf "law" "law" (defArgs sLaw) (defBody sLaw) (defScope sLaw) .none kV19 dc19 pm19 an19 cd19 ct19, fun s v => .of_eq rfl, fun base _ _ => ?_⟩
  have mgR := PySem.W.mg_of X G aR
  have p_cell := c_cell (P := l.prog) (w := w) (base := base) T.toBt D1
  have p_mixed := c_mixed (P := l.prog) (w := w) (base := base) T.toBt D2
  have p_tape := c_tape T.toBt D3 p_mixed
  have p_take := c_take (P := l.prog) (w := w) (base := base) T.toBt D4
  have p_number := c_number T.toBt D5 p_take
  have p_word := c_word T.toBt D6 p_take
  have p_words := c_words T.toBt D7 p_word
  have p_long := c_long T.toBt D9 p_take
  have p_pool := c_pool T.toBt D10 p_words p_long
  have p_fields := c_fields T.toBt D11 p_take p_number
  have p_pick := c_pick T D8 p_take
  have p_sorted := c_sorted (P := l.prog) (w := w) (base := base) T D13
  have p_isint := c_is_integer (P := l.prog) (w := w) (base := base) T D14
  have p_contains := m_contains (P := l.prog) (w := w) (base := base) R D24
  have p_len := m_len (P := l.prog) (w := w) (base := base) T.toBt R D25
  have p_get := m_get (P := l.prog) (w := w) (base := base) R D26
  have p_iter := m_iter (P := l.prog) (w := w) (base := base) (PySem.W.mg_none_of X G z_iter) R D27
  have p_meq := m_eq (P := l.prog) (w := w) (base := base) T R D32
  have p_ext := c_extends T R p_meq p_iter p_contains p_get D22 10
  have p_vs := c_value_size (P := l.prog) (w := w) (base := base) T R PR D21
  have ba := PySem.W.mg_none_of X G z_all
  have bm := PySem.W.mg_none_of X G z_max
  have p_name := c_is_name (P := l.prog) (w := w) (base := base) T ba hL D20
  have p_iw := c_is_word (P := l.prog) (w := w) (base := base) T ba hL D20
  have p_told := c_told T R PR p_len p_contains p_get p_isint p_sorted D15 D12 11
  have p_make := s_make T R DM IN p_vs p_name 1
  have p_plain9 := m_plain (P := l.prog) (w := w) (base := base) T R D35 9
  have p_plain10 := m_plain (P := l.prog) (w := w) (base := base) T R D35 10
  have p_or : MthX l.prog w K mg base CX0 C 6 "__or__" (spOr C 10) := ⟨_, _, _, fn_or T R IN p_vs 10 F28, ⟨a28, i28⟩, b28⟩
  have p_sub : MthX l.prog w K mg base CX0 C 6 "__sub__" (spPart C 10 false) := ⟨_, _, _, fn_sub T R IN p_vs 10 F30, ⟨a30, i30⟩, b30⟩
  have p_and : MthX l.prog w K mg base CX0 C 6 "__and__" (spPart C 10 true) := ⟨_, _, _, fn_and T R IN p_vs 10 F31, ⟨a31, i31⟩, b31⟩
  have p_add : MthX l.prog w K mg base (L2.CX l.prog w) C 7 "__add__" (spAdd C CS 10) := ⟨_, _, _, fn_add R sf ZS 10 p_or F29, ⟨a29, i29⟩, b29⟩
  have p_put : MthK l.prog w K mg base (L2.CX l.prog w) C 7 "put" (spPut C CB 10) := ⟨_, _, _, fn_put T R IN p_vs p_iw ZB 10 F36, ⟨a36, i36, k36⟩, b36⟩
  have p_without : MthR l.prog w K mg base CX0 C 6 "without" (spFew C 10 false) := ⟨_, fn_without T R IN p_vs 10 F37, ⟨a37, i37, k37⟩⟩
  have p_ren : MthK l.prog w K mg base (L2.CX l.prog w) C 8 "renamed" (spRen C CN CB CT 10) := ⟨_, _, _, fn_renamed T R p_iw ZN ZB ZT 10 p_contains p_without p_put F38, ⟨a38, i38, k38⟩, b38⟩
  have p_called : Cal l.prog w K mg base 24 "_law_called" (spCalled C 10) := c_called (kk := 23) T R sf mgR (PySem.W.exm_ref bR hdR tR rS) (PySem.W.exm_ref bR hdR tR rN) (PySem.W.exm_ref bR hdR tR rT) p_take p_pick p_number p_or p_add p_sub p_and p_put p_ren p_without D16 (by decide) (by decide) (by decide) (by decide) (by decide) (by decide) (by decide) (by decide)
  have M9 : EqM l.prog w K mg base C 20 9 := ⟨_, _, fn_eq T R ⟨a32, i32⟩ b32 F32 9, ⟨a32, i32⟩, b32⟩
  have M8 : EqM l.prog w K mg base C 18 8 := ⟨_, _, fn_eq T R ⟨a32, i32⟩ b32 F32 8, ⟨a32, i32⟩, b32⟩
  have p_le : MthX l.prog w K mg base CX0 C 19 "__le__" (spLeR C 9) := ⟨_, _, _, fn_le T ba R M8 F33, ⟨a33, i33⟩, b33⟩
  have p_str := fn_str (P := l.prog) (w := w) (base := base) T R hfm ⟨a34, i34⟩ b34 F34 9
  have PK : Gn.PaK K C f39 := ⟨⟨a39, i39, k39⟩, _, _, _, _, _, _, _, _, _, l39, c39, b39⟩
  have p_paths := Gn.call_all (P := l.prog) (w := w) (base := base) T R PK 10 (by decide)
  have p_looked : Cal l.prog w K mg base 24 "_law_looked" (spLooked C 9) := c_looked (kk := 23) T R D18 p_plain9 M9 p_le p_ext ⟨a34, i34⟩ p_str b34 p_len PK.m p_paths (by decide) (by decide) (by decide) (by decide) (by decide) (by decide) (by decide)
  have p_depth := c_depth (P := l.prog) (w := w) (base := base) T bm D17 11
  have hf := hfa.symm.trans (PySem.W.mg_of X G a19)
  cases hf
  exact fn_law (kk := 24) T R PR hne p_cell p_tape p_take p_pool (p_fields 1) p_make M9 p_plain10 ⟨a34, i34⟩ b34 p_str p_called p_looked p_depth p_told (by decide) (by decide) (by decide) F19
theorem walk {l : PySem.W.OpenLaw} {q : Program} {loose : List Str} {XP : (Str → Option Value) → Heap → Prop} {YP : World → Heap → Prop} {d : DefRec} {K : Params → PySem.W.Frag} (hn : l.most = some 63) (hdf : d.params.defaults = [])
    (hY : ∀ (w : World) (h : Heap), YP w h → (K w.params).In h)
    (F : ∀ (w : World) (mg : Str → Option Value) (fa : Addr) (h : Heap), (K w.params).In h → h.Ns mainGlobals mg → mg d.name = some (.ref fa) →
      ∃ fd : FuncData, (∀ (s : Shared) (u : Value), BindsTo s fd ⟨[u], []⟩ [("script", u)]) ∧ ∀ base : Heap, (K w.params).In base → base.Ns mainGlobals mg → FnOk l.prog w (K w.params) mg base CX0 25 fa fd ["script"] (spLaw (K w.params))) :
    PySem.W.WalkO q loose XP YP l.row.toRowW d [] (fun f vs => PySem.call f vs) :=
  L2.walk_of (n := 63) (k := 25) (x := "script") (CX := fun _ => CX0) (sp := fun w => spLaw (K w.params)) hn (by decide) hdf ⟨rfl, by decide, by decide⟩ hY F (fun _ _ a ns hl _ hS => ⟨a, ns, rfl, hS, hl, fun _ => rfl⟩) fun _ _ _ _ _ z => z
end Lw
open PySem PySem.W PyProof.Rows
set_option maxRecDepth 100000 in
set_option maxHeartbeats 0 in
theorem PySem.Challenge.cw_growingrecords_k09_records_stay_holds : PySem.Challenge.rw_growingrecords_k09_records_stay.Holds := by
  w_on; o_law; k_head; (case hw => w_witness2)
  k_fill
  refine Lw.walk (l := PySem.Challenge.rw_growingrecords_k09_records_stay) rfl rfl (fun w h Y => PySem.W.kIn_of Y) ?F
  case F =>
    intro w mg fa h KX G hmg
    refine' Lw.all_mk KX G hmg ?aC ?pg ?hd ?po ?sa ?mk ?kc ?nN ?nF ?nS ?ha ?hn ?htk ?hm ?cI ?tI ?sD ?sI ?sR ?gL ?sf ?aR ?lR ?tR ?hoS ?tpS ?aB ?cB ?vB ?zB ?bB ?tB ?kB ?iB ?yB ?lB ?dB ?eB ?wB ?xB ?oB ?hmB ?hBB ?mB ?nnB ?ssB ?hdB ?gaB ?ggB ?haB ?moB ?rB ?aN ?cN ?vN ?zN ?bN ?tN ?kN ?iN ?yN ?lN ?dN ?eN ?wN ?xN ?oN ?hmN ?hBN ?mN ?nnN ?ssN ?hdN ?gaN ?ggN ?haN ?moN ?rN ?aT ?cT ?vT ?zT ?bT ?tT ?kT ?iT ?yT ?lT ?dT ?eT ?wT ?xT ?oT ?hmT ?hBT ?mT ?nnT ?ssT ?hdT ?gaT ?ggT ?haT ?moT ?rT ?aS ?cS ?vS ?zS ?bS ?tS ?kS ?iS ?yS ?lS ?dS ?eS ?wS ?xS ?oS ?hmS ?hBS ?mS ?nnS ?ssS ?hdS ?gaS ?ggS ?haS ?moS ?rS ?bR ?hdR ?hne ?hfm ?a1 ?l1 ?c1 ?k1 ?a2 ?l2 ?c2 ?k2 ?a3 ?l3 ?c3 ?k3 ?a4 ?l4 ?c4 ?k4 ?a5 ?l5 ?c5 ?k5 ?a6 ?l6 ?c6 ?k6 ?a7 ?l7 ?c7 ?k7 ?a8 ?l8 ?c8 ?k8 ?a9 ?l9 ?c9 ?k9 ?a10 ?l10 ?c10 ?k10 ?a11 ?l11 ?c11 ?k11 ?a12 ?l12 ?c12 ?k12 ?a13 ?l13 ?c13 ?k13 ?a14 ?l14 ?c14 ?k14 ?a15 ?l15 ?c15 ?k15 ?a16 ?l16 ?c16 ?k16 ?a17 ?l17 ?c17 ?k17 ?a18 ?l18 ?c18 ?k18 ?a19 ?l19 ?c19 ?k19 ?a20 ?l20 ?c20 ?k20 ?a21 ?l21 ?c21 ?k21 ?a22 ?l22 ?c22 ?k22 ?a23 ?i23 ?j23 ?l23 ?c23 ?k23 ?a24 ?i24 ?j24 ?l24 ?c24 ?k24 ?a25 ?i25 ?j25 ?l25 ?c25 ?k25 ?a26 ?i26 ?j26 ?l26 ?c26 ?k26 ?a27 ?i27 ?j27 ?l27 ?c27 ?k27 ?a28 ?i28 ?j28 ?l28 ?c28 ?k28 ?a29 ?i29 ?j29 ?l29 ?c29 ?k29 ?a30 ?i30 ?j30 ?l30 ?c30 ?k30 ?a31 ?i31 ?j31 ?l31 ?c31 ?k31 ?a32 ?i32 ?j32 ?l32 ?c32 ?k32 ?a33 ?i33 ?j33 ?l33 ?c33 ?k33 ?a34 ?i34 ?j34 ?l34 ?c34 ?k34 ?a35 ?i35 ?j35 ?l35 ?c35 ?k35 ?a36 ?i36 ?j36 ?l36 ?c36 ?k36 ?a37 ?i37 ?j37 ?l37 ?c37 ?k37 ?a38 ?i38 ?j38 ?l38 ?c38 ?k38 ?a39 ?i39 ?j39 ?l39 ?c39 ?k39 ?mrd ?mga ?a40 ?r40 ?l40 ?c40 ?k40 ?a41 ?g41 ?t41 ?r41 ?l41 ?c41 ?k41 ?z_len ?z_int ?z_range ?z_isinstance ?z_dict ?z_tuple ?z_bool ?z_list ?z_str ?z_sum ?z_sorted ?z_all ?z_super ?z_ValueError ?z_max ?z_iter
    (case aC => k_is)
    (case pg => k_is)
    (case hd => k_is)
    (case po => k_is)
    (case sa => k_is)
    (case mk => k_is)
    (case kc => k_is)
    (case nN => k_is)
    (case nF => k_is)
    (case nS => k_is)
    (case ha => k_is)
    (case hn => k_is)
    (case htk => k_is)
    (case hm => k_is)
    (case cI => k_is)
    (case tI => k_is)
    (case sD => k_is)
    (case sI => k_is)
    (case sR => k_is)
    (case gL => k_is)
    (case sf => k_is)
    (case aR => k_is)
    (case lR => k_is)
    (case tR => k_is)
    (case hoS => k_is)
    (case tpS => first | rfl | decide +kernel)
    (case aB => k_is)
    (case cB => k_is)
    (case vB => first | rfl | decide +kernel)
    (case zB => k_is)
    (case bB => k_is)
    (case tB => k_is)
    (case kB => k_is)
    (case iB => k_is)
    (case yB => k_is)
    (case lB => k_is)
    (case dB => k_is)
    (case eB => k_is)
    (case wB => rfl)
    (case xB => first | rfl | decide +kernel)
    (case oB => k_is)
    (case hmB => first | ks_is | k_is | rfl)
    (case hBB => k_is)
    (case mB => k_is)
    (case nnB => k_is)
    (case ssB => k_is)
    (case hdB => k_is)
    (case gaB => k_is)
    (case ggB => k_is)
    (case haB => k_is)
    (case moB => k_is)
    (case rB => k_is)
    (case aN => k_is)
    (case cN => k_is)
    (case vN => first | rfl | decide +kernel)
    (case zN => k_is)
    (case bN => k_is)
    (case tN => k_is)
    (case kN => k_is)
    (case iN => k_is)
    (case yN => k_is)
    (case lN => k_is)
    (case dN => k_is)
    (case eN => k_is)
    (case wN => rfl)
    (case xN => first | rfl | decide +kernel)
    (case oN => k_is)
    (case hmN => first | ks_is | k_is | rfl)
    (case hBN => k_is)
    (case mN => k_is)
    (case nnN => k_is)
    (case ssN => k_is)
    (case hdN => k_is)
    (case gaN => k_is)
    (case ggN => k_is)
    (case haN => k_is)
    (case moN => k_is)
    (case rN => k_is)
    (case aT => k_is)
    (case cT => k_is)
    (case vT => first | rfl | decide +kernel)
    (case zT => k_is)
    (case bT => k_is)
    (case tT => k_is)
    (case kT => k_is)
    (case iT => k_is)
    (case yT => k_is)
    (case lT => k_is)
    (case dT => k_is)
    (case eT => k_is)
    (case wT => rfl)
    (case xT => first | rfl | decide +kernel)
    (case oT => k_is)
    (case hmT => first | ks_is | k_is | rfl)
    (case hBT => k_is)
    (case mT => k_is)
    (case nnT => k_is)
    (case ssT => k_is)
    (case hdT => k_is)
    (case gaT => k_is)
    (case ggT => k_is)
    (case haT => k_is)
    (case moT => k_is)
    (case rT => k_is)
    (case aS => k_is)
    (case cS => k_is)
    (case vS => first | rfl | decide +kernel)
    (case zS => k_is)
    (case bS => k_is)
    (case tS => k_is)
    (case kS => k_is)
    (case iS => k_is)
    (case yS => k_is)
    (case lS => k_is)
    (case dS => k_is)
    (case eS => k_is)
    (case wS => rfl)
    (case xS => first | rfl | decide +kernel)
    (case oS => k_is)
    (case hmS => first | ks_is | k_is | rfl)
    (case hBS => k_is)
    (case mS => k_is)
    (case nnS => k_is)
    (case ssS => k_is)
    (case hdS => k_is)
    (case gaS => k_is)
    (case ggS => k_is)
    (case haS => k_is)
    (case moS => k_is)
    (case rS => k_is)
    (case bR => k_is)
    (case hdR => k_is)
    (case hne => k_is)
    (case hfm => k_is)
    (case a1 => k_is)
    (case l1 => k_is)
    (case c1 => k_is)
    (case k1 => k_is)
    (case a2 => k_is)
    (case l2 => k_is)
    (case c2 => k_is)
    (case k2 => k_is)
    (case a3 => k_is)
    (case l3 => k_is)
    (case c3 => k_is)
    (case k3 => k_is)
    (case a4 => k_is)
    (case l4 => k_is)
    (case c4 => k_is)
    (case k4 => k_is)
    (case a5 => k_is)
    (case l5 => k_is)
    (case c5 => k_is)
    (case k5 => k_is)
    (case a6 => k_is)
    (case l6 => k_is)
    (case c6 => k_is)
    (case k6 => k_is)
    (case a7 => k_is)
    (case l7 => k_is)
    (case c7 => k_is)
    (case k7 => k_is)
    (case a8 => k_is)
    (case l8 => k_is)
    (case c8 => k_is)
    (case k8 => k_is)
    (case a9 => k_is)
    (case l9 => k_is)
    (case c9 => k_is)
    (case k9 => k_is)
    (case a10 => k_is)
    (case l10 => k_is)
    (case c10 => k_is)
    (case k10 => k_is)
    (case a11 => k_is)
    (case l11 => k_is)
    (case c11 => k_is)
    (case k11 => k_is)
    (case a12 => k_is)
    (case l12 => k_is)
    (case c12 => k_is)
    (case k12 => k_is)
    (case a13 => k_is)
    (case l13 => k_is)
    (case c13 => k_is)
    (case k13 => k_is)
    (case a14 => k_is)
    (case l14 => k_is)
    (case c14 => k_is)
    (case k14 => k_is)
    (case a15 => k_is)
    (case l15 => k_is)
    (case c15 => k_is)
    (case k15 => k_is)
    (case a16 => k_is)
    (case l16 => k_is)
    (case c16 => k_is)
    (case k16 => k_is)
    (case a17 => k_is)
    (case l17 => k_is)
    (case c17 => k_is)
    (case k17 => k_is)
    (case a18 => k_is)
    (case l18 => k_is)
    (case c18 => k_is)
    (case k18 => k_is)
    (case a19 => k_is)
    (case l19 => k_is)
    (case c19 => k_is)
    (case k19 => k_is)
    (case a20 => k_is)
    (case l20 => k_is)
    (case c20 => k_is)
    (case k20 => k_is)
    (case a21 => k_is)
    (case l21 => k_is)
    (case c21 => k_is)
    (case k21 => k_is)
    (case a22 => k_is)
    (case l22 => k_is)
    (case c22 => k_is)
    (case k22 => k_is)
    (case a23 => k_is)
    (case i23 => k_is)
    (case j23 => k_is)
    (case l23 => k_is)
    (case c23 => k_is)
    (case k23 => k_is)
    (case a24 => k_is)
    (case i24 => k_is)
    (case j24 => k_is)
    (case l24 => k_is)
    (case c24 => k_is)
    (case k24 => k_is)
    (case a25 => k_is)
    (case i25 => k_is)
    (case j25 => k_is)
    (case l25 => k_is)
    (case c25 => k_is)
    (case k25 => k_is)
    (case a26 => k_is)
    (case i26 => k_is)
    (case j26 => k_is)
    (case l26 => k_is)
    (case c26 => k_is)
    (case k26 => k_is)
    (case a27 => k_is)
    (case i27 => k_is)
    (case j27 => k_is)
    (case l27 => k_is)
    (case c27 => k_is)
    (case k27 => k_is)
    (case a28 => k_is)
    (case i28 => k_is)
    (case j28 => k_is)
    (case l28 => k_is)
    (case c28 => k_is)
    (case k28 => k_is)
    (case a29 => k_is)
    (case i29 => k_is)
    (case j29 => k_is)
    (case l29 => k_is)
    (case c29 => k_is)
    (case k29 => k_is)
    (case a30 => k_is)
    (case i30 => k_is)
    (case j30 => k_is)
    (case l30 => k_is)
    (case c30 => k_is)
    (case k30 => k_is)
    (case a31 => k_is)
    (case i31 => k_is)
    (case j31 => k_is)
    (case l31 => k_is)
    (case c31 => k_is)
    (case k31 => k_is)
    (case a32 => k_is)
    (case i32 => k_is)
    (case j32 => k_is)
    (case l32 => k_is)
    (case c32 => k_is)
    (case k32 => k_is)
    (case a33 => k_is)
    (case i33 => k_is)
    (case j33 => k_is)
    (case l33 => k_is)
    (case c33 => k_is)
    (case k33 => k_is)
    (case a34 => k_is)
    (case i34 => k_is)
    (case j34 => k_is)
    (case l34 => k_is)
    (case c34 => k_is)
    (case k34 => k_is)
    (case a35 => k_is)
    (case i35 => k_is)
    (case j35 => k_is)
    (case l35 => k_is)
    (case c35 => k_is)
    (case k35 => k_is)
    (case a36 => k_is)
    (case i36 => k_is)
    (case j36 => k_is)
    (case l36 => k_is)
    (case c36 => k_is)
    (case k36 => k_is)
    (case a37 => k_is)
    (case i37 => k_is)
    (case j37 => k_is)
    (case l37 => k_is)
    (case c37 => k_is)
    (case k37 => k_is)
    (case a38 => k_is)
    (case i38 => k_is)
    (case j38 => k_is)
    (case l38 => k_is)
    (case c38 => k_is)
    (case k38 => k_is)
    (case a39 => k_is)
    (case i39 => k_is)
    (case j39 => k_is)
    (case l39 => k_is)
    (case c39 => k_is)
    (case k39 => k_is)
    (case mrd => k_is)
    (case mga => k_is)
    (case a40 => k_is)
    (case r40 => k_is)
    (case l40 => k_is)
    (case c40 => k_is)
    (case k40 => k_is)
    (case a41 => k_is)
    (case g41 => k_is)
    (case t41 => k_is)
    (case r41 => k_is)
    (case l41 => k_is)
    (case c41 => k_is)
    (case k41 => k_is)
    (case z_len => k_is)
    (case z_int => k_is)
    (case z_range => k_is)
    (case z_isinstance => k_is)
    (case z_dict => k_is)
    (case z_tuple => k_is)
    (case z_bool => k_is)
    (case z_list => k_is)
    (case z_str => k_is)
    (case z_sum => k_is)
    (case z_sorted => k_is)
    (case z_all => k_is)
    (case z_super => k_is)
    (case z_ValueError => k_is)
    (case z_max => k_is)
    (case z_iter => k_is)
