import PyProof.Rows.All
import Wide.All
import OpenK.AllK
import Wide.FinOn
import HandS.ForMost
import HandS.OwnEq
import HandS.IterVal
import HandS.ClsMeth
import HandS.IsInst
import HandS.Codes
import HandS.Walk
import HandS.Iter
import HandS.RaiseMore
import HandS.DictComp
import HandS.Property
import HandS.WordsDict
import HandS.IterNext
import HandS.Text
import HandS.More
import KE.KEqDict
import HandS.DictEq
import HandS.Dict
import HandS.Sort
import PyProof.InstEq
import HandS.AnyAll
import HandS.FStr
import HandS.Finally
import PyProof.Rows.Range3
import PySem.Challenge.RW_growingrecords_k04_equal_and_written
set_option Elab.async false
set_option linter.all false
set_option maxRecDepth 100000
set_option maxHeartbeats 4000000
/-! Values of the law as plain data: an int, or fields by name; how dicts and records of the heap bear them. -/
namespace GrT
open PySem L2
/-- a value: an int, or fields in their order -/
inductive T where
  | int (i : Int)
  | fds (fs : List (Str × T))
/-! ### lists by name -/
section
variable {α β : Type}
def look (x : Str) : List (Str × α) → Option α
  | [] => none
  | (z, w) :: r => if z = x then some w else look x r
def put (x : Str) (y : α) : List (Str × α) → List (Str × α)
  | [] => [(x, y)]
  | (z, w) :: r => if z = x then (x, y) :: r else (z, w) :: put x y r
abbrev names (l : List (Str × α)) : List Str := l.map (·.1)
theorem look_mem {x : Str} {w : α} : ∀ {l : List (Str × α)}, look x l = some w → (x, w) ∈ l
  | (z, y) :: r, h => by
    unfold look at h
    split at h
    · rename_i e
      subst e
      cases h
      exact List.mem_cons_self
    · exact List.mem_cons_of_mem _ (look_mem h)
theorem look_none {x : Str} : ∀ {l : List (Str × α)}, look x l = none ↔ x ∉ names l
  | [] => by simp [look, names]
  | (z, y) :: r => by
    unfold look
    by_cases e : z = x
    · subst e
      simp
    · rw [if_neg e, look_none (l := r)]
      simp only [names, List.map_cons, List.mem_cons, not_or]
      exact ⟨fun h => ⟨fun q => e q.symm, h⟩, fun h => h.2⟩
theorem look_some {x : Str} {l : List (Str × α)} (h : x ∈ names l) : ∃ w, look x l = some w := by
  cases e : look x l with
  | some w => exact ⟨w, rfl⟩
  | none => exact absurd h (look_none.mp e)
theorem mem_look {x : Str} {w : α} : ∀ {l : List (Str × α)}, (names l).Nodup → (x, w) ∈ l → look x l = some w
  | (z, y) :: r, nd, h => by
    have nd' := List.nodup_cons.mp nd
    rcases List.mem_cons.mp h with e | e
    · cases e
      unfold look
      rw [if_pos rfl]
    · have hz : z ≠ x := fun q => nd'.1 (by rw [q]; exact List.mem_map.mpr ⟨_, e, rfl⟩)
      unfold look
      rw [if_neg hz]
      exact mem_look nd'.2 e
theorem names_put {x : Str} {y : α} : ∀ {l : List (Str × α)}, names (put x y l) = if x ∈ names l then names l else names l ++ [x]
  | [] => by simp [put, names]
  | (z, w) :: r => by
    unfold put
    by_cases e : z = x
    · subst e
      simp
    · have ih := names_put (x := x) (y := y) (l := r)
      rw [if_neg e]
      have hm : (x ∈ names ((z, w) :: r)) = (x ∈ names r) := by
        simp only [names, List.map_cons, List.mem_cons, eq_iff_iff]
        exact ⟨fun h => h.elim (fun q => absurd q.symm e) id, .inr⟩
      show z :: names (put x y r) = _
      rw [ih]
      simp only [hm]
      split <;> rfl
theorem nodup_put {x : Str} {y : α} {l : List (Str × α)} (h : (names l).Nodup) : (names (put x y l)).Nodup := by
  rw [names_put]
  split
  · exact h
  · rename_i q
    refine List.nodup_append.mpr ⟨h, by simp, fun a ha b hb => ?_⟩
    simp at hb
    subst hb
    exact fun e => q (e ▸ ha)
theorem length_put {x : Str} {y : α} {l : List (Str × α)} : (put x y l).length ≤ l.length + 1 := by
  have e : (names (put x y l)).length = (put x y l).length := List.length_map _
  rw [← e, names_put]
  split
  · simp
  · simp
theorem mem_put {x : Str} {y : α} : ∀ {l : List (Str × α)} {p}, p ∈ put x y l → p = (x, y) ∨ p ∈ l
  | [], p, h => by
    simp [put] at h
    exact .inl h
  | (z, w) :: r, p, h => by
    unfold put at h
    split at h
    · rcases List.mem_cons.mp h with q | q
      · exact .inl q
      · exact .inr (List.mem_cons_of_mem _ q)
    · rcases List.mem_cons.mp h with q | q
      · exact .inr (q ▸ List.mem_cons_self)
      · rcases mem_put q with q | q
        · exact .inl q
        · exact .inr (List.mem_cons_of_mem _ q)
theorem look_put {x z : Str} {y : α} : ∀ {l : List (Str × α)}, look z (put x y l) = if z = x then some y else look z l
  | [] => by
    simp only [put, look]
    by_cases e : z = x
    · subst e
      simp
    · rw [if_neg (fun q => e q.symm), if_neg e]
  | (u, w) :: r => by
    unfold put
    by_cases e : u = x
    · subst e
      rw [if_pos rfl]
      simp only [look]
      by_cases q : u = z
      · subst q
        simp
      · rw [if_neg q, if_neg (fun h => q h.symm), if_neg q]
    · rw [if_neg e]
      simp only [look]
      by_cases q : u = z
      · subst q
        rw [if_pos rfl, if_neg e, if_pos rfl]
      · rw [if_neg q, look_put, if_neg q]
end
/-! ### the dict that bears such a list -/
def dk (l : List (Str × V)) : List (Key × V) := l.map fun p => (Sum.inr p.1, p.2)
theorem dk_len (l : List (Str × V)) : (dk l).length = l.length := List.length_map _
theorem dk_val (x : Str) : ∀ l : List (Str × V), valV (dk l) (Sum.inr x : Key) = look x l
  | [] => rfl
  | (z, w) :: r => by
    show valV ((Sum.inr z, w) :: dk r) (Sum.inr x : Key) = if z = x then some w else look x r
    by_cases e : z = x
    · subst e
      rw [if_pos rfl, valV_pos rfl]
    · rw [if_neg e, valV_neg (fun q => e (Sum.inr.inj q)), dk_val x r]
theorem dk_put (x : Str) (y : V) : ∀ l : List (Str × V), (names l).Nodup → putK (dk l) (Sum.inr x : Key) y = dk (put x y l) := by
  intro l nd
  cases e : look x l with
  | none =>
    have h0 : valV (dk l) (Sum.inr x : Key) = none := by rw [dk_val, e]
    rw [putK_new _ h0]
    have hp : ∀ l : List (Str × V), look x l = none → put x y l = l ++ [(x, y)] := by
      intro l
      induction l with
      | nil => intro _; rfl
      | cons p r ih =>
        obtain ⟨z, w⟩ := p
        intro h
        unfold look at h
        split at h
        · cases h
        · rename_i q
          unfold put
          rw [if_neg q, ih h]
          rfl
    rw [hp l e]
    simp [dk]
  | some w =>
    have h1 : (dk l).any (fun kv => decide (kv.1 = (Sum.inr x : Key))) = true := by rw [valV_any, dk_val, e]; rfl
    unfold putK
    rw [if_pos h1]
    clear h1
    induction l with
    | nil => cases e
    | cons p r ih =>
      obtain ⟨z, u⟩ := p
      have nd' := List.nodup_cons.mp nd
      unfold look at e
      unfold put
      by_cases q : z = x
      · subst q
        rw [if_pos rfl]
        have hr : ∀ r : List (Str × V), z ∉ names r → (dk r).map (fun kv => if kv.1 = (Sum.inr z : Key) then (kv.1, y) else kv) = dk r := by
          intro r
          induction r with
          | nil => intro _; rfl
          | cons p r ih =>
            obtain ⟨a, b⟩ := p
            intro h
            have h' : z ≠ a ∧ z ∉ names r := by simpa [names] using h
            show (if (Sum.inr a : Key) = Sum.inr z then ((Sum.inr a : Key), y) else (Sum.inr a, b)) :: (dk r).map _ = (Sum.inr a, b) :: dk r
            rw [if_neg (fun q => h'.1 (Sum.inr.inj q).symm), ih h'.2]
        show (if (Sum.inr z : Key) = Sum.inr z then ((Sum.inr z : Key), y) else (Sum.inr z, u)) :: (dk r).map _ = (Sum.inr z, y) :: dk r
        rw [if_pos rfl, hr r nd'.1]
      · rw [if_neg q] at e
        rw [if_neg q]
        show (if (Sum.inr z : Key) = Sum.inr x then ((Sum.inr z : Key), y) else (Sum.inr z, u)) :: (dk r).map _ = (Sum.inr z, u) :: dk (put x y r)
        rw [if_neg (fun h => q (Sum.inr.inj h)), ih nd'.2 e]
/-! ### two lists by name, alike by R -/
def Al (R : V → T → Prop) : List (Str × V) → List (Str × T) → Prop := Paired fun p q => p.1 = q.1 ∧ R p.2 q.2
section
variable {R S : V → T → Prop} {l : List (Str × V)} {fs : List (Str × T)}
theorem Al.imp (h : Al R l fs) (f : ∀ p ∈ fs, ∀ v, R v p.2 → S v p.2) : Al S l fs := by
  induction h with
  | nil => exact .nil
  | @cons p q l fs r t ih => exact .cons ⟨r.1, f _ List.mem_cons_self _ r.2⟩ (ih fun p hp => f p (List.mem_cons_of_mem _ hp))
theorem Al.names (h : Al R l fs) : names l = names fs := by
  induction h with
  | nil => rfl
  | @cons p q l fs r t ih =>
    show p.1 :: GrT.names l = q.1 :: GrT.names fs
    rw [r.1, ih]
theorem Al.len (h : Al R l fs) : l.length = fs.length := Paired.length h
theorem Al.get (h : Al R l fs) {x : Str} {t : T} (e : look x fs = some t) : ∃ v, look x l = some v ∧ R v t := by
  induction h with
  | nil => cases e
  | @cons p q l fs r t' ih =>
    obtain ⟨z, v⟩ := p
    obtain ⟨z', u⟩ := q
    obtain ⟨rfl, r⟩ := r
    unfold look at e ⊢
    by_cases hz : z = x
    · rw [if_pos hz] at e ⊢
      cases e
      exact ⟨v, rfl, r⟩
    · rw [if_neg hz] at e ⊢
      exact ih e
theorem Al.get' (h : Al R l fs) {x : Str} {v : V} (e : look x l = some v) : ∃ t, look x fs = some t ∧ R v t := by
  induction h with
  | nil => cases e
  | @cons p q l fs r t' ih =>
    obtain ⟨z, v'⟩ := p
    obtain ⟨z', u⟩ := q
    obtain ⟨rfl, r⟩ := r
    unfold look at e ⊢
    by_cases hz : z = x
    · rw [if_pos hz] at e ⊢
      cases e
      exact ⟨u, rfl, r⟩
    · rw [if_neg hz] at e ⊢
      exact ih e
theorem Al.none (h : Al R l fs) {x : Str} : look x l = none ↔ look x fs = none := by rw [look_none, look_none, h.names]
theorem Al.put (h : Al R l fs) (x : Str) {v : V} {t : T} (r : R v t) : Al R (put x v l) (put x t fs) := by
  induction h with
  | nil => exact .cons ⟨rfl, r⟩ .nil
  | @cons p q l fs r' t' ih =>
    obtain ⟨z, v'⟩ := p
    obtain ⟨z', u⟩ := q
    obtain ⟨rfl, r'⟩ := r'
    unfold GrT.put
    by_cases hz : z = x
    · rw [if_pos hz, if_pos hz]
      exact .cons ⟨rfl, r⟩ t'
    · rw [if_neg hz, if_neg hz]
      exact .cons ⟨rfl, r'⟩ ih
end
/-! ### names, fields -/
def letter (c : Nat) : Prop := 97 ≤ c ∧ c ≤ 122
def Good (x : Str) : Prop := 1 ≤ x.length ∧ x.length ≤ 30 ∧ ∀ c ∈ x.cps.toList, letter c
structure Wf (L : Nat) (fs : List (Str × T)) : Prop where
  nd : (names fs).Nodup
  ln : fs.length ≤ L
  gd : ∀ p ∈ fs, Good p.1
theorem Wf.mono {L M : Nat} {fs : List (Str × T)} (h : Wf L fs) (hl : L ≤ M) : Wf M fs := ⟨h.nd, Nat.le_trans h.ln hl, h.gd⟩
theorem Wf.put {L : Nat} {fs : List (Str × T)} (h : Wf L fs) {x : Str} {t : T} (g : Good x) : Wf (L + 1) (put x t fs) :=
  ⟨nodup_put h.nd, Nat.le_trans length_put (Nat.add_le_add_right h.ln 1), fun p hp => by
    rcases mem_put hp with e | e
    · rw [e]
      exact g
    · exact h.gd p e⟩
theorem Wf.nil {L : Nat} : Wf L [] := ⟨by simp [names], Nat.zero_le _, fun p hp => by cases hp⟩
/-! ### a value as dicts -/
/-- v is t: ints and dicts, at most n deep, at most L fields each, the dicts all within S -/
def Tr (S : Addr → Prop) (H : Hp) (L : Nat) : Nat → V → T → Prop
  | 0, v, t => ∃ i, v = .int i ∧ t = .int i
  | n + 1, v, t => (∃ i, v = .int i ∧ t = .int i) ∨ ∃ a l fs, v = .ref a ∧ t = .fds fs ∧ S a ∧ H a = some (.dK (dk l)) ∧ Wf L fs ∧ Al (Tr S H L n) l fs
section
variable {S S' : Addr → Prop} {H H' : Hp} {L M n m : Nat} {v : V} {t u : T} {a : Addr}
theorem Tr.int (i : Int) : Tr S H L n (.int i) (.int i) := by
  cases n with
  | zero => exact ⟨i, rfl, rfl⟩
  | succ n => exact .inl ⟨i, rfl, rfl⟩
theorem Tr.cases {P : Prop} (h : Tr S H L n v t) (h1 : ∀ i, v = .int i → t = .int i → P)
    (h2 : ∀ k a l fs, n = k + 1 → v = .ref a → t = .fds fs → S a → H a = some (.dK (dk l)) → Wf L fs → Al (Tr S H L k) l fs → P) : P := by
  cases n with
  | zero =>
    obtain ⟨i, e1, e2⟩ := h
    exact h1 i e1 e2
  | succ k =>
    rcases h with ⟨i, e1, e2⟩ | ⟨a, l, fs, e1, e2, es, e3, e4, e5⟩
    · exact h1 i e1 e2
    · exact h2 k a l fs rfl e1 e2 es e3 e4 e5
theorem Tr.keep : ∀ {n : Nat} {v : V} {t : T}, Tr S H L n v t → (∀ b kvs, S b → H b = some (.dK kvs) → H' b = some (.dK kvs)) → Tr S H' L n v t
  | 0, _, _, h, _ => h
  | n + 1, v, t, h, k => by
    rcases h with h | ⟨a, l, fs, e1, e2, es, e3, e4, e5⟩
    · exact .inl h
    · exact .inr ⟨a, l, fs, e1, e2, es, k _ _ es e3, e4, e5.imp fun _ _ _ q => Tr.keep q k⟩
theorem Tr.mono : ∀ {n m L M : Nat} {v : V} {t : T}, Tr S H L n v t → n ≤ m → L ≤ M → Tr S H M m v t
  | 0, m, L, M, v, t, ⟨i, e1, e2⟩, _, _ => by
    rw [e1, e2]
    exact Tr.int i
  | n + 1, 0, _, _, _, _, _, h, _ => absurd h (Nat.not_succ_le_zero _)
  | n + 1, m + 1, L, M, v, t, h, h1, h2 => by
    rcases h with h | ⟨a, l, fs, e1, e2, es, e3, e4, e5⟩
    · exact .inl h
    · exact .inr ⟨a, l, fs, e1, e2, es, e3, e4.mono h2, e5.imp fun _ _ _ q => Tr.mono q (Nat.le_of_succ_le_succ h1) h2⟩
theorem dk_inj : ∀ {l l' : List (Str × V)}, dk l = dk l' → l = l'
  | [], [], _ => rfl
  | [], _ :: _, h => by cases h
  | _ :: _, [], h => by cases h
  | (x, v) :: l, (y, w) :: l', h => by
    have h' : ((Sum.inr x : Key), v) :: dk l = (Sum.inr y, w) :: dk l' := h
    injection h' with h1 h2
    injection h1 with h3 h4
    injection h3 with h3
    rw [h3, h4, dk_inj h2]
theorem al_inj {n m L M : Nat} (ih : ∀ {v : V} {t u : T}, Tr S H L n v t → Tr S' H M m v u → t = u) : ∀ {l : List (Str × V)} {fs gs : List (Str × T)}, Al (Tr S H L n) l fs → Al (Tr S' H M m) l gs → fs = gs
  | [], _, _, .nil, .nil => rfl
  | _ :: _, (x, t) :: fs, (y, u) :: gs, .cons r1 t1, .cons r2 t2 => by
    have e : x = y := r1.1.symm.trans r2.1
    have e2 : t = u := ih r1.2 r2.2
    rw [e, e2, al_inj ih t1 t2]
theorem Tr.inj : ∀ {n m L M : Nat} {v : V} {t u : T}, Tr S H L n v t → Tr S' H M m v u → t = u
  | 0, m, L, M, v, t, u, ⟨i, e1, e2⟩, h => by
    refine h.cases (fun j q1 q2 => ?_) fun k a l fs _ q => ?_
    · rw [e1] at q1
      cases q1
      rw [e2, q2]
    · rw [e1] at q
      cases q
  | n + 1, m, L, M, v, t, u, h0, h => by
    refine h.cases (fun j q1 q2 => ?_) fun k a l fs _ q1 q2 qs q3 q4 q5 => ?_
    · rcases h0 with ⟨i, e1, e2⟩ | ⟨a, l, fs, e1, _⟩
      · rw [e1] at q1
        cases q1
        rw [e2, q2]
      · rw [e1] at q1
        cases q1
    · rcases h0 with ⟨i, e1, e2⟩ | ⟨b, l', gs, e1, e2, es, e3, e4, e5⟩
      · rw [e1] at q1
        cases q1
      · rw [e1] at q1
        cases q1
        rw [e3] at q3
        have z := dk_inj (HO.dK.inj (Option.some.inj q3))
        subst z
        rw [e2, q2, al_inj (fun a b => Tr.inj a b) e5 q5]
theorem size_mem {x : Str} {t : T} {fs : List (Str × T)} (h : (x, t) ∈ fs) : sizeOf t < sizeOf (T.fds fs) := by
  have h1 := List.sizeOf_lt_of_mem h
  have h2 : sizeOf (x, t) = 1 + sizeOf x + sizeOf t := by simp
  have h3 : sizeOf (T.fds fs) = 1 + sizeOf fs := by simp
  omega
/-- what is smaller than the value at a has no place at a -/
theorem Tr.away : ∀ {n : Nat} {v : V} {t : T}, Tr S H L n v t → Tr S' H M m (.ref a) u → sizeOf t < sizeOf u → ∀ o, Tr S (upd H a o) L n v t
  | 0, _, _, h, _, _, _ => h
  | n + 1, v, t, h, q, hs, o => by
    rcases id h with h' | ⟨b, l, fs, e1, e2, es, e3, e4, e5⟩
    · exact .inl h'
    · have hb : b ≠ a := fun z => by
        subst z
        rw [e1] at h
        have := Tr.inj h q
        subst this
        exact absurd hs (Nat.lt_irrefl _)
      refine .inr ⟨b, l, fs, e1, e2, es, by rw [upd_ne hb]; exact e3, e4, e5.imp fun p hp _ z => Tr.away z q (Nat.lt_trans ?_ hs) o⟩
      rw [e2]
      exact size_mem (x := p.1) (t := p.2) hp
/-- the children of the dict at a, while it is locked -/
theorem al_away (es : S a) {l : List (Str × V)} {fs : List (Str × T)} (e : H a = some (.dK (dk l))) (w : Wf L fs) (h : Al (Tr S H L n) l fs) (o : HO) : Al (Tr S (upd H a o) L n) l fs :=
  h.imp fun p hp _ z => z.away (m := n + 1) (M := L) (u := .fds fs) (a := a) (.inr ⟨a, l, fs, rfl, rfl, es, e, w, h⟩) (size_mem (x := p.1) (t := p.2) hp) o
theorem Tr.wid : ∀ {n : Nat} {v : V} {t : T}, Tr S H L n v t → (∀ b, S b → S' b) → Tr S' H L n v t
  | 0, _, _, h, _ => h
  | n + 1, v, t, h, k => by
    rcases h with h | ⟨a, l, fs, e1, e2, es, e3, e4, e5⟩
    · exact .inl h
    · exact .inr ⟨a, l, fs, e1, e2, k _ es, e3, e4, e5.imp fun _ _ _ q => Tr.wid q k⟩
end
end GrT
/-! An own class's in, [..], len, for, == and static methods, as rules over the layer. -/
namespace GrOwn
open PySem PySem.Spec PyProof.Rows L2
section
variable {X : Cx} {CX : CXT} {k : Nat} {C f : Addr} {fd : FuncData} {ps : List Str} {sp : Sp} {E : XK}
/-- a def runs in any room that bears the same frames -/
theorem run_at {A : Around} {pins : List (Addr × Obj)} {σ : L2.St} {H : Hp} {s : Shared} {Q : VK} {us : List Value} {vs : List V} (F : FnOk X.prog X.w X.K X.mg X.base CX k f fd ps sp)
    (hr : Room k A) (e0 : Env0 X.prog X.w X.K X.mg X.base A X.stack s H) (hb : Binds X.K fd ps []) (hx : Passes CX X E) (I : Inv X pins σ H s) (r : Vals vs us) (h : sp vs H Q E) :
    wpAny (model X.prog X.w) A (call (.ref f) us) (EP X pins σ Q) X.xe s := by
  have hl : (us ++ []).length = ps.length := by
    rw [List.append_nil, ← r.length]
    exact F.len _ _ _ _ h
  have b := hb s us I.kIn hl
  rw [List.append_nil] at b
  refine wpAny_call (codeAny_mono (F.run A X.stack s H ⟨us, []⟩ us vs Q E hr e0 b r h) fun r s' hq => ?_)
  match r, hq with
  | .error e, hq => exact hx pins σ H s e s' I hq
  | .ok (.ret u), hq => exact I.after hq
/-- what the class says of one of its special defs -/
structure Sm (K : PySem.W.Frag) (C : Addr) (n : Str) (f : Addr) : Prop where
  at_ : PySem.W.findIn K (.ref C) n = some (some (.ref f))
  fn : PySem.W.isFn K (.ref f) = true
theorem inst {pins : List (Addr × Obj)} {σ : L2.St} {H : Hp} {s : Shared} {a dx : Addr} {fs : List (Str × V)} (I : Inv X pins σ H s) (e : H a = some (.ins C dx fs)) : ∃ od, PySem.W.InstAt s.heap a (PySem.W.instObj C dx) C (some od) := by
  obtain ⟨mA, J, _⟩ := ins_get I.hok e
  obtain ⟨od, J, _⟩ := J.look
  exact ⟨od, J⟩
/-- x in r -/
def rInO (neg : Bool) (C : Addr) (sp : Sp) (E : XK) : R2 := fun x y H Q => ∃ a dx fs, y = .ref a ∧ H a = some (.ins C dx fs) ∧ sp [.ref a, x] H (fun v H' => ∃ b, v = .bl b ∧ Q (.bl (if neg then !b else b)) H') E
theorem op_inO (m : Sm X.K C "__contains__" f) (F : FnOk X.prog X.w X.K X.mg X.base CX k f fd ps sp) (hr : Room k X.A) (hb : Binds X.K fd ps []) (hx : Passes CX X E) : OpR X (compareOp .In) (rInO false C sp E) := by
  intro pins s σ H x y v u Q I rx ry h
  obtain ⟨a, dx, fs, rfl, ea, q⟩ := h
  cases ry
  obtain ⟨od, J⟩ := inst I ea
  obtain ⟨m0, hF⟩ := I.fr
  refine PySem.W.in_K hF I.ok.mod.kin J m.at_ m.fn (thn (run_at (vs := [V.ref a, x]) F hr I.env0 hb hx I (.cons rfl (.cons rx .nil)) q) fun r s' hq => ?_)
  obtain ⟨z, H', I', rz, b, rfl, qq⟩ := hq
  cases rz
  exact wpAny_truthy_bool ⟨.bl b, H', I', rfl, qq⟩
theorem op_notInO (m : Sm X.K C "__contains__" f) (F : FnOk X.prog X.w X.K X.mg X.base CX k f fd ps sp) (hr : Room k X.A) (hb : Binds X.K fd ps []) (hx : Passes CX X E) : OpR X (compareOp .NotIn) (rInO true C sp E) := by
  intro pins s σ H x y v u Q I rx ry h
  obtain ⟨a, dx, fs, rfl, ea, q⟩ := h
  cases ry
  obtain ⟨od, J⟩ := inst I ea
  obtain ⟨m0, hF⟩ := I.fr
  refine PySem.W.notIn_K hF I.ok.mod.kin J m.at_ m.fn (thn (run_at (vs := [V.ref a, x]) F hr I.env0 hb hx I (.cons rfl (.cons rx .nil)) q) fun r s' hq => ?_)
  obtain ⟨z, H', I', rz, b, rfl, qq⟩ := hq
  cases rz
  exact wpAny_truthy_bool ⟨.bl (!b), H', I', rfl, qq⟩
/-- r[x] -/
def tIxO (C : Addr) (sp : Sp) (E : XK) (ta tb : TE) : TE := fun σ H Q => ta σ H fun x H1 => tb σ H1 fun y H2 => ∃ a dx fs, x = .ref a ∧ H2 a = some (.ins C dx fs) ∧ sp [.ref a, y] H2 Q E
theorem pe_ixO {a b : Expr} {ta tb : TE} {pos : Pos} (m : Sm X.K C "__getitem__" f) (hfn : PySem.W.fnIn X.K f = true) (F : FnOk X.prog X.w X.K X.mg X.base CX k f fd ps sp) (hr : Room (k + 1) X.A) (hb : Binds X.K fd ps []) (hx : Passes CX X E)
    (ha : PE X a ta) (hb' : PE X b tb) (hsl : ∀ (q : Addr) (i : Value), subscripted b true (.ref q) i = runValue (.builtin "lifetime.subscript" ⟨[.ref q, i], []⟩) := by intro _ _; with_unfolding_all rfl) :
    PE X (.Subscript a b pos) (tIxO C sp E ta tb) := by
  refine ⟨fun pins s σ H Q I h => Subscript_ (binT ha hb' I h fun v u s2 x y H2 I2 rx ry q => ?_)⟩
  obtain ⟨p, dx, fs, rfl, ea, q⟩ := q
  cases rx
  obtain ⟨od, J⟩ := inst I2 ea
  obtain ⟨m0, hF⟩ := I2.fr
  exact PySem.W.sub_K hF I2.ok.mod.kin J m.at_ hfn m.fn (run_at (vs := [V.ref p, y]) F hr.in1 I2.env0.in1 hb hx I2 (.cons rfl (.cons ry .nil)) q) (hsl _ _)
/-- len(r) -/
def rLenO (C : Addr) (sp : Sp) (E : XK) : List V → Hp → VK → Prop := fun xs H Q => ∃ a dx fs, xs = [.ref a] ∧ H a = some (.ins C dx fs) ∧ sp [.ref a] H (fun v H' => ∃ n : Int, v = .int n ∧ 0 ≤ n ∧ n < 2 ^ 63 ∧ Q (.int n) H') E
theorem call_lenO (m : Sm X.K C "__len__" f) (F : FnOk X.prog X.w X.K X.mg X.base CX k f fd ps sp) (hr : Room (k + 1) X.A) (hb : Binds X.K fd ps []) (hx : Passes CX X E) : CallR X (.builtin "len") (rLenO C sp E) := by
  intro pins s σ H xs us Q I r h
  obtain ⟨a, dx, fs, rfl, ea, q⟩ := h
  obtain ⟨u, rfl, ru⟩ := vals1 r
  cases ru
  obtain ⟨od, J⟩ := inst I ea
  obtain ⟨m0, hF⟩ := I.fr
  refine PySem.W.len_K hF I.ok.mod.kin J m.at_ m.fn (thn (run_at (vs := [V.ref a]) F hr.in1 I.env0.in1 hb hx I (.cons rfl .nil) q) fun r s' hq => ?_)
  obtain ⟨z, H', I', rz, n, rfl, n0, n1, qq⟩ := hq
  obtain ⟨t, rfl⟩ := rz
  exact ⟨⟨n0, n1⟩, .int n, H', I'.tok _, ⟨_, rfl⟩, qq⟩
end

/-! ### for x in r, where __iter__ hands back a tuple's iterator -/
/-- at it: an iterator over the tuple at t, not yet begun -/
def TiO (t it : Addr) : HO := .ext fun h => h.IsTupleIter it t 0
theorem tiO_ok {P : Program} {w : World} {H : Hp} {h : Heap} {t it : Addr} (e : h.IsTupleIter it t 0) : ObjOk P w H h it (TiO t it) := by
  obtain ⟨o, ho, z⟩ := id e
  exact ⟨e, ⟨o, ho⟩, fun h1 h2 q k => q.at fun o e => k o e⟩
/-- a promise that may speak of the heap's size at the call -/
structure FnS (P : Program) (w : World) (K : PySem.W.Frag) (mg : Str → Option Value) (base : Heap) (CX : CXT) (k : Nat) (f : Addr) (fd : FuncData) (ps : List Str) (sp : Nat → Sp) : Prop where
  len : ∀ n vs H Q E, sp n vs H Q E → vs.length = ps.length
  run : ∀ (A : Around) (outer : List Env) (s : Shared) (H : Hp) (args : Args) (us : List Value) (vs : List V) (Q : VK) (E : XK), Room k A → Env0 P w K mg base A outer s H → BindsTo s fd args (ps.zip us) → Vals vs us → sp s.heap.objs.size vs H Q E →
    codeAny (model P w) A (.call (.ref f) args) (CR CX outer P w H s Q E) s
theorem Fun.okS {P : Program} {w : World} {K : PySem.W.Frag} {mg : Str → Option Value} {base : Heap} {CX : CXT} {x qual : Str} {st : Stmt} {f : Addr} {fd : FuncData} {N ps : List Str} {k : Nat} {sp : Nat → Sp} (F : L2.Fun K x qual st f fd) (S : FnScope N ps (defScope st))
    (len : ∀ n vs H Q E, sp n vs H Q E → vs.length = ps.length)
    (body : ∀ (cdv : Value) (A : Around) (outer : List Env) (s : Shared) (H : Hp) (vs : List V) (Q : VK) (E : XK), Room k (A.deeper (envOfC qual (defScope st) s.heap.objs.size f cdv)) → sp s.heap.objs.size vs H Q E →
      ∃ t, PSs (cxOf CX P w K mg base N qual (defScope st) f cdv A outer s H E) (defBody st) t ∧ t { nx := fun _ H' => Q .non H', rt := Q } (start N vs) H) : FnS P w K mg base CX (k + 1) f fd ps sp := by
  obtain ⟨oc, od, kV, doc, pm, an, cdv, ct, osl, rfl, lk, hcd⟩ := F.ex
  refine ⟨len, fun A outer s H args us vs Q E hr e0 hb r q => ?_⟩
  -- for this one heap the promise is a plain one
  have G : ∀ n : Nat, n = s.heap.objs.size → codeAny (model P w) A (.call (.ref f) args) (CR CX outer P w H s Q E) s := fun n hn => by
    have hl := len _ _ _ _ _ q
    have kb : ∀ b o, base.get? b = some o → s.heap.get? b = some o := fun b o e => (e0.bs b o e).1
    have KX : K.In s.heap := e0.mod.kin.keeps kb
    have lim : s.heap.NoLimit := e0.mod.nolimit.keeps kb
    have hkind : ∀ y ∈ ps.zip us, (defScope st).names.lookup y.1 = some .local ∨ ((defScope st).names.lookup y.1 = some .cell ∧ ((cellsFrom (s.heap.objs.size + 1) (defScope st).names []).lookup y.1).isSome = true) := by
      rintro ⟨n, v⟩ hy
      rcases S.par n (List.of_mem_zip hy).1 with q | q
      · exact .inl q
      · exact .inr ⟨q, PySem.W.cellsFrom_some _ _ _ (.inl q)⟩
    refine codeAny_call_function hr.depth (KX _ _ lk) rfl S.co S.gen rfl (PySem.W.codeRec_of KX hcd) (hb _ _ _ _ ?_)
    refine wpAny_newFunctionEnv_cells S.kind hkind fun env he s1 x => ?_
    subst he
    refine ⟨lim.keeps x.toInCall.keep, codeAny_func ?_⟩
    obtain ⟨t, ht, hq⟩ := body cdv A outer s H vs Q E (hr.deeper _) q
    have I := inv_start (CX := CX) (w := w) (mg := mg) (E := E) S hr.hd e0 hl r x
    refine wpAny_mono (ht.run [] s1 (start N vs) H _ I hq) (fun fl s' hs => ?_) fun e s' hs => hs
    match fl, hs with
    | .ret u, ⟨v, σ', H', J, rv, q⟩ => exact ⟨v, H', J.os, J.bare, J.base, J.hok, rv, q⟩
    | .next, ⟨σ', H', J, q⟩ => exact ⟨V.non, H', J.os, J.bare, J.base, J.hok, rfl, q⟩
    | .brk, ⟨_, _, _, q⟩ => exact q.elim
    | .cont, ⟨_, _, _, q⟩ => exact q.elim
  exact G _ rfl
/-- iter(t), t a tuple -/
def rIterT (K : PySem.W.Frag) (n : Nat) : List V → Hp → VK → Prop := fun xs H Q => ∃ (t : Addr) (zs : List V), xs = [.ref t] ∧ SqT K H t zs ∧ ∀ it, H it = none → n ≤ it → Q (.ref it) (upd H it (TiO t it))
theorem call_iterT {X : Cx} : CallR X (.builtin "iter") (rIterT X.K X.s_0.heap.objs.size) := by
  intro pins s σ H xs us Q I r h
  obtain ⟨t, zs, rfl, hq, q⟩ := h
  obtain ⟨u, rfl, ru⟩ := vals1 r
  cases ru
  obtain ⟨its, rv, p, hz⟩ := I.tuple hq
  refine Calls.call_function_entry (by decide +kernel) (by decide +kernel) PySem.W.kdk_entry_iter (PySem.W.kdk_args_iter _) ?_
  unfold Builtin.«iter»
  refine wpAny_bind (m := someArgs "iter" 1 2 _) (wpAny_of_eq (a := [Value.ref t]) (by first | rfl | kernel_rfl!) ?_)
  refine wpAny_bind (m := pyIter (.ref t)) (wpAny_pyIter_tuple p ?_)
  exact wpAny_pure ⟨_, rfl, .ref s.heap.objs.size, _, I.laid (t' := s.toks) (fun b u e => Heap.get?_push_of_some _ e) (Nat.le_refl _) (tiO_ok ⟨_, Heap.get?_push_size _ rfl, rfl, rfl⟩), rfl, q _ (I.hok.fresh (Nat.le_refl _)) I.sz⟩
/-- what such an __iter__ promises -/
def spIt (K : PySem.W.Frag) (n : Nat) : Sp := fun vs H Q _ => ∃ (a C dx : Addr) (fs : List (Str × V)) (t : Addr) (zs : List V), vs = [.ref a] ∧ H a = some (.ins C dx fs) ∧ Cls K C ∧ NoAttr K C "names" ∧ fs.lookup ("names" : Str) = some (.ref t) ∧ SqT K H t zs ∧
  ∀ it, H it = none → n ≤ it → Q (.ref it) (upd H it (TiO t it))
section
variable {X : Cx} {CX : CXT} {k : Nat} {C f : Addr} {fd : FuncData} {ps : List Str} {E : XK} {tg e : Expr} {te : TE}
def iOwn (K : PySem.W.Frag) (te : TE) (C : Addr) : TI := fun σ H R => te σ H fun x H1 => ∃ (a dx : Addr) (fs : List (Str × V)) (t : Addr) (zs : List V), x = .ref a ∧ H1 a = some (.ins C dx fs) ∧ fs.lookup ("names" : Str) = some (.ref t) ∧ SqT K H1 t zs ∧ R (Itt K t) H1
theorem pi_own (m : Sm X.K C "__iter__" f) (c : Cls X.K C) (na : NoAttr X.K C "names") (F : FnS X.prog X.w X.K X.mg X.base CX k f fd ps (spIt X.K)) (hr : Room k X.A) (hb : Binds X.K fd ps []) (hx : Passes CX X E) (he : PE X e te) : PI X tg e (iOwn X.K te C) := by
  refine ⟨fun pins s σ H R I h => thn (he.run pins s σ H _ I h) fun v s1 hv => ?_⟩
  obtain ⟨x, H1, I1, rx, a, dx, fs, t, zs, rfl, ea, el, hq, q⟩ := hv
  cases rx
  obtain ⟨od, J⟩ := inst I1 ea
  obtain ⟨m0, hF⟩ := I1.fr
  refine PySem.W.owit_iter hF I1.ok.mod.kin J m.at_ m.fn ?_
  have hsp : spIt X.K s1.heap.objs.size [V.ref a] H1 (fun v H2 => ∃ it, v = .ref it ∧ H1 it = none ∧ s1.heap.objs.size ≤ it ∧ H2 = upd H1 it (TiO t it)) E :=
    ⟨a, C, dx, fs, t, zs, rfl, ea, c, na, el, hq, fun it h0 h1 => ⟨it, rfl, h0, h1, rfl⟩⟩
  have hl := F.len _ _ _ _ _ hsp
  have b := hb s1 [Value.ref a] I1.kIn (by simpa using hl)
  rw [List.append_nil] at b
  refine wpAny_call (codeAny_mono (F.run X.A X.stack s1 H1 ⟨[.ref a], []⟩ [.ref a] [.ref a] _ E hr I1.env0 b (.cons rfl .nil) hsp) fun r s' hq' => ?_)
  match r, hq' with
  | .error er, hq' => exact hx pins σ H1 s1 er s' I1 hq'
  | .ok (.ret u), hq' =>
    obtain ⟨z, H2, I2, rz, it, rfl, n0, n1, rfl⟩ := I1.after hq'
    cases rz
    have e2 : (upd H1 it (TiO t it)) it = some (TiO t it) := upd_same
    have ti : s'.heap.IsTupleIter it t 0 := (I2.hok it _ e2).1
    refine wpAny_specialOf ti.typeIs PySem.F.slot_tuple_iterator_next.lookup ?_
    have ed : ItX.dropH (upd H1 it (TiO t it)) it = H1 := ItX.dropH_upd n0
    have I3 := ItX.inv_drop I2 e2
    have fp := ItX.inv_fp I2 e2 (Nat.le_trans I1.sz n1)
    rw [ed] at I3 fp
    refine ⟨it, [it], _, Itt X.K t, H1, rfl, I3, turn_tuple t it, ti, fun b hb => ?_, q⟩
    have eb : b = it := by simpa using hb
    rw [eb]
    exact fp
end

/-! ### C.m(..), m a static method -/
structure SMet (K : PySem.W.Frag) (C : Addr) (mc : Value) (m : Str) (p g : Addr) : Prop where
  rd : ClX.CRead K C mc
  at_ : PySem.W.findCls K (.ref C) mc m = some (.get (.builtin "staticmethod.__get__") (.ref p) .none (.ref C))
  rc : ∃ rest, PySem.W.recIn K p "staticmethod" = some (.ref g :: rest)
  kp : PySem.W.keepIn K (.ref g) = true
def tSMet (C : Addr) (sp : Sp) (E : XK) (ta : TE) (t : TA) : TE := fun σ H Q => ta σ H fun x H1 => x = .ref C ∧ t σ H1 fun vs H2 => sp vs H2 Q E
section
variable {X : Cx} {CX : CXT} {k : Nat} {C p g : Addr} {mc : Value} {fd : FuncData} {ps : List Str} {sp : Sp} {E : XK} {o e : Expr} {es : List Expr} {m : Str} {pos apos : Pos} {ta : TE} {t : TA} {pl : Sem Bool}
theorem pe_sm (he : PE X o ta) (c : SMet X.K C mc m p g) (F : FnOk X.prog X.w X.K X.mg X.base CX k g fd ps sp) (hr : Room k X.A) (hb : Binds X.K fd ps []) (hx : Passes CX X E) (ha : PA X (e :: es) t)
    (hst : starEach (e :: es) X.env = (false, eval e X.env) :: starEach es X.env := by rfl) (hpl : (backTo pos (starEach es X.env)).any (·.1) = false := by rfl)
    (ht : eval (.Call (.Attribute o m apos) (e :: es) [] pos) X.env = (do
      let ov ← eval o X.env
      standAt apos.atName
      let (f, first) ← holding [ov] (getMethod ov m pl)
      callWith pos f first (backTo pos (starEach (e :: es) X.env)) (backToKw pos (keywordEach [] X.env))) := by rfl) :
    PE X (.Call (.Attribute o m apos) (e :: es) [] pos) (tSMet C sp E ta t) := by
  refine ⟨fun pins s σ H Q I h => PySem.W.methodCall_KW (pl := pl) (thn (he.run pins s σ H _ I h) fun u s1 hv => ?_) ht⟩
  obtain ⟨x, H1, I1, rx, rfl, q⟩ := hv
  obtain rfl : u = Value.ref C := rx
  obtain ⟨rest, hp⟩ := c.rc
  refine PySem.W.method_cls I1.kIn c.rd.ga (PySem.W.cls_bind I1.kIn c.rd.rd c.at_ ?_)
  refine wpAny_call (PySem.W.sm_get (s := { s1 with toks := s1.toks + 1 }) I1.kIn hp (PySem.W.handed_on rfl ?_))
  have I2 := I1.tok (s1.toks + 1)
  refine PySem.W.callWith_K (h₀ := X.base) I2.ok.mod.kin c.kp (thn (ha.run pos pins _ σ H1 _ I2 q) fun us s2 h2 => ?_) hst hpl
  obtain ⟨vs, H2, I3, rv, q2⟩ := h2
  exact ⟨I3.kIn, run_at F hr I3.env0 hb hx I3 rv q2⟩
end

/-! ### == where one side is an int and the other one of an own class -/
theorem int_eq_ins {prog : Program} {w : World} {A : Around} {E : Value → Shared → Prop} {s : Shared} {a : Int} {t : Tok} {l : Addr} {ox : Obj} {Q : Value → Shared → Prop} (ho : s.heap.get? l = some ox) (hd : ox.data = .plain) (h : Q .notImplemented s) :
    wpAny (model prog w) A (call (.builtin "int.__eq__") [.int a t, .ref l]) Q E s := by
  refine GQ.call_here PySem.F.slot_int_eq (typeIs_int s a t) PySem.F.entry_int_eq (PySem.F.args_int_eq_2 _ _) ?_
  obtain ⟨hp, g, d, tk, os⟩ := s
  obtain ⟨oc, od, oda, osl⟩ := ox
  dsimp only at hd
  subst hd
  wp_walk
  exact h
section
variable {X : Cx} {CX : CXT} {k : Nat} {C f : Addr} {fd : FuncData} {ps : List Str} {sp : Sp} {E : XK}
/-- r == y, by r's own def -/
def rEqOL (K : PySem.W.Frag) (C : Addr) (sp : Sp) (E : XK) : R2 := fun x y H Q => ∃ a dx fs, x = .ref a ∧ H a = some (.ins C dx fs) ∧
  ((∃ i, y = .int i) ∨ ∃ b dy gs, y = .ref b ∧ H b = some (.ins C dy gs)) ∧ sp [.ref a, y] H (fun v H' => ∃ b, v = .bl b ∧ Q (.bl b) H') E
theorem op_eqOL (m : Sm X.K C "__eq__" f) (hi : PySem.W.subIn X.K (.type "int") (.ref C) = some false) (F : FnOk X.prog X.w X.K X.mg X.base CX k f fd ps sp) (hr : Room k X.A) (hb : Binds X.K fd ps []) (hx : Passes CX X E) :
    OpR X (compareOp .Eq) (rEqOL X.K C sp E) := by
  intro pins s σ H x y v u Q I rx ry h
  obtain ⟨a, dx, fs, rfl, ea, hy, q⟩ := h
  cases rx
  obtain ⟨od, J⟩ := inst I ea
  obtain ⟨m0, hF⟩ := I.fr
  have fin : wpAny (model X.prog X.w) X.A (call (.ref f) [.ref a, u]) (PySem.W.CmpBack (EP X pins σ Q)) X.xe s := by
    refine thn (run_at (vs := [V.ref a, y]) F hr I.env0 hb hx I (.cons rfl (.cons ry .nil)) q) fun r s' hq => ?_
    obtain ⟨z, H', I', rz, b, rfl, qq⟩ := hq
    cases rz
    exact ⟨.bl b, H', I', rfl, qq⟩
  show wpAny _ _ (richCompare .Eq (.ref a) u) _ _ _
  rcases hy with ⟨i, rfl⟩ | ⟨b, dy, gs, rfl, eb⟩
  · obtain ⟨t, rfl⟩ := ry
    refine PySem.W.cmp_K (op := .Eq) (tb := .type "int") hr.units0 hF I.ok.mod.kin J .now ?_ m.at_ m.fn fin
    unfold PySem.W.notFirst
    rw [hi]
    rfl
  · cases ry
    obtain ⟨oe, J2⟩ := inst I eb
    exact PySem.W.cmp_K (op := .Eq) (tb := .ref C) hr.units0 hF I.ok.mod.kin J J2.type (by simp [PySem.W.notFirst]) m.at_ m.fn fin
/-- i == r: int declines, then r's own def is asked -/
def rEqOR (C : Addr) (sp : Sp) (E : XK) : R2 := fun x y H Q => ∃ i a dx fs, x = .int i ∧ y = .ref a ∧ H a = some (.ins C dx fs) ∧ sp [.ref a, .int i] H (fun v H' => ∃ b, v = .bl b ∧ Q (.bl b) H') E
theorem op_eqOR (m : Sm X.K C "__eq__" f) (hi : PySem.W.subIn X.K (.ref C) (.type "int") = some false) (F : FnOk X.prog X.w X.K X.mg X.base CX k f fd ps sp) (hr : Room k X.A) (hb : Binds X.K fd ps []) (hx : Passes CX X E) :
    OpR X (compareOp .Eq) (rEqOR C sp E) := by
  intro pins s σ H x y v u Q I rx ry h
  obtain ⟨i, a, dx, fs, rfl, rfl, ea, q⟩ := h
  cases ry
  obtain ⟨t, rfl⟩ := rx
  obtain ⟨od, J⟩ := inst I ea
  obtain ⟨m0, hF⟩ := I.fr
  have K0 := I.kIn
  have one : wpAny (model X.prog X.w) X.A (tryCompare (.ref a) "__eq__" (.int i t)) (fun r s' => ∃ v, r = some v ∧ EP X pins σ Q v s') X.xe s := by
    unfold tryCompare
    refine wpAny_bind (PySem.W.ifBound_K K0 J m.at_ m.fn (thn (run_at (vs := [V.ref a, V.int i]) F hr I.env0 hb hx I (.cons rfl (.cons ⟨t, rfl⟩ .nil)) q) fun r s' hq => ?_))
    obtain ⟨z, H', I', rz, b, rfl, qq⟩ := hq
    cases rz
    exact wpAny_pure ⟨_, rfl, .bl b, H', I', rfl, qq⟩
  show wpAny _ _ (richCompare .Eq (.int i t) (.ref a)) _ _ _
  have o0 : oneThing? .Eq (.int i t) (.ref a) = none := by first | rfl | decide +kernel
  have ne : (Value.type "int" != Value.ref C) = true := by simp
  unfold richCompare
  simp only [o0]
  refine wpAny_holding (wpAny_bind (wpAny_cRoomFor hr.units0 ?_))
  refine wpAny_bind (wpAny_typeOf (T := "int") (PySem.typeIs_int s i t) (wpAny_bind (J.type.here ?_)))
  simp only [ne, if_true]
  refine wpAny_bind ((PySem.W.looks_subIn K0 hi).here ?_)
  simp only [Bool.false_eq_true, if_false, Bool.not_false, if_true]
  refine wpAny_bind (m := tryCompare (.int i t) _ (.ref a)) (wpAny_tryCompare_declines (PySem.typeIs_int s i t) PySem.F.slot_int_eq (int_eq_ins J.at_ rfl ⟨rfl, ?_⟩))
  refine wpAny_bind (m := tryCompare (.ref a) _ (.int i t)) (wpAny_mono one (fun r s' z => ?_) fun _ _ e => e)
  obtain ⟨v, rfl, hq⟩ := z
  exact wpAny_pure hq
end
end GrOwn
/-! The law's own helpers: cells, the tape, what is drawn from it. -/
namespace Lw
open PySem PySem.Spec PyProof.Rows L2 GrT
def top (i : Nat) : Stmt := PySem.Challenge.pw_growingrecords_k04_equal_and_written.main.body.getD i (.Pass ⟨0, 0, 0, 0⟩)
abbrev sCell : Stmt := top 12
abbrev sMixed : Stmt := top 13
abbrev sTape : Stmt := top 14
abbrev sTake : Stmt := top 15
abbrev sNumber : Stmt := top 16
abbrev sWord : Stmt := top 17
abbrev sWords : Stmt := top 18
/-- a def of the module's top, by its name -/
structure Dfn (K : PySem.W.Frag) (mg : Str → Option Value) (x : Str) (st : Stmt) (ps : List Str) : Prop where
  ex : ∃ f fd, mg x = some (.ref f) ∧ L2.Fun K x x st f fd ∧ Binds K fd ps []
/-- the def called x keeps the promise sp, at level k -/
structure Cal (P : Program) (w : World) (K : PySem.W.Frag) (mg : Str → Option Value) (base : Heap) (k : Nat) (x : Str) (sp : Sp) : Prop where
  ex : ∃ (f : Addr) (fd : FuncData) (ps : List Str), FnOk P w K mg base CX0 k f fd ps sp ∧ mg x = some (.ref f) ∧ PySem.W.keepIn K (.ref f) = true ∧ Binds K fd ps []
theorem pe_c {X : Cx} {k j : Nat} {x : Str} {sp : Sp} {p pos : Pos} {e : Expr} {es : List Expr} {t : TA} (c : Cal X.prog X.w X.K X.mg X.base k x sp) (hr : Room j X.A) (hk : k ≤ j) (hg : Gl X x) (ha : PA X (e :: es) t)
    (hdb : (x == ("__debug__" : Str)) = false := by decide) (he : starEach (e :: es) X.env = (false, eval e X.env) :: starEach es X.env := by rfl) (hpl : (backTo pos (starEach es X.env)).any (·.1) = false := by rfl) :
    PE X (.Call (.Name x p) (e :: es) [] pos) (tCall sp [] E0 t) := by
  obtain ⟨f, fd, ps, F, hm, kp, b⟩ := c.ex
  exact pe_call F (hr.mono hk) hg hm kp b .nil pass0 ha hdb he hpl
/-- what the top leaves of the built-ins that the helpers ask -/
structure Bt (mg : Str → Option Value) : Prop where
  b_len : mg "len" = none
  b_int : mg "int" = none
  b_range : mg "range" = none
section
variable {P : Program} {w : World} {K : PySem.W.Frag} {mg : Str → Option Value} {base : Heap}
theorem Dfn.cal {x : Str} {st : Stmt} {N ps : List Str} {k : Nat} {sp : Sp} (D : Dfn K mg x st ps) (S : FnScope N ps (defScope st)) (len : ∀ vs H Q E, sp vs H Q E → vs.length = ps.length)
    (body : ∀ (f : Addr) (cdv : Value) (A : Around) (outer : List Env) (s : Shared) (H : Hp) (vs : List V) (Q : VK) (E : XK), Room k (A.deeper (envOfC x (defScope st) s.heap.objs.size f cdv)) → sp vs H Q E →
      ∃ t, PSs (cxOf CX0 P w K mg base N x (defScope st) f cdv A outer s H E).nox (defBody st) t ∧ t { nx := fun _ H' => Q .non H', rt := Q } (start N vs) H) : Cal P w K mg base (k + 1) x sp := by
  obtain ⟨f, fd, hm, F, b⟩ := D.ex
  exact ⟨f, fd, ps, F.ok S len (body f), hm, F.kp, b⟩
end
/-! ### what is promised -/
/-- all but the object at T stands -/
def Fx (T : Addr) (H H' : Hp) : Prop := ∀ b o, b ≠ T → H b = some o → H' b = some o
theorem Fx.refl {T : Addr} {H : Hp} : Fx T H H := fun _ _ _ e => e
theorem Fx.trans {T : Addr} {H H1 H2 : Hp} (a : Fx T H H1) (b : Fx T H1 H2) : Fx T H H2 := fun c o n e => b c o n (a c o n e)
theorem Fx.set {T : Addr} {H : Hp} {o : HO} : Fx T H (upd H T o) := fun b u n e => by
  rw [upd_ne n]
  exact e
theorem Fx.same {T : Addr} {H H' : Hp} (s : Same H H') : Fx T H H' := fun b o _ e => s b o e
theorem Fx.new {T a : Addr} {H H1 : Hp} {o : HO} (x : Fx T H H1) (n : H1 a = none) : Fx T H (upd H1 a o) := fun b u ne e => by
  have q := x b u ne e
  rw [upd_ne (ne_of_none q n)]
  exact q
/-- the tape: ints below 720720 -/
def Tape (H : Hp) (T : Addr) : Prop := ∃ ns : List Int, H T = some (.lst (ns.map V.int)) ∧ ns.length ≤ 1000 ∧ ∀ n ∈ ns, 0 ≤ n ∧ n < 720720
theorem Tape.new {H : Hp} {T a : Addr} {o : HO} (t : Tape H T) (n : H a = none) : Tape (upd H a o) T := by
  obtain ⟨ns, e, z⟩ := t
  exact ⟨ns, by rw [upd_ne (ne_of_none e n)]; exact e, z⟩
theorem Tape.ne {H : Hp} {T a : Addr} {o : HO} (t : Tape H T) (e : H a = some o) (d : ∀ xs, o ≠ .lst xs) : a ≠ T := by
  obtain ⟨ns, q, _⟩ := t
  exact ne_of e q (d _)
theorem Tape.put {H : Hp} {T a : Addr} {o : HO} (t : Tape H T) (n : a ≠ T) : Tape (upd H a o) T := by
  obtain ⟨ns, e, z⟩ := t
  exact ⟨ns, by rw [upd_ne n.symm]; exact e, z⟩
def spCell (K : PySem.W.Frag) : Sp := fun vs H Q _ => ∃ (a : Addr) (ns : List Int) (k : Int), vs = [.ref a, .int k] ∧ SqL K H a (ns.map V.int) ∧ 0 ≤ k ∧ ∀ i, Q (.int i) H
def spMixed : Sp := fun vs H Q _ => ∃ c k : Int, vs = [.int c, .int k] ∧ 0 ≤ k ∧ k < 10000 ∧ ∀ i, 0 ≤ i → i < 720720 → Q (.int i) H
def spTape : Sp := fun vs H Q _ => ∃ g l c : Int, vs = [.int g, .int l, .int c] ∧ 0 ≤ c ∧ c ≤ 1000 ∧ ∀ T H', H T = none → Tape H' T → Same H H' → Q (.ref T) H'
def spTake : Sp := fun vs H Q _ => ∃ (T : Addr) (m : Int), vs = [.ref T, .int m] ∧ Tape H T ∧ 0 < m ∧ ∀ i H', 0 ≤ i → i < m → Fx T H H' → Tape H' T → Q (.int i) H'
def spNumber : Sp := fun vs H Q _ => ∃ T : Addr, vs = [.ref T] ∧ Tape H T ∧ ∀ i H', 0 ≤ i → i < 2 ^ 100 → Fx T H H' → Tape H' T → Q (.int i) H'
/-- a text of signs a to z -/
def Az (x : Str) : Prop := ∀ c ∈ x.cps.toList, letter c
def spWord : Sp := fun vs H Q _ => ∃ (T : Addr) (m : Int), vs = [.ref T, .int m] ∧ Tape H T ∧ 0 < m ∧ m ≤ 100 ∧ ∀ (x : Str) H', 1 ≤ x.length → (x.length : Int) ≤ m → Az x → Fx T H H' → Tape H' T → Q (.str x) H'
section
variable {P : Program} {w : World} {K : PySem.W.Frag} {mg : Str → Option Value} {base : Heap}
/-! ### the defs -/
theorem scCell : FnScope ["script", "k"] ["script", "k"] (defScope sCell) := ⟨rfl, rfl, rfl, by decide +kernel, rfl, by decide +kernel, by decide +kernel⟩
theorem c_cell (T : Bt mg) (D : Dfn K mg "_law_cell" sCell ["script", "k"]) : Cal P w K mg base 1 "_law_cell" (spCell K) := by
  refine D.cal scCell (fun vs H Q E h => ?_) (fun f cdv A outer s H vs Q E hr h => ?_)
  · obtain ⟨a, ns, k, rfl, _⟩ := h
    rfl
  · obtain ⟨a, ns, k, rfl, hS, k0, q⟩ := h
    refine ⟨_, (pss_cons (ps_if (pt_cmpR op_lt (pv 1) (pe_callB call_len_seq (by rfl) T.b_len PySem.boot_len (pa_cons (pv 0) pa_nil)) (nomark _))
      (pss_one (ps_ret (pe_ix ix_list (pv 0) (pv 1) (fun _ _ => rfl))))
      pss_nil)
      (pss_one (ps_ret pe_int))), ?_⟩
    refine ⟨_, rfl, _, rfl, a, _, rfl, .inl hS, _, _, rfl, rfl, _, rfl, ?_⟩
    refine ite2 (fun hk => ?_) (fun _ => q 0)
    have hk' := of_decide_eq_true hk
    rw [List.length_map] at hk'
    have e1 : k.toNat < ns.length := by omega
    refine ⟨_, rfl, _, rfl, a, _, _, _, rfl, rfl, hS, ?_, q (ns[k.toNat]'e1)⟩
    obtain ⟨j, rfl⟩ : ∃ j : Nat, k = (j : Int) := ⟨k.toNat, by omega⟩
    refine atI_nat ?_
    rw [List.getElem?_map]
    have e3 : j < ns.length := by omega
    simp [List.getElem?_eq_getElem e3]
theorem scMixed : FnScope ["cell", "k", "first", "second"] ["cell", "k"] (defScope sMixed) := ⟨rfl, rfl, rfl, by decide +kernel, rfl, by decide +kernel, by decide +kernel⟩
theorem c_mixed (T : Bt mg) (D : Dfn K mg "_law_mixed" sMixed ["cell", "k"]) : Cal P w K mg base 1 "_law_mixed" spMixed := by
  refine D.cal scMixed (fun vs H Q E h => ?_) (fun f cdv A outer s H vs Q E hr h => ?_)
  · obtain ⟨c, k, rfl, _⟩ := h
    rfl
  · obtain ⟨c, k, rfl, k0, k1, q⟩ := h
    refine ⟨_, (pss_cons (ps_set (i := 2) scMixed.nd rfl (Or.inl rfl) (pe_op op_mod (pe_callTy call_int1 (by rfl) T.b_int (by decide +kernel) (pa_cons (pe_op op_add (pe_op op_add (pe_op op_mul (pv 0) pe_int) (pe_op op_mul (pv 1) pe_int)) pe_int) pa_nil)) pe_int))
      (pss_cons (ps_set (i := 3) scMixed.nd rfl (Or.inl rfl) (pe_op op_mod (pe_callTy call_int1 (by rfl) T.b_int (by decide +kernel) (pa_cons (pe_op op_add (pe_op op_add (pe_op op_mul (pv 2) (pv 2)) (pe_op op_mul pe_int (pv 2))) (pe_op op_mul (pv 1) pe_int)) pa_nil)) pe_int))
      (pss_one (ps_ret (pe_op op_mod (pe_callTy call_int1 (by rfl) T.b_int (by decide +kernel) (pa_cons (pv 3) pa_nil)) pe_int))))), ?_⟩
    have p31 : (0 : Int) < 2147483647 := by decide
    have f0 : ∀ z : Int, 0 ≤ z % 2147483647 ∧ z % 2147483647 < 2147483647 := fun z => ⟨Int.emod_nonneg z (by decide), Int.emod_lt_of_pos z p31⟩
    refine ⟨_, rfl, _, _, rfl, rfl, .inr ⟨by decide, by decide⟩, _, rfl, _, _, rfl, rfl, .inr ⟨by decide, by decide⟩, _, _, rfl, rfl, _, _, rfl, rfl, .inl ⟨_, rfl, _, _, rfl, rfl, p31, ?_⟩⟩
    generalize hz : (c * 48271 + k * 69621 + 7) % 2147483647 = z
    have hf := f0 (c * 48271 + k * 69621 + 7)
    rw [hz] at hf
    refine ⟨_, rfl, _, rfl, _, _, rfl, rfl, .inl ⟨by omega, by omega⟩, _, rfl, _, _, rfl, rfl, .inl ⟨by decide, by decide⟩, _, _, rfl, rfl, _, rfl, _, _, rfl, rfl, .inr ⟨by decide, by decide⟩, _, _, rfl, rfl, .inl ⟨_, rfl, _, _, rfl, rfl, (by decide : (0 : Int) < 2147483629), ?_⟩⟩
    exact ⟨_, rfl, .inl ⟨_, rfl, _, _, rfl, rfl, (by decide : (0 : Int) < 720720), q _ (Int.emod_nonneg _ (by decide)) (Int.emod_lt_of_pos _ (by decide))⟩⟩
theorem scTape : FnScope ["great", "lesser", "count", "tape", "rest", "k", "drawn"] ["great", "lesser", "count"] (defScope sTape) := ⟨rfl, rfl, rfl, by decide +kernel, rfl, by decide +kernel, by decide +kernel⟩
theorem p72 : (0 : Int) < 720720 := by decide
theorem c_tape (T : Bt mg) (D : Dfn K mg "_law_tape" sTape ["great", "lesser", "count"]) (c_law_mixed : Cal P w K mg base 1 "_law_mixed" spMixed) : Cal P w K mg base 2 "_law_tape" spTape := by
  refine D.cal scTape (fun vs H Q E h => ?_) (fun f cdv A outer s H vs Q E hr h => ?_)
  · obtain ⟨g, l, c, rfl, _⟩ := h
    rfl
  · obtain ⟨g, l, c, rfl, c0, c1, q⟩ := h
    refine ⟨_, (pss_cons (ps_set (i := 3) scTape.nd rfl (Or.inl rfl) (pe_lst pa_nil))
      (pss_cons (ps_set (i := 4) scTape.nd rfl (Or.inl rfl) (pv 0))
      (pss_cons (ps_for PassesOwn.never rfl (pi_range1 (by rfl) T.b_range (pa_cons (pv 2) pa_nil)) (pg_name (i := 5) scTape.nd rfl (Or.inl rfl))
      (pss_cons (ps_set (i := 6) scTape.nd rfl (Or.inl rfl) (pe_c c_law_mixed hr (by decide) rfl (pa_cons (pv 1) (pa_cons (pv 5) pa_nil))))
      (pss_cons (ps_if (pt_cmpR op_ge (pv 0) (pe_op op_pow pe_int pe_int) (nomark _))
      (pss_cons (ps_set (i := 6) scTape.nd rfl (Or.inl rfl) (pe_op op_add (pv 6) (pe_op op_mod (pe_callTy call_int1 (by rfl) T.b_int (by decide +kernel) (pa_cons (pv 4) pa_nil)) pe_int)))
      (pss_one (ps_set (i := 4) scTape.nd rfl (Or.inl rfl) (pe_op op_fdiv (pv 4) pe_int))))
      (pss_one (ps_set (i := 6) scTape.nd rfl (Or.inl rfl) (pe_op op_add (pv 6) (pe_c c_law_mixed hr (by decide) rfl (pa_cons (pv 0) (pa_cons (pe_op op_add (pv 5) pe_int) pa_nil)))))))
      (pss_one (ps_expr (pe_bm PySem.F.plainAttrs_list PySem.F.slot_list_append PySem.F.type_list_append mt_append (pv 3) (pa_cons (pe_op op_mod (pe_callTy call_int1 (by rfl) T.b_int (by decide +kernel) (pa_cons (pv 6) pa_nil)) pe_int) pa_nil)))))))
      (pss_one (ps_ret (pv 3)))))), ?_⟩
    refine ⟨Nat.zero_le _, fun p hp => ?_⟩
    refine ⟨_, rfl, _, rfl, c, rfl, by omega, by omega, for_range (lo := 0) (n := c.toNat) (fun i σ H' => ∃ (r : Int) (kv dv : Option V) (ns : List Int), σ = [some (.int g), some (.int l), some (.int c), some (.ref p), some (.int r), kv, dv] ∧
      H' p = some (.lst (ns.map V.int)) ∧ ns.length = i ∧ (∀ n ∈ ns, 0 ≤ n ∧ n < 720720) ∧ Same H H') ⟨g, none, none, [], rfl, upd_same, rfl, (fun n hn => by cases hn), (fun b o e => by rw [upd_ne (ne_of_none e hp)]; exact e)⟩ ?_ ?_⟩
    · rintro i σ H' hi ⟨r, kv, dv, ns, rfl, hl, hn, hb, hs⟩
      refine ⟨_, rfl, _, rfl, _, _, rfl, by omega, by omega, fun d1 hd1 hd2 => ?_⟩
      refine ⟨_, rfl, _, _, rfl, rfl, ⟨by decide, by decide, by decide⟩, _, _, rfl, rfl, _, rfl, ite2 (fun _ => ?_) (fun _ => ?_)⟩
      · refine ⟨_, rfl, _, rfl, .inl ⟨_, rfl, _, _, rfl, rfl, p72, _, _, rfl, rfl, _, rfl, _, _, rfl, rfl, ⟨by decide, by decide⟩, ?_⟩⟩
        refine ⟨_, rfl, .inl ⟨rfl, _, .inl (.inl hl)⟩, _, rfl, .inl ⟨_, rfl, _, _, rfl, rfl, p72, p, _, _, rfl, rfl, hl, small1000 (by rw [List.length_map]; omega), ?_⟩⟩
        refine ⟨_, _, _, ns ++ [(d1 + r % 720720) % 720720], rfl, ?_, by rw [List.length_append, hn]; rfl, fun n h => ?_, fun b o e => ?_⟩
        · rw [upd_same, List.map_append]
          rfl
        · rcases List.mem_append.mp h with h | h
          · exact hb n h
          · have e := List.mem_singleton.mp h
            rw [e]
            exact ⟨Int.emod_nonneg _ (by decide), Int.emod_lt_of_pos _ p72⟩
        · rw [upd_ne (ne_of_none e hp)]
          exact hs b o e
      · refine ⟨_, rfl, _, rfl, _, rfl, _, _, rfl, rfl, _, _, rfl, by omega, by omega, fun d2 hd3 hd4 => ⟨_, _, rfl, rfl, ?_⟩⟩
        refine ⟨_, rfl, .inl ⟨rfl, _, .inl (.inl hl)⟩, _, rfl, .inl ⟨_, rfl, _, _, rfl, rfl, p72, p, _, _, rfl, rfl, hl, small1000 (by rw [List.length_map]; omega), ?_⟩⟩
        refine ⟨_, _, _, ns ++ [(d1 + d2) % 720720], rfl, ?_, by rw [List.length_append, hn]; rfl, fun n h => ?_, fun b o e => ?_⟩
        · rw [upd_same, List.map_append]
          rfl
        · rcases List.mem_append.mp h with h | h
          · exact hb n h
          · have e := List.mem_singleton.mp h
            rw [e]
            exact ⟨Int.emod_nonneg _ (by decide), Int.emod_lt_of_pos _ p72⟩
        · rw [upd_ne (ne_of_none e hp)]
          exact hs b o e
    · rintro σ H' ⟨r, kv, dv, ns, rfl, hl, hn, hb, hs⟩
      exact ⟨_, rfl, q p H' hp ⟨ns, hl, by omega, hb⟩ hs⟩
theorem scTake : FnScope ["tape", "many"] ["tape", "many"] (defScope sTake) := ⟨rfl, rfl, rfl, by decide +kernel, rfl, by decide +kernel, by decide +kernel⟩
theorem type_pop : typeOf (.builtin "list.pop") = pure (.type "method_descriptor") := by
  show builtinType _ = _
  rw [builtinType_eq_fast]
  kernel_rfl
theorem c_take (T : Bt mg) (D : Dfn K mg "_law_take" sTake ["tape", "many"]) : Cal P w K mg base 1 "_law_take" spTake := by
  refine D.cal scTake (fun vs H Q E h => ?_) (fun f cdv A outer s H vs Q E hr h => ?_)
  · obtain ⟨p, m, rfl, _⟩ := h
    rfl
  · obtain ⟨p, m, rfl, ⟨ns, hl, hn, hb⟩, m0, q⟩ := h
    refine ⟨_, (pss_cons (ps_if (pt_not (pt_truth (pv 0) (by intro _; rfl)))
      (pss_one (ps_ret pe_int))
      pss_nil)
      (pss_one (ps_ret (pe_op op_mod (pe_callTy call_int1 (by rfl) T.b_int (by decide +kernel) (pa_cons (pe_bm PySem.F.plainAttrs_list PySem.F.slot_list_pop type_pop mt_popAt (pv 0) (pa_cons pe_int pa_nil)) pa_nil)) (pv 1))))), ?_⟩
    refine ⟨_, rfl, !(ns.map V.int).isEmpty, .inl ⟨_, SqL.of hl, rfl⟩, ?_⟩
    cases ns with
    | nil => exact iteT (q 0 H (Int.le_refl _) m0 Fx.refl ⟨[], hl, hn, hb⟩)
    | cons n ns =>
      refine iteF ?_
      refine ⟨_, rfl, .inl ⟨rfl, _, .inl (.inl hl)⟩, p, _, 0, 0, .int n, rfl, rfl, hl, by decide, by decide, by simp [seqIndex?], rfl, ?_⟩
      refine .inl ⟨n, rfl, _, rfl, n, m, rfl, rfl, m0, ?_⟩
      refine q _ _ (Int.emod_nonneg _ (by omega)) (Int.emod_lt_of_pos _ m0) Fx.set ⟨ns, upd_same, ?_, fun z hz => hb z (List.mem_cons_of_mem _ hz)⟩
      rw [List.length_cons] at hn
      omega
end
end Lw
namespace Lw
open PySem PySem.Spec PyProof.Rows L2 GrT
section
variable {P : Program} {w : World} {K : PySem.W.Frag} {mg : Str → Option Value} {base : Heap}
theorem scNumber : FnScope ["tape", "number", "k"] ["tape"] (defScope sNumber) := ⟨rfl, rfl, rfl, by decide +kernel, rfl, by decide +kernel, by decide +kernel⟩
theorem pow_step {m d : Int} {i : Nat} (h0 : 0 ≤ m) (h : m < 720720 ^ i) (d0 : 0 ≤ d) (d1 : d < 720720) : 0 ≤ m * 720720 + d ∧ m * 720720 + d < 720720 ^ (i + 1) := by
  have e : (720720 : Int) ^ (i + 1) = 720720 ^ i * 720720 := Int.pow_succ _ _
  rw [e]
  generalize (720720 : Int) ^ i = q at h
  omega
theorem c_number (T : Bt mg) (D : Dfn K mg "_law_number" sNumber ["tape"]) (c_law_take : Cal P w K mg base 1 "_law_take" spTake) : Cal P w K mg base 2 "_law_number" spNumber := by
  refine D.cal scNumber (fun vs H Q E h => ?_) (fun f cdv A outer s H vs Q E hr h => ?_)
  · obtain ⟨p, rfl, _⟩ := h
    rfl
  · obtain ⟨p, rfl, tp, q⟩ := h
    refine ⟨_, (pss_cons (ps_if (pt_cmpR op_lt (pe_c c_law_take hr (by decide) rfl (pa_cons (pv 0) (pa_cons pe_int pa_nil))) pe_int (nomark _))
      (pss_one (ps_ret (pe_c c_law_take hr (by decide) rfl (pa_cons (pv 0) (pa_cons pe_int pa_nil)))))
      pss_nil)
      (pss_cons (ps_set (i := 1) scNumber.nd rfl (Or.inl rfl) pe_int)
      (pss_cons (ps_for PassesOwn.never rfl (pi_range1 (by rfl) T.b_range (pa_cons pe_int pa_nil)) (pg_name (i := 2) scNumber.nd rfl (Or.inl rfl))
      (pss_one (ps_set (i := 1) scNumber.nd rfl (Or.inl rfl) (pe_op op_add (pe_op op_mul (pv 1) pe_int) (pe_c c_law_take hr (by decide) rfl (pa_cons (pv 0) (pa_cons pe_int pa_nil)))))))
      (pss_one (ps_ret (pv 1)))))), ?_⟩
    refine ⟨_, rfl, p, 4, rfl, tp, by decide, fun i H1 i0 i1 x1 t1 => ⟨_, _, rfl, rfl, _, rfl, ite2 (fun _ => ?_) (fun _ => ?_)⟩⟩
    · exact ⟨_, rfl, p, 10, rfl, t1, by decide, fun j H2 j0 j1 x2 t2 => q j H2 j0 (by omega) (x1.trans x2) t2⟩
    · refine ⟨5, rfl, by decide, by decide, for_range (lo := 0) (n := 5) (fun i σ H' => ∃ (m : Int) (kv : Option V), σ = [some (.ref p), some (.int m), kv] ∧ 0 ≤ m ∧ m < 720720 ^ i ∧ Fx p H H' ∧ Tape H' p)
        ⟨0, none, rfl, by decide, by decide, x1, t1⟩ ?_ ?_⟩
      · rintro i σ H' hi ⟨m, kv, rfl, m0, m1, x2, t2⟩
        refine ⟨_, rfl, _, _, rfl, rfl, .inr ⟨by decide, by decide⟩, _, rfl, p, 720720, rfl, t2, p72, fun d H3 d0 d1 x3 t3 => ⟨_, _, rfl, rfl, ?_⟩⟩
        have hp := pow_step m0 m1 d0 d1
        exact ⟨m * 720720 + d, _, rfl, hp.1, hp.2, x2.trans x3, t3⟩
      · rintro σ H' ⟨m, kv, rfl, m0, m1, x2, t2⟩
        have e5 : (720720 : Int) ^ 5 < 2 ^ 100 := by decide
        exact ⟨_, rfl, q m H' m0 (by omega) x2 t2⟩
theorem scWord : FnScope ["tape", "longest", "letters", "size", "word", "drawn", "k"] ["tape", "longest"] (defScope sWord) := ⟨rfl, rfl, rfl, by decide +kernel, rfl, by decide +kernel, by decide +kernel⟩
theorem abc_at : ∀ j : Nat, j < 26 → ((Str.ofString "abcdefghijklmnopqrstuvwxyz").cps.toList)[j]? = some (97 + j) := by decide +kernel
theorem abc_len : (Str.ofString "abcdefghijklmnopqrstuvwxyz").length = 26 := by decide +kernel
theorem abc_mod (d : Int) : ∃ c, letter c ∧ atI (Str.ofString "abcdefghijklmnopqrstuvwxyz").cps.toList (d % 26) = some c := by
  have h0 : 0 ≤ d % 26 := Int.emod_nonneg _ (by decide)
  have h1 : d % 26 < 26 := Int.emod_lt_of_pos _ (by decide)
  obtain ⟨j, hj⟩ : ∃ j : Nat, d % 26 = (j : Int) := ⟨(d % 26).toNat, by omega⟩
  refine ⟨97 + j, ⟨by omega, by omega⟩, ?_⟩
  rw [hj]
  exact atI_nat (abc_at j (by omega))
theorem len_tl (x : Str) : x.length = x.cps.toList.length := by simp [Str.length]
theorem cat_tl (x y : Str) : (x ++ y).cps.toList = x.cps.toList ++ y.cps.toList := SX.S_inj (by rw [SX.S_tl, ← SX.S_cat, SX.S_tl, SX.S_tl])
theorem cat_len (x y : Str) : (x ++ y).length = x.length + y.length := by rw [len_tl, len_tl x, len_tl y, cat_tl, List.length_append]
theorem Az.cat {x y : Str} (a : Az x) (b : Az y) : Az (x ++ y) := fun c hc => by
  rw [cat_tl] at hc
  rcases List.mem_append.mp hc with h | h
  · exact a c h
  · exact b c h
theorem cut_tl (x : Str) {i : Int} (h : 0 ≤ i) : (Txt.slice x none (some i)).cps.toList = x.cps.toList.take i.toNat := by
  have e := SX.slice_to (a := x.cps.toList) h
  rw [SX.S_tl] at e
  rw [e]
theorem Az.cut {x : Str} (a : Az x) {i : Int} (h : 0 ≤ i) : Az (Txt.slice x none (some i)) := fun c hc => by
  rw [cut_tl x h] at hc
  exact a c (List.mem_of_mem_take hc)
theorem cut_len (x : Str) {i : Int} (h : 0 ≤ i) : (Txt.slice x none (some i)).length = min i.toNat x.length := by rw [len_tl, cut_tl x h, List.length_take, len_tl x]
theorem one_len (c : Nat) : (⟨#[c]⟩ : Str).length = 1 := rfl
theorem Az.one {c : Nat} (h : letter c) : Az ⟨#[c]⟩ := fun d hd => by
  have e : d = c := by simpa using hd
  rw [e]
  exact h
theorem line_big {n : Nat} (h : n ≤ 100000) : n ≤ sizeLine := Nat.le_trans h (by rw [sizeLine_eq]; decide)
theorem c_word (T : Bt mg) (D : Dfn K mg "_law_word" sWord ["tape", "longest"]) (c_law_take : Cal P w K mg base 1 "_law_take" spTake) : Cal P w K mg base 2 "_law_word" spWord := by
  refine D.cal scWord (fun vs H Q E h => ?_) (fun f cdv A outer s H vs Q E hr h => ?_)
  · obtain ⟨p, m, rfl, _⟩ := h
    rfl
  · obtain ⟨p, m, rfl, tp, m0, m1, q⟩ := h
    refine ⟨_, (pss_cons (ps_set (i := 2) scWord.nd rfl (Or.inl rfl) pe_str)
      (pss_cons (ps_set (i := 3) scWord.nd rfl (Or.inl rfl) (pe_op op_add pe_int (pe_c c_law_take hr (by decide) rfl (pa_cons (pv 0) (pa_cons (pv 1) pa_nil)))))
      (pss_cons (ps_set (i := 4) scWord.nd rfl (Or.inl rfl) pe_str)
      (pss_cons (ps_while PassesOwn.never (pt_cmpR op_lt (pe_callB call_len_str (by rfl) T.b_len PySem.boot_len (pa_cons (pv 4) pa_nil)) (pv 3) (nomark _))
      (pss_cons (ps_set (i := 5) scWord.nd rfl (Or.inl rfl) (pe_c c_law_take hr (by decide) rfl (pa_cons (pv 0) (pa_cons pe_int pa_nil))))
      (pss_one (ps_for PassesOwn.never rfl (pi_range1 (by rfl) T.b_range (pa_cons pe_int pa_nil)) (pg_name (i := 6) scWord.nd rfl (Or.inl rfl))
      (pss_cons (ps_set (i := 4) scWord.nd rfl (Or.inl rfl) (pe_op op_add_str (pv 4) (pe_ix ix_str (pv 2) (pe_op op_mod (pe_callTy call_int1 (by rfl) T.b_int (by decide +kernel) (pa_cons (pv 5) pa_nil)) pe_int) (fun _ _ => rfl))))
      (pss_one (ps_set (i := 5) scWord.nd rfl (Or.inl rfl) (pe_op op_fdiv (pv 5) pe_int))))))))
      (pss_one (ps_ret (pe_slice C8.sl_txt (pv 4) po_none (po_some (pv 3))))))))), ?_⟩
    refine ⟨_, rfl, _, rfl, p, m, rfl, tp, m0, fun z H1 z0 z1 x1 t1 => ⟨_, _, rfl, rfl, ?_⟩⟩
    refine ⟨fun n σ H' => ∃ (x : Str) (dv kv : Option V), σ = [some (.ref p), some (.int m), some (.str "abcdefghijklmnopqrstuvwxyz"), some (.int (1 + z)), some (.str x), dv, kv] ∧ n = 200 - x.length ∧ x.length ≤ 150 ∧ Az x ∧ Fx p H H' ∧ Tape H' p,
      ⟨_, Str.ofString "", none, none, rfl, rfl, by decide, (fun c hc => by cases hc), x1, t1⟩, ?_⟩
    rintro n σ H' ⟨x, dv, kv, rfl, rfl, xl, xa, x2, t2⟩
    refine ⟨_, rfl, x, rfl, line_big (by omega), _, rfl, _, _, rfl, rfl, _, rfl, ite2 (fun hlt => ?_) (fun hge => ?_)⟩
    · have hlt' := of_decide_eq_true hlt
      refine ⟨fun σ' H2 => ∃ (y : Str) (dv kv : Option V), σ' = [some (.ref p), some (.int m), some (.str "abcdefghijklmnopqrstuvwxyz"), some (.int (1 + z)), some (.str y), dv, kv] ∧ y.length = x.length + 4 ∧ Az y ∧ Fx p H H2 ∧ Tape H2 p,
        fun σ' H2 hN => ?_, ?_⟩
      · obtain ⟨y, dv, kv, rfl, yl, ya, x3, t3⟩ := hN
        exact ⟨200 - y.length, by omega, y, dv, kv, rfl, rfl, by omega, ya, x3, t3⟩
      · refine ⟨_, rfl, p, 720720, rfl, t2, p72, fun d H3 d0 d1 x3 t3 => ?_⟩
        refine ⟨4, rfl, by decide, by decide, for_range (lo := 0) (n := 4) (fun i σ' H2 => ∃ (y : Str) (d : Int) (kv : Option V), σ' = [some (.ref p), some (.int m), some (.str "abcdefghijklmnopqrstuvwxyz"), some (.int (1 + z)), some (.str y), some (.int d), kv] ∧ y.length = x.length + i ∧ Az y ∧ Fx p H H2 ∧ Tape H2 p)
          ⟨x, d, kv, rfl, rfl, xa, x2.trans x3, t3⟩ ?_ ?_⟩
        · rintro i σ' H2 hi ⟨y, d, kv, rfl, yl, ya, x4, t4⟩
          obtain ⟨c, hc, hat⟩ := abc_mod d
          refine ⟨_, rfl, _, rfl, _, rfl, .inl ⟨_, rfl, _, _, rfl, rfl, (by decide : (0 : Int) < 26), ?_⟩⟩
          refine ⟨_, _, c, rfl, rfl, by rw [abc_len]; exact line_big (by decide), hat, _, _, rfl, rfl, ?_, ?_⟩
          · rw [one_len]
            exact line_big (by omega)
          · refine ⟨_, rfl, _, _, rfl, rfl, ⟨by decide, by decide⟩, ?_⟩
            exact ⟨_, _, _, rfl, by rw [cat_len, yl, one_len]; omega, ya.cat (Az.one hc), x4, t4⟩
        · rintro σ' H2 ⟨y, d, kv, rfl, yl, ya, x4, t4⟩
          exact ⟨y, _, _, rfl, yl, ya, x4, t4⟩
    · have hge' : ¬ ((x.length : Int) < 1 + z) := fun c => hge (decide_eq_true c)
      refine ⟨_, rfl, _, rfl, _, rfl, x, rfl, line_big (by omega), ?_⟩
      have h1z : 0 ≤ 1 + z := by omega
      refine q _ H' ?_ ?_ (xa.cut h1z) x2 t2
      · rw [cut_len x h1z]
        omega
      · rw [cut_len x h1z]
        omega
end
end Lw
namespace Lw
open PySem PySem.Spec PyProof.Rows L2 GrT
/-! ### texts in a list, counted -/
theorem inV_str {a : Str} : ∀ {bs : List Str}, inV (.str a) (bs.map V.str) = true ↔ a ∈ bs
  | [] => by simp [inV]
  | b :: bs => by
    have ih := inV_str (a := a) (bs := bs)
    unfold inV at ih ⊢
    rw [List.map_cons, List.any_cons, Bool.or_eq_true, ih, List.mem_cons]
    have e : eqV (.str b) (.str a) = true ↔ a = b := by
      show (b == a) = true ↔ a = b
      rw [beq_iff_eq]
      exact eq_comm
    rw [e]
theorem flat_str (bs : List Str) : (bs.map V.str).all flatV = true := by
  rw [List.all_map, List.all_eq_true]
  intro x _
  rfl
theorem sub_len {α : Type} [DecidableEq α] : ∀ {l m : List α}, l.Nodup → (∀ x ∈ l, x ∈ m) → l.length ≤ m.length
  | [], m, _, _ => Nat.zero_le _
  | a :: l, m, nd, h => by
    have nd' := List.nodup_cons.mp nd
    have hm := h a List.mem_cons_self
    have ih := sub_len (l := l) (m := m.erase a) nd'.2 fun x hx => by
      have ne : x ≠ a := fun e => nd'.1 (e ▸ hx)
      exact (List.mem_erase_of_ne ne).mpr (h x (List.mem_cons_of_mem _ hx))
    rw [List.length_erase_of_mem hm] at ih
    have : 0 < m.length := List.length_pos_of_mem hm
    rw [List.length_cons]
    omega
theorem nodup_map {α β : Type} {f : α → β} : ∀ {l : List α}, l.Nodup → (∀ a ∈ l, ∀ b ∈ l, f a = f b → a = b) → (l.map f).Nodup
  | [], _, _ => List.nodup_nil
  | a :: l, nd, h => by
    have nd' := List.nodup_cons.mp nd
    rw [List.map_cons]
    refine List.nodup_cons.mpr ⟨fun hm => ?_, nodup_map nd'.2 fun x hx y hy => h x (List.mem_cons_of_mem _ hx) y (List.mem_cons_of_mem _ hy)⟩
    obtain ⟨b, hb, e⟩ := List.mem_map.mp hm
    have := h b (List.mem_cons_of_mem _ hb) a List.mem_cons_self e
    exact nd'.1 (this ▸ hb)
/-- a text and one of the twenty-six signs behind it -/
def cand (u : Str) (j : Nat) : Str := u ++ ⟨#[97 + j]⟩
theorem cand_inj {u : Str} {i j : Nat} (h : cand u i = cand u j) : i = j := by
  have e := congrArg (fun x : Str => x.cps.toList) h
  simp only [cand, cat_tl] at e
  have e2 := List.append_cancel_left e
  simp at e2
  exact e2
theorem some_free (u : Str) (bs : List Str) (h : bs.length < 26) : ∃ j, j < 26 ∧ cand u j ∉ bs := by
  by_cases q : ∃ j, j < 26 ∧ cand u j ∉ bs
  · exact q
  · have all : ∀ x ∈ (List.range 26).map (cand u), x ∈ bs := fun x hx => by
      obtain ⟨j, hj, rfl⟩ := List.mem_map.mp hx
      by_cases m : cand u j ∈ bs
      · exact m
      · exact absurd ⟨j, List.mem_range.mp hj, m⟩ q
    have nd : ((List.range 26).map (cand u)).Nodup := nodup_map List.nodup_range fun a _ b _ e => cand_inj e
    have := sub_len nd all
    rw [List.length_map, List.length_range] at this
    omega
/-! ### rules where the written part is named (within a comprehension's block) -/
theorem op_notInK {X : Cx} {K : PySem.W.Frag} (h : X.K = K) : OpR X (compareOp .NotIn) (rIn K true) := h ▸ op_notIn_seq
theorem op_inK {X : Cx} {K : PySem.W.Frag} (h : X.K = K) : OpR X (compareOp .In) (rIn K false) := h ▸ op_in_seq
theorem ix_listK {X : Cx} {K : PySem.W.Frag} (h : X.K = K) : IxR X (rIxL K) := h ▸ ix_list
/-! ### tests of which nothing is told -/
def tU (R : L2.St → Hp → Prop) : TT := fun σ H Q => R σ H ∧ Q true H ∧ Q false H
def quiet (t : TT) : L2.St → Hp → Prop := fun σ H => t σ H fun _ H1 => H1 = H
theorem pt_U {X : Cx} {e : Expr} {t : TT} (h : PT X e t) : PT X e (tU (quiet t)) := ⟨fun pins s σ H Q I q => thn (h.run pins s σ H _ I q.1) fun b s1 hb => by
  obtain ⟨H1, I1, rfl⟩ := hb
  cases b
  · exact ⟨_, I1, q.2.2⟩
  · exact ⟨_, I1, q.2.1⟩⟩
theorem pw_orU1 {X : Cx} {a : Expr} {t : TT} {pos : Pos} (h : PT X a t) : PW X (.BoolOp .Or [a] pos) (tU (quiet t)) := pw_or1 (pt_U h)
theorem pw_orU {X : Cx} {a b : Expr} {rest : List Expr} {t : TT} {R : L2.St → Hp → Prop} {pos : Pos} (ha : PT X a t) (hb : PW X (.BoolOp .Or (b :: rest) pos) (tU R)) : PW X (.BoolOp .Or (a :: b :: rest) pos) (tU fun σ H => quiet t σ H ∧ R σ H) := by
  have z := pw_or (pt_U ha) hb
  refine ⟨fun wh pins s σ H Q I q => z.run wh pins s σ H Q I ?_⟩
  obtain ⟨⟨q1, q2⟩, q3, q4⟩ := q
  exact ⟨q1, iteT q3, iteF ⟨q2, q3, q4⟩⟩
theorem un_ne {H : Hp} {a b : Addr} {o : HO} (h : upd H a o b = none) : b ≠ a := fun e => by
  rw [e, upd_same] at h
  cases h
theorem un {H : Hp} {a b : Addr} {o : HO} (h : upd H a o b = none) : H b = none := by
  exact (upd_ne (o := o) (un_ne h)).symm.trans h
theorem Tape.ne'' {H : Hp} {p a : Addr} (t : Tape H p) (h : H a = none) : a ≠ p := fun e => by
  obtain ⟨ns, q, _⟩ := t
  rw [e, q] at h
  cases h
theorem Tape.ne' {H H' : Hp} {p a : Addr} (_ : Tape H' p) (h : H a = none) (t : Tape H p) : a ≠ p := t.ne'' h
/-- a drawn name -/
structure Nm (x : Str) : Prop where
  one : 1 ≤ x.length
  eight : x.length ≤ 8
  az : Az x
def spWords : Sp := fun vs H Q _ => ∃ (p tk : Addr) (m : Int) (ts : List Str), vs = [.ref p, .int m, .ref tk] ∧ Tape H p ∧ H tk = some (.lst (ts.map V.str)) ∧ tk ≠ p ∧ 0 ≤ m ∧ m + ts.length ≤ 20 ∧
  ∀ (W : Addr) (ws : List Str) H', H W = none → H' W = some (.lst (ws.map V.str)) → (ws.length : Int) = m → (∀ x ∈ ws, Nm x) → Fx p H H' → Tape H' p → Q (.ref W) H'
section
variable {P : Program} {w : World} {K : PySem.W.Frag} {mg : Str → Option Value} {base : Heap}
theorem scWords : FnScope ["tape", "many", "taken", "reserved", "words", "k", "word", "barred", "ends", "letter"] ["tape", "many", "taken"] (defScope sWords) := ⟨rfl, rfl, rfl, by decide +kernel, rfl, by decide +kernel, by decide +kernel⟩
theorem q_one : (Str.ofString "q").cps.toList = [113] := by decide +kernel
theorem q_len : (Str.ofString "q").length = 1 := by decide +kernel
theorem q_az : Az (Str.ofString "q") := fun c hc => by
  rw [q_one] at hc
  have e : c = 113 := by simpa using hc
  rw [e]
  exact ⟨by decide, by decide⟩
theorem words_cut {σ : L2.St} {i : Nat} : True := trivial
theorem c_words (T : Bt mg) (D : Dfn K mg "_law_words" sWords ["tape", "many", "taken"]) (c_law_word : Cal P w K mg base 2 "_law_word" spWord) : Cal P w K mg base 3 "_law_words" spWords := by
  refine D.cal scWords (fun vs H Q E h => ?_) (fun f cdv A outer s H vs Q E hr h => ?_)
  · obtain ⟨p, tk, m, ts, rfl, _⟩ := h
    rfl
  · obtain ⟨p, tk, m, ts, rfl, tp, htk, tkp, m0, m1, q⟩ := h
    refine ⟨_, (pss_cons (ps_set (i := 3) scWords.nd rfl (Or.inl rfl) (pe_lst (pa_cons pe_str (pa_cons pe_str (pa_cons pe_str (pa_cons pe_str (pa_cons pe_str (pa_cons pe_str (pa_cons pe_str (pa_cons pe_str (pa_cons pe_str (pa_cons pe_str (pa_cons pe_str (pa_cons pe_str (pa_cons pe_str (pa_cons pe_str pa_nil))))))))))))))))
      (pss_cons (ps_set (i := 3) scWords.nd rfl (Or.inl rfl) (pe_op op_cat (pv 3) (pe_lst (pa_cons pe_str (pa_cons pe_str (pa_cons pe_str (pa_cons pe_str pa_nil)))))))
      (pss_cons (ps_set (i := 4) scWords.nd rfl (Or.inl rfl) (pe_lst pa_nil))
      (pss_cons (ps_for PassesOwn.never rfl (pi_range1 (by rfl) T.b_range (pa_cons (pv 1) pa_nil)) (pg_name (i := 5) scWords.nd rfl (Or.inl rfl))
      (pss_cons (ps_set (i := 6) scWords.nd rfl (Or.inr rfl) (pe_c c_law_word hr (by decide) rfl (pa_cons (pv 0) (pa_cons pe_int pa_nil))))
      (C8.pss_cut (ps_if (PW.pt (pw_orU (pt_cmpR op_in_seq (pv 6) (pv 3) (by rfl)) (pw_orU (pt_cmpR op_in_seq (pv 6) (pv 4) (by rfl)) (pw_orU1 (pt_cmpR op_in_seq (pv 6) (pv 2) (by rfl))))))
      (pss_cons (ps_set (i := 7) scWords.nd rfl (Or.inr rfl) (pe_op op_cat (pv 4) (pv 2)))
      (pss_cons (ps_setLc (i := 8) (own := [("letter", 9)]) (g := gName 9) rfl scWords.nd rfl rfl (sw_true rfl rfl rfl (by decide +kernel)) (pi_str pe_str) (blkOk_by (own := [("letter", 9)]) (N := ["tape", "many", "taken", "reserved", "words", "k", "word", "barred", "ends", "letter"]) (sc := defScope sWords) (by decide +kernel)) (fun _ _ _ _ _ => pg_name (i := 9) scWords.nd rfl (Or.inl rfl)) (fun _ _ _ _ _ => (by exact (pts_one (pt_cmpR (op_notInK (K := K) rfl) (pe_op op_add_str (pe_op op_add_str (pe_slice C8.sl_txt (pv 6) po_none (po_some pe_int)) pe_str) (pv 9)) (pv 7) (by rfl))))) (fun _ _ _ _ _ => (pv 9)))
      (pss_one (ps_set (i := 6) scWords.nd rfl (Or.inr rfl) (pe_op op_add_str (pe_op op_add_str (pe_slice C8.sl_txt (pv 6) po_none (po_some pe_int)) pe_str) (pe_ix ix_list (pv 8) pe_int (fun _ _ => rfl)))))))
      pss_nil)
      (pss_one (ps_expr (pe_bm PySem.F.plainAttrs_list PySem.F.slot_list_append PySem.F.type_list_append mt_append (pv 4) (pa_cons (pv 6) pa_nil)))))))
      (pss_one (ps_ret (pv 4))))))), ?_⟩
    refine ⟨by rw [sizeLine_eq]; decide, fun r1 hr1 => ?_⟩
    refine ⟨_, rfl, by rw [sizeLine_eq]; decide, fun r2 hr2 => ?_⟩
    have r12 : r1 ≠ r2 := ne_of_none upd_same hr2
    refine ⟨r1, r2, _, _, rfl, rfl, by rw [upd_ne r12]; exact upd_same, upd_same, by rw [sizeLine_eq]; decide, fun R hR => ?_⟩
    refine ⟨Nat.zero_le _, fun W hW => ?_⟩
    have hR0 := un (un hR)
    have hW0 := un (un (un hW))
    have eR : (upd (upd (upd (upd H r1 (.lst [V.str "add", V.str "and", V.str "cut", V.str "def", V.str "drop", V.str "else", V.str "has", V.str "if", V.str "in", V.str "is", V.str "let", V.str "not", V.str "only", V.str "put"])) r2 (.lst [V.str "record", V.str "rename", V.str "then", V.str "to"])) R
      (.lst ([V.str "add", V.str "and", V.str "cut", V.str "def", V.str "drop", V.str "else", V.str "has", V.str "if", V.str "in", V.str "is", V.str "let", V.str "not", V.str "only", V.str "put"] ++ [V.str "record", V.str "rename", V.str "then", V.str "to"]))) W (.lst [])) R = some (.lst ([V.str "add", V.str "and", V.str "cut", V.str "def", V.str "drop", V.str "else", V.str "has", V.str "if", V.str "in", V.str "is", V.str "let", V.str "not", V.str "only", V.str "put"] ++ [V.str "record", V.str "rename", V.str "then", V.str "to"])) := by
      rw [upd_ne (un_ne hW).symm]
      exact upd_same
    generalize hrs : ([V.str "add", V.str "and", V.str "cut", V.str "def", V.str "drop", V.str "else", V.str "has", V.str "if", V.str "in", V.str "is", V.str "let", V.str "not", V.str "only", V.str "put"] ++ [V.str "record", V.str "rename", V.str "then", V.str "to"] : List V) = rs at eR hR hW ⊢
    have hfl : rs.all flatV = true := by
      rw [← hrs]
      rfl
    have x0 := (((((Fx.refl (T := p) (H := H)).new (o := .lst [V.str "add", V.str "and", V.str "cut", V.str "def", V.str "drop", V.str "else", V.str "has", V.str "if", V.str "in", V.str "is", V.str "let", V.str "not", V.str "only", V.str "put"]) hr1).new (o := .lst [V.str "record", V.str "rename", V.str "then", V.str "to"]) hr2).new (o := .lst rs) hR).new (o := .lst []) hW)
    have t0 := ((((tp.new (o := .lst [V.str "add", V.str "and", V.str "cut", V.str "def", V.str "drop", V.str "else", V.str "has", V.str "if", V.str "in", V.str "is", V.str "let", V.str "not", V.str "only", V.str "put"]) hr1).new (o := .lst [V.str "record", V.str "rename", V.str "then", V.str "to"]) hr2).new (o := .lst rs) hR).new (o := .lst []) hW)
    generalize hH0 : upd (upd (upd (upd H r1 (.lst [V.str "add", V.str "and", V.str "cut", V.str "def", V.str "drop", V.str "else", V.str "has", V.str "if", V.str "in", V.str "is", V.str "let", V.str "not", V.str "only", V.str "put"])) r2 (.lst [V.str "record", V.str "rename", V.str "then", V.str "to"])) R (.lst rs)) W (.lst []) = H0 at eR x0 t0 ⊢
    have eW : H0 W = some (.lst []) := by
      rw [← hH0]
      exact upd_same
    have RW : R ≠ W := (un_ne hW).symm
    have Rp : R ≠ p := t0.ne' hR0 tp
    have Wp : W ≠ p := t0.ne' hW0 tp
    have kW : tk ≠ W := ne_of_none htk hW0
    refine ⟨_, rfl, m, rfl, by omega, by omega, for_range (lo := 0) (n := m.toNat) (fun i σ H' => ∃ (kv wv bv ev lv : Option V) (ws : List Str), σ = [some (.ref p), some (.int m), some (.ref tk), some (.ref R), some (.ref W), kv, wv, bv, ev, lv] ∧
      H' R = some (.lst rs) ∧ H' W = some (.lst (ws.map V.str)) ∧ H' tk = some (.lst (ts.map V.str)) ∧ ws.length = i ∧ (∀ x ∈ ws, Nm x) ∧ Fx p H H' ∧ Tape H' p)
      ⟨none, none, none, none, none, [], rfl, eR, eW, x0 _ _ tkp htk, rfl, (fun x hx => by cases hx), x0, t0⟩ ?_ ?_⟩
    · rintro i σ H' hi ⟨kv, wv, bv, ev, lv, ws, rfl, aR, aW, ak, wl, wn, x1, t1⟩
      refine ⟨_, rfl, p, 8, rfl, t1, by decide, by decide, fun x H3 xl1 xl8 xa y3 t3 => ?_⟩
      have bR := y3 _ _ Rp aR
      have bW := y3 _ _ Wp aW
      have bk := y3 _ _ tkp ak
      refine ⟨fun σ' H2 => ∃ (kv bv ev lv : Option V) (y : Str), σ' = [some (.ref p), some (.int m), some (.ref tk), some (.ref R), some (.ref W), kv, some (.str y), bv, ev, lv] ∧ Nm y ∧
        H2 R = some (.lst rs) ∧ H2 W = some (.lst (ws.map V.str)) ∧ H2 tk = some (.lst (ts.map V.str)) ∧ Fx p H H2 ∧ Tape H2 p, ⟨⟨⟨_, rfl, _, rfl, R, rs, rfl, .inl (SqL.of bR), rfl, hfl, _, rfl, rfl⟩, ⟨_, rfl, _, rfl, W, _, rfl, .inl (SqL.of bW), rfl, flat_str _, _, rfl, rfl⟩, ⟨_, rfl, _, rfl, tk, _, rfl, .inl (SqL.of bk), rfl, flat_str _, _, rfl, rfl⟩⟩, iteT ?_, iteF ?_⟩, ?_⟩
      · -- a name that is taken: another end
        refine ⟨_, rfl, _, rfl, W, tk, _, _, rfl, rfl, bW, bk, line_big (by rw [List.length_map, List.length_map]; omega), fun B hB => ?_⟩
        have Bp : B ≠ p := t3.ne'' hB
        have x3 : Fx p H (upd H3 B (.lst (ws.map V.str ++ ts.map V.str))) := (x1.trans y3).new hB
        have t4 : Tape (upd H3 B (.lst (ws.map V.str ++ ts.map V.str))) p := t3.new hB
        have eB : ws.map V.str ++ ts.map V.str = (ws ++ ts).map V.str := by rw [List.map_append]
        rw [eB] at x3 t4 ⊢
        have cR : upd H3 B (.lst ((ws ++ ts).map V.str)) R = some (.lst rs) := by rw [upd_ne (ne_of_none bR hB)]; exact bR
        have cW : upd H3 B (.lst ((ws ++ ts).map V.str)) W = some (.lst (ws.map V.str)) := by rw [upd_ne (ne_of_none bW hB)]; exact bW
        have ck : upd H3 B (.lst ((ws ++ ts).map V.str)) tk = some (.lst (ts.map V.str)) := by rw [upd_ne (ne_of_none bk hB)]; exact bk
        generalize hH4 : upd H3 B (.lst ((ws ++ ts).map V.str)) = H4 at x3 t4 cR cW ck ⊢
        have cB : H4 B = some (.lst ((ws ++ ts).map V.str)) := by
          rw [← hH4]
          exact upd_same
        -- the signs that give a free name
        have ul : (Txt.slice x none (some 6) ++ Str.ofString "q").length ≤ 7 := by
          rw [cat_len, cut_len x (by decide), q_len]
          omega
        have ua : Az (Txt.slice x none (some 6) ++ Str.ofString "q") := (xa.cut (by decide)).cat q_az
        obtain ⟨j0, hj0, free⟩ := some_free (Txt.slice x none (some 6) ++ Str.ofString "q") (ws ++ ts) (by rw [List.length_append]; omega)
        refine ⟨_, rfl, fun Z hZ => lc_it walk_str (fun i H5 => ∃ es : List Nat, H5 Z = some (.lst (es.map fun c => V.str ⟨#[c]⟩)) ∧ es.length ≤ i ∧ (∀ c ∈ es, letter c) ∧ (j0 < i → es ≠ []) ∧ (∀ b o, b ≠ Z → H4 b = some o → H5 b = some o))
          ⟨[], upd_same, Nat.le_refl _, (fun c hc => by cases hc), (fun h => absurd h (Nat.not_lt_zero _)), fun b o hb e => by rw [upd_ne hb]; exact e⟩ (fun _ _ _ _ => True.intro) ?_ ?_⟩
        · rintro i5 y5 H5 H6 hi5 ⟨es, e1, e2, e3, e4, e5⟩ ⟨rfl, c, hc, rfl⟩
          have cc : c = 97 + i5 := by
            have h26 : i5 < 26 := by
              have := (Array.getElem?_eq_some_iff.mp hc).1
              have q := abc_len
              unfold Str.length at q
              omega
            have z := abc_at i5 h26
            rw [Array.getElem?_toList, hc] at z
            exact Option.some.inj z
          subst cc
          have h26 : i5 < 26 := by
            have := (Array.getElem?_eq_some_iff.mp hc).1
            have q := abc_len
            unfold Str.length at q
            omega
          have BZ : B ≠ Z := ne_of_none cB hZ
          refine ⟨rfl, _, rfl, _, rfl, x, rfl, line_big (by omega), _, _, rfl, rfl, line_big (by rw [cut_len x (by decide), q_len]; omega), _, rfl, _, _, rfl, rfl, line_big (by rw [one_len]; omega), _, rfl, B, _, rfl, .inl (SqL.of (e5 _ _ BZ cB)), rfl, flat_str _, _, rfl, ?_⟩
          refine ite2 (fun _ => ?_) (fun hno => ?_)
          · refine ⟨_, rfl, _, e1, line_big (by rw [List.length_map]; omega), es ++ [97 + i5], by rw [upd_same, List.map_append]; rfl, by rw [List.length_append]; simpa using e2, fun c h => ?_, fun _ h => ?_, fun b o nb e => by rw [upd_ne nb]; exact e5 b o nb e⟩
            · rcases List.mem_append.mp h with h | h
              · exact e3 c h
              · rw [List.mem_singleton.mp h]
                exact ⟨by omega, by omega⟩
            · simp at h
          · refine ⟨es, e1, by omega, e3, fun h => ?_, e5⟩
            by_cases hj : j0 < i5
            · exact e4 hj
            · have ej : j0 = i5 := by omega
              refine absurd ?_ hno
              show (!inV (V.str (cand (Txt.slice x none (some 6) ++ Str.ofString "q") i5)) ((ws ++ ts).map V.str)) = true
              rw [← ej, Bool.not_eq_true', ← Bool.not_eq_true]
              exact fun z => free (inV_str.mp z)
        · rintro H5 ⟨es, e1, e2, e3, e4, e5⟩
          have ne : es ≠ [] := e4 (by
            have q := abc_len
            unfold Str.length at q
            omega)
          obtain ⟨c, es, rfl⟩ : ∃ c es', es = c :: es' := by
            cases es with
            | nil => exact absurd rfl ne
            | cons c es => exact ⟨c, es, rfl⟩
          have hc := e3 c List.mem_cons_self
          refine ⟨_, rfl, _, rfl, x, rfl, line_big (by omega), _, _, rfl, rfl, line_big (by rw [cut_len x (by decide), q_len]; omega), _, rfl, Z, _, _, _, rfl, rfl, SqL.of e1, atI_nat (j := 0) rfl, _, _, rfl, rfl, line_big (by rw [one_len]; omega), ?_⟩
          have BZ : B ≠ Z := ne_of_none cB hZ
          refine ⟨_, _, _, _, (Txt.slice x none (some 6) ++ Str.ofString "q") ++ ⟨#[c]⟩, rfl, ⟨?_, ?_, ua.cat (Az.one hc)⟩, e5 _ _ (ne_of_none cR hZ) cR, e5 _ _ (ne_of_none cW hZ) cW, e5 _ _ (ne_of_none ck hZ) ck, ?_, ?_⟩
          · rw [cat_len, one_len]
            omega
          · rw [cat_len, one_len]
            omega
          · exact fun b o nb e => e5 b o (ne_of_none (x3 b o nb e) hZ) (x3 b o nb e)
          · obtain ⟨ns, tl, tz⟩ := t4
            exact ⟨ns, e5 p _ (ne_of_none tl hZ) tl, tz⟩
      · exact ⟨_, _, _, _, x, rfl, ⟨xl1, by omega, xa⟩, bR, bW, bk, x1.trans y3, t3⟩
      · rintro σ' H2 ⟨kv, bv, ev, lv, y, rfl, yn, cR, cW, ck, x4, t4⟩
        refine ⟨_, rfl, .inl ⟨rfl, _, .inl (.inl cW)⟩, _, rfl, W, _, _, rfl, rfl, cW, small1000 (by rw [List.length_map]; omega), ?_⟩
        refine ⟨_, _, _, _, _, ws ++ [y], rfl, ?_, ?_, ?_, by rw [List.length_append, wl]; rfl, fun z hz => ?_, fun b o nb e => ?_, t4.put Wp⟩
        · rw [upd_ne RW]
          exact cR
        · rw [upd_same, List.map_append]
          rfl
        · rw [upd_ne kW]
          exact ck
        · rcases List.mem_append.mp hz with h | h
          · exact wn z h
          · rw [List.mem_singleton.mp h]
            exact yn
        · rw [upd_ne (ne_of_none e hW0)]
          exact x4 b o nb e
    · rintro σ H' ⟨kv, wv, bv, ev, lv, ws, rfl, aR, aW, ak, wl, wn, x1, t1⟩
      exact ⟨_, rfl, q W ws H' hW0 aW (by omega) wn x1 t1⟩
end
end Lw
namespace Lw
open PySem PySem.Spec PyProof.Rows L2 GrT
abbrev sLong : Stmt := top 20
abbrev sPool : Stmt := top 21
abbrev sFields : Stmt := top 22
abbrev sCount : Stmt := top 24
abbrev sSorted : Stmt := top 25
abbrev sIsInt : Stmt := top 26
abbrev sTold : Stmt := top 27
abbrev sLaw : Stmt := top 34
/-! ### a text some times over -/
theorem op_mul_str {X : Cx} : OpR X (binaryOp .Mult) (fun x y H Q => ∃ i n, x = .str i ∧ y = .int n ∧ MulOk i n ∧ Q (.str (PySem.Txt.mul i n)) H) := by
  intro pins s σ H x y v u Q I rx ry h
  obtain ⟨i, n, rfl, rfl, hz, q⟩ := h
  obtain ⟨t, rfl⟩ := rx
  obtain ⟨t', rfl⟩ := ry
  exact PySem.SB.mul hz (fun t' tk => ⟨.str (PySem.Txt.mul i n), H, I.tok _, ⟨_, rfl⟩, q⟩)
theorem fold_tl (a : Array Nat) : ∀ (k : Nat) (acc : Array Nat), ((List.replicate k a).foldl (· ++ ·) acc).toList = acc.toList ++ (List.replicate k a.toList).flatten
  | 0, acc => by simp
  | k + 1, acc => by
    rw [List.replicate_succ, List.foldl_cons, fold_tl a k, List.replicate_succ, List.flatten_cons, Array.toList_append, List.append_assoc]
theorem mul_tl {x : Str} {n : Int} (h1 : 1 < n) (hx : 1 ≤ x.length) : (PySem.Txt.mul x n).cps.toList = (List.replicate n.toNat x.cps.toList).flatten := by
  unfold PySem.Txt.mul
  rw [if_neg (by omega)]
  have e : ¬ ((n == 1 || x.length == 0) = true) := by
    intro h
    rcases Bool.or_eq_true _ _ ▸ h with h | h
    · have := eq_of_beq h
      omega
    · have := eq_of_beq h
      omega
  rw [if_neg e, fold_tl]
  simp
theorem mul_len {x : Str} {n : Int} (h1 : 1 < n) (hx : 1 ≤ x.length) : (PySem.Txt.mul x n).length = n.toNat * x.length := by
  rw [len_tl, mul_tl h1 hx, List.length_flatten, List.map_replicate, List.sum_replicate_nat, len_tl x]
theorem Az.mul {x : Str} {n : Int} (a : Az x) (h1 : 1 < n) (hx : 1 ≤ x.length) : Az (PySem.Txt.mul x n) := fun c hc => by
  rw [mul_tl h1 hx] at hc
  obtain ⟨l, hl, hcl⟩ := List.mem_flatten.mp hc
  rw [List.eq_of_mem_replicate hl] at hcl
  exact a c hcl
theorem Nm.good {x : Str} (h : Nm x) : Good x := ⟨h.one, Nat.le_trans h.eight (by decide), h.az⟩
def spLong : Sp := fun vs H Q _ => ∃ (p : Addr) (x : Str), vs = [.ref p, .str x] ∧ Tape H p ∧ Nm x ∧ ∀ (y : Str) H', Good y → Fx p H H' → Tape H' p → Q (.str y) H'
def spPool : Sp := fun vs H Q _ => ∃ (p : Addr) (m : Int), vs = [.ref p, .int m] ∧ Tape H p ∧ 0 ≤ m ∧ m ≤ 20 ∧
  ∀ (W : Addr) (ws : List Str) H', H W = none → H' W = some (.lst (ws.map V.str)) → (ws.length : Int) = m → (∀ x ∈ ws, Good x) → Fx p H H' → Tape H' p → Q (.ref W) H'
section
variable {P : Program} {w : World} {K : PySem.W.Frag} {mg : Str → Option Value} {base : Heap}
theorem scLong : FnScope ["tape", "word"] ["tape", "word"] (defScope sLong) := ⟨rfl, rfl, rfl, by decide +kernel, rfl, by decide +kernel, by decide +kernel⟩
theorem mulOk30 {x : Str} (h : x.length ≤ 8) : MulOk x 30 := by
  refine ⟨by decide, fun _ _ => ?_, fun _ _ => ?_⟩
  · have : ((2 : Int) ^ 63 - 1) / 30 = 307445734561825860 := by decide
    omega
  · have e : (30 : Int).toNat = 30 := rfl
    rw [e]
    unfold Builtin.Str.tooLong
    have := line_big (n := x.length * 30) (by omega)
    exact decide_eq_false (by omega)
theorem c_long (T : Bt mg) (D : Dfn K mg "_law_long" sLong ["tape", "word"]) (c_law_take : Cal P w K mg base 1 "_law_take" spTake) : Cal P w K mg base 2 "_law_long" spLong := by
  refine D.cal scLong (fun vs H Q E h => ?_) (fun f cdv A outer s H vs Q E hr h => ?_)
  · obtain ⟨p, x, rfl, _⟩ := h
    rfl
  · obtain ⟨p, x, rfl, tp, nx, q⟩ := h
    refine ⟨_, (pss_cons (ps_if (pt_cmpR op_eq (pe_c c_law_take hr (by decide) rfl (pa_cons (pv 0) (pa_cons pe_int pa_nil))) pe_int (nomark _))
      (pss_one (ps_ret (pe_slice C8.sl_txt (pe_op op_mul_str (pv 1) pe_int) po_none (po_some (pe_op op_add pe_int (pe_c c_law_take hr (by decide) rfl (pa_cons (pv 0) (pa_cons pe_int pa_nil))))))))
      pss_nil)
      (pss_one (ps_ret (pv 1)))), ?_⟩
    refine ⟨_, rfl, p, 4, rfl, tp, by decide, fun i H1 i0 i1 x1 t1 => ⟨rfl, _, rfl, ite2 (fun _ => ?_) (fun _ => ?_)⟩⟩
    · have ml := mul_len (x := x) (n := 30) (by decide) nx.one
      have h30 : (30 : Int).toNat = 30 := rfl
      rw [h30] at ml
      have hx1 := nx.one
      have hx2 := nx.eight
      refine ⟨_, rfl, _, _, rfl, rfl, mulOk30 nx.eight, _, rfl, p, 22, rfl, t1, by decide, fun j H2 j0 j1 x2 t2 => ⟨_, _, rfl, rfl, _, rfl, _, rfl, line_big (by omega), ?_⟩⟩
      have h9 : 0 ≤ 9 + j := by omega
      refine q _ H2 ⟨?_, ?_, (nx.az.mul (by decide) nx.one).cut h9⟩ (x1.trans x2) t2
      · rw [cut_len _ h9, ml]
        omega
      · rw [cut_len _ h9, ml]
        omega
    · exact ⟨_, rfl, q _ H1 nx.good x1 t1⟩
theorem scPool : FnScope ["tape", "many", "pool", "word", "long"] ["tape", "many"] (defScope sPool) := ⟨rfl, rfl, rfl, by decide +kernel, rfl, by decide +kernel, by decide +kernel⟩
theorem c_pool (T : Bt mg) (D : Dfn K mg "_law_pool" sPool ["tape", "many"]) (c_law_words : Cal P w K mg base 3 "_law_words" spWords) (c_law_long : Cal P w K mg base 2 "_law_long" spLong) : Cal P w K mg base 4 "_law_pool" spPool := by
  refine D.cal scPool (fun vs H Q E h => ?_) (fun f cdv A outer s H vs Q E hr h => ?_)
  · obtain ⟨p, m, rfl, _⟩ := h
    rfl
  · obtain ⟨p, m, rfl, tp, m0, m1, q⟩ := h
    refine ⟨_, (pss_cons (ps_set (i := 2) scPool.nd rfl (Or.inl rfl) (pe_lst pa_nil))
      (pss_cons (ps_for PassesOwn.never rfl (pi_list (pe_c c_law_words hr (by decide) rfl (pa_cons (pv 0) (pa_cons (pv 1) (pa_cons (pe_lst pa_nil) pa_nil))))) (pg_name (i := 3) scPool.nd rfl (Or.inl rfl))
      (pss_cons (ps_set (i := 4) scPool.nd rfl (Or.inl rfl) (pe_c c_law_long hr (by decide) rfl (pa_cons (pv 0) (pa_cons (pv 3) pa_nil))))
      (C8.pss_cut (ps_if (pt_U (pt_cmpR op_in_seq (pv 4) (pv 2) (by rfl)))
      (pss_one (ps_set (i := 4) scPool.nd rfl (Or.inl rfl) (pv 3)))
      pss_nil)
      (pss_one (ps_expr (pe_bm PySem.F.plainAttrs_list PySem.F.slot_list_append PySem.F.type_list_append mt_append (pv 2) (pa_cons (pv 4) pa_nil)))))))
      (pss_one (ps_ret (pv 2))))), ?_⟩
    refine ⟨Nat.zero_le _, fun R hR => ?_⟩
    refine ⟨_, rfl, _, rfl, Nat.zero_le _, fun k hk => ?_⟩
    have hk0 := un hk
    have t0 := (tp.new (o := .lst []) hR).new (o := .lst []) hk
    have x0 := ((Fx.refl (T := p) (H := H)).new (o := .lst []) hR).new (o := .lst []) hk
    have eR : (upd (upd H R (.lst [])) k (.lst [])) R = some (.lst []) := by
      rw [upd_ne (un_ne hk).symm]
      exact upd_same
    have ek : (upd (upd H R (.lst [])) k (.lst [])) k = some (.lst (([] : List Str).map V.str)) := upd_same
    generalize upd (upd H R (.lst [])) k (.lst []) = H0 at t0 x0 eR ek ⊢
    have Rp : R ≠ p := tp.ne'' hR
    have kp : k ≠ p := tp.ne'' hk0
    refine ⟨p, k, m, [], rfl, t0, ek, kp, m0, by simpa using m1, fun W ws H1 hW eW wl wn x1 t1 => ?_⟩
    have RW : R ≠ W := ne_of_none eR hW
    have Wp : W ≠ p := t0.ne'' hW
    refine ⟨W, rfl, ⟨_, SqL.of eW⟩, for_list (xs := ws.map V.str) (fun i σ H' => ∃ (wv lv : Option V) (ps : List Str), σ = [some (.ref p), some (.int m), some (.ref R), wv, lv] ∧
      H' R = some (.lst (ps.map V.str)) ∧ H' W = some (.lst (ws.map V.str)) ∧ ps.length = i ∧ (∀ x ∈ ps, Good x) ∧ Fx p H H' ∧ Tape H' p)
      ⟨none, none, [], rfl, x1 _ _ Rp eR, eW, rfl, (fun x hx => by cases hx), x0.trans x1, t1⟩ ?_ ?_ ?_⟩
    · rintro i σ H' _ ⟨wv, lv, ps, rfl, _, aW, _⟩
      exact SqL.of aW
    · rintro i x σ H' hx ⟨wv, lv, ps, rfl, aR, aW, pl, pn, x2, t2⟩
      have hi : i < ws.length := by
        have := (List.getElem?_eq_some_iff.mp hx).1
        rwa [List.length_map] at this
      obtain ⟨z, hz, rfl⟩ : ∃ z, z ∈ ws ∧ x = V.str z := by
        obtain ⟨z, hz, e⟩ := List.mem_map.mp (List.mem_of_getElem? hx)
        exact ⟨z, hz, e.symm⟩
      have nz := wn z hz
      refine ⟨_, rfl, _, rfl, p, z, rfl, t2, nz, fun y H2 gy x3 t3 => ?_⟩
      have bR := x3 _ _ Rp aR
      have bW := x3 _ _ Wp aW
      refine ⟨fun σ' H3 => ∃ (y : Str), σ' = [some (.ref p), some (.int m), some (.ref R), some (.str z), some (.str y)] ∧ H3 = H2 ∧ Good y, ⟨⟨_, rfl, _, rfl, R, _, rfl, .inl (SqL.of bR), rfl, flat_str _, _, rfl, rfl⟩, iteT ?_, iteF ?_⟩, ?_⟩
      · exact ⟨_, rfl, z, rfl, rfl, nz.good⟩
      · exact ⟨y, rfl, rfl, gy⟩
      · rintro σ' H3 ⟨y, rfl, rfl, gy⟩
        refine ⟨_, rfl, .inl ⟨rfl, _, .inl (.inl bR)⟩, _, rfl, R, _, _, rfl, rfl, bR, small1000 (by rw [List.length_map]; omega), ?_⟩
        refine ⟨_, _, ps ++ [y], rfl, by rw [upd_same, List.map_append]; rfl, by rw [upd_ne RW.symm]; exact bW, by rw [List.length_append, pl]; rfl, fun v hv => ?_, ?_, t3.put Rp⟩
        · rcases List.mem_append.mp hv with h | h
          · exact pn v h
          · rw [List.mem_singleton.mp h]
            exact gy
        · intro b o nb e
          rw [upd_ne (ne_of_none e hR)]
          exact (x2.trans x3) b o nb e
    · rintro σ H' ⟨wv, lv, ps, rfl, aR, aW, pl, pn, x2, t2⟩
      rw [List.length_map] at pl
      exact ⟨_, rfl, q R ps H' hR aR (by omega) pn x2 t2⟩
end
end Lw
namespace Lw
open PySem PySem.Spec PyProof.Rows L2 GrT
/-- a promise that nobody asks -/
def spNo : Sp := fun _ _ _ _ => False
theorem Fx.back {p b : Addr} {H H' : Hp} (x : Fx p H H') (t : Tape H' p) (h : H' b = none) : H b = none := by
  cases e : H b with
  | none => rfl
  | some o =>
    by_cases q : b = p
    · obtain ⟨ns, tl, _⟩ := t
      rw [q, tl] at h
      cases h
    · rw [x b o q e] at h
      cases h
/-- the tree stands while nothing but the tape and what is new changes -/
theorem Tr.fx {S : Addr → Prop} {H H' : Hp} {L n : Nat} {v : V} {t : T} {p : Addr} (h : Tr S H L n v t) (tp : Tape H p) (x : Fx p H H') : Tr S H' L n v t :=
  h.keep fun b kvs _ e => x b _ (fun q => by
    obtain ⟨ns, tl, _⟩ := tp
    rw [q, tl] at e
    cases e) e
/-- a test, cut off from what follows: only the outcomes in φ go on -/
def tCut (t : TT) : TT := fun σ H Q => ∃ φ : Bool → Prop, (t σ H fun b H1 => H1 = H ∧ φ b) ∧ ∀ b, φ b → Q b H
theorem pt_cut {X : Cx} {e : Expr} {t : TT} (h : PT X e t) : PT X e (tCut t) := ⟨fun pins s σ H Q I ⟨φ, q, r⟩ => thn (h.run pins s σ H _ I q) fun b s1 ⟨H1, I1, e, hb⟩ => ⟨H1, I1, by
  subst e
  exact r b hb⟩⟩
/-- its ints are small, its records narrow, its names good -/
def Bd : Nat → T → Prop
  | 0, t => ∃ i, t = .int i ∧ i.natAbs < 2 ^ 100
  | n + 1, t => (∃ i, t = .int i ∧ i.natAbs < 2 ^ 100) ∨ ∃ fs, t = .fds fs ∧ fs.length ≤ 7 ∧ (∀ p ∈ fs, Good p.1) ∧ ∀ p ∈ fs, Bd n p.2
theorem Bd.int {n : Nat} {i : Int} (h : i.natAbs < 2 ^ 100) : Bd n (.int i) := by
  cases n with
  | zero => exact ⟨i, rfl, h⟩
  | succ n => exact .inl ⟨i, rfl, h⟩
theorem Bd.mono : ∀ {n m : Nat} {t : T}, Bd n t → n ≤ m → Bd m t
  | 0, m, t, ⟨i, e, h⟩, _ => by
    rw [e]
    exact Bd.int h
  | n + 1, 0, t, _, h => absurd h (Nat.not_succ_le_zero _)
  | n + 1, m + 1, t, h, hm => by
    rcases h with h | ⟨fs, e, l, g, h⟩
    · exact .inl h
    · exact .inr ⟨fs, e, l, g, fun p hp => Bd.mono (h p hp) (Nat.le_of_succ_le_succ hm)⟩
theorem Bd.put {n : Nat} {x : Str} {t : T} {fs : List (Str × T)} (h : ∀ p ∈ fs, Bd n p.2) (ht : Bd n t) : ∀ p ∈ GrT.put x t fs, Bd n p.2 := fun p hp => by
  rcases mem_put hp with e | e
  · rw [e]
    exact ht
  · exact h p e
theorem Bd.at {n : Nat} {fs : List (Str × T)} (h : Bd (n + 1) (.fds fs)) : fs.length ≤ 7 ∧ (∀ p ∈ fs, Good p.1) ∧ ∀ p ∈ fs, Bd n p.2 := by
  rcases h with ⟨i, e, _⟩ | ⟨gs, e, h⟩
  · cases e
  · cases e
    exact h
def spFields (n : Nat) : Sp := fun vs H Q _ => ∃ (p P : Addr) (ps : List Str), vs = [.ref p, .ref P, .int (n : Int)] ∧ Tape H p ∧ H P = some (.lst (ps.map V.str)) ∧ P ≠ p ∧ 1 ≤ ps.length ∧ ps.length ≤ 6 ∧ (∀ x ∈ ps, Good x) ∧
  ∀ (D : Addr) (fs : List (Str × GrT.T)) H', Tr (fun b => H b = none) H' 6 (n + 1) (.ref D) (.fds fs) → Bd (n + 1) (.fds fs) → Fx p H H' → Tape H' p → Q (.ref D) H'
def spFieldsR : Nat → Sp
  | 0 => spNo
  | n + 1 => spFields n
theorem pick_ix {ps : List Str} {z : Int} (h : 1 ≤ ps.length) : ∃ x ∈ ps, atI (ps.map V.str) (z % (ps.length : Int)) = some (V.str x) := by
  have h0 : (0 : Int) < ps.length := by omega
  have h1 := Int.emod_nonneg z (by omega : (ps.length : Int) ≠ 0)
  have h2 := Int.emod_lt_of_pos z h0
  obtain ⟨j, hj⟩ : ∃ j : Nat, z % (ps.length : Int) = (j : Int) := ⟨(z % (ps.length : Int)).toNat, by omega⟩
  have hl : j < ps.length := by omega
  refine ⟨ps[j], List.getElem_mem hl, ?_⟩
  rw [hj]
  refine atI_nat ?_
  rw [List.getElem?_map, List.getElem?_eq_getElem hl]
  rfl
section
variable {P : Program} {w : World} {K : PySem.W.Frag} {mg : Str → Option Value} {base : Heap}
theorem c_no {k : Nat} {x : Str} {st : Stmt} {N ps : List Str} (D : Dfn K mg x st ps) (S : FnScope N ps (defScope st)) : Cal P w K mg base (k + 1) x spNo :=
  D.cal S (fun _ _ _ _ h => h.elim) (fun _ _ _ _ _ _ _ _ _ _ h => h.elim)
theorem scFields : FnScope ["tape", "names", "depth", "fields", "first", "turn", "k", "name", "choice"] ["tape", "names", "depth"] (defScope sFields) := ⟨rfl, rfl, rfl, by decide +kernel, rfl, by decide +kernel, by decide +kernel⟩
theorem c_fields_step (T : Bt mg) (D : Dfn K mg "_law_fields" sFields ["tape", "names", "depth"]) (c_law_take : Cal P w K mg base 1 "_law_take" spTake) (c_law_number : Cal P w K mg base 2 "_law_number" spNumber)
    (n : Nat) (c_law_fields : Cal P w K mg base (n + 3) "_law_fields" (spFieldsR n)) : Cal P w K mg base (n + 4) "_law_fields" (spFields n) := by
  refine D.cal scFields (fun vs H Q E h => ?_) (fun f cdv A outer s H vs Q E hr h => ?_)
  · obtain ⟨p, P, ps, rfl, _⟩ := h
    rfl
  · obtain ⟨p, P, ps, rfl, tp, eP, Pp, l1, l2, gp, q⟩ := h
    have hu1 : (A.deeper (envOfC "_law_fields" (defScope sFields) s.heap.objs.size f cdv)).units + 1 < cLine := by
      have := hr.units
      omega
    refine ⟨_, (pss_cons (ps_set (i := 3) scFields.nd rfl (Or.inl rfl) pe_dnewK)
      (pss_cons (ps_set (i := 4) scFields.nd rfl (Or.inl rfl) (pe_c c_law_take hr (by omega) rfl (pa_cons (pv 0) (pa_cons pe_int pa_nil))))
      (pss_cons (ps_set (i := 5) scFields.nd rfl (Or.inl rfl) (pe_c c_law_take hr (by omega) rfl (pa_cons (pv 0) (pa_cons pe_int pa_nil))))
      (pss_cons (ps_for PassesOwn.never rfl (pi_range1 (by rfl) T.b_range (pa_cons (pe_callB call_len_seq (by rfl) T.b_len PySem.boot_len (pa_cons (pv 1) pa_nil)) pa_nil)) (pg_name (i := 6) scFields.nd rfl (Or.inl rfl))
      (pss_cons (ps_set (i := 7) scFields.nd rfl (Or.inl rfl) (pe_ix ix_list (pv 1) (pe_op op_mod (pe_op op_add (pv 4) (pe_op op_mul (pe_op op_sub pe_int (pe_op op_mul pe_int (pv 5))) (pv 6))) (pe_callB call_len_seq (by rfl) T.b_len PySem.boot_len (pa_cons (pv 1) pa_nil))) (fun _ _ => rfl)))
      (pss_cons (ps_set (i := 8) scFields.nd rfl (Or.inl rfl) (pe_c c_law_take hr (by omega) rfl (pa_cons (pv 0) (pa_cons pe_int pa_nil))))
      (pss_one (ps_if (pt_cut (PW.pt (pw_or (pt_cmpR op_eq (pv 8) pe_int (nomark _)) (pw_or1 (PW.pt (pw_and (pt_cmpR op_eq (pv 8) pe_int (nomark _)) (pw_and1 (pt_cmpR op_le (pv 2) pe_int (nomark _)))))))))
      (pss_one (ps_dput hu1 (pv 3) (pv 7) (pe_op op_mul (pe_c c_law_number hr (by omega) rfl (pa_cons (pv 0) pa_nil)) (pe_op op_sub pe_int (pe_op op_mul pe_int (pe_c c_law_take hr (by omega) rfl (pa_cons (pv 0) (pa_cons pe_int pa_nil)))))) rfl))
      (pss_one (ps_if (pt_cmpR op_eq (pv 8) pe_int (nomark _))
      (pss_one (ps_dput hu1 (pv 3) (pv 7) (pe_c c_law_fields hr (by omega) rfl (pa_cons (pv 0) (pa_cons (pv 1) (pa_cons (pe_op op_sub (pv 2) pe_int) pa_nil)))) rfl))
      pss_nil)))))))
      (pss_one (ps_ret (pv 3))))))), ?_⟩
    refine fun D hD => ?_
    have Dp : D ≠ p := tp.ne'' hD
    have t0 := tp.new (o := .dK []) hD
    have x0 := (Fx.refl (T := p) (H := H)).new (o := .dK []) hD
    have eD : (upd H D (.dK [])) D = some (.dK (dk [])) := upd_same
    have eP0 := x0 _ _ Pp eP
    generalize upd H D (.dK []) = H0 at t0 x0 eD eP0 ⊢
    refine ⟨_, rfl, p, 720720, rfl, t0, p72, fun i1 H1 _ _ x1 t1 => ?_⟩
    refine ⟨_, rfl, p, 2, rfl, t1, by decide, fun i2 H2 i20 i21 x2 t2 => ?_⟩
    have eP2 := (x1.trans x2) _ _ Pp eP0
    have eD2 := (x1.trans x2) _ _ Dp eD
    refine ⟨_, rfl, P, _, rfl, .inl (SqL.of eP2), ps.length, by rw [List.length_map], by omega, by omega, ?_⟩
    have x02 := (x0.trans x1).trans x2
    refine for_range (lo := 0) (n := ps.length) (fun i σ H' => ∃ (kv nv cv : Option V) (l : List (Str × V)) (fs : List (Str × GrT.T)), σ = [some (.ref p), some (.ref P), some (.int n), some (.ref D), some (.int i1), some (.int i2), kv, nv, cv] ∧
      H' D = some (.dK (dk l)) ∧ H' P = some (.lst (ps.map V.str)) ∧ Wf i fs ∧ (∀ p ∈ fs, Bd n p.2) ∧ Al (Tr (fun b => H b = none ∧ b ≠ D) H' 6 n) l fs ∧ Fx p H H' ∧ Tape H' p)
      ⟨none, none, none, [], [], rfl, eD2, eP2, Wf.nil, (fun _ h => by cases h), .nil, x02, t2⟩ ?_ ?_
    · rintro i σ H' hi ⟨kv, nv, cv, l, fs, rfl, aD, aP, wf, bd, al, x3, t3⟩
      have PD : P ≠ D := fun e => by
        rw [e, aD] at aP
        cases aP
      obtain ⟨x, hx, hat⟩ := pick_ix (ps := ps) (z := i1 + (1 - 2 * i2) * (0 + (i : Int))) l1
      have gx := gp x hx
      refine ⟨_, rfl, _, rfl, _, rfl, _, _, rfl, rfl, .inl ⟨by decide, by decide⟩, _, _, rfl, rfl, _, rfl, _, _, rfl, rfl, .inl ⟨by omega, by omega⟩, _, _, rfl, rfl, _, rfl, P, _, rfl, .inl (SqL.of aP), _, _, rfl, rfl, by rw [List.length_map]; omega, P, _, _, _, rfl, rfl, SqL.of aP, by rw [List.length_map]; exact hat, ?_⟩
      refine ⟨_, rfl, p, 4, rfl, t3, by decide, fun c H4 c0 c1 x4 t4 => ?_⟩
      have bD := x4 _ _ Dp aD
      have bP := x4 _ _ Pp aP
      have al4 : Al (Tr (fun b => H b = none ∧ b ≠ D) H4 6 n) l fs := al.imp fun _ _ _ z => Tr.fx z t3 x4
      have hsz : (dk l).length < sizeLine := by
        have := wf.ln
        rw [dk_len, al.len]
        exact Nat.lt_of_lt_of_le (by omega : fs.length < 100) (line_big (by decide))
      have ndl : (names l).Nodup := by
        rw [al.names]
        exact wf.nd
      have fin : ∀ (v : V) (t : GrT.T) (H5 : Hp), Bd n t → H5 D = some (.dK (dk l)) → H5 P = some (.lst (ps.map V.str)) → Al (Tr (fun b => H b = none ∧ b ≠ D) H5 6 n) l fs → Tr (fun b => H b = none ∧ b ≠ D) H5 6 n v t → Fx p H H5 → Tape H5 p →
          ∃ H6, DPut H5 D (.str x) v H6 ∧ H6 D = some (.dK (dk (put x v l))) ∧ H6 P = some (.lst (ps.map V.str)) ∧ Wf (i + 1) (put x t fs) ∧ (∀ p ∈ put x t fs, Bd n p.2) ∧ Al (Tr (fun b => H b = none ∧ b ≠ D) H6 6 n) (put x v l) (put x t fs) ∧ Fx p H H6 ∧ Tape H6 p := by
        intro v t H5 hb dD dP a5 r5 x5 t5
        refine ⟨_, DPut.k (k := Sum.inr x) dD hsz, ?_, ?_, wf.put gx, Bd.put bd hb, ?_, ?_, t5.put Dp⟩
        · rw [upd_same, dk_put x v l ndl]
        · rw [upd_ne PD]
          exact dP
        · have k : ∀ {v t}, Tr (fun b => H b = none ∧ b ≠ D) H5 6 n v t → Tr (fun b => H b = none ∧ b ≠ D) (upd H5 D (.dK (putK (dk l) (Sum.inr x) v))) 6 n v t := fun z => z.keep fun b kvs sb e => by rw [upd_ne sb.2]; exact e
          refine Al.put (a5.imp fun _ _ _ z => z.keep fun b kvs sb e => by rw [upd_ne sb.2]; exact e) x (r5.keep fun b kvs sb e => by rw [upd_ne sb.2]; exact e)
        · intro b o nb e
          rw [upd_ne (ne_of_none e hD)]
          exact x5 b o nb e
      refine ⟨fun b => b = false → c = 2 → 0 < n, ⟨_, rfl, rfl, _, rfl, ite2 (fun _ => ⟨rfl, fun h => by cases h⟩) (fun _ => ⟨_, rfl, rfl, _, rfl, ite2 (fun _ => ⟨_, rfl, _, _, rfl, rfl, _, rfl, rfl, fun h _ => ?_⟩) (fun h2 => ⟨rfl, fun _ e => ?_⟩)⟩)⟩, fun b hb => ?_⟩
      · have := of_decide_eq_false h
        omega
      · rw [e] at h2
        exact absurd rfl h2
      · cases b
        · refine iteF ⟨_, rfl, rfl, _, rfl, ite2 (fun h2 => ?_) (fun _ => ?_)⟩
          · have e2 : c = 2 := V.int.inj (of_decide_eq_true h2)
            have hn := hb rfl e2
            obtain ⟨m, rfl⟩ : ∃ m, n = m + 1 := ⟨n - 1, by omega⟩
            refine ⟨_, rfl, _, rfl, _, rfl, _, _, rfl, rfl, p, P, ps, by rw [Int.natCast_add]; simp, t4, bP, Pp, l1, l2, gp, fun D2 gs H5 r5 b5 x5 t5 => ?_⟩
            have a5 : Al (Tr (fun b => H b = none ∧ b ≠ D) H5 6 (m + 1)) l fs := al4.imp fun _ _ _ z => Tr.fx z t4 x5
            have r6 : Tr (fun b => H b = none ∧ b ≠ D) H5 6 (m + 1) (.ref D2) (.fds gs) := r5.wid fun b hb => ⟨(x3.trans x4).back t4 hb, fun e => by
              rw [e, bD] at hb
              cases hb⟩
            obtain ⟨H6, dp, cD, cP, cw, cb, ca, cx, ct⟩ := fin _ _ H5 b5 (x5 _ _ Dp bD) (x5 _ _ Pp bP) a5 r6 ((x3.trans x4).trans x5) t5
            exact ⟨_, rfl, _, rfl, D, H6, rfl, dp, _, _, _, _, _, rfl, cD, cP, cw, cb, ca, cx, ct⟩
          · exact ⟨_, _, _, l, fs, rfl, bD, bP, ⟨wf.nd, Nat.le_succ_of_le wf.ln, wf.gd⟩, bd, al4, x3.trans x4, t4⟩
        · refine iteT ⟨_, rfl, p, rfl, t4, fun v H5 v0 v1 x5 t5 => ?_⟩
          refine ⟨_, rfl, p, 2, rfl, t5, by decide, fun u H6 u0 u1 x6 t6 => ?_⟩
          have x46 := x5.trans x6
          have hsm : (v * (1 - 2 * u)).natAbs < 2 ^ 100 := by
            rcases (by omega : u = 0 ∨ u = 1) with e | e
            · rw [e]
              omega
            · rw [e]
              omega
          obtain ⟨H7, dp, cD, cP, cw, cb, ca, cx, ct⟩ := fin (.int (v * (1 - 2 * u))) (.int (v * (1 - 2 * u))) H6 (Bd.int hsm) (x46 _ _ Dp bD) (x46 _ _ Pp bP) (al4.imp fun _ _ _ z => Tr.fx z t4 x46) (Tr.int _) ((x3.trans x4).trans x46) t6
          exact ⟨_, _, rfl, rfl, .inl ⟨by decide, by decide⟩, _, _, rfl, rfl, _, _, rfl, rfl, .inr ⟨by omega, by omega⟩, _, rfl, _, rfl, D, H7, rfl, dp, _, _, _, _, _, rfl, cD, cP, cw, cb, ca, cx, ct⟩
    · rintro σ H' ⟨kv, nv, cv, l, fs, rfl, aD, aP, wf, bd, al, x3, t3⟩
      exact ⟨_, rfl, q D fs H' (.inr ⟨D, l, fs, rfl, rfl, hD, aD, wf.mono l2, al.imp fun _ _ _ z => z.wid fun b h => h.1⟩) (.inr ⟨fs, rfl, Nat.le_trans wf.ln (Nat.le_trans l2 (by decide)), wf.gd, bd⟩) x3 t3⟩
end
end Lw
namespace GrT
open PySem L2
mutual
/-- how many fields a value has, on all levels -/
def nf : T → Int
  | .int _ => 0
  | .fds fs => nfs fs
def nfs : List (Str × T) → Int
  | [] => 0
  | (_, t) :: r => 1 + nf t + nfs r
end
mutual
/-- the first value has all that the second one has -/
def ext : T → T → Bool
  | .int i, .int j => decide (i = j)
  | .fds a, .fds b => extL a b
  | .int _, .fds _ => false
  | .fds _, .int _ => false
def extL : List (Str × T) → List (Str × T) → Bool
  | _, [] => true
  | a, (x, t) :: r => (match look x a with | none => false | some u => ext u t) && extL a r
end
theorem nfs_sum : ∀ fs : List (Str × T), nfs fs = (fs.map fun p => 1 + nf p.2).sum
  | [] => by simp [nfs]
  | (x, t) :: r => by
    rw [nfs, List.map_cons, List.sum_cons, nfs_sum r]
theorem extL_iff {a : List (Str × T)} : ∀ {b : List (Str × T)}, extL a b = true ↔ ∀ p ∈ b, ∃ u, look p.1 a = some u ∧ ext u p.2 = true
  | [] => by simp [extL]
  | (x, t) :: r => by
    rw [extL, Bool.and_eq_true, extL_iff (b := r)]
    constructor
    · rintro ⟨h1, h2⟩ p hp
      rcases List.mem_cons.mp hp with e | e
      · rw [e]
        cases q : look x a with
        | none =>
          rw [q] at h1
          cases h1
        | some u =>
          rw [q] at h1
          exact ⟨u, rfl, h1⟩
      · exact h2 p e
    · intro h
      refine ⟨?_, fun p hp => h p (List.mem_cons_of_mem _ hp)⟩
      obtain ⟨u, h1, h2⟩ := h (x, t) List.mem_cons_self
      have h1' : look x a = some u := h1
      rw [h1']
      exact h2
end GrT
namespace Lw
open PySem PySem.Spec PyProof.Rows L2 GrT
theorem upd_back {H : Hp} {d : Addr} {u z : HO} (h : H d = some u) : upd (upd H d z) d u = H := by
  rw [upd_upd]
  funext b
  by_cases e : b = d
  · subst e
    rw [upd_same, h]
  · rw [upd_ne e]
theorem Same.unlock {H H' : Hp} {d : Addr} {u z : HO} (h : H d = some u) (s : Same (upd H d z) H') : Same H (upd H' d u) := fun b o e => by
  by_cases q : b = d
  · subst q
    rw [upd_same, ← h, e]
  · rw [upd_ne q]
    exact s b o (by rw [upd_ne q]; exact e)
theorem Same.new {H H1 : Hp} {a : Addr} {o : HO} (x : Same H H1) (n : H1 a = none) : Same H (upd H1 a o) := fun b u e => by
  have q := x b u e
  rw [upd_ne (ne_of_none q n)]
  exact q
theorem Tr.same {S : Addr → Prop} {H H' : Hp} {L n : Nat} {v : V} {t : T} (h : Tr S H L n v t) (x : Same H H') : Tr S H' L n v t :=
  h.keep fun b kvs _ e => x b _ e
theorem dk_at {l : List (Str × V)} {i : Nat} {k : Key} {v : V} (h : (dk l)[i]? = some (k, v)) : ∃ x, k = Sum.inr x ∧ l[i]? = some (x, v) := by
  unfold dk at h
  rw [List.getElem?_map] at h
  cases e : l[i]? with
  | none =>
    rw [e] at h
    cases h
  | some p =>
    rw [e] at h
    have h' := Option.some.inj h
    obtain ⟨x, w⟩ := p
    injection h' with h1 h2
    exact ⟨x, h1.symm, by rw [show w = v from h2]⟩
theorem Al.at {R : V → T → Prop} : ∀ {l : List (Str × V)} {fs : List (Str × T)} {i : Nat} {x : Str} {v : V}, Al R l fs → l[i]? = some (x, v) → ∃ t, fs[i]? = some (x, t) ∧ R v t
  | _, _, 0, x, v, .cons (a := p) (b := q) r _, h => by
    have e : p = (x, v) := by simpa using h
    subst e
    obtain ⟨z, u⟩ := q
    have e2 : x = z := r.1
    exact ⟨u, by rw [e2]; rfl, r.2⟩
  | _, _, i + 1, x, v, .cons r t, h => by
    have h' := h
    rw [List.getElem?_cons_succ] at h'
    obtain ⟨u, h1, h2⟩ := Al.at t h'
    exact ⟨u, by rw [List.getElem?_cons_succ]; exact h1, h2⟩
/-- further built-ins -/
structure Bu (mg : Str → Option Value) : Prop extends Bt mg where
  b_isinstance : mg "isinstance" = none
  b_dict : mg "dict" = none
  b_tuple : mg "tuple" = none
  b_bool : mg "bool" = none
  b_list : mg "list" = none
  b_str : mg "str" = none
  b_sum : mg "sum" = none
  b_sorted : mg "sorted" = none
theorem bo_isinstance : bootBuiltins "isinstance" = some (.builtin "isinstance") := by decide +kernel
theorem bo_dict : bootBuiltins "dict" = some (.type "dict") := by decide +kernel
theorem bo_tuple : bootBuiltins "tuple" = some (.type "tuple") := by decide +kernel
theorem bo_bool : bootBuiltins "bool" = some (.type "bool") := by decide +kernel
theorem bo_list : bootBuiltins "list" = some (.type "list") := by decide +kernel
theorem bo_str : bootBuiltins "str" = some (.type "str") := by decide +kernel
theorem bo_int : bootBuiltins "int" = some (.type "int") := by decide +kernel
theorem bo_sum : bootBuiltins "sum" = some (.builtin "sum") := by decide +kernel
theorem bo_sorted : bootBuiltins "sorted" = some (.builtin "sorted") := by decide +kernel
def spIsInt : Sp := fun vs H Q _ => ∃ i : Int, vs = [.int i] ∧ Q (.bl true) H
def spCount (n : Nat) : Sp := fun vs H Q _ => ∃ (v : V) (S : Addr → Prop) (t : T), vs = [v] ∧ Tr S H 40 n v t ∧ ∀ H', Same H H' → Q (.int (nf t)) H'
def spCountR : Nat → Sp
  | 0 => spNo
  | n + 1 => spCount n
section
variable {P : Program} {w : World} {K : PySem.W.Frag} {mg : Str → Option Value} {base : Heap}
theorem scIsInt : FnScope ["found"] ["found"] (defScope sIsInt) := ⟨rfl, rfl, rfl, by decide +kernel, rfl, by decide +kernel, by decide +kernel⟩
theorem c_is_integer (T : Bu mg) (D : Dfn K mg "_law_is_integer" sIsInt ["found"]) : Cal P w K mg base 1 "_law_is_integer" spIsInt := by
  refine D.cal scIsInt (fun vs H Q E h => ?_) (fun f cdv A outer s H vs Q E hr h => ?_)
  · obtain ⟨i, rfl, _⟩ := h
    rfl
  · obtain ⟨i, rfl, q⟩ := h
    refine ⟨_, (pss_one (ps_ret (pe_and (pe_callB call_isi (by rfl) T.b_isinstance bo_isinstance (pa_cons (pv 0) (pa_cons (pe_bltn (by rfl) T.b_int bo_int (v := .ty "int") rfl) pa_nil)))
      (pe_one (pe_not (pe_callB call_isi (by rfl) T.b_isinstance bo_isinstance (pa_cons (pv 0) (pa_cons (pe_bltn (by rfl) T.b_bool bo_bool (v := .ty "bool") rfl) pa_nil)))))))), ?_⟩
    exact ⟨_, rfl, _, _, _, _, _, rfl, .ty _, .base (.int i), rfl, _, rfl, iteT ⟨_, rfl, _, _, _, _, _, rfl, .ty _, .base (.int i), rfl, _, rfl, q⟩⟩
theorem scCount : FnScope ["value", "name"] ["value"] (defScope sCount) := ⟨rfl, rfl, rfl, by decide +kernel, rfl, by decide +kernel, by decide +kernel⟩
theorem c_count_step (T : Bu mg) (D : Dfn K mg "_law_count" sCount ["value"]) (n : Nat) (c_law_count : Cal P w K mg base (n + 1) "_law_count" (spCountR n)) : Cal P w K mg base (n + 2) "_law_count" (spCount n) := by
  refine D.cal scCount (fun vs H Q E h => ?_) (fun f cdv A outer s H vs Q E hr h => ?_)
  · obtain ⟨v, S, t, rfl, _⟩ := h
    rfl
  · obtain ⟨v, S, t, rfl, tr, q⟩ := h
    have hu1 : (A.deeper (envOfC "_law_count" (defScope sCount) s.heap.objs.size f cdv)).units + 1 < cLine := by
      have := hr.units
      omega
    refine ⟨_, (pss_cons (ps_if (pt_not (pt_val (pe_callB call_isi (by rfl) T.b_isinstance bo_isinstance (pa_cons (pv 0) (pa_cons (pe_bltn (by rfl) T.b_dict bo_dict (v := .ty "dict") rfl) pa_nil)))))
      (pss_one (ps_ret pe_int))
      pss_nil)
      (pss_one (ps_ret (pe_callB (cr_sum rfl) (by rfl) T.b_sum bo_sum (pa_cons (pe_lock (pe_lc (own := [("name", 1)]) (g := gName 1) (tt := tYes) rfl scCount.nd (pi_keys (pv 0)) (blkOk_by (own := [("name", 1)]) (N := ["value", "name"]) (sc := defScope sCount) (by decide +kernel)) (fun _ _ _ _ _ => pg_name (i := 1) scCount.nd rfl (Or.inl rfl)) (fun _ _ _ _ _ => pts_nil) (fun _ _ _ _ _ => (by exact (pe_op op_add pe_int (pe_c c_law_count hr (by omega) rfl (pa_cons (pe_dget hu1 (pv 0) (pv 1) (fun _ _ => rfl)) pa_nil))))))) pa_nil))))), ?_⟩
    refine tr.cases (fun i e1 e2 => ?_) (fun k a l fs en e1 e2 sa ea wf al => ?_)
    · subst e1 e2
      exact ⟨_, rfl, _, _, _, _, _, rfl, .ty _, .base (.int i), rfl, _, rfl, iteT (q H (Same.refl H))⟩
    · subst en e1 e2
      refine ⟨_, rfl, _, _, _, _, _, rfl, .ty _, .base (.dK ea), rfl, _, rfl, iteF ?_⟩
      refine ⟨a, .dK (dk l), ea, True.intro, fun od => ⟨_, rfl, a, od, rfl, .inl ⟨_, upd_same, fun Z hZ => lc_it walk_keys (fun i H5 => ∃ (fs' : List (Str × GrT.T)), fs' = fs.take i ∧ H5 Z = some (.lst ((fs'.map fun p : Str × GrT.T => 1 + nf p.2).map V.int)) ∧ Same (upd H a (.frz od (.dK (dk l)))) H5)
        ⟨[], rfl, upd_same, Same.new (Same.refl _) hZ⟩ ?_ ?_ ?_⟩⟩⟩
      · rintro i H5 _ ⟨fs', _, _, sm⟩
        exact sm _ _ upd_same
      · rintro i x H5 H6 hi ⟨fs', rfl, eZ, sm⟩ ⟨rfl, k', v', hk, rfl⟩
        obtain ⟨x, rfl, hx⟩ := dk_at hk
        obtain ⟨u, hu, ru⟩ := Lw.Al.at al hx
        have aZ : a ≠ Z := ne_of_none upd_same hZ
        have ea6 := sm _ _ (upd_same (H := H) (a := a) (o := .frz od (.dK (dk l))))
        have nd : (names l).Nodup := by
          rw [al.names]
          exact wf.nd
        have r6 : Tr S H6 40 k v' u := Tr.same ((Lw.Al.at (al_away sa ea wf al (.frz od (.dK (dk l)))) hx).elim fun u' h => by
          have e : u' = u := by
            have := h.1.symm.trans hu
            injection this with this
            injection this
          rw [← e]
          exact h.2) sm
        have hln : fs.length ≤ 40 := wf.ln
        refine ⟨rfl, iteT (A := _) (B := True) (iteT ⟨_, rfl, _, rfl, a, v', rfl, .inl ⟨dk l, Sum.inr x, .inr ⟨od, ea6⟩, rfl, by rw [dk_val, mem_look nd (List.mem_of_getElem? hx)]⟩, v', S, u, rfl, r6, fun H7 s7 => ?_⟩)⟩
        refine ⟨_, _, rfl, rfl, _, s7 _ _ eZ, line_big (by rw [List.length_map, List.length_map, List.length_take]; omega), _, rfl, ?_, ?_⟩
        · rw [upd_same, List.take_add_one, hu]
          simp
        · intro b o e
          rw [upd_ne (ne_of_none e hZ)]
          exact s7 _ _ (sm b o e)
      · rintro H5 ⟨fs', rfl, eZ, sm⟩
        rw [dk_len, al.len, List.take_length] at eZ
        have ea5 := sm _ _ (upd_same (H := H) (a := a) (o := .frz od (.dK (dk l))))
        have aZ : Z ≠ a := (ne_of_none upd_same hZ).symm
        refine ⟨ea5, Z, _, rfl, .of (by rw [upd_ne aZ]; exact eZ), ?_⟩
        rw [← nfs_sum]
        exact q _ (Same.unlock ea sm)
end
end Lw
namespace Lw
open PySem PySem.Spec PyProof.Rows L2 GrT
/-! ### one row of names in ascending order -/
theorem ltc_anti : ∀ a b : List Nat, ltCps a b = false → ltCps b a = false → a = b
  | [], [], _, _ => rfl
  | [], _ :: _, h, _ => by cases h
  | _ :: _, [], _, h => by cases h
  | a :: r, b :: t, h1, h2 => by
    simp only [ltCps, Bool.or_eq_false_iff, decide_eq_false_iff_not, Bool.and_eq_false_iff, beq_eq_false_iff_ne] at h1 h2
    have e : a = b := by omega
    subst e
    have q1 := h1.2.resolve_left (fun h => h rfl)
    have q2 := h2.2.resolve_left (fun h => h rfl)
    rw [ltc_anti r t q1 q2]
theorem ltc_trans : ∀ a b c : List Nat, ltCps b a = false → ltCps c b = false → ltCps c a = false
  | [], _, [], _, _ => rfl
  | [], _, _ :: _, _, _ => rfl
  | _ :: _, [], _, h, _ => by cases h
  | _ :: _, _ :: _, [], _, h => by cases h
  | a :: r, b :: t, c :: u, h1, h2 => by
    simp only [ltCps, Bool.or_eq_false_iff, decide_eq_false_iff_not, Bool.and_eq_false_iff, beq_eq_false_iff_ne] at h1 h2 ⊢
    refine ⟨by omega, ?_⟩
    by_cases e : c = a
    · right
      have e1 : a = b := by omega
      have e2 : c = b := by omega
      exact ltc_trans r t u (h1.2.resolve_left (fun h => h e1.symm)) (h2.2.resolve_left (fun h => h e2))
    · exact .inl e
theorem rising_pw : ∀ (l : List Str) (p : Str), risingS p l = true → (p :: l).Pairwise fun a b => ltCps b.cps.toList a.cps.toList = false
  | [], p, _ => List.pairwise_singleton _ _
  | x :: r, p, h => by
    rw [risingS, Bool.and_eq_true, Bool.not_eq_true'] at h
    have ih := rising_pw r x h.2
    refine List.pairwise_cons.mpr ⟨fun y hy => ?_, ih⟩
    rcases List.mem_cons.mp hy with e | e
    · rw [e]
      exact h.1
    · exact ltc_trans _ _ _ h.1 ((List.pairwise_cons.mp ih).1 y e)
theorem sorted_pw {l : List Str} (h : sortedS l = true) : l.Pairwise fun a b => ltCps b.cps.toList a.cps.toList = false := by
  cases l with
  | nil => exact List.Pairwise.nil
  | cons x r => exact rising_pw r x h
theorem str_tl {x y : Str} (h : x.cps.toList = y.cps.toList) : x = y := by
  obtain ⟨a⟩ := x
  obtain ⟨b⟩ := y
  have e : a.toList = b.toList := h
  rw [Array.toList_inj.mp e]
theorem sorted_one {ys zs : List Str} (hy : sortedS ys = true) (hz : sortedS zs = true) (p : ys.Perm zs) : ys = zs :=
  List.Perm.eq_of_pairwise (fun x y _ _ h1 h2 => str_tl (ltc_anti _ _ h2 h1)) (sorted_pw hy) (sorted_pw hz) p
/-- the names in ascending order, in a new list -/
def spSorted : Sp := fun vs H Q _ => ∃ (a : Addr) (l : List (Str × V)), vs = [.ref a] ∧ H a = some (.dK (dk l)) ∧ l.length < 64 ∧
  ∀ (ys : List Str) (W : Addr) H', ys.Perm (names l) → sortedS ys = true → H' W = some (.lst (ys.map V.str)) → H W = none → Same H H' → Q (.ref W) H'
section
variable {P : Program} {w : World} {K : PySem.W.Frag} {mg : Str → Option Value} {base : Heap}
theorem scSorted : FnScope ["names", "name"] ["names"] (defScope sSorted) := ⟨rfl, rfl, rfl, by decide +kernel, rfl, by decide +kernel, by decide +kernel⟩
theorem c_sorted (T : Bu mg) (D : Dfn K mg "_law_sorted" sSorted ["names"]) : Cal P w K mg base 1 "_law_sorted" spSorted := by
  refine D.cal scSorted (fun vs H Q E h => ?_) (fun f cdv A outer s H vs Q E hr h => ?_)
  · obtain ⟨a, l, rfl, _⟩ := h
    rfl
  · obtain ⟨a, l, rfl, ea, hl, q⟩ := h
    refine ⟨_, (pss_one (ps_ret (pe_callB cr_sortedS (by rfl) T.b_sorted bo_sorted (pa_cons (pe_lock (pe_lc (own := [("name", 1)]) (g := gName 1) (tt := tYes) rfl scSorted.nd (pi_keys (pv 0)) (blkOk_by (own := [("name", 1)]) (N := ["names", "name"]) (sc := defScope sSorted) (by decide +kernel)) (fun _ _ _ _ _ => pg_name (i := 1) scSorted.nd rfl (Or.inl rfl)) (fun _ _ _ _ _ => pts_nil) (fun _ _ _ _ _ => (by exact (pe_callTy SkE.call_str_str (by rfl) T.b_str bo_str (pa_cons (pv 1) pa_nil)))))) pa_nil)))), ?_⟩
    refine ⟨a, .dK (dk l), ea, True.intro, fun od => ⟨_, rfl, a, od, rfl, .inl ⟨_, upd_same, fun Z hZ => lc_it walk_keys (fun i H5 => H5 Z = some (.lst (((names l).take i).map V.str)) ∧ Same (upd H a (.frz od (.dK (dk l)))) H5)
      ⟨upd_same, Same.new (Same.refl _) hZ⟩ ?_ ?_ ?_⟩⟩⟩
    · rintro i H5 _ ⟨_, sm⟩
      exact sm _ _ upd_same
    · rintro i x H5 H6 hi ⟨eZ, sm⟩ ⟨rfl, k', v', hk, rfl⟩
      obtain ⟨x, rfl, hx⟩ := dk_at hk
      refine ⟨rfl, iteT (A := _) (B := True) (iteT ⟨_, rfl, x, rfl, _, eZ, line_big (by rw [List.length_map, List.length_take, show (names l).length = l.length from List.length_map _]; omega), ?_, ?_⟩)⟩
      · have hn : (names l)[i]? = some x := by rw [List.getElem?_map, hx]; rfl
        rw [upd_same, List.take_add_one, hn]
        simp
      · intro b o e
        rw [upd_ne (ne_of_none e hZ)]
        exact sm b o e
    · rintro H5 ⟨eZ, sm⟩
      have hn : (names l).length = l.length := List.length_map _
      rw [dk_len, ← hn, List.take_length] at eZ
      have ea5 := sm _ _ (upd_same (H := H) (a := a) (o := .frz od (.dK (dk l))))
      have aZ : Z ≠ a := (ne_of_none upd_same hZ).symm
      have hZ0 : H Z = none := by
        rw [upd_ne aZ] at hZ
        exact hZ
      refine ⟨ea5, Z, _, rfl, .of (by rw [upd_ne aZ]; exact eZ), by rw [hn]; exact hl, fun ys W pm so hW => ?_⟩
      have s1 : Same H (upd H5 a (.dK (dk l))) := Same.unlock ea sm
      exact q ys W _ pm so upd_same (s1.free hW) (Same.new s1 hW)
end
end Lw
namespace Lw
open PySem PySem.Spec PyProof.Rows L2 GrT GrOwn
abbrev sIsName : Stmt := top 8
abbrev sValueSize : Stmt := top 9
abbrev sInit : Stmt := inClass (top 10) 0
abbrev sMake : Stmt := inClass (top 10) 1
abbrev sSize : Stmt := inClass (top 10) 3
abbrev sEq : Stmt := inClass (top 10) 14
abbrev sContains : Stmt := inClass (top 10) 16
abbrev sLen : Stmt := inClass (top 10) 17
abbrev sGet : Stmt := inClass (top 10) 18
abbrev sIter : Stmt := inClass (top 10) 19
/-! ### a record in the heap -/
theorem nSF : ¬ (("_fields" : Str) = "_size") := by decide +kernel
theorem nNS : ¬ (("names" : Str) = "_size") := by decide +kernel
theorem nNF : ¬ (("names" : Str) = "_fields") := by decide +kernel
def rf (t d : Addr) (z : Int) : List (Str × V) := putF "_size" (.int z) (putF "_fields" (.ref d) (putF "names" (.ref t) []))
theorem rf_names (t d : Addr) (z : Int) : (rf t d z).lookup ("names" : Str) = some (.ref t) := by
  unfold rf
  rw [lookup_putF, if_neg nNS, lookup_putF, if_neg nNF, lookup_putF, if_pos rfl]
theorem rf_fields (t d : Addr) (z : Int) : (rf t d z).lookup ("_fields" : Str) = some (.ref d) := by
  unfold rf
  rw [lookup_putF, if_neg nSF, lookup_putF, if_pos rfl]
theorem rf_size (t d : Addr) (z : Int) : (rf t d z).lookup ("_size" : Str) = some (.int z) := by
  unfold rf
  rw [lookup_putF, if_pos rfl]
/-- at a: a record of the class C, its fields l, what it is made of within S -/
structure RA (S : Addr → Prop) (C : Addr) (H : Hp) (a : Addr) (l : List (Str × V)) (z : Int) : Prop where
  ex : ∃ dx tp d, (S a ∧ S tp ∧ S d) ∧ H a = some (.ins C dx (rf tp d z)) ∧ H tp = some (.tup ((names l).map V.str)) ∧ H d = some (.dK (dk l))
  nd : (names l).Nodup
  so : sortedS (names l) = true
def Ro : HO → Prop
  | .ins _ _ _ => True
  | .tup _ => True
  | .dK _ => True
  | _ => False
theorem RA.keep {S : Addr → Prop} {C : Addr} {H H' : Hp} {a : Addr} {l : List (Str × V)} {z : Int} (r : RA S C H a l z) (k : ∀ b o, S b → H b = some o → Ro o → H' b = some o) : RA S C H' a l z := by
  obtain ⟨⟨dx, tp, d, ⟨s1, s2, s3⟩, e1, e2, e3⟩, n, s⟩ := r
  exact ⟨⟨dx, tp, d, ⟨s1, s2, s3⟩, k _ _ s1 e1 True.intro, k _ _ s2 e2 True.intro, k _ _ s3 e3 True.intro⟩, n, s⟩
theorem RA.wid {S S' : Addr → Prop} {C : Addr} {H : Hp} {a : Addr} {l : List (Str × V)} {z : Int} (r : RA S C H a l z) (k : ∀ b, S b → S' b) : RA S' C H a l z := by
  obtain ⟨⟨dx, tp, d, ⟨s1, s2, s3⟩, e1, e2, e3⟩, n, s⟩ := r
  exact ⟨⟨dx, tp, d, ⟨k _ s1, k _ s2, k _ s3⟩, e1, e2, e3⟩, n, s⟩
theorem RA.any {S : Addr → Prop} {C : Addr} {H : Hp} {a : Addr} {l : List (Str × V)} {z : Int} (r : RA S C H a l z) : RA (fun _ => True) C H a l z := r.wid fun _ _ => True.intro
/-- v is t, dicts having become records -/
def Rc (S : Addr → Prop) (C : Addr) (H : Hp) : Nat → V → T → Prop
  | 0, v, t => ∃ i, v = .int i ∧ t = .int i
  | n + 1, v, t => (∃ i, v = .int i ∧ t = .int i) ∨ ∃ a l fs, v = .ref a ∧ t = .fds fs ∧ RA S C H a l (nfs fs) ∧ Wf 40 fs ∧ (names l).Perm (names fs) ∧ ∀ x v u, look x l = some v → look x fs = some u → Rc S C H n v u
section
variable {S S' : Addr → Prop} {C : Addr} {H H' : Hp}
theorem Rc.int {n : Nat} (i : Int) : Rc S C H n (.int i) (.int i) := by
  cases n with
  | zero => exact ⟨i, rfl, rfl⟩
  | succ n => exact .inl ⟨i, rfl, rfl⟩
theorem Rc.cases {n : Nat} {v : V} {t : T} {P : Prop} (h : Rc S C H n v t) (h1 : ∀ i, v = .int i → t = .int i → P)
    (h2 : ∀ k a l fs, n = k + 1 → v = .ref a → t = .fds fs → RA S C H a l (nfs fs) → Wf 40 fs → (names l).Perm (names fs) → (∀ x v u, look x l = some v → look x fs = some u → Rc S C H k v u) → P) : P := by
  cases n with
  | zero =>
    obtain ⟨i, e1, e2⟩ := h
    exact h1 i e1 e2
  | succ k =>
    rcases h with ⟨i, e1, e2⟩ | ⟨a, l, fs, e1, e2, e3, e4, e5, e6⟩
    · exact h1 i e1 e2
    · exact h2 k a l fs rfl e1 e2 e3 e4 e5 e6
theorem Rc.keep : ∀ {n : Nat} {v : V} {t : T}, Rc S C H n v t → (∀ b o, S b → H b = some o → Ro o → H' b = some o) → Rc S C H' n v t
  | 0, _, _, h, _ => h
  | n + 1, v, t, h, k => by
    rcases h with h | ⟨a, l, fs, e1, e2, e3, e4, e5, e6⟩
    · exact .inl h
    · exact .inr ⟨a, l, fs, e1, e2, e3.keep k, e4, e5, fun x v u q1 q2 => (e6 x v u q1 q2).keep k⟩
theorem Rc.wid : ∀ {n : Nat} {v : V} {t : T}, Rc S C H n v t → (∀ b, S b → S' b) → Rc S' C H n v t
  | 0, _, _, h, _ => h
  | n + 1, v, t, h, k => by
    rcases h with h | ⟨a, l, fs, e1, e2, e3, e4, e5, e6⟩
    · exact .inl h
    · exact .inr ⟨a, l, fs, e1, e2, e3.wid k, e4, e5, fun x v u q1 q2 => (e6 x v u q1 q2).wid k⟩
theorem Rc.same {n : Nat} {v : V} {t : T} (h : Rc S C H n v t) (s : Same H H') : Rc S C H' n v t := h.keep fun b o _ e _ => s b o e
theorem Rc.fx {p : Addr} {n : Nat} {v : V} {t : T} (h : Rc S C H n v t) (tp : Tape H p) (s : Fx p H H') : Rc S C H' n v t := h.keep fun b o _ e r => s b o (fun q => by
  obtain ⟨ns, tl, _⟩ := tp
  rw [q, tl] at e
  cases e
  exact r) e
end
/-! ### what the top says of the class -/
structure RecK (K : PySem.W.Frag) (mg : Str → Option Value) (C : Addr) : Prop where
  cl : Cls K C
  nN : NoAttr K C "names"
  nF : NoAttr K C "_fields"
  nS : NoAttr K C "_size"
  ha : PySem.W.findIn K (.ref C) "__class__" = some (some (.builtin "object.__class__"))
  hn : PySem.W.specialIn K (.builtin "object.__class__") "__get__" = some (some (.builtin "getset_descriptor.__get__"))
  htk : PySem.W.takesIn K (.builtin "object.__class__") = some true
  hm : PySem.W.mroIn K C (.type "object") = some true
  kI : PySem.W.kitOne K (.type "int") (.ref C) = some false
  kRD : PySem.W.kitOne K (.ref C) (.type "dict") = some false
  kRC : PySem.W.kitOne K (.ref C) (.ref C) = some true
  sI : PySem.W.subIn K (.type "int") (.ref C) = some false
  sR : PySem.W.subIn K (.ref C) (.type "int") = some false
  mgC : mg "Record" = some (.ref C)
theorem RecK.ty {K : PySem.W.Frag} {mg : Str → Option Value} {C : Addr} {H : Hp} {a dx : Addr} {fs : List (Str × V)} (R : RecK K mg C) (e : H a = some (.ins C dx fs)) : TyX K H (.ref a) (.ref C) := .base (.ins e R.cl R.ha R.hn R.htk R.hm)
/-- a def of the class, by its name -/
structure DfM (K : PySem.W.Frag) (C : Addr) (x q : Str) (st : Stmt) (ps : List Str) : Prop where
  ex : ∃ f fd, Sm K C x f ∧ PySem.W.fnIn K f = true ∧ L2.Fun K x q st f fd ∧ Binds K fd ps []
structure Mth (P : Program) (w : World) (K : PySem.W.Frag) (mg : Str → Option Value) (base : Heap) (C : Addr) (k : Nat) (x : Str) (sp : Sp) : Prop where
  ex : ∃ (f : Addr) (fd : FuncData) (ps : List Str), FnOk P w K mg base CX0 k f fd ps sp ∧ Sm K C x f ∧ PySem.W.fnIn K f = true ∧ Binds K fd ps []
structure MthS (P : Program) (w : World) (K : PySem.W.Frag) (mg : Str → Option Value) (base : Heap) (C : Addr) (k : Nat) (x : Str) (sp : Nat → Sp) : Prop where
  ex : ∃ (f : Addr) (fd : FuncData) (ps : List Str), FnS P w K mg base CX0 k f fd ps sp ∧ Sm K C x f ∧ PySem.W.fnIn K f = true ∧ Binds K fd ps []
section
variable {P : Program} {w : World} {K : PySem.W.Frag} {mg : Str → Option Value} {base : Heap} {C : Addr}
theorem DfM.cal {x qu : Str} {st : Stmt} {N ps : List Str} {k : Nat} {sp : Sp} (D : DfM K C x qu st ps) (S : FnScope N ps (defScope st)) (len : ∀ vs H Q E, sp vs H Q E → vs.length = ps.length)
    (body : ∀ (f : Addr) (cdv : Value) (A : Around) (outer : List Env) (s : Shared) (H : Hp) (vs : List V) (Q : VK) (E : XK), Room k (A.deeper (envOfC qu (defScope st) s.heap.objs.size f cdv)) → sp vs H Q E →
      ∃ t, PSs (cxOf CX0 P w K mg base N qu (defScope st) f cdv A outer s H E).nox (defBody st) t ∧ t { nx := fun _ H' => Q .non H', rt := Q } (start N vs) H) : Mth P w K mg base C (k + 1) x sp := by
  obtain ⟨f, fd, hm, hfn, F, b⟩ := D.ex
  exact ⟨f, fd, ps, F.ok S len (body f), hm, hfn, b⟩
end
section
variable {X : Cx} {C : Addr} {k j : Nat} {sp : Sp}
theorem op_inM (m : Mth X.prog X.w X.K X.mg X.base C k "__contains__" sp) (hr : Room j X.A) (hk : k ≤ j) : OpR X (compareOp .In) (rInO false C sp E0) := by
  obtain ⟨f, fd, ps, F, s, _, b⟩ := m.ex
  exact op_inO s F (hr.mono hk) b pass0
theorem op_notInM (m : Mth X.prog X.w X.K X.mg X.base C k "__contains__" sp) (hr : Room j X.A) (hk : k ≤ j) : OpR X (compareOp .NotIn) (rInO true C sp E0) := by
  obtain ⟨f, fd, ps, F, s, _, b⟩ := m.ex
  exact op_notInO s F (hr.mono hk) b pass0
theorem pe_ixM {a b : Expr} {ta tb : TE} {pos : Pos} (m : Mth X.prog X.w X.K X.mg X.base C k "__getitem__" sp) (hr : Room j X.A) (hk : k + 1 ≤ j) (ha : PE X a ta) (hb : PE X b tb)
    (hsl : ∀ (q : Addr) (i : Value), subscripted b true (.ref q) i = runValue (.builtin "lifetime.subscript" ⟨[.ref q, i], []⟩) := by intro _ _; with_unfolding_all rfl) : PE X (.Subscript a b pos) (tIxO C sp E0 ta tb) := by
  obtain ⟨f, fd, ps, F, s, fn, bd⟩ := m.ex
  exact pe_ixO s fn F (hr.mono hk) bd pass0 ha hb hsl
theorem call_lenM (m : Mth X.prog X.w X.K X.mg X.base C k "__len__" sp) (hr : Room j X.A) (hk : k + 1 ≤ j) : CallR X (.builtin "len") (rLenO C sp E0) := by
  obtain ⟨f, fd, ps, F, s, _, b⟩ := m.ex
  exact call_lenO s F (hr.mono hk) b pass0
theorem op_eqML (R : RecK X.K X.mg C) (m : Mth X.prog X.w X.K X.mg X.base C k "__eq__" sp) (hr : Room j X.A) (hk : k ≤ j) : OpR X (compareOp .Eq) (rEqOL X.K C sp E0) := by
  obtain ⟨f, fd, ps, F, s, _, b⟩ := m.ex
  exact op_eqOL s R.sI F (hr.mono hk) b pass0
theorem op_eqMR (R : RecK X.K X.mg C) (m : Mth X.prog X.w X.K X.mg X.base C k "__eq__" sp) (hr : Room j X.A) (hk : k ≤ j) : OpR X (compareOp .Eq) (rEqOR C sp E0) := by
  obtain ⟨f, fd, ps, F, s, _, b⟩ := m.ex
  exact op_eqOR s R.sR F (hr.mono hk) b pass0
theorem pi_ownM {tg e : Expr} {te : TE} (R : RecK X.K X.mg C) (m : MthS X.prog X.w X.K X.mg X.base C k "__iter__" (spIt X.K)) (hr : Room j X.A) (hk : k ≤ j) (he : PE X e te) : PI X tg e (iOwn X.K te C) := by
  obtain ⟨f, fd, ps, F, s, _, b⟩ := m.ex
  exact pi_own s R.cl R.nN F (hr.mono hk) b pass0 he
theorem ps_no {st : Stmt} : PS X st (fun _ _ _ => False) := ⟨fun _ _ _ _ _ _ h => h.elim⟩
theorem pe_no {e : Expr} : PE X e (fun _ _ _ => False) := ⟨fun _ _ _ _ _ _ h => h.elim⟩
end
end Lw
namespace Lw
open PySem PySem.Spec PyProof.Rows L2 GrT GrOwn
/-! ### the record's own defs -/
def spContains (C : Addr) : Sp := fun vs H Q _ => ∃ (a : Addr) (l : List (Str × V)) (z : Int) (x : Str), vs = [.ref a, .str x] ∧ RA (fun _ => True) C H a l z ∧ Q (.bl (look x l).isSome) H
def spLen (C : Addr) : Sp := fun vs H Q _ => ∃ (a : Addr) (l : List (Str × V)) (z : Int), vs = [.ref a] ∧ RA (fun _ => True) C H a l z ∧ Q (.int l.length) H
def spGet (C : Addr) : Sp := fun vs H Q _ => ∃ (a : Addr) (l : List (Str × V)) (z : Int) (x : Str) (v : V), vs = [.ref a, .str x] ∧ RA (fun _ => True) C H a l z ∧ look x l = some v ∧ Q v H
def spSize (C : Addr) : Sp := fun vs H Q _ => ∃ (a dx tp d : Addr) (z : Int), vs = [.ref a] ∧ H a = some (.ins C dx (rf tp d z)) ∧ Q (.int z) H
def spEq (C : Addr) : Sp := fun vs H Q _ => ∃ (a : Addr) (i : Int), vs = [.ref a, .int i] ∧ Q (.bl false) H
/-- how many fields a value has, as the program asks it -/
def SzV (C : Addr) (H : Hp) (v : V) (z : Int) : Prop := (∃ i, v = .int i ∧ z = 0) ∨ ∃ a dx tp d, v = .ref a ∧ H a = some (.ins C dx (rf tp d z))
def spVs (C : Addr) : Sp := fun vs H Q _ => ∃ (v : V) (z : Int), vs = [v] ∧ SzV C H v z ∧ Q (.int z) H
section
variable {P : Program} {w : World} {K : PySem.W.Frag} {mg : Str → Option Value} {base : Heap} {C : Addr}
theorem scContains : FnScope ["self", "name"] ["self", "name"] (defScope sContains) := ⟨rfl, rfl, rfl, by decide +kernel, rfl, by decide +kernel, by decide +kernel⟩
theorem scLen : FnScope ["self"] ["self"] (defScope sLen) := ⟨rfl, rfl, rfl, by decide +kernel, rfl, by decide +kernel, by decide +kernel⟩
theorem scGet : FnScope ["self", "name"] ["self", "name"] (defScope sGet) := ⟨rfl, rfl, rfl, by decide +kernel, rfl, by decide +kernel, by decide +kernel⟩
theorem scSize : FnScope ["self"] ["self"] (defScope sSize) := ⟨rfl, rfl, rfl, by decide +kernel, rfl, by decide +kernel, by decide +kernel⟩
theorem scIter : FnScope ["self"] ["self"] (defScope sIter) := ⟨rfl, rfl, rfl, by decide +kernel, rfl, by decide +kernel, by decide +kernel⟩
theorem scEq : FnScope ["self", "other"] ["self", "other"] (defScope sEq) := ⟨rfl, rfl, rfl, by decide +kernel, rfl, by decide +kernel, by decide +kernel⟩
theorem scValueSize : FnScope ["value"] ["value"] (defScope sValueSize) := ⟨rfl, rfl, rfl, by decide +kernel, rfl, by decide +kernel, by decide +kernel⟩
theorem m_contains (R : RecK K mg C) (D : DfM K C "__contains__" "Record.__contains__" sContains ["self", "name"]) : Mth P w K mg base C 1 "__contains__" (spContains C) := by
  refine D.cal scContains (fun vs H Q E h => ?_) (fun f cdv A outer s H vs Q E hr h => ?_)
  · obtain ⟨a, l, z, x, rfl, _⟩ := h
    rfl
  · obtain ⟨a, l, z, x, rfl, ⟨⟨dx, tp, d, _, e1, e2, e3⟩, _, _⟩, q⟩ := h
    have hu := hu_of hr
    refine ⟨_, (pss_one (ps_ret (pe_cmp (pc_din hu (pv 1) (pe_fld (pv 0) rfl))))), ?_⟩
    refine ⟨_, rfl, _, rfl, a, C, dx, _, _, rfl, e1, R.cl, R.nF, rf_fields _ _ _, d, _, rfl, DGet.k (k := Sum.inr x) e3, ?_⟩
    rw [dk_val]
    exact q
theorem m_len (T : Bt mg) (R : RecK K mg C) (D : DfM K C "__len__" "Record.__len__" sLen ["self"]) : Mth P w K mg base C 1 "__len__" (spLen C) := by
  refine D.cal scLen (fun vs H Q E h => ?_) (fun f cdv A outer s H vs Q E hr h => ?_)
  · obtain ⟨a, l, z, rfl, _⟩ := h
    rfl
  · obtain ⟨a, l, z, rfl, ⟨⟨dx, tp, d, _, e1, e2, e3⟩, _, _⟩, q⟩ := h
    refine ⟨_, (pss_one (ps_ret (pe_callB call_lenD (by rfl) T.b_len PySem.boot_len (pa_cons (pe_fld (pv 0) rfl) pa_nil)))), ?_⟩
    refine ⟨_, rfl, a, C, dx, _, _, rfl, e1, R.cl, R.nF, rf_fields _ _ _, d, _, rfl, e3, ?_⟩
    rw [dk_len]
    exact q
theorem m_get (R : RecK K mg C) (D : DfM K C "__getitem__" "Record.__getitem__" sGet ["self", "name"]) : Mth P w K mg base C 1 "__getitem__" (spGet C) := by
  refine D.cal scGet (fun vs H Q E h => ?_) (fun f cdv A outer s H vs Q E hr h => ?_)
  · obtain ⟨a, l, z, x, v, rfl, _⟩ := h
    rfl
  · obtain ⟨a, l, z, x, v, rfl, ⟨⟨dx, tp, d, _, e1, e2, e3⟩, _, _⟩, hv, q⟩ := h
    have hu := hu_of hr
    refine ⟨_, (pss_cons (ps_if (pt_cmp (pc_dnotin hu (pv 1) (pe_fld (pv 0) rfl)))
      (pss_one ps_no)
      pss_nil)
      (pss_one (ps_ret (pe_dget hu (pe_fld (pv 0) rfl) (pv 1) (fun _ _ => rfl))))), ?_⟩
    have hg : valV (dk l) (Sum.inr x : Key) = some v := by rw [dk_val, hv]
    have hd := DGet.k (k := Sum.inr x) e3
    rw [hg] at hd
    exact ⟨_, rfl, _, rfl, a, C, dx, _, _, rfl, e1, R.cl, R.nF, rf_fields _ _ _, d, some v, rfl, hd, _, rfl, iteF ⟨_, rfl, a, C, dx, _, _, rfl, e1, R.cl, R.nF, rf_fields _ _ _, _, rfl, d, v, rfl, hd, q⟩⟩
theorem fn_size (R : RecK K mg C) {f : Addr} {fd : FuncData} (F : L2.Fun K "size" "Record.size" sSize f fd) : FnOk P w K mg base CX0 1 f fd ["self"] (spSize C) := by
  refine F.ok scSize (fun vs H Q E h => ?_) (fun cdv A outer s H vs Q E hr h => ?_)
  · obtain ⟨a, dx, tp, d, z, rfl, _⟩ := h
    rfl
  · obtain ⟨a, dx, tp, d, z, rfl, e1, q⟩ := h
    refine ⟨_, (pss_one (ps_ret (pe_fld (pv 0) rfl))), ?_⟩
    exact ⟨_, rfl, a, C, dx, _, _, rfl, e1, R.cl, R.nS, rf_size _ _ _, q⟩
theorem m_iter (hi : mg "iter" = none) (R : RecK K mg C) (D : DfM K C "__iter__" "Record.__iter__" sIter ["self"]) : MthS P w K mg base C 1 "__iter__" (spIt K) := by
  obtain ⟨f, fd, hm, hfn, F, b⟩ := D.ex
  refine ⟨f, fd, ["self"], Fun.okS F scIter (fun n vs H Q E h => ?_) (fun cdv A outer s H vs Q E hr h => ?_), hm, hfn, b⟩
  · obtain ⟨a, C, dx, fs, t, zs, rfl, _⟩ := h
    rfl
  · obtain ⟨a, C, dx, fs, t, zs, rfl, e1, cl, na, el, hq, q⟩ := h
    refine ⟨_, (pss_one (ps_ret (pe_callB call_iterT (by rfl) hi (by decide +kernel) (pa_cons (pe_fld (pv 0) rfl) pa_nil)))), ?_⟩
    exact ⟨_, rfl, a, C, dx, _, _, rfl, e1, cl, na, el, t, zs, rfl, hq, fun it h1 h2 => q it h1 h2⟩
theorem m_eq (T : Bu mg) (R : RecK K mg C) (D : DfM K C "__eq__" "Record.__eq__" sEq ["self", "other"]) : Mth P w K mg base C 1 "__eq__" (spEq C) := by
  refine D.cal scEq (fun vs H Q E h => ?_) (fun f cdv A outer s H vs Q E hr h => ?_)
  · obtain ⟨a, i, rfl, _⟩ := h
    rfl
  · obtain ⟨a, i, rfl, q⟩ := h
    refine ⟨_, (pss_one (ps_ret (pe_and (pe_callB call_isi (by rfl) T.b_isinstance bo_isinstance (pa_cons (pv 1) (pa_cons (pe_glob (by rfl) R.mgC (v := .ref C) rfl) pa_nil))) pe_no))), ?_⟩
    exact ⟨_, rfl, _, _, _, _, _, rfl, .own C, .base (.int i), R.kI, _, rfl, iteF q⟩
theorem pe_size {X : Cx} {e : Expr} {pos : Pos} {ta : TE} {p g : Addr} {fd : FuncData} {j : Nat} (R : RecK X.K X.mg C) (hp : PropOf X.K C "size" p g) (F : L2.Fun X.K "size" "Record.size" sSize g fd) (b : Binds X.K fd ["self"] []) (hr : Room j X.A) (hk : 2 ≤ j) (he : PE X e ta)
    (hab : attributeBase e "size" X.env (eval e X.env) = eval e X.env) : PE X (.Attribute e "size" pos) (tProp C (spSize C) [] E0 ta) :=
  pe_prop he R.cl hp (fn_size R F) (hr.mono hk) b .nil pass0 hab
/-- the property, as the top has made it -/
structure PrK (K : PySem.W.Frag) (C : Addr) : Prop where
  ex : ∃ p g fd, PropOf K C "size" p g ∧ L2.Fun K "size" "Record.size" sSize g fd ∧ Binds K fd ["self"] []
theorem pe_sizeK {X : Cx} {e : Expr} {pos : Pos} {ta : TE} {j : Nat} (R : RecK X.K X.mg C) (h : PrK X.K C) (hr : Room j X.A) (hk : 2 ≤ j) (he : PE X e ta)
    (hab : attributeBase e "size" X.env (eval e X.env) = eval e X.env) : PE X (.Attribute e "size" pos) (tProp C (spSize C) [] E0 ta) := by
  obtain ⟨p, g, fd, hp, F, b⟩ := h.ex
  exact pe_size R hp F b hr hk he hab
theorem c_value_size (T : Bu mg) (R : RecK K mg C) (pr : PrK K C) (D : Dfn K mg "value_size" sValueSize ["value"]) : Cal P w K mg base 3 "value_size" (spVs C) := by
  refine D.cal scValueSize (fun vs H Q E h => ?_) (fun f cdv A outer s H vs Q E hr h => ?_)
  · obtain ⟨v, z, rfl, _⟩ := h
    rfl
  · obtain ⟨v, z, rfl, hv, q⟩ := h
    refine ⟨_, (pss_one (ps_ret (pe_ifExp (pt_val (pe_callB call_isi (by rfl) T.b_isinstance bo_isinstance (pa_cons (pv 0) (pa_cons (pe_glob (by rfl) R.mgC (v := .ref C) rfl) pa_nil)))) (pe_sizeK R pr hr (by decide) (pv 0) rfl) pe_int))), ?_⟩
    rcases hv with ⟨i, rfl, rfl⟩ | ⟨a, dx, tp, d, rfl, e1⟩
    · exact ⟨_, rfl, _, _, _, _, _, rfl, .own C, .base (.int i), R.kI, _, rfl, iteF q⟩
    · exact ⟨_, rfl, _, _, _, _, _, rfl, .own C, R.ty e1, R.kRC, _, rfl, iteT ⟨_, rfl, a, dx, _, rfl, e1, a, dx, tp, d, z, rfl, e1, q⟩⟩
end
end Lw
namespace Lw
open PySem PySem.Spec PyProof.Rows L2 GrT GrOwn
def spIsName : Sp := fun vs H Q _ => ∃ x : Str, vs = [.str x] ∧ Good x ∧ ∀ H', Same H H' → Q (.bl true) H'
theorem a_tl : (Str.ofString "a").cps.toList = [97] := by decide +kernel
theorem z_tl : (Str.ofString "z").cps.toList = [122] := by decide +kernel
theorem ge_a {c : Nat} (h : letter c) : (!decide ((⟨#[c]⟩ : Str).cps.toList < (Str.ofString "a").cps.toList)) = true := by
  rw [a_tl, Bool.not_eq_true', decide_eq_false_iff_not]
  show ¬ ([c] < [97])
  intro q
  have h' := h.1
  rcases List.cons_lt_cons_iff.mp q with e | ⟨_, e⟩
  · omega
  · exact absurd e (List.not_lt_nil _)
theorem le_z {c : Nat} (h : letter c) : (!decide ((Str.ofString "z").cps.toList < (⟨#[c]⟩ : Str).cps.toList)) = true := by
  rw [z_tl, Bool.not_eq_true', decide_eq_false_iff_not]
  show ¬ ([122] < [c])
  intro q
  have h' := h.2
  rcases List.cons_lt_cons_iff.mp q with e | ⟨_, e⟩
  · omega
  · exact absurd e (List.not_lt_nil _)
section
variable {P : Program} {w : World} {K : PySem.W.Frag} {mg : Str → Option Value} {base : Heap} {C : Addr}
theorem scIsName : FnScope ["text", "letter"] ["text"] (defScope sIsName) := ⟨rfl, rfl, rfl, by decide +kernel, rfl, by decide +kernel, by decide +kernel⟩
theorem c_is_name (T : Bu mg) (ba : mg "all" = none) {tL : Tok} (hL : mg "LONGEST_NAME" = some (.int 30 tL)) (D : Dfn K mg "is_name" sIsName ["text"]) : Cal P w K mg base 1 "is_name" spIsName := by
  refine D.cal scIsName (fun vs H Q E h => ?_) (fun f cdv A outer s H vs Q E hr h => ?_)
  · obtain ⟨x, rfl, _⟩ := h
    rfl
  · obtain ⟨x, rfl, ⟨g1, g2, g3⟩, q⟩ := h
    refine ⟨_, (pss_one (ps_ret (pe_and (pe_chain op_le op_le pe_int (pe_callB call_len_str (by rfl) T.b_len PySem.boot_len (pa_cons (pv 0) pa_nil)) (pe_glob (by rfl) hL (v := .int 30) ⟨tL, rfl⟩))
      (pe_one (pe_callB (cr_all rfl) (by rfl) ba (by decide +kernel) (pa_cons (pe_lc (own := [("letter", 1)]) (g := gName 1) (tt := tYes) rfl scIsName.nd (pi_str (pv 0)) (blkOk_by (own := [("letter", 1)]) (N := ["text", "letter"]) (sc := defScope sIsName) (by decide +kernel)) (fun _ _ _ _ _ => pg_name (i := 1) scIsName.nd rfl (Or.inl rfl)) (fun _ _ _ _ _ => pts_nil) (fun _ _ _ _ _ => (by exact (pe_chain op_le_str op_le_str pe_str (pv 1) pe_str)))) pa_nil)))))), ?_⟩
    refine ⟨_, rfl, x, rfl, line_big (by omega), _, _, rfl, rfl, _, rfl, ?_⟩
    rw [if_pos (decide_eq_true (by omega))]
    refine ⟨_, _, rfl, rfl, _, rfl, ?_⟩
    rw [if_pos (decide_eq_true (by omega))]
    refine ⟨_, rfl, _, rfl, fun Z hZ => lc_it walk_str (fun i H5 => H5 Z = some (.lst ((List.replicate i true).map V.bl)) ∧ Same H H5) ⟨upd_same, Same.new (Same.refl _) hZ⟩ (fun _ _ _ _ => True.intro) ?_ ?_⟩
    · rintro i y H5 H6 hi ⟨eZ, sm⟩ ⟨rfl, c, hc, rfl⟩
      have lc : letter c := g3 c (by
        rw [← Array.getElem?_toList] at hc
        exact List.mem_of_getElem? hc)
      have hsz : x.cps.size = x.length := rfl
      refine ⟨rfl, iteT (A := _) (B := True) (iteT ⟨_, rfl, _, _, rfl, rfl, _, rfl, ?_⟩)⟩
      rw [if_pos (ge_a lc)]
      refine ⟨_, _, rfl, rfl, _, eZ, line_big (by rw [List.length_map, List.length_replicate]; omega), ?_, ?_⟩
      · rw [upd_same, le_z lc, List.replicate_succ', List.map_append]
        rfl
      · intro b o e
        rw [upd_ne (ne_of_none e hZ)]
        exact sm b o e
    · rintro H5 ⟨eZ, sm⟩
      refine ⟨Z, _, rfl, .of eZ, ?_⟩
      have e : (List.replicate x.cps.size true).all id = true := by
        rw [List.all_eq_true]
        intro b hb
        rw [List.eq_of_mem_replicate hb]
        rfl
      rw [e]
      exact q _ sm
end
end Lw
namespace Lw
open PySem PySem.Spec PyProof.Rows L2 GrT GrOwn
section
variable {J : It} {n : Nat} {G : Hp → Prop} {Y : Nat → Hp → V → Hp → Prop}
/-- the loop of a dict comprehension, Pv by the turn and the heap -/
theorem dc_it (w : Walk J n G Y) {g : TG} {tt : TT} {tk tv : TE} {vs : List Nat} {σ : L2.St} {H1 : Hp} {D : Addr} {Qd : Hp → Prop} (Pv : Nat → Hp → Prop) (h0 : Pv 0 (upd H1 D (.dK []))) (hG : ∀ i H, i ≤ n → Pv i H → G H)
    (hs : ∀ i x H H', i < n → Pv i H → Y i H x H' → g x (wipe σ vs) H' fun σ2 H2 => wipe σ2 vs = wipe σ vs ∧ tt σ2 H2 fun b H3 =>
      if b = true then tk σ2 H3 fun y H4 => tv σ2 H4 fun z H5 => ∃ kvs k, y = kV k ∧ H5 D = some (.dK kvs) ∧ kvs.length < sizeLine ∧ Pv (i + 1) (upd H5 D (.dK (putK kvs k z))) else Pv (i + 1) H3) (hd : ∀ H, Pv n H → Qd H) :
    ∃ W : Nat → Nat → Hp → Prop, (∃ m, W 0 m (upd H1 D (.dK []))) ∧ ∀ i m H, W i m H →
      (J.stop i H ∧ Qd H) ∨ (J.go i H ∧ ∃ Nx : Hp → Prop, (∀ H', Nx H' → ∃ m', m' < m ∧ W (i + 1) m' H') ∧ ∀ x H', J.yld i H x H' → g x (wipe σ vs) H' fun σ2 H2 => wipe σ2 vs = wipe σ vs ∧ tt σ2 H2 fun b H3 =>
        if b = true then tk σ2 H3 fun y H4 => tv σ2 H4 fun z H5 => ∃ kvs k, y = kV k ∧ H5 D = some (.dK kvs) ∧ kvs.length < sizeLine ∧ Nx (upd H5 D (.dK (putK kvs k z))) else Nx H3) := by
  refine ⟨fun i m H => m = n - i ∧ i ≤ n ∧ Pv i H, ⟨n, by simp, Nat.zero_le _, h0⟩, ?_⟩
  rintro i m H ⟨rfl, hi, p⟩
  have q := hG i H hi p
  by_cases hlt : i < n
  · exact .inr ⟨w.goes i H hlt q, Pv (i + 1), fun H' p' => ⟨n - (i + 1), by omega, rfl, hlt, p'⟩, fun x H' y => hs i x H H' hlt p (w.yields i H x H' hlt q y)⟩
  · have e : i = n := by omega
    subst e
    exact .inl ⟨w.stops H q, hd H p⟩
end
theorem sum_perm {α : Type} {f : α → Int} {l m : List α} (h : l.Perm m) : (l.map f).sum = (m.map f).sum := by
  induction h with
  | nil => rfl
  | cons x _ ih => rw [List.map_cons, List.map_cons, List.sum_cons, List.sum_cons, ih]
  | swap x y l =>
    simp only [List.map_cons, List.sum_cons]
    omega
  | trans _ _ ih1 ih2 => rw [ih1, ih2]
def spInit (C : Addr) : Sp := fun vs H Q _ => ∃ (a dx d0 : Addr) (l0 : List (Str × V)) (sz : Str → Int), vs = [.ref a, .ref d0] ∧ H a = some (.ins C dx []) ∧ H d0 = some (.dK (dk l0)) ∧ (names l0).Nodup ∧ l0.length ≤ 40 ∧
  (∀ x v, look x l0 = some v → SzV C H v (sz x)) ∧
  ∀ (l : List (Str × V)) H', RA (fun b => b = a ∨ H b = none) C H' a l (l0.length + ((names l0).map sz).sum) → (names l).Perm (names l0) → (∀ x, look x l = look x l0) → Fx a H H' → Q .non H'
section
variable {P : Program} {w : World} {K : PySem.W.Frag} {mg : Str → Option Value} {base : Heap} {C : Addr}
theorem scInit : FnScope ["self", "fields", "names", "name"] ["self", "fields"] (defScope sInit) := ⟨rfl, rfl, rfl, by decide +kernel, rfl, by decide +kernel, by decide +kernel⟩
theorem fn_init (T : Bu mg) (R : RecK K mg C) (c_value_size : Cal P w K mg base 3 "value_size" (spVs C)) {f : Addr} {fd : FuncData} (F : L2.Fun K "__init__" "Record.__init__" sInit f fd) : FnOk P w K mg base CX0 4 f fd ["self", "fields"] (spInit C) := by
  refine F.ok scInit (fun vs H Q E h => ?_) (fun cdv A outer s H vs Q E hr h => ?_)
  · obtain ⟨a, dx, d0, l0, sz, rfl, _⟩ := h
    rfl
  · obtain ⟨a, dx, d0, l0, sz, rfl, ea, ed, nd, hl, hsz, q⟩ := h
    have hu := hu_of hr
    refine ⟨_, (pss_cons (ps_set (i := 2) scInit.nd rfl (Or.inl rfl) (pe_callB cr_sortedS (by rfl) T.b_sorted bo_sorted (pa_cons (pe_lock (pe_lc (own := [("name", 3)]) (g := gName 3) (tt := tYes) rfl scInit.nd (pi_keys (pv 1)) (blkOk_by (own := [("name", 3)]) (N := ["self", "fields", "names", "name"]) (sc := defScope sInit) (by decide +kernel)) (fun _ _ _ _ _ => pg_name (i := 3) scInit.nd rfl (Or.inl rfl)) (fun _ _ _ _ _ => pts_nil) (fun _ _ _ _ _ => (by exact (pe_callTy SkE.call_str_str (by rfl) T.b_str bo_str (pa_cons (pv 3) pa_nil)))))) pa_nil)))
      (pss_cons (ps_fld (pv 0) (pe_callTy call_tuple_of (by rfl) T.b_tuple bo_tuple (pa_cons (pv 2) pa_nil)) rfl)
      (pss_cons (ps_fld (pv 0) (pe_dc (own := [("name", 3)]) (g := gName 3) (tt := tYes) rfl scInit.nd (pi_list (pv 2)) (blkOk_by (own := [("name", 3)]) (N := ["self", "fields", "names", "name"]) (sc := defScope sInit) (by decide +kernel)) (fun _ _ _ _ _ => pg_name (i := 3) scInit.nd rfl (Or.inl rfl)) (fun _ _ _ _ _ => pts_nil) (fun _ _ _ _ _ => (by exact (pv 3))) (fun _ _ _ _ _ => (by exact (pe_dget hu (pv 1) (pv 3) (fun _ _ => rfl))))) rfl)
      (pss_one (ps_fld (pv 0) (pe_op op_add (pe_callB call_len_seq (by rfl) T.b_len PySem.boot_len (pa_cons (pv 2) pa_nil)) (pe_callB (cr_sum rfl) (by rfl) T.b_sum bo_sum (pa_cons (pe_lc (own := [("name", 3)]) (g := gName 3) (tt := tYes) rfl scInit.nd (pi_list (pv 2)) (blkOk_by (own := [("name", 3)]) (N := ["self", "fields", "names", "name"]) (sc := defScope sInit) (by decide +kernel)) (fun _ _ _ _ _ => pg_name (i := 3) scInit.nd rfl (Or.inl rfl)) (fun _ _ _ _ _ => pts_nil) (fun _ _ _ _ _ => (by exact (pe_c c_value_size hr (by decide) rfl (pa_cons (pe_dget hu (pv 1) (pv 3) (fun _ _ => rfl)) pa_nil))))) pa_nil))) rfl))))), ?_⟩
    refine ⟨d0, .dK (dk l0), ed, True.intro, fun od => ⟨_, rfl, d0, od, rfl, .inl ⟨_, upd_same, fun Z hZ => lc_it walk_keys (fun i H5 => H5 Z = some (.lst (((names l0).take i).map V.str)) ∧ Same (upd H d0 (.frz od (.dK (dk l0)))) H5)
      ⟨upd_same, Same.new (Same.refl _) hZ⟩ ?_ ?_ ?_⟩⟩⟩
    · rintro i H5 _ ⟨_, sm⟩
      exact sm _ _ upd_same
    · rintro i x H5 H6 hi ⟨eZ, sm⟩ ⟨rfl, k', v', hk, rfl⟩
      obtain ⟨x, rfl, hx⟩ := dk_at hk
      refine ⟨rfl, iteT (A := _) (B := True) (iteT ⟨_, rfl, x, rfl, _, eZ, line_big (by rw [List.length_map, List.length_take, show (names l0).length = l0.length from List.length_map _]; omega), ?_, ?_⟩)⟩
      · have hn : (names l0)[i]? = some x := by rw [List.getElem?_map, hx]; rfl
        rw [upd_same, List.take_add_one, hn]
        simp
      · intro b o e
        rw [upd_ne (ne_of_none e hZ)]
        exact sm b o e
    · rintro H5 ⟨eZ, sm⟩
      have hn : (names l0).length = l0.length := List.length_map _
      rw [dk_len, ← hn, List.take_length] at eZ
      have ea5 := sm _ _ (upd_same (H := H) (a := d0) (o := .frz od (.dK (dk l0))))
      have aZ : Z ≠ d0 := (ne_of_none upd_same hZ).symm
      refine ⟨ea5, Z, _, rfl, .of (by rw [upd_ne aZ]; exact eZ), by rw [hn]; omega, fun ys W pm so hW => ?_⟩
      have s1 : Same H (upd H5 d0 (.dK (dk l0))) := Same.unlock ed sm
      have s2 : Same H (upd (upd H5 d0 (.dK (dk l0))) W (.lst (ys.map V.str))) := Same.new s1 hW
      have eW : (upd (upd H5 d0 (.dK (dk l0))) W (.lst (ys.map V.str))) W = some (.lst (ys.map V.str)) := upd_same
      generalize upd (upd H5 d0 (.dK (dk l0))) W (.lst (ys.map V.str)) = H1 at s2 eW ⊢
      clear sm s1 ea5 eZ hZ hW
      have hyl : ys.length = l0.length := by rw [pm.length_eq, hn]
      have ydn : ys.Nodup := pm.nodup_iff.mpr nd
      have ea1 := s2 _ _ ea
      have ed1 := s2 _ _ ed
      have da : d0 ≠ a := fun e => by
        rw [e, ea] at ed
        cases ed
      have Wa : W ≠ a := fun e => by
        rw [e, ea1] at eW
        cases eW
      -- self.names
      refine ⟨_, rfl, W, _, rfl, .inl ⟨SqL.of eW, fun tp htp => ?_⟩⟩
      have ta : tp ≠ a := (ne_of_none ea1 htp).symm
      have htp0 : H tp = none := s2.free htp
      have s3 : Same H (upd H1 tp (.tup (ys.map V.str))) := Same.new s2 htp
      have eW3 : (upd H1 tp (.tup (ys.map V.str))) W = some (.lst (ys.map V.str)) := by
        rw [upd_ne (ne_of_none eW htp)]
        exact eW
      have et3 : (upd H1 tp (.tup (ys.map V.str))) tp = some (.tup (ys.map V.str)) := upd_same
      generalize upd H1 tp (.tup (ys.map V.str)) = H2 at s3 eW3 et3 ⊢
      refine ⟨_, rfl, a, C, dx, [], rfl, s3 _ _ ea, R.cl, R.nN, (by show 0 < 1000; decide), ?_⟩
      have x4 : Fx a H (upd H2 a (.ins C dx (putF "names" (.ref tp) []))) := fun b o nb e => by
        rw [upd_ne nb]
        exact s3 b o e
      have ea4 : (upd H2 a (.ins C dx (putF "names" (.ref tp) []))) a = some (.ins C dx (putF "names" (.ref tp) [])) := upd_same
      have eW4 : (upd H2 a (.ins C dx (putF "names" (.ref tp) []))) W = some (.lst (ys.map V.str)) := by
        rw [upd_ne Wa]
        exact eW3
      have et4 : (upd H2 a (.ins C dx (putF "names" (.ref tp) []))) tp = some (.tup (ys.map V.str)) := by
        rw [upd_ne ta]
        exact et3
      generalize upd H2 a (.ins C dx (putF "names" (.ref tp) [])) = H3 at x4 ea4 eW4 et4 ⊢
      clear s3 eW3 et3
      -- self._fields
      have get : ∀ x ∈ ys, ∃ v, look x l0 = some v := fun x hx => look_some (pm.mem_iff.mp hx)
      obtain ⟨l, hlY, hlL⟩ : ∃ l : List (Str × V), names l = ys ∧ ∀ p ∈ l, look p.1 l0 = some p.2 := by
        refine ⟨ys.map fun x => (x, (look x l0).getD .non), by simp [names, Function.comp_def], fun p hp => ?_⟩
        obtain ⟨x, hx, rfl⟩ := List.mem_map.mp hp
        obtain ⟨v, hv⟩ := get x hx
        show look x l0 = some ((look x l0).getD .non)
        rw [hv]
        rfl
      have hll : l.length = ys.length := by rw [← hlY]; simp [names]
      refine ⟨_, rfl, W, rfl, ⟨_, SqL.of eW4⟩, fun d hd => dc_it (walk_list (xs := ys.map V.str)) (fun i H5 => H5 d = some (.dK (dk (l.take i))) ∧ Same H3 H5) ⟨upd_same, Same.new (Same.refl _) hd⟩ (fun i H5 _ h => SqL.of (h.2 _ _ eW4)) ?_ ?_⟩
      · rintro i v H5 H6 hi ⟨eZ, sm⟩ ⟨rfl, hk⟩
        have hi2 : i < l.length := by
          rw [List.length_map] at hi
          omega
        obtain ⟨⟨x, u⟩, hx⟩ : ∃ p, l[i]? = some p := ⟨l[i], List.getElem?_eq_getElem hi2⟩
        have hyx : ys[i]? = some x := by
          rw [← hlY]
          show (l.map (·.1))[i]? = some x
          rw [List.getElem?_map, hx]
          rfl
        have ev : v = V.str x := by
          rw [List.getElem?_map, hyx] at hk
          exact (Option.some.inj hk).symm
        subst ev
        have hv := hlL _ (List.mem_of_getElem? hx)
        have hg : valV (dk l0) (Sum.inr x : Key) = some u := by rw [dk_val]; exact hv
        have ed5 : H6 d0 = some (.dK (dk l0)) := sm _ _ (x4 _ _ da ed)
        have hdg := DGet.k (k := Sum.inr x) ed5
        rw [hg] at hdg
        refine ⟨rfl, iteT (A := _) (B := True) (iteT ⟨_, rfl, _, rfl, _, rfl, d0, u, rfl, hdg, _, Sum.inr x, rfl, eZ, Nat.lt_of_lt_of_le (m := 100) (by rw [dk_len, List.length_take]; omega) (line_big (by decide)), ?_, ?_⟩)⟩
        · have hno : valV (dk (l.take i)) (Sum.inr x : Key) = none := by
            rw [dk_val, look_none]
            intro hm
            have e1 : names (l.take i) = (names l).take i := by simp [names, List.map_take]
            rw [e1, hlY] at hm
            obtain ⟨j, hj, ej⟩ := List.mem_take_iff_getElem.mp hm
            have hi3 : i < ys.length := by omega
            have e2 : ys[i] = x := by
              rw [List.getElem?_eq_getElem hi3] at hyx
              exact Option.some.inj hyx
            have := (List.getElem_inj ydn).mp (ej.trans e2.symm)
            omega
          rw [upd_same, putK_new _ hno, List.take_add_one, hx]
          simp [dk]
        · intro b o e
          rw [upd_ne (ne_of_none e hd)]
          exact sm b o e
      · rintro H5 ⟨eZ, sm⟩
        rw [List.length_map, ← hll, List.take_length] at eZ
        have ad : a ≠ d := ne_of_none ea4 hd
        have hd0 : H d = none := by
          cases e : H d with
          | none => rfl
          | some o =>
            rw [x4 d o ad.symm e] at hd
            cases hd
        have ea5 := sm _ _ ea4
        have et5 := sm _ _ et4
        have eW5 := sm _ _ eW4
        have x5 : Fx a H H5 := fun b o nb e => sm _ _ (x4 b o nb e)
        refine ⟨_, rfl, a, C, dx, _, rfl, ea5, R.cl, R.nF, (by show 1 < 1000; decide), ?_⟩
        have x6 : Fx a H (upd H5 a (.ins C dx (putF "_fields" (.ref d) (putF "names" (.ref tp) [])))) := fun b o nb e => by
          rw [upd_ne nb]
          exact x5 b o nb e
        have ea6 : (upd H5 a (.ins C dx (putF "_fields" (.ref d) (putF "names" (.ref tp) [])))) a = some (.ins C dx (putF "_fields" (.ref d) (putF "names" (.ref tp) []))) := upd_same
        have eW6 : (upd H5 a (.ins C dx (putF "_fields" (.ref d) (putF "names" (.ref tp) [])))) W = some (.lst (ys.map V.str)) := by
          rw [upd_ne Wa]
          exact eW5
        have et6 : (upd H5 a (.ins C dx (putF "_fields" (.ref d) (putF "names" (.ref tp) [])))) tp = some (.tup (ys.map V.str)) := by
          rw [upd_ne ta]
          exact et5
        have ed6 : (upd H5 a (.ins C dx (putF "_fields" (.ref d) (putF "names" (.ref tp) [])))) d = some (.dK (dk l)) := by
          rw [upd_ne ad.symm]
          exact eZ
        generalize upd H5 a (.ins C dx (putF "_fields" (.ref d) (putF "names" (.ref tp) []))) = H6 at x6 ea6 eW6 et6 ed6 ⊢
        -- self._size
        refine ⟨_, rfl, W, _, rfl, .inl (SqL.of eW6), _, rfl, W, rfl, ⟨_, SqL.of eW6⟩, fun Z hZ => lc_it (walk_list (xs := ys.map V.str)) (fun i H7 => H7 Z = some (.lst (((ys.map sz).take i).map V.int)) ∧ Same H6 H7) ⟨upd_same, Same.new (Same.refl _) hZ⟩ (fun i H7 _ h => SqL.of (h.2 _ _ eW6)) ?_ ?_⟩
        · rintro i v H7 H8 hi ⟨eZ7, sm7⟩ ⟨rfl, hk⟩
          have hi2 : i < ys.length := by
            rw [List.length_map] at hi
            exact hi
          obtain ⟨x, hyx⟩ : ∃ p, ys[i]? = some p := ⟨ys[i], List.getElem?_eq_getElem hi2⟩
          have ev : v = V.str x := by
            rw [List.getElem?_map, hyx] at hk
            exact (Option.some.inj hk).symm
          subst ev
          obtain ⟨u, hu2⟩ := get x (List.mem_of_getElem? hyx)
          have ed8 : H8 d0 = some (.dK (dk l0)) := sm7 _ _ (x6 _ _ da ed)
          have hdg := DGet.k (k := Sum.inr x) ed8
          rw [dk_val, hu2] at hdg
          have sv : SzV C H8 u (sz x) := by
            rcases hsz x u hu2 with h | ⟨b, dy, tq, dq, e1, e2⟩
            · exact .inl h
            · refine .inr ⟨b, dy, tq, dq, e1, sm7 _ _ (x6 b _ (fun e => ?_) e2)⟩
              rw [e, ea] at e2
              exact absurd (HO.ins.inj (Option.some.inj e2)).2.2 (by
                intro z
                have := congrArg (fun l => List.lookup ("_size" : Str) l) z
                simp only [rf_size] at this
                cases this)
          refine ⟨rfl, iteT (A := _) (B := True) (iteT ⟨_, rfl, _, rfl, d0, u, rfl, hdg, u, sz x, rfl, sv, _, eZ7, line_big (by rw [List.length_map, List.length_take, List.length_map]; omega), ?_, ?_⟩)⟩
          · rw [upd_same, List.take_add_one, List.getElem?_map, hyx]
            simp
          · intro b o e
            rw [upd_ne (ne_of_none e hZ)]
            exact sm7 b o e
        · rintro H7 ⟨eZ7, sm7⟩
          have hys : (ys.map sz).length = ys.length := List.length_map _
          rw [List.length_map, ← hys, List.take_length] at eZ7
          refine ⟨Z, _, rfl, .of eZ7, _, _, rfl, rfl, _, rfl, a, C, dx, _, rfl, sm7 _ _ ea6, R.cl, R.nS, (by show 2 < 1000; decide), ?_⟩
          have hz : ((ys.map V.str).length : Int) + (ys.map sz).sum = (l0.length : Int) + ((names l0).map sz).sum := by
            rw [List.length_map, hyl, sum_perm pm]
          refine q l _ ⟨⟨dx, tp, d, ⟨.inl rfl, .inr htp0, .inr hd0⟩, ?_, ?_, ?_⟩, by rw [hlY]; exact ydn, by rw [hlY]; exact so⟩ (by rw [hlY]; exact pm) (fun x => ?_) fun b o nb e => ?_
          · rw [upd_same, ← hz]
            rfl
          · rw [upd_ne ta, hlY]
            exact sm7 _ _ et6
          · rw [upd_ne ad.symm]
            exact sm7 _ _ ed6
          · cases e : look x l with
            | some v => exact (hlL _ (look_mem e)).symm
            | none =>
              refine (look_none.mpr fun hm => ?_).symm
              exact look_none.mp e (by rw [hlY]; exact pm.mem_iff.mpr hm)
          · rw [upd_ne nb]
            exact sm7 _ _ (x6 b o nb e)
end
end Lw
namespace Lw
open PySem PySem.Spec PyProof.Rows L2 GrT GrOwn
/-- the dicts of a tree all stand in the heap -/
theorem Tr.ex {S : Addr → Prop} {H : Hp} {L : Nat} : ∀ {n : Nat} {v : V} {t : T}, Tr S H L n v t → Tr (fun b => S b ∧ H b ≠ none) H L n v t
  | 0, _, _, h => h
  | n + 1, v, t, h => by
    rcases h with h | ⟨a, l, fs, e1, e2, es, e3, e4, e5⟩
    · exact .inl h
    · exact .inr ⟨a, l, fs, e1, e2, ⟨es, by rw [e3]; exact fun z => by cases z⟩, e3, e4, e5.imp fun _ _ _ q => Tr.ex q⟩
/-- a field's size by its name -/
def szf (fs : List (Str × T)) (x : Str) : Int := match look x fs with | some u => nf u | none => 0
theorem szf_sum : ∀ {gs fs : List (Str × T)}, (∀ p ∈ gs, look p.1 fs = some p.2) → ((names gs).map (szf fs)).sum + gs.length = nfs gs
  | [], _, _ => rfl
  | (x, t) :: r, fs, h => by
    have e : look x fs = some t := h (x, t) List.mem_cons_self
    have ih := szf_sum (gs := r) (fs := fs) fun p hp => h p (List.mem_cons_of_mem _ hp)
    have e2 : szf fs x = nf t := by
      unfold szf
      rw [e]
    show (szf fs x :: (names r).map (szf fs)).sum + ((r.length + 1 : Nat) : Int) = nfs ((x, t) :: r)
    rw [List.sum_cons, e2, nfs]
    omega
theorem nfs_len {fs : List (Str × T)} (nd : (names fs).Nodup) : (fs.length : Int) + ((names fs).map (szf fs)).sum = nfs fs := by
  have := szf_sum (gs := fs) (fs := fs) fun p hp => mem_look nd hp
  omega
theorem put_new {x : Str} {v : V} : ∀ {l : List (Str × V)}, x ∉ names l → put x v l = l ++ [(x, v)]
  | [], _ => rfl
  | (z, w) :: r, h => by
    have h' : z ≠ x ∧ x ∉ names r := ⟨fun e => h (by rw [← e]; exact List.mem_cons_self), fun e => h (List.mem_cons_of_mem _ e)⟩
    unfold put
    rw [if_neg h'.1, put_new h'.2]
    rfl
theorem Al.snoc {R : V → T → Prop} {l : List (Str × V)} {fs : List (Str × T)} {x : Str} {v : V} {t : T} (h : Al R l fs) (r : R v t) : Al R (l ++ [(x, v)]) (fs ++ [(x, t)]) := by
  induction h with
  | nil => exact .cons ⟨rfl, r⟩ .nil
  | cons a _ ih => exact .cons a ih
theorem Rc.sz {S : Addr → Prop} {C : Addr} {H : Hp} {n : Nat} {v : V} {t : T} (h : Rc S C H n v t) : SzV C H v (nf t) := by
  refine h.cases (fun i e1 e2 => .inl ⟨i, e1, by rw [e2, nf]⟩) fun k a l fs _ e1 e2 ra _ _ _ => ?_
  obtain ⟨⟨dx, tp, d, _, q, _⟩, _, _⟩ := ra
  exact .inr ⟨a, dx, tp, d, e1, by rw [e2, nf]; exact q⟩
def spMake (C : Addr) (n : Nat) : Sp := fun vs H Q _ => ∃ (v : V) (S : Addr → Prop) (fs : List (Str × T)), vs = [v] ∧ Tr S H 40 (n + 1) v (.fds fs) ∧ ∀ v' H', Rc (fun b => H b = none) C H' (n + 1) v' (.fds fs) → Same H H' → Q v' H'
def spMakeR (C : Addr) : Nat → Sp
  | 0 => spNo
  | n + 1 => spMake C n
/-- the static method, as the top has made it -/
structure StK (K : PySem.W.Frag) (C : Addr) : Prop where
  ex : ∃ p g fd, SMet K C (.type "type") "make" p g ∧ L2.Fun K "make" "Record.make" sMake g fd ∧ Binds K fd ["fields"] []
structure SCal (P : Program) (w : World) (K : PySem.W.Frag) (mg : Str → Option Value) (base : Heap) (C : Addr) (k : Nat) (sp : Sp) : Prop where
  ex : ∃ p g fd ps, SMet K C (.type "type") "make" p g ∧ FnOk P w K mg base CX0 k g fd ps sp ∧ Binds K fd ps []
/-- the class is made: its __init__ -/
structure InK (K : PySem.W.Frag) (C : Addr) : Prop where
  ex : ∃ f fd, Mk K C f ∧ L2.Fun K "__init__" "Record.__init__" sInit f fd ∧ Binds K fd ["self", "fields"] []
section
variable {X : Cx} {C : Addr} {k j : Nat} {sp : Sp} {o e : Expr} {es : List Expr} {pos apos : Pos} {ta : TE} {t : TA} {pl : Sem Bool}
theorem pe_smC (he : PE X o ta) (c : SCal X.prog X.w X.K X.mg X.base C k sp) (hr : Room j X.A) (hk : k ≤ j) (ha : PA X (e :: es) t)
    (hst : starEach (e :: es) X.env = (false, eval e X.env) :: starEach es X.env := by rfl) (hpl : (backTo pos (starEach es X.env)).any (·.1) = false := by rfl)
    (ht : eval (.Call (.Attribute o "make" apos) (e :: es) [] pos) X.env = (do
      let ov ← eval o X.env
      standAt apos.atName
      let (f, first) ← holding [ov] (getMethod ov "make" pl)
      callWith pos f first (backTo pos (starEach (e :: es) X.env)) (backToKw pos (keywordEach [] X.env))) := by rfl) :
    PE X (.Call (.Attribute o "make" apos) (e :: es) [] pos) (tSMet C sp E0 ta t) := by
  obtain ⟨p, g, fd, ps, m, F, b⟩ := c.ex
  exact pe_sm he m F (hr.mono hk) b pass0 ha hst hpl ht
theorem pe_new {p : Pos} (T : Bu X.mg) (R : RecK X.K X.mg C) (c_value_size : Cal X.prog X.w X.K X.mg X.base 3 "value_size" (spVs C)) (I : InK X.K C) (hr : Room j X.A) (hk : 5 ≤ j) (hg : Gl X "Record") (ha : PA X (e :: es) t)
    (he : starEach (e :: es) X.env = (false, eval e X.env) :: starEach es X.env := by rfl) (hpl : (backTo pos (starEach es X.env)).any (·.1) = false := by rfl) :
    PE X (.Call (.Name "Record" p) (e :: es) [] pos) (tMake C (spInit C) [] E0 t) := by
  obtain ⟨f, fd, M, F, b⟩ := I.ex
  exact pe_make M (fn_init T R c_value_size F) (hr.mono hk) hg R.mgC b .nil pass0 ha (by decide) he hpl
end
section
variable {P : Program} {w : World} {K : PySem.W.Frag} {mg : Str → Option Value} {base : Heap} {C : Addr}
theorem scMake : FnScope ["fields", "made", "name", "value"] ["fields"] (defScope sMake) := ⟨rfl, rfl, rfl, by decide +kernel, rfl, by decide +kernel, by decide +kernel⟩
theorem s_no {k : Nat} (D : StK K C) : SCal P w K mg base C (k + 1) spNo := by
  obtain ⟨p, g, fd, m, F, b⟩ := D.ex
  exact ⟨p, g, fd, _, m, F.ok scMake (fun _ _ _ _ h => h.elim) (fun _ _ _ _ _ _ _ _ _ h => h.elim), b⟩
theorem fn_make_step (T : Bu mg) (R : RecK K mg C) {pD g : Addr} {fd : FuncData} (mD : SMet K C (.type "type") "make" pD g) (F : L2.Fun K "make" "Record.make" sMake g fd) (bD : Binds K fd ["fields"] []) (I : InK K C) (c_value_size : Cal P w K mg base 3 "value_size" (spVs C)) (c_is_name : Cal P w K mg base 1 "is_name" spIsName) (n : Nat)
    (c_make : SCal P w K mg base C (n + 5) (spMakeR C n)) : FnOk P w K mg base CX0 (n + 6) g fd ["fields"] (spMake C n) := by
  refine F.ok scMake (fun vs H Q E h => ?_) (fun cdv A outer s H vs Q E hr h => ?_)
  · obtain ⟨v, S, fs, rfl, _⟩ := h
    rfl
  · obtain ⟨v, S, fs, rfl, tr, q⟩ := h
    have hu := hu_of hr
    refine ⟨_, (pss_cons (ps_set (i := 1) scMake.nd rfl (Or.inl rfl) pe_dnewK)
      (pss_cons (ps_lock (ps_for PassesOwn.never rfl (pi_items (pv 0)) (pg_tup rfl (pgs_cons (pg_name (i := 2) scMake.nd rfl (Or.inl rfl)) (pgs_cons (pg_name (i := 3) scMake.nd rfl (Or.inl rfl)) pgs_nil)))
      (pss_cons (ps_if (pt_not (pt_val (pe_c c_is_name hr (by omega) rfl (pa_cons (pv 2) pa_nil)))) (pss_one ps_no) pss_nil)
      (pss_one (ps_dput hu (pv 1) (pv 2) (pe_ifExp (pt_val (pe_callB call_isi (by rfl) T.b_isinstance bo_isinstance (pa_cons (pv 3) (pa_cons (pe_bltn (by rfl) T.b_dict bo_dict (v := .ty "dict") rfl) pa_nil)))) (pe_smC (pe_glob (by rfl) R.mgC (v := .ref C) rfl) c_make hr (by omega) (pa_cons (pv 3) pa_nil)) (pv 3)) rfl)))))
      (pss_one (ps_ret (pe_new T R c_value_size I hr (by omega) (by rfl) (pa_cons (pv 1) pa_nil)))))), ?_⟩
    refine tr.cases (fun i e1 e2 => by cases e2) (fun k a l fs' en e1 e2 sa ea wf al => ?_)
    cases en
    cases e2
    subst e1
    intro M hM
    have aM : a ≠ M := ne_of_none ea hM
    have s1 : Same H (upd H M (.dK [])) := Same.new (Same.refl _) hM
    have ea1 := s1 _ _ ea
    have eM1 : (upd H M (.dK [])) M = some (.dK (dk [])) := upd_same
    have al0 : Al (Tr (fun b => S b ∧ H b ≠ none) H 40 n) l fs := al.imp fun _ _ _ z => Tr.ex z
    have al1 : Al (Tr (fun b => (S b ∧ H b ≠ none)) (upd H M (.dK [])) 40 n) l fs := al0.imp fun _ _ _ z => Tr.same z s1
    have sa1 : (fun b => S b ∧ H b ≠ none) a := ⟨sa, by rw [ea]; exact fun z => by cases z⟩
    refine ⟨a, .dK (dk l), ea1, True.intro, fun od => ?_⟩
    have alB := al_away sa1 ea1 wf al1 (.frz od (.dK (dk l)))
    have eMB : (upd (upd H M (.dK [])) a (.frz od (.dK (dk l)))) M = some (.dK (dk [])) := by
      rw [upd_ne aM.symm]
      exact eM1
    have eaB : (upd (upd H M (.dK [])) a (.frz od (.dK (dk l)))) a = some (.frz od (.dK (dk l))) := upd_same
    have sB : ∀ b o, H b = some o → b ≠ a → (upd (upd H M (.dK [])) a (.frz od (.dK (dk l)))) b = some o := fun b o e nb => by
      rw [upd_ne nb]
      exact s1 b o e
    generalize upd (upd H M (.dK [])) a (.frz od (.dK (dk l))) = B at alB eMB eaB sB ⊢
    have hfl : fs.length ≤ 40 := wf.ln
    refine ⟨_, rfl, a, od, dk l, rfl, eaB, for_it walk_items (fun i σ H' => ∃ (nv vv : Option V) (lm : List (Str × V)), σ = [some (.ref a), some (.ref M), nv, vv] ∧ H' M = some (.dK (dk lm)) ∧ Al (Rc (fun b => H b = none ∧ b ≠ M) C H' n) lm (fs.take i) ∧ Fx M B H')
      ⟨none, none, [], rfl, eMB, .nil, Fx.refl⟩ ?_ ?_ ?_⟩
    · rintro i σ H' _ ⟨nv, vv, lm, _, _, _, x3⟩
      exact x3 _ _ aM eaB
    · rintro i x σ H' H2 hi ⟨nv, vv, lm, rfl, eM, ar, x3⟩ ⟨Tp, x1, y1, rfl, hT, rfl, hx1, hy1⟩
      have hi2 : i < l.length := by
        rw [dk_len] at hi
        exact hi
      obtain ⟨⟨x, v⟩, hx⟩ : ∃ p, l[i]? = some p := ⟨l[i], List.getElem?_eq_getElem hi2⟩
      have hd : (dk l)[i]? = some (Sum.inr x, v) := by
        unfold dk
        rw [List.getElem?_map, hx]
        rfl
      have hx2 : ((dk l)[i]?).map (fun kv => kV kv.1) = some x1 := hx1
      have hy2 : ((dk l)[i]?).map Prod.snd = some y1 := hy1
      rw [hd] at hx2 hy2
      cases hx2
      cases hy2
      obtain ⟨u, hu2, ru⟩ := Lw.Al.at alB hx
      have eT : (upd H' Tp (.tup [kV (Sum.inr x), v])) Tp = some (.tup [kV (Sum.inr x), v]) := upd_same
      have x4 : Fx M B (upd H' Tp (.tup [kV (Sum.inr x), v])) := x3.new hT
      have eM4 : (upd H' Tp (.tup [kV (Sum.inr x), v])) M = some (.dK (dk lm)) := by
        rw [upd_ne (ne_of_none eM hT)]
        exact eM
      have ar4 : Al (Rc (fun b => H b = none ∧ b ≠ M) C (upd H' Tp (.tup [kV (Sum.inr x), v])) n) lm (fs.take i) := ar.imp fun _ _ _ z => z.same (Same.new (Same.refl _) hT)
      generalize upd H' Tp (.tup [kV (Sum.inr x), v]) = H4 at eT x4 eM4 ar4 ⊢
      have gx : Good x := wf.gd (x, u) (List.mem_of_getElem? hu2)
      refine ⟨Tp, _, rfl, SqT.of eT, rfl, _, _, rfl, _, _, rfl, rfl, ?_⟩
      refine ⟨_, rfl, x, rfl, gx, fun H5 s5 => ⟨_, rfl, iteF ?_⟩⟩
      have x5 : Fx M B H5 := fun b o nb e => s5 _ _ (x4 b o nb e)
      have eM5 := s5 _ _ eM4
      have ar5 : Al (Rc (fun b => H b = none ∧ b ≠ M) C H5 n) lm (fs.take i) := ar4.imp fun _ _ _ z => z.same s5
      have ru5 : Tr (fun b => S b ∧ H b ≠ none) H5 40 n v u := ru.keep fun b kvs sb e => x5 b _ (fun z => sb.2 (by rw [z]; exact hM)) e
      have hno : x ∉ names lm := by
        rw [ar5.names]
        intro hm
        have e1 : names (fs.take i) = (names fs).take i := by simp [names, List.map_take]
        rw [e1] at hm
        obtain ⟨j, hj, ej⟩ := List.mem_take_iff_getElem.mp hm
        have e2 : (names fs)[i]? = some x := by rw [List.getElem?_map, hu2]; rfl
        have hi3 : i < (names fs).length := (List.getElem?_eq_some_iff.mp e2).1
        have e3 : (names fs)[i] = x := (List.getElem?_eq_some_iff.mp e2).2
        have := (List.getElem_inj wf.nd).mp (ej.trans e3.symm)
        omega
      have ndm : (names lm).Nodup := by
        rw [ar5.names]
        have e1 : names (fs.take i) = (names fs).take i := by simp [names, List.map_take]
        rw [e1]
        exact List.Nodup.sublist (List.take_sublist _ _) wf.nd
      have hml : (dk lm).length < sizeLine := by
        rw [dk_len, ar5.len, List.length_take]
        exact Nat.lt_of_lt_of_le (by omega : min i fs.length < 100) (line_big (by decide))
      have fin : ∀ (v' : V) (H6 : Hp), Rc (fun b => H b = none ∧ b ≠ M) C H6 n v' u → Same H5 H6 → ∃ H7, DPut H6 M (.str x) v' H7 ∧ ∃ lm', H7 M = some (.dK (dk lm')) ∧ Al (Rc (fun b => H b = none ∧ b ≠ M) C H7 n) lm' (fs.take (i + 1)) ∧ Fx M B H7 := by
        intro v' H6 r6 s6
        have eM6 := s6 _ _ eM5
        refine ⟨_, DPut.k (k := Sum.inr x) eM6 hml, lm ++ [(x, v')], ?_, ?_, fun b o nb e => by rw [upd_ne nb]; exact s6 _ _ (x5 b o nb e)⟩
        · rw [upd_same, dk_put x v' lm ndm, put_new hno]
        · rw [List.take_add_one, hu2]
          exact Al.snoc (ar5.imp fun _ _ _ z => (z.same s6).keep fun b o sb e _ => by rw [upd_ne sb.2]; exact e) (r6.keep fun b o sb e _ => by rw [upd_ne sb.2]; exact e)
      refine ru5.cases (fun j e1 e2 => ?_) (fun k ca cl cfs en e1 e2 cs ce cw cal => ?_)
      · subst e1 e2
        obtain ⟨H7, dp, lm', g1, g2, g3⟩ := fin (.int j) H5 (Rc.int j) (Same.refl _)
        exact ⟨_, rfl, _, _, _, _, _, rfl, .ty _, .base (.int j), rfl, _, rfl, iteF ⟨_, rfl, _, rfl, _, rfl, M, H7, rfl, dp, _, _, lm', rfl, g1, g2, g3⟩⟩
      · subst en e1 e2
        refine ⟨_, rfl, _, _, _, _, _, rfl, .ty _, .base (.dK ce), rfl, _, rfl, iteT ⟨rfl, _, rfl, .ref ca, _, cfs, rfl, ru5, fun v' H6 r6 s6 => ?_⟩⟩
        obtain ⟨H7, dp, lm', g1, g2, g3⟩ := fin v' H6 (r6.wid fun b hb => by
          refine ⟨?_, fun z => by rw [z, eM5] at hb; cases hb⟩
          cases e : H b with
          | none => rfl
          | some o =>
            by_cases q : b = a
            · have h2 := x5 _ _ aM eaB
              rw [q, h2] at hb
              cases hb
            · have h2 := x5 b o (fun z => by rw [z, hM] at e; cases e) (sB b o e q)
              rw [h2] at hb
              cases hb) s6
        exact ⟨_, rfl, _, rfl, M, H7, rfl, dp, _, _, lm', rfl, g1, g2, g3⟩
    · rintro σ H' ⟨nv, vv, lm, rfl, eM, ar, x3⟩
      have ell : (dk l).length = fs.length := by rw [dk_len, al.len]
      rw [ell, List.take_length] at ar
      have eaL : H' a = some (.frz od (.dK (dk l))) := x3 _ _ aM eaB
      refine ⟨eaL, ?_⟩
      have sU : Same H (upd H' a (.dK (dk l))) := fun b o e => by
        by_cases z : b = a
        · rw [z, upd_same, ← ea, ← z, e]
        · rw [upd_ne z]
          exact x3 b o (fun y => by rw [y, hM] at e; cases e) (sB b o e z)
      have arU : Al (Rc (fun b => H b = none ∧ b ≠ M) C (upd H' a (.dK (dk l))) n) lm fs := ar.imp fun _ _ _ z => z.keep fun b o sb e _ => by
        rw [upd_ne (fun y => by rw [y, ea] at sb; cases sb.1)]
        exact e
      have eMU : (upd H' a (.dK (dk l))) M = some (.dK (dk lm)) := by
        rw [upd_ne aM.symm]
        exact eM
      generalize upd H' a (.dK (dk l)) = HU at sU arU eMU ⊢
      have hnm : names lm = names fs := arU.names
      refine ⟨_, rfl, fun x dx hx hdx hne => ?_⟩
      have eX : (upd (upd HU dx (.own x)) x (.ins C dx [])) x = some (.ins C dx []) := upd_same
      have sX : Same HU (upd (upd HU dx (.own x)) x (.ins C dx [])) := Same.new (Same.new (Same.refl _) hdx) (by rw [upd_ne hne.symm]; exact hx)
      have nX : ∀ b, (upd (upd HU dx (.own x)) x (.ins C dx [])) b = none → HU b = none := fun b h => sX.free h
      generalize upd (upd HU dx (.own x)) x (.ins C dx []) = HX at eX sX nX ⊢
      have arX : Al (Rc (fun b => H b = none ∧ b ≠ M) C HX n) lm fs := arU.imp fun _ _ _ z => z.same sX
      refine ⟨x, dx, M, lm, szf fs, rfl, eX, sX _ _ eMU, by rw [hnm]; exact wf.nd, by rw [arX.len]; exact hfl, fun y v hv => ?_, fun l' H'' ra pm lk fx => ?_⟩
      · obtain ⟨u, hu2, ru⟩ := arX.get' hv
        have := Rc.sz ru
        unfold szf
        rw [hu2]
        exact this
      · refine ⟨rfl, q _ _ (.inr ⟨x, l', fs, rfl, rfl, ?_, wf, by rw [← hnm]; exact pm, fun y v u h1 h2 => ?_⟩) fun b o e => ?_⟩
        · have ez : (lm.length : Int) + ((names lm).map (szf fs)).sum = nfs fs := by
            rw [hnm, arX.len]
            exact nfs_len wf.nd
          rw [ez] at ra
          refine ra.wid fun b hb => ?_
          rcases hb with e | e
          · rw [e]
            exact sU.free hx
          · exact sU.free (nX b e)
        · rw [lk] at h1
          obtain ⟨u', h3, r3⟩ := arU.get' h1
          have e : u' = u := Option.some.inj (h3.symm.trans h2)
          subst e
          exact (r3.keep fun b o sb e _ => fx b o (fun z => by rw [z, hx] at e; cases e) (sX _ _ e)).wid fun b hb => hb.1
        · exact fx b o (fun z => by rw [z, sU.free hx] at e; cases e) (sX _ _ (sU _ _ e))
theorem s_make_step (T : Bu mg) (R : RecK K mg C) (D : StK K C) (I : InK K C) (c_value_size : Cal P w K mg base 3 "value_size" (spVs C)) (c_is_name : Cal P w K mg base 1 "is_name" spIsName) (n : Nat)
    (c_make : SCal P w K mg base C (n + 5) (spMakeR C n)) : SCal P w K mg base C (n + 6) (spMake C n) := by
  obtain ⟨pD, g, fd, mD, F, bD⟩ := D.ex
  exact ⟨pD, g, fd, _, mD, fn_make_step T R mD F bD I c_value_size c_is_name n c_make, bD⟩
theorem fn_make {pD g : Addr} {fd : FuncData} (T : Bu mg) (R : RecK K mg C) (mD : SMet K C (.type "type") "make" pD g) (F : L2.Fun K "make" "Record.make" sMake g fd) (bD : Binds K fd ["fields"] []) (I : InK K C) (c_value_size : Cal P w K mg base 3 "value_size" (spVs C)) (c_is_name : Cal P w K mg base 1 "is_name" spIsName) : ∀ n, FnOk P w K mg base CX0 (n + 6) g fd ["fields"] (spMake C n)
  | 0 => fn_make_step T R mD F bD I c_value_size c_is_name 0 (s_no ⟨pD, g, fd, mD, F, bD⟩)
  | n + 1 => fn_make_step T R mD F bD I c_value_size c_is_name (n + 1) ⟨pD, g, fd, _, mD, fn_make T R mD F bD I c_value_size c_is_name n, bD⟩
end
end Lw
namespace Lw
open PySem PySem.Spec PyProof.Rows L2 GrT GrOwn
theorem op_or {X : Cx} {op : Value → Value → Sem Value} {r1 r2 : R2} (h1 : OpR X op r1) (h2 : OpR X op r2) : OpR X op (fun x y H Q => r1 x y H Q ∨ r2 x y H Q) := by
  intro pins s σ H x y v u Q I rx ry h
  rcases h with h | h
  · exact h1 pins s σ H x y v u Q I rx ry h
  · exact h2 pins s σ H x y v u Q I rx ry h
theorem dint {i j : Int} : decide (V.int i = V.int j) = decide (i = j) := by simp
section
variable {P : Program} {w : World} {K : PySem.W.Frag} {mg : Str → Option Value} {base : Heap} {C : Addr}
theorem s_make (T : Bu mg) (R : RecK K mg C) (D : StK K C) (I : InK K C) (c_value_size : Cal P w K mg base 3 "value_size" (spVs C)) (c_is_name : Cal P w K mg base 1 "is_name" spIsName) : ∀ n, SCal P w K mg base C (n + 6) (spMake C n)
  | 0 => s_make_step T R D I c_value_size c_is_name 0 (s_no D)
  | n + 1 => s_make_step T R D I c_value_size c_is_name (n + 1) (s_make T R D I c_value_size c_is_name n)
theorem c_fields (T : Bt mg) (D : Dfn K mg "_law_fields" sFields ["tape", "names", "depth"]) (ct : Cal P w K mg base 1 "_law_take" spTake) (cn : Cal P w K mg base 2 "_law_number" spNumber) : ∀ n, Cal P w K mg base (n + 4) "_law_fields" (spFields n)
  | 0 => c_fields_step T D ct cn 0 (c_no D scFields)
  | n + 1 => c_fields_step T D ct cn (n + 1) (c_fields T D ct cn n)
theorem c_count (T : Bu mg) (D : Dfn K mg "_law_count" sCount ["value"]) : ∀ n, Cal P w K mg base (n + 2) "_law_count" (spCount n)
  | 0 => c_count_step T D 0 (c_no D scCount)
  | n + 1 => c_count_step T D (n + 1) (c_count T D n)
end
end Lw
namespace GrT
open PySem L2
/-- alike up to the order of the fields -/
def Sm : Nat → T → T → Prop
  | 0, t, u => ∃ i, t = .int i ∧ u = .int i
  | n + 1, t, u => (∃ i, t = .int i ∧ u = .int i) ∨ ∃ fs gs, t = .fds fs ∧ u = .fds gs ∧ (names fs).Nodup ∧ (names fs).Perm (names gs) ∧ ∀ x v w, look x fs = some v → look x gs = some w → Sm n v w
end GrT
namespace Lw
open PySem PySem.Spec PyProof.Rows L2 GrT GrOwn
theorem Sm.nf : ∀ {n : Nat} {t u : T}, Sm n t u → GrT.nf t = GrT.nf u
  | 0, _, _, ⟨i, e1, e2⟩ => by rw [e1, e2]
  | n + 1, t, u, h => by
    rcases h with ⟨i, e1, e2⟩ | ⟨fs, gs, e1, e2, nd, pm, ch⟩
    · rw [e1, e2]
    · rw [e1, e2, GrT.nf, GrT.nf]
      have nd2 : (names gs).Nodup := pm.nodup_iff.mp nd
      rw [← nfs_len nd, ← nfs_len nd2]
      have hl : fs.length = gs.length := by
        have := pm.length_eq
        rwa [List.length_map, List.length_map] at this
      have hs : ((names fs).map (szf fs)).sum = ((names fs).map (szf gs)).sum := by
        congr 1
        refine List.map_congr_left fun x hx => ?_
        obtain ⟨v, hv⟩ := look_some hx
        obtain ⟨w, hw⟩ := look_some (pm.mem_iff.mp hx)
        unfold szf
        rw [hv, hw]
        exact Sm.nf (ch x v w hv hw)
      rw [hs, sum_perm pm, hl]
theorem Rc.sim {S : Addr → Prop} {C : Addr} {H : Hp} : ∀ {n : Nat} {v : V} {t u : T}, Rc S C H n v t → Sm n t u → Rc S C H n v u
  | 0, v, t, u, ⟨i, e1, e2⟩, ⟨j, f1, f2⟩ => by
    rw [e2] at f1
    cases f1
    exact ⟨i, e1, f2⟩
  | n + 1, v, t, u, h, g => by
    rcases h with ⟨i, e1, e2⟩ | ⟨a, l, fs, e1, e2, ra, wf, pm, ch⟩
    · rcases g with ⟨j, f1, f2⟩ | ⟨_, _, f1, _⟩
      · rw [e2] at f1
        cases f1
        exact .inl ⟨i, e1, f2⟩
      · rw [e2] at f1
        cases f1
    · have hn := Sm.nf g
      rcases g with ⟨j, f1, f2⟩ | ⟨fs', gs, f1, f2, nd, pg, cg⟩
      · rw [e2] at f1
        cases f1
      · rw [e2] at f1
        cases f1
        rw [e2, f2, GrT.nf, GrT.nf] at hn
        rw [hn] at ra
        have hl : fs.length = gs.length := by
          have := pg.length_eq
          rwa [List.length_map, List.length_map] at this
        refine .inr ⟨a, l, gs, e1, f2, ra, ⟨pg.nodup_iff.mp nd, by rw [← hl]; exact wf.ln, fun p hp => ?_⟩, pm.trans pg, fun x v w h1 h2 => ?_⟩
        · obtain ⟨q, hq, e⟩ := List.mem_map.mp (pg.mem_iff.mpr (List.mem_map.mpr ⟨p, hp, rfl⟩))
          rw [← e]
          exact wf.gd q hq
        · obtain ⟨u', hu⟩ := look_some (pg.mem_iff.mpr (List.mem_map.mpr ⟨_, look_mem h2, rfl⟩))
          exact (ch x v u' h1 hu).sim (cg x u' w hu h2)
theorem put_any {α : Type} {x : Str} {v : α} : ∀ {l : List (Str × α)}, x ∉ names l → GrT.put x v l = l ++ [(x, v)]
  | [], _ => rfl
  | (y, u) :: r, h => by
    rw [GrT.put, if_neg (fun z => h (by rw [← z]; exact List.mem_cons_self)), put_any fun z => h (List.mem_cons_of_mem _ z)]
    rfl
theorem look_snoc {α : Type} {x z : Str} {v : α} {l : List (Str × α)} (h : x ∉ names l) : look z (l ++ [(x, v)]) = if z = x then some v else look z l := by
  rw [← put_any h, look_put]
def spTurned (L n : Nat) : Sp := fun vs H Q _ => ∃ (v : V) (S : Addr → Prop) (t : T), vs = [v] ∧ Tr S H L n v t ∧ ∀ v' t' H', Tr (fun b => H b = none) H' L n v' t' → Sm n t' t → Same H H' → Q v' H'
def spTurnedR (L : Nat) : Nat → Sp
  | 0 => spNo
  | n + 1 => spTurned L n
section
variable {P : Program} {w : World} {K : PySem.W.Frag} {mg : Str → Option Value} {base : Heap} {C : Addr}
theorem Sm.int {n : Nat} (i : Int) : Sm n (.int i) (.int i) := by
  cases n with
  | zero => exact ⟨i, rfl, rfl⟩
  | succ n => exact .inl ⟨i, rfl, rfl⟩
abbrev sTurn : Stmt := top 23
theorem scTurn : FnScope ["value", "fields", "name"] ["value"] (defScope sTurn) := ⟨rfl, rfl, rfl, by decide +kernel, rfl, by decide +kernel, by decide +kernel⟩
theorem c_turned_step (T : Bu mg) (br : mg "reversed" = none) (D : Dfn K mg "_law_turned" sTurn ["value"]) {L : Nat} (hL : L ≤ 40) (n : Nat) (c_law_turned : Cal P w K mg base (n + 1) "_law_turned" (spTurnedR L n)) : Cal P w K mg base (n + 2) "_law_turned" (spTurned L n) := by
  refine D.cal scTurn (fun vs H Q E h => ?_) (fun f cdv A outer s H vs Q E hr h => ?_)
  · obtain ⟨v, S, t, rfl, _⟩ := h
    rfl
  · obtain ⟨v, S, t, rfl, tr, q⟩ := h
    have hu := hu_of hr
    refine ⟨_, (pss_cons (ps_if (pt_not (pt_val (pe_callB call_isi (by rfl) T.b_isinstance bo_isinstance (pa_cons (pv 0) (pa_cons (pe_bltn (by rfl) T.b_dict bo_dict (v := .ty "dict") rfl) pa_nil)))))
      (pss_one (ps_ret (pv 0)))
      pss_nil)
      (pss_cons (ps_set (i := 1) scTurn.nd rfl (Or.inl rfl) pe_dnewK)
      (pss_cons (ps_for PassesOwn.never rfl (pi_reversed (by rfl) br (pa_cons (pe_callTy (call_listD rfl) (by rfl) T.b_list bo_list (pa_cons (pv 0) pa_nil)) pa_nil)) (pg_name (i := 2) scTurn.nd rfl (Or.inl rfl))
      (pss_one (ps_dput hu (pv 1) (pv 2) (pe_c c_law_turned hr (by omega) rfl (pa_cons (pe_dget hu (pv 0) (pv 2) (fun _ _ => rfl)) pa_nil)) rfl)))
      (pss_one (ps_ret (pv 1)))))), ?_⟩
    refine tr.cases (fun i e1 e2 => ?_) (fun k a l fs en e1 e2 sa ea wf al => ?_)
    · subst e1 e2
      exact ⟨_, rfl, _, _, _, _, _, rfl, .ty _, .base (.int i), rfl, _, rfl, iteT ⟨_, rfl, q _ _ H (Tr.int i) (Sm.int i) (Same.refl _)⟩⟩
    · subst en e1 e2
      refine ⟨_, rfl, _, _, _, _, _, rfl, .ty _, .base (.dK ea), rfl, _, rfl, iteF ?_⟩
      intro D hD
      have s0 : Same H (upd H D (.dK [])) := Same.new (Same.refl _) hD
      have eD0 : (upd H D (.dK [])) D = some (.dK (dk [])) := upd_same
      generalize upd H D (.dK []) = H0 at s0 eD0 ⊢
      refine ⟨_, rfl, a, dk l, rfl, .inl (s0 _ _ ea), fun W hW => ?_⟩
      have kn : (dk l).map (fun kv => kV kv.1) = (names l).map V.str := by
        unfold dk names
        rw [List.map_map, List.map_map]
        rfl
      rw [kn]
      have s1 : Same H (upd H0 W (.lst ((names l).map V.str))) := Same.new s0 hW
      have eW : (upd H0 W (.lst ((names l).map V.str))) W = some (.lst ((names l).map V.str)) := upd_same
      have eD1 : (upd H0 W (.lst ((names l).map V.str))) D = some (.dK (dk [])) := by
        rw [upd_ne (ne_of_none eD0 hW)]
        exact eD0
      have WD : W ≠ D := (ne_of_none eD0 hW).symm
      generalize upd H0 W (.lst ((names l).map V.str)) = H1 at s1 eW eD1 ⊢
      have hfl : fs.length ≤ L := wf.ln
      have nll : (names l).length = fs.length := by rw [al.names, List.length_map]
      have rl : (names fs).reverse.length = fs.length := by rw [List.length_reverse, List.length_map]
      refine ⟨W, _, rfl, SqL.of eW, for_it (walk_rev (xs := (names l).map V.str)) (fun i σ H' => ∃ (nv : Option V) (lm : List (Str × V)) (fm : List (Str × GrT.T)), σ = [some (.ref a), some (.ref D), nv] ∧ H' D = some (.dK (dk lm)) ∧ H' W = some (.lst ((names l).map V.str)) ∧
          Al (Tr (fun b => H b = none ∧ b ≠ D) H' L k) lm fm ∧ names fm = (names fs).reverse.take i ∧ (∀ x v w, look x fm = some v → look x fs = some w → Sm k v w) ∧ Same H H')
        ⟨none, [], [], rfl, eD1, eW, .nil, rfl, (fun x v w h => by cases h), s1⟩ (fun i σ H' _ h => ?_) ?_ ?_⟩
      · obtain ⟨nv, lm, fm, _, _, h, _⟩ := h
        exact SqL.of h
      · rintro i y σ H' H2 hi ⟨nv, lm, fm, rfl, eD, eW', ar, nm, sm, sH⟩ ⟨rfl, hy⟩
        rw [List.length_map, nll] at hi hy
        obtain ⟨x, hx, rfl⟩ : ∃ x, (names l)[fs.length - 1 - i]? = some x ∧ y = V.str x := by
          rw [List.getElem?_map] at hy
          cases e : (names l)[fs.length - 1 - i]? with
          | none =>
            rw [e] at hy
            cases hy
          | some x =>
            rw [e] at hy
            exact ⟨x, rfl, (Option.some.inj hy).symm⟩
        rw [al.names] at hx
        have hrx : (names fs).reverse[i]? = some x := by
          rw [List.getElem?_reverse (by rw [List.length_map]; exact hi), List.length_map]
          exact hx
        have hxm : x ∈ names fs := List.mem_of_getElem? hx
        obtain ⟨u, hu2⟩ := look_some hxm
        obtain ⟨v', hv', rv⟩ := al.get hu2
        have gx : Good x := wf.gd (x, u) (look_mem hu2)
        have hg := DGet.k (k := Sum.inr x) (sH _ _ ea)
        rw [dk_val, hv'] at hg
        refine ⟨_, rfl, _, rfl, a, v', rfl, hg, v', S, u, rfl, Tr.same rv sH, fun w' t' H5 r5 m5 s5 => ?_⟩
        have r6 : Tr (fun b => H b = none ∧ b ≠ D) H5 L k w' t' := r5.wid fun b hb => ⟨sH.free hb, fun z => by rw [z, eD] at hb; cases hb⟩
        have eD5 := s5 _ _ eD
        have ar5 : Al (Tr (fun b => H b = none ∧ b ≠ D) H5 L k) lm fm := ar.imp fun _ _ _ z => Tr.same z s5
        have hno : x ∉ names fm := fun hm => by
          rw [nm] at hm
          obtain ⟨j, hj, ej⟩ := List.mem_take_iff_getElem.mp hm
          have hi3 : i < (names fs).reverse.length := (List.getElem?_eq_some_iff.mp hrx).1
          have e3 : (names fs).reverse[i] = x := (List.getElem?_eq_some_iff.mp hrx).2
          have ndr : (names fs).reverse.Nodup := (List.reverse_perm _).nodup_iff.mpr wf.nd
          have := (List.getElem_inj ndr).mp (ej.trans e3.symm)
          omega
        have hnl : x ∉ names lm := by
          rw [ar5.names]
          exact hno
        have ndm : (names lm).Nodup := by
          rw [ar5.names, nm]
          exact ((List.reverse_perm _).nodup_iff.mpr wf.nd).sublist (List.take_sublist _ _)
        have hml : (dk lm).length < sizeLine := by
          have h1 : fm.length ≤ L := by
            have z := congrArg List.length nm
            rw [List.length_map, List.length_take, rl] at z
            omega
          rw [dk_len, ar5.len]
          exact Nat.lt_of_lt_of_le (by omega : fm.length < 100) (line_big (by decide))
        refine ⟨_, rfl, _, rfl, D, _, rfl, DPut.k (k := Sum.inr x) eD5 hml, _, lm ++ [(x, w')], fm ++ [(x, t')], rfl, ?_, ?_, ?_, ?_, ?_, ?_⟩
        · rw [upd_same, dk_put x w' lm ndm, put_new hnl]
        · rw [upd_ne WD]
          exact s5 _ _ eW'
        · exact Al.snoc (ar5.imp fun _ _ _ z => z.keep fun b kvs sb e => by rw [upd_ne sb.2]; exact e) (r6.keep fun b kvs sb e => by rw [upd_ne sb.2]; exact e)
        · rw [List.take_add_one, hrx, ← nm]
          simp [names]
        · intro z v w h1 h2
          by_cases ez : z = x
          · rw [ez] at h1 h2
            rw [hu2] at h2
            cases h2
            have e0 : look x (fm ++ [(x, t')]) = some t' := by rw [look_snoc hno, if_pos rfl]
            rw [e0] at h1
            cases h1
            exact m5
          · rw [look_snoc hno, if_neg ez] at h1
            exact sm z v w h1 h2
        · intro b o e
          rw [upd_ne (ne_of_none e hD)]
          exact s5 _ _ (sH b o e)
      · rintro σ H' ⟨nv, lm, fm, rfl, eD, eW', ar, nm, sm, sH⟩
        rw [List.length_map, nll, ← rl, List.take_length] at nm
        have hfm : fm.length = fs.length := by
          have z := congrArg List.length nm
          rwa [List.length_map, rl] at z
        have ndf : (names fm).Nodup := by
          rw [nm]
          exact (List.reverse_perm _).nodup_iff.mpr wf.nd
        refine ⟨_, rfl, q _ (.fds fm) H' (.inr ⟨D, lm, fm, rfl, rfl, hD, eD, ⟨ndf, by omega, fun p hp => ?_⟩, ar.imp fun _ _ _ z => z.wid fun b h => h.1⟩) (.inr ⟨fm, fs, rfl, rfl, ndf, by rw [nm]; exact List.reverse_perm _, sm⟩) sH⟩
        have h1 : p.1 ∈ names fs := List.mem_reverse.mp (by rw [← nm]; exact List.mem_map.mpr ⟨p, hp, rfl⟩)
        obtain ⟨q2, hq, e⟩ := List.mem_map.mp h1
        rw [← e]
        exact wf.gd q2 hq
theorem c_turned (T : Bu mg) (br : mg "reversed" = none) (D : Dfn K mg "_law_turned" sTurn ["value"]) {L : Nat} (hL : L ≤ 40) : ∀ n, Cal P w K mg base (n + 2) "_law_turned" (spTurned L n)
  | 0 => c_turned_step T br D hL 0 (c_no D scTurn)
  | n + 1 => c_turned_step T br D hL (n + 1) (c_turned T br D hL n)
end
end Lw
namespace Lw
open PySem PySem.Spec PyProof.Rows L2 GrT GrOwn
theorem SzV.one {C : Addr} {H : Hp} {v : V} {z y : Int} (h : SzV C H v z) (g : SzV C H v y) : z = y := by
  rcases h with ⟨i, e, e1⟩ | ⟨a, dx, tp, d, e, e1⟩
  · rcases g with ⟨j, f, f1⟩ | ⟨b, dy, tq, c, f, f1⟩
    · rw [e1, f1]
    · rw [e] at f
      cases f
  · rcases g with ⟨j, f, f1⟩ | ⟨b, dy, tq, c, f, f1⟩
    · rw [e] at f
      cases f
    · rw [e] at f
      cases f
      rw [e1] at f1
      have h3 := HO.ins.inj (Option.some.inj f1)
      have h4 : (rf tp d z).lookup ("_size" : Str) = (rf tq c y).lookup ("_size" : Str) := by rw [h3.2.2]
      rw [rf_size, rf_size] at h4
      cases h4
      rfl
theorem nfs_one {C : Addr} {H : Hp} {l : List (Str × V)} {fs gs : List (Str × T)} (nf1 : (names fs).Nodup) (p1 : (names l).Perm (names fs)) (p2 : (names l).Perm (names gs))
    (c1 : ∀ x v u, look x l = some v → look x fs = some u → SzV C H v (nf u)) (c2 : ∀ x v u, look x l = some v → look x gs = some u → SzV C H v (nf u)) : nfs fs = nfs gs := by
  have pm : (names fs).Perm (names gs) := p1.symm.trans p2
  have nd2 : (names gs).Nodup := pm.nodup_iff.mp nf1
  rw [← nfs_len nf1, ← nfs_len nd2]
  have hl : fs.length = gs.length := by
    have := pm.length_eq
    rwa [List.length_map, List.length_map] at this
  have hs : ((names fs).map (szf fs)).sum = ((names fs).map (szf gs)).sum := by
    congr 1
    refine List.map_congr_left fun x hx => ?_
    obtain ⟨v, hv⟩ := look_some hx
    obtain ⟨w, hw⟩ := look_some (pm.mem_iff.mp hx)
    obtain ⟨u, hu⟩ := look_some (p1.mem_iff.mpr hx)
    unfold szf
    rw [hv, hw]
    exact (c1 x u v hu hv).one (c2 x u w hu hw)
  rw [hs, sum_perm pm, hl]
mutual
theorem nf_nn : ∀ t : T, 0 ≤ nf t
  | .int _ => by rw [nf]; exact Int.le_refl 0
  | .fds fs => by rw [nf]; exact nfs_nn fs
theorem nfs_nn : ∀ fs : List (Str × T), 0 ≤ nfs fs
  | [] => by rw [nfs]; exact Int.le_refl 0
  | (x, t) :: r => by
    have h1 := nf_nn t
    have h2 := nfs_nn r
    rw [nfs]
    omega
end
theorem nf_child {x : Str} {u : T} : ∀ {fs : List (Str × T)}, look x fs = some u → nf u < nfs fs
  | [], h => by cases h
  | (y, t) :: r, h => by
    have h1 := nf_nn t
    have h2 := nfs_nn r
    rw [nfs]
    by_cases q : y = x
    · rw [look, if_pos q] at h
      cases h
      omega
    · rw [look, if_neg q] at h
      have := nf_child h
      omega
/-- what is smaller than the record whose fields' dict is d does not reach d -/
theorem Rc.away {S : Addr → Prop} {C d : Addr} {H : Hp} {l : List (Str × V)} {z : Int} (ed : H d = some (.dK (dk l)))
    (hz : ∀ gs, (names gs).Nodup → (names l).Perm (names gs) → (∀ x v u, look x l = some v → look x gs = some u → SzV C H v (nf u)) → nfs gs = z) (o : HO) : ∀ {n : Nat} {v : V} {t : T}, Rc S C H n v t → nf t < z → Rc S C (upd H d o) n v t
  | 0, _, _, h, _ => h
  | n + 1, v, t, h, hs => by
    rcases h with h | ⟨a, m, fs, e1, e2, ra, wf, pm, ch⟩
    · exact .inl h
    · rw [e2, nf] at hs
      obtain ⟨⟨dx, tp, c, ss, f1, f2, f3⟩, nd, so⟩ := ra
      have ha : a ≠ d := fun q => by
        rw [q, ed] at f1
        cases f1
      have ht : tp ≠ d := fun q => by
        rw [q, ed] at f2
        cases f2
      have hc : c ≠ d := fun q => by
        rw [q, ed] at f3
        have hm : dk l = dk m := HO.dK.inj (Option.some.inj f3)
        have hlm : l = m := by
          apply dk_inj hm
        subst hlm
        have := hz fs wf.nd pm fun x v u h1 h2 => (ch x v u h1 h2).sz
        omega
      refine .inr ⟨a, m, fs, e1, e2, ⟨⟨dx, tp, c, ss, by rw [upd_ne ha]; exact f1, by rw [upd_ne ht]; exact f2, by rw [upd_ne hc]; exact f3⟩, nd, so⟩, wf, pm, fun x v u h1 h2 => Rc.away ed hz o (ch x v u h1 h2) ?_⟩
      have := nf_child h2
      omega
end Lw
namespace Lw
open PySem PySem.Spec PyProof.Rows L2 GrT GrOwn
def All : Addr → Prop := fun _ => True
/-- a record taken apart -/
theorem Rc.out {S : Addr → Prop} {C : Addr} {H : Hp} {n : Nat} {a : Addr} {fs : List (Str × T)} (h : Rc S C H (n + 1) (.ref a) (.fds fs)) : ∃ l, RA S C H a l (nfs fs) ∧ Wf 40 fs ∧ (names l).Perm (names fs) ∧ ∀ x v u, look x l = some v → look x fs = some u → Rc S C H n v u := by
  refine h.cases (fun i e _ => by cases e) fun k a' l fs' en e1 e2 ra wf pm ch => ?_
  cases en
  cases e1
  cases e2
  exact ⟨l, ra, wf, pm, ch⟩
theorem Rc.ref' {S : Addr → Prop} {C : Addr} {H : Hp} {n : Nat} {v : V} {fs : List (Str × T)} (h : Rc S C H n v (.fds fs)) : ∃ a, v = .ref a :=
  h.cases (fun i _ e => by cases e) fun k a l fs' _ e1 _ _ _ _ _ => ⟨a, e1⟩
theorem pe_fldK {X : Cx} {K : PySem.W.Frag} {e : Expr} {ta : TE} {f : Str} {pos : Pos} (h : X.K = K) (he : PE X e ta) (hb : attributeBase e f X.env (eval e X.env) = eval e X.env) : PE X (.Attribute e f pos) (tFld K ta f) := h ▸ pe_fld he hb
structure MthX (P : Program) (w : World) (K : PySem.W.Frag) (mg : Str → Option Value) (base : Heap) (CX : CXT) (C : Addr) (k : Nat) (x : Str) (sp : Sp) : Prop where
  ex : ∃ (f : Addr) (fd : FuncData) (ps : List Str), FnOk P w K mg base CX k f fd ps sp ∧ Sm K C x f ∧ Binds K fd ps []
end Lw
namespace Lw
open PySem PySem.Spec PyProof.Rows L2 GrT GrOwn
/-- a method that is called by its name -/
structure MthK (P : Program) (w : World) (K : PySem.W.Frag) (mg : Str → Option Value) (base : Heap) (CX : CXT) (C : Addr) (k : Nat) (x : Str) (sp : Sp) : Prop where
  ex : ∃ (f : Addr) (fd : FuncData) (ps : List Str), FnOk P w K mg base CX k f fd ps sp ∧ Meth K C x f ∧ Binds K fd ps []
structure DfK (K : PySem.W.Frag) (C : Addr) (x q : Str) (st : Stmt) (ps : List Str) : Prop where
  ex : ∃ f fd, Meth K C x f ∧ L2.Fun K x q st f fd ∧ Binds K fd ps []
section
variable {X : Cx} {CX : CXT} {C : Addr} {k j : Nat} {sp : Sp} {E : XK} {x : Str} {o e : Expr} {es : List Expr} {pos apos : Pos} {ta : TE} {t : TA} {pl : Sem Bool}
theorem pe_mK0 (R : RecK X.K X.mg C) (c : MthK X.prog X.w X.K X.mg X.base CX C k x sp) (hr : Room j X.A) (hk : k ≤ j) (hx : Passes CX X E) (he : PE X o ta)
    (ht : eval (.Call (.Attribute o x apos) [] [] pos) X.env = (do
      let ov ← eval o X.env
      standAt apos.atName
      let (f, first) ← holding [ov] (getMethod ov x pl)
      callWith pos f first (backTo pos (starEach [] X.env)) (backToKw pos (keywordEach [] X.env))) := by rfl) :
    PE X (.Call (.Attribute o x apos) [] [] pos) (tMeth C x sp [] E ta tNil) := by
  obtain ⟨f, fd, ps, F, m, b⟩ := c.ex
  exact pe_meth0 he R.cl m F (hr.mono hk) b .nil hx ht
end
theorem rf_no {x : Str} (h1 : x ≠ ("_size" : Str)) (h2 : x ≠ ("_fields" : Str)) (h3 : x ≠ ("names" : Str)) (t d : Addr) (z : Int) : (rf t d z).lookup x = none := by
  unfold rf
  rw [lookup_putF, if_neg h1, lookup_putF, if_neg h2, lookup_putF, if_neg h3]
  rfl
theorem RA.exs {S : Addr → Prop} {C : Addr} {H : Hp} {a : Addr} {l : List (Str × V)} {z : Int} (r : RA S C H a l z) : RA (fun b => S b ∧ H b ≠ none) C H a l z := by
  obtain ⟨⟨dx, tp, d, ⟨s1, s2, s3⟩, e1, e2, e3⟩, n, s⟩ := r
  exact ⟨⟨dx, tp, d, ⟨⟨s1, by rw [e1]; exact fun z => by cases z⟩, ⟨s2, by rw [e2]; exact fun z => by cases z⟩, ⟨s3, by rw [e3]; exact fun z => by cases z⟩⟩, e1, e2, e3⟩, n, s⟩
theorem Rc.exs {S : Addr → Prop} {C : Addr} {H : Hp} : ∀ {n : Nat} {v : V} {t : T}, Rc S C H n v t → Rc (fun b => S b ∧ H b ≠ none) C H n v t
  | 0, _, _, h => h
  | n + 1, v, t, h => by
    rcases h with h | ⟨a, l, fs, e1, e2, e3, e4, e5, e6⟩
    · exact .inl h
    · exact .inr ⟨a, l, fs, e1, e2, e3.exs, e4, e5, fun x v u h1 h2 => Rc.exs (e6 x v u h1 h2)⟩
end Lw
namespace Lw
open PySem PySem.Spec PyProof.Rows L2 GrT GrOwn
abbrev sPick : Stmt := top 19
def spPick : Sp := fun vs H Q _ => ∃ (p P : Addr) (ps : List Str), vs = [.ref p, .ref P] ∧ Tape H p ∧ P ≠ p ∧ H P = some (.lst (ps.map V.str)) ∧ 0 < ps.length ∧ ps.length ≤ 64 ∧ ∀ x H', x ∈ ps → Fx p H H' → Tape H' p → Q (.str x) H'
section
variable {P : Program} {w : World} {K : PySem.W.Frag} {mg : Str → Option Value} {base : Heap} {C : Addr}
theorem scPick : FnScope ["tape", "names"] ["tape", "names"] (defScope sPick) := ⟨rfl, rfl, rfl, by decide +kernel, rfl, by decide +kernel, by decide +kernel⟩
theorem c_pick (T : Bu mg) (D : Dfn K mg "_law_pick" sPick ["tape", "names"]) (c_law_take : Cal P w K mg base 1 "_law_take" spTake) : Cal P w K mg base 2 "_law_pick" spPick := by
  refine D.cal scPick (fun vs H Q E h => ?_) (fun f cdv A outer s H vs Q E hr h => ?_)
  · obtain ⟨p, P, ps, rfl, _⟩ := h
    rfl
  · obtain ⟨p, P, ps, rfl, tp, Pp, eP, l1, l2, q⟩ := h
    refine ⟨_, (pss_one (ps_ret (pe_ix ix_list (pv 1) (pe_op op_mod (pe_c c_law_take hr (by omega) rfl (pa_cons (pv 0) (pa_cons pe_int pa_nil))) (pe_callB call_len_seq (by rfl) T.b_len PySem.boot_len (pa_cons (pv 1) pa_nil))) (fun _ _ => rfl)))), ?_⟩
    refine ⟨_, rfl, _, rfl, p, 720720, rfl, tp, p72, fun i H1 i0 i1 x1 t1 => ?_⟩
    have eP1 := x1 _ _ Pp eP
    obtain ⟨x, hx, hat⟩ := pick_ix (ps := ps) (z := i) l1
    refine ⟨_, rfl, P, _, rfl, .inl (SqL.of eP1), _, _, rfl, rfl, by rw [List.length_map]; omega, P, _, _, _, rfl, rfl, SqL.of eP1, by rw [List.length_map]; exact hat, ?_⟩
    exact q x H1 hx x1 t1
end
end Lw
/-! == of two dicts whose values' == may run code: the two dicts stand physically still -/
namespace Qd
open PySem PySem.W PySem.Calls PyProof.Rows PyProof.V PySem.Spec
section
variable {prog : Program} {w : World} {K : Type} [DecidableEq K] {knd : KeyKind prog w K} {A : Around} {E : Value → Shared → Prop} {s : Shared}
theorem samePairsG {nm : String} {a b : Addr} {ka kb : List (K × Value)} {oa ob : Obj} {Q : Bool → Shared → Prop} (I : Nat → Shared → Prop) (ha : (a == sysModules) = false) (hb : (b == sysModules) = false)
    (da : s.heap.DictOf knd a ka) (db : s.heap.DictOf knd b kb) (ga : s.heap.get? a = some oa) (gb : s.heap.get? b = some ob)
    (keep : ∀ i s', I i s' → s'.heap.get? a = some oa ∧ s'.heap.get? b = some ob) (h0 : ka.length = kb.length → I 0 s) (hne : ka.length ≠ kb.length → Q false s)
    (turn : ∀ i k v s', ka[i]? = some (k, v) → I i s' → (valueAt kb k = none → Q false s') ∧ ∀ y, valueAt kb k = some y → wpAny (model prog w) A (eqBool v y) (fun r s2 => if r = true then I (i + 1) s2 else Q false s2) E s')
    (fin : ∀ s', I ka.length s' → Q true s') : wpAny (model prog w) A (Builtin.Dict.samePairs nm a b) Q E s := by
  obtain ⟨oa', es, ep, hoa, _, hda, hka, hpa, _⟩ := da
  obtain ⟨ob', es', ep', hob, _, hdb, hkb, hpb, _⟩ := db
  rw [ga] at hoa
  rw [gb] at hob
  cases hoa
  cases hob
  have hla : ka.length = es.size := by rw [← hpa.length]; exact Array.length_toList
  have hlb : kb.length = es'.size := by rw [← hpb.length]; exact Array.length_toList
  have hfind : ∀ k, findBy knd.is es' k = valueAt kb k := fun k => by
    rw [← hpb.find k]
    clear hlb hpb hkb hdb
    obtain ⟨l⟩ := es'
    simp [findBy]
  unfold Builtin.Dict.samePairs Builtin.Dict.showsAll
  rw [if_neg (show ¬ (a == sysModules) = true by rw [ha]; exact Bool.false_ne_true), if_neg (show ¬ (b == sysModules) = true by rw [hb]; exact Bool.false_ne_true)]
  refine wpAny_bind (wpAny_pure (wpAny_bind (wpAny_pure ?_)))
  refine wpAny_bind (wpAny_dictEntries ga hda ?_)
  dsimp only
  refine wpAny_bind (wpAny_dictEntries gb hdb ?_)
  by_cases hsz : es.size = es'.size
  case neg =>
    rw [if_pos (by simpa using hsz)]
    exact wpAny_bind (wpAny_rule (wpAny_pure (hne (by rw [hla, hlb]; exact hsz))))
  case pos =>
    have i0 := h0 (by rw [hla, hlb]; exact hsz)
    rw [if_neg (by rw [hsz]; simp)]
    refine wpAny_bind (wpAny_dictEpoch ga hda ?_)
    refine wpAny_bind ?_
    rw [Std.Legacy.Range.forIn_eq_forIn_range']
    simp only [Std.Legacy.Range.size, Nat.sub_zero, Nat.add_sub_cancel, Nat.div_one]
    refine wpAny_forIn_list _ (fun rest q s' => q = (none, ()) ∧ ∃ i, rest = List.range' i (es.size - i) ∧ i ≤ es.size ∧ I i s') _ ?_ ?_ _ _ ⟨rfl, 0, by simp, Nat.zero_le _, i0⟩
    · rintro x rest q s' ⟨rfl, i, hr, hi, hI⟩
      obtain ⟨ga', gb'⟩ := keep i s' hI
      have hlt : i < es.size := by
        rcases Nat.lt_or_ge i es.size with h | h
        · exact h
        · rw [Nat.sub_eq_zero_of_le h] at hr; simp at hr
      obtain ⟨rfl, hrest⟩ : x = i ∧ rest = List.range' (i + 1) (es.size - (i + 1)) := by
        have e : es.size - i = (es.size - (i + 1)) + 1 := by omega
        rw [e, List.range'_succ] at hr
        injection hr with h1 h2
        exact ⟨h1, h2⟩
      refine wpAny_bind (wpAny_dictEntries ga' hda ?_)
      rw [Array.getElem?_eq_getElem hlt]
      have hlt' : x < ka.length := by rw [hla]; exact hlt
      obtain ⟨k, v, hkv⟩ : ∃ k v, ka[x] = (k, v) := ⟨_, _, rfl⟩
      have hg : ka[x]? = some (k, v) := by rw [List.getElem?_eq_getElem hlt', hkv]
      obtain ⟨hkey, hval⟩ := hpa.get? (i := x) (e := es[x]) (k := k) (v := v) (by rw [Array.getElem?_toList]; exact Array.getElem?_eq_getElem hlt) hg
      obtain ⟨k', hk', hh⟩ := hka es[x] (Array.getElem_mem hlt)
      have ekk : k' = k := knd.inj _ _ _ hk' hkey
      rw [ekk] at hh
      obtain ⟨tn, ts⟩ := turn x k v s' hg hI
      show wpAny _ _ (holding [es[x].key, es[x].val] _ >>= _) _ _ _
      rw [hh]
      refine wpAny_bind (wpAny_holding (wpAny_bind (wpAny_dictFind_of hkey gb' hdb hkb ?_)))
      cases hj : es'.findIdx? fun e => knd.is k e.key with
      | none =>
        have hn : valueAt kb k = none := by rw [← hfind k, findBy_of_findIdx?, hj]
        refine wpAny_pure ?_
        show wpAny _ _ (if (!false) = true then _ else _) _ _ _
        rw [if_pos (by decide)]
        exact wpAny_pure (wpAny_pure (tn hn))
      | some j =>
        obtain ⟨hjlt, _, _⟩ := Array.findIdx?_eq_some_iff_getElem.mp hj
        have hv' : valueAt kb k = some es'[j].val := by
          rw [← hfind k, findBy_of_findIdx?, hj]
          simp [Array.getElem?_eq_getElem hjlt]
        refine wpAny_bind (wpAny_dictEntries gb' hdb ?_)
        rw [Array.getElem?_eq_getElem hjlt]
        have t1 := ts _ hv'
        rw [← hval] at t1
        refine wpAny_holding (wpAny_mono t1 (fun r s2 q2 => ?_) fun _ _ z => z)
        cases r with
        | false =>
          rw [if_neg Bool.false_ne_true] at q2
          show wpAny _ _ (if (!false) = true then _ else _) _ _ _
          rw [if_pos (by decide)]
          exact wpAny_pure (wpAny_pure q2)
        | true =>
          rw [if_pos rfl] at q2
          show wpAny _ _ (if (!true) = true then _ else _) _ _ _
          rw [if_neg (by decide)]
          refine wpAny_bind (wpAny_dictEpoch (keep _ _ q2).1 hda ?_)
          rw [if_neg (by simp)]
          exact wpAny_pure ⟨rfl, x + 1, hrest, hlt, q2⟩
    · rintro q s' ⟨rfl, i, hr, hi, hI⟩
      have hin : i = es.size := by
        rcases Nat.lt_or_ge i es.size with h | h
        · have e : es.size - i = (es.size - (i + 1)) + 1 := by omega
          rw [e, List.range'_succ] at hr; exact nomatch hr
        · exact Nat.le_antisymm hi h
      refine wpAny_pure (fin s' ?_)
      rw [hla, ← hin]
      exact hI
theorem rc_dictsG {a b : Addr} {ka kb : List (K × Value)} {oa ob : Obj} {Q : Bool → Shared → Prop} (I : Nat → Shared → Prop) (ha : (a == sysModules) = false) (hb : (b == sysModules) = false) (hu : A.units < cLine)
    (da : s.heap.DictOf knd a ka) (db : s.heap.DictOf knd b kb) (ga : s.heap.get? a = some oa) (gb : s.heap.get? b = some ob)
    (keep : ∀ i s', I i s' → s'.heap.get? a = some oa ∧ s'.heap.get? b = some ob) (h0 : ka.length = kb.length → I 0 s) (hne : ka.length ≠ kb.length → Q false s)
    (turn : ∀ i k v s', ka[i]? = some (k, v) → I i s' → (valueAt kb k = none → Q false s') ∧ ∀ y, valueAt kb k = some y → wpAny (model prog w) A.in1 (eqBool v y) (fun r s2 => if r = true then I (i + 1) s2 else Q false s2) E s')
    (fin : ∀ s', I ka.length s' → Q true s') : wpAny (model prog w) A (richCompare .Eq (.ref a) (.ref b)) (fun v s' => ∃ r, v = .bool r ∧ Q r s') E s := by
  refine wpAny_richCompare_same_room (op := .Eq) da.typeIs db.typeIs PySem.F.slot_dict_eq (wpAny_call_entry PySem.F.slot_dict_eq da.typeIs PySem.F.entry_dict_eq ?_ (PySem.F.args_dict_eq_2 _ _)) hu
  show wpAny _ _ (Builtin.Dict.dictSlotArgs "__eq__" ⟨[.ref a, .ref b], []⟩ >>= _) _ _ s
  refine wpAny_bind ?_
  unfold Builtin.Dict.dictSlotArgs
  refine wpAny_bind (wpAny_notOrdered_dict da.typeIs ?_)
  show wpAny _ _ (pure (Value.ref a, Value.ref b)) _ _ s
  refine wpAny_pure ?_
  refine wpAny_bind (wpAny_isInstance (T := "dict") db.typeIs PySem.F.sub_dict_dict ?_)
  simp only [Bool.not_true, Bool.false_eq_true, if_false]
  refine wpAny_bind (wpAny_pure (wpAny_bind (wpAny_pure ?_)))
  refine wpAny_bind (wpAny_mono (samePairsG (Q := Q) I ha hb da db ga gb keep h0 hne turn fin) (fun r s' q => ?_) fun e s' z => z)
  refine wpAny_pure ⟨_, rfl, ?_, ?_⟩
  · exact fun x => nomatch x
  · exact ⟨r, by simp, q⟩
end
end Qd
namespace Qd
open PySem PySem.Spec PyProof.Rows L2
/-- what is decided of two values -/
abbrev Dcd := V → V → Bool → Hp → Prop
def MonB (D : Dcd) : Prop := ∀ x y e H H', Ext H H' → D x y e H → D x y e H'
/-- == within a builtin gives what D says, and only makes objects -/
def EqB (X : Cx) (n : Nat) (D : Dcd) : Prop :=
  ∀ (A : Around) (pins : List (Addr × Obj)) (s : Shared) (σ : L2.St) (H : Hp) (x y : V) (u v : Value) (e : Bool), Sub X n A → Inv X pins σ H s → RelV x u → RelV y v → D x y e H →
    wpAny (model X.prog X.w) A (eqBool u v) (fun r s' => r = e ∧ ∃ H', Inv X pins σ H' s' ∧ Ext H H') X.xe s
def tstB (d : V → V → Bool) (kb : List (Key × V)) (p : Key × V) : Bool := match valV kb p.1 with
  | none => false
  | some y => d p.2 y
def allB (d : V → V → Bool) (ka kb : List (Key × V)) : Bool := (ka.length == kb.length) && ka.all (tstB d kb)
section
variable {X : Cx} {n : Nat} {D : Dcd} {A : Around} {pins : List (Addr × Obj)} {σ : L2.St} {H : Hp} {s : Shared} {a b : Addr} {ka kb : List (Key × V)}
theorem lock2 (I : Inv X pins σ H s) (ha : H a = some (.dK ka)) (hb : H b = some (.dK kb)) : ∃ oa ob, Inv X pins σ (upd (upd H a (.frz oa (.dK ka))) b (.frz ob (.dK kb))) s ∧
    (upd (upd H a (.frz oa (.dK ka))) b (.frz ob (.dK kb))) a = some (.frz oa (.dK ka)) ∧
    ∀ H' s', Inv X pins σ H' s' → Ext (upd (upd H a (.frz oa (.dK ka))) b (.frz ob (.dK kb))) H' → ∃ H'', Inv X pins σ H'' s' ∧ Ext H H'' := by
  have na := I.nofrz ha True.intro
  have nb := I.nofrz hb True.intro
  obtain ⟨oa, I1⟩ := I.lock ha True.intro
  by_cases e : a = b
  · subst e
    rw [ha] at hb
    cases hb
    refine ⟨oa, oa, by rw [upd_upd]; exact I1, upd_same, fun H' s' I' x => ?_⟩
    have x' := x a _ upd_same
    refine ⟨_, I'.unlock x' na, fun c o hc => ?_⟩
    by_cases q : c = a
    · rw [q, upd_same, ← ha, ← q, hc]
    · rw [upd_ne q]
      exact x c o (by rw [upd_ne q, upd_ne q]; exact hc)
  · have ne : b ≠ a := fun z => e z.symm
    obtain ⟨ob, I2⟩ := I1.lock (d := b) (u := .dK kb) (by rw [upd_ne ne]; exact hb) True.intro
    refine ⟨oa, ob, I2, by rw [upd_ne e]; exact upd_same, fun H' s' I' x => ?_⟩
    have xb := x b _ upd_same
    have xa := x a (.frz oa (.dK ka)) (by rw [upd_ne e]; exact upd_same)
    have J := I'.unlock xb nb
    refine ⟨_, J.unlock (d := a) (od := oa) (u := .dK ka) (by rw [upd_ne e]; exact xa) na, fun c o hc => ?_⟩
    by_cases q : c = a
    · rw [q, upd_same, ← ha, ← q, hc]
    · rw [upd_ne q]
      by_cases q2 : c = b
      · rw [q2, upd_same, ← hb, ← q2, hc]
      · rw [upd_ne q2]
        exact x c o (by rw [upd_ne q2, upd_ne q]; exact hc)
theorem rcB_dict (mon : MonB D) (h : EqB X n D) {d : V → V → Bool} (sb : Sub X (n + 1) A) (I : Inv X pins σ H s) (ha : H a = some (.dK ka)) (hb : H b = some (.dK kb))
    (hd : ka.length = kb.length → ∀ oa ob k v y, (k, v) ∈ ka → valV kb k = some y → D v y (d v y) (upd (upd H a (.frz oa (.dK ka))) b (.frz ob (.dK kb)))) :
    wpAny (model X.prog X.w) A (richCompare .Eq (.ref a) (.ref b)) (fun r s' => r = .bool (allB d ka kb) ∧ ∃ H', Inv X pins σ H' s' ∧ Ext H H') X.xe s := by
  obtain ⟨_, sa, vsa, kva, da⟩ := dk_of I.hok ha
  obtain ⟨_, sy, vsb, kvb, db⟩ := dk_of I.hok hb
  obtain ⟨oa, ob, IL, hla, un⟩ := lock2 I ha hb
  have hlb : (upd (upd H a (.frz oa (.dK ka))) b (.frz ob (.dK kb))) b = some (.frz ob (.dK kb)) := upd_same
  have la := kva.length
  have lb := kvb.length
  generalize hHL : upd (upd H a (.frz oa (.dK ka))) b (.frz ob (.dK kb)) = HL at IL hla un hlb
  have bad : ∀ p ∈ ka, tstB d kb p = false → allB d ka kb = false := fun p hp e => by
    unfold allB
    rw [Bool.and_eq_false_iff]
    refine .inr ?_
    rw [← Bool.not_eq_true, List.all_eq_true]
    intro z
    rw [z p hp] at e
    cases e
  refine wpAny_mono (rc_dictsG (Q := fun r s' => r = allB d ka kb ∧ ∃ H', Inv X pins σ H' s' ∧ Ext H H') (fun i s' => ka.length = kb.length ∧ (ka.take i).all (tstB d kb) = true ∧ ∃ H', Inv X pins σ H' s' ∧ Ext HL H') sa sy sb.room.units0 da db (IL.hok a _ hla).1 (IL.hok b _ hlb).1
    (fun i s' q => ?_) (fun e => ?_) (fun e => ?_) (fun i k v s' hi q => ?_) (fun s' q => ?_)) (fun v s' q => ?_) fun _ _ z => z
  · obtain ⟨_, _, H', I', x⟩ := q
    exact ⟨(I'.hok a _ (x _ _ hla)).1, (I'.hok b _ (x _ _ hlb)).1⟩
  · exact ⟨by rw [la, lb]; exact e, by simp, HL, IL, Ext.rfl'⟩
  · refine ⟨?_, H, I, Ext.rfl'⟩
    unfold allB
    have : (ka.length == kb.length) = false := by rw [beq_eq_false_iff_ne]; intro z; exact e (by rw [← la, ← lb]; exact z)
    rw [this, Bool.false_and]
  · obtain ⟨hlen, hall, H', I', x⟩ := q
    obtain ⟨xv, hx, rx⟩ := KV.at' kva hi
    have hm : (k, xv) ∈ ka := List.mem_of_getElem? hx
    have rv := kvb.val k
    have step : (ka.take (i + 1)).all (tstB d kb) = ((ka.take i).all (tstB d kb) && tstB d kb (k, xv)) := by
      rw [List.take_add_one, hx, Option.toList_some, List.all_append]
      simp
    refine ⟨fun hn => ?_, fun y hy => ?_⟩
    · have e : valV kb k = none := by
        rw [hn] at rv
        cases e : valV kb k with
        | none => rfl
        | some z =>
          rw [e] at rv
          exact rv.elim
      obtain ⟨H2, I2, e2⟩ := un H' s' I' x
      exact ⟨(bad _ hm (by unfold tstB; rw [e])).symm, H2, I2, e2⟩
    · obtain ⟨z, hz, rz⟩ : ∃ z, valV kb k = some z ∧ RelV z y := by
        rw [hy] at rv
        cases e : valV kb k with
        | none =>
          rw [e] at rv
          exact rv.elim
        | some z =>
          rw [e] at rv
          exact ⟨z, rfl, rv⟩
      have hD := hd hlen oa ob k xv z hm hz
      rw [hHL] at hD
      have et : tstB d kb (k, xv) = d xv z := by
        unfold tstB
        rw [hz]
      refine wpAny_mono (h A.in1 pins s' σ H' xv z v y _ sb.in1 I' rx rz (mon _ _ _ _ _ x hD)) (fun r s2 q2 => ?_) fun _ _ z => z
      obtain ⟨rfl, H2, I2, e2⟩ := q2
      by_cases hdv : d xv z = true
      · rw [if_pos hdv]
        exact ⟨hlen, by rw [step, hall, et, hdv]; rfl, H2, I2, x.trans e2⟩
      · rw [if_neg hdv]
        obtain ⟨H3, I3, e3⟩ := un H2 s2 I2 (x.trans e2)
        exact ⟨(bad _ hm (by rw [et]; simpa using hdv)).symm, H3, I3, e3⟩
  · obtain ⟨hlen, hall, H', I', x⟩ := q
    obtain ⟨H2, I2, e2⟩ := un H' s' I' x
    refine ⟨?_, H2, I2, e2⟩
    rw [← la, List.take_length] at hall
    unfold allB
    rw [hall, hlen]
    simp
  · obtain ⟨r, rfl, rfl, q⟩ := q
    exact ⟨rfl, q⟩
end
end Qd
namespace Qd
open PySem PySem.Spec PyProof.Rows L2 GrOwn
section
variable {X : Cx} {CX : CXT} {k : Nat} {C f : Addr} {fd : FuncData} {ps : List Str} {sp : Sp} {E : XK} {A : Around} {pins : List (Addr × Obj)} {σ : L2.St} {H : Hp} {s : Shared}
theorem run_sub {Q : VK} {us : List Value} {vs : List V} (F : FnOk X.prog X.w X.K X.mg X.base CX k f fd ps sp) (sb : Sub X k A) (hb : Binds X.K fd ps []) (hx : Passes CX X E) (I : Inv X pins σ H s) (r : Vals vs us) (h : sp vs H Q E) :
    wpAny (model X.prog X.w) A (call (.ref f) us) (EP X pins σ Q) X.xe s := by
  have e0 : Env0 X.prog X.w X.K X.mg X.base A X.stack s H := by
    have e := I.env0
    exact ⟨by rw [sb.fr]; exact e.frames, e.mod, e.bs, e.bsz, e.funs, e.frf, e.hok, e.bare⟩
  have hl := F.len _ _ _ _ h
  refine wpAny_call (codeAny_mono (F.run A X.stack s H ⟨us, []⟩ us vs Q E sb.room e0 (by
    have hl2 : us.length = ps.length := by rw [← r.length]; exact hl
    have := hb s us I.kIn (by simpa using hl2)
    simpa using this) r h) fun r s' hq => ?_)
  cases r with
  | error e => exact hx pins σ H s e s' I hq
  | ok fl =>
    cases fl with
    | ret w => exact I.after hq
    | next => exact False.elim hq
    | brk => exact False.elim hq
    | cont => exact False.elim hq
/-- == of two values, at any depth below: r == y by r's own def -/
theorem rc_own {Q : VK} {a : Addr} {y : V} {u : Value} (m : GrOwn.Sm X.K C "__eq__" f) (hi : PySem.W.subIn X.K (.type "int") (.ref C) = some false) (F : FnOk X.prog X.w X.K X.mg X.base CX k f fd ps sp) (sb : Sub X k A) (hb : Binds X.K fd ps []) (hx : Passes CX X E)
    (I : Inv X pins σ H s) (ry : RelV y u) {dx : Addr} {fs : List (Str × V)} (ea : H a = some (.ins C dx fs)) (hy : (∃ i, y = .int i) ∨ ∃ b dy gs, y = .ref b ∧ H b = some (.ins C dy gs)) (q : sp [.ref a, y] H (fun v H' => ∃ b, v = .bl b ∧ Q (.bl b) H') E) :
    wpAny (model X.prog X.w) A (richCompare .Eq (.ref a) u) (EP X pins σ Q) X.xe s := by
  obtain ⟨od, J⟩ := inst I ea
  obtain ⟨m0, hF⟩ := I.fr
  have fin : wpAny (model X.prog X.w) A (call (.ref f) [.ref a, u]) (PySem.W.CmpBack (EP X pins σ Q)) X.xe s := by
    refine thn (run_sub (vs := [V.ref a, y]) F sb hb hx I (.cons rfl (.cons ry .nil)) q) fun r s' hq => ?_
    obtain ⟨z, H', I', rz, b, rfl, qq⟩ := hq
    cases rz
    exact ⟨.bl b, H', I', rfl, qq⟩
  rcases hy with ⟨i, rfl⟩ | ⟨b, dy, gs, rfl, eb⟩
  · obtain ⟨t, rfl⟩ := ry
    refine PySem.W.cmp_K (op := .Eq) (tb := .type "int") sb.room.units0 hF I.ok.mod.kin J .now ?_ m.at_ m.fn fin
    unfold PySem.W.notFirst
    rw [hi]
    rfl
  · cases ry
    obtain ⟨oe, J2⟩ := inst I eb
    exact PySem.W.cmp_K (op := .Eq) (tb := .ref C) sb.room.units0 hF I.ok.mod.kin J J2.type (by simp [PySem.W.notFirst]) m.at_ m.fn fin
theorem rc_int {Q : VK} {a : Addr} {i : Int} {t : Tok} (m : GrOwn.Sm X.K C "__eq__" f) (hi : PySem.W.subIn X.K (.ref C) (.type "int") = some false) (F : FnOk X.prog X.w X.K X.mg X.base CX k f fd ps sp) (sb : Sub X k A) (hb : Binds X.K fd ps []) (hx : Passes CX X E)
    (I : Inv X pins σ H s) {dx : Addr} {fs : List (Str × V)} (ea : H a = some (.ins C dx fs)) (q : sp [.ref a, .int i] H (fun v H' => ∃ b, v = .bl b ∧ Q (.bl b) H') E) :
    wpAny (model X.prog X.w) A (richCompare .Eq (.int i t) (.ref a)) (EP X pins σ Q) X.xe s := by
  obtain ⟨od, J⟩ := inst I ea
  obtain ⟨m0, hF⟩ := I.fr
  have K0 := I.kIn
  have one : wpAny (model X.prog X.w) A (tryCompare (.ref a) "__eq__" (.int i t)) (fun r s' => ∃ v, r = some v ∧ EP X pins σ Q v s') X.xe s := by
    unfold tryCompare
    refine wpAny_bind (PySem.W.ifBound_K K0 J m.at_ m.fn (thn (run_sub (vs := [V.ref a, V.int i]) F sb hb hx I (.cons rfl (.cons ⟨t, rfl⟩ .nil)) q) fun r s' hq => ?_))
    obtain ⟨z, H', I', rz, b, rfl, qq⟩ := hq
    cases rz
    exact wpAny_pure ⟨_, rfl, .bl b, H', I', rfl, qq⟩
  have o0 : oneThing? .Eq (.int i t) (.ref a) = none := by first | rfl | decide +kernel
  have ne : (Value.type "int" != Value.ref C) = true := by simp
  unfold richCompare
  simp only [o0]
  refine wpAny_holding (wpAny_bind (wpAny_cRoomFor sb.room.units0 ?_))
  refine wpAny_bind (wpAny_typeOf (T := "int") (PySem.typeIs_int s i t) (wpAny_bind (J.type.here ?_)))
  simp only [ne, if_true]
  refine wpAny_bind ((PySem.W.looks_subIn K0 hi).here ?_)
  simp only [Bool.false_eq_true, if_false, Bool.not_false, if_true]
  refine wpAny_bind (m := tryCompare (.int i t) _ (.ref a)) (wpAny_tryCompare_declines (PySem.typeIs_int s i t) PySem.F.slot_int_eq (int_eq_ins J.at_ rfl ⟨rfl, ?_⟩))
  refine wpAny_bind (m := tryCompare (.ref a) _ (.int i t)) (wpAny_mono one (fun r s' z => ?_) fun _ _ e => e)
  obtain ⟨v, rfl, hq⟩ := z
  exact wpAny_pure hq
/-- from a rich comparison to == within a builtin -/
theorem eqBool_ri {a : Addr} {i : Int} {t : Tok} {Q : Bool → Shared → Prop} {M : Model} {E : Value → Shared → Prop} (h : wpAny M A (richCompare .Eq (.ref a) (.int i t)) (fun r s' => ∃ b, r = .bool b ∧ Q b s') E s) : wpAny M A (eqBool (.ref a) (.int i t)) Q E s := by
  unfold eqBool
  refine wpAny_holding ?_
  refine wpAny_ite_split (fun hab => absurd (eq_of_beq hab) (fun z => nomatch z)) (fun _ => ?_)
  refine wpAny_bind (wpAny_mono h (fun v s' hv => ?_) fun _ _ x => x)
  obtain ⟨r, rfl, q⟩ := hv
  exact wpAny_truthy_bool q
theorem eqBool_ir {a : Addr} {i : Int} {t : Tok} {Q : Bool → Shared → Prop} {M : Model} {E : Value → Shared → Prop} (h : wpAny M A (richCompare .Eq (.int i t) (.ref a)) (fun r s' => ∃ b, r = .bool b ∧ Q b s') E s) : wpAny M A (eqBool (.int i t) (.ref a)) Q E s := by
  unfold eqBool
  refine wpAny_holding ?_
  refine wpAny_ite_split (fun hab => absurd (eq_of_beq hab) (fun z => nomatch z)) (fun _ => ?_)
  refine wpAny_bind (wpAny_mono h (fun v s' hv => ?_) fun _ _ x => x)
  obtain ⟨r, rfl, q⟩ := hv
  exact wpAny_truthy_bool q
end
end Qd
namespace Lw
open PySem PySem.Spec PyProof.Rows L2 GrT GrOwn Qd
/-! ### alike up to order is an equivalence; what a record is, is told once -/
theorem Sm.symm : ∀ {n : Nat} {t u : T}, GrT.Sm n t u → GrT.Sm n u t
  | 0, t, u, ⟨i, e1, e2⟩ => ⟨i, e2, e1⟩
  | n + 1, t, u, h => by
    rcases h with ⟨i, e1, e2⟩ | ⟨fs, gs, e1, e2, nd, pm, ch⟩
    · exact .inl ⟨i, e2, e1⟩
    · exact .inr ⟨gs, fs, e2, e1, pm.nodup_iff.mp nd, pm.symm, fun x v w h1 h2 => Lw.Sm.symm (ch x w v h2 h1)⟩
theorem Sm.trans : ∀ {n : Nat} {t u v : T}, GrT.Sm n t u → GrT.Sm n u v → GrT.Sm n t v
  | 0, t, u, v, ⟨i, e1, e2⟩, ⟨j, f1, f2⟩ => by
    rw [e2] at f1
    cases f1
    exact ⟨i, e1, f2⟩
  | n + 1, t, u, v, h, g => by
    rcases h with ⟨i, e1, e2⟩ | ⟨fs, gs, e1, e2, nd, pm, ch⟩
    · rcases g with ⟨j, f1, f2⟩ | ⟨_, _, f1, _⟩
      · rw [e2] at f1
        cases f1
        exact .inl ⟨i, e1, f2⟩
      · rw [e2] at f1
        cases f1
    · rcases g with ⟨j, f1, _⟩ | ⟨gs', hs, f1, f2, nd', pm', ch'⟩
      · rw [e2] at f1
        cases f1
      · rw [e2] at f1
        cases f1
        refine .inr ⟨fs, hs, e1, f2, nd, pm.trans pm', fun x a c h1 h2 => ?_⟩
        obtain ⟨b, hb⟩ := look_some (pm.mem_iff.mp (List.mem_map.mpr ⟨_, look_mem h1, rfl⟩))
        exact Lw.Sm.trans (ch x a b h1 hb) (ch' x b c hb h2)
theorem RA.one {S S' : Addr → Prop} {C : Addr} {H : Hp} {a : Addr} {l m : List (Str × V)} {z y : Int} (r : RA S C H a l z) (q : RA S' C H a m y) : l = m := by
  obtain ⟨⟨dx, tp, d, _, e1, _, e3⟩, _, _⟩ := r
  obtain ⟨⟨dx', tp', d', _, f1, _, f3⟩, _, _⟩ := q
  rw [e1] at f1
  have h : rf tp d z = rf tp' d' y := by
    injection f1 with f1
    injection f1
  have hd : d = d' := by
    have := rf_fields tp d z
    rw [h, rf_fields] at this
    exact (V.ref.inj (Option.some.inj this)).symm
  rw [hd, f3] at e3
  exact (dk_inj (HO.dK.inj (Option.some.inj e3))).symm
theorem Rc.one {S S' : Addr → Prop} {C : Addr} {H : Hp} : ∀ {n : Nat} {v : V} {t u : T}, Rc S C H n v t → Rc S' C H n v u → GrT.Sm n t u
  | 0, v, t, u, ⟨i, e1, e2⟩, ⟨j, f1, f2⟩ => by
    rw [e1] at f1
    cases f1
    exact ⟨i, e2, f2⟩
  | n + 1, v, t, u, h, g => by
    rcases h with ⟨i, e1, e2⟩ | ⟨a, l, fs, e1, e2, ra, wf, pm, ch⟩
    · rcases g with ⟨j, f1, f2⟩ | ⟨_, _, _, f1, _⟩
      · rw [e1] at f1
        cases f1
        exact .inl ⟨i, e2, f2⟩
      · rw [e1] at f1
        cases f1
    · rcases g with ⟨j, f1, _⟩ | ⟨b, m, gs, f1, f2, rb, wg, pg, cg⟩
      · rw [e1] at f1
        cases f1
      · rw [e1] at f1
        cases f1
        have e := RA.one ra rb
        subst e
        refine .inr ⟨fs, gs, e2, f2, wf.nd, pm.symm.trans pg, fun x p q h1 h2 => ?_⟩
        obtain ⟨y, hy⟩ := look_some (pm.mem_iff.mpr (List.mem_map.mpr ⟨_, look_mem h1, rfl⟩))
        exact Rc.one (ch x y p hy h1) (cg x y q hy h2)
/-- what == decides of two values -/
def DRec (C : Addr) (n : Nat) : Dcd := fun x y e H => ∃ t u, Rc All C H n x t ∧ Rc All C H n y u ∧ (e = true ↔ GrT.Sm n t u)
theorem mon_rec {C : Addr} {n : Nat} : MonB (DRec C n) := fun x y e H H' x' ⟨t, u, h1, h2, h3⟩ => ⟨t, u, h1.same x', h2.same x', h3⟩
open Classical in
/-- the decision, as a function of the values -/
noncomputable def dRec (C : Addr) (n : Nat) (H : Hp) (x y : V) : Bool := decide (∃ t u, Rc All C H n x t ∧ Rc All C H n y u ∧ GrT.Sm n t u)
theorem dRec_iff {C : Addr} {n : Nat} {H : Hp} {x y : V} {t u : T} (h1 : Rc All C H n x t) (h2 : Rc All C H n y u) : dRec C n H x y = true ↔ GrT.Sm n t u := by
  unfold dRec
  rw [@decide_eq_true_iff _ (Classical.propDecidable _)]
  exact ⟨fun ⟨t', u', g1, g2, s⟩ => Lw.Sm.trans (Rc.one h1 g1) (Lw.Sm.trans s (Rc.one g2 h2)), fun s => ⟨t, u, h1, h2, s⟩⟩
theorem perm_of {l m : List Str} (n1 : l.Nodup) (n2 : m.Nodup) (hl : l.length = m.length) (h : ∀ x ∈ l, x ∈ m) : l.Perm m := by
  refine (List.perm_ext_iff_of_nodup n1 n2).mpr fun z => ⟨h z, fun hz => ?_⟩
  by_cases q : z ∈ l
  · exact q
  · have := sub_len (l := z :: l) (m := m) (List.nodup_cons.mpr ⟨q, n1⟩) fun x hx => by
      rcases List.mem_cons.mp hx with e | e
      · rw [e]
        exact hz
      · exact h x e
    rw [List.length_cons] at this
    omega
theorem all_iff {C : Addr} {n : Nat} {H : Hp} {l m : List (Str × V)} {fs gs : List (Str × T)} (nl : (names l).Nodup) (nm : (names m).Nodup) (nf1 : (names fs).Nodup) (pl : (names l).Perm (names fs)) (pm : (names m).Perm (names gs))
    (cl : ∀ x v u, look x l = some v → look x fs = some u → Rc All C H n v u) (cm : ∀ x v u, look x m = some v → look x gs = some u → Rc All C H n v u) :
    Qd.allB (dRec C n H) (dk l) (dk m) = true ↔ GrT.Sm (n + 1) (.fds fs) (.fds gs) := by
  unfold Qd.allB
  rw [Bool.and_eq_true, beq_iff_eq, dk_len, dk_len, List.all_eq_true]
  constructor
  · rintro ⟨h1, h2⟩
    have hh : ∀ x v, look x l = some v → ∃ y, look x m = some y ∧ dRec C n H v y = true := fun x v hx => by
      have := h2 (Sum.inr x, v) (List.mem_map.mpr ⟨(x, v), look_mem hx, rfl⟩)
      unfold tstB at this
      rw [dk_val] at this
      cases e : look x m with
      | none =>
        rw [e] at this
        cases this
      | some y =>
        rw [e] at this
        exact ⟨y, rfl, this⟩
    have pn : (names l).Perm (names m) := perm_of nl nm (by rw [List.length_map, List.length_map]; exact h1) fun x hx => by
      obtain ⟨v, hv⟩ := look_some hx
      obtain ⟨y, hy, _⟩ := hh x v hv
      exact List.mem_map.mpr ⟨_, look_mem hy, rfl⟩
    refine .inr ⟨fs, gs, rfl, rfl, nf1, (pl.symm.trans pn).trans pm, fun x t u h3 h4 => ?_⟩
    obtain ⟨v, hv⟩ := look_some (pl.mem_iff.mpr (List.mem_map.mpr ⟨_, look_mem h3, rfl⟩))
    obtain ⟨y, hy, hd⟩ := hh x v hv
    exact (dRec_iff (cl x v t hv h3) (cm x y u hy h4)).mp hd
  · intro h
    rcases h with ⟨i, e, _⟩ | ⟨fs', gs', e1, e2, nd, pn, ch⟩
    · cases e
    · cases e1
      cases e2
      have pp : (names l).Perm (names m) := (pl.trans pn).trans pm.symm
      refine ⟨by have := pp.length_eq; rwa [List.length_map, List.length_map] at this, fun p hp => ?_⟩
      obtain ⟨⟨x, v⟩, hx, rfl⟩ := List.mem_map.mp hp
      have hv := mem_look nl hx
      obtain ⟨y, hy⟩ := look_some (pp.mem_iff.mp (List.mem_map.mpr ⟨_, hx, rfl⟩))
      obtain ⟨t, ht⟩ := look_some (pl.mem_iff.mp (List.mem_map.mpr ⟨_, hx, rfl⟩))
      obtain ⟨u, hu⟩ := look_some (pm.mem_iff.mp (List.mem_map.mpr ⟨_, look_mem hy, rfl⟩))
      show tstB (dRec C n H) (dk m) (Sum.inr x, v) = true
      unfold tstB
      rw [dk_val, hy]
      exact (dRec_iff (cl x v t hv ht) (cm x y u hy hu)).mpr (ch x t u ht hu)
end Lw
namespace Lw
open PySem PySem.Spec PyProof.Rows L2 GrT GrOwn Qd
/-- == of two dicts in the text -/
def rDict (D : Dcd) : R2 := fun x y H Q => ∃ (a b : Addr) (ka kb : List (Key × V)) (d : V → V → Bool), x = .ref a ∧ y = .ref b ∧ H a = some (.dK ka) ∧ H b = some (.dK kb) ∧
  (ka.length = kb.length → ∀ oa ob k v y, (k, v) ∈ ka → valV kb k = some y → D v y (d v y) (upd (upd H a (.frz oa (.dK ka))) b (.frz ob (.dK kb)))) ∧ ∀ H', Ext H H' → Q (.bl (Qd.allB d ka kb)) H'
theorem op_dictB {X : Cx} {n : Nat} {D : Dcd} (mon : MonB D) (h : EqB X n D) (hr : Room (n + 1) X.A) : OpR X (compareOp .Eq) (rDict D) := by
  intro pins s σ H x y v u Q I rx ry hq
  obtain ⟨a, b, ka, kb, d, rfl, rfl, ha, hb, hd, q⟩ := hq
  cases rx
  cases ry
  show wpAny (model X.prog X.w) X.A (richCompare .Eq (.ref a) (.ref b)) (EP X pins σ Q) X.xe s
  refine wpAny_mono (rcB_dict mon h ⟨hr, rfl⟩ I ha hb hd) (fun r s' z => ?_) fun _ _ x => x
  obtain ⟨rfl, H', I', e⟩ := z
  exact ⟨.bl _, H', I', rfl, q H' e⟩
/-- __eq__, asked of an int or of a record n + 1 deep -/
def spEqR (C : Addr) (n : Nat) : Sp := fun vs H Q _ => ∃ (a : Addr) (fs : List (Str × T)), Rc All C H (n + 1) (.ref a) (.fds fs) ∧
  ((∃ i, vs = [.ref a, .int i] ∧ ∀ H', Same H H' → Q (.bl false) H') ∨
   ∃ (b : Addr) (gs : List (Str × T)), vs = [.ref a, .ref b] ∧ Rc All C H (n + 1) (.ref b) (.fds gs) ∧ ∀ e H', (e = true ↔ GrT.Sm (n + 1) (.fds fs) (.fds gs)) → Same H H' → Q (.bl e) H')
theorem Rc.outR {C : Addr} {H : Hp} {n : Nat} {a : Addr} {t : T} (h : Rc All C H (n + 1) (.ref a) t) : ∃ fs l, t = .fds fs ∧ RA All C H a l (nfs fs) ∧ Wf 40 fs ∧ (names l).Perm (names fs) ∧ ∀ x v u, look x l = some v → look x fs = some u → Rc All C H n v u := by
  rcases h with ⟨i, e, _⟩ | ⟨a', l, fs, e1, e2, ra, wf, pm, ch⟩
  · cases e
  · cases e1
    exact ⟨fs, l, e2, ra, wf, pm, ch⟩
theorem eqV_int {i j : Int} : eqV (.int i) (.int j) = true ↔ i = j := by
  show (i == j) = true ↔ i = j
  exact beq_iff_eq
theorem sm_int {n : Nat} {i j : Int} : GrT.Sm n (.int i) (.int j) ↔ i = j := by
  constructor
  · intro h
    cases n with
    | zero =>
      obtain ⟨k, e1, e2⟩ := h
      cases e1
      cases e2
      rfl
    | succ n =>
      rcases h with ⟨k, e1, e2⟩ | ⟨_, _, e1, _⟩
      · cases e1
        cases e2
        rfl
      · cases e1
  · intro e
    rw [e]
    cases n with
    | zero => exact ⟨j, rfl, rfl⟩
    | succ n => exact .inl ⟨j, rfl, rfl⟩
theorem eqB_int {X : Cx} {C : Addr} : EqB X 0 (DRec C 0) := by
  intro A pins s σ H x y u v e sb I rx ry d
  obtain ⟨t, t', ⟨i, rfl, rfl⟩, ⟨j, rfl, rfl⟩, he⟩ := d
  have q := eqAt_V (A := A) (s := s) rx ry rfl rfl
  refine q X.prog X.w X.xe _ ⟨?_, H, I, Ext.rfl'⟩
  rw [sm_int] at he
  rw [Bool.eq_iff_iff, he]
  exact eqV_int
theorem eqB_rec {X : Cx} {C f : Addr} {fd : FuncData} {k n : Nat} (R : RecK X.K X.mg C) (m : GrOwn.Sm X.K C "__eq__" f) (F : FnOk X.prog X.w X.K X.mg X.base CX0 k f fd ["self", "other"] (spEqR C n)) (hb : Binds X.K fd ["self", "other"] []) : EqB X k (DRec C (n + 1)) := by
  intro A pins s σ H x y u v e sb I rx ry d
  obtain ⟨t, t', h1, h2, he⟩ := d
  have fin : ∀ {w : Value} {Q : VK} {s2 : Shared}, (∀ z H', Q z H' → ∃ b, z = .bl b ∧ b = e ∧ Ext H H') → EP X pins σ Q w s2 → ∃ b, w = .bool b ∧ b = e ∧ ∃ H', Inv X pins σ H' s2 ∧ Ext H H' := fun hq ⟨z, H', I', rz, q⟩ => by
    obtain ⟨b, rfl, hb, x⟩ := hq z H' q
    cases rz
    exact ⟨b, rfl, hb, H', I', x⟩
  refine h1.cases (fun i e1 e2 => ?_) (fun k1 a l fs en e1 e2 ra wf pm ch => ?_)
  · subst e1 e2
    refine h2.cases (fun j f1 f2 => ?_) (fun k2 b m' gs _ f1 f2 rb wg pg cg => ?_)
    · subst f1 f2
      have q := eqAt_V (A := A) (s := s) rx ry rfl rfl
      refine q X.prog X.w X.xe _ ⟨?_, H, I, Ext.rfl'⟩
      rw [sm_int] at he
      rw [Bool.eq_iff_iff, he]
      exact eqV_int
    · subst f1 f2
      obtain ⟨tk, rfl⟩ := rx
      cases ry
      obtain ⟨⟨dx, tp, d, _, eb, _, _⟩, _, _⟩ := id rb
      have ef : e = false := by
        rw [← Bool.not_eq_true, he]
        rintro (⟨_, _, e2⟩ | ⟨_, _, e1, _⟩)
        · cases e2
        · cases e1
      refine eqBool_ir (wpAny_mono (rc_int (Q := fun z H' => z = .bl false ∧ Ext H H') m R.sR F sb hb pass0 I eb ⟨b, gs, h2, .inl ⟨i, rfl, fun H' s' => ⟨false, rfl, rfl, s'⟩⟩⟩) (fun r s2 q => ?_) fun _ _ z => z)
      exact fin (fun z H' ⟨hz, x⟩ => ⟨false, hz, ef.symm, x⟩) q
  · subst e1 e2
    cases rx
    obtain ⟨⟨dx, tp, d, _, ea, _, _⟩, _, _⟩ := id ra
    refine h2.cases (fun j f1 f2 => ?_) (fun k2 b m' gs _ f1 f2 rb wg pg cg => ?_)
    · subst f1 f2
      obtain ⟨tk, rfl⟩ := ry
      have ef : e = false := by
        rw [← Bool.not_eq_true, he]
        rintro (⟨_, e1, _⟩ | ⟨_, _, _, e2, _⟩)
        · cases e1
        · cases e2
      refine eqBool_ri (wpAny_mono (rc_own (Q := fun z H' => z = .bl false ∧ Ext H H') (y := .int j) m R.sI F sb hb pass0 I ⟨tk, rfl⟩ ea (.inl ⟨j, rfl⟩) ⟨a, fs, h1, .inl ⟨j, rfl, fun H' s' => ⟨false, rfl, rfl, s'⟩⟩⟩) (fun r s2 q => ?_) fun _ _ z => z)
      exact fin (fun z H' ⟨hz, x⟩ => ⟨false, hz, ef.symm, x⟩) q
    · subst f1 f2
      cases ry
      obtain ⟨⟨dy, tq, d', _, eb, _, _⟩, _, _⟩ := id rb
      by_cases hab : a = b
      · subst hab
        have et : e = true := he.mpr (Rc.one h1 h2)
        subst et
        exact SeqAt.EqAt.same (A := A) (s := s) (.ref a) X.prog X.w X.xe _ ⟨rfl, H, I, Ext.rfl'⟩
      · refine GQ.eqBool_refG hab (wpAny_mono (rc_own (Q := fun z H' => z = .bl e ∧ Ext H H') (y := .ref b) m R.sI F sb hb pass0 I rfl ea (.inr ⟨b, dy, _, rfl, eb⟩) ⟨a, fs, h1, .inr ⟨b, gs, rfl, h2, fun e' H' he' s' => ⟨e', rfl, by rw [show e' = e from Bool.eq_iff_iff.mpr (he'.trans he.symm)], s'⟩⟩⟩) (fun r s2 q => ?_) fun _ _ z => z)
        exact fin (fun z H' ⟨hz, x⟩ => ⟨e, hz, rfl, x⟩) q
end Lw
namespace Lw
open PySem PySem.Spec PyProof.Rows L2 GrT GrOwn Qd
section
variable {P : Program} {w : World} {K : PySem.W.Frag} {mg : Str → Option Value} {base : Heap} {C : Addr}
theorem fn_eq_step (T : Bu mg) (R : RecK K mg C) {n k : Nat} (hE : ∀ X : Cx, X.prog = P → X.w = w → X.K = K → X.mg = mg → X.base = base → EqB X k (DRec C n)) {f : Addr} {fd : FuncData} (F : L2.Fun K "__eq__" "Record.__eq__" sEq f fd) :
    FnOk P w K mg base CX0 (k + 2) f fd ["self", "other"] (spEqR C n) := by
  refine F.ok scEq (fun vs H Q E h => ?_) (fun cdv A outer s H vs Q E hr h => ?_)
  · obtain ⟨a, fs, _, ⟨i, rfl, _⟩ | ⟨b, gs, rfl, _⟩⟩ := h
    · rfl
    · rfl
  · obtain ⟨a, fs, ra0, hy⟩ := h
    suffices hh : ∃ t, PSs (cxOf CX0 P w K mg base ["self", "other"] "Record.__eq__" (defScope sEq) f cdv A outer s H E).nox (defBody sEq) t ∧ t { nx := fun _ H' => Q .non H', rt := Q } (start ["self", "other"] vs) H from hh
    refine ⟨_, (pss_one (ps_ret (pe_and (pe_callB call_isi (by rfl) T.b_isinstance bo_isinstance (pa_cons (pv 1) (pa_cons (pe_glob (by rfl) R.mgC (v := .ref C) rfl) pa_nil)))
      (pe_and (pe_cmpR op_eq (pe_fld (pv 0) rfl) (pe_fld (pv 1) rfl) (nomark _)) (pe_one (pe_cmpR (op_dictB mon_rec (hE _ rfl rfl rfl rfl rfl) hr) (pe_fld (pv 0) rfl) (pe_fld (pv 1) rfl) (nomark _))))))), ?_⟩
    rcases hy with ⟨i, rfl, q⟩ | ⟨b, gs, rfl, rb0, q⟩
    · exact ⟨_, rfl, _, _, _, _, _, rfl, .own C, .base (.int i), R.kI, _, rfl, iteF (q H (Same.refl _))⟩
    · obtain ⟨fs', l, e1, ra, wf, pm, ch⟩ := Rc.outR ra0
      obtain ⟨gs', m, e2, rb, wg, pg, cg⟩ := Rc.outR rb0
      cases e1
      cases e2
      obtain ⟨⟨dx, tp, d1, _, ea, _, ed1⟩, nl, _⟩ := id ra
      obtain ⟨⟨dy, tq, d2, _, eb, _, ed2⟩, nm, _⟩ := id rb
      refine ⟨_, rfl, _, _, _, _, _, rfl, .own C, R.ty eb, R.kRC, _, rfl, iteT ?_⟩
      refine ⟨_, rfl, a, C, dx, _, _, rfl, ea, R.cl, R.nS, rf_size _ _ _, _, rfl, b, C, dy, _, _, rfl, eb, R.cl, R.nS, rf_size _ _ _, rfl, _, rfl, ?_⟩
      by_cases hz : nfs fs = nfs gs
      · rw [show decide (V.int (nfs fs) = V.int (nfs gs)) = true from decide_eq_true (by rw [hz])]
        refine iteT ?_
        refine ⟨_, rfl, a, C, dx, _, _, rfl, ea, R.cl, R.nF, rf_fields _ _ _, _, rfl, b, C, dy, _, _, rfl, eb, R.cl, R.nF, rf_fields _ _ _, d1, d2, dk l, dk m, dRec C n H, rfl, rfl, ed1, ed2, fun _ oa ob k v y hk hv => ?_, fun H' x => q _ H' (all_iff nl nm wf.nd pm pg ch cg) x⟩
        obtain ⟨⟨x, v'⟩, hx, e⟩ := List.mem_map.mp hk
        cases e
        rw [dk_val] at hv
        have hv1 := mem_look nl hx
        obtain ⟨t, ht⟩ := look_some (pm.mem_iff.mp (List.mem_map.mpr ⟨_, hx, rfl⟩))
        obtain ⟨u, hu⟩ := look_some (pg.mem_iff.mp (List.mem_map.mpr ⟨_, look_mem hv, rfl⟩))
        refine ⟨t, u, ?_, ?_, dRec_iff (ch x v' t hv1 ht) (cg x y u hv hu)⟩
        · have a1 : ∀ o {x v u}, look x l = some v → look x fs = some u → Rc All C (upd H d1 o) n v u := fun o x v u h1 h2 =>
            Rc.away (z := nfs fs) ed1 (fun gs' ng pg' cg' => (nfs_one wf.nd pm pg' (fun x v u h1 h2 => (ch x v u h1 h2).sz) cg').symm) o (ch x v u h1 h2) (nf_child h2)
          by_cases hd : d1 = d2
          · subst hd
            rw [upd_upd]
            exact a1 _ hv1 ht
          · have ed2' : (upd H d1 (.frz oa (.dK (dk l)))) d2 = some (.dK (dk m)) := by
              rw [upd_ne fun z => hd z.symm]
              exact ed2
            have b1 : ∀ {x v u}, look x m = some v → look x gs = some u → Rc All C (upd H d1 (.frz oa (.dK (dk l)))) n v u := fun {x v u} h1 h2 =>
              Rc.away (z := nfs fs) ed1 (fun gs' ng pg' cg' => (nfs_one wf.nd pm pg' (fun x v u h1 h2 => (ch x v u h1 h2).sz) cg').symm) _ (cg x v u h1 h2) (by rw [hz]; exact nf_child h2)
            exact Rc.away (z := nfs gs) ed2' (fun gs' ng pg' cg' => (nfs_one wg.nd pg pg' (fun x v u h1 h2 => (b1 h1 h2).sz) cg').symm) _ (a1 _ hv1 ht) (by rw [← hz]; exact nf_child ht)
        · have b1 : ∀ o {x v u}, look x m = some v → look x gs = some u → Rc All C (upd H d1 o) n v u := fun o {x v u} h1 h2 =>
            Rc.away (z := nfs fs) ed1 (fun gs' ng pg' cg' => (nfs_one wf.nd pm pg' (fun x v u h1 h2 => (ch x v u h1 h2).sz) cg').symm) o (cg x v u h1 h2) (by rw [hz]; exact nf_child h2)
          by_cases hd : d1 = d2
          · subst hd
            rw [upd_upd]
            exact b1 _ hv hu
          · have ed2' : (upd H d1 (.frz oa (.dK (dk l)))) d2 = some (.dK (dk m)) := by
              rw [upd_ne fun z => hd z.symm]
              exact ed2
            exact Rc.away (z := nfs gs) ed2' (fun gs' ng pg' cg' => (nfs_one wg.nd pg pg' (fun x v u h1 h2 => (b1 _ h1 h2).sz) cg').symm) _ (b1 _ hv hu) (nf_child hu)
      · rw [show decide (V.int (nfs fs) = V.int (nfs gs)) = false from decide_eq_false fun e => hz (V.int.inj e)]
        refine iteF (q false H ?_ (Same.refl _))
        refine ⟨(fun e => nomatch e), fun h => ?_⟩
        have := Lw.Sm.nf h
        rw [nf, nf] at this
        exact absurd this hz
theorem fn_eq (T : Bu mg) (R : RecK K mg C) {f : Addr} {fd : FuncData} (m : GrOwn.Sm K C "__eq__" f) (hb : Binds K fd ["self", "other"] []) (F : L2.Fun K "__eq__" "Record.__eq__" sEq f fd) : ∀ n, FnOk P w K mg base CX0 (2 * n + 2) f fd ["self", "other"] (spEqR C n)
  | 0 => fn_eq_step T R (k := 0) (fun X _ _ _ _ _ => eqB_int) F
  | n + 1 => by
    have ih := fn_eq T R m hb F n
    exact fn_eq_step T R (k := 2 * n + 2) (fun X e1 e2 e3 e4 e5 => by
      subst e1 e2 e3 e4 e5
      exact eqB_rec R m ih hb) F
end
end Lw
namespace Qd
open PySem PySem.W PySem.Spec PyProof.Rows L2 GrOwn
theorem on_slot : Slot "object" "__ne__" "object.__ne__" :=
  Slot.of (T := "object") (name := "__ne__") (owner := "object") (n := "__ne__") (by rw [typeLookup_type, builtinLookup_eq_fast]; kernel_rfl) (by decide +kernel) (by decide +kernel) (by decide +kernel) (.inl (by decide +kernel)) (by rw [isSubtype_type]; kernel_rfl)
section
variable {prog : Program} {w : World} {A : Around} {E : Value → Shared → Prop} {s : Shared} {K : Frag} {x C : Addr} {ox : Obj} {od : Option Obj} {name : Str} {b : Value}
theorem ifBound_ne {M : Model} {args : List Value} {Q : Option Value → Shared → Prop} (X : K.In s.heap) (I : InstAt s.heap x ox C od) (hs : findIn K (.ref C) "__ne__" = some (some (.builtin "object.__ne__")))
    (h : wpAny M A (call (.builtin "object.__ne__") (.ref x :: args)) (fun v => Q (some v)) E s) : wpAny M A (callSpecialIfBound? (.ref x) "__ne__" args) Q E s := by
  simp only [callSpecialIfBound?, bindSpecialIfBound?]
  refine wpAny_holding (wpAny_bind (wpAny_bind (wpAny_bind (I.type.here ((looks_findIn X hs).here ?_)))))
  simp only [on_slot.bind]
  refine wpAny_bind (wpAny_askSetting (wpAny_ite ?_))
  have fin : wpAny M A (call (.builtin "object.__ne__") ([.ref x] ++ args) >>= fun v => pure (some v)) Q E s := wpAny_bind (wpAny_mono h (fun v s' h' => wpAny_pure h') fun _ _ h' => h')
  split
  · exact wpAny_bind (wpAny_pure (wpAny_pure fin))
  · exact wpAny_tryCatch (wpAny_bind (wpAny_pure (wpAny_pure fin)))
theorem objNe_entry {h0 : Heap} {y : Value} {f : Addr} {m0 : Str → Option Value} (X : K.In s.heap) (I : InstAt s.heap x ox C od) (hs : findIn K (.ref C) "__eq__" = some (some (.ref f))) (hf : isFn K (.ref f) = true) (hu : A.units < cLine)
    {Q : Fin → Shared → Prop} (h : wpAny (model prog w) A (call (.ref f) [.ref x, y]) (fun v s' => ∃ e, v = .bool e ∧ Q (.done (.ret (.bool (!e)))) s') E s) :
    wpAny (model prog w) A (Builtin.«object.__ne__» ⟨[.ref x, y], []⟩) Q E s := by
  unfold Builtin.«object.__ne__»
  repeat (first | with_reducible refine wpAny_cRoomFor hu ?_ | with_reducible refine wpAny_bind (ifBound_K X I hs hf (wpAny_mono h (fun v s' hv => ?_) fun _ _ e => e)) | wp_step)
  obtain ⟨e, rfl, q⟩ := hv
  exact wpAny_bind (wpAny_truthy_bool (wpAny_pure q))
theorem cmp_ne {y : Value} {f : Addr} {L : Addr} {h0 : Heap} {m0 : Str → Option Value} {Q : Value → Shared → Prop} (hu : A.units + 1 < cLine) (F : Fr h0 L s.heap m0) (X0 : K.In h0) (I : InstAt s.heap x ox C od) (hb : Looks (model prog w) s.heap (typeOf y) (.ref C))
    (hn : findIn K (.ref C) "__ne__" = some (some (.builtin "object.__ne__"))) (hm : mroIn K C (.type "object") = some true) (hs : findIn K (.ref C) "__eq__" = some (some (.ref f))) (hf : isFn K (.ref f) = true)
    (h : wpAny (model prog w) A.in1 (call (.ref f) [.ref x, y]) (fun v s' => ∃ e, v = .bool e ∧ Q (.bool (!e)) s') E s) : wpAny (model prog w) A (richCompare .NotEq (.ref x) y) Q E s := by
  have X := X0.keeps F.keep
  have inst : Looks (model prog w) s.heap (isInstance (.ref x) (.type "object")) true := I.type.andThen (looks_subIn X hm)
  have one : wpAny (model prog w) A (tryCompare (.ref x) "__ne__" y) (fun r s' => ∃ v, r = some v ∧ Q v s') E s := by
    unfold tryCompare
    refine wpAny_bind (ifBound_ne X I hn (wpAny_call (codeAny_call_builtin on_slot.plain PySem.F.cmpEntry_ne (check_slot PySem.F.cmpKind_ne PySem.F.cmpSplit_ne inst (PySem.F.cmpArgs_ne _ _) ?_))))
    refine objNe_entry (h0 := s.heap) (m0 := m0) X I hs hf (by show A.units + 1 < cLine; exact hu) (wpAny_mono h (fun v s' hv => ?_) fun _ _ e => e)
    obtain ⟨e, rfl, q⟩ := hv
    exact ⟨e, rfl, wpAny_pure ⟨_, rfl, q⟩⟩
  unfold richCompare
  simp only [oneThing_ref]
  refine wpAny_holding (wpAny_bind (wpAny_cRoomFor (by omega) ?_))
  refine wpAny_bind (I.type.here (wpAny_bind (hb.here ?_)))
  rw [if_neg (by simp)]
  refine wpAny_bind (wpAny_pure ?_)
  simp only [Bool.false_eq_true, if_false]
  refine wpAny_bind (wpAny_mono one (fun r s' z => ?_) fun _ _ e => e)
  obtain ⟨v, rfl, hq⟩ := z
  exact wpAny_pure hq
end
end Qd
namespace Lw
open PySem PySem.Spec PyProof.Rows L2 GrT GrOwn Qd
/-- what is kept of __eq__ -/
structure EqM (P : Program) (w : World) (K : PySem.W.Frag) (mg : Str → Option Value) (base : Heap) (C : Addr) (k n : Nat) : Prop where
  ex : ∃ (f : Addr) (fd : FuncData), FnOk P w K mg base CX0 k f fd ["self", "other"] (spEqR C n) ∧ GrOwn.Sm K C "__eq__" f ∧ Binds K fd ["self", "other"] []
/-- records n + 1 deep -/
def rEqRec (neg : Bool) (C : Addr) (n : Nat) : R2 := fun x y H Q => ∃ (a b : Addr) (fs gs : List (Str × T)), x = .ref a ∧ y = .ref b ∧ Rc All C H (n + 1) (.ref a) (.fds fs) ∧ Rc All C H (n + 1) (.ref b) (.fds gs) ∧
  ∀ e H', (e = true ↔ GrT.Sm (n + 1) (.fds fs) (.fds gs)) → Same H H' → Q (.bl (if neg then !e else e)) H'
/-- ints, or records n + 1 deep -/
def rEqVal (C : Addr) (n : Nat) : R2 := fun x y H Q => ∃ (t u : T), Rc All C H (n + 1) x t ∧ Rc All C H (n + 1) y u ∧ ∀ e H', (e = true ↔ GrT.Sm (n + 1) t u) → Same H H' → Q (.bl e) H'
theorem Rc.ins {C : Addr} {H : Hp} {n : Nat} {a : Addr} {fs : List (Str × T)} (h : Rc All C H (n + 1) (.ref a) (.fds fs)) : ∃ dx vs, H a = some (.ins C dx vs) := by
  obtain ⟨l, ⟨⟨dx, tp, d, _, ea, _⟩, _, _⟩, _⟩ := Rc.out h
  exact ⟨dx, _, ea⟩
section
variable {X : Cx} {C : Addr} {k j n : Nat}
theorem op_eqRec (R : RecK X.K X.mg C) (M : EqM X.prog X.w X.K X.mg X.base C k n) (hr : Room j X.A) (hk : k ≤ j) : OpR X (compareOp .Eq) (rEqRec false C n) := by
  intro pins s σ H x y v u Q I rx ry h
  obtain ⟨f, fd, F, m, hb⟩ := M.ex
  obtain ⟨a, b, fs, gs, rfl, rfl, r1, r2, q⟩ := h
  cases rx
  cases ry
  obtain ⟨dx, vs, ea⟩ := Rc.ins r1
  obtain ⟨dy, ws, eb⟩ := Rc.ins r2
  show wpAny _ _ (richCompare .Eq (.ref a) (.ref b)) _ _ _
  exact rc_own (y := .ref b) m R.sI F ⟨hr.mono hk, rfl⟩ hb pass0 I rfl ea (.inr ⟨b, dy, _, rfl, eb⟩) ⟨a, fs, r1, .inr ⟨b, gs, rfl, r2, fun e H' he s' => ⟨e, rfl, q e H' he s'⟩⟩⟩
theorem op_neRec (R : RecK X.K X.mg C) (hn : PySem.W.findIn X.K (.ref C) "__ne__" = some (some (.builtin "object.__ne__"))) (M : EqM X.prog X.w X.K X.mg X.base C k n) (hr : Room j X.A) (hk : k + 1 ≤ j) : OpR X (compareOp .NotEq) (rEqRec true C n) := by
  intro pins s σ H x y v u Q I rx ry h
  obtain ⟨f, fd, F, m, hb⟩ := M.ex
  obtain ⟨a, b, fs, gs, rfl, rfl, r1, r2, q⟩ := h
  cases rx
  cases ry
  obtain ⟨dx, vs, ea⟩ := Rc.ins r1
  obtain ⟨dy, ws, eb⟩ := Rc.ins r2
  obtain ⟨od, J⟩ := inst I ea
  obtain ⟨oe, J2⟩ := inst I eb
  obtain ⟨m0, hF⟩ := I.fr
  have sb : Sub X (k + 1) X.A := ⟨hr.mono hk, rfl⟩
  show wpAny _ _ (richCompare .NotEq (.ref a) (.ref b)) _ _ _
  refine cmp_ne (by have := sb.in1.room.units0; exact this) hF I.ok.mod.kin J J2.type hn R.hm m.at_ m.fn (thn (run_sub (Q := fun z H' => ∃ e, z = .bl e ∧ Q (.bl (!e)) H') (vs := [V.ref a, V.ref b]) F sb.in1 hb pass0 I (.cons rfl (.cons rfl .nil)) ⟨a, fs, r1, .inr ⟨b, gs, rfl, r2, fun e H' he s' => ⟨e, rfl, q e H' he s'⟩⟩⟩) fun r s' hq => ?_)
  obtain ⟨z, H', I', rz, e, rfl, qq⟩ := hq
  cases rz
  exact ⟨e, rfl, .bl _, H', I', rfl, qq⟩
theorem op_eqVal (R : RecK X.K X.mg C) (M : EqM X.prog X.w X.K X.mg X.base C k n) (hr : Room j X.A) (hk : k ≤ j) : OpR X (compareOp .Eq) (rEqVal C n) := by
  intro pins s σ H x y v u Q I rx ry h
  obtain ⟨f, fd, F, m, hb⟩ := M.ex
  obtain ⟨t, t', r1, r2, q⟩ := h
  have sb : Sub X k X.A := ⟨hr.mono hk, rfl⟩
  refine r1.cases (fun i e1 e2 => ?_) (fun k1 a l fs en e1 e2 ra wf pm ch => ?_)
  · subst e1 e2
    refine r2.cases (fun i2 f1 f2 => ?_) (fun k2 b m' gs _ f1 f2 rb wg pg cg => ?_)
    · subst f1 f2
      refine op_eq pins s σ H _ _ v u Q I rx ry ⟨rfl, q _ H ?_ (Same.refl _)⟩
      rw [decide_eq_true_iff, sm_int]
      exact ⟨fun e => V.int.inj e, fun e => by rw [e]⟩
    · subst f1 f2
      obtain ⟨tk, rfl⟩ := rx
      cases ry
      obtain ⟨dy, ws, eb⟩ := Rc.ins r2
      show wpAny _ _ (richCompare .Eq (.int i tk) (.ref b)) _ _ _
      refine rc_int m R.sR F sb hb pass0 I eb ⟨b, gs, r2, .inl ⟨i, rfl, fun H' s' => ⟨false, rfl, q false H' ⟨(fun e => nomatch e), ?_⟩ s'⟩⟩⟩
      rintro (⟨_, _, e2⟩ | ⟨_, _, e1, _⟩)
      · cases e2
      · cases e1
  · subst e1 e2
    cases rx
    obtain ⟨dx, vs, ea⟩ := Rc.ins r1
    show wpAny _ _ (richCompare .Eq (.ref a) u) _ _ _
    refine r2.cases (fun i2 f1 f2 => ?_) (fun k2 b m' gs _ f1 f2 rb wg pg cg => ?_)
    · subst f1 f2
      refine rc_own (y := .int i2) m R.sI F sb hb pass0 I ry ea (.inl ⟨i2, rfl⟩) ⟨a, fs, r1, .inl ⟨i2, rfl, fun H' s' => ⟨false, rfl, q false H' ⟨(fun e => nomatch e), ?_⟩ s'⟩⟩⟩
      rintro (⟨_, e1, _⟩ | ⟨_, _, _, e2, _⟩)
      · cases e1
      · cases e2
    · subst f1 f2
      obtain ⟨dy, ws, eb⟩ := Rc.ins r2
      exact rc_own (y := .ref b) m R.sI F sb hb pass0 I ry ea (.inr ⟨b, dy, _, rfl, eb⟩) ⟨a, fs, r1, .inr ⟨b, gs, rfl, r2, fun e H' he s' => ⟨e, rfl, q e H' he s'⟩⟩⟩
end
/-! ### <= -/
def LeT (n : Nat) (fs gs : List (Str × T)) : Prop := ∀ x t, look x fs = some t → ∃ u, look x gs = some u ∧ GrT.Sm n t u
def spLeR (C : Addr) (n : Nat) : Sp := fun vs H Q _ => ∃ (a b : Addr) (fs gs : List (Str × T)), vs = [.ref a, .ref b] ∧ Rc All C H (n + 1) (.ref a) (.fds fs) ∧ Rc All C H (n + 1) (.ref b) (.fds gs) ∧ ∀ e H', (e = true ↔ LeT n fs gs) → Same H H' → Q (.bl e) H'
abbrev sLe : Stmt := inClass (top 10) 15
def rLeRec (C : Addr) (n : Nat) : R2 := fun x y H Q => ∃ (a b : Addr) (fs gs : List (Str × T)), x = .ref a ∧ y = .ref b ∧ Rc All C H (n + 1) (.ref a) (.fds fs) ∧ Rc All C H (n + 1) (.ref b) (.fds gs) ∧ ∀ e H', (e = true ↔ LeT n fs gs) → Same H H' → Q (.bl e) H'
theorem op_leRec {X : Cx} {C : Addr} {k j n : Nat} (M : MthX X.prog X.w X.K X.mg X.base CX0 C k "__le__" (spLeR C n)) (hr : Room j X.A) (hk : k ≤ j) : OpR X (compareOp .LtE) (rLeRec C n) := by
  intro pins s σ H x y v u Q I rx ry h
  obtain ⟨f, fd, ps, F, m, hb⟩ := M.ex
  obtain ⟨a, b, fs, gs, rfl, rfl, r1, r2, q⟩ := h
  cases rx
  cases ry
  obtain ⟨dx, vs, ea⟩ := Rc.ins r1
  obtain ⟨dy, ws, eb⟩ := Rc.ins r2
  obtain ⟨od, J⟩ := inst I ea
  obtain ⟨oe, J2⟩ := inst I eb
  obtain ⟨m0, hF⟩ := I.fr
  show wpAny _ _ (richCompare .LtE (.ref a) (.ref b)) _ _ _
  refine PySem.W.cmp_K (op := .LtE) (tb := .ref C) (hr.units0) hF I.ok.mod.kin J J2.type (by simp [PySem.W.notFirst]) m.at_ m.fn ?_
  refine thn (run_at (vs := [V.ref a, V.ref b]) (Q := fun z H' => ∃ e, z = .bl e ∧ Q (.bl e) H') F (hr.mono hk) I.env0 hb pass0 I (.cons rfl (.cons rfl .nil)) ⟨a, b, fs, gs, rfl, r1, r2, fun e H' he s' => ⟨e, rfl, q e H' he s'⟩⟩) fun r s' hq => ?_
  obtain ⟨z, H', I', rz, e, rfl, qq⟩ := hq
  cases rz
  exact ⟨.bl e, H', I', rfl, qq⟩
section
variable {P : Program} {w : World} {K : PySem.W.Frag} {mg : Str → Option Value} {base : Heap} {C : Addr}
theorem scLe : FnScope ["self", "other", "name"] ["self", "other"] (defScope sLe) := ⟨rfl, rfl, rfl, by decide +kernel, rfl, by decide +kernel, by decide +kernel⟩
theorem fn_le (T : Bu mg) (ba : mg "all" = none) (R : RecK K mg C) {k n : Nat} (M : EqM P w K mg base C k n) {f : Addr} {fd : FuncData} (F : L2.Fun K "__le__" "Record.__le__" sLe f fd) : FnOk P w K mg base CX0 (k + 1) f fd ["self", "other"] (spLeR C (n + 1)) := by
  refine F.ok scLe (fun vs H Q E h => ?_) (fun cdv A outer s H vs Q E hr h => ?_)
  · obtain ⟨a, b, fs, gs, rfl, _⟩ := h
    rfl
  · obtain ⟨a, b, fs, gs, rfl, r1, r2, q⟩ := h
    have hu := hu_of hr
    obtain ⟨l, ⟨⟨dx, tp, d1, _, ea, et, ed1⟩, nl, sl⟩, wf, pm, ch⟩ := Rc.out r1
    obtain ⟨m, ⟨⟨dy, tq, d2, _, eb, _, ed2⟩, nm, _⟩, wg, pg, cg⟩ := Rc.out r2
    refine ⟨_, (pss_one (ps_ret (pe_callB (cr_all rfl) (by rfl) ba (by decide +kernel) (pa_cons (pe_lc (own := [("name", 2)]) (g := gName 2) (tt := tYes) rfl scLe.nd (pi_tup (pe_fld (pv 0) rfl)) (blkOk_by (own := [("name", 2)]) (N := ["self", "other", "name"]) (sc := defScope sLe) (by decide +kernel)) (fun _ _ _ _ _ => pg_name (i := 2) scLe.nd rfl (Or.inl rfl)) (fun _ _ _ _ _ => pts_nil)
      (fun _ _ _ _ _ => (by exact (pe_and (pe_cmp (pc_din hu (pv 2) (pe_fldK (K := K) rfl (pv 1) rfl))) (pe_one (pe_cmpR (op_eqVal R M hr (by omega)) (pe_dget hu (pe_fldK (K := K) rfl (pv 0) rfl) (pv 2) (fun _ _ => rfl)) (pe_dget hu (pe_fldK (K := K) rfl (pv 1) rfl) (pv 2) (fun _ _ => rfl)) (nomark _))))))) pa_nil)))), ?_⟩
    have gm : ∀ x, look x m = none → look x gs = none := fun x e => look_none.mpr fun z => look_none.mp e (pg.mem_iff.mpr z)
    refine ⟨_, rfl, a, C, dx, _, _, rfl, ea, R.cl, R.nN, rf_names _ _ _, tp, rfl, ⟨_, SqT.of et⟩, fun Z hZ => lc_it (walk_tup (xs := (names l).map V.str)) (fun i H5 => ∃ bs : List Bool, H5 Z = some (.lst (bs.map V.bl)) ∧ bs.length = i ∧ (bs.all id = true ↔ ∀ x t, look x fs = some t → x ∈ (names l).take i → ∃ u, look x gs = some u ∧ GrT.Sm (n + 1) t u) ∧ Same H H5)
      ⟨[], upd_same, rfl, ⟨fun _ x t _ hx => by simp at hx, fun _ => rfl⟩, Same.new (Same.refl _) hZ⟩ (fun i H5 _ h => ?_) ?_ ?_⟩
    · obtain ⟨_, _, _, _, sm⟩ := h
      exact SqT.of (sm _ _ et)
    · rintro i y H5 H6 hi ⟨bs, e1, e2, e3, sm⟩ ⟨rfl, hy⟩
      obtain ⟨x, hx, rfl⟩ : ∃ x, (names l)[i]? = some x ∧ y = V.str x := by
        rw [List.getElem?_map] at hy
        cases e : (names l)[i]? with
        | none =>
          rw [e] at hy
          cases hy
        | some x =>
          rw [e] at hy
          exact ⟨x, rfl, (Option.some.inj hy).symm⟩
      have hxm : x ∈ names l := List.mem_of_getElem? hx
      obtain ⟨v, hv⟩ := look_some hxm
      obtain ⟨t, ht⟩ := look_some (pm.mem_iff.mp hxm)
      have hln := wf.ln
      have hll : (names l).length = fs.length := by rw [pm.length_eq, List.length_map]
      have hil : i < (names l).length := by rw [List.length_map] at hi; exact hi
      have fin : ∀ (e : Bool) H7, (e = true ↔ ∃ u, look x gs = some u ∧ GrT.Sm (n + 1) t u) → Same H6 H7 → ∃ acc, H7 Z = some (.lst acc) ∧ acc.length < sizeLine ∧ ∃ bs' : List Bool, (upd H7 Z (.lst (acc ++ [V.bl e]))) Z = some (.lst (bs'.map V.bl)) ∧ bs'.length = i + 1 ∧
          (bs'.all id = true ↔ ∀ x t, look x fs = some t → x ∈ (names l).take (i + 1) → ∃ u, look x gs = some u ∧ GrT.Sm (n + 1) t u) ∧ Same H (upd H7 Z (.lst (acc ++ [V.bl e]))) := fun e H7 he s7 => by
        refine ⟨_, s7 _ _ e1, line_big (by rw [List.length_map, e2]; omega), bs ++ [e], by rw [upd_same, List.map_append]; rfl, by rw [List.length_append, e2]; rfl, ?_, fun c o hc => by rw [upd_ne (ne_of_none hc hZ)]; exact s7 _ _ (sm _ _ hc)⟩
        rw [List.all_append, Bool.and_eq_true, e3, List.take_add_one, hx, Option.toList_some]
        have one : ([e].all id = true) ↔ e = true := by simp
        rw [one, he]
        constructor
        · rintro ⟨g1, g2⟩ z tz hz hm
          rcases List.mem_append.mp hm with hm | hm
          · exact g1 z tz hz hm
          · rw [List.mem_singleton.mp hm] at hz ⊢
            rw [ht] at hz
            cases hz
            exact g2
        · exact fun g => ⟨fun z tz hz hm => g z tz hz (List.mem_append_left _ hm), g x t ht (List.mem_append_right _ (List.mem_singleton.mpr rfl))⟩
      refine ⟨rfl, iteT (A := _) (B := True) (iteT ⟨_, rfl, _, rfl, b, C, dy, _, _, rfl, sm _ _ eb, R.cl, R.nF, rf_fields _ _ _, d2, _, rfl, DGet.k (k := Sum.inr x) (sm _ _ ed2), ?_⟩)⟩
      rw [dk_val]
      cases hy2 : look x m with
      | none =>
        exact ⟨_, rfl, iteF (fin false H6 ⟨(fun e => nomatch e), fun ⟨u, hu, _⟩ => by rw [gm x hy2] at hu; cases hu⟩ (Same.refl _))⟩
      | some y =>
        obtain ⟨u, hu⟩ := look_some (pg.mem_iff.mp (List.mem_map.mpr ⟨_, look_mem hy2, rfl⟩ : x ∈ names m) )
        have g1 := DGet.k (k := Sum.inr x) (sm _ _ ed1)
        rw [dk_val, hv] at g1
        have g2 := DGet.k (k := Sum.inr x) (sm _ _ ed2)
        rw [dk_val, hy2] at g2
        refine ⟨_, rfl, iteT ⟨_, rfl, a, C, dx, _, _, rfl, sm _ _ ea, R.cl, R.nF, rf_fields _ _ _, _, rfl, d1, v, rfl, g1, _, rfl, b, C, dy, _, _, rfl, sm _ _ eb, R.cl, R.nF, rf_fields _ _ _, _, rfl, d2, y, rfl, g2, t, u, (ch x v t hv ht).same sm, (cg x y u hy2 hu).same sm, fun e H7 he s7 => fin e H7 (he.trans ⟨fun z => ⟨u, hu, z⟩, fun ⟨u', hu', z⟩ => by rw [hu] at hu'; cases hu'; exact z⟩) s7⟩⟩
    · rintro H5 ⟨bs, e1, e2, e3, sm⟩
      refine ⟨Z, _, rfl, .of e1, q _ _ (e3.trans ?_) sm⟩
      constructor
      · intro g x t ht
        exact g x t ht (by rw [List.length_map, List.take_length]; exact pm.mem_iff.mpr (List.mem_map.mpr ⟨_, look_mem ht, rfl⟩))
      · intro g x t ht _
        exact g x t ht
end
end Lw
namespace Qd
open PySem PySem.W PySem.Spec PyProof.Rows L2 GrOwn
/-! ### str and format of an own instance -/
section
variable {prog : Program} {w : World} {A : Around} {E : Value → Shared → Prop} {s : Shared} {K : Frag} {x C f : Addr} {ox : Obj} {od : Option Obj} {name : Str}
theorem callSpecial_own {M : Model} {args : List Value} {Q : Option Value → Shared → Prop} (X : K.In s.heap) (I : InstAt s.heap x ox C od) (hs : findIn K (.ref C) name = some (some (.ref f))) (hf : isFn K (.ref f) = true)
    (h : wpAny M A (call (.ref f) (.ref x :: args)) (fun v => Q (some v)) E s) : wpAny M A (callSpecial? (.ref x) name args) Q E s := by
  unfold callSpecial?
  refine wpAny_bind (wpAny_bind (I.type.here ((looks_findIn X hs).here ?_)))
  refine wpAny_holding (wpAny_bind ((bind_fn X _ (beq_iff_eq.mp hf)).here ?_))
  exact wpAny_bind (wpAny_mono h (fun v s' q => wpAny_pure q) fun _ _ e => e)
theorem str_own {Q : Value → Shared → Prop} (X : K.In s.heap) (I : InstAt s.heap x ox C od) (hs : findIn K (.ref C) "__str__" = some (some (.ref f))) (hf : isFn K (.ref f) = true) (hu : A.units < cLine)
    (h : wpAny (model prog w) A (call (.ref f) [.ref x]) (fun v s' => ∃ y t, v = .str y t ∧ Q (.str y t) s') E s) : wpAny (model prog w) A (pyStrObj (.ref x)) Q E s := by
  unfold pyStrObj
  refine wpAny_bind (wpAny_cRoomFor hu ?_)
  refine wpAny_bind (callSpecial_own X I hs hf (wpAny_mono h (fun v s' q => ?_) fun _ _ e => e))
  obtain ⟨y, t, rfl, q⟩ := q
  have hi : isInstance (.str y t) (.type "str") = pure true := by
    unfold isInstance
    show (isSubtype (.type "str") (.type "str") : Sem Bool) = pure true
    rw [isSubtype_type]
    kernel_rfl
  show wpAny (model prog w) A (isInstance (.str y t) (.type "str") >>= _) Q E s'
  rw [hi]
  exact wpAny_bind (wpAny_pure (wpAny_pure q))
theorem of_slot : Slot "object" "__format__" "object.__format__" :=
  Slot.of (T := "object") (name := "__format__") (owner := "object") (n := "__format__") (by rw [typeLookup_type, builtinLookup_eq_fast]; kernel_rfl) (by decide +kernel) (by decide +kernel) (by decide +kernel) (.inr (by decide +kernel)) (by rw [isSubtype_type]; kernel_rfl)
theorem of_entry : entryFor table "object.__format__" = some Builtin.«object.__format__» := entryFor_of_tree (by kernel_rfl)
theorem of_kind : builtinKind "object.__format__" = some .method := by decide +kernel
theorem of_split : splitId "object.__format__" = some ("object", "__format__") := by decide +kernel
theorem of_args (a b : Value) : argsOk "object.__format__" ⟨[a, b], []⟩ := by unfold argsOk; kernel_rfl
theorem check_method {M : Model} {i owner n : String} {self : Value} {rest : List Value} {kw : List (Str × Value)} {Q : Unit → Shared → Prop}
    (hk : builtinKind i = some .method) (hs : splitId i = some (owner, n)) (hi : Looks M s.heap (isInstance self (.type owner)) true) (ha : argsOk i ⟨self :: rest, kw⟩) (q : Q () s) :
    wpAny M A (checkBuiltinCall i ⟨self :: rest, kw⟩) Q E s := by
  simp only [checkBuiltinCall, hk, hs]
  refine wpAny_bind (hi.here ?_)
  simp only [Bool.not_true, Bool.false_eq_true, if_false]
  cases hsig : Manifest.signature? i with
  | none => exact wpAny_pure q
  | some sig =>
    simp only [argsOk, hsig] at ha
    have h2 : Bind.checkArgs i sig ⟨self :: rest, kw⟩ = pure () := ha
    show wpAny M A (Bind.checkArgs i sig ⟨self :: rest, kw⟩) Q E s
    rw [h2]
    exact wpAny_pure q
theorem format_entry {t0 : Tok} {Q : Fin → Shared → Prop} (h : wpAny (model prog w) A (pyStrObj (.ref x)) (fun v s' => Q (.done (.ret v)) s') E s) :
    wpAny (model prog w) A (Builtin.«object.__format__» ⟨[.ref x, .str Str.empty t0], []⟩) Q E s := by
  unfold Builtin.«object.__format__»
  repeat (first | with_reducible refine wpAny_bind (wpAny_mono h (fun v s' q => ?_) fun _ _ e => e) | wp_step)
  exact q
theorem callSpecial_fmt {M : Model} {args : List Value} {Q : Option Value → Shared → Prop} (X : K.In s.heap) (I : InstAt s.heap x ox C od) (hs : findIn K (.ref C) "__format__" = some (some (.builtin "object.__format__")))
    (h : wpAny M A (call (.builtin "object.__format__") (.ref x :: args)) (fun v => Q (some v)) E s) : wpAny M A (callSpecial? (.ref x) "__format__" args) Q E s := by
  unfold callSpecial?
  refine wpAny_bind (wpAny_bind (I.type.here ((looks_findIn X hs).here ?_)))
  refine wpAny_holding ?_
  simp only [of_slot.bind]
  refine wpAny_bind (wpAny_pure ?_)
  exact wpAny_bind (wpAny_mono h (fun v s' q => wpAny_pure q) fun _ _ e => e)
end
end Qd
namespace Qd
open PySem PySem.W PySem.Spec PyProof.Rows L2 GrOwn
section
variable {prog : Program} {w : World} {A : Around} {E : Value → Shared → Prop} {s : Shared} {K : Frag} {x C f : Addr} {ox : Obj} {od : Option Obj} {name : Str}
/-- object.__format__ of an own instance, with no spec -/
theorem call_fmt {Q : Value → Shared → Prop} {t0 : Tok} (X : K.In s.heap) (I : InstAt s.heap x ox C od) (hm : mroIn K C (.type "object") = some true) (hs : findIn K (.ref C) "__str__" = some (some (.ref f))) (hf : isFn K (.ref f) = true) (hu : A.units + 1 < cLine)
    (h : wpAny (model prog w) A.in1 (call (.ref f) [.ref x]) (fun v s' => ∃ y t, v = .str y t ∧ Q (.str y t) s') E s) : wpAny (model prog w) A (call (.builtin "object.__format__") [.ref x, .str Str.empty t0]) Q E s := by
  have inst : Looks (model prog w) s.heap (isInstance (.ref x) (.type "object")) true := I.type.andThen (looks_subIn X hm)
  refine wpAny_call (codeAny_call_builtin of_slot.plain of_entry ?_)
  refine check_method (i := "object.__format__") (owner := "object") (n := "__format__") (self := .ref x) (rest := [.str Str.empty t0]) (kw := []) of_kind of_split inst (of_args (.ref x) (.str Str.empty t0)) ?_
  refine format_entry (str_own X I hs hf (by show A.units + 1 < cLine; exact hu) (wpAny_mono h (fun v s' q => ?_) fun _ _ e => e))
  obtain ⟨y, t, rfl, q⟩ := q
  exact ⟨y, t, rfl, q⟩
theorem fmt_own {Q : Value → Shared → Prop} (X : K.In s.heap) (I : InstAt s.heap x ox C od) (hfm : findIn K (.ref C) "__format__" = some (some (.builtin "object.__format__"))) (hm : mroIn K C (.type "object") = some true) (hs : findIn K (.ref C) "__str__" = some (some (.ref f))) (hf : isFn K (.ref f) = true) (hu : A.units + 1 < cLine)
    (h : wpAny (model prog w) A.in1 (call (.ref f) [.ref x]) (fun v s' => ∃ y t, v = .str y t ∧ Q (.str y t) s') E { s with toks := s.toks + 1 }) : wpAny (model prog w) A (formatField (.ref x) Str.empty) Q E s := by
  show wpAny (model prog w) A (holding [.ref x] (pyFormat (.ref x) Str.empty)) Q E s
  refine wpAny_holding ?_
  unfold pyFormat
  refine wpAny_bind ?_
  refine wpAny_mkStr ?_ (Nat.zero_le _)
  refine wpAny_bind (callSpecial_fmt X I hfm (call_fmt X I hm hs hf hu (wpAny_mono h (fun v s' q => ?_) fun _ _ e => e)))
  obtain ⟨y, t, rfl, q⟩ := q
  refine ⟨y, t, rfl, ?_⟩
  have hi : isInstance (.str y t) (.type "str") = pure true := by
    unfold isInstance
    show (isSubtype (.type "str") (.type "str") : Sem Bool) = pure true
    rw [isSubtype_type]
    kernel_rfl
  show wpAny (model prog w) A (isInstance (.str y t) (.type "str") >>= _) Q E s'
  rw [hi]
  exact wpAny_bind (wpAny_pure (wpAny_pure q))
end
end Qd
namespace Lw
open PySem PySem.Spec PyProof.Rows L2 GrT GrOwn Qd
/-- {x}: an int, or an own instance by its own __str__ -/
def tFmtO (C : Addr) (sp : Sp) (te : TE) : TE := fun σ H Q => te σ H fun x H1 => (∃ i : Int, x = .int i ∧ i.natAbs.log2 < 1920 ∧ Q (.str (toString i)) H1) ∨
  ∃ a dx fs, x = .ref a ∧ H1 a = some (.ins C dx fs) ∧ sp [.ref a] H1 (fun v H' => ∃ y : Str, v = .str y ∧ Q (.str y) H') E0
theorem pe_fmtO {X : Cx} {C f : Addr} {fd : FuncData} {k j : Nat} {sp : Sp} {e : Expr} {te : TE} {pos : Pos} (hfm : PySem.W.findIn X.K (.ref C) "__format__" = some (some (.builtin "object.__format__"))) (hm : PySem.W.mroIn X.K C (.type "object") = some true) (m : GrOwn.Sm X.K C "__str__" f)
    (F : FnOk X.prog X.w X.K X.mg X.base CX0 k f fd ["self"] sp) (hb : Binds X.K fd ["self"] []) (hr : Room j X.A) (hk : k + 1 ≤ j) (he : PE X e te) : PE X (.FormattedValue e (-1) none pos) (tFmtO C sp te) := by
  refine ⟨fun pins s σ H Q I h => ?_⟩
  refine wpAny_FormattedValue_plain (thn (he.run pins s σ H _ I h) fun v s1 hv => ?_)
  obtain ⟨x, H1, I1, r1, q⟩ := hv
  rcases q with ⟨i, rfl, hz, q⟩ | ⟨a, dx, fs, rfl, ea, q⟩
  · obtain ⟨t, rfl⟩ := r1
    exact wpAny_formatField_int hz ⟨.str (toString i), H1, I1.tok _, ⟨_, rfl⟩, q⟩
  · cases r1
    have I2 := I1.tok (s1.toks + 1)
    obtain ⟨od, J⟩ := inst I1 ea
    have sb : Sub X (k + 1) X.A := ⟨hr.mono hk, rfl⟩
    refine fmt_own I1.kIn J hfm hm m.at_ m.fn (by have := sb.in1.room.units0; exact this) (thn (run_sub (Q := fun z H' => ∃ y : Str, z = .str y ∧ Q (.str y) H') (vs := [V.ref a]) F sb.in1 hb pass0 I2 (.cons rfl .nil) q) fun r s' hq => ?_)
    obtain ⟨z, H', I', rz, y, rfl, qq⟩ := hq
    obtain ⟨t, rfl⟩ := rz
    exact ⟨y, t, rfl, .str y, H', I', ⟨t, rfl⟩, qq⟩
end Lw
namespace Ra
open PySem PySem.W PySem.Calls PyProof.Rows PyProof.V PySem.Spec
/-! ### == and != of ints and dicts among one another: nothing is changed -/
section
variable {prog : Program} {w : World} {A : Around} {s : Shared}
theorem int_eq_dict {a : Int} {t : Tok} {l : Addr} {ox : Obj} {es : Array DictEntry} {ep : Nat} {E Q : Value → Shared → Prop} (ho : s.heap.get? l = some ox) (hd : ox.data = .dict es ep) (h : Q .notImplemented s) :
    wpAny (model prog w) A (call (.builtin "int.__eq__") [.int a t, .ref l]) Q E s := by
  refine GQ.call_here PySem.F.slot_int_eq (typeIs_int s a t) PySem.F.entry_int_eq (PySem.F.args_int_eq_2 _ _) ?_
  obtain ⟨hp, g, d, tk, os⟩ := s
  obtain ⟨oc, od, oda, osl⟩ := ox
  dsimp only at hd
  subst hd
  wp_walk
  exact h
theorem int_ne_dict {a : Int} {t : Tok} {l : Addr} {ox : Obj} {es : Array DictEntry} {ep : Nat} {E Q : Value → Shared → Prop} (ho : s.heap.get? l = some ox) (hd : ox.data = .dict es ep) (h : Q .notImplemented s) :
    wpAny (model prog w) A (call (.builtin "int.__ne__") [.int a t, .ref l]) Q E s := by
  refine GQ.call_here PySem.F.slot_int_ne (typeIs_int s a t) PySem.F.entry_int_ne (PySem.F.args_int_ne_2 _ _) ?_
  obtain ⟨hp, g, d, tk, os⟩ := s
  obtain ⟨oc, od, oda, osl⟩ := ox
  dsimp only at hd
  subst hd
  wp_walk
  exact h
theorem dict_eq_int {l : Addr} {b : Int} {u : Tok} {E Q : Value → Shared → Prop} (tl : s.TypeIs (.ref l) "dict") (h : Q .notImplemented s) :
    wpAny (model prog w) A (call (.builtin "dict.__eq__") [.ref l, .int b u]) Q E s := by
  refine wpAny_call_entry PySem.F.slot_dict_eq tl PySem.F.entry_dict_eq ?_ (PySem.F.args_dict_eq_2 _ _)
  show wpAny _ _ (Builtin.Dict.dictSlotArgs "__eq__" ⟨[.ref l, .int b u], []⟩ >>= _) _ _ s
  refine wpAny_bind ?_
  unfold Builtin.Dict.dictSlotArgs
  refine wpAny_bind (wpAny_notOrdered_dict tl ?_)
  show wpAny _ _ (pure (Value.ref l, Value.int b u)) _ _ s
  refine wpAny_pure ?_
  refine wpAny_bind (wpAny_isInstance (T := "int") (typeIs_int s b u) PySem.F.sub_int_dict ?_)
  simp only [Bool.not_false, if_true]
  exact wpAny_bind (wpAny_rule (wpAny_bind (wpAny_pure (wpAny_pure ⟨_, rfl, h⟩))))
theorem dict_ne_int {l : Addr} {b : Int} {u : Tok} {E Q : Value → Shared → Prop} (tl : s.TypeIs (.ref l) "dict") (h : Q .notImplemented s) :
    wpAny (model prog w) A (call (.builtin "dict.__ne__") [.ref l, .int b u]) Q E s := by
  refine wpAny_call_entry PySem.F.slot_dict_ne tl PySem.F.entry_dict_ne ?_ (PySem.F.args_dict_ne_2 _ _)
  show wpAny _ _ (Builtin.Dict.dictSlotArgs "__ne__" ⟨[.ref l, .int b u], []⟩ >>= _) _ _ s
  refine wpAny_bind ?_
  unfold Builtin.Dict.dictSlotArgs
  refine wpAny_bind (wpAny_notOrdered_dict tl ?_)
  show wpAny _ _ (pure (Value.ref l, Value.int b u)) _ _ s
  refine wpAny_pure ?_
  refine wpAny_bind (wpAny_isInstance (T := "int") (typeIs_int s b u) PySem.F.sub_int_dict ?_)
  simp only [Bool.not_false, if_true]
  exact wpAny_bind (wpAny_rule (wpAny_bind (wpAny_pure (wpAny_pure ⟨_, rfl, h⟩))))
theorem rc_ne_decline {M : Model} {E : Value → Shared → Prop} {a b : Value} {Ta Tb ida idb : String} {k : Bool} {Q : Value → Shared → Prop} (ha : s.TypeIs a Ta) (hb : s.TypeIs b Tb)
    (hne : (Value.type Ta != Value.type Tb) = true) (hsub : isSubtype (.type Tb) (.type Ta) = pure false) (h1 : Slot Ta (cmpInfo .NotEq).2.1 ida) (h2 : Slot Tb (cmpInfo .NotEq).2.2 idb)
    (hc1 : ∀ Q' : Value → Shared → Prop, Q' .notImplemented s → wpAny M A (call (.builtin ida) [a, b]) Q' E s)
    (hc2 : ∀ Q' : Value → Shared → Prop, Q' .notImplemented s → wpAny M A (call (.builtin idb) [b, a]) Q' E s)
    (hk : ∀ Q' : Bool → Shared → Prop, Q' k s → wpAny M A (isSame a b) Q' E s)
    (hr : [a, b].any Value.onHeap = false ∨ A.units < cLine) (h : Q (.bool (!k)) s) : wpAny M A (richCompare .NotEq a b) Q E s := by
  rcases hi : cmpInfo CmpOp.NotEq with ⟨sym, f, r⟩
  rw [hi] at h1 h2
  simp only [richCompare, hi, ha.oneThing_none]
  try with_reducible refine wpAny_holding ?_
  refine wpAny_bind (wpAny_cRoomFor_or hr ?_)
  refine wpAny_bind (wpAny_typeOf ha (wpAny_bind (wpAny_typeOf hb ?_)))
  simp only [hne, if_true]
  refine wpAny_bind (wpAny_of_eq hsub ?_)
  simp only [Bool.false_eq_true, if_false, Bool.not_false, if_true]
  refine wpAny_bind (m := tryCompare a _ b) (wpAny_tryCompare_declines ha h1 (hc1 _ ⟨rfl, ?_⟩))
  refine wpAny_bind (m := tryCompare b _ a) (wpAny_tryCompare_declines hb h2 (hc2 _ ⟨rfl, ?_⟩))
  exact wpAny_bind (wpAny_rule (wpAny_bind (hk _ (wpAny_pure h))))
section
variable {K : Type} [DecidableEq K] {knd : KeyKind prog w K} {l : Addr} {ka kb : List (K × Value)} {i : Int} {t : Tok}
theorem rc_di (da : s.heap.DictOf knd l ka) (hu : A.units < cLine) (E Q : Value → Shared → Prop) (h : Q (.bool false) s) : wpAny (model prog w) A (richCompare .Eq (.ref l) (.int i t)) Q E s := by
  obtain ⟨o, es, ep, ho, hc, hd, _⟩ := id da
  exact SeqAt.rc_eq_decline_or (k := false) da.typeIs (typeIs_int s i t) (by decide) PySem.F.sub_int_dict PySem.F.slot_dict_eq PySem.F.slot_int_eq_refl
    (fun _ hq => dict_eq_int da.typeIs hq) (fun _ hq => int_eq_dict ho hd hq) (fun _ hq => wpAny_of_eq (rfl : isSame (.ref l) (.int i t) = pure false) hq) (.inr hu) h
theorem rc_id (da : s.heap.DictOf knd l ka) (hu : A.units < cLine) (E Q : Value → Shared → Prop) (h : Q (.bool false) s) : wpAny (model prog w) A (richCompare .Eq (.int i t) (.ref l)) Q E s := by
  obtain ⟨o, es, ep, ho, hc, hd, _⟩ := id da
  exact SeqAt.rc_eq_decline_or (k := false) (typeIs_int s i t) da.typeIs (by decide) PySem.F.sub_dict_int PySem.F.slot_int_eq PySem.F.slot_dict_eq_refl
    (fun _ hq => int_eq_dict ho hd hq) (fun _ hq => dict_eq_int da.typeIs hq) (fun _ hq => wpAny_of_eq (rfl : isSame (.int i t) (.ref l) = pure false) hq) (.inr hu) h
theorem rcn_di (da : s.heap.DictOf knd l ka) (hu : A.units < cLine) (E Q : Value → Shared → Prop) (h : Q (.bool true) s) : wpAny (model prog w) A (richCompare .NotEq (.ref l) (.int i t)) Q E s := by
  obtain ⟨o, es, ep, ho, hc, hd, _⟩ := id da
  exact rc_ne_decline (k := false) da.typeIs (typeIs_int s i t) (by decide) PySem.F.sub_int_dict PySem.F.slot_dict_ne PySem.F.slot_int_ne_refl
    (fun _ hq => dict_ne_int da.typeIs hq) (fun _ hq => int_ne_dict ho hd hq) (fun _ hq => wpAny_of_eq (rfl : isSame (.ref l) (.int i t) = pure false) hq) (.inr hu) h
theorem rcn_id (da : s.heap.DictOf knd l ka) (hu : A.units < cLine) (E Q : Value → Shared → Prop) (h : Q (.bool true) s) : wpAny (model prog w) A (richCompare .NotEq (.int i t) (.ref l)) Q E s := by
  obtain ⟨o, es, ep, ho, hc, hd, _⟩ := id da
  exact rc_ne_decline (k := false) (typeIs_int s i t) da.typeIs (by decide) PySem.F.sub_dict_int PySem.F.slot_int_ne PySem.F.slot_dict_ne_refl
    (fun _ hq => int_ne_dict ho hd hq) (fun _ hq => dict_ne_int da.typeIs hq) (fun _ hq => wpAny_of_eq (rfl : isSame (.int i t) (.ref l) = pure false) hq) (.inr hu) h
theorem rcn_dd {a b : Addr} {r : Bool} (ha : (a == sysModules) = false) (hb : (b == sysModules) = false)
    (da : s.heap.DictOf knd a ka) (db : s.heap.DictOf knd b kb) (hu : A.units < cLine) (hits : ka.length = kb.length → KeqHitsP prog w A.in1 s kb ka r) (E Q : Value → Shared → Prop) (h : Q (.bool (!(ka.length == kb.length && r))) s) : wpAny (model prog w) A (richCompare .NotEq (.ref a) (.ref b)) Q E s := by
  refine wpAny_richCompare_same_room (op := .NotEq) da.typeIs db.typeIs PySem.F.slot_dict_ne (wpAny_call_entry PySem.F.slot_dict_ne da.typeIs PySem.F.entry_dict_ne ?_ (PySem.F.args_dict_ne_2 _ _)) hu
  show wpAny _ _ (Builtin.Dict.dictSlotArgs "__ne__" ⟨[.ref a, .ref b], []⟩ >>= _) _ _ s
  refine wpAny_bind ?_
  unfold Builtin.Dict.dictSlotArgs
  refine wpAny_bind (wpAny_notOrdered_dict da.typeIs ?_)
  show wpAny _ _ (pure (Value.ref a, Value.ref b)) _ _ s
  refine wpAny_pure ?_
  refine wpAny_bind (wpAny_isInstance (T := "dict") db.typeIs PySem.F.sub_dict_dict ?_)
  simp only [Bool.not_true, Bool.false_eq_true, if_false]
  refine wpAny_bind (wpAny_pure (wpAny_bind (wpAny_pure ?_)))
  refine wpAny_bind (samePairsP ha hb da db hits ?_)
  refine wpAny_pure ⟨_, rfl, ?_, ?_⟩
  · exact fun x => nomatch x
  · simpa using h
end
end
end Ra
namespace Lw
open PySem PySem.Spec PyProof.Rows L2 GrT GrOwn Qd Ra
open Classical in
/-- alike up to order, decided -/
noncomputable def smB (n : Nat) (t u : T) : Bool := decide (GrT.Sm n t u)
theorem smB_iff {n : Nat} {t u : T} : smB n t u = true ↔ GrT.Sm n t u := by
  unfold smB
  rw [@decide_eq_true_iff _ (Classical.propDecidable _)]
theorem smB_int {n : Nat} {i j : Int} : smB n (.int i) (.int j) = (i == j) := by
  rw [Bool.eq_iff_iff, smB_iff, beq_iff_eq]
  constructor
  · intro h
    cases n with
    | zero =>
      obtain ⟨k, e1, e2⟩ := h
      cases e1
      cases e2
      rfl
    | succ n =>
      rcases h with ⟨k, e1, e2⟩ | ⟨_, _, e1, _⟩
      · cases e1
        cases e2
        rfl
      · cases e1
  · intro e
    rw [e]
    exact Sm.int j
theorem smB_id {n : Nat} {i : Int} {fs : List (Str × T)} : smB n (.int i) (.fds fs) = false := by
  rw [← Bool.not_eq_true, smB_iff]
  intro h
  cases n with
  | zero =>
    obtain ⟨k, e1, e2⟩ := h
    cases e2
  | succ n =>
    rcases h with ⟨k, e1, e2⟩ | ⟨_, _, e1, _⟩
    · cases e2
    · cases e1
theorem smB_di {n : Nat} {i : Int} {fs : List (Str × T)} : smB n (.fds fs) (.int i) = false := by
  rw [← Bool.not_eq_true, smB_iff]
  intro h
  cases n with
  | zero =>
    obtain ⟨k, e1, e2⟩ := h
    cases e1
  | succ n =>
    rcases h with ⟨k, e1, e2⟩ | ⟨_, _, _, e2, _⟩
    · cases e1
    · cases e2
/-- a field of fs is there in gs, and alike -/
noncomputable def tstT (n : Nat) (gs : List (Str × T)) (p : Str × T) : Bool := match look p.1 gs with
  | none => false
  | some u => smB n p.2 u
theorem all_sm {n : Nat} {fs gs : List (Str × T)} (nf : (names fs).Nodup) (ng : (names gs).Nodup) : ((fs.length == gs.length) && fs.all (tstT n gs)) = smB (n + 1) (.fds fs) (.fds gs) := by
  rw [Bool.eq_iff_iff, smB_iff, Bool.and_eq_true, beq_iff_eq, List.all_eq_true]
  constructor
  · rintro ⟨h1, h2⟩
    have hh : ∀ x t, look x fs = some t → ∃ u, look x gs = some u ∧ GrT.Sm n t u := fun x t hx => by
      have := h2 (x, t) (look_mem hx)
      unfold tstT at this
      cases e : look x gs with
      | none =>
        rw [show look (x, t).1 gs = none from e] at this
        cases this
      | some u =>
        rw [show look (x, t).1 gs = some u from e] at this
        exact ⟨u, rfl, smB_iff.mp this⟩
    have pn : (names fs).Perm (names gs) := perm_of nf ng (by rw [List.length_map, List.length_map]; exact h1) fun x hx => by
      obtain ⟨t, ht⟩ := look_some hx
      obtain ⟨u, hu, _⟩ := hh x t ht
      exact List.mem_map.mpr ⟨_, look_mem hu, rfl⟩
    refine .inr ⟨fs, gs, rfl, rfl, nf, pn, fun x t u h3 h4 => ?_⟩
    obtain ⟨u', h5, h6⟩ := hh x t h3
    rw [h5] at h4
    cases h4
    exact h6
  · intro h
    rcases h with ⟨i, e, _⟩ | ⟨fs', gs', e1, e2, nd, pn, ch⟩
    · cases e
    · cases e1
      cases e2
      refine ⟨by have := pn.length_eq; rwa [List.length_map, List.length_map] at this, fun p hp => ?_⟩
      obtain ⟨x, t⟩ := p
      have ht := mem_look nf hp
      obtain ⟨u, hu⟩ := look_some (pn.mem_iff.mp (List.mem_map.mpr ⟨_, hp, rfl⟩))
      have hu' : look x gs = some u := hu
      unfold tstT
      rw [show look (x, t).1 gs = some u from hu]
      exact smB_iff.mpr (ch x t u ht hu')
theorem Sm.rfl' {S : Addr → Prop} {H : Hp} {L : Nat} : ∀ {n : Nat} {v : V} {t : T}, Tr S H L n v t → GrT.Sm n t t
  | 0, v, t, ⟨i, _, e⟩ => ⟨i, e, e⟩
  | n + 1, v, t, h => by
    rcases h with ⟨i, _, e⟩ | ⟨a, l, fs, e1, e2, es, e3, e4, e5⟩
    · exact .inl ⟨i, e, e⟩
    · refine .inr ⟨fs, fs, e2, e2, e4.nd, .refl _, fun x v w h1 h2 => ?_⟩
      rw [h1] at h2
      cases h2
      obtain ⟨y, _, r⟩ := e5.get h1
      exact Sm.rfl' r
theorem hits_T {P : Program} {w : World} {A : Around} {s : Shared} {S S' : Addr → Prop} {H : Hp} {L L' n : Nat} (ih : ∀ x y v u t t', Tr S H L n x t → Tr S' H L' n y t' → RelV x v → RelV y u → SeqAt.EqP P w A s v u (smB n t t'))
    {m : List (Str × V)} {gs : List (Str × T)} (am : Al (Tr S' H L' n) m gs) {vb : List (Key × Value)} (rb : KV (dk m) vb) :
    ∀ {l : List (Str × V)} {fs : List (Str × T)} {va : List (Key × Value)}, Al (Tr S H L n) l fs → KV (dk l) va → PySem.W.KeqHitsP P w A s vb va (fs.all (tstT n gs))
  | [], [], va, .nil, ra => by
    cases ra
    exact .nil
  | (x, v) :: l, (x', t) :: fs, va, .cons r al, ra => by
    obtain ⟨e, r⟩ := r
    have e' : x = x' := e
    subst e'
    cases ra with
    | @cons _ q _ qs h k =>
      obtain ⟨h1, h2⟩ := h
      obtain ⟨key, val⟩ := q
      have h1' : (Sum.inr x : Key) = key := h1
      subst h1'
      have rr := rb.val (Sum.inr x : Key)
      rw [dk_val] at rr
      have ih' := hits_T ih am rb al k
      rw [List.all_cons]
      cases hm : look x m with
      | none =>
        have hg : look x gs = none := am.none.mp hm
        rw [hm] at rr
        have hn : valueAt vb (Sum.inr x : Key) = none := by
          cases e : valueAt vb (Sum.inr x : Key) with
          | none => rfl
          | some z =>
            rw [e] at rr
            exact rr.elim
        have e1 : tstT n gs (x, t) = false := by
          unfold tstT
          rw [show look (x, t).1 gs = none from hg]
        rw [e1, Bool.false_and]
        exact .miss hn
      | some y =>
        obtain ⟨u, hu, ru⟩ := am.get' hm
        rw [hm] at rr
        obtain ⟨z, hz, rz⟩ := rr.some_of
        have e1 : tstT n gs (x, t) = smB n t u := by
          unfold tstT
          rw [show look (x, t).1 gs = some u from hu]
        rw [e1]
        exact .hit hz (ih _ _ _ _ _ _ r ru h2 rz) ih'
section
variable {X : Cx} {pins : List (Addr × Obj)} {σ : L2.St} {H : Hp} {s : Shared}
theorem eqP_ri {P : Program} {w : World} {A : Around} {a : Addr} {i : Int} {tk : Tok} {b : Bool} (h : ∀ (E Q : Value → Shared → Prop), Q (.bool b) s → wpAny (model P w) A (richCompare .Eq (.ref a) (.int i tk)) Q E s) : SeqAt.EqP P w A s (.ref a) (.int i tk) b := fun E Q hq => by
  unfold eqBool
  refine wpAny_holding ?_
  refine wpAny_ite_split (fun hab => absurd (eq_of_beq hab) (fun z => nomatch z)) (fun _ => ?_)
  exact wpAny_bind (h E _ (wpAny_truthy_bool hq))
theorem eqP_ir {P : Program} {w : World} {A : Around} {a : Addr} {i : Int} {tk : Tok} {b : Bool} (h : ∀ (E Q : Value → Shared → Prop), Q (.bool b) s → wpAny (model P w) A (richCompare .Eq (.int i tk) (.ref a)) Q E s) : SeqAt.EqP P w A s (.int i tk) (.ref a) b := fun E Q hq => by
  unfold eqBool
  refine wpAny_holding ?_
  refine wpAny_ite_split (fun hab => absurd (eq_of_beq hab) (fun z => nomatch z)) (fun _ => ?_)
  exact wpAny_bind (h E _ (wpAny_truthy_bool hq))
/-- == of two trees: decided, and nothing is changed -/
theorem eqT_run (I : Inv X pins σ H s) {S S' : Addr → Prop} {L L' : Nat} : ∀ (n : Nat) (A : Around), A.units + n < cLine → ∀ (x y : V) (v u : Value) (t t' : T), Tr S H L n x t → Tr S' H L' n y t' → RelV x v → RelV y u → SeqAt.EqP X.prog X.w A s v u (smB n t t')
  | 0, A, hu, x, y, v, u, t, t', ⟨i, e1, e2⟩, ⟨j, f1, f2⟩, rx, ry => by
    subst e1 e2 f1 f2
    rw [smB_int]
    exact (eqAt_V (A := A) (s := s) rx ry rfl rfl).eqP
  | n + 1, A, hu, x, y, v, u, t, t', h, g, rx, ry => by
    refine h.cases (fun i e1 e2 => ?_) (fun k a l fs en e1 e2 sa ea wf al => ?_)
    · subst e1 e2
      refine g.cases (fun j f1 f2 => ?_) (fun k2 b m gs en2 f1 f2 sb eb wg am => ?_)
      · subst f1 f2
        rw [smB_int]
        exact (eqAt_V (A := A) (s := s) rx ry rfl rfl).eqP
      · subst f1 f2
        rw [smB_id]
        obtain ⟨tk, rfl⟩ := rx
        cases ry
        obtain ⟨_, sy, vb, kv, db⟩ := dk_of I.hok eb
        exact eqP_ir fun E Q q => rc_id db (by omega) E Q q
    · subst e1 e2
      cases en
      cases rx
      refine g.cases (fun j f1 f2 => ?_) (fun k2 b m gs en2 f1 f2 sb eb wg am => ?_)
      · subst f1 f2
        rw [smB_di]
        obtain ⟨tk, rfl⟩ := ry
        obtain ⟨_, sy, vb, kv, da⟩ := dk_of I.hok ea
        exact eqP_ri fun E Q q => rc_di da (by omega) E Q q
      · subst f1 f2
        cases en2
        cases ry
        by_cases e : a = b
        · subst e
          have tt : T.fds fs = T.fds gs := Tr.inj h g
          rw [← tt, smB_iff.mpr (Sm.rfl' h)]
          exact (SeqAt.EqAt.same _).eqP
        · obtain ⟨_, ya, va, ra, da⟩ := dk_of I.hok ea
          obtain ⟨_, yb, vb, rb, db⟩ := dk_of I.hok eb
          refine SeqAt.eqP_refs e fun E Q q => ?_
          have la := ra.length
          have lb := rb.length
          rw [dk_len, al.len] at la
          rw [dk_len, am.len] at lb
          refine PySem.W.rcP_dicts (knd := mixKind X.prog X.w) ya yb da db (by omega) (fun _ => hits_T (fun x y v u t t' h1 h2 r1 r2 => eqT_run I n A.in1 (by show A.units + 1 + n < cLine; omega) x y v u t t' h1 h2 r1 r2) am rb al ra) E Q ?_
          rw [← la, ← lb, all_sm wf.nd wg.nd]
          exact q
end
section
variable {X : Cx}
def rEqT (neg : Bool) : R2 := fun x y H Q => ∃ (n : Nat) (t u : T) (S S' : Addr → Prop) (L L' : Nat), n ≤ 50 ∧ Tr S H L n x t ∧ Tr S' H L' n y u ∧ Q (.bl (if neg then !smB n t u else smB n t u)) H
theorem op_eqT (hu : X.A.units + 64 < cLine) : OpR X (compareOp .Eq) (rEqT false) := by
  intro pins s σ H x y v u Q I rx ry h
  obtain ⟨n, t, t', S, S', L, L', hn, h, g, q⟩ := h
  refine h.cases (fun i e1 e2 => ?_) (fun k a l fs en e1 e2 sa ea wf al => ?_)
  · subst e1 e2
    refine g.cases (fun j f1 f2 => ?_) (fun k2 b m gs en2 f1 f2 sb eb wg am => ?_)
    · subst f1 f2
      refine op_eq pins s σ H _ _ v u Q I rx ry ⟨rfl, ?_⟩
      rw [dec_int, ← smB_int]
      exact q
    · subst f1 f2
      rw [smB_id] at q
      obtain ⟨tk, rfl⟩ := rx
      cases ry
      obtain ⟨_, sy, vb, kv, db⟩ := dk_of I.hok eb
      exact rc_id db (by omega) _ _ ⟨.bl _, H, I, rfl, q⟩
  · subst e1 e2
    cases en
    cases rx
    refine g.cases (fun j f1 f2 => ?_) (fun k2 b m gs en2 f1 f2 sb eb wg am => ?_)
    · subst f1 f2
      rw [smB_di] at q
      obtain ⟨tk, rfl⟩ := ry
      obtain ⟨_, sy, vb, kv, da⟩ := dk_of I.hok ea
      exact rc_di da (by omega) _ _ ⟨.bl _, H, I, rfl, q⟩
    · subst f1 f2
      cases en2
      cases ry
      obtain ⟨_, ya, va, ra, da⟩ := dk_of I.hok ea
      obtain ⟨_, yb, vb, rb, db⟩ := dk_of I.hok eb
      have la := ra.length
      have lb := rb.length
      rw [dk_len, al.len] at la
      rw [dk_len, am.len] at lb
      refine PySem.W.rcP_dicts (knd := mixKind X.prog X.w) ya yb da db (by omega) (fun _ => hits_T (fun x y v u t t' h1 h2 r1 r2 => eqT_run I k X.A.in1 (by show X.A.units + 1 + k < cLine; omega) x y v u t t' h1 h2 r1 r2) am rb al ra) _ _ ?_
      rw [← la, ← lb, all_sm wf.nd wg.nd]
      exact ⟨.bl _, H, I, rfl, q⟩
theorem op_neT (hu : X.A.units + 64 < cLine) : OpR X (compareOp .NotEq) (rEqT true) := by
  intro pins s σ H x y v u Q I rx ry h
  obtain ⟨n, t, t', S, S', L, L', hn, h, g, q⟩ := h
  refine h.cases (fun i e1 e2 => ?_) (fun k a l fs en e1 e2 sa ea wf al => ?_)
  · subst e1 e2
    refine g.cases (fun j f1 f2 => ?_) (fun k2 b m gs en2 f1 f2 sb eb wg am => ?_)
    · subst f1 f2
      refine op_ne pins s σ H _ _ v u Q I rx ry ⟨rfl, ?_⟩
      rw [dec_int, ← smB_int]
      exact q
    · subst f1 f2
      rw [smB_id] at q
      obtain ⟨tk, rfl⟩ := rx
      cases ry
      obtain ⟨_, sy, vb, kv, db⟩ := dk_of I.hok eb
      exact rcn_id db (by omega) _ _ ⟨.bl _, H, I, rfl, q⟩
  · subst e1 e2
    cases en
    cases rx
    refine g.cases (fun j f1 f2 => ?_) (fun k2 b m gs en2 f1 f2 sb eb wg am => ?_)
    · subst f1 f2
      rw [smB_di] at q
      obtain ⟨tk, rfl⟩ := ry
      obtain ⟨_, sy, vb, kv, da⟩ := dk_of I.hok ea
      exact rcn_di da (by omega) _ _ ⟨.bl _, H, I, rfl, q⟩
    · subst f1 f2
      cases en2
      cases ry
      obtain ⟨_, ya, va, ra, da⟩ := dk_of I.hok ea
      obtain ⟨_, yb, vb, rb, db⟩ := dk_of I.hok eb
      have la := ra.length
      have lb := rb.length
      rw [dk_len, al.len] at la
      rw [dk_len, am.len] at lb
      refine rcn_dd (knd := mixKind X.prog X.w) ya yb da db (by omega) (fun _ => hits_T (fun x y v u t t' h1 h2 r1 r2 => eqT_run I k X.A.in1 (by show X.A.units + 1 + k < cLine; omega) x y v u t t' h1 h2 r1 r2) am rb al ra) _ _ ?_
      rw [← la, ← lb, all_sm wf.nd wg.nd]
      exact ⟨.bl _, H, I, rfl, q⟩
end
end Lw
namespace Lw
open PySem PySem.Spec PyProof.Rows L2 GrT GrOwn Qd Ra
/-! ### the text of a tree -/
def oneText (x w : Str) : Str := x ++ (": " : Str) ++ w
def allText (zs : List Str) : Str := ("{" : Str) ++ Txt.join (", " : Str) zs ++ ("}" : Str)
/-- y is t's text -/
def Tx : Nat → T → Str → Prop
  | 0, t, y => ∃ i : Int, t = .int i ∧ y = Str.ofString (toString i)
  | n + 1, t, y => (∃ i : Int, t = .int i ∧ y = Str.ofString (toString i)) ∨ ∃ (fs : List (Str × T)) (ys zs : List Str), t = .fds fs ∧ ys.Perm (names fs) ∧ sortedS ys = true ∧
      Paired (fun x z => ∃ u w, look x fs = some u ∧ Tx n u w ∧ z = oneText x w) ys zs ∧ y = allText zs
theorem pr_one {R S : Str → Str → Prop} (h : ∀ x z z', R x z → S x z' → z = z') : ∀ {ys zs zs' : List Str}, Paired R ys zs → Paired S ys zs' → zs = zs'
  | _, _, _, .nil, .nil => rfl
  | _, _, _, .cons r t, .cons s u => by rw [h _ _ _ r s, pr_one h t u]
theorem Tx.one : ∀ {n : Nat} {t u : T} {y z : Str}, Tx n t y → Tx n u z → GrT.Sm n t u → y = z
  | 0, t, u, y, z, ⟨i, e1, e2⟩, ⟨j, f1, f2⟩, ⟨k, g1, g2⟩ => by
    rw [e1] at g1
    rw [f1] at g2
    cases g1
    cases g2
    rw [e2, f2]
  | n + 1, t, u, y, z, h, g, m => by
    rcases m with ⟨k, g1, g2⟩ | ⟨fs, gs, e1, e2, nd, pm, ch⟩
    · subst g1 g2
      rcases h with ⟨i, e1, e2⟩ | ⟨_, _, _, e, _⟩
      · rcases g with ⟨j, f1, f2⟩ | ⟨_, _, _, e, _⟩
        · cases e1
          cases f1
          rw [e2, f2]
        · cases e
      · cases e
    · subst e1 e2
      rcases h with ⟨i, e1, e2⟩ | ⟨fs', ys, zs, e, p1, s1, r1, h1⟩
      · cases e1
      · rcases g with ⟨i, e1, e2⟩ | ⟨gs', ys', zs', e', p2, s2, r2, h2⟩
        · cases e1
        · cases e
          cases e'
          have ey : ys = ys' := sorted_one s1 s2 (p1.trans (pm.trans p2.symm))
          subst ey
          have ez : zs = zs' := pr_one (fun x a b ⟨u1, w1, l1, t1, d1⟩ ⟨u2, w2, l2, t2, d2⟩ => by rw [d1, d2, Tx.one t1 t2 (ch x u1 u2 l1 l2)]) r1 r2
          rw [h1, h2, ez]
/-- how long a text can be -/
def BB : Nat → Nat
  | 0 => 40
  | n + 1 => 7 * (BB n + 40) + 10
theorem BB_le (n : Nat) : 40 ≤ BB n := by
  cases n with
  | zero => exact Nat.le_refl _
  | succ n => unfold BB; omega
theorem int_len {i : Int} (h : i.natAbs < 2 ^ 100) : (Str.ofString (toString i)).length ≤ 40 := by
  have h2 : i.natAbs < 10 ^ 31 := Nat.lt_of_lt_of_le h (by decide)
  have := int_text_length_le10 (k := 31) (by decide) h2
  rw [PySem.ofString_length]
  omega
theorem log_of {i : Int} (h : i.natAbs < 2 ^ 100) : i.natAbs.log2 < 1920 := by
  by_cases h0 : i.natAbs = 0
  · rw [h0]
    decide
  · rw [Nat.log2_lt h0]
    exact Nat.lt_of_lt_of_le h (Nat.pow_le_pow_right (by decide) (by decide))
theorem app_len (a b : Str) : (a ++ b).length = a.length + b.length := Str.length_append a b
theorem oneT_len {x w : Str} : (oneText x w).length = x.length + 2 + w.length := by
  unfold oneText
  rw [app_len, app_len]
  rfl
theorem sum_le {B : Nat} : ∀ {zs : List Str}, (∀ z ∈ zs, z.length ≤ B) → (zs.map (·.length)).sum ≤ zs.length * B
  | [], _ => Nat.zero_le _
  | z :: r, h => by
    have h1 := h z List.mem_cons_self
    have h2 := sum_le (zs := r) fun y hy => h y (List.mem_cons_of_mem _ hy)
    rw [List.map_cons, List.sum_cons, List.length_cons, Nat.add_mul, Nat.one_mul]
    omega
theorem join_le {B : Nat} {zs : List Str} (h : ∀ z ∈ zs, z.length ≤ B) : (Txt.join (", " : Str) zs).length ≤ zs.length * B + zs.length * 2 := by
  rw [TL.join_eq]
  have h1 := StrLaws.join_length_le (", " : Str) zs
  have h2 := sum_le h
  have h3 : (", " : Str).length = 2 := rfl
  rw [h3] at h1
  omega
theorem all_len {B : Nat} {zs : List Str} (hl : zs.length ≤ 7) (h : ∀ z ∈ zs, z.length ≤ B + 32) : (allText zs).length ≤ 7 * (B + 40) + 10 ∧ (zs.map (·.length)).sum + zs.length * 2 ≤ 7 * (B + 40) := by
  have h1 := join_le h
  have h2 := sum_le h
  have h3 : zs.length * (B + 32) ≤ 7 * (B + 32) := Nat.mul_le_mul_right _ hl
  unfold allText
  rw [app_len, app_len]
  have e1 : ("{" : Str).length = 1 := rfl
  have e2 : ("}" : Str).length = 1 := rfl
  omega
theorem pr_mem {R : Str → Str → Prop} : ∀ {ys zs : List Str}, Paired R ys zs → ∀ z ∈ zs, ∃ x ∈ ys, R x z
  | _, _, .nil, z, h => by cases h
  | _, _, .cons r t, z, h => by
    rcases List.mem_cons.mp h with e | e
    · rw [e]
      exact ⟨_, List.mem_cons_self, r⟩
    · obtain ⟨x, hx, q⟩ := pr_mem t z e
      exact ⟨x, List.mem_cons_of_mem _ hx, q⟩
theorem Tx.len : ∀ {n : Nat} {t : T} {y : Str}, Tx n t y → Bd n t → y.length ≤ BB n
  | 0, t, y, ⟨i, e1, e2⟩, ⟨j, f1, f2⟩ => by
    rw [e1] at f1
    cases f1
    rw [e2]
    exact int_len f2
  | n + 1, t, y, h, b => by
    rcases h with ⟨i, e1, e2⟩ | ⟨fs, ys, zs, e, p1, s1, r1, h1⟩
    · subst e1
      rcases b with ⟨j, f1, f2⟩ | ⟨_, f, _⟩
      · cases f1
        rw [e2]
        exact Nat.le_trans (int_len f2) (BB_le _)
      · cases f
    · subst e
      obtain ⟨bl, bg, bc⟩ := b.at
      have hl : zs.length ≤ 7 := by
        have e1 := Paired.length r1
        have e2 := p1.length_eq
        rw [List.length_map] at e2
        omega
      rw [h1]
      refine (all_len (B := BB n) hl fun z hz => ?_).1
      obtain ⟨x, _, u, w, l, t1, e⟩ := pr_mem r1 z hz
      have hm := look_mem l
      have h2 := Tx.len t1 (bc _ hm)
      have h3 := (bg _ hm).2.1
      rw [e, oneT_len]
      have h3' : x.length ≤ 30 := h3
      omega
theorem Bd.sim : ∀ {n : Nat} {t u : T}, Bd n u → GrT.Sm n t u → Bd n t
  | 0, t, u, ⟨i, e1, e2⟩, ⟨j, f1, f2⟩ => by
    rw [e1] at f2
    cases f2
    exact ⟨i, f1, e2⟩
  | n + 1, t, u, b, m => by
    rcases m with ⟨k, g1, g2⟩ | ⟨fs, gs, e1, e2, nd, pm, ch⟩
    · subst g1 g2
      exact b
    · subst e1 e2
      obtain ⟨bl, bg, bc⟩ := b.at
      have hl := pm.length_eq
      rw [List.length_map, List.length_map] at hl
      have hg : ∀ p ∈ fs, ∃ u, look p.1 gs = some u := fun p hp => look_some (pm.mem_iff.mp (List.mem_map.mpr ⟨p, hp, rfl⟩))
      refine .inr ⟨fs, rfl, by omega, fun p hp => ?_, fun p hp => ?_⟩
      · obtain ⟨u, hu⟩ := hg p hp
        exact bg (p.1, u) (look_mem hu)
      · obtain ⟨u, hu⟩ := hg p hp
        exact (bc (p.1, u) (look_mem hu)).sim (ch p.1 p.2 u (mem_look nd hp) hu)
end Lw
namespace Lw
open PySem PySem.Spec PyProof.Rows L2 GrT GrOwn Qd Ra
theorem Tr.out2 {S : Addr → Prop} {H : Hp} {L n : Nat} {a : Addr} {t : T} (h : Tr S H L n (.ref a) t) : ∃ fs l m, t = .fds fs ∧ n = m + 1 ∧ S a ∧ H a = some (.dK (dk l)) ∧ Wf L fs ∧ Al (Tr S H L m) l fs :=
  h.cases (fun i e _ => by cases e) fun k a' l fs' en e1 e2 sa ea wf al => by
    cases e1
    exact ⟨fs', l, k, e2, en, sa, ea, wf, al⟩
theorem call_isiK {X : Cx} {K : PySem.W.Frag} (h : X.K = K) : CallR X (.builtin "isinstance") (rIsi K) := h ▸ L2.call_isi
abbrev sLevel : Stmt := top 29
def spLevel (n : Nat) : Sp := fun vs H Q _ => ∃ (p A0 : Addr) (S : Addr → Prop) (t : T), vs = [.ref p, .ref A0] ∧ Tape H p ∧ (∀ b, S b → b ≠ p) ∧ Tr S H 6 n (.ref A0) t ∧ Bd n t ∧
  ∀ (A : Addr) (m : Nat) (u : T) H', m ≤ n → Tr S H 6 m (.ref A) u → Bd m u → Fx p H H' → Tape H' p → Q (.ref A) H'
section
variable {P : Program} {w : World} {K : PySem.W.Frag} {mg : Str → Option Value} {base : Heap} {C : Addr}
theorem scLevel : FnScope ["tape", "value", "spot", "k", "inner", "name"] ["tape", "value"] (defScope sLevel) := ⟨rfl, rfl, rfl, by decide +kernel, rfl, by decide +kernel, by decide +kernel⟩
theorem c_level (T : Bu mg) (D : Dfn K mg "_law_at_some_level" sLevel ["tape", "value"]) (c_law_take : Cal P w K mg base 1 "_law_take" spTake) (c_law_pick : Cal P w K mg base 2 "_law_pick" spPick) (n : Nat) : Cal P w K mg base 3 "_law_at_some_level" (spLevel n) := by
  refine D.cal scLevel (fun vs H Q E h => ?_) (fun f cdv A outer s H vs Q E hr h => ?_)
  · obtain ⟨p, A0, S, t, rfl, _⟩ := h
    rfl
  · obtain ⟨p, A0, S, t0, rfl, tp0, hS, tr0, bd0, q⟩ := h
    have hu := hu_of hr
    refine ⟨_, (pss_cons (ps_set (i := 2) scLevel.nd rfl (Or.inr rfl) (pv 1))
      (pss_cons (ps_for PassesOwn.never rfl (pi_range1 (by rfl) T.b_range (pa_cons pe_int pa_nil)) (pg_name (i := 3) scLevel.nd rfl (Or.inl rfl))
        (pss_cons (ps_lock (ps_setLc (i := 4) (own := [("name", 5)]) (g := gName 5) rfl scLevel.nd rfl rfl (sw_true rfl rfl rfl (by decide +kernel)) (pi_keys (pv 2)) (blkOk_by (own := [("name", 5)]) (N := ["tape", "value", "spot", "k", "inner", "name"]) (sc := defScope sLevel) (by decide +kernel)) (fun _ _ _ _ _ => pg_name (i := 5) scLevel.nd rfl (Or.inl rfl))
          (fun _ _ _ _ _ => (by exact (pts_one (pt_val (pe_callB (call_isiK (K := K) rfl) (by rfl) T.b_isinstance bo_isinstance (pa_cons (pe_dget hu (pv 2) (pv 5) (fun _ _ => rfl)) (pa_cons (pe_bltn (by rfl) T.b_dict bo_dict (v := .ty "dict") rfl) pa_nil))))))) (fun _ _ _ _ _ => (pv 5))))
        (pss_one (ps_if (PW.pt (pw_and (pt_truth (pv 4) (by intro _; rfl)) (pw_and1 (pt_cmpR op_gt (pe_c c_law_take hr (by decide) rfl (pa_cons (pv 0) (pa_cons pe_int pa_nil))) pe_int (nomark _)))))
          (pss_one (ps_set (i := 2) scLevel.nd rfl (Or.inr rfl) (pe_dget hu (pv 2) (pe_c c_law_pick hr (by decide) rfl (pa_cons (pv 0) (pa_cons (pv 4) pa_nil))) (fun _ _ => rfl)))) pss_nil))))
      (pss_one (ps_ret (pv 2))))), ?_⟩
    refine ⟨_, rfl, ?_⟩
    refine ⟨3, rfl, by decide, by decide, for_range (lo := 0) (n := 3) (fun i σ H' => ∃ (A : Addr) (m : Nat) (t : GrT.T) (kv iv nv : Option V), σ = [some (.ref p), some (.ref A0), some (.ref A), kv, iv, nv] ∧
      Tape H' p ∧ Fx p H H' ∧ m ≤ n ∧ Tr S H 6 m (.ref A) t ∧ Bd m t)
      ⟨A0, n, t0, none, none, none, rfl, tp0, Fx.refl, Nat.le_refl _, tr0, bd0⟩ ?_ ?_⟩
    · rintro i σ H' hi ⟨A, m, t, kv, iv, nv, rfl, tp, xf, mn, trA, bdA⟩
      obtain ⟨gs, l, m', rfl, rfl, sA, eA, wfA, alA⟩ := Lw.Tr.out2 trA
      have Ap : A ≠ p := hS _ sA
      have eA' := xf _ _ Ap eA
      have alA' : Al (Tr S H' 6 m') l gs := alA.imp fun _ _ _ z => z.keep fun c kvs sc e => xf _ _ (hS _ sc) e
      have hgl : gs.length ≤ 6 := wfA.ln
      have ndl : (names l).Nodup := by
        rw [alA.names]
        exact wfA.nd
      refine ⟨A, .dK (dk l), eA', True.intro, fun od => ?_⟩
      have alB := al_away sA eA' wfA alA' (.frz od (.dK (dk l)))
      refine ⟨_, rfl, A, od, rfl, .inl ⟨_, upd_same, fun Z hZ => lc_it walk_keys (fun j H5 => ∃ es : List Str, H5 Z = some (.lst (es.map V.str)) ∧ es.length ≤ j ∧ (∀ x ∈ es, ∃ B u, look x l = some (.ref B) ∧ Tr S H 6 m' (.ref B) u ∧ Bd m' u) ∧ Same (upd H' A (.frz od (.dK (dk l)))) H5)
        ⟨[], upd_same, Nat.le_refl _, (fun x hx => by cases hx), Same.new (Same.refl _) hZ⟩ ?_ ?_ ?_⟩⟩
      · rintro j H5 _ ⟨es, _, _, _, sm⟩
        exact sm _ _ upd_same
      · rintro j y H5 H6 hj ⟨es, e1, e2, e3, e4⟩ ⟨rfl, k', v', hk, rfl⟩
        obtain ⟨x, rfl, hx⟩ := dk_at hk
        obtain ⟨u, hu2, ru⟩ := Lw.Al.at alA hx
        obtain ⟨u', hu2', ru'⟩ := Lw.Al.at alB hx
        have hlx : look x l = some v' := mem_look ndl (List.mem_of_getElem? hx)
        have bu : Bd m' u := bdA.at.2.2 (x, u) (List.mem_of_getElem? hu2)
        have hg : DGet H6 A (.str x) (some v') := .inl ⟨dk l, Sum.inr x, .inr ⟨od, e4 _ _ upd_same⟩, rfl, by rw [dk_val, hlx]⟩
        have r6 := Tr.same ru' e4
        refine ⟨rfl, _, rfl, _, rfl, A, v', rfl, hg, ?_⟩
        refine r6.cases (fun z f1 f2 => ?_) (fun k2 B l2 fs2 en f1 f2 sB eB _ _ => ?_)
        · subst f1
          exact ⟨_, _, _, _, _, rfl, .ty _, .base (.int z), rfl, _, rfl, iteF ⟨es, e1, by omega, e3, e4⟩⟩
        · subst f1
          refine ⟨_, _, _, _, _, rfl, .ty _, .base (.dK eB), rfl, _, rfl, iteT ⟨_, rfl, _, e1, line_big (by rw [dk_len, alA.len] at hj; rw [List.length_map]; omega), es ++ [x], by rw [upd_same, List.map_append]; rfl, by rw [List.length_append]; simpa using e2, fun z hz => ?_, ?_⟩⟩
          · rcases List.mem_append.mp hz with h | h
            · exact e3 z h
            · rw [List.mem_singleton.mp h]
              exact ⟨B, u, hlx, ru, bu⟩
          · intro c o e
            rw [upd_ne (ne_of_none e hZ)]
            exact e4 _ _ e
      · rintro H5 ⟨es, e1, e2, e3, sm⟩
        have eA5 := sm _ _ (upd_same (H := H') (a := A) (o := .frz od (.dK (dk l))))
        refine ⟨eA5, ?_⟩
        have ZA : Z ≠ A := (ne_of_none upd_same hZ).symm
        have sU : Same H' (upd H5 A (.dK (dk l))) := Same.unlock eA' sm
        have eZ : (upd H5 A (.dK (dk l))) Z = some (.lst (es.map V.str)) := by
          rw [upd_ne ZA]
          exact e1
        have eAU : (upd H5 A (.dK (dk l))) A = some (.dK (dk l)) := upd_same
        have hZ0 : H' Z = none := by
          rw [upd_ne ZA] at hZ
          exact hZ
        generalize upd H5 A (.dK (dk l)) = HU at sU eZ eAU ⊢
        have tU : Tape HU p := by
          obtain ⟨z, f1, f2⟩ := tp
          exact ⟨z, sU _ _ f1, f2⟩
        have xU : Fx p H HU := xf.trans (Fx.same sU)
        have Zp : Z ≠ p := tp.ne'' hZ0
        have el : es.length ≤ 20 := by
          rw [dk_len, alA.len] at e2
          omega
        refine ⟨_, rfl, _, .inl ⟨_, SqL.of eZ, rfl⟩, ?_⟩
        cases es with
        | nil => exact iteF (iteF ⟨A, m' + 1, _, _, _, _, rfl, tU, xU, mn, trA, bdA⟩)
        | cons x0 es =>
          refine iteT ⟨_, rfl, p, 3, rfl, tU, by decide, fun cc H6 _ _ x6 t6 => ⟨_, _, rfl, rfl, _, rfl, ite2 (fun _ => ?_) (fun _ => ?_)⟩⟩
          · refine ⟨_, rfl, _, rfl, _, rfl, p, Z, x0 :: es, rfl, t6, Zp, x6 _ _ Zp eZ, Nat.succ_pos _, by omega, fun x H7 hx x7 t7 => ?_⟩
            obtain ⟨B, u, hlx, trB, bdB⟩ := e3 x hx
            have eA7 := (x6.trans x7) _ _ Ap eAU
            have hg := DGet.k (k := Sum.inr x) eA7
            rw [dk_val, hlx] at hg
            exact ⟨A, .ref B, rfl, hg, B, m', u, _, _, _, rfl, t7, xU.trans (x6.trans x7), by omega, trB, bdB⟩
          · exact ⟨A, m' + 1, _, _, _, _, rfl, t6, xU.trans x6, mn, trA, bdA⟩
    · rintro σ H' ⟨A, m, t, kv, iv, nv, rfl, tp, xf, mn, trA, bdA⟩
      exact ⟨_, rfl, q A m t H' mn trA bdA xf tp⟩
end
/-! ### one dict of a tree is changed: what is there then is a tree, too -/
theorem al_mk {R : V → T → Prop} {B : T → Prop} : ∀ {l : List (Str × V)}, (∀ p ∈ l, ∃ t, R p.2 t ∧ B t) → ∃ fs, Al R l fs ∧ ∀ q ∈ fs, B q.2
  | [], _ => ⟨[], .nil, fun q h => by cases h⟩
  | (x, v) :: r, h => by
    obtain ⟨t, h1, h2⟩ := h (x, v) List.mem_cons_self
    obtain ⟨fs, h3, h4⟩ := al_mk (l := r) fun p hp => h p (List.mem_cons_of_mem _ hp)
    refine ⟨(x, t) :: fs, .cons ⟨rfl, h1⟩ h3, fun q hq => ?_⟩
    rcases List.mem_cons.mp hq with e | e
    · rw [e]
      exact h2
    · exact h4 q e
theorem gd_names {l : List (Str × V)} {fs : List (Str × T)} (h : names l = names fs) (g : ∀ x ∈ names l, Good x) : ∀ p ∈ fs, Good p.1 := fun p hp => g p.1 (by rw [h]; exact List.mem_map.mpr ⟨p, hp, rfl⟩)
theorem tr_set {S S' : Addr → Prop} {H H' : Hp} {A : Addr} {l' : List (Str × V)} (hA : H' A = some (.dK (dk l'))) (sA : S' A) (hS : ∀ b, S b → S' b)
    (hk : ∀ b kvs, S b → b ≠ A → H b = some (.dK kvs) → H' b = some (.dK kvs)) (nd : (names l').Nodup) (ln : l'.length ≤ 7) (gd : ∀ x ∈ names l', Good x)
    (nw : ∀ x v, (x, v) ∈ l' → (∃ i : Int, v = .int i ∧ i.natAbs < 2 ^ 100) ∨ (∃ e, v = .ref e ∧ S' e ∧ H' e = some (.dK [])) ∨ ∃ l, H A = some (.dK (dk l)) ∧ look x l = some v) :
    ∀ {n : Nat} {v : V} {t : T}, Tr S H 6 n v t → Bd n t → ∃ t', Tr S' H' 7 (n + 1) v t' ∧ Bd (n + 1) t'
  | 0, v, t, ⟨i, e1, e2⟩, ⟨j, f1, f2⟩ => by
    rw [e2] at f1
    cases f1
    rw [e1]
    exact ⟨.int i, Tr.int i, Bd.int f2⟩
  | n + 1, v, t, h, b => by
    rcases h with ⟨i, e1, e2⟩ | ⟨a, l0, fs, e1, e2, sa, ea, wf, al⟩
    · subst e1 e2
      rcases b with ⟨j, f1, f2⟩ | ⟨_, f1, _⟩
      · cases f1
        exact ⟨.int i, Tr.int i, Bd.int f2⟩
      · cases f1
    · subst e1 e2
      obtain ⟨bl, bg, bc⟩ := b.at
      have old : ∀ x u, look x l0 = some u → ∃ t', Tr S' H' 7 (n + 1) u t' ∧ Bd (n + 1) t' := fun x u hu => by
        obtain ⟨t1, h1, r1⟩ := al.get' hu
        exact tr_set hA sA hS hk nd ln gd nw r1 (bc _ (look_mem h1))
      have ndl : (names l0).Nodup := by
        rw [al.names]
        exact wf.nd
      by_cases e : a = A
      · subst e
        obtain ⟨gs, ag, bgs⟩ := al_mk (R := Tr S' H' 7 (n + 1)) (B := Bd (n + 1)) (l := l') fun p hp => by
          obtain ⟨x, u⟩ := p
          rcases nw x u hp with ⟨i, e1, hi⟩ | ⟨e, e1, se, he⟩ | ⟨l, hl, hx⟩
          · have e1' : u = .int i := e1
            subst e1'
            exact ⟨.int i, Tr.int i, Bd.int hi⟩
          · have e1' : u = .ref e := e1
            subst e1'
            exact ⟨.fds [], .inr ⟨e, [], [], rfl, rfl, se, he, Wf.nil, .nil⟩, .inr ⟨[], rfl, Nat.zero_le _, (fun p h => by cases h), fun p h => by cases h⟩⟩
          · rw [ea] at hl
            have el : l0 = l := dk_inj (HO.dK.inj (Option.some.inj hl))
            rw [← el] at hx
            exact old x u hx
        have nn := ag.names
        have lg : gs.length ≤ 7 := by
          rw [← ag.len]
          exact ln
        have gg := gd_names nn gd
        exact ⟨.fds gs, .inr ⟨a, l', gs, rfl, rfl, sA, hA, ⟨by rw [← nn]; exact nd, lg, gg⟩, ag⟩, .inr ⟨gs, rfl, lg, gg, bgs⟩⟩
      · obtain ⟨gs, ag, bgs⟩ := al_mk (R := Tr S' H' 7 (n + 1)) (B := Bd (n + 1)) (l := l0) fun p hp => old p.1 p.2 (mem_look ndl hp)
        have nn := ag.names
        have lg : gs.length ≤ 7 := by
          rw [← ag.len, al.len]
          exact Nat.le_trans wf.ln (by decide)
        have gg : ∀ p ∈ gs, Good p.1 := gd_names nn fun x hx => by
          rw [al.names] at hx
          obtain ⟨q, hq, eq⟩ := List.mem_map.mp hx
          rw [← eq]
          exact wf.gd q hq
        exact ⟨.fds gs, .inr ⟨a, l0, gs, rfl, rfl, hS _ sa, hk _ _ sa e ea, ⟨by rw [← nn]; exact ndl, lg, gg⟩, ag⟩, .inr ⟨gs, rfl, lg, gg, bgs⟩⟩
end Lw
namespace Lw
open PySem PySem.Spec PyProof.Rows L2 GrT GrOwn Qd Ra
theorem Sm.fdsL {n : Nat} {t : T} {fs : List (Str × T)} (h : GrT.Sm n t (.fds fs)) : ∃ gs, t = .fds gs := by
  cases n with
  | zero =>
    obtain ⟨i, _, e⟩ := h
    cases e
  | succ n =>
    rcases h with ⟨i, _, e⟩ | ⟨gs, _, e, _⟩
    · cases e
    · exact ⟨gs, e⟩
theorem Tr.ref {S : Addr → Prop} {H : Hp} {L n : Nat} {v : V} {fs : List (Str × T)} (h : Tr S H L n v (.fds fs)) : ∃ a, v = .ref a :=
  h.cases (fun i _ e => by cases e) fun k a' l fs' en e1 e2 sa ea wf al => ⟨a', e1⟩
abbrev sOther : Stmt := top 30
def spOther : Sp := fun vs H Q _ => ∃ (p P : Addr) (ps : List Str) (v : V) (S : Addr → Prop) (fs : List (Str × T)), vs = [.ref p, .ref P, v] ∧ Tape H p ∧ H P = some (.lst (ps.map V.str)) ∧ P ≠ p ∧ 1 ≤ ps.length ∧ ps.length ≤ 6 ∧ (∀ x ∈ ps, Good x) ∧ Tr S H 6 3 v (.fds fs) ∧ Bd 3 (.fds fs) ∧
  ∀ (D : Addr) (gs : List (Str × T)) H', Tr (fun b => H b = none) H' 7 4 (.ref D) (.fds gs) → Bd 4 (.fds gs) → Fx p H H' → Tape H' p → Q (.ref D) H'
def gv (l : List (Str × V)) (y : Str) : V := (look y l).getD V.non
def prs (l : List (Str × V)) (es : List Str) : List (Str × V) := es.map fun y => (y, gv l y)
theorem prs_names (l : List (Str × V)) (es : List Str) : names (prs l es) = es := by
  unfold prs names
  rw [List.map_map]
  exact List.map_id es
theorem prs_take (l : List (Str × V)) (es : List Str) (i : Nat) : (prs l es).take i = prs l (es.take i) := by
  unfold prs
  rw [List.map_take]
theorem filt_step {es : List Str} {x y : Str} {j : Nat} (h : es[j]? = some y) : (es.take (j + 1)).filter (fun z => !decide (z = x)) = (es.take j).filter (fun z => !decide (z = x)) ++ if y = x then [] else [y] := by
  rw [List.take_add_one, h, Option.toList_some, List.filter_append]
  congr 1
  by_cases e : y = x
  · rw [if_pos e]
    simp [e]
  · rw [if_neg e]
    simp [e]
section
variable {P : Program} {w : World} {K : PySem.W.Frag} {mg : Str → Option Value} {base : Heap} {C : Addr}
theorem scOther : FnScope ["tape", "names", "plain", "choice", "other", "spot", "name", "del_names", "key", "kept", "k"] ["tape", "names", "plain"] (defScope sOther) := ⟨rfl, rfl, rfl, by decide +kernel, rfl, by decide +kernel, by decide +kernel⟩
theorem c_other (T : Bu mg) (D : Dfn K mg "_law_other" sOther ["tape", "names", "plain"]) (c_law_take : Cal P w K mg base 1 "_law_take" spTake) (c_law_pick : Cal P w K mg base 2 "_law_pick" spPick) (c_law_number : Cal P w K mg base 2 "_law_number" spNumber)
    (c_law_fields : Cal P w K mg base 6 "_law_fields" (spFields 2)) (c_law_turned : Cal P w K mg base 5 "_law_turned" (spTurned 6 3)) (c_law_level : Cal P w K mg base 3 "_law_at_some_level" (spLevel 3)) : Cal P w K mg base 7 "_law_other" spOther := by
  refine D.cal scOther (fun vs H Q E h => ?_) (fun f cdv A outer s H vs Q E hr h => ?_)
  · obtain ⟨p, P, ps, v, S, fs, rfl, _⟩ := h
    rfl
  · obtain ⟨p, P, ps, v, S, fs, rfl, tp, eP, Pp, l1, l2, gp, tr, bd, q⟩ := h
    have hu := hu_of hr
    refine ⟨_, (pss_cons (ps_set (i := 3) scOther.nd rfl (Or.inl rfl) (pe_c c_law_take hr (by decide) rfl (pa_cons (pv 0) (pa_cons pe_int pa_nil))))
      (pss_cons (ps_if (pt_cmpR op_eq (pv 3) pe_int (nomark _)) (pss_one (ps_ret (pe_c c_law_fields hr (by decide) rfl (pa_cons (pv 0) (pa_cons (pv 1) (pa_cons pe_int pa_nil)))))) pss_nil)
      (pss_cons (ps_set (i := 4) scOther.nd rfl (Or.inl rfl) (pe_c c_law_turned hr (by decide) rfl (pa_cons (pv 2) pa_nil)))
      (pss_cons (ps_set (i := 5) scOther.nd rfl (Or.inr rfl) (pe_c c_law_level hr (by decide) rfl (pa_cons (pv 0) (pa_cons (pv 4) pa_nil))))
      (pss_cons (ps_set (i := 6) scOther.nd rfl (Or.inr rfl) (pe_c c_law_pick hr (by decide) rfl (pa_cons (pv 0) (pa_cons (pv 1) pa_nil))))
      (pss_cons (ps_if (PW.pt (pw_and (pt_cmpR op_eq (pv 3) pe_int (nomark _)) (pw_and1 (pt_cmp (pc_din hu (pv 6) (pv 5))))))
        (pss_cons (ps_lock (ps_setLc (i := 7) (own := [("key", 8)]) (g := gName 8) rfl scOther.nd rfl rfl (sw_true rfl rfl rfl (by decide +kernel)) (pi_keys (pv 5)) (blkOk_by (own := [("key", 8)]) (N := ["tape", "names", "plain", "choice", "other", "spot", "name", "del_names", "key", "kept", "k"]) (sc := defScope sOther) (by decide +kernel)) (fun _ _ _ _ _ => pg_name (i := 8) scOther.nd rfl (Or.inl rfl))
          (fun _ _ _ _ _ => pts_one (pt_cmpR op_ne (pv 8) (pv 6) (nomark _))) (fun _ _ _ _ _ => (pv 8))))
        (pss_cons (ps_setLc (i := 9) (own := [("key", 8)]) (g := gName 8) (tt := tYes) rfl scOther.nd rfl rfl (sw_true rfl rfl rfl (by decide +kernel)) (pi_list (pv 7)) (blkOk_by (own := [("key", 8)]) (N := ["tape", "names", "plain", "choice", "other", "spot", "name", "del_names", "key", "kept", "k"]) (sc := defScope sOther) (by decide +kernel)) (fun _ _ _ _ _ => pg_name (i := 8) scOther.nd rfl (Or.inl rfl))
          (fun _ _ _ _ _ => pts_nil) (fun _ _ _ _ _ => (pe_dget hu (pv 5) (pv 8) (fun _ _ => rfl))))
        (pss_cons (ps_expr (pe_dclear (pv 5)))
        (pss_one (ps_for PassesOwn.never rfl (pi_range1 (by rfl) T.b_range (pa_cons (pe_callB call_len_seq (by rfl) T.b_len PySem.boot_len (pa_cons (pv 9) pa_nil)) pa_nil)) (pg_name (i := 10) scOther.nd rfl (Or.inl rfl))
          (pss_one (ps_dput hu (pv 5) (pe_ix ix_list (pv 7) (pv 10) (fun _ _ => rfl)) (pe_ix ix_list (pv 9) (pv 10) (fun _ _ => rfl)) rfl)))))))
        pss_nil)
      (pss_cons (ps_if (pt_cmpR op_eq (pv 3) pe_int (nomark _)) (pss_one (ps_dput hu (pv 5) (pv 6) (pe_c c_law_number hr (by decide) rfl (pa_cons (pv 0) pa_nil)) rfl)) pss_nil)
      (pss_cons (ps_if (pt_cmpR op_eq (pv 3) pe_int (nomark _)) (pss_one (ps_dput hu (pv 5) (pv 6) pe_dnewK rfl)) pss_nil)
      (pss_one (ps_ret (pv 4))))))))))), ?_⟩
    refine ⟨_, rfl, p, 6, rfl, tp, by decide, fun c H1 c0 c1 x1 t1 => ?_⟩
    have eP1 := x1 _ _ Pp eP
    have tr1 := Tr.fx tr tp x1
    refine ⟨_, rfl, rfl, _, rfl, ite2 (fun _ => ?_) (fun _ => ?_)⟩
    · exact ⟨_, rfl, _, rfl, p, P, ps, rfl, t1, eP1, Pp, l1, l2, gp, fun D2 gs H5 r5 b5 x5 t5 => q D2 gs H5 (Tr.mono (r5.wid fun b hb => x1.back t1 hb) (by decide) (by decide)) (b5.mono (by decide)) (x1.trans x5) t5⟩
    refine ⟨_, rfl, v, S, _, rfl, tr1, fun v2 t2 H2 r2 m2 s2 => ?_⟩
    obtain ⟨gs2, rfl⟩ := Lw.Sm.fdsL m2
    obtain ⟨O, rfl⟩ := Lw.Tr.ref r2
    have bd2 : Bd 3 (.fds gs2) := bd.sim m2
    have tp1 := t1
    have tp2 : Tape H2 p := by
      obtain ⟨z, e1, e2⟩ := t1
      exact ⟨z, s2 _ _ e1, e2⟩
    have hS : ∀ b, H1 b = none → b ≠ p := fun b hb e => by
      obtain ⟨z, e1, e2⟩ := tp1
      rw [e, e1] at hb
      cases hb
    refine ⟨_, rfl, _, rfl, p, O, _, _, rfl, tp2, hS, r2, bd2, fun Z m u H3 mn rA bA x3 t3 => ?_⟩
    have x02 : Fx p H H2 := x1.trans (Fx.same s2)
    have eP3 := x3 _ _ Pp (s2 _ _ eP1)
    refine ⟨_, rfl, _, rfl, p, P, ps, rfl, t3, Pp, eP3, by omega, by omega, fun x H4 hx x4 t4 => ?_⟩
    have gx := gp x hx
    have x24 := x3.trans x4
    have x04 := x02.trans x24
    obtain ⟨fsA, l, m', rfl, rfl, sA, eA2, wfA, alA⟩ := Lw.Tr.out2 rA
    have Ap : Z ≠ p := hS _ sA
    have eA4 := x24 _ _ Ap eA2
    have lfA : fsA.length ≤ 6 := wfA.ln
    have ndl : (names l).Nodup := by
      rw [alA.names]
      exact wfA.nd
    have gdl : ∀ y ∈ names l, Good y := fun y hy => by
      rw [alA.names] at hy
      obtain ⟨q0, h0, e0⟩ := List.mem_map.mp hy
      rw [← e0]
      exact wfA.gd q0 h0
    have ll : l.length ≤ 6 := by
      rw [alA.len]
      exact lfA
    have nll : (names l).length = l.length := List.length_map _
    have fresh : ∀ b, H1 b = none → H b = none := fun b hb => x1.back tp1 hb
    have fin : ∀ (Hx : Hp) (t' : GrT.T), Tr (fun b => H b = none) Hx 7 4 (.ref O) t' → Bd 4 t' → Fx p H Hx → Tape Hx p → Q (.ref O) Hx := fun Hx t' h1 h2 h3 h4 => by
      obtain ⟨gs, _, _, rfl, _⟩ := Lw.Tr.out2 h1
      exact q O gs Hx h1 h2 h3 h4
    have kp : ∀ b kvs, H1 b = none → H2 b = some (.dK kvs) → H4 b = some (.dK kvs) := fun b kvs hb e => x24 _ _ (hS _ hb) e
    -- nothing was changed
    have none4 : Q (.ref O) H4 := fin H4 _ (Tr.mono ((r2.keep fun b kvs sb e => kp b kvs sb e).wid fresh) (by decide) (by decide)) (bd2.mono (by decide)) x04 t4
    have tail : ∀ {σ5 : List (Option V)}, True := True.intro
    have put7 : ∀ (y : V), (names (put x y l)).Nodup ∧ (put x y l).length ≤ 7 ∧ ∀ z ∈ names (put x y l), Good z := fun y => ⟨nodup_put ndl, Nat.le_trans length_put (by omega), fun z hz => by
      rw [names_put] at hz
      split at hz
      · exact gdl z hz
      · rcases List.mem_append.mp hz with h | h
        · exact gdl z h
        · rw [List.mem_singleton.mp h]
          exact gx⟩
    have hsz : (dk l).length < sizeLine := by
      rw [dk_len]
      exact Nat.lt_of_lt_of_le (by omega : l.length < 100) (line_big (by decide))
    have two : ∀ (σr : List (Option V)), True := fun _ => True.intro
    by_cases c3 : c = 3
    · subst c3
      refine ⟨_, rfl, rfl, _, rfl, ite2 (fun h => absurd h (by decide)) (fun _ => iteF ?_)⟩
      refine ⟨_, rfl, rfl, _, rfl, ite2 (fun _ => ?_) (fun h => absurd h (by decide))⟩
      refine ⟨_, rfl, p, rfl, t4, fun z H5 z0 z1 x5 t5 => ?_⟩
      have eA5 := x5 _ _ Ap eA4
      refine ⟨_, rfl, _, rfl, Z, _, rfl, DPut.k (k := Sum.inr x) eA5 hsz, ?_⟩
      rw [dk_put x (.int z) l ndl]
      refine ⟨_, rfl, rfl, _, rfl, ite2 (fun h => absurd h (by decide)) (fun _ => ⟨_, rfl, ?_⟩)⟩
      obtain ⟨n1, n2, n3⟩ := put7 (.int z)
      obtain ⟨t', h1, h2⟩ := tr_set (S := fun b => H1 b = none) (S' := fun b => H b = none) (H := H2) (H' := upd H5 Z (.dK (dk (put x (.int z) l)))) (A := Z) upd_same (fresh _ sA) fresh
        (fun b kvs sb nb e => by rw [upd_ne nb]; exact x5 _ _ (hS _ sb) (kp b kvs sb e)) n1 n2 n3
        (fun y u hy => by
          rcases mem_put hy with e | e
          · cases e
            exact .inl ⟨z, rfl, by omega⟩
          · exact .inr (.inr ⟨l, eA2, mem_look ndl e⟩)) r2 bd2
      exact fin _ t' h1 h2 (fun b o nb e => by
        rw [upd_ne (fun y => by rw [y, fresh _ sA] at e; cases e)]
        exact x5 _ _ nb (x04 _ _ nb e)) (t5.put Ap)
    by_cases c4 : c = 4
    · subst c4
      refine ⟨_, rfl, rfl, _, rfl, ite2 (fun h => absurd h (by decide)) (fun _ => iteF ?_)⟩
      refine ⟨_, rfl, rfl, _, rfl, ite2 (fun h => absurd h (by decide)) (fun _ => ?_)⟩
      refine ⟨_, rfl, rfl, _, rfl, ite2 (fun _ => ?_) (fun h => absurd h (by decide))⟩
      refine fun N hN => ?_
      have NZ : N ≠ Z := fun e => by rw [e, eA4] at hN; cases hN
      have ZN : Z ≠ N := fun e => NZ e.symm
      have eA5 : (upd H4 N (.dK [])) Z = some (.dK (dk l)) := by
        rw [upd_ne ZN]
        exact eA4
      refine ⟨_, rfl, _, rfl, Z, _, rfl, DPut.k (k := Sum.inr x) eA5 hsz, ?_⟩
      rw [dk_put x (.ref N) l ndl]
      refine ⟨_, rfl, ?_⟩
      obtain ⟨n1, n2, n3⟩ := put7 (.ref N)
      have fN : H N = none := x04.back t4 hN
      obtain ⟨t', h1, h2⟩ := tr_set (S := fun b => H1 b = none) (S' := fun b => H b = none) (H := H2) (H' := upd (upd H4 N (.dK [])) Z (.dK (dk (put x (.ref N) l)))) (A := Z) upd_same (fresh _ sA) fresh
        (fun b kvs sb nb e => by
          have e4 := kp b kvs sb e
          rw [upd_ne nb, upd_ne (fun y => by rw [y, hN] at e4; cases e4)]
          exact e4) n1 n2 n3
        (fun y u hy => by
          rcases mem_put hy with e | e
          · cases e
            exact .inr (.inl ⟨N, rfl, fN, by rw [upd_ne NZ]; exact upd_same⟩)
          · exact .inr (.inr ⟨l, eA2, mem_look ndl e⟩)) r2 bd2
      exact fin _ t' h1 h2 (fun b o nb e => by
        rw [upd_ne (fun y => by rw [y, fresh _ sA] at e; cases e), upd_ne (fun y => by rw [y, fN] at e; cases e)]
        exact x04 _ _ nb e) ((t4.new hN).put Ap)
    have d3 : decide (V.int c = V.int 3) = false := by
      rw [decide_eq_false_iff_not]
      exact fun e => c3 (V.int.inj e)
    have d4 : decide (V.int c = V.int 4) = false := by
      rw [decide_eq_false_iff_not]
      exact fun e => c4 (V.int.inj e)
    have n3 : ∀ {X Y : Prop}, Y → (if decide (V.int c = V.int 3) = true then X else Y) := fun y => by
      rw [d3]
      exact y
    have n4 : ∀ {X Y : Prop}, Y → (if decide (V.int c = V.int 4) = true then X else Y) := fun y => by
      rw [d4]
      exact y
    refine ⟨_, rfl, rfl, _, rfl, ite2 (fun _ => ?_) (fun _ => iteF ⟨_, rfl, rfl, _, rfl, n3 ⟨_, rfl, rfl, _, rfl, n4 ⟨_, rfl, none4⟩⟩⟩)⟩
    refine ⟨_, rfl, _, rfl, Z, _, rfl, DGet.k (k := Sum.inr x) eA4, _, rfl, ite2 (fun _ => ?_) (fun _ => ⟨_, rfl, rfl, _, rfl, n3 ⟨_, rfl, rfl, _, rfl, n4 ⟨_, rfl, none4⟩⟩⟩)⟩
    refine ⟨Z, .dK (dk l), eA4, True.intro, fun od => ?_⟩
    refine ⟨_, rfl, Z, od, rfl, .inl ⟨_, upd_same, fun W hW => lc_it walk_keys (fun j H5 => H5 W = some (.lst ((((names l).take j).filter (fun z => !decide (z = x))).map V.str)) ∧ Same (upd H4 Z (.frz od (.dK (dk l)))) H5)
      ⟨upd_same, Same.new (Same.refl _) hW⟩ ?_ ?_ ?_⟩⟩
    · rintro j H5 _ ⟨_, sm⟩
      exact sm _ _ upd_same
    · rintro j y H5 H6 hj ⟨e1, sm⟩ ⟨rfl, k', v', hk, rfl⟩
      obtain ⟨y, rfl, hy⟩ := dk_at hk
      have hn : (names l)[j]? = some y := by rw [List.getElem?_map, hy]; rfl
      have st := filt_step (x := x) hn
      refine ⟨rfl, _, rfl, _, rfl, rfl, _, rfl, ?_⟩
      by_cases e : y = x
      · rw [if_pos e, List.append_nil] at st
        have hb : (!decide (V.str y = V.str x)) = false := by simp [e]
        exact ite2 (fun h => Bool.noConfusion (hb.symm.trans h)) (fun _ => ⟨by rw [st]; exact e1, sm⟩)
      · rw [if_neg e] at st
        have hb : (!decide (V.str y = V.str x)) = true := by
          have : decide (V.str y = V.str x) = false := decide_eq_false fun z => e (V.str.inj z)
          rw [this]
          rfl
        refine ite2 (fun _ => ?_) (fun h => absurd hb h)
        refine ⟨_, rfl, _, e1, line_big (by
          have := List.length_filter_le (fun z => !decide (z = x)) ((names l).take j)
          rw [List.length_map]
          rw [List.length_take] at this
          omega), ?_, fun b o e => by rw [upd_ne (ne_of_none e hW)]; exact sm _ _ e⟩
        rw [upd_same, st, List.map_append]
        rfl
    · rintro H5 ⟨e1, sm⟩
      rw [dk_len, ← nll, List.take_length] at e1
      generalize hes : (names l).filter (fun z => !decide (z = x)) = es at e1
      have nde : es.Nodup := by
        rw [← hes]
        exact ndl.filter _
      have mes : ∀ y ∈ es, y ∈ names l := fun y hy => by
        rw [← hes] at hy
        exact (List.mem_filter.mp hy).1
      have les : es.length ≤ 6 := by
        rw [← hes]
        exact Nat.le_trans (List.length_filter_le _ _) (by omega)
      have eA5 := sm _ _ (upd_same (H := H4) (a := Z) (o := .frz od (.dK (dk l))))
      refine ⟨eA5, ?_⟩
      have WZ : W ≠ Z := (ne_of_none upd_same hW).symm
      have sU : Same H4 (upd H5 Z (.dK (dk l))) := Same.unlock eA4 sm
      have eW : (upd H5 Z (.dK (dk l))) W = some (.lst (es.map V.str)) := by
        rw [upd_ne WZ]
        exact e1
      have eZU : (upd H5 Z (.dK (dk l))) Z = some (.dK (dk l)) := upd_same
      have hW4 : H4 W = none := by
        rw [upd_ne WZ] at hW
        exact hW
      generalize upd H5 Z (.dK (dk l)) = HU at sU eW eZU ⊢
      refine ⟨_, rfl, W, rfl, ⟨_, SqL.of eW⟩, fun G hG => lc_it (walk_list (xs := es.map V.str)) (fun j H6 => H6 G = some (.lst ((es.take j).map (gv l))) ∧ Same HU H6)
        ⟨by rw [upd_same]; rfl, Same.new (Same.refl _) hG⟩ (fun j H6 _ h => SqL.of (h.2 _ _ eW)) ?_ ?_⟩
      · rintro j y H6 H7 hj ⟨e2, sm2⟩ ⟨rfl, hy⟩
        obtain ⟨z, hz, rfl⟩ : ∃ z, es[j]? = some z ∧ y = V.str z := by
          rw [List.getElem?_map] at hy
          cases e : es[j]? with
          | none =>
            rw [e] at hy
            cases hy
          | some z =>
            rw [e] at hy
            exact ⟨z, rfl, (Option.some.inj hy).symm⟩
        obtain ⟨u, hu2⟩ := look_some (mes z (List.mem_of_getElem? hz))
        have hg := DGet.k (k := Sum.inr z) (sm2 _ _ eZU)
        rw [dk_val, hu2] at hg
        refine ⟨rfl, iteT (A := _) (B := True) (iteT ⟨_, rfl, _, rfl, Z, u, rfl, hg, _, e2, line_big (by rw [List.length_map, List.length_take]; omega), ?_, fun b o e => by rw [upd_ne (ne_of_none e hG)]; exact sm2 _ _ e⟩)⟩
        rw [upd_same, List.take_add_one, hz, Option.toList_some, List.map_append]
        have e3 : gv l z = u := by
          unfold gv
          rw [hu2]
          rfl
        rw [List.map_cons, e3]
        rfl
      · rintro H6 ⟨e2, sm2⟩
        rw [List.length_map, List.take_length] at e2
        have eZ6 := sm2 _ _ eZU
        have eW6 := sm2 _ _ eW
        have sm6 : Same H4 H6 := fun b o e => sm2 _ _ (sU _ _ e)
        have GZ : G ≠ Z := fun e => by rw [e, eZU] at hG; cases hG
        have hG4 : H4 G = none := sU.free hG
        have WG : W ≠ G := fun e => by rw [← e, eW] at hG; cases hG
        refine ⟨_, rfl, ?_, Z, dk l, rfl, rfl, eZ6, ?_⟩
        · exact .inr (.inr (.inl ⟨rfl, .inl ⟨_, eZ6⟩⟩))
        have sC : ∀ b o, b ≠ Z → H4 b = some o → (upd H6 Z (.dK [])) b = some o := fun b o nb e => by
          rw [upd_ne nb]
          exact sm6 _ _ e
        have eWC : (upd H6 Z (.dK [])) W = some (.lst (es.map V.str)) := by
          rw [upd_ne WZ]
          exact eW6
        have eGC : (upd H6 Z (.dK [])) G = some (.lst (es.map (gv l))) := by
          rw [upd_ne GZ]
          exact e2
        have eZC : (upd H6 Z (.dK [])) Z = some (.dK (dk [])) := upd_same
        generalize upd H6 Z (.dK []) = HC at sC eWC eGC eZC ⊢
        refine ⟨_, rfl, G, _, rfl, .inl (SqL.of eGC), es.length, by rw [List.length_map], by omega, by omega, ?_⟩
        refine for_range (lo := 0) (n := es.length) (fun i σ H' => ∃ (kv nv : Option V), σ = [some (.ref p), some (.ref P), some v, some (.int c), some (.ref O), some (.ref Z), some (.str x), some (.ref W), nv, some (.ref G), kv] ∧
          H' Z = some (.dK (dk ((prs l es).take i))) ∧ ∀ b o, b ≠ Z → HC b = some o → H' b = some o) ⟨none, _, rfl, eZC, fun b o _ e => e⟩ ?_ ?_
        · rintro i σ H' hi ⟨kv, nv, rfl, e5, k5⟩
          have hy : es[i]? = some es[i] := List.getElem?_eq_getElem hi
          have a1 : atI (es.map (gv l)) (0 + (i : Int)) = some (gv l es[i]) := by
            rw [Int.zero_add]
            refine atI_nat ?_
            rw [List.getElem?_map, hy]
            rfl
          have a2 : atI (es.map V.str) (0 + (i : Int)) = some (V.str es[i]) := by
            rw [Int.zero_add]
            refine atI_nat ?_
            rw [List.getElem?_map, hy]
            rfl
          have ht : names ((prs l es).take i) = es.take i := by rw [prs_take, prs_names]
          have ndt : (names ((prs l es).take i)).Nodup := by
            rw [ht]
            exact nde.sublist (List.take_sublist _ _)
          have hno : es[i] ∉ names ((prs l es).take i) := fun hm => by
            rw [ht] at hm
            obtain ⟨j, hj, ej⟩ := List.mem_take_iff_getElem.mp hm
            have := (List.getElem_inj nde).mp ej
            omega
          have lt5 : (dk ((prs l es).take i)).length < sizeLine := by
            rw [dk_len]
            exact Nat.lt_of_lt_of_le (by rw [List.length_take]; omega : ((prs l es).take i).length < 100) (line_big (by decide))
          refine ⟨_, rfl, _, rfl, G, _, _, _, rfl, rfl, SqL.of (k5 _ _ GZ eGC), a1, _, rfl, _, rfl, _, rfl, W, _, _, _, rfl, rfl, SqL.of (k5 _ _ WZ eWC), a2, Z, _, rfl, DPut.k (k := Sum.inr es[i]) e5 lt5, _, nv, rfl, ?_, fun b o nb e => by rw [upd_ne nb]; exact k5 b o nb e⟩
          rw [upd_same, dk_put _ _ _ ndt, put_new hno, List.take_add_one]
          have hp : (prs l es)[i]? = some (es[i], gv l es[i]) := by
            unfold prs
            rw [List.getElem?_map, hy]
            rfl
          rw [hp]
          rfl
        · rintro σ H' ⟨kv, nv, rfl, e5, k5⟩
          have hpl : (prs l es).length = es.length := List.length_map _
          rw [← hpl, List.take_length] at e5
          refine ⟨_, rfl, rfl, _, rfl, n3 ⟨_, rfl, rfl, _, rfl, n4 ⟨_, rfl, ?_⟩⟩⟩
          obtain ⟨t', h1, h2⟩ := tr_set (S := fun b => H1 b = none) (S' := fun b => H b = none) (H := H2) (H' := H') (A := Z) e5 (fresh _ sA) fresh
            (fun b kvs sb nb e => k5 _ _ nb (sC _ _ nb (kp b kvs sb e))) (by rw [prs_names]; exact nde) (by rw [hpl]; omega) (fun y hy => by rw [prs_names] at hy; exact gdl y (mes y hy))
            (fun y u hy => by
              obtain ⟨z, hz, ez⟩ := List.mem_map.mp hy
              cases ez
              obtain ⟨u, hu2⟩ := look_some (mes _ hz)
              refine .inr (.inr ⟨l, eA2, ?_⟩)
              unfold gv
              rw [hu2]
              rfl) r2 bd2
          exact fin _ t' h1 h2 (fun b o nb e => k5 _ _ (fun y => by rw [y, fresh _ sA] at e; cases e) (sC _ _ (fun y => by rw [y, fresh _ sA] at e; cases e) (x04 _ _ nb e))) (by
            obtain ⟨z, f1, f2⟩ := t4
            exact ⟨z, k5 _ _ Ap.symm (sC _ _ Ap.symm f1), f2⟩)
end
end Lw
namespace Lw
open PySem PySem.Spec PyProof.Rows L2 GrT GrOwn Qd Ra
theorem BB_4 : ∀ {n : Nat}, n ≤ 4 → BB n ≤ 212040
  | 0, _ => by decide
  | 1, _ => by decide
  | 2, _ => by decide
  | 3, _ => by decide
  | 4, _ => by decide
  | n + 5, h => absurd h (by omega)
theorem sz_ok {n : Nat} (h : n ≤ 10000000) : n ≤ sizeLine := by
  rw [sizeLine_eq]
  omega
theorem pr_snoc {R : Str → Str → Prop} : ∀ {ys zs : List Str} {x z : Str}, Paired R ys zs → R x z → Paired R (ys ++ [x]) (zs ++ [z])
  | _, _, x, z, .nil, r => .cons r .nil
  | _, _, x, z, .cons r t, q => .cons r (pr_snoc t q)
abbrev sText : Stmt := top 32
/-- a field's text -/
def RT (n : Nat) (fs : List (Str × T)) (x z : Str) : Prop := ∃ u w, look x fs = some u ∧ Tx n u w ∧ z = oneText x w
def spText (n : Nat) : Sp := fun vs H Q _ => ∃ (v : V) (S : Addr → Prop) (t : T), vs = [v] ∧ Tr S H 7 n v t ∧ Bd n t ∧ n ≤ 4 ∧ ∀ y H', Tx n t y → Same H H' → Q (.str y) H'
def spTextR : Nat → Sp
  | 0 => spNo
  | n + 1 => spText n
theorem RT.len {n : Nat} {fs : List (Str × T)} {x z : Str} (h : RT n fs x z) (g : ∀ p ∈ fs, Good p.1) (b : ∀ p ∈ fs, Bd n p.2) : z.length ≤ BB n + 32 := by
  obtain ⟨u, w, l, t, e⟩ := h
  have h1 := (g (x, u) (look_mem l)).2.1
  have h2 := Tx.len t (b (x, u) (look_mem l))
  have h3 : x.length ≤ 30 := h1
  rw [e, oneT_len]
  omega
section
variable {P : Program} {w : World} {K : PySem.W.Frag} {mg : Str → Option Value} {base : Heap} {C : Addr}
theorem scText : FnScope ["value", "name"] ["value"] (defScope sText) := ⟨rfl, rfl, rfl, by decide +kernel, rfl, by decide +kernel, by decide +kernel⟩
theorem c_text_step (T : Bu mg) (D : Dfn K mg "_law_text" sText ["value"]) (c_sorted : Cal P w K mg base 1 "_law_sorted" spSorted) (n : Nat) (c_text : Cal P w K mg base (n + 1) "_law_text" (spTextR n)) : Cal P w K mg base (n + 2) "_law_text" (spText n) := by
  refine D.cal scText (fun vs H Q E h => ?_) (fun f cdv A outer s H vs Q E hr h => ?_)
  · obtain ⟨v, S, t, rfl, _⟩ := h
    rfl
  · obtain ⟨v, S, t, rfl, tr, bd, hn, q⟩ := h
    have hu := hu_of hr
    refine ⟨_, (pss_cons (ps_if (pt_not (pt_val (pe_callB call_isi (by rfl) T.b_isinstance bo_isinstance (pa_cons (pv 0) (pa_cons (pe_bltn (by rfl) T.b_dict bo_dict (v := .ty "dict") rfl) pa_nil)))))
      (pss_one (ps_ret (pe_callTy call_str_int (by rfl) T.b_str bo_str (pa_cons (pv 0) pa_nil))))
      pss_nil)
      (pss_one (ps_ret (pe_op op_add_str (pe_op op_add_str pe_str (pe_join pe_str (pe_lc (own := [("name", 1)]) (g := gName 1) (tt := tYes) rfl scText.nd (pi_list (pe_c c_sorted hr (by omega) rfl (pa_cons (pv 0) pa_nil))) (blkOk_by (own := [("name", 1)]) (N := ["value", "name"]) (sc := defScope sText) (by decide +kernel)) (fun _ _ _ _ _ => pg_name (i := 1) scText.nd rfl (Or.inl rfl)) (fun _ _ _ _ _ => pts_nil)
        (fun _ _ _ _ _ => (by exact (pe_op op_add_str (pe_op op_add_str (pv 1) pe_str) (pe_c c_text hr (by omega) rfl (pa_cons (pe_dget hu (pv 0) (pv 1) (fun _ _ => rfl)) pa_nil)))))))) pe_str)))), ?_⟩
    refine tr.cases (fun i e1 e2 => ?_) (fun k a l fs en e1 e2 sa ea wf al => ?_)
    · subst e1 e2
      have hi : i.natAbs < 2 ^ 100 := by
        cases n with
        | zero =>
          obtain ⟨j, f1, f2⟩ := bd
          cases f1
          exact f2
        | succ n =>
          rcases bd with ⟨j, f1, f2⟩ | ⟨_, f1, _⟩
          · cases f1
            exact f2
          · cases f1
      refine ⟨_, rfl, _, _, _, _, _, rfl, .ty _, .base (.int i), rfl, _, rfl, iteT ⟨_, rfl, i, rfl, log_of hi, q _ H ?_ (Same.refl _)⟩⟩
      cases n with
      | zero => exact ⟨i, rfl, rfl⟩
      | succ n => exact .inl ⟨i, rfl, rfl⟩
    · subst en e1 e2
      obtain ⟨bl, bg, bc⟩ := bd.at
      have hB : BB k ≤ 212040 := BB_4 (by omega)
      have ll : l.length ≤ 7 := by
        rw [al.len]
        exact bl
      have ndl : (names l).Nodup := by
        rw [al.names]
        exact wf.nd
      refine ⟨_, rfl, _, _, _, _, _, rfl, .ty _, .base (.dK ea), rfl, _, rfl, iteF ?_⟩
      refine ⟨⟨_, rfl⟩, _, rfl, a, l, rfl, ea, by omega, fun ys W H1 pm so eW hW s1 => ?_⟩
      have yl : ys.length ≤ 7 := by
        rw [pm.length_eq, List.length_map]
        exact ll
      refine ⟨W, rfl, ⟨_, SqL.of eW⟩, fun Z hZ => lc_it (walk_list (xs := ys.map V.str)) (fun i H5 => ∃ zs : List Str, H5 Z = some (.lst (zs.map V.str)) ∧ Paired (RT k fs) (ys.take i) zs ∧ Same H1 H5)
        ⟨[], upd_same, .nil, Same.new (Same.refl _) hZ⟩ (fun i H5 _ h => ?_) ?_ ?_⟩
      · obtain ⟨_, _, _, sm⟩ := h
        exact SqL.of (sm _ _ eW)
      · rintro i y H5 H6 hi ⟨zs, eZ, pr, sm⟩ ⟨rfl, hy⟩
        obtain ⟨x, hx, rfl⟩ : ∃ x, ys[i]? = some x ∧ y = V.str x := by
          rw [List.getElem?_map] at hy
          cases e : ys[i]? with
          | none =>
            rw [e] at hy
            cases hy
          | some x =>
            rw [e] at hy
            exact ⟨x, rfl, (Option.some.inj hy).symm⟩
        have hxl : x ∈ names l := pm.mem_iff.mp (List.mem_of_getElem? hx)
        obtain ⟨v', hv⟩ := look_some hxl
        obtain ⟨u, hu2, ru⟩ := al.get' hv
        have sH : Same H H6 := fun b o e => sm _ _ (s1 _ _ e)
        have hg := DGet.k (k := Sum.inr x) (sH _ _ ea)
        rw [dk_val, hv] at hg
        have xl : x.length ≤ 30 := (bg (x, u) (look_mem hu2)).2.1
        have pl := Paired.length pr
        rw [List.length_take] at pl
        refine ⟨rfl, iteT (A := _) (B := True) (iteT ⟨_, rfl, _, _, rfl, rfl, sz_ok (by show x.length + 2 ≤ _; omega), _, rfl, _, rfl, a, v', rfl, hg, v', S, u, rfl, Tr.same ru sH, bc (x, u) (look_mem hu2), by omega, fun w' H7 tx s7 => ?_⟩)⟩
        have wl := Tx.len tx (bc (x, u) (look_mem hu2))
        refine ⟨_, _, rfl, rfl, sz_ok (by rw [app_len]; show x.length + 2 + w'.length ≤ _; omega), _, s7 _ _ eZ, line_big (by rw [List.length_map]; omega), zs ++ [oneText x w'], by rw [upd_same, List.map_append]; rfl, ?_, fun b o e => by rw [upd_ne (ne_of_none e hZ)]; exact s7 _ _ (sm _ _ e)⟩
        rw [List.take_add_one, hx, Option.toList_some]
        exact pr_snoc pr ⟨u, w', hu2, tx, rfl⟩
      · rintro H5 ⟨zs, eZ, pr, sm⟩
        rw [List.length_map, List.take_length] at pr
        have zl : zs.length ≤ 7 := by
          have := Paired.length pr
          omega
        obtain ⟨b1, b2⟩ := all_len (B := BB k) zl fun z hz => by
          obtain ⟨x, _, r⟩ := pr_mem pr z hz
          exact r.len bg bc
        have b3 : (allText zs).length = 1 + (Txt.join (", " : Str) zs).length + 1 := by
          unfold allText
          rw [app_len, app_len]
          rfl
        refine ⟨_, Z, zs, rfl, rfl, .inl (SqL.of eZ), ?_, ?_⟩
        · show (zs.map (·.length)).sum + zs.length * 2 ≤ 16777216
          omega
        refine ⟨_, _, rfl, rfl, sz_ok (by show 1 + (Txt.join (", " : Str) zs).length ≤ _; omega), ?_⟩
        refine ⟨_, _, rfl, rfl, sz_ok (by rw [app_len]; show 1 + (Txt.join (", " : Str) zs).length + 1 ≤ _; omega), ?_⟩
        refine q _ _ (.inr ⟨fs, ys, zs, rfl, by rw [← al.names]; exact pm, so, pr, rfl⟩) fun b o e => sm _ _ (s1 _ _ e)
theorem c_text (T : Bu mg) (D : Dfn K mg "_law_text" sText ["value"]) (c_sorted : Cal P w K mg base 1 "_law_sorted" spSorted) : ∀ n, Cal P w K mg base (n + 2) "_law_text" (spText n)
  | 0 => c_text_step T D c_sorted 0 (c_no D scText)
  | n + 1 => c_text_step T D c_sorted (n + 1) (c_text T D c_sorted n)
end
end Lw
namespace Lw
open PySem PySem.Spec PyProof.Rows L2 GrT GrOwn Qd Ra
abbrev sStr : Stmt := inClass (top 10) 20
def spStr (C : Addr) (n : Nat) : Sp := fun vs H Q _ => ∃ (a : Addr) (fs : List (Str × T)), vs = [.ref a] ∧ Rc All C H (n + 1) (.ref a) (.fds fs) ∧ Bd (n + 1) (.fds fs) ∧ n ≤ 3 ∧ ∀ y H', Tx (n + 1) (.fds fs) y → Same H H' → Q (.str y) H'
def spStrR (C : Addr) : Nat → Sp
  | 0 => spNo
  | n + 1 => spStr C n
section
variable {P : Program} {w : World} {K : PySem.W.Frag} {mg : Str → Option Value} {base : Heap} {C : Addr}
theorem scStr : FnScope ["self", "told", "name", "value", "inner"] ["self"] (defScope sStr) := ⟨rfl, rfl, rfl, by decide +kernel, rfl, by decide +kernel, by decide +kernel⟩
theorem fn_str_step (T : Bu mg) (R : RecK K mg C) (hfm : PySem.W.findIn K (.ref C) "__format__" = some (some (.builtin "object.__format__"))) {f : Addr} {fd : FuncData} (m : GrOwn.Sm K C "__str__" f) (hb : Binds K fd ["self"] []) (F : L2.Fun K "__str__" "Record.__str__" sStr f fd) (n : Nat)
    (F0 : FnOk P w K mg base CX0 (2 * n + 1) f fd ["self"] (spStrR C n)) : FnOk P w K mg base CX0 (2 * n + 3) f fd ["self"] (spStr C n) := by
  refine F.ok scStr (fun vs H Q E h => ?_) (fun cdv A outer s H vs Q E hr h => ?_)
  · obtain ⟨a, fs, rfl, _⟩ := h
    rfl
  · obtain ⟨a, fs, rfl, rc, bd, hn, q⟩ := h
    have hu := hu_of hr
    obtain ⟨bl, bg, bc⟩ := bd.at
    have hB : BB n ≤ 212040 := BB_4 (by omega)
    refine ⟨_, (pss_cons (ps_set (i := 1) scStr.nd rfl (Or.inl rfl) (pe_lst pa_nil))
      (pss_cons (ps_lock (ps_for PassesOwn.never rfl (pi_items (pe_fld (pv 0) rfl)) (pg_tup rfl (pgs_cons (pg_name (i := 2) scStr.nd rfl (Or.inl rfl)) (pgs_cons (pg_name (i := 3) scStr.nd rfl (Or.inl rfl)) pgs_nil)))
        (pss_one (ps_expr (pe_bm PySem.F.plainAttrs_list PySem.F.slot_list_append PySem.F.type_list_append mt_append (pv 1) (pa_cons (pe_joined (PJ.cons (pe_fmt (pv 2)) (PJ.cons pe_str (PJ.cons (pe_fmtO hfm R.hm m F0 hb hr (Nat.le_refl _) (pv 3)) PJ.nil)))) pa_nil))))))
      (pss_cons (ps_set (i := 4) scStr.nd rfl (Or.inl rfl) (pe_join pe_str (pv 1)))
      (pss_one (ps_ret (pe_joined (PJ.cons pe_str (PJ.cons (pe_fmt (pv 4)) (PJ.cons pe_str PJ.nil))))))))), ?_⟩
    obtain ⟨l, ra, wf, pm, ch⟩ := Rc.out rc
    obtain ⟨⟨dx, tp, d, _, ea, et, ed⟩, nl, so⟩ := ra
    have ll : l.length = fs.length := by
      have := pm.length_eq
      rwa [List.length_map, List.length_map] at this
    have nll : (names l).length = l.length := List.length_map _
    refine ⟨Nat.zero_le _, fun M hM => ?_⟩
    have s1 : Same H (upd H M (.lst [])) := Same.new (Same.refl _) hM
    have dM : d ≠ M := ne_of_none ed hM
    have ea1 := s1 _ _ ea
    have ed1 := s1 _ _ ed
    have eM1 : (upd H M (.lst [])) M = some (.lst (([] : List Str).map V.str)) := upd_same
    have ch1 : ∀ x v u, look x l = some v → look x fs = some u → Rc (fun b => All b ∧ H b ≠ none) C (upd H M (.lst [])) n v u := fun x v u h1 h2 => (ch x v u h1 h2).exs.same s1
    generalize upd H M (.lst []) = H1 at s1 ea1 ed1 eM1 ch1 ⊢
    refine ⟨d, .dK (dk l), ed1, True.intro, fun od => ?_⟩
    have ad : a ≠ d := fun z => by
      rw [z, ed] at ea
      cases ea
    have chB : ∀ x v u, look x l = some v → look x fs = some u → Rc (fun b => All b ∧ H b ≠ none) C (upd H1 d (.frz od (.dK (dk l)))) n v u := fun x v u h1 h2 =>
      Rc.away (z := nfs fs) ed1 (fun gs ng pg cg => (nfs_one wf.nd pm pg (fun x v u h1 h2 => (ch1 x v u h1 h2).sz) cg).symm) _ (ch1 x v u h1 h2) (nf_child h2)
    have eaB : (upd H1 d (.frz od (.dK (dk l)))) a = some (.ins C dx (rf tp d (nfs fs))) := by
      rw [upd_ne ad]
      exact ea1
    have eMB : (upd H1 d (.frz od (.dK (dk l)))) M = some (.lst (([] : List Str).map V.str)) := by
      rw [upd_ne dM.symm]
      exact eM1
    have edB : (upd H1 d (.frz od (.dK (dk l)))) d = some (.frz od (.dK (dk l))) := upd_same
    have sU0 : ∀ H', Fx M (upd H1 d (.frz od (.dK (dk l)))) H' → Same H (upd H' d (.dK (dk l))) := fun H' x b o e => by
      by_cases z : b = d
      · rw [z, upd_same, ← ed, ← z, e]
      · rw [upd_ne z]
        exact x b o (fun y => by rw [y, hM] at e; cases e) (by rw [upd_ne z]; exact s1 _ _ e)
    generalize upd H1 d (.frz od (.dK (dk l))) = B at chB eaB eMB edB sU0 ⊢
    refine ⟨_, rfl, a, C, dx, _, _, rfl, eaB, R.cl, R.nF, rf_fields _ _ _, d, od, dk l, rfl, edB, for_it walk_items (fun i σ H' => ∃ (nv vv : Option V) (zs : List Str), σ = [some (.ref a), some (.ref M), nv, vv, none] ∧ H' M = some (.lst (zs.map V.str)) ∧ Paired (RT n fs) ((names l).take i) zs ∧ Fx M B H')
      ⟨none, none, [], rfl, eMB, .nil, Fx.refl⟩ (fun i σ H' _ h => ?_) ?_ ?_⟩
    · obtain ⟨nv, vv, zs, _, _, _, h⟩ := h
      exact h _ _ dM edB
    · rintro i y σ H' H2 hi ⟨nv, vv, zs, rfl, eM, pr, x3⟩ ⟨Tp, x1, y1, rfl, hT, rfl, hx1, hy1⟩
      have hi2 : i < l.length := by
        rw [dk_len] at hi
        exact hi
      obtain ⟨⟨x, v⟩, hx⟩ : ∃ p, l[i]? = some p := ⟨l[i], List.getElem?_eq_getElem hi2⟩
      have hd : (dk l)[i]? = some (Sum.inr x, v) := by
        unfold dk
        rw [List.getElem?_map, hx]
        rfl
      have hx2 : ((dk l)[i]?).map (fun kv => kV kv.1) = some x1 := hx1
      have hy2 : ((dk l)[i]?).map Prod.snd = some y1 := hy1
      rw [hd] at hx2 hy2
      cases hx2
      cases hy2
      have hn1 : (names l)[i]? = some x := by rw [List.getElem?_map, hx]; rfl
      have eT : (upd H' Tp (.tup [kV (Sum.inr x), v])) Tp = some (.tup [kV (Sum.inr x), v]) := upd_same
      have x4 : Fx M B (upd H' Tp (.tup [kV (Sum.inr x), v])) := x3.new hT
      have s4 : Same H' (upd H' Tp (.tup [kV (Sum.inr x), v])) := Same.new (Same.refl _) hT
      have eM4 := s4 _ _ eM
      generalize upd H' Tp (.tup [kV (Sum.inr x), v]) = H4 at eT x4 eM4 ⊢
      have hv : look x l = some v := mem_look nl (List.mem_of_getElem? hx)
      obtain ⟨u, hu2⟩ := look_some (pm.mem_iff.mp (List.mem_of_getElem? hn1))
      have ru : Rc (fun b => All b ∧ H b ≠ none) C H4 n v u := (chB x v u hv hu2).keep fun b o sb e _ => x4 b o (fun z => sb.2 (by rw [z]; exact hM)) e
      have bu := bc (x, u) (look_mem hu2)
      have xl : x.length ≤ 30 := (bg (x, u) (look_mem hu2)).2.1
      have pl := Paired.length pr
      rw [List.length_take] at pl
      have e0 : Str.empty ++ x = x := Str.empty_append x
      have t1 : (Str.empty ++ x).length ≤ sizeLine := by
        rw [e0]
        exact sz_ok (by omega)
      have t2 : (Str.empty ++ x ++ (": " : Str)).length ≤ sizeLine := by
        rw [e0, app_len]
        exact sz_ok (by show x.length + 2 ≤ _; omega)
      have fin : ∀ (w' : Str) (H7 : Hp), Tx n u w' → Same H4 H7 → (Str.empty ++ x ++ (": " : Str) ++ w').length ≤ sizeLine ∧ ∃ l0 xs v0, V.ref M = V.ref l0 ∧ [V.str (Str.empty ++ x ++ (": " : Str) ++ w')] = [v0] ∧ H7 l0 = some (.lst xs) ∧ xs.length < sizeLine ∧
          ∃ (nv vv : Option V) (zs : List Str), [some (V.ref a), some (V.ref M), some (V.str x), some v, none] = [some (V.ref a), some (V.ref M), nv, vv, none] ∧ (upd H7 l0 (.lst (xs ++ [v0]))) M = some (.lst (zs.map V.str)) ∧ Paired (RT n fs) ((names l).take (i + 1)) zs ∧ Fx M B (upd H7 l0 (.lst (xs ++ [v0]))) := fun w' H7 tx s7 => by
        have wl := Tx.len tx bu
        have eo : Str.empty ++ x ++ (": " : Str) ++ w' = oneText x w' := by rw [e0]; rfl
        rw [eo]
        refine ⟨sz_ok (by rw [oneT_len]; omega), M, _, _, rfl, rfl, s7 _ _ eM4, line_big (by rw [List.length_map]; omega), _, _, zs ++ [oneText x w'], rfl, by rw [upd_same, List.map_append]; rfl, ?_, fun b o nb e => by rw [upd_ne nb]; exact s7 _ _ (x4 _ _ nb e)⟩
        rw [List.take_add_one, hn1, Option.toList_some]
        exact pr_snoc pr ⟨u, w', hu2, tx, rfl⟩
      refine ⟨Tp, _, rfl, SqT.of eT, rfl, _, _, rfl, _, _, rfl, rfl, ?_⟩
      refine ⟨_, rfl, .inl ⟨rfl, _, SqL.of eM4⟩, ?_⟩
      refine ⟨_, rfl, .inl ⟨x, rfl, sz_ok (by omega), x, rfl, t1, _, rfl, t2, _, rfl, ?_⟩⟩
      refine ru.cases (fun i e1 e2 => ?_) (fun k a2 l2 fs2 en e1 e2 ra2 wf2 pm2 ch2 => ?_)
      · subst e1 e2
        have hi : i.natAbs < 2 ^ 100 := by
          cases n with
          | zero =>
            obtain ⟨j, f1, f2⟩ := bu
            cases f1
            exact f2
          | succ n =>
            rcases bu with ⟨j, f1, f2⟩ | ⟨_, f1, _⟩
            · cases f1
              exact f2
            · cases f1
        have tx : Tx n (.int i) (Str.ofString (toString i)) := by
          cases n with
          | zero => exact ⟨i, rfl, rfl⟩
          | succ n => exact .inl ⟨i, rfl, rfl⟩
        obtain ⟨g1, g2⟩ := fin _ H4 tx (Same.refl _)
        exact .inl ⟨i, rfl, log_of hi, _, rfl, g1, g2⟩
      · subst en e1 e2
        obtain ⟨⟨dy, tq, d2, _, ea2, _, _⟩, _, _⟩ := id ra2
        refine .inr ⟨a2, dy, _, rfl, ea2, a2, fs2, rfl, ru.wid fun b h => h.1, bu, by omega, fun y H7 tx s7 => ?_⟩
        obtain ⟨g1, g2⟩ := fin _ H7 tx s7
        exact ⟨y, rfl, _, rfl, g1, g2⟩
    · rintro σ H' ⟨nv, vv, zs, rfl, eM, pr, x3⟩
      rw [dk_len, ← nll, List.take_length] at pr
      have edL : H' d = some (.frz od (.dK (dk l))) := x3 _ _ dM edB
      refine ⟨edL, ?_⟩
      have sU := sU0 _ x3
      have eMU : (upd H' d (.dK (dk l))) M = some (.lst (zs.map V.str)) := by
        rw [upd_ne dM.symm]
        exact eM
      generalize upd H' d (.dK (dk l)) = HU at sU eMU ⊢
      have zl : zs.length ≤ 7 := by
        have := Paired.length pr
        omega
      obtain ⟨b1, b2⟩ := all_len (B := BB n) zl fun z hz => by
        obtain ⟨x, _, r⟩ := pr_mem pr z hz
        exact r.len bg bc
      have b3 : (allText zs).length = 1 + (Txt.join (", " : Str) zs).length + 1 := by
        unfold allText
        rw [app_len, app_len]
        rfl
      have e0 : Str.empty ++ ("{" : Str) = "{" := Str.empty_append _
      refine ⟨⟨_, rfl⟩, _, rfl, _, M, zs, rfl, rfl, .inl (SqL.of eMU), by show (zs.map (·.length)).sum + zs.length * 2 ≤ 16777216; omega, ?_⟩
      refine ⟨_, rfl, by rw [e0]; exact sz_ok (by decide), _, rfl, .inl ⟨_, rfl, sz_ok (by omega), _, rfl, ?_, _, rfl, ?_, ?_⟩⟩
      · rw [e0, app_len]
        exact sz_ok (by show 1 + _ ≤ _; omega)
      · rw [e0, app_len, app_len]
        exact sz_ok (by show 1 + _ + 1 ≤ _; omega)
      · rw [e0]
        exact q _ _ (.inr ⟨fs, names l, zs, rfl, pm, so, pr, rfl⟩) sU
theorem fn_str (T : Bu mg) (R : RecK K mg C) (hfm : PySem.W.findIn K (.ref C) "__format__" = some (some (.builtin "object.__format__"))) {f : Addr} {fd : FuncData} (m : GrOwn.Sm K C "__str__" f) (hb : Binds K fd ["self"] []) (F : L2.Fun K "__str__" "Record.__str__" sStr f fd) : ∀ n, FnOk P w K mg base CX0 (2 * n + 3) f fd ["self"] (spStr C n)
  | 0 => fn_str_step T R hfm m hb F 0 (F.ok scStr (fun _ _ _ _ h => h.elim) (fun _ _ _ _ _ _ _ _ _ h => h.elim))
  | n + 1 => fn_str_step T R hfm m hb F (n + 1) (fn_str T R hfm m hb F n)
end
end Lw
namespace Ra
open PySem PySem.W PySem.Calls PyProof.Rows PyProof.V PySem.Spec Builtin Builtin.Str L2
theorem str_new_in {prog : Program} {w : World} {v : Value} {S : PySem.Spec} (hs : ∀ (A : Around) (R : Result → Shared → Prop) (s : Shared), S A R s → wpAny (model prog w) A.in1 (Builtin.Str.strOf v) (fun r s' => R (.ok (.ret r)) s') (fun e s' => R (.error e) s') s) :
    MeetsIn prog w («str.__new__» ⟨[.type "str", v], []⟩) S := by
  refine MeetsIn.of_wp fun A R s h => ?_
  rw [str_new_tree v]
  refine wpAny_bind (wpAny_pure ?_)
  refine wpAny_bind (wpAny_of_eq isSubtype_str_str ?_)
  exact wpAny_bind (wpAny_mono (hs A R s h) (fun r s' h' => wpAny_pure ⟨_, rfl, h'⟩) fun _ _ e => e)
theorem strOf_own {prog : Program} {w : World} {A : Around} {E : Value → Shared → Prop} {s : Shared} {K : Frag} {x C f : Addr} {ox : Obj} {od : Option Obj} {Q : Value → Shared → Prop} (X : K.In s.heap) (I : InstAt s.heap x ox C od) (hs : findIn K (.ref C) "__str__" = some (some (.ref f))) (hf : isFn K (.ref f) = true) (hu : A.units < cLine)
    (h : wpAny (model prog w) A (call (.ref f) [.ref x]) (fun v s' => ∃ y t, v = .str y t ∧ Q (.str y t) s') E s) : wpAny (model prog w) A (Builtin.Str.strOf (.ref x)) Q E s := by
  unfold Builtin.Str.strOf
  have e0 : isExactStr (.ref x) = false := rfl
  rw [e0]
  refine wpAny_bind (wpAny_cRoomFor hu ?_)
  refine wpAny_bind (Qd.callSpecial_own X I hs hf (wpAny_mono h (fun v s' q => ?_) fun _ _ e => e))
  obtain ⟨y, t, rfl, q⟩ := q
  exact wpAny_bind (wpAny_pure (wpAny_pure q))
end Ra
namespace Lw
open PySem PySem.Spec PyProof.Rows L2 GrT GrOwn Qd Ra
section
variable {X : Cx} {CX : CXT} {C f : Addr} {fd : FuncData} {k j : Nat} {sp : Sp}
/-- str(r), by r's own __str__ -/
def rStrO (C : Addr) (sp : Sp) : List V → Hp → VK → Prop := fun xs H Q => ∃ a dx fs, xs = [.ref a] ∧ H a = some (.ins C dx fs) ∧ sp [.ref a] H (fun v H' => ∃ y : Str, v = .str y ∧ Q (.str y) H') E0
theorem call_strO (m : GrOwn.Sm X.K C "__str__" f) (F : FnOk X.prog X.w X.K X.mg X.base CX0 k f fd ["self"] sp) (hb : Binds X.K fd ["self"] []) (hr : Room j X.A) (hk : k + 2 ≤ j) : CallR X (.type "str") (rStrO C sp) := by
  intro pins s σ H xs us Q I r h
  obtain ⟨a, dx, fs, rfl, ea, q⟩ := h
  obtain ⟨u, rfl, ru⟩ := vals1 r
  cases ru
  obtain ⟨od, J⟩ := inst I ea
  have sb : Sub X (k + 2) X.A := ⟨hr.mono hk, rfl⟩
  refine PySem.callType_newIn PySem.F.called_str (by decide) (PySem.F.typeCall_str_1 _) (PySem.F.newCall_str_1 _) (fun obj => PySem.F.args_object_init_2 obj _) PySem.F.entry_str_new
    (str_new_in (S := fun A R s => wpAny (model X.prog X.w) A.in1 (Builtin.Str.strOf (.ref a)) (fun r s' => R (.ok (.ret r)) s') (fun e s' => R (.error e) s') s) fun A R s h => h) ?_
  refine strOf_own I.kIn J m.at_ m.fn (by have := sb.in1.in1.room.units0; exact this) (thn (run_sub (Q := fun z H' => ∃ y : Str, z = .str y ∧ Q (.str y) H') (vs := [V.ref a]) F sb.in1.in1 hb pass0 I (.cons rfl .nil) q) fun r s' hq => ?_)
  obtain ⟨z, H', I', rz, y, rfl, qq⟩ := hq
  obtain ⟨t, rfl⟩ := rz
  exact ⟨y, t, rfl, typeIs_str _ _ _, .str y, H', I', ⟨t, rfl⟩, qq⟩
/-- a record is no dict -/
def rEqOD (C : Addr) (sp : Sp) : R2 := fun x y H Q => ∃ a dx fs d kvs, x = .ref a ∧ y = .ref d ∧ H a = some (.ins C dx fs) ∧ H d = some (.dK kvs) ∧ sp [.ref a, .ref d] H (fun v H' => ∃ b, v = .bl b ∧ Q (.bl b) H') E0
theorem op_eqOD (m : GrOwn.Sm X.K C "__eq__" f) (hi : PySem.W.subIn X.K (.type "dict") (.ref C) = some false) (F : FnOk X.prog X.w X.K X.mg X.base CX0 k f fd ["self", "other"] sp) (hb : Binds X.K fd ["self", "other"] []) (hr : Room j X.A) (hk : k ≤ j) : OpR X (compareOp .Eq) (rEqOD C sp) := by
  intro pins s σ H x y v u Q I rx ry h
  obtain ⟨a, dx, fs, d, kvs, rfl, rfl, ea, ed, q⟩ := h
  cases rx
  cases ry
  obtain ⟨od, J⟩ := inst I ea
  obtain ⟨m0, hF⟩ := I.fr
  have sb : Sub X k X.A := ⟨hr.mono hk, rfl⟩
  obtain ⟨_, sy, vb, kv, db⟩ := dk_of I.hok ed
  obtain ⟨o, es, ep, ho, hc, hd, _⟩ := id db
  have lk : PySem.W.Looks (model X.prog X.w) s.heap (typeOf (.ref d)) (.type "dict") := by
    have z : PySem.W.Looks (model X.prog X.w) s.heap (typeOf (.ref d)) o.cls := (PySem.W.Looks.ld ho).andThen .now
    rw [hc.1] at z
    exact z
  show wpAny (model X.prog X.w) X.A (richCompare .Eq (.ref a) (.ref d)) _ _ _
  refine PySem.W.cmp_K (op := .Eq) (tb := .type "dict") sb.room.units0 hF I.ok.mod.kin J lk ?_ m.at_ m.fn (thn (run_sub (vs := [V.ref a, V.ref d]) F sb hb pass0 I (.cons rfl (.cons rfl .nil)) q) fun r s' hq => ?_)
  · unfold PySem.W.notFirst
    rw [hi]
    rfl
  · obtain ⟨z, H', I', rz, b, rfl, qq⟩ := hq
    cases rz
    exact ⟨.bl b, H', I', rfl, qq⟩
end
def spEqD (C : Addr) : Sp := fun vs H Q _ => ∃ (a d dx : Addr) (fs : List (Str × V)) (kvs : List (Key × V)), vs = [.ref a, .ref d] ∧ H a = some (.ins C dx fs) ∧ H d = some (.dK kvs) ∧ Q (.bl false) H
def spWithin (n : Nat) : Sp := fun vs H Q _ => ∃ (a b : Addr) (S S' : Addr → Prop) (L L' : Nat) (fs gs : List (Str × T)), vs = [.ref a, .ref b] ∧ Tr S H L (n + 1) (.ref a) (.fds fs) ∧ Tr S' H L' (n + 1) (.ref b) (.fds gs) ∧ (a = b ∨ ∀ c, S' c → c ≠ a) ∧ n ≤ 40 ∧
  ∀ e, (e = true ↔ LeT n fs gs) → Q (.bl e) H
abbrev sWithin : Stmt := top 31
section
variable {P : Program} {w : World} {K : PySem.W.Frag} {mg : Str → Option Value} {base : Heap} {C : Addr}
theorem fn_eqD (T : Bu mg) (R : RecK K mg C) (kDR : PySem.W.kitOne K (.type "dict") (.ref C) = some false) {f : Addr} {fd : FuncData} (F : L2.Fun K "__eq__" "Record.__eq__" sEq f fd) : FnOk P w K mg base CX0 1 f fd ["self", "other"] (spEqD C) := by
  refine F.ok scEq (fun vs H Q E h => ?_) (fun cdv A outer s H vs Q E hr h => ?_)
  · obtain ⟨a, d, dx, fs, kvs, rfl, _⟩ := h
    rfl
  · obtain ⟨a, d, dx, fs, kvs, rfl, ea, ed, q⟩ := h
    suffices hh : ∃ t, PSs (cxOf CX0 P w K mg base ["self", "other"] "Record.__eq__" (defScope sEq) f cdv A outer s H E).nox (defBody sEq) t ∧ t { nx := fun _ H' => Q .non H', rt := Q } (start ["self", "other"] [.ref a, .ref d]) H from hh
    refine ⟨_, (pss_one (ps_ret (pe_and (pe_callB call_isi (by rfl) T.b_isinstance bo_isinstance (pa_cons (pv 1) (pa_cons (pe_glob (by rfl) R.mgC (v := .ref C) rfl) pa_nil)))
      (pe_and pe_no (pe_one pe_no))))), ?_⟩
    exact ⟨_, rfl, _, _, _, _, _, rfl, .own C, .base (.dK ed), kDR, _, rfl, iteF q⟩
theorem scWithin : FnScope ["left", "right", "name"] ["left", "right"] (defScope sWithin) := ⟨rfl, rfl, rfl, by decide +kernel, rfl, by decide +kernel, by decide +kernel⟩
theorem c_within (D : Dfn K mg "_law_within" sWithin ["left", "right"]) (n : Nat) : Cal P w K mg base 2 "_law_within" (spWithin n) := by
  refine D.cal scWithin (fun vs H Q E h => ?_) (fun f cdv A outer s H vs Q E hr h => ?_)
  · obtain ⟨a, b, S, S', L, L', fs, gs, rfl, _⟩ := h
    rfl
  · obtain ⟨a, b, S, S', L, L', fs, gs, rfl, ta, tb, dj, hn, q⟩ := h
    have hu := hu_of hr
    have hu64 := hr.units
    refine ⟨_, (pss_cons (ps_lock (ps_for PassesOwn.never rfl (pi_keys (pv 0)) (pg_name (i := 2) scWithin.nd rfl (Or.inl rfl))
      (pss_one (ps_if (PW.pt (pw_or (pt_cmp (pc_dnotin hu (pv 2) (pv 1))) (pw_or1 (pt_cmpR (op_neT hu64) (pe_dget hu (pv 0) (pv 2) (fun _ _ => rfl)) (pe_dget hu (pv 1) (pv 2) (fun _ _ => rfl)) (nomark _)))))
      (pss_one (ps_ret pe_bl))
      pss_nil))))
      (pss_one (ps_ret pe_bl))), ?_⟩
    obtain ⟨fs', l, m1, e1, en, sa, ea, wf, al⟩ := Lw.Tr.out2 ta
    cases e1
    cases en
    obtain ⟨gs', m, m2, e1, en, sb, eb, wg, ag⟩ := Lw.Tr.out2 tb
    cases e1
    cases en
    have ndl : (names l).Nodup := by
      rw [al.names]
      exact wf.nd
    refine ⟨a, .dK (dk l), ea, True.intro, fun od => ?_⟩
    have back : upd (upd H a (.frz od (.dK (dk l)))) a (.dK (dk l)) = H := upd_back ea
    have alB := al_away sa ea wf al (.frz od (.dK (dk l)))
    have eaB : (upd H a (.frz od (.dK (dk l)))) a = some (.frz od (.dK (dk l))) := upd_same
    have agB : Al (Tr S' (upd H a (.frz od (.dK (dk l)))) L' n) m gs := by
      rcases dj with e | e
      · subst e
        rw [ea] at eb
        have e2 : l = m := dk_inj (HO.dK.inj (Option.some.inj eb))
        subst e2
        exact al_away sb ea wg ag (.frz od (.dK (dk l)))
      · exact ag.imp fun _ _ _ z => z.keep fun c kvs sc h => by rw [upd_ne (e c sc)]; exact h
    have dgb : ∀ x, DGet (upd H a (.frz od (.dK (dk l)))) b (.str x) (look x m) := fun x => by
      rcases dj with e | e
      · subst e
        rw [ea] at eb
        have e2 : l = m := dk_inj (HO.dK.inj (Option.some.inj eb))
        subst e2
        exact .inl ⟨dk l, Sum.inr x, .inr ⟨od, eaB⟩, rfl, by rw [dk_val]⟩
      · have := DGet.k (k := Sum.inr x) (show (upd H a (.frz od (.dK (dk l)))) b = some (.dK (dk m)) from by rw [upd_ne (e b sb)]; exact eb)
        rwa [dk_val] at this
    refine ⟨_, rfl, a, od, rfl, .inl ⟨_, eaB, for_it walk_keys (fun i σ H' => ∃ nv : Option V, σ = [some (.ref a), some (.ref b), nv] ∧ H' = upd H a (.frz od (.dK (dk l))) ∧ ∀ p ∈ fs.take i, ∃ u, look p.1 gs = some u ∧ GrT.Sm n p.2 u)
      ⟨none, rfl, rfl, fun x hx => by simp at hx⟩ (fun i σ H' _ h => ?_) ?_ ?_⟩⟩
    · obtain ⟨nv, _, rfl, _⟩ := h
      exact eaB
    · rintro i y σ H' H2 hi ⟨nv, rfl, rfl, ok⟩ ⟨rfl, k', v', hk, rfl⟩
      obtain ⟨x, rfl, hx⟩ := dk_at hk
      obtain ⟨t1, hfx, r1⟩ := Lw.Al.at alB hx
      have ht1 : look x fs = some t1 := mem_look wf.nd (List.mem_of_getElem? hfx)
      have no : ∀ (h : ¬ ∃ u, look x gs = some u ∧ GrT.Sm n t1 u), Q (.bl false) (upd (upd H a (.frz od (.dK (dk l)))) a (.dK (dk l))) := fun h => by
        rw [back]
        exact q false ⟨(fun e => nomatch e), fun g => absurd (g x t1 ht1) h⟩
      have hda : DGet (upd H a (.frz od (.dK (dk l)))) a (.str x) (some v') := .inl ⟨dk l, Sum.inr x, .inr ⟨od, eaB⟩, rfl, by rw [dk_val, mem_look ndl (List.mem_of_getElem? hx)]⟩
      have hdb := dgb x
      refine ⟨_, rfl, _, rfl, b, _, rfl, hdb, _, rfl, ?_⟩
      cases e : look x m with
      | none =>
        refine iteT (iteT ⟨eaB, no ?_⟩)
        rintro ⟨u, hu2, _⟩
        rw [agB.none.mp e] at hu2
        cases hu2
      | some vb =>
        rw [e] at hdb
        obtain ⟨t2, ht2, r2⟩ := agB.get' e
        refine iteF ⟨_, rfl, _, rfl, a, v', rfl, hda, _, rfl, _, rfl, b, vb, rfl, hdb, n, t1, t2, S, S', L, L', by omega, r1, r2, _, rfl, ?_⟩
        by_cases e2 : smB n t1 t2 = true
        · refine ite2 (fun h => ?_) (fun _ => ⟨_, rfl, rfl, fun p hp => ?_⟩)
          · have h' : (!smB n t1 t2) = true := h
            rw [e2] at h'
            cases h'
          · rw [List.take_add_one, hfx] at hp
            rcases List.mem_append.mp hp with h | h
            · exact ok p h
            · have ey : p = (x, t1) := by simpa using h
              subst ey
              exact ⟨t2, ht2, smB_iff.mp e2⟩
        · refine ite2 (fun _ => ⟨eaB, no ?_⟩) (fun h => ?_)
          · rintro ⟨u, hu2, hs⟩
            rw [ht2] at hu2
            cases hu2
            exact e2 (smB_iff.mpr hs)
          · have e3 : smB n t1 t2 = false := by simpa using e2
            have h' : ¬ (!smB n t1 t2) = true := h
            rw [e3] at h'
            exact absurd rfl h'
    · rintro σ H' ⟨nv, rfl, rfl, ok⟩
      refine ⟨eaB, ?_⟩
      rw [back]
      refine q true ⟨fun _ x t ht => ok (x, t) ?_, fun _ => rfl⟩
      rw [dk_len, al.len, List.take_length]
      exact look_mem ht
end
end Lw
namespace Lw
open PySem PySem.Spec PyProof.Rows L2 GrT GrOwn Qd Ra
abbrev sBoth : Stmt := top 33
def spBoth (C : Addr) (n : Nat) : Sp := fun vs H Q _ => ∃ (a b r s : Addr) (S S' : Addr → Prop) (L L' : Nat) (fs gs : List (Str × T)), vs = [.ref a, .ref b, .ref r, .ref s] ∧ Tr S H L (n + 1) (.ref a) (.fds fs) ∧ Tr S' H L' (n + 1) (.ref b) (.fds gs) ∧ (a = b ∨ ∀ c, S' c → c ≠ a) ∧ n ≤ 40 ∧
  Rc All C H (n + 1) (.ref r) (.fds fs) ∧ Rc All C H (n + 1) (.ref s) (.fds gs) ∧ ∀ H', Same H H' → Q (.bl true) H'
section
variable {P : Program} {w : World} {K : PySem.W.Frag} {mg : Str → Option Value} {base : Heap} {C : Addr}
theorem scBoth : FnScope ["left", "right", "first", "second"] ["left", "right", "first", "second"] (defScope sBoth) := ⟨rfl, rfl, rfl, by decide +kernel, rfl, by decide +kernel, by decide +kernel⟩
theorem c_both (R : RecK K mg C) (hn : PySem.W.findIn K (.ref C) "__ne__" = some (some (.builtin "object.__ne__"))) (D : Dfn K mg "_law_both" sBoth ["left", "right", "first", "second"]) {n k kl : Nat} (M : EqM P w K mg base C k n) (m_le : MthX P w K mg base CX0 C kl "__le__" (spLeR C n))
    (c_within : Cal P w K mg base 2 "_law_within" (spWithin n)) {kk : Nat} (h1 : k + 1 ≤ kk) (h2 : kl ≤ kk) (h3 : 2 ≤ kk) : Cal P w K mg base (kk + 1) "_law_both" (spBoth C n) := by
  refine D.cal scBoth (fun vs H Q E h => ?_) (fun f cdv A outer s H vs Q E hr h => ?_)
  · obtain ⟨a, b, r, s, S, S', L, L', fs, gs, rfl, _⟩ := h
    rfl
  · obtain ⟨a, b, r, s2, S, S', L, L', fs, gs, rfl, ta, tb, dj, hn', r1, r2, q⟩ := h
    have hu64 := hr.units
    refine ⟨_, (pss_cons (ps_if (PW.pt (pw_or (pt_cmpR op_ne (pe_cmpR (op_eqRec R M hr (by omega)) (pv 2) (pv 3) (nomark _)) (pe_cmpR (op_eqT hu64) (pv 0) (pv 1) (nomark _)) (nomark _)) (pw_or1 (pt_cmpR op_ne (pe_cmpR (op_neRec R hn M hr (by omega)) (pv 2) (pv 3) (nomark _)) (pe_cmpR (op_neT hu64) (pv 0) (pv 1) (nomark _)) (nomark _)))))
      (pss_one (ps_ret pe_bl))
      pss_nil)
      (pss_one (ps_ret (pe_cmpR op_eq (pe_cmpR (op_leRec m_le hr (by omega)) (pv 2) (pv 3) (nomark _)) (pe_c c_within hr (by omega) rfl (pa_cons (pv 0) (pa_cons (pv 1) pa_nil))) (nomark _))))), ?_⟩
    refine ⟨_, rfl, _, rfl, r, s2, fs, gs, rfl, rfl, r1, r2, fun e H1 he s1 => ?_⟩
    refine ⟨_, rfl, _, rfl, n + 1, _, _, S, S', L, L', by omega, Tr.same ta s1, Tr.same tb s1, rfl, _, rfl, ?_⟩
    have ee : e = smB (n + 1) (.fds fs) (.fds gs) := Bool.eq_iff_iff.mpr (he.trans smB_iff.symm)
    rw [ee]
    refine ite2 (fun h => ?_) (fun _ => ?_)
    · simp at h
    refine ⟨_, rfl, _, rfl, r, s2, fs, gs, rfl, rfl, r1.same s1, r2.same s1, fun e2 H2 he2 s2' => ?_⟩
    have ee2 : e2 = smB (n + 1) (.fds fs) (.fds gs) := Bool.eq_iff_iff.mpr (he2.trans smB_iff.symm)
    have s12 := s1.trans s2'
    refine ⟨_, rfl, _, rfl, n + 1, _, _, S, S', L, L', by omega, Tr.same ta s12, Tr.same tb s12, rfl, _, rfl, ?_⟩
    rw [ee2]
    refine ite2 (fun h => ?_) (fun _ => ?_)
    · simp at h
    refine ⟨_, rfl, _, rfl, r, s2, fs, gs, rfl, rfl, r1.same s12, r2.same s12, fun e3 H3 he3 s3 => ?_⟩
    have s13 := s12.trans s3
    refine ⟨_, rfl, _, rfl, a, b, S, S', L, L', fs, gs, rfl, Tr.same ta s13, Tr.same tb s13, dj, hn', fun e4 he4 => ⟨rfl, ?_⟩⟩
    have e34 : e3 = e4 := Bool.eq_iff_iff.mpr (he3.trans he4.symm)
    rw [e34, show decide (V.bl e4 = V.bl e4) = true from decide_eq_true rfl]
    exact q H3 s13
end
end Lw
namespace Lw
open PySem PySem.Spec PyProof.Rows L2 GrT GrOwn Qd Ra
theorem Fx.fresh {p : Addr} {H H1 H2 : Hp} (h : H p = none) (s : Same H H1) (x : Fx p H1 H2) : Same H H2 := fun b o e => x b o (fun z => by
  rw [z, h] at e
  cases e) (s b o e)
theorem Tape.same {H H' : Hp} {p : Addr} (t : Tape H p) (s : Same H H') : Tape H' p := by
  obtain ⟨z, f1, f2⟩ := t
  exact ⟨z, s _ _ f1, f2⟩
theorem Tx.empty {n : Nat} {y : Str} (h : Tx (n + 1) (.fds []) y) : y = ("{}" : Str) := by
  rcases h with ⟨i, e, _⟩ | ⟨fs, ys, zs, e, pm, _, pr, rfl⟩
  · cases e
  · cases e
    have hy : ys = [] := List.perm_nil.mp pm
    subst hy
    cases pr
    decide +kernel
def spLaw (K : PySem.W.Frag) : Sp := fun vs H Q _ => ∃ (a : Addr) (ns : List Int), vs = [.ref a] ∧ SqL K H a (ns.map V.int) ∧ ns.length ≤ 63 ∧ ∀ H', Q (.bl true) H'
section
variable {P : Program} {w : World} {K : PySem.W.Frag} {mg : Str → Option Value} {base : Heap} {C : Addr}
theorem scLaw : FnScope ["script", "k", "tape", "names", "left", "right", "first", "second", "text"] ["script"] (defScope sLaw) := ⟨rfl, rfl, rfl, by decide +kernel, rfl, by decide +kernel, by decide +kernel⟩
theorem fn_law (T : Bu mg) (bm : mg "min" = none) (R : RecK K mg C) (kDR : PySem.W.subIn K (.type "dict") (.ref C) = some false)
    (c_law_cell : Cal P w K mg base 1 "_law_cell" (spCell K)) (c_law_tape : Cal P w K mg base 2 "_law_tape" spTape) (c_law_take : Cal P w K mg base 1 "_law_take" spTake) (c_law_pool : Cal P w K mg base 4 "_law_pool" spPool) (c_law_fields : Cal P w K mg base 6 "_law_fields" (spFields 2))
    (c_law_other : Cal P w K mg base 7 "_law_other" spOther) (c_law_turned : Cal P w K mg base 6 "_law_turned" (spTurned 7 4)) (s_make : SCal P w K mg base C 9 (spMake C 3)) (c_law_both : Cal P w K mg base 10 "_law_both" (spBoth C 3)) (c_law_text : Cal P w K mg base 6 "_law_text" (spText 4))
    {fe : Addr} {fde : FuncData} (me : GrOwn.Sm K C "__eq__" fe) (be : Binds K fde ["self", "other"] []) (Fe : FnOk P w K mg base CX0 8 fe fde ["self", "other"] (spEqR C 3)) (Fd : FnOk P w K mg base CX0 1 fe fde ["self", "other"] (spEqD C))
    {fs0 : Addr} {fds0 : FuncData} (ms : GrOwn.Sm K C "__str__" fs0) (bs : Binds K fds0 ["self"] []) (Fs : FnOk P w K mg base CX0 9 fs0 fds0 ["self"] (spStr C 3))
    {f : Addr} {fd : FuncData} (F : L2.Fun K "law" "law" sLaw f fd) : FnOk P w K mg base CX0 12 f fd ["script"] (spLaw K) := by
  refine F.ok scLaw (fun vs H Q E h => ?_) (fun cdv A outer s H vs Q E hr h => ?_)
  · obtain ⟨a, ns, rfl, _⟩ := h
    rfl
  · obtain ⟨a, ns, rfl, hS, hl, q⟩ := h
    refine ⟨_, (pss_cons (ps_for PassesOwn.never rfl (pi_range1 (by rfl) T.b_range (pa_cons (pe_callB (call_min2 rfl) (by rfl) bm (by decide +kernel) (pa_cons pe_int (pa_cons (pe_op op_add pe_int (pe_op op_fdiv (pe_callB call_len_seq (by rfl) T.b_len PySem.boot_len (pa_cons (pv 0) pa_nil)) pe_int)) pa_nil))) pa_nil)) (pg_name (i := 1) scLaw.nd rfl (Or.inl rfl))
      (pss_cons (ps_set (i := 2) scLaw.nd rfl (Or.inl rfl) (pe_c c_law_tape hr (by decide) rfl (pa_cons (pe_c c_law_cell hr (by decide) rfl (pa_cons (pv 0) (pa_cons (pe_op op_mul pe_int (pv 1)) pa_nil))) (pa_cons (pe_c c_law_cell hr (by decide) rfl (pa_cons (pv 0) (pa_cons (pe_op op_add (pe_op op_mul pe_int (pv 1)) pe_int) pa_nil))) (pa_cons pe_int pa_nil)))))
      (pss_cons (ps_set (i := 3) scLaw.nd rfl (Or.inl rfl) (pe_c c_law_pool hr (by decide) rfl (pa_cons (pv 2) (pa_cons (pe_op op_add pe_int (pe_c c_law_take hr (by decide) rfl (pa_cons (pv 2) (pa_cons pe_int pa_nil)))) pa_nil))))
      (pss_cons (ps_set (i := 4) scLaw.nd rfl (Or.inl rfl) (pe_c c_law_fields hr (by decide) rfl (pa_cons (pv 2) (pa_cons (pv 3) (pa_cons pe_int pa_nil)))))
      (pss_cons (ps_set (i := 5) scLaw.nd rfl (Or.inl rfl) (pe_c c_law_other hr (by decide) rfl (pa_cons (pv 2) (pa_cons (pv 3) (pa_cons (pv 4) pa_nil)))))
      (pss_cons (ps_set (i := 6) scLaw.nd rfl (Or.inl rfl) (pe_smC (pe_glob (by rfl) R.mgC (v := .ref C) rfl) s_make hr (by decide) (pa_cons (pe_c c_law_turned hr (by decide) rfl (pa_cons (pv 4) pa_nil)) pa_nil)))
      (pss_cons (ps_set (i := 7) scLaw.nd rfl (Or.inl rfl) (pe_smC (pe_glob (by rfl) R.mgC (v := .ref C) rfl) s_make hr (by decide) (pa_cons (pe_c c_law_turned hr (by decide) rfl (pa_cons (pv 5) pa_nil)) pa_nil)))
      (pss_cons (ps_if (PW.pt (pw_or (pt_not (pt_val (pe_c c_law_both hr (by decide) rfl (pa_cons (pv 4) (pa_cons (pv 5) (pa_cons (pv 6) (pa_cons (pv 7) pa_nil))))))) (pw_or1 (pt_not (pt_val (pe_c c_law_both hr (by decide) rfl (pa_cons (pv 5) (pa_cons (pv 4) (pa_cons (pv 7) (pa_cons (pv 6) pa_nil)))))))))) (pss_one (ps_ret pe_bl)) pss_nil)
      (pss_cons (ps_if (PW.pt (pw_or (pt_not (pt_val (pe_c c_law_both hr (by decide) rfl (pa_cons (pv 4) (pa_cons (pv 4) (pa_cons (pv 6) (pa_cons (pe_smC (pe_glob (by rfl) R.mgC (v := .ref C) rfl) s_make hr (by decide) (pa_cons (pv 4) pa_nil)) pa_nil)))))))
        (pw_or (pt_cmpR (GrOwn.op_eqOL me R.sI Fe (hr.mono (by decide)) be pass0) (pv 6) (pe_callB call_lenD (by rfl) T.b_len PySem.boot_len (pa_cons (pv 4) pa_nil)) (nomark _)) (pw_or1 (pt_cmpR (op_eqOD me kDR Fd be hr (by decide)) (pv 6) (pv 4) (nomark _)))))) (pss_one (ps_ret pe_bl)) pss_nil)
      (pss_cons (ps_set (i := 8) scLaw.nd rfl (Or.inl rfl) (pe_callTy (call_strO ms Fs bs hr (by decide)) (by rfl) T.b_str bo_str (pa_cons (pv 6) pa_nil)))
      (pss_one (ps_if (PW.pt (pw_or (pt_not (pt_val (pe_callB call_isi (by rfl) T.b_isinstance bo_isinstance (pa_cons (pv 8) (pa_cons (pe_bltn (by rfl) T.b_str bo_str (v := .ty "str") rfl) pa_nil))))) (pw_or (pt_cmpR op_ne (pv 8) (pe_c c_law_text hr (by decide) rfl (pa_cons (pv 4) pa_nil)) (nomark _))
        (pw_or1 (pt_cmpR op_ne (pe_callTy (call_strO ms Fs bs hr (by decide)) (by rfl) T.b_str bo_str (pa_cons (pv 7) pa_nil)) (pe_c c_law_text hr (by decide) rfl (pa_cons (pv 5) pa_nil)) (nomark _)))))) (pss_one (ps_ret pe_bl)) pss_nil))))))))))))
      (pss_one (ps_ret (pe_cmpR op_eq (pe_callTy (call_strO ms Fs bs hr (by decide)) (by rfl) T.b_str bo_str (pa_cons (pe_smC (pe_glob (by rfl) R.mgC (v := .ref C) rfl) s_make hr (by decide) (pa_cons pe_dnewK pa_nil)) pa_nil)) pe_str (nomark _))))), ?_⟩
    have hm : ∀ z : Int, z = (if 1 + ((ns.map V.int).length : Int) / 2 < 10 then 1 + ((ns.map V.int).length : Int) / 2 else 10) → 0 ≤ z ∧ z ≤ 10 := fun z e => by
      split at e <;> omega
    refine ⟨_, rfl, a, _, rfl, .inl hS, _, _, rfl, rfl, ⟨by decide, by decide⟩, _, _, rfl, rfl, _, _, rfl, ?_⟩
    generalize hz : (if 1 + ((ns.map V.int).length : Int) / 2 < 10 then 1 + ((ns.map V.int).length : Int) / 2 else 10) = z
    have hz2 := hm z hz.symm
    refine ⟨z, rfl, by omega, by omega, for_range (lo := 0) (n := z.toNat) (fun i σ H' => ∃ (kv tv nv lv rv fv sv xv : Option V), σ = [some (.ref a), kv, tv, nv, lv, rv, fv, sv, xv] ∧ Same H H')
      ⟨none, none, none, none, none, none, none, none, rfl, Same.refl _⟩ ?_ ?_⟩
    · rintro i σ H0 hi ⟨kv, tv, nv, lv, rv, fv, sv, xv, rfl, s0⟩
      have hS0 := s0.seq hS
      refine ⟨_, rfl, _, rfl, _, _, rfl, rfl, .inl ⟨by decide, by decide⟩, a, ns, _, rfl, hS0, by omega, fun g => ?_⟩
      refine ⟨_, rfl, _, rfl, _, _, rfl, rfl, .inl ⟨by decide, by decide⟩, _, _, rfl, rfl, a, ns, _, rfl, hS0, by omega, fun g2 => ?_⟩
      refine ⟨g, g2, 300, rfl, by decide, by decide, fun p H1 hp tp1 s1 => ?_⟩
      have s01 := s0.trans s1
      have hp0 : H p = none := s0.free hp
      refine ⟨_, rfl, _, rfl, p, 6, rfl, tp1, by decide, fun c H2 c0 c1 x2 t2 => ⟨_, _, rfl, rfl, ?_⟩⟩
      refine ⟨p, _, rfl, t2, by omega, by omega, fun W ws H3 hW eW wl wn x3 t3 => ?_⟩
      have Wp : W ≠ p := t2.ne'' hW
      have s03 : Same H H3 := Fx.fresh hp0 s01 (x2.trans x3)
      refine ⟨_, rfl, _, rfl, p, W, ws, rfl, t3, eW, Wp, by omega, by omega, wn, fun D1 fs H4 r4 b4 x4 t4 => ?_⟩
      have r4' := Tr.ex r4
      have eW4 := x4 _ _ Wp eW
      refine ⟨_, rfl, _, rfl, _, rfl, p, W, ws, .ref D1, _, fs, rfl, t4, eW4, Wp, by omega, by omega, wn, r4', b4, fun D2 gs H5 r5 b5 x5 t5 => ?_⟩
      have l5 : Tr (fun b => H3 b = none ∧ H4 b ≠ none) H5 7 4 (.ref D1) (.fds fs) := Tr.mono (Tr.fx r4' t4 x5) (by decide) (by decide)
      have bl : Bd 4 (.fds fs) := b4.mono (by decide)
      have hD1 : H4 D1 ≠ none := by
        obtain ⟨_, _, _, _, _, sA, _⟩ := Lw.Tr.out2 r4'
        exact sA.2
      have hD2 : H4 D2 = none := by
        obtain ⟨_, _, _, _, _, sA, _⟩ := Lw.Tr.out2 r5
        exact sA
      have s05 : Same H H5 := Fx.fresh hp0 s03 (x4.trans x5)
      have dj1 : ∀ c, H4 c = none → c ≠ D1 := fun c hc e => hD1 (by rw [← e]; exact hc)
      have dj2 : ∀ c, H3 c = none ∧ H4 c ≠ none → c ≠ D2 := fun c hc e => hc.2 (by rw [e]; exact hD2)
      refine ⟨rfl, _, rfl, .ref D1, _, _, rfl, l5, fun v6 t6 H6 r6 m6 s6 => ?_⟩
      obtain ⟨fs6, rfl⟩ := Lw.Sm.fdsL m6
      refine ⟨v6, _, fs6, rfl, Tr.mono r6 (by decide) (by decide), fun rv1 H7 rr1 s7 => ?_⟩
      have rc1 : Rc All C H7 4 rv1 (.fds fs) := (rr1.sim m6).wid fun _ _ => True.intro
      obtain ⟨ra, rfl⟩ := Lw.Rc.ref' rc1
      have s57 := s6.trans s7
      have l7 := Tr.same l5 s57
      have r7 := Tr.same r5 s57
      refine ⟨rfl, _, rfl, .ref D2, _, _, rfl, r7, fun v8 t8 H8 r8 m8 s8 => ?_⟩
      obtain ⟨gs8, rfl⟩ := Lw.Sm.fdsL m8
      refine ⟨v8, _, gs8, rfl, Tr.mono r8 (by decide) (by decide), fun rv2 H9 rr2 s9 => ?_⟩
      have rc2 : Rc All C H9 4 rv2 (.fds gs) := (rr2.sim m8).wid fun _ _ => True.intro
      obtain ⟨rb, rfl⟩ := Lw.Rc.ref' rc2
      have s79 := s8.trans s9
      have l9 := Tr.same l7 s79
      have r9 := Tr.same r7 s79
      have rc19 := rc1.same s79
      have s09 := (s05.trans s57).trans s79
      refine ⟨_, rfl, _, rfl, _, rfl, _, rfl, D1, D2, ra, rb, _, _, _, _, fs, gs, rfl, l9, r9, .inr dj1, by decide, rc19, rc2, fun H10 s10 => ⟨_, rfl, iteF ?_⟩⟩
      refine ⟨_, rfl, _, rfl, _, rfl, _, rfl, D2, D1, rb, ra, _, _, _, _, gs, fs, rfl, Tr.same r9 s10, Tr.same l9 s10, .inr dj2, by decide, rc2.same s10, rc19.same s10, fun H11 s11 => ⟨_, rfl, iteF ?_⟩⟩
      have s911 := s10.trans s11
      have l11 := Tr.same l9 s911
      refine ⟨_, rfl, _, rfl, _, rfl, rfl, _, rfl, .ref D1, _, fs, rfl, Tr.mono l11 (by decide) (by decide), fun rv3 H12 rr3 s12 => ?_⟩
      have rc3 : Rc All C H12 4 rv3 (.fds fs) := rr3.wid fun _ _ => True.intro
      obtain ⟨rd, rfl⟩ := Lw.Rc.ref' rc3
      have s912 := s911.trans s12
      have l12 := Tr.same l9 s912
      refine ⟨D1, D1, ra, rd, _, _, _, _, fs, fs, rfl, l12, l12, .inl rfl, by decide, rc19.same s912, rc3, fun H13 s13 => ⟨_, rfl, iteF ?_⟩⟩
      have s913 := s912.trans s13
      have l13 := Tr.same l9 s913
      have r13 := Tr.same r9 s913
      have rc113 := rc19.same s913
      have rc213 := rc2.same s913
      obtain ⟨_, lD, _, _, _, _, eD13, _, _⟩ := Lw.Tr.out2 l13
      obtain ⟨dx1, vs1, ea13⟩ := Rc.ins rc113
      refine ⟨_, rfl, _, rfl, D1, dk lD, rfl, eD13, ra, dx1, vs1, rfl, ea13, .inl ⟨_, rfl⟩, ra, fs, rc113, .inl ⟨_, rfl, fun H14 s14 => ⟨false, rfl, _, rfl, iteF ?_⟩⟩⟩
      refine ⟨_, rfl, _, rfl, ra, dx1, vs1, D1, dk lD, rfl, rfl, s14 _ _ ea13, s14 _ _ eD13, ra, D1, dx1, vs1, dk lD, rfl, s14 _ _ ea13, s14 _ _ eD13, false, rfl, _, rfl, iteF ?_⟩
      have s914 := s913.trans s14
      have rc114 := rc19.same s914
      obtain ⟨dx2, vs2, ea14⟩ := Rc.ins rc114
      refine ⟨_, rfl, ra, dx2, vs2, rfl, ea14, ra, fs, rfl, rc114, bl, by decide, fun y1 H15 tx1 s15 => ⟨y1, rfl, ?_⟩⟩
      have s915 := s914.trans s15
      refine ⟨_, rfl, _, _, _, _, _, rfl, .ty _, .base (.str y1), rfl, _, rfl, iteF ?_⟩
      refine ⟨_, rfl, _, rfl, .ref D1, _, _, rfl, Tr.same l9 s915, bl, by decide, fun y2 H16 tx2 s16 => ?_⟩
      have e12 : y1 = y2 := Tx.one tx1 tx2 (Sm.rfl' l9)
      refine ⟨rfl, _, rfl, ?_⟩
      rw [e12, show decide (V.str y2 = V.str y2) = true from decide_eq_true rfl]
      refine iteF ?_
      have s916 := s915.trans s16
      have rc216 := rc2.same s916
      obtain ⟨dx3, vs3, ea16⟩ := Rc.ins rc216
      refine ⟨_, rfl, rb, dx3, vs3, rfl, ea16, rb, gs, rfl, rc216, b5, by decide, fun y3 H17 tx3 s17 => ⟨y3, rfl, ?_⟩⟩
      have s917 := s916.trans s17
      refine ⟨_, rfl, .ref D2, _, _, rfl, Tr.same r9 s917, b5, by decide, fun y4 H18 tx4 s18 => ?_⟩
      have e34 : y3 = y4 := Tx.one tx3 tx4 (Sm.rfl' r9)
      refine ⟨rfl, _, rfl, ?_⟩
      rw [e34, show decide (V.str y4 = V.str y4) = true from decide_eq_true rfl]
      exact iteF ⟨_, _, _, _, _, _, _, _, rfl, (s09.trans s917).trans s18⟩
    · rintro σ H' ⟨kv, tv, nv, lv, rv, fv, sv, xv, rfl, s0⟩
      refine ⟨rfl, fun D hD => ?_⟩
      have eD : (upd H' D (.dK [])) D = some (.dK (dk [])) := upd_same
      refine ⟨.ref D, fun _ => True, [], rfl, .inr ⟨D, [], [], rfl, rfl, True.intro, eD, Wf.nil, .nil⟩, fun rv H2 rr s2 => ?_⟩
      have rc : Rc All C H2 4 rv (.fds []) := rr.wid fun _ _ => True.intro
      obtain ⟨ra, rfl⟩ := Lw.Rc.ref' rc
      obtain ⟨dx, vs, ea⟩ := Rc.ins rc
      refine ⟨ra, dx, vs, rfl, ea, ra, [], rfl, rc, .inr ⟨[], rfl, Nat.zero_le _, (fun p h => by cases h), fun p h => by cases h⟩, by decide, fun y H3 tx s3 => ⟨y, rfl, rfl, ?_⟩⟩
      rw [Tx.empty tx]
      exact q H3
end
end Lw
namespace Lw
open PySem PySem.Spec PyProof.Rows L2 GrT GrOwn Qd Ra
theorem all_mk {l : PySem.W.OpenLaw} {w : World} {K : PySem.W.Frag} {h : Heap} {mg : Str → Option Value} {fa C pm ps f1 f2 f3 f4 f5 f6 f7 f8 f9 f10 f11 f12 f13 f14 f15 f16 f17 f18 f19 f20 f21 f22 f23 f24 f25 f26 f27 : Addr} {cdC : ClassData} {ocC : Value} {odC : Option Addr} {slC : Array (Option Value)} {tL : Tok} {rest1 : List Value} {rest2 : List Value} (X : K.In h) (G : h.Ns mainGlobals mg) (hfa : mg "law" = some (.ref fa))
    {od1 an1 od2 an2 od3 an3 od4 an4 od5 an5 od6 an6 od7 an7 od8 an8 od9 an9 od10 an10 od11 an11 od12 an12 od13 an13 od14 an14 od15 an15 od16 an16 od17 an17 od18 an18 od19 an19 od20 an20 od21 an21 od22 an22 od23 an23 od24 an24 od25 an25 od26 an26 od27 an27 : Option Addr} {sl1 sl2 sl3 sl4 sl5 sl6 sl7 sl8 sl9 sl10 sl11 sl12 sl13 sl14 sl15 sl16 sl17 sl18 sl19 sl20 sl21 sl22 sl23 sl24 sl25 sl26 sl27 : Array (Option Value)} {oc1 kV1 dc1 pm1 cd1 ct1 oc2 kV2 dc2 pm2 cd2 ct2 oc3 kV3 dc3 pm3 cd3 ct3 oc4 kV4 dc4 pm4 cd4 ct4 oc5 kV5 dc5 pm5 cd5 ct5 oc6 kV6 dc6 pm6 cd6 ct6 oc7 kV7 dc7 pm7 cd7 ct7 oc8 kV8 dc8 pm8 cd8 ct8 oc9 kV9 dc9 pm9 cd9 ct9 oc10 kV10 dc10 pm10 cd10 ct10 oc11 kV11 dc11 pm11 cd11 ct11 oc12 kV12 dc12 pm12 cd12 ct12 oc13 kV13 dc13 pm13 cd13 ct13 oc14 kV14 dc14 pm14 cd14 ct14 oc15 kV15 dc15 pm15 cd15 ct15 oc16 kV16 dc16 pm16 cd16 ct16 oc17 kV17 dc17 pm17 cd17 ct17 oc18 kV18 dc18 pm18 cd18 ct18 oc19 kV19 dc19 pm19 cd19 ct19 oc20 kV20 dc20 pm20 cd20 ct20 oc21 kV21 dc21 pm21 cd21 ct21 oc22 kV22 dc22 pm22 cd22 ct22 oc23 kV23 dc23 pm23 cd23 ct23 oc24 kV24 dc24 pm24 cd24 ct24 oc25 kV25 dc25 pm25 cd25 ct25 oc26 kV26 dc26 pm26 cd26 ct26 oc27 kV27 dc27 pm27 cd27 ct27 : Value}
    (aC : PySem.W.nsIn K mainGlobals "Record" = some (some (.ref C)))
    (pg : PySem.W.plainGet K C Str.empty = true)
    (hd : PySem.W.hasDictIn K C = true)
    (po : PySem.W.plainOver K C = true)
    (sa : PySem.W.findIn K (.ref C) "__setattr__" = some (some (.builtin "object.__setattr__")))
    (mk : PySem.W.makesIn K C = true)
    (kc : PySem.W.keepIn K (.ref C) = true)
    (nN : PySem.W.findIn K (.ref C) "names" = some none)
    (nF : PySem.W.findIn K (.ref C) "_fields" = some none)
    (nS : PySem.W.findIn K (.ref C) "_size" = some none)
    (ha : PySem.W.findIn K (.ref C) "__class__" = some (some (.builtin "object.__class__")))
    (hn : PySem.W.specialIn K (.builtin "object.__class__") "__get__" = some (some (.builtin "getset_descriptor.__get__")))
    (htk : PySem.W.takesIn K (.builtin "object.__class__") = some true)
    (hm : PySem.W.mroIn K C (.type "object") = some true)
    (cI : K.lookup C = some ⟨ocC, odC, .cls cdC, slC⟩)
    (tI : PySem.W.typeIn K (.ref C) = some (.type "type"))
    (sD : PySem.W.subIn K (.ref C) (.type "dict") = some false)
    (sI : PySem.W.subIn K (.type "int") (.ref C) = some false)
    (sR : PySem.W.subIn K (.ref C) (.type "int") = some false)
    (gL : PySem.W.nsIn K mainGlobals "LONGEST_NAME" = some (some (.int 30 tL)))
    (sf : PySem.W.selfFirst K C = true)
    (hne : PySem.W.findIn K (.ref C) "__ne__" = some (some (.builtin "object.__ne__")))
    (hfm : PySem.W.findIn K (.ref C) "__format__" = some (some (.builtin "object.__format__")))
    (sDR : PySem.W.subIn K (.type "dict") (.ref C) = some false)
    (a1 : PySem.W.nsIn K mainGlobals "_law_cell" = some (some (.ref f1)))
    (l1 : K.lookup f1 = some ⟨oc1, od1, .func (PySem.W.fnOf "_law_cell" "_law_cell" (defArgs sCell) (defBody sCell) (defScope sCell) .none kV1 dc1 pm1 an1 cd1 ct1), sl1⟩)
    (c1 : PySem.W.codeIn K cd1 "_law_cell" = true)
    (k1 : PySem.W.keepIn K (.ref f1) = true)
    (a2 : PySem.W.nsIn K mainGlobals "_law_mixed" = some (some (.ref f2)))
    (l2 : K.lookup f2 = some ⟨oc2, od2, .func (PySem.W.fnOf "_law_mixed" "_law_mixed" (defArgs sMixed) (defBody sMixed) (defScope sMixed) .none kV2 dc2 pm2 an2 cd2 ct2), sl2⟩)
    (c2 : PySem.W.codeIn K cd2 "_law_mixed" = true)
    (k2 : PySem.W.keepIn K (.ref f2) = true)
    (a3 : PySem.W.nsIn K mainGlobals "_law_tape" = some (some (.ref f3)))
    (l3 : K.lookup f3 = some ⟨oc3, od3, .func (PySem.W.fnOf "_law_tape" "_law_tape" (defArgs sTape) (defBody sTape) (defScope sTape) .none kV3 dc3 pm3 an3 cd3 ct3), sl3⟩)
    (c3 : PySem.W.codeIn K cd3 "_law_tape" = true)
    (k3 : PySem.W.keepIn K (.ref f3) = true)
    (a4 : PySem.W.nsIn K mainGlobals "_law_take" = some (some (.ref f4)))
    (l4 : K.lookup f4 = some ⟨oc4, od4, .func (PySem.W.fnOf "_law_take" "_law_take" (defArgs sTake) (defBody sTake) (defScope sTake) .none kV4 dc4 pm4 an4 cd4 ct4), sl4⟩)
    (c4 : PySem.W.codeIn K cd4 "_law_take" = true)
    (k4 : PySem.W.keepIn K (.ref f4) = true)
    (a5 : PySem.W.nsIn K mainGlobals "_law_number" = some (some (.ref f5)))
    (l5 : K.lookup f5 = some ⟨oc5, od5, .func (PySem.W.fnOf "_law_number" "_law_number" (defArgs sNumber) (defBody sNumber) (defScope sNumber) .none kV5 dc5 pm5 an5 cd5 ct5), sl5⟩)
    (c5 : PySem.W.codeIn K cd5 "_law_number" = true)
    (k5 : PySem.W.keepIn K (.ref f5) = true)
    (a6 : PySem.W.nsIn K mainGlobals "_law_word" = some (some (.ref f6)))
    (l6 : K.lookup f6 = some ⟨oc6, od6, .func (PySem.W.fnOf "_law_word" "_law_word" (defArgs sWord) (defBody sWord) (defScope sWord) .none kV6 dc6 pm6 an6 cd6 ct6), sl6⟩)
    (c6 : PySem.W.codeIn K cd6 "_law_word" = true)
    (k6 : PySem.W.keepIn K (.ref f6) = true)
    (a7 : PySem.W.nsIn K mainGlobals "_law_words" = some (some (.ref f7)))
    (l7 : K.lookup f7 = some ⟨oc7, od7, .func (PySem.W.fnOf "_law_words" "_law_words" (defArgs sWords) (defBody sWords) (defScope sWords) .none kV7 dc7 pm7 an7 cd7 ct7), sl7⟩)
    (c7 : PySem.W.codeIn K cd7 "_law_words" = true)
    (k7 : PySem.W.keepIn K (.ref f7) = true)
    (a8 : PySem.W.nsIn K mainGlobals "_law_pick" = some (some (.ref f8)))
    (l8 : K.lookup f8 = some ⟨oc8, od8, .func (PySem.W.fnOf "_law_pick" "_law_pick" (defArgs sPick) (defBody sPick) (defScope sPick) .none kV8 dc8 pm8 an8 cd8 ct8), sl8⟩)
    (c8 : PySem.W.codeIn K cd8 "_law_pick" = true)
    (k8 : PySem.W.keepIn K (.ref f8) = true)
    (a9 : PySem.W.nsIn K mainGlobals "_law_long" = some (some (.ref f9)))
    (l9 : K.lookup f9 = some ⟨oc9, od9, .func (PySem.W.fnOf "_law_long" "_law_long" (defArgs sLong) (defBody sLong) (defScope sLong) .none kV9 dc9 pm9 an9 cd9 ct9), sl9⟩)
    (c9 : PySem.W.codeIn K cd9 "_law_long" = true)
    (k9 : PySem.W.keepIn K (.ref f9) = true)
    (a10 : PySem.W.nsIn K mainGlobals "_law_pool" = some (some (.ref f10)))
    (l10 : K.lookup f10 = some ⟨oc10, od10, .func (PySem.W.fnOf "_law_pool" "_law_pool" (defArgs sPool) (defBody sPool) (defScope sPool) .none kV10 dc10 pm10 an10 cd10 ct10), sl10⟩)
    (c10 : PySem.W.codeIn K cd10 "_law_pool" = true)
    (k10 : PySem.W.keepIn K (.ref f10) = true)
    (a11 : PySem.W.nsIn K mainGlobals "_law_fields" = some (some (.ref f11)))
    (l11 : K.lookup f11 = some ⟨oc11, od11, .func (PySem.W.fnOf "_law_fields" "_law_fields" (defArgs sFields) (defBody sFields) (defScope sFields) .none kV11 dc11 pm11 an11 cd11 ct11), sl11⟩)
    (c11 : PySem.W.codeIn K cd11 "_law_fields" = true)
    (k11 : PySem.W.keepIn K (.ref f11) = true)
    (a12 : PySem.W.nsIn K mainGlobals "_law_turned" = some (some (.ref f12)))
    (l12 : K.lookup f12 = some ⟨oc12, od12, .func (PySem.W.fnOf "_law_turned" "_law_turned" (defArgs sTurn) (defBody sTurn) (defScope sTurn) .none kV12 dc12 pm12 an12 cd12 ct12), sl12⟩)
    (c12 : PySem.W.codeIn K cd12 "_law_turned" = true)
    (k12 : PySem.W.keepIn K (.ref f12) = true)
    (a13 : PySem.W.nsIn K mainGlobals "_law_sorted" = some (some (.ref f13)))
    (l13 : K.lookup f13 = some ⟨oc13, od13, .func (PySem.W.fnOf "_law_sorted" "_law_sorted" (defArgs sSorted) (defBody sSorted) (defScope sSorted) .none kV13 dc13 pm13 an13 cd13 ct13), sl13⟩)
    (c13 : PySem.W.codeIn K cd13 "_law_sorted" = true)
    (k13 : PySem.W.keepIn K (.ref f13) = true)
    (a14 : PySem.W.nsIn K mainGlobals "_law_at_some_level" = some (some (.ref f14)))
    (l14 : K.lookup f14 = some ⟨oc14, od14, .func (PySem.W.fnOf "_law_at_some_level" "_law_at_some_level" (defArgs sLevel) (defBody sLevel) (defScope sLevel) .none kV14 dc14 pm14 an14 cd14 ct14), sl14⟩)
    (c14 : PySem.W.codeIn K cd14 "_law_at_some_level" = true)
    (k14 : PySem.W.keepIn K (.ref f14) = true)
    (a15 : PySem.W.nsIn K mainGlobals "_law_other" = some (some (.ref f15)))
    (l15 : K.lookup f15 = some ⟨oc15, od15, .func (PySem.W.fnOf "_law_other" "_law_other" (defArgs sOther) (defBody sOther) (defScope sOther) .none kV15 dc15 pm15 an15 cd15 ct15), sl15⟩)
    (c15 : PySem.W.codeIn K cd15 "_law_other" = true)
    (k15 : PySem.W.keepIn K (.ref f15) = true)
    (a16 : PySem.W.nsIn K mainGlobals "_law_within" = some (some (.ref f16)))
    (l16 : K.lookup f16 = some ⟨oc16, od16, .func (PySem.W.fnOf "_law_within" "_law_within" (defArgs sWithin) (defBody sWithin) (defScope sWithin) .none kV16 dc16 pm16 an16 cd16 ct16), sl16⟩)
    (c16 : PySem.W.codeIn K cd16 "_law_within" = true)
    (k16 : PySem.W.keepIn K (.ref f16) = true)
    (a17 : PySem.W.nsIn K mainGlobals "_law_text" = some (some (.ref f17)))
    (l17 : K.lookup f17 = some ⟨oc17, od17, .func (PySem.W.fnOf "_law_text" "_law_text" (defArgs sText) (defBody sText) (defScope sText) .none kV17 dc17 pm17 an17 cd17 ct17), sl17⟩)
    (c17 : PySem.W.codeIn K cd17 "_law_text" = true)
    (k17 : PySem.W.keepIn K (.ref f17) = true)
    (a18 : PySem.W.nsIn K mainGlobals "_law_both" = some (some (.ref f18)))
    (l18 : K.lookup f18 = some ⟨oc18, od18, .func (PySem.W.fnOf "_law_both" "_law_both" (defArgs sBoth) (defBody sBoth) (defScope sBoth) .none kV18 dc18 pm18 an18 cd18 ct18), sl18⟩)
    (c18 : PySem.W.codeIn K cd18 "_law_both" = true)
    (k18 : PySem.W.keepIn K (.ref f18) = true)
    (a19 : PySem.W.nsIn K mainGlobals "law" = some (some (.ref f19)))
    (l19 : K.lookup f19 = some ⟨oc19, od19, .func (PySem.W.fnOf "law" "law" (defArgs sLaw) (defBody sLaw) (defScope sLaw) .none kV19 dc19 pm19 an19 cd19 ct19), sl19⟩)
    (c19 : PySem.W.codeIn K cd19 "law" = true)
    (k19 : PySem.W.keepIn K (.ref f19) = true)
    (a20 : PySem.W.nsIn K mainGlobals "is_name" = some (some (.ref f20)))
    (l20 : K.lookup f20 = some ⟨oc20, od20, .func (PySem.W.fnOf "is_name" "is_name" (defArgs sIsName) (defBody sIsName) (defScope sIsName) .none kV20 dc20 pm20 an20 cd20 ct20), sl20⟩)
    (c20 : PySem.W.codeIn K cd20 "is_name" = true)
    (k20 : PySem.W.keepIn K (.ref f20) = true)
    (a21 : PySem.W.nsIn K mainGlobals "value_size" = some (some (.ref f21)))
    (l21 : K.lookup f21 = some ⟨oc21, od21, .func (PySem.W.fnOf "value_size" "value_size" (defArgs sValueSize) (defBody sValueSize) (defScope sValueSize) .none kV21 dc21 pm21 an21 cd21 ct21), sl21⟩)
    (c21 : PySem.W.codeIn K cd21 "value_size" = true)
    (k21 : PySem.W.keepIn K (.ref f21) = true)
    (a22 : PySem.W.findIn K (.ref C) "__init__" = some (some (.ref f22)))
    (i22 : PySem.W.isFn K (.ref f22) = true)
    (j22 : PySem.W.fnIn K f22 = true)
    (l22 : K.lookup f22 = some ⟨oc22, od22, .func (PySem.W.fnOf "__init__" "Record.__init__" (defArgs sInit) (defBody sInit) (defScope sInit) .none kV22 dc22 pm22 an22 cd22 ct22), sl22⟩)
    (c22 : PySem.W.codeIn K cd22 "Record.__init__" = true)
    (k22 : PySem.W.keepIn K (.ref f22) = true)
    (a23 : PySem.W.findIn K (.ref C) "__eq__" = some (some (.ref f23)))
    (i23 : PySem.W.isFn K (.ref f23) = true)
    (j23 : PySem.W.fnIn K f23 = true)
    (l23 : K.lookup f23 = some ⟨oc23, od23, .func (PySem.W.fnOf "__eq__" "Record.__eq__" (defArgs sEq) (defBody sEq) (defScope sEq) .none kV23 dc23 pm23 an23 cd23 ct23), sl23⟩)
    (c23 : PySem.W.codeIn K cd23 "Record.__eq__" = true)
    (k23 : PySem.W.keepIn K (.ref f23) = true)
    (a24 : PySem.W.findIn K (.ref C) "__le__" = some (some (.ref f24)))
    (i24 : PySem.W.isFn K (.ref f24) = true)
    (j24 : PySem.W.fnIn K f24 = true)
    (l24 : K.lookup f24 = some ⟨oc24, od24, .func (PySem.W.fnOf "__le__" "Record.__le__" (defArgs sLe) (defBody sLe) (defScope sLe) .none kV24 dc24 pm24 an24 cd24 ct24), sl24⟩)
    (c24 : PySem.W.codeIn K cd24 "Record.__le__" = true)
    (k24 : PySem.W.keepIn K (.ref f24) = true)
    (a25 : PySem.W.findIn K (.ref C) "__str__" = some (some (.ref f25)))
    (i25 : PySem.W.isFn K (.ref f25) = true)
    (j25 : PySem.W.fnIn K f25 = true)
    (l25 : K.lookup f25 = some ⟨oc25, od25, .func (PySem.W.fnOf "__str__" "Record.__str__" (defArgs sStr) (defBody sStr) (defScope sStr) .none kV25 dc25 pm25 an25 cd25 ct25), sl25⟩)
    (c25 : PySem.W.codeIn K cd25 "Record.__str__" = true)
    (k25 : PySem.W.keepIn K (.ref f25) = true)
    (mrd : PySem.W.readsIn K C (.type "type") = true)
    (mga : PySem.W.specialIn K (.ref C) "__getattribute__" = some (some (.builtin "type.__getattribute__")))
    (a26 : PySem.W.findCls K (.ref C) (.type "type") "make" = some (.get (.builtin "staticmethod.__get__") (.ref pm) .none (.ref C)))
    (r26 : PySem.W.recIn K pm "staticmethod" = some (.ref f26 :: rest1))
    (l26 : K.lookup f26 = some ⟨oc26, od26, .func (PySem.W.fnOf "make" "Record.make" (defArgs sMake) (defBody sMake) (defScope sMake) .none kV26 dc26 pm26 an26 cd26 ct26), sl26⟩)
    (c26 : PySem.W.codeIn K cd26 "Record.make" = true)
    (k26 : PySem.W.keepIn K (.ref f26) = true)
    (a27 : PySem.W.findIn K (.ref C) "size" = some (some (.ref ps)))
    (g27 : PySem.W.specialIn K (.ref ps) "__get__" = some (some (.builtin "property.__get__")))
    (t27 : PySem.W.takesIn K (.ref ps) = some true)
    (r27 : PySem.W.recIn K ps "property" = some (.ref f27 :: rest2))
    (l27 : K.lookup f27 = some ⟨oc27, od27, .func (PySem.W.fnOf "size" "Record.size" (defArgs sSize) (defBody sSize) (defScope sSize) .none kV27 dc27 pm27 an27 cd27 ct27), sl27⟩)
    (c27 : PySem.W.codeIn K cd27 "Record.size" = true)
    (k27 : PySem.W.keepIn K (.ref f27) = true)
    (z_len : PySem.W.nsIn K mainGlobals "len" = some none)
    (z_int : PySem.W.nsIn K mainGlobals "int" = some none)
    (z_range : PySem.W.nsIn K mainGlobals "range" = some none)
    (z_isinstance : PySem.W.nsIn K mainGlobals "isinstance" = some none)
    (z_dict : PySem.W.nsIn K mainGlobals "dict" = some none)
    (z_tuple : PySem.W.nsIn K mainGlobals "tuple" = some none)
    (z_bool : PySem.W.nsIn K mainGlobals "bool" = some none)
    (z_list : PySem.W.nsIn K mainGlobals "list" = some none)
    (z_str : PySem.W.nsIn K mainGlobals "str" = some none)
    (z_sum : PySem.W.nsIn K mainGlobals "sum" = some none)
    (z_sorted : PySem.W.nsIn K mainGlobals "sorted" = some none)
    (z_all : PySem.W.nsIn K mainGlobals "all" = some none)
    (z_min : PySem.W.nsIn K mainGlobals "min" = some none)
    (z_reversed : PySem.W.nsIn K mainGlobals "reversed" = some none) :
    ∃ fd : FuncData, (∀ (s : Shared) (v : Value), BindsTo s fd ⟨[v], []⟩ [("script", v)]) ∧ ∀ base : Heap, K.In base → base.Ns mainGlobals mg → FnOk l.prog w K mg base CX0 12 fa fd ["script"] (spLaw K) := by
  have cI1 : PySem.W.clsIn K C = some cdC := by
    unfold PySem.W.clsIn
    rw [cI]
  have kit : ∀ t : Value, ¬ (t = .ref C) → ∀ b, PySem.W.subIn K t (.ref C) = some b → PySem.W.kitOne K t (.ref C) = some b := fun t ht b hb => by
    unfold PySem.W.kitOne
    rw [if_neg (by simpa using ht)]
    show (if ((PySem.W.clsIn K C).isSome && PySem.W.typeIn K (.ref C) == some (.type "type")) = true then PySem.W.subIn K t (.ref C) else none) = some b
    rw [cI1, tI, if_pos (by simp)]
    exact hb
  have R : RecK K mg C := ⟨⟨pg, hd, po, sa⟩, nN, nF, nS, ha, hn, htk, hm, kit _ (by simp) _ sI, (by
    unfold PySem.W.kitOne
    rw [if_neg (by simp)]
    exact sD), (by
    unfold PySem.W.kitOne
    rw [if_pos (by simp)]), sI, sR, PySem.W.mg_of X G aC⟩
  have hL := PySem.W.mg_of X G gL
  have F1 := fun_mk (st := sCell) l1 c1 k1
  have b1 := F1.binds (ps := ["script", "k"]) fun _ _ _ _ _ _ us hl => match us, hl with | [_, _], _ => rfl
  have D1 : Dfn K mg "_law_cell" sCell ["script", "k"] := ⟨_, _, PySem.W.mg_of X G a1, F1, b1⟩
  have F2 := fun_mk (st := sMixed) l2 c2 k2
  have b2 := F2.binds (ps := ["cell", "k"]) fun _ _ _ _ _ _ us hl => match us, hl with | [_, _], _ => rfl
  have D2 : Dfn K mg "_law_mixed" sMixed ["cell", "k"] := ⟨_, _, PySem.W.mg_of X G a2, F2, b2⟩
  have F3 := fun_mk (st := sTape) l3 c3 k3
  have b3 := F3.binds (ps := ["great", "lesser", "count"]) fun _ _ _ _ _ _ us hl => match us, hl with | [_, _, _], _ => rfl
  have D3 : Dfn K mg "_law_tape" sTape ["great", "lesser", "count"] := ⟨_, _, PySem.W.mg_of X G a3, F3, b3⟩
  have F4 := fun_mk (st := sTake) l4 c4 k4
  have b4 := F4.binds (ps := ["tape", "many"]) fun _ _ _ _ _ _ us hl => match us, hl with | [_, _], _ => rfl
  have D4 : Dfn K mg "_law_take" sTake ["tape", "many"] := ⟨_, _, PySem.W.mg_of X G a4, F4, b4⟩
  have F5 := fun_mk (st := sNumber) l5 c5 k5
  have b5 := F5.binds (ps := ["tape"]) fun _ _ _ _ _ _ us hl => match us, hl with | [_], _ => rfl
  have D5 : Dfn K mg "_law_number" sNumber ["tape"] := ⟨_, _, PySem.W.mg_of X G a5, F5, b5⟩
  have F6 := fun_mk (st := sWord) l6 c6 k6
  have b6 := F6.binds (ps := ["tape", "longest"]) fun _ _ _ _ _ _ us hl => match us, hl with | [_, _], _ => rfl
  have D6 : Dfn K mg "_law_word" sWord ["tape", "longest"] := ⟨_, _, PySem.W.mg_of X G a6, F6, b6⟩
  have F7 := fun_mk (st := sWords) l7 c7 k7
  have b7 := F7.binds (ps := ["tape", "many", "taken"]) fun _ _ _ _ _ _ us hl => match us, hl with | [_, _, _], _ => rfl
  have D7 : Dfn K mg "_law_words" sWords ["tape", "many", "taken"] := ⟨_, _, PySem.W.mg_of X G a7, F7, b7⟩
  have F8 := fun_mk (st := sPick) l8 c8 k8
  have b8 := F8.binds (ps := ["tape", "names"]) fun _ _ _ _ _ _ us hl => match us, hl with | [_, _], _ => rfl
  have D8 : Dfn K mg "_law_pick" sPick ["tape", "names"] := ⟨_, _, PySem.W.mg_of X G a8, F8, b8⟩
  have F9 := fun_mk (st := sLong) l9 c9 k9
  have b9 := F9.binds (ps := ["tape", "word"]) fun _ _ _ _ _ _ us hl => match us, hl with | [_, _], _ => rfl
  have D9 : Dfn K mg "_law_long" sLong ["tape", "word"] := ⟨_, _, PySem.W.mg_of X G a9, F9, b9⟩
  have F10 := fun_mk (st := sPool) l10 c10 k10
  have b10 := F10.binds (ps := ["tape", "many"]) fun _ _ _ _ _ _ us hl => match us, hl with | [_, _], _ => rfl
  have D10 : Dfn K mg "_law_pool" sPool ["tape", "many"] := ⟨_, _, PySem.W.mg_of X G a10, F10, b10⟩
  have F11 := fun_mk (st := sFields) l11 c11 k11
  have b11 := F11.binds (ps := ["tape", "names", "depth"]) fun _ _ _ _ _ _ us hl => match us, hl with | [_, _, _], _ => rfl
  have D11 : Dfn K mg "_law_fields" sFields ["tape", "names", "depth"] := ⟨_, _, PySem.W.mg_of X G a11, F11, b11⟩
  have F12 := fun_mk (st := sTurn) l12 c12 k12
  have b12 := F12.binds (ps := ["value"]) fun _ _ _ _ _ _ us hl => match us, hl with | [_], _ => rfl
  have D12 : Dfn K mg "_law_turned" sTurn ["value"] := ⟨_, _, PySem.W.mg_of X G a12, F12, b12⟩
  have F13 := fun_mk (st := sSorted) l13 c13 k13
  have b13 := F13.binds (ps := ["names"]) fun _ _ _ _ _ _ us hl => match us, hl with | [_], _ => rfl
  have D13 : Dfn K mg "_law_sorted" sSorted ["names"] := ⟨_, _, PySem.W.mg_of X G a13, F13, b13⟩
  have F14 := fun_mk (st := sLevel) l14 c14 k14
  have b14 := F14.binds (ps := ["tape", "value"]) fun _ _ _ _ _ _ us hl => match us, hl with | [_, _], _ => rfl
  have D14 : Dfn K mg "_law_at_some_level" sLevel ["tape", "value"] := ⟨_, _, PySem.W.mg_of X G a14, F14, b14⟩
  have F15 := fun_mk (st := sOther) l15 c15 k15
  have b15 := F15.binds (ps := ["tape", "names", "plain"]) fun _ _ _ _ _ _ us hl => match us, hl with | [_, _, _], _ => rfl
  have D15 : Dfn K mg "_law_other" sOther ["tape", "names", "plain"] := ⟨_, _, PySem.W.mg_of X G a15, F15, b15⟩
  have F16 := fun_mk (st := sWithin) l16 c16 k16
  have b16 := F16.binds (ps := ["left", "right"]) fun _ _ _ _ _ _ us hl => match us, hl with | [_, _], _ => rfl
  have D16 : Dfn K mg "_law_within" sWithin ["left", "right"] := ⟨_, _, PySem.W.mg_of X G a16, F16, b16⟩
  have F17 := fun_mk (st := sText) l17 c17 k17
  have b17 := F17.binds (ps := ["value"]) fun _ _ _ _ _ _ us hl => match us, hl with | [_], _ => rfl
  have D17 : Dfn K mg "_law_text" sText ["value"] := ⟨_, _, PySem.W.mg_of X G a17, F17, b17⟩
  have F18 := fun_mk (st := sBoth) l18 c18 k18
  have b18 := F18.binds (ps := ["left", "right", "first", "second"]) fun _ _ _ _ _ _ us hl => match us, hl with | [_, _, _, _], _ => rfl
  have D18 : Dfn K mg "_law_both" sBoth ["left", "right", "first", "second"] := ⟨_, _, PySem.W.mg_of X G a18, F18, b18⟩
  have F19 := fun_mk (st := sLaw) l19 c19 k19
  have b19 := F19.binds (ps := ["script"]) fun _ _ _ _ _ _ us hl => match us, hl with | [_], _ => rfl
  have F20 := fun_mk (st := sIsName) l20 c20 k20
  have b20 := F20.binds (ps := ["text"]) fun _ _ _ _ _ _ us hl => match us, hl with | [_], _ => rfl
  have D20 : Dfn K mg "is_name" sIsName ["text"] := ⟨_, _, PySem.W.mg_of X G a20, F20, b20⟩
  have F21 := fun_mk (st := sValueSize) l21 c21 k21
  have b21 := F21.binds (ps := ["value"]) fun _ _ _ _ _ _ us hl => match us, hl with | [_], _ => rfl
  have D21 : Dfn K mg "value_size" sValueSize ["value"] := ⟨_, _, PySem.W.mg_of X G a21, F21, b21⟩
  have F22 := fun_mk (st := sInit) l22 c22 k22
  have b22 := F22.binds (ps := ["self", "fields"]) fun _ _ _ _ _ _ us hl => match us, hl with | [_, _], _ => rfl
  have IN : InK K C := ⟨_, _, ⟨mk, a22, i22, kc⟩, F22, b22⟩
  have F23 := fun_mk (st := sEq) l23 c23 k23
  have b23 := F23.binds (ps := ["self", "other"]) fun _ _ _ _ _ _ us hl => match us, hl with | [_, _], _ => rfl
  have D23 : DfM K C "__eq__" "Record.__eq__" sEq ["self", "other"] := ⟨_, _, ⟨a23, i23⟩, j23, F23, b23⟩
  have F24 := fun_mk (st := sLe) l24 c24 k24
  have b24 := F24.binds (ps := ["self", "other"]) fun _ _ _ _ _ _ us hl => match us, hl with | [_, _], _ => rfl
  have D24 : DfM K C "__le__" "Record.__le__" sLe ["self", "other"] := ⟨_, _, ⟨a24, i24⟩, j24, F24, b24⟩
  have F25 := fun_mk (st := sStr) l25 c25 k25
  have b25 := F25.binds (ps := ["self"]) fun _ _ _ _ _ _ us hl => match us, hl with | [_], _ => rfl
  have D25 : DfM K C "__str__" "Record.__str__" sStr ["self"] := ⟨_, _, ⟨a25, i25⟩, j25, F25, b25⟩
  have F26 := fun_mk (st := sMake) l26 c26 k26
  have b26 := F26.binds (ps := ["fields"]) fun _ _ _ _ _ _ us hl => match us, hl with | [_], _ => rfl
  have mD : SMet K C (.type "type") "make" pm f26 := ⟨⟨mrd, mga⟩, a26, ⟨_, r26⟩, k26⟩
  have DM : StK K C := ⟨_, _, _, mD, F26, b26⟩
  have F27 := fun_mk (st := sSize) l27 c27 k27
  have b27 := F27.binds (ps := ["self"]) fun _ _ _ _ _ _ us hl => match us, hl with | [_], _ => rfl
  have PR : PrK K C := ⟨_, _, _, ⟨a27, g27, t27, ⟨_, r27⟩⟩, F27, b27⟩
  have T : Bu mg := { b_len := PySem.W.mg_none_of X G z_len, b_int := PySem.W.mg_none_of X G z_int, b_range := PySem.W.mg_none_of X G z_range, b_isinstance := PySem.W.mg_none_of X G z_isinstance, b_dict := PySem.W.mg_none_of X G z_dict, b_tuple := PySem.W.mg_none_of X G z_tuple, b_bool := PySem.W.mg_none_of X G z_bool, b_list := PySem.W.mg_none_of X G z_list, b_str := PySem.W.mg_none_of X G z_str, b_sum := PySem.W.mg_none_of X G z_sum, b_sorted := PySem.W.mg_none_of X G z_sorted }
  refine ⟨PySem.W.fnOf "law" "law" (defArgs sLaw) (defBody sLaw) (defScope sLaw) .none kV19 dc19 pm19 an19 cd19 ct19, fun s v => .of_eq rfl, fun base _ _ => ?_⟩
  have p_cell := c_cell (P := l.prog) (w := w) (base := base) T.toBt D1
  have p_mixed := c_mixed (P := l.prog) (w := w) (base := base) T.toBt D2
  have p_tape := c_tape T.toBt D3 p_mixed
  have p_take := c_take (P := l.prog) (w := w) (base := base) T.toBt D4
  have p_number := c_number T.toBt D5 p_take
  have p_word := c_word T.toBt D6 p_take
  have p_words := c_words T.toBt D7 p_word
  have p_long := c_long T.toBt D9 p_take
  have p_pool := c_pool T.toBt D10 p_words p_long
  have p_fields := c_fields T.toBt D11 p_take p_number
  have p_pick := c_pick T D8 p_take
  have p_sorted := c_sorted (P := l.prog) (w := w) (base := base) T D13
  have br := PySem.W.mg_none_of X G z_reversed
  have p_turned6 := c_turned (P := l.prog) (w := w) (base := base) T br D12 (L := 6) (by decide)
  have p_turned7 := c_turned (P := l.prog) (w := w) (base := base) T br D12 (L := 7) (by decide)
  have p_level := c_level T D14 p_take p_pick 3
  have p_other := c_other T D15 p_take p_pick p_number (p_fields 2) (p_turned6 3) p_level
  have p_vs := c_value_size (P := l.prog) (w := w) (base := base) T R PR D21
  have ba := PySem.W.mg_none_of X G z_all
  have p_name := c_is_name (P := l.prog) (w := w) (base := base) T ba hL D20
  have p_make := s_make T R DM IN p_vs p_name
  have M3 : EqM l.prog w K mg base C 8 3 := ⟨_, _, fn_eq T R ⟨a23, i23⟩ b23 F23 3, ⟨a23, i23⟩, b23⟩
  have M2 : EqM l.prog w K mg base C 6 2 := ⟨_, _, fn_eq T R ⟨a23, i23⟩ b23 F23 2, ⟨a23, i23⟩, b23⟩
  have p_le : MthX l.prog w K mg base CX0 C 7 "__le__" (spLeR C 3) := ⟨_, _, _, fn_le T ba R M2 F24, ⟨a24, i24⟩, b24⟩
  have p_within := c_within (P := l.prog) (w := w) (base := base) D16 3
  have p_both := c_both R hne D18 M3 p_le p_within (kk := 9) (by decide) (by decide) (by decide)
  have p_text := c_text T D17 p_sorted
  have kDR := kit (.type "dict") (by simp) false sDR
  have hf := hfa.symm.trans (PySem.W.mg_of X G a19)
  cases hf
  exact fn_law T (PySem.W.mg_none_of X G z_min) R sDR p_cell p_tape p_take p_pool (p_fields 2) p_other (p_turned7 4) (p_make 3) p_both (p_text 4) ⟨a23, i23⟩ b23 (fn_eq T R ⟨a23, i23⟩ b23 F23 3) (fn_eqD T R kDR F23) ⟨a25, i25⟩ b25 (fn_str T R hfm ⟨a25, i25⟩ b25 F25 3) F19
theorem walk {l : PySem.W.OpenLaw} {q : Program} {loose : List Str} {XP : (Str → Option Value) → Heap → Prop} {YP : World → Heap → Prop} {d : DefRec} {K : Params → PySem.W.Frag} (hn : l.most = some 63) (hdf : d.params.defaults = [])
    (hY : ∀ (w : World) (h : Heap), YP w h → (K w.params).In h)
    (F : ∀ (w : World) (mg : Str → Option Value) (fa : Addr) (h : Heap), (K w.params).In h → h.Ns mainGlobals mg → mg d.name = some (.ref fa) →
      ∃ fd : FuncData, (∀ (s : Shared) (u : Value), BindsTo s fd ⟨[u], []⟩ [("script", u)]) ∧ ∀ base : Heap, (K w.params).In base → base.Ns mainGlobals mg → FnOk l.prog w (K w.params) mg base CX0 12 fa fd ["script"] (spLaw (K w.params))) :
    PySem.W.WalkO q loose XP YP l.row.toRowW d [] (fun f vs => PySem.call f vs) :=
  L2.walk_of (n := 63) (k := 12) (x := "script") (CX := fun _ => CX0) (sp := fun w => spLaw (K w.params)) hn (by decide) hdf ⟨rfl, by decide, by decide⟩ hY F (fun _ _ a ns hl _ hS => ⟨a, ns, rfl, hS, hl, fun _ => rfl⟩) fun _ _ _ _ _ z => z
end Lw
open PySem PySem.W PyProof.Rows
set_option maxRecDepth 100000 in
set_option maxHeartbeats 0 in
theorem PySem.Challenge.cw_growingrecords_k04_equal_and_written_holds : PySem.Challenge.rw_growingrecords_k04_equal_and_written.Holds := by
  w_on; o_law; k_head; (case hw => w_witness2)
  k_fill
  refine Lw.walk (l := PySem.Challenge.rw_growingrecords_k04_equal_and_written) rfl rfl (fun w h Y => PySem.W.kIn_of Y) ?F
  case F =>
    intro w mg fa h KX G hmg
    refine' Lw.all_mk KX G hmg ?aC ?pg ?hd ?po ?sa ?mk ?kc ?nN ?nF ?nS ?ha ?hn ?htk ?hm ?cI ?tI ?sD ?sI ?sR ?gL ?sf ?hne ?hfm ?sDR ?a1 ?l1 ?c1 ?k1 ?a2 ?l2 ?c2 ?k2 ?a3 ?l3 ?c3 ?k3 ?a4 ?l4 ?c4 ?k4 ?a5 ?l5 ?c5 ?k5 ?a6 ?l6 ?c6 ?k6 ?a7 ?l7 ?c7 ?k7 ?a8 ?l8 ?c8 ?k8 ?a9 ?l9 ?c9 ?k9 ?a10 ?l10 ?c10 ?k10 ?a11 ?l11 ?c11 ?k11 ?a12 ?l12 ?c12 ?k12 ?a13 ?l13 ?c13 ?k13 ?a14 ?l14 ?c14 ?k14 ?a15 ?l15 ?c15 ?k15 ?a16 ?l16 ?c16 ?k16 ?a17 ?l17 ?c17 ?k17 ?a18 ?l18 ?c18 ?k18 ?a19 ?l19 ?c19 ?k19 ?a20 ?l20 ?c20 ?k20 ?a21 ?l21 ?c21 ?k21 ?a22 ?i22 ?j22 ?l22 ?c22 ?k22 ?a23 ?i23 ?j23 ?l23 ?c23 ?k23 ?a24 ?i24 ?j24 ?l24 ?c24 ?k24 ?a25 ?i25 ?j25 ?l25 ?c25 ?k25 ?mrd ?mga ?a26 ?r26 ?l26 ?c26 ?k26 ?a27 ?g27 ?t27 ?r27 ?l27 ?c27 ?k27 ?z_len ?z_int ?z_range ?z_isinstance ?z_dict ?z_tuple ?z_bool ?z_list ?z_str ?z_sum ?z_sorted ?z_all ?z_min ?z_reversed
    (case aC => k_is)
    (case pg => k_is)
    (case hd => k_is)
    (case po => k_is)
    (case sa => k_is)
    (case mk => k_is)
    (case kc => k_is)
    (case nN => k_is)
    (case nF => k_is)
    (case nS => k_is)
    (case ha => k_is)
    (case hn => k_is)
    (case htk => k_is)
    (case hm => k_is)
    (case cI => k_is)
    (case tI => k_is)
    (case sD => k_is)
    (case sI => k_is)
    (case sR => k_is)
    (case gL => k_is)
    (case sf => k_is)
    (case hne => k_is)
    (case hfm => k_is)
    (case sDR => k_is)
    (case a1 => k_is)
    (case l1 => k_is)
    (case c1 => k_is)
    (case k1 => k_is)
    (case a2 => k_is)
    (case l2 => k_is)
    (case c2 => k_is)
    (case k2 => k_is)
    (case a3 => k_is)
    (case l3 => k_is)
    (case c3 => k_is)
    (case k3 => k_is)
    (case a4 => k_is)
    (case l4 => k_is)
    (case c4 => k_is)
    (case k4 => k_is)
    (case a5 => k_is)
    (case l5 => k_is)
    (case c5 => k_is)
    (case k5 => k_is)
    (case a6 => k_is)
    (case l6 => k_is)
    (case c6 => k_is)
    (case k6 => k_is)
    (case a7 => k_is)
    (case l7 => k_is)
    (case c7 => k_is)
    (case k7 => k_is)
    (case a8 => k_is)
    (case l8 => k_is)
    (case c8 => k_is)
    (case k8 => k_is)
    (case a9 => k_is)
    (case l9 => k_is)
    (case c9 => k_is)
    (case k9 => k_is)
    (case a10 => k_is)
    (case l10 => k_is)
    (case c10 => k_is)
    (case k10 => k_is)
    (case a11 => k_is)
    (case l11 => k_is)
    (case c11 => k_is)
    (case k11 => k_is)
    (case a12 => k_is)
    (case l12 => k_is)
    (case c12 => k_is)
    (case k12 => k_is)
    (case a13 => k_is)
    (case l13 => k_is)
    (case c13 => k_is)
    (case k13 => k_is)
    (case a14 => k_is)
    (case l14 => k_is)
    (case c14 => k_is)
    (case k14 => k_is)
    (case a15 => k_is)
    (case l15 => k_is)
    (case c15 => k_is)
    (case k15 => k_is)
    (case a16 => k_is)
    (case l16 => k_is)
    (case c16 => k_is)
    (case k16 => k_is)
    (case a17 => k_is)
    (case l17 => k_is)
    (case c17 => k_is)
    (case k17 => k_is)
    (case a18 => k_is)
    (case l18 => k_is)
    (case c18 => k_is)
    (case k18 => k_is)
    (case a19 => k_is)
    (case l19 => k_is)
    (case c19 => k_is)
    (case k19 => k_is)
    (case a20 => k_is)
    (case l20 => k_is)
    (case c20 => k_is)
    (case k20 => k_is)
    (case a21 => k_is)
    (case l21 => k_is)
    (case c21 => k_is)
    (case k21 => k_is)
    (case a22 => k_is)
    (case i22 => k_is)
    (case j22 => k_is)
    (case l22 => k_is)
    (case c22 => k_is)
    (case k22 => k_is)
    (case a23 => k_is)
    (case i23 => k_is)
    (case j23 => k_is)
    (case l23 => k_is)
    (case c23 => k_is)
    (case k23 => k_is)
    (case a24 => k_is)
    (case i24 => k_is)
    (case j24 => k_is)
    (case l24 => k_is)
    (case c24 => k_is)
    (case k24 => k_is)
    (case a25 => k_is)
    (case i25 => k_is)
    (case j25 => k_is)
    (case l25 => k_is)
    (case c25 => k_is)
    (case k25 => k_is)
    (case mrd => k_is)
    (case mga => k_is)
    (case a26 => k_is)
    (case r26 => k_is)
    (case l26 => k_is)
    (case c26 => k_is)
    (case k26 => k_is)
    (case a27 => k_is)
    (case g27 => k_is)
    (case t27 => k_is)
    (case r27 => k_is)
    (case l27 => k_is)
    (case c27 => k_is)
    (case k27 => k_is)
    (case z_len => k_is)
    (case z_int => k_is)
    (case z_range => k_is)
    (case z_isinstance => k_is)
    (case z_dict => k_is)
    (case z_tuple => k_is)
    (case z_bool => k_is)
    (case z_list => k_is)
    (case z_str => k_is)
    (case z_sum => k_is)
    (case z_sorted => k_is)
    (case z_all => k_is)
    (case z_min => k_is)
    (case z_reversed => k_is)
