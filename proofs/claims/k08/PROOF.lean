import PyProof.Rows.All
import Wide.All
import OpenK.AllK
import Wide.FinOn
import HandS.ForMost
import HandS.OwnEq
import HandS.IterVal
import HandS.ClsMeth
import HandS.IsInst
import HandS.Codes
import HandS.Walk
import HandS.Iter
import HandS.RaiseMore
import HandS.DictComp
import HandS.Property
import HandS.WordsDict
import HandS.IterNext
import HandS.Text
import HandS.More
import KE.KExcSuper
import HandS.Nested
import HandS.ExcInit
import PyProof.StrLawsRepr
import HandS.FStr
import HandS.ExcField
import HandS.ExcIs
import HandS.WordsExc
import HandS.ExcOwn
import KE.KEqDict
import HandS.DictEq
import HandS.Dict
import HandS.Sort
import PyProof.InstEq
import HandS.AnyAll
import HandS.TryOnly
import HandS.ForExc
import PySem.Challenge.RW_growingrecords_k08_whole_record_algebra
set_option Elab.async false
set_option linter.all false
set_option maxRecDepth 100000
set_option maxHeartbeats 4000000
/-! Values of the law as plain data: an int, or fields by name; how dicts and records of the heap bear them. -/
namespace GrT
open PySem L2
/-- a value: an int, or fields in their order -/
inductive T where
  | int (i : Int)
  | fds (fs : List (Str × T))
/-! ### lists by name -/
section
variable {α β : Type}
def look (x : Str) : List (Str × α) → Option α
  | [] => none
  | (z, w) :: r => if z = x then some w else look x r
def put (x : Str) (y : α) : List (Str × α) → List (Str × α)
  | [] => [(x, y)]
  | (z, w) :: r => if z = x then (x, y) :: r else (z, w) :: put x y r
abbrev names (l : List (Str × α)) : List Str := l.map (·.1)
theorem look_mem {x : Str} {w : α} : ∀ {l : List (Str × α)}, look x l = some w → (x, w) ∈ l
  | (z, y) :: r, h => by
    unfold look at h
    split at h
    · rename_i e
      subst e
      cases h
      exact List.mem_cons_self
    · exact List.mem_cons_of_mem _ (look_mem h)
theorem look_none {x : Str} : ∀ {l : List (Str × α)}, look x l = none ↔ x ∉ names l
  | [] => by simp [look, names]
  | (z, y) :: r => by
    unfold look
    by_cases e : z = x
    · subst e
      simp
    · rw [if_neg e, look_none (l := r)]
      simp only [names, List.map_cons, List.mem_cons, not_or]
      exact ⟨fun h => ⟨fun q => e q.symm, h⟩, fun h => h.2⟩
theorem look_some {x : Str} {l : List (Str × α)} (h : x ∈ names l) : ∃ w, look x l = some w := by
  cases e : look x l with
  | some w => exact ⟨w, rfl⟩
  | none => exact absurd h (look_none.mp e)
theorem mem_look {x : Str} {w : α} : ∀ {l : List (Str × α)}, (names l).Nodup → (x, w) ∈ l → look x l = some w
  | (z, y) :: r, nd, h => by
    have nd' := List.nodup_cons.mp nd
    rcases List.mem_cons.mp h with e | e
    · cases e
      unfold look
      rw [if_pos rfl]
    · have hz : z ≠ x := fun q => nd'.1 (by rw [q]; exact List.mem_map.mpr ⟨_, e, rfl⟩)
      unfold look
      rw [if_neg hz]
      exact mem_look nd'.2 e
theorem names_put {x : Str} {y : α} : ∀ {l : List (Str × α)}, names (put x y l) = if x ∈ names l then names l else names l ++ [x]
  | [] => by simp [put, names]
  | (z, w) :: r => by
    unfold put
    by_cases e : z = x
    · subst e
      simp
    · have ih := names_put (x := x) (y := y) (l := r)
      rw [if_neg e]
      have hm : (x ∈ names ((z, w) :: r)) = (x ∈ names r) := by
        simp only [names, List.map_cons, List.mem_cons, eq_iff_iff]
        exact ⟨fun h => h.elim (fun q => absurd q.symm e) id, .inr⟩
      show z :: names (put x y r) = _
      rw [ih]
      simp only [hm]
      split <;> rfl
theorem nodup_put {x : Str} {y : α} {l : List (Str × α)} (h : (names l).Nodup) : (names (put x y l)).Nodup := by
  rw [names_put]
  split
  · exact h
  · rename_i q
    refine List.nodup_append.mpr ⟨h, by simp, fun a ha b hb => ?_⟩
    simp at hb
    subst hb
    exact fun e => q (e ▸ ha)
theorem length_put {x : Str} {y : α} {l : List (Str × α)} : (put x y l).length ≤ l.length + 1 := by
  have e : (names (put x y l)).length = (put x y l).length := List.length_map _
  rw [← e, names_put]
  split
  · simp
  · simp
theorem mem_put {x : Str} {y : α} : ∀ {l : List (Str × α)} {p}, p ∈ put x y l → p = (x, y) ∨ p ∈ l
  | [], p, h => by
    simp [put] at h
    exact .inl h
  | (z, w) :: r, p, h => by
    unfold put at h
    split at h
    · rcases List.mem_cons.mp h with q | q
      · exact .inl q
      · exact .inr (List.mem_cons_of_mem _ q)
    · rcases List.mem_cons.mp h with q | q
      · exact .inr (q ▸ List.mem_cons_self)
      · rcases mem_put q with q | q
        · exact .inl q
        · exact .inr (List.mem_cons_of_mem _ q)
theorem look_put {x z : Str} {y : α} : ∀ {l : List (Str × α)}, look z (put x y l) = if z = x then some y else look z l
  | [] => by
    simp only [put, look]
    by_cases e : z = x
    · subst e
      simp
    · rw [if_neg (fun q => e q.symm), if_neg e]
  | (u, w) :: r => by
    unfold put
    by_cases e : u = x
    · subst e
      rw [if_pos rfl]
      simp only [look]
      by_cases q : u = z
      · subst q
        simp
      · rw [if_neg q, if_neg (fun h => q h.symm), if_neg q]
    · rw [if_neg e]
      simp only [look]
      by_cases q : u = z
      · subst q
        rw [if_pos rfl, if_neg e, if_pos rfl]
      · rw [if_neg q, look_put, if_neg q]
end
/-! ### the dict that bears such a list -/
def dk (l : List (Str × V)) : List (Key × V) := l.map fun p => (Sum.inr p.1, p.2)
theorem dk_len (l : List (Str × V)) : (dk l).length = l.length := List.length_map _
theorem dk_val (x : Str) : ∀ l : List (Str × V), valV (dk l) (Sum.inr x : Key) = look x l
  | [] => rfl
  | (z, w) :: r => by
    show valV ((Sum.inr z, w) :: dk r) (Sum.inr x : Key) = if z = x then some w else look x r
    by_cases e : z = x
    · subst e
      rw [if_pos rfl, valV_pos rfl]
    · rw [if_neg e, valV_neg (fun q => e (Sum.inr.inj q)), dk_val x r]
theorem dk_put (x : Str) (y : V) : ∀ l : List (Str × V), (names l).Nodup → putK (dk l) (Sum.inr x : Key) y = dk (put x y l) := by
  intro l nd
  cases e : look x l with
  | none =>
    have h0 : valV (dk l) (Sum.inr x : Key) = none := by rw [dk_val, e]
    rw [putK_new _ h0]
    have hp : ∀ l : List (Str × V), look x l = none → put x y l = l ++ [(x, y)] := by
      intro l
      induction l with
      | nil => intro _; rfl
      | cons p r ih =>
        obtain ⟨z, w⟩ := p
        intro h
        unfold look at h
        split at h
        · cases h
        · rename_i q
          unfold put
          rw [if_neg q, ih h]
          rfl
    rw [hp l e]
    simp [dk]
  | some w =>
    have h1 : (dk l).any (fun kv => decide (kv.1 = (Sum.inr x : Key))) = true := by rw [valV_any, dk_val, e]; rfl
    unfold putK
    rw [if_pos h1]
    clear h1
    induction l with
    | nil => cases e
    | cons p r ih =>
      obtain ⟨z, u⟩ := p
      have nd' := List.nodup_cons.mp nd
      unfold look at e
      unfold put
      by_cases q : z = x
      · subst q
        rw [if_pos rfl]
        have hr : ∀ r : List (Str × V), z ∉ names r → (dk r).map (fun kv => if kv.1 = (Sum.inr z : Key) then (kv.1, y) else kv) = dk r := by
          intro r
          induction r with
          | nil => intro _; rfl
          | cons p r ih =>
            obtain ⟨a, b⟩ := p
            intro h
            have h' : z ≠ a ∧ z ∉ names r := by simpa [names] using h
            show (if (Sum.inr a : Key) = Sum.inr z then ((Sum.inr a : Key), y) else (Sum.inr a, b)) :: (dk r).map _ = (Sum.inr a, b) :: dk r
            rw [if_neg (fun q => h'.1 (Sum.inr.inj q).symm), ih h'.2]
        show (if (Sum.inr z : Key) = Sum.inr z then ((Sum.inr z : Key), y) else (Sum.inr z, u)) :: (dk r).map _ = (Sum.inr z, y) :: dk r
        rw [if_pos rfl, hr r nd'.1]
      · rw [if_neg q] at e
        rw [if_neg q]
        show (if (Sum.inr z : Key) = Sum.inr x then ((Sum.inr z : Key), y) else (Sum.inr z, u)) :: (dk r).map _ = (Sum.inr z, u) :: dk (put x y r)
        rw [if_neg (fun h => q (Sum.inr.inj h)), ih nd'.2 e]
/-! ### two lists by name, alike by R -/
def Al (R : V → T → Prop) : List (Str × V) → List (Str × T) → Prop := Paired fun p q => p.1 = q.1 ∧ R p.2 q.2
section
variable {R S : V → T → Prop} {l : List (Str × V)} {fs : List (Str × T)}
theorem Al.imp (h : Al R l fs) (f : ∀ p ∈ fs, ∀ v, R v p.2 → S v p.2) : Al S l fs := by
  induction h with
  | nil => exact .nil
  | @cons p q l fs r t ih => exact .cons ⟨r.1, f _ List.mem_cons_self _ r.2⟩ (ih fun p hp => f p (List.mem_cons_of_mem _ hp))
theorem Al.names (h : Al R l fs) : names l = names fs := by
  induction h with
  | nil => rfl
  | @cons p q l fs r t ih =>
    show p.1 :: GrT.names l = q.1 :: GrT.names fs
    rw [r.1, ih]
theorem Al.len (h : Al R l fs) : l.length = fs.length := Paired.length h
theorem Al.get (h : Al R l fs) {x : Str} {t : T} (e : look x fs = some t) : ∃ v, look x l = some v ∧ R v t := by
  induction h with
  | nil => cases e
  | @cons p q l fs r t' ih =>
    obtain ⟨z, v⟩ := p
    obtain ⟨z', u⟩ := q
    obtain ⟨rfl, r⟩ := r
    unfold look at e ⊢
    by_cases hz : z = x
    · rw [if_pos hz] at e ⊢
      cases e
      exact ⟨v, rfl, r⟩
    · rw [if_neg hz] at e ⊢
      exact ih e
theorem Al.get' (h : Al R l fs) {x : Str} {v : V} (e : look x l = some v) : ∃ t, look x fs = some t ∧ R v t := by
  induction h with
  | nil => cases e
  | @cons p q l fs r t' ih =>
    obtain ⟨z, v'⟩ := p
    obtain ⟨z', u⟩ := q
    obtain ⟨rfl, r⟩ := r
    unfold look at e ⊢
    by_cases hz : z = x
    · rw [if_pos hz] at e ⊢
      cases e
      exact ⟨u, rfl, r⟩
    · rw [if_neg hz] at e ⊢
      exact ih e
theorem Al.none (h : Al R l fs) {x : Str} : look x l = none ↔ look x fs = none := by rw [look_none, look_none, h.names]
theorem Al.put (h : Al R l fs) (x : Str) {v : V} {t : T} (r : R v t) : Al R (put x v l) (put x t fs) := by
  induction h with
  | nil => exact .cons ⟨rfl, r⟩ .nil
  | @cons p q l fs r' t' ih =>
    obtain ⟨z, v'⟩ := p
    obtain ⟨z', u⟩ := q
    obtain ⟨rfl, r'⟩ := r'
    unfold GrT.put
    by_cases hz : z = x
    · rw [if_pos hz, if_pos hz]
      exact .cons ⟨rfl, r⟩ t'
    · rw [if_neg hz, if_neg hz]
      exact .cons ⟨rfl, r'⟩ ih
end
/-! ### names, fields -/
def letter (c : Nat) : Prop := 97 ≤ c ∧ c ≤ 122
def Good (x : Str) : Prop := 1 ≤ x.length ∧ x.length ≤ 30 ∧ ∀ c ∈ x.cps.toList, letter c
structure Wf (L : Nat) (fs : List (Str × T)) : Prop where
  nd : (names fs).Nodup
  ln : fs.length ≤ L
  gd : ∀ p ∈ fs, Good p.1
theorem Wf.mono {L M : Nat} {fs : List (Str × T)} (h : Wf L fs) (hl : L ≤ M) : Wf M fs := ⟨h.nd, Nat.le_trans h.ln hl, h.gd⟩
theorem Wf.put {L : Nat} {fs : List (Str × T)} (h : Wf L fs) {x : Str} {t : T} (g : Good x) : Wf (L + 1) (put x t fs) :=
  ⟨nodup_put h.nd, Nat.le_trans length_put (Nat.add_le_add_right h.ln 1), fun p hp => by
    rcases mem_put hp with e | e
    · rw [e]
      exact g
    · exact h.gd p e⟩
theorem Wf.nil {L : Nat} : Wf L [] := ⟨by simp [names], Nat.zero_le _, fun p hp => by cases hp⟩
/-! ### a value as dicts -/
/-- v is t: ints and dicts, at most n deep, at most L fields each, the dicts all within S -/
def Tr (S : Addr → Prop) (H : Hp) (L : Nat) : Nat → V → T → Prop
  | 0, v, t => ∃ i, v = .int i ∧ t = .int i
  | n + 1, v, t => (∃ i, v = .int i ∧ t = .int i) ∨ ∃ a l fs, v = .ref a ∧ t = .fds fs ∧ S a ∧ H a = some (.dK (dk l)) ∧ Wf L fs ∧ Al (Tr S H L n) l fs
section
variable {S S' : Addr → Prop} {H H' : Hp} {L M n m : Nat} {v : V} {t u : T} {a : Addr}
theorem Tr.int (i : Int) : Tr S H L n (.int i) (.int i) := by
  cases n with
  | zero => exact ⟨i, rfl, rfl⟩
  | succ n => exact .inl ⟨i, rfl, rfl⟩
theorem Tr.cases {P : Prop} (h : Tr S H L n v t) (h1 : ∀ i, v = .int i → t = .int i → P)
    (h2 : ∀ k a l fs, n = k + 1 → v = .ref a → t = .fds fs → S a → H a = some (.dK (dk l)) → Wf L fs → Al (Tr S H L k) l fs → P) : P := by
  cases n with
  | zero =>
    obtain ⟨i, e1, e2⟩ := h
    exact h1 i e1 e2
  | succ k =>
    rcases h with ⟨i, e1, e2⟩ | ⟨a, l, fs, e1, e2, es, e3, e4, e5⟩
    · exact h1 i e1 e2
    · exact h2 k a l fs rfl e1 e2 es e3 e4 e5
theorem Tr.keep : ∀ {n : Nat} {v : V} {t : T}, Tr S H L n v t → (∀ b kvs, S b → H b = some (.dK kvs) → H' b = some (.dK kvs)) → Tr S H' L n v t
  | 0, _, _, h, _ => h
  | n + 1, v, t, h, k => by
    rcases h with h | ⟨a, l, fs, e1, e2, es, e3, e4, e5⟩
    · exact .inl h
    · exact .inr ⟨a, l, fs, e1, e2, es, k _ _ es e3, e4, e5.imp fun _ _ _ q => Tr.keep q k⟩
theorem Tr.mono : ∀ {n m L M : Nat} {v : V} {t : T}, Tr S H L n v t → n ≤ m → L ≤ M → Tr S H M m v t
  | 0, m, L, M, v, t, ⟨i, e1, e2⟩, _, _ => by
    rw [e1, e2]
    exact Tr.int i
  | n + 1, 0, _, _, _, _, _, h, _ => absurd h (Nat.not_succ_le_zero _)
  | n + 1, m + 1, L, M, v, t, h, h1, h2 => by
    rcases h with h | ⟨a, l, fs, e1, e2, es, e3, e4, e5⟩
    · exact .inl h
    · exact .inr ⟨a, l, fs, e1, e2, es, e3, e4.mono h2, e5.imp fun _ _ _ q => Tr.mono q (Nat.le_of_succ_le_succ h1) h2⟩
theorem dk_inj : ∀ {l l' : List (Str × V)}, dk l = dk l' → l = l'
  | [], [], _ => rfl
  | [], _ :: _, h => by cases h
  | _ :: _, [], h => by cases h
  | (x, v) :: l, (y, w) :: l', h => by
    have h' : ((Sum.inr x : Key), v) :: dk l = (Sum.inr y, w) :: dk l' := h
    injection h' with h1 h2
    injection h1 with h3 h4
    injection h3 with h3
    rw [h3, h4, dk_inj h2]
theorem al_inj {n m L M : Nat} (ih : ∀ {v : V} {t u : T}, Tr S H L n v t → Tr S' H M m v u → t = u) : ∀ {l : List (Str × V)} {fs gs : List (Str × T)}, Al (Tr S H L n) l fs → Al (Tr S' H M m) l gs → fs = gs
  | [], _, _, .nil, .nil => rfl
  | _ :: _, (x, t) :: fs, (y, u) :: gs, .cons r1 t1, .cons r2 t2 => by
    have e : x = y := r1.1.symm.trans r2.1
    have e2 : t = u := ih r1.2 r2.2
    rw [e, e2, al_inj ih t1 t2]
theorem Tr.inj : ∀ {n m L M : Nat} {v : V} {t u : T}, Tr S H L n v t → Tr S' H M m v u → t = u
  | 0, m, L, M, v, t, u, ⟨i, e1, e2⟩, h => by
    refine h.cases (fun j q1 q2 => ?_) fun k a l fs _ q => ?_
    · rw [e1] at q1
      cases q1
      rw [e2, q2]
    · rw [e1] at q
      cases q
  | n + 1, m, L, M, v, t, u, h0, h => by
    refine h.cases (fun j q1 q2 => ?_) fun k a l fs _ q1 q2 qs q3 q4 q5 => ?_
    · rcases h0 with ⟨i, e1, e2⟩ | ⟨a, l, fs, e1, _⟩
      · rw [e1] at q1
        cases q1
        rw [e2, q2]
      · rw [e1] at q1
        cases q1
    · rcases h0 with ⟨i, e1, e2⟩ | ⟨b, l', gs, e1, e2, es, e3, e4, e5⟩
      · rw [e1] at q1
        cases q1
      · rw [e1] at q1
        cases q1
        rw [e3] at q3
        have z := dk_inj (HO.dK.inj (Option.some.inj q3))
        subst z
        rw [e2, q2, al_inj (fun a b => Tr.inj a b) e5 q5]
theorem size_mem {x : Str} {t : T} {fs : List (Str × T)} (h : (x, t) ∈ fs) : sizeOf t < sizeOf (T.fds fs) := by
  have h1 := List.sizeOf_lt_of_mem h
  have h2 : sizeOf (x, t) = 1 + sizeOf x + sizeOf t := by simp
  have h3 : sizeOf (T.fds fs) = 1 + sizeOf fs := by simp
  omega
/-- what is smaller than the value at a has no place at a -/
theorem Tr.away : ∀ {n : Nat} {v : V} {t : T}, Tr S H L n v t → Tr S' H M m (.ref a) u → sizeOf t < sizeOf u → ∀ o, Tr S (upd H a o) L n v t
  | 0, _, _, h, _, _, _ => h
  | n + 1, v, t, h, q, hs, o => by
    rcases id h with h' | ⟨b, l, fs, e1, e2, es, e3, e4, e5⟩
    · exact .inl h'
    · have hb : b ≠ a := fun z => by
        subst z
        rw [e1] at h
        have := Tr.inj h q
        subst this
        exact absurd hs (Nat.lt_irrefl _)
      refine .inr ⟨b, l, fs, e1, e2, es, by rw [upd_ne hb]; exact e3, e4, e5.imp fun p hp _ z => Tr.away z q (Nat.lt_trans ?_ hs) o⟩
      rw [e2]
      exact size_mem (x := p.1) (t := p.2) hp
/-- the children of the dict at a, while it is locked -/
theorem al_away (es : S a) {l : List (Str × V)} {fs : List (Str × T)} (e : H a = some (.dK (dk l))) (w : Wf L fs) (h : Al (Tr S H L n) l fs) (o : HO) : Al (Tr S (upd H a o) L n) l fs :=
  h.imp fun p hp _ z => z.away (m := n + 1) (M := L) (u := .fds fs) (a := a) (.inr ⟨a, l, fs, rfl, rfl, es, e, w, h⟩) (size_mem (x := p.1) (t := p.2) hp) o
theorem Tr.wid : ∀ {n : Nat} {v : V} {t : T}, Tr S H L n v t → (∀ b, S b → S' b) → Tr S' H L n v t
  | 0, _, _, h, _ => h
  | n + 1, v, t, h, k => by
    rcases h with h | ⟨a, l, fs, e1, e2, es, e3, e4, e5⟩
    · exact .inl h
    · exact .inr ⟨a, l, fs, e1, e2, k _ es, e3, e4, e5.imp fun _ _ _ q => Tr.wid q k⟩
end
end GrT
/-! An own class's in, [..], len, for, == and static methods, as rules over the layer. -/
namespace GrOwn
open PySem PySem.Spec PyProof.Rows L2
section
variable {X : Cx} {CX : CXT} {k : Nat} {C f : Addr} {fd : FuncData} {ps : List Str} {sp : Sp} {E : XK}
/-- a def runs in any room that bears the same frames -/
theorem run_at {A : Around} {pins : List (Addr × Obj)} {σ : L2.St} {H : Hp} {s : Shared} {Q : VK} {us : List Value} {vs : List V} (F : FnOk X.prog X.w X.K X.mg X.base CX k f fd ps sp)
    (hr : Room k A) (e0 : Env0 X.prog X.w X.K X.mg X.base A X.stack s H) (hb : Binds X.K fd ps []) (hx : Passes CX X E) (I : Inv X pins σ H s) (r : Vals vs us) (h : sp vs H Q E) :
    wpAny (model X.prog X.w) A (call (.ref f) us) (EP X pins σ Q) X.xe s := by
  have hl : (us ++ []).length = ps.length := by
    rw [List.append_nil, ← r.length]
    exact F.len _ _ _ _ h
  have b := hb s us I.kIn hl
  rw [List.append_nil] at b
  refine wpAny_call (codeAny_mono (F.run A X.stack s H ⟨us, []⟩ us vs Q E hr e0 b r h) fun r s' hq => ?_)
  match r, hq with
  | .error e, hq => exact hx pins σ H s e s' I hq
  | .ok (.ret u), hq => exact I.after hq
/-- what the class says of one of its special defs -/
structure Sm (K : PySem.W.Frag) (C : Addr) (n : Str) (f : Addr) : Prop where
  at_ : PySem.W.findIn K (.ref C) n = some (some (.ref f))
  fn : PySem.W.isFn K (.ref f) = true
theorem inst {pins : List (Addr × Obj)} {σ : L2.St} {H : Hp} {s : Shared} {a dx : Addr} {fs : List (Str × V)} (I : Inv X pins σ H s) (e : H a = some (.ins C dx fs)) : ∃ od, PySem.W.InstAt s.heap a (PySem.W.instObj C dx) C (some od) := by
  obtain ⟨mA, J, _⟩ := ins_get I.hok e
  obtain ⟨od, J, _⟩ := J.look
  exact ⟨od, J⟩
/-- x in r -/
def rInO (neg : Bool) (C : Addr) (sp : Sp) (E : XK) : R2 := fun x y H Q => ∃ a dx fs, y = .ref a ∧ H a = some (.ins C dx fs) ∧ sp [.ref a, x] H (fun v H' => ∃ b, v = .bl b ∧ Q (.bl (if neg then !b else b)) H') E
theorem op_inO (m : Sm X.K C "__contains__" f) (F : FnOk X.prog X.w X.K X.mg X.base CX k f fd ps sp) (hr : Room k X.A) (hb : Binds X.K fd ps []) (hx : Passes CX X E) : OpR X (compareOp .In) (rInO false C sp E) := by
  intro pins s σ H x y v u Q I rx ry h
  obtain ⟨a, dx, fs, rfl, ea, q⟩ := h
  cases ry
  obtain ⟨od, J⟩ := inst I ea
  obtain ⟨m0, hF⟩ := I.fr
  refine PySem.W.in_K hF I.ok.mod.kin J m.at_ m.fn (thn (run_at (vs := [V.ref a, x]) F hr I.env0 hb hx I (.cons rfl (.cons rx .nil)) q) fun r s' hq => ?_)
  obtain ⟨z, H', I', rz, b, rfl, qq⟩ := hq
  cases rz
  exact wpAny_truthy_bool ⟨.bl b, H', I', rfl, qq⟩
theorem op_notInO (m : Sm X.K C "__contains__" f) (F : FnOk X.prog X.w X.K X.mg X.base CX k f fd ps sp) (hr : Room k X.A) (hb : Binds X.K fd ps []) (hx : Passes CX X E) : OpR X (compareOp .NotIn) (rInO true C sp E) := by
  intro pins s σ H x y v u Q I rx ry h
  obtain ⟨a, dx, fs, rfl, ea, q⟩ := h
  cases ry
  obtain ⟨od, J⟩ := inst I ea
  obtain ⟨m0, hF⟩ := I.fr
  refine PySem.W.notIn_K hF I.ok.mod.kin J m.at_ m.fn (thn (run_at (vs := [V.ref a, x]) F hr I.env0 hb hx I (.cons rfl (.cons rx .nil)) q) fun r s' hq => ?_)
  obtain ⟨z, H', I', rz, b, rfl, qq⟩ := hq
  cases rz
  exact wpAny_truthy_bool ⟨.bl (!b), H', I', rfl, qq⟩
/-- r[x] -/
def tIxO (C : Addr) (sp : Sp) (E : XK) (ta tb : TE) : TE := fun σ H Q => ta σ H fun x H1 => tb σ H1 fun y H2 => ∃ a dx fs, x = .ref a ∧ H2 a = some (.ins C dx fs) ∧ sp [.ref a, y] H2 Q E
theorem pe_ixO {a b : Expr} {ta tb : TE} {pos : Pos} (m : Sm X.K C "__getitem__" f) (hfn : PySem.W.fnIn X.K f = true) (F : FnOk X.prog X.w X.K X.mg X.base CX k f fd ps sp) (hr : Room (k + 1) X.A) (hb : Binds X.K fd ps []) (hx : Passes CX X E)
    (ha : PE X a ta) (hb' : PE X b tb) (hsl : ∀ (q : Addr) (i : Value), subscripted b true (.ref q) i = runValue (.builtin "lifetime.subscript" ⟨[.ref q, i], []⟩) := by intro _ _; with_unfolding_all rfl) :
    PE X (.Subscript a b pos) (tIxO C sp E ta tb) := by
  refine ⟨fun pins s σ H Q I h => Subscript_ (binT ha hb' I h fun v u s2 x y H2 I2 rx ry q => ?_)⟩
  obtain ⟨p, dx, fs, rfl, ea, q⟩ := q
  cases rx
  obtain ⟨od, J⟩ := inst I2 ea
  obtain ⟨m0, hF⟩ := I2.fr
  exact PySem.W.sub_K hF I2.ok.mod.kin J m.at_ hfn m.fn (run_at (vs := [V.ref p, y]) F hr.in1 I2.env0.in1 hb hx I2 (.cons rfl (.cons ry .nil)) q) (hsl _ _)
/-- len(r) -/
def rLenO (C : Addr) (sp : Sp) (E : XK) : List V → Hp → VK → Prop := fun xs H Q => ∃ a dx fs, xs = [.ref a] ∧ H a = some (.ins C dx fs) ∧ sp [.ref a] H (fun v H' => ∃ n : Int, v = .int n ∧ 0 ≤ n ∧ n < 2 ^ 63 ∧ Q (.int n) H') E
theorem call_lenO (m : Sm X.K C "__len__" f) (F : FnOk X.prog X.w X.K X.mg X.base CX k f fd ps sp) (hr : Room (k + 1) X.A) (hb : Binds X.K fd ps []) (hx : Passes CX X E) : CallR X (.builtin "len") (rLenO C sp E) := by
  intro pins s σ H xs us Q I r h
  obtain ⟨a, dx, fs, rfl, ea, q⟩ := h
  obtain ⟨u, rfl, ru⟩ := vals1 r
  cases ru
  obtain ⟨od, J⟩ := inst I ea
  obtain ⟨m0, hF⟩ := I.fr
  refine PySem.W.len_K hF I.ok.mod.kin J m.at_ m.fn (thn (run_at (vs := [V.ref a]) F hr.in1 I.env0.in1 hb hx I (.cons rfl .nil) q) fun r s' hq => ?_)
  obtain ⟨z, H', I', rz, n, rfl, n0, n1, qq⟩ := hq
  obtain ⟨t, rfl⟩ := rz
  exact ⟨⟨n0, n1⟩, .int n, H', I'.tok _, ⟨_, rfl⟩, qq⟩
end

/-! ### for x in r, where __iter__ hands back a tuple's iterator -/
/-- at it: an iterator over the tuple at t, not yet begun -/
def TiO (t it : Addr) : HO := .ext fun h => h.IsTupleIter it t 0
theorem tiO_ok {P : Program} {w : World} {H : Hp} {h : Heap} {t it : Addr} (e : h.IsTupleIter it t 0) : ObjOk P w H h it (TiO t it) := by
  obtain ⟨o, ho, z⟩ := id e
  exact ⟨e, ⟨o, ho⟩, fun h1 h2 q k => q.at fun o e => k o e⟩
/-- a promise that may speak of the heap's size at the call -/
structure FnS (P : Program) (w : World) (K : PySem.W.Frag) (mg : Str → Option Value) (base : Heap) (CX : CXT) (k : Nat) (f : Addr) (fd : FuncData) (ps : List Str) (sp : Nat → Sp) : Prop where
  len : ∀ n vs H Q E, sp n vs H Q E → vs.length = ps.length
  run : ∀ (A : Around) (outer : List Env) (s : Shared) (H : Hp) (args : Args) (us : List Value) (vs : List V) (Q : VK) (E : XK), Room k A → Env0 P w K mg base A outer s H → BindsTo s fd args (ps.zip us) → Vals vs us → sp s.heap.objs.size vs H Q E →
    codeAny (model P w) A (.call (.ref f) args) (CR CX outer P w H s Q E) s
theorem Fun.okS {P : Program} {w : World} {K : PySem.W.Frag} {mg : Str → Option Value} {base : Heap} {CX : CXT} {x qual : Str} {st : Stmt} {f : Addr} {fd : FuncData} {N ps : List Str} {k : Nat} {sp : Nat → Sp} (F : L2.Fun K x qual st f fd) (S : FnScope N ps (defScope st))
    (len : ∀ n vs H Q E, sp n vs H Q E → vs.length = ps.length)
    (body : ∀ (cdv : Value) (A : Around) (outer : List Env) (s : Shared) (H : Hp) (vs : List V) (Q : VK) (E : XK), Room k (A.deeper (envOfC qual (defScope st) s.heap.objs.size f cdv)) → sp s.heap.objs.size vs H Q E →
      ∃ t, PSs (cxOf CX P w K mg base N qual (defScope st) f cdv A outer s H E) (defBody st) t ∧ t { nx := fun _ H' => Q .non H', rt := Q } (start N vs) H) : FnS P w K mg base CX (k + 1) f fd ps sp := by
  obtain ⟨oc, od, kV, doc, pm, an, cdv, ct, osl, rfl, lk, hcd⟩ := F.ex
  refine ⟨len, fun A outer s H args us vs Q E hr e0 hb r q => ?_⟩
  -- for this one heap the promise is a plain one
  have G : ∀ n : Nat, n = s.heap.objs.size → codeAny (model P w) A (.call (.ref f) args) (CR CX outer P w H s Q E) s := fun n hn => by
    have hl := len _ _ _ _ _ q
    have kb : ∀ b o, base.get? b = some o → s.heap.get? b = some o := fun b o e => (e0.bs b o e).1
    have KX : K.In s.heap := e0.mod.kin.keeps kb
    have lim : s.heap.NoLimit := e0.mod.nolimit.keeps kb
    have hkind : ∀ y ∈ ps.zip us, (defScope st).names.lookup y.1 = some .local ∨ ((defScope st).names.lookup y.1 = some .cell ∧ ((cellsFrom (s.heap.objs.size + 1) (defScope st).names []).lookup y.1).isSome = true) := by
      rintro ⟨n, v⟩ hy
      rcases S.par n (List.of_mem_zip hy).1 with q | q
      · exact .inl q
      · exact .inr ⟨q, PySem.W.cellsFrom_some _ _ _ (.inl q)⟩
    refine codeAny_call_function hr.depth (KX _ _ lk) rfl S.co S.gen rfl (PySem.W.codeRec_of KX hcd) (hb _ _ _ _ ?_)
    refine wpAny_newFunctionEnv_cells S.kind hkind fun env he s1 x => ?_
    subst he
    refine ⟨lim.keeps x.toInCall.keep, codeAny_func ?_⟩
    obtain ⟨t, ht, hq⟩ := body cdv A outer s H vs Q E (hr.deeper _) q
    have I := inv_start (CX := CX) (w := w) (mg := mg) (E := E) S hr.hd e0 hl r x
    refine wpAny_mono (ht.run [] s1 (start N vs) H _ I hq) (fun fl s' hs => ?_) fun e s' hs => hs
    match fl, hs with
    | .ret u, ⟨v, σ', H', J, rv, q⟩ => exact ⟨v, H', J.os, J.bare, J.base, J.hok, rv, q⟩
    | .next, ⟨σ', H', J, q⟩ => exact ⟨V.non, H', J.os, J.bare, J.base, J.hok, rfl, q⟩
    | .brk, ⟨_, _, _, q⟩ => exact q.elim
    | .cont, ⟨_, _, _, q⟩ => exact q.elim
  exact G _ rfl
/-- iter(t), t a tuple -/
def rIterT (K : PySem.W.Frag) (n : Nat) : List V → Hp → VK → Prop := fun xs H Q => ∃ (t : Addr) (zs : List V), xs = [.ref t] ∧ SqT K H t zs ∧ ∀ it, H it = none → n ≤ it → Q (.ref it) (upd H it (TiO t it))
theorem call_iterT {X : Cx} : CallR X (.builtin "iter") (rIterT X.K X.s_0.heap.objs.size) := by
  intro pins s σ H xs us Q I r h
  obtain ⟨t, zs, rfl, hq, q⟩ := h
  obtain ⟨u, rfl, ru⟩ := vals1 r
  cases ru
  obtain ⟨its, rv, p, hz⟩ := I.tuple hq
  refine Calls.call_function_entry (by decide +kernel) (by decide +kernel) PySem.W.kdk_entry_iter (PySem.W.kdk_args_iter _) ?_
  unfold Builtin.«iter»
  refine wpAny_bind (m := someArgs "iter" 1 2 _) (wpAny_of_eq (a := [Value.ref t]) (by first | rfl | kernel_rfl!) ?_)
  refine wpAny_bind (m := pyIter (.ref t)) (wpAny_pyIter_tuple p ?_)
  exact wpAny_pure ⟨_, rfl, .ref s.heap.objs.size, _, I.laid (t' := s.toks) (fun b u e => Heap.get?_push_of_some _ e) (Nat.le_refl _) (tiO_ok ⟨_, Heap.get?_push_size _ rfl, rfl, rfl⟩), rfl, q _ (I.hok.fresh (Nat.le_refl _)) I.sz⟩
/-- what such an __iter__ promises -/
def spIt (K : PySem.W.Frag) (n : Nat) : Sp := fun vs H Q _ => ∃ (a C dx : Addr) (fs : List (Str × V)) (t : Addr) (zs : List V), vs = [.ref a] ∧ H a = some (.ins C dx fs) ∧ Cls K C ∧ NoAttr K C "names" ∧ fs.lookup ("names" : Str) = some (.ref t) ∧ SqT K H t zs ∧
  ∀ it, H it = none → n ≤ it → Q (.ref it) (upd H it (TiO t it))
section
variable {X : Cx} {CX : CXT} {k : Nat} {C f : Addr} {fd : FuncData} {ps : List Str} {E : XK} {tg e : Expr} {te : TE}
def iOwn (K : PySem.W.Frag) (te : TE) (C : Addr) : TI := fun σ H R => te σ H fun x H1 => ∃ (a dx : Addr) (fs : List (Str × V)) (t : Addr) (zs : List V), x = .ref a ∧ H1 a = some (.ins C dx fs) ∧ fs.lookup ("names" : Str) = some (.ref t) ∧ SqT K H1 t zs ∧ R (Itt K t) H1
theorem pi_own (m : Sm X.K C "__iter__" f) (c : Cls X.K C) (na : NoAttr X.K C "names") (F : FnS X.prog X.w X.K X.mg X.base CX k f fd ps (spIt X.K)) (hr : Room k X.A) (hb : Binds X.K fd ps []) (hx : Passes CX X E) (he : PE X e te) : PI X tg e (iOwn X.K te C) := by
  refine ⟨fun pins s σ H R I h => thn (he.run pins s σ H _ I h) fun v s1 hv => ?_⟩
  obtain ⟨x, H1, I1, rx, a, dx, fs, t, zs, rfl, ea, el, hq, q⟩ := hv
  cases rx
  obtain ⟨od, J⟩ := inst I1 ea
  obtain ⟨m0, hF⟩ := I1.fr
  refine PySem.W.owit_iter hF I1.ok.mod.kin J m.at_ m.fn ?_
  have hsp : spIt X.K s1.heap.objs.size [V.ref a] H1 (fun v H2 => ∃ it, v = .ref it ∧ H1 it = none ∧ s1.heap.objs.size ≤ it ∧ H2 = upd H1 it (TiO t it)) E :=
    ⟨a, C, dx, fs, t, zs, rfl, ea, c, na, el, hq, fun it h0 h1 => ⟨it, rfl, h0, h1, rfl⟩⟩
  have hl := F.len _ _ _ _ _ hsp
  have b := hb s1 [Value.ref a] I1.kIn (by simpa using hl)
  rw [List.append_nil] at b
  refine wpAny_call (codeAny_mono (F.run X.A X.stack s1 H1 ⟨[.ref a], []⟩ [.ref a] [.ref a] _ E hr I1.env0 b (.cons rfl .nil) hsp) fun r s' hq' => ?_)
  match r, hq' with
  | .error er, hq' => exact hx pins σ H1 s1 er s' I1 hq'
  | .ok (.ret u), hq' =>
    obtain ⟨z, H2, I2, rz, it, rfl, n0, n1, rfl⟩ := I1.after hq'
    cases rz
    have e2 : (upd H1 it (TiO t it)) it = some (TiO t it) := upd_same
    have ti : s'.heap.IsTupleIter it t 0 := (I2.hok it _ e2).1
    refine wpAny_specialOf ti.typeIs PySem.F.slot_tuple_iterator_next.lookup ?_
    have ed : ItX.dropH (upd H1 it (TiO t it)) it = H1 := ItX.dropH_upd n0
    have I3 := ItX.inv_drop I2 e2
    have fp := ItX.inv_fp I2 e2 (Nat.le_trans I1.sz n1)
    rw [ed] at I3 fp
    refine ⟨it, [it], _, Itt X.K t, H1, rfl, I3, turn_tuple t it, ti, fun b hb => ?_, q⟩
    have eb : b = it := by simpa using hb
    rw [eb]
    exact fp
end

/-! ### C.m(..), m a static method -/
structure SMet (K : PySem.W.Frag) (C : Addr) (mc : Value) (m : Str) (p g : Addr) : Prop where
  rd : ClX.CRead K C mc
  at_ : PySem.W.findCls K (.ref C) mc m = some (.get (.builtin "staticmethod.__get__") (.ref p) .none (.ref C))
  rc : ∃ rest, PySem.W.recIn K p "staticmethod" = some (.ref g :: rest)
  kp : PySem.W.keepIn K (.ref g) = true
def tSMet (C : Addr) (sp : Sp) (E : XK) (ta : TE) (t : TA) : TE := fun σ H Q => ta σ H fun x H1 => x = .ref C ∧ t σ H1 fun vs H2 => sp vs H2 Q E
section
variable {X : Cx} {CX : CXT} {k : Nat} {C p g : Addr} {mc : Value} {fd : FuncData} {ps : List Str} {sp : Sp} {E : XK} {o e : Expr} {es : List Expr} {m : Str} {pos apos : Pos} {ta : TE} {t : TA} {pl : Sem Bool}
theorem pe_sm (he : PE X o ta) (c : SMet X.K C mc m p g) (F : FnOk X.prog X.w X.K X.mg X.base CX k g fd ps sp) (hr : Room k X.A) (hb : Binds X.K fd ps []) (hx : Passes CX X E) (ha : PA X (e :: es) t)
    (hst : starEach (e :: es) X.env = (false, eval e X.env) :: starEach es X.env := by rfl) (hpl : (backTo pos (starEach es X.env)).any (·.1) = false := by rfl)
    (ht : eval (.Call (.Attribute o m apos) (e :: es) [] pos) X.env = (do
      let ov ← eval o X.env
      standAt apos.atName
      let (f, first) ← holding [ov] (getMethod ov m pl)
      callWith pos f first (backTo pos (starEach (e :: es) X.env)) (backToKw pos (keywordEach [] X.env))) := by rfl) :
    PE X (.Call (.Attribute o m apos) (e :: es) [] pos) (tSMet C sp E ta t) := by
  refine ⟨fun pins s σ H Q I h => PySem.W.methodCall_KW (pl := pl) (thn (he.run pins s σ H _ I h) fun u s1 hv => ?_) ht⟩
  obtain ⟨x, H1, I1, rx, rfl, q⟩ := hv
  obtain rfl : u = Value.ref C := rx
  obtain ⟨rest, hp⟩ := c.rc
  refine PySem.W.method_cls I1.kIn c.rd.ga (PySem.W.cls_bind I1.kIn c.rd.rd c.at_ ?_)
  refine wpAny_call (PySem.W.sm_get (s := { s1 with toks := s1.toks + 1 }) I1.kIn hp (PySem.W.handed_on rfl ?_))
  have I2 := I1.tok (s1.toks + 1)
  refine PySem.W.callWith_K (h₀ := X.base) I2.ok.mod.kin c.kp (thn (ha.run pos pins _ σ H1 _ I2 q) fun us s2 h2 => ?_) hst hpl
  obtain ⟨vs, H2, I3, rv, q2⟩ := h2
  exact ⟨I3.kIn, run_at F hr I3.env0 hb hx I3 rv q2⟩
end

/-! ### == where one side is an int and the other one of an own class -/
theorem int_eq_ins {prog : Program} {w : World} {A : Around} {E : Value → Shared → Prop} {s : Shared} {a : Int} {t : Tok} {l : Addr} {ox : Obj} {Q : Value → Shared → Prop} (ho : s.heap.get? l = some ox) (hd : ox.data = .plain) (h : Q .notImplemented s) :
    wpAny (model prog w) A (call (.builtin "int.__eq__") [.int a t, .ref l]) Q E s := by
  refine GQ.call_here PySem.F.slot_int_eq (typeIs_int s a t) PySem.F.entry_int_eq (PySem.F.args_int_eq_2 _ _) ?_
  obtain ⟨hp, g, d, tk, os⟩ := s
  obtain ⟨oc, od, oda, osl⟩ := ox
  dsimp only at hd
  subst hd
  wp_walk
  exact h
section
variable {X : Cx} {CX : CXT} {k : Nat} {C f : Addr} {fd : FuncData} {ps : List Str} {sp : Sp} {E : XK}
/-- r == y, by r's own def -/
def rEqOL (K : PySem.W.Frag) (C : Addr) (sp : Sp) (E : XK) : R2 := fun x y H Q => ∃ a dx fs, x = .ref a ∧ H a = some (.ins C dx fs) ∧
  ((∃ i, y = .int i) ∨ ∃ b dy gs, y = .ref b ∧ H b = some (.ins C dy gs)) ∧ sp [.ref a, y] H (fun v H' => ∃ b, v = .bl b ∧ Q (.bl b) H') E
theorem op_eqOL (m : Sm X.K C "__eq__" f) (hi : PySem.W.subIn X.K (.type "int") (.ref C) = some false) (F : FnOk X.prog X.w X.K X.mg X.base CX k f fd ps sp) (hr : Room k X.A) (hb : Binds X.K fd ps []) (hx : Passes CX X E) :
    OpR X (compareOp .Eq) (rEqOL X.K C sp E) := by
  intro pins s σ H x y v u Q I rx ry h
  obtain ⟨a, dx, fs, rfl, ea, hy, q⟩ := h
  cases rx
  obtain ⟨od, J⟩ := inst I ea
  obtain ⟨m0, hF⟩ := I.fr
  have fin : wpAny (model X.prog X.w) X.A (call (.ref f) [.ref a, u]) (PySem.W.CmpBack (EP X pins σ Q)) X.xe s := by
    refine thn (run_at (vs := [V.ref a, y]) F hr I.env0 hb hx I (.cons rfl (.cons ry .nil)) q) fun r s' hq => ?_
    obtain ⟨z, H', I', rz, b, rfl, qq⟩ := hq
    cases rz
    exact ⟨.bl b, H', I', rfl, qq⟩
  show wpAny _ _ (richCompare .Eq (.ref a) u) _ _ _
  rcases hy with ⟨i, rfl⟩ | ⟨b, dy, gs, rfl, eb⟩
  · obtain ⟨t, rfl⟩ := ry
    refine PySem.W.cmp_K (op := .Eq) (tb := .type "int") hr.units0 hF I.ok.mod.kin J .now ?_ m.at_ m.fn fin
    unfold PySem.W.notFirst
    rw [hi]
    rfl
  · cases ry
    obtain ⟨oe, J2⟩ := inst I eb
    exact PySem.W.cmp_K (op := .Eq) (tb := .ref C) hr.units0 hF I.ok.mod.kin J J2.type (by simp [PySem.W.notFirst]) m.at_ m.fn fin
/-- i == r: int declines, then r's own def is asked -/
def rEqOR (C : Addr) (sp : Sp) (E : XK) : R2 := fun x y H Q => ∃ i a dx fs, x = .int i ∧ y = .ref a ∧ H a = some (.ins C dx fs) ∧ sp [.ref a, .int i] H (fun v H' => ∃ b, v = .bl b ∧ Q (.bl b) H') E
theorem op_eqOR (m : Sm X.K C "__eq__" f) (hi : PySem.W.subIn X.K (.ref C) (.type "int") = some false) (F : FnOk X.prog X.w X.K X.mg X.base CX k f fd ps sp) (hr : Room k X.A) (hb : Binds X.K fd ps []) (hx : Passes CX X E) :
    OpR X (compareOp .Eq) (rEqOR C sp E) := by
  intro pins s σ H x y v u Q I rx ry h
  obtain ⟨i, a, dx, fs, rfl, rfl, ea, q⟩ := h
  cases ry
  obtain ⟨t, rfl⟩ := rx
  obtain ⟨od, J⟩ := inst I ea
  obtain ⟨m0, hF⟩ := I.fr
  have K0 := I.kIn
  have one : wpAny (model X.prog X.w) X.A (tryCompare (.ref a) "__eq__" (.int i t)) (fun r s' => ∃ v, r = some v ∧ EP X pins σ Q v s') X.xe s := by
    unfold tryCompare
    refine wpAny_bind (PySem.W.ifBound_K K0 J m.at_ m.fn (thn (run_at (vs := [V.ref a, V.int i]) F hr I.env0 hb hx I (.cons rfl (.cons ⟨t, rfl⟩ .nil)) q) fun r s' hq => ?_))
    obtain ⟨z, H', I', rz, b, rfl, qq⟩ := hq
    cases rz
    exact wpAny_pure ⟨_, rfl, .bl b, H', I', rfl, qq⟩
  show wpAny _ _ (richCompare .Eq (.int i t) (.ref a)) _ _ _
  have o0 : oneThing? .Eq (.int i t) (.ref a) = none := by first | rfl | decide +kernel
  have ne : (Value.type "int" != Value.ref C) = true := by simp
  unfold richCompare
  simp only [o0]
  refine wpAny_holding (wpAny_bind (wpAny_cRoomFor hr.units0 ?_))
  refine wpAny_bind (wpAny_typeOf (T := "int") (PySem.typeIs_int s i t) (wpAny_bind (J.type.here ?_)))
  simp only [ne, if_true]
  refine wpAny_bind ((PySem.W.looks_subIn K0 hi).here ?_)
  simp only [Bool.false_eq_true, if_false, Bool.not_false, if_true]
  refine wpAny_bind (m := tryCompare (.int i t) _ (.ref a)) (wpAny_tryCompare_declines (PySem.typeIs_int s i t) PySem.F.slot_int_eq (int_eq_ins J.at_ rfl ⟨rfl, ?_⟩))
  refine wpAny_bind (m := tryCompare (.ref a) _ (.int i t)) (wpAny_mono one (fun r s' z => ?_) fun _ _ e => e)
  obtain ⟨v, rfl, hq⟩ := z
  exact wpAny_pure hq
end
end GrOwn
/-! The law's own helpers: cells, the tape, what is drawn from it. -/
namespace Lw
open PySem PySem.Spec PyProof.Rows L2 GrT
def top (i : Nat) : Stmt := PySem.Challenge.pw_growingrecords_k08_whole_record_algebra.main.body.getD i (.Pass ⟨0, 0, 0, 0⟩)
abbrev sCell : Stmt := top 12
abbrev sMixed : Stmt := top 13
abbrev sTape : Stmt := top 14
abbrev sTake : Stmt := top 15
abbrev sNumber : Stmt := top 16
abbrev sWord : Stmt := top 17
abbrev sWords : Stmt := top 18
/-- a def of the module's top, by its name -/
structure Dfn (K : PySem.W.Frag) (mg : Str → Option Value) (x : Str) (st : Stmt) (ps : List Str) : Prop where
  ex : ∃ f fd, mg x = some (.ref f) ∧ L2.Fun K x x st f fd ∧ Binds K fd ps []
/-- the def called x keeps the promise sp, at level k -/
structure Cal (P : Program) (w : World) (K : PySem.W.Frag) (mg : Str → Option Value) (base : Heap) (k : Nat) (x : Str) (sp : Sp) : Prop where
  ex : ∃ (f : Addr) (fd : FuncData) (ps : List Str), FnOk P w K mg base CX0 k f fd ps sp ∧ mg x = some (.ref f) ∧ PySem.W.keepIn K (.ref f) = true ∧ Binds K fd ps []
theorem pe_c {X : Cx} {k j : Nat} {x : Str} {sp : Sp} {p pos : Pos} {e : Expr} {es : List Expr} {t : TA} (c : Cal X.prog X.w X.K X.mg X.base k x sp) (hr : Room j X.A) (hk : k ≤ j) (hg : Gl X x) (ha : PA X (e :: es) t)
    (hdb : (x == ("__debug__" : Str)) = false := by decide) (he : starEach (e :: es) X.env = (false, eval e X.env) :: starEach es X.env := by rfl) (hpl : (backTo pos (starEach es X.env)).any (·.1) = false := by rfl) :
    PE X (.Call (.Name x p) (e :: es) [] pos) (tCall sp [] E0 t) := by
  obtain ⟨f, fd, ps, F, hm, kp, b⟩ := c.ex
  exact pe_call F (hr.mono hk) hg hm kp b .nil pass0 ha hdb he hpl
/-- what the top leaves of the built-ins that the helpers ask -/
structure Bt (mg : Str → Option Value) : Prop where
  b_len : mg "len" = none
  b_int : mg "int" = none
  b_range : mg "range" = none
section
variable {P : Program} {w : World} {K : PySem.W.Frag} {mg : Str → Option Value} {base : Heap}
theorem Dfn.cal {x : Str} {st : Stmt} {N ps : List Str} {k : Nat} {sp : Sp} (D : Dfn K mg x st ps) (S : FnScope N ps (defScope st)) (len : ∀ vs H Q E, sp vs H Q E → vs.length = ps.length)
    (body : ∀ (f : Addr) (cdv : Value) (A : Around) (outer : List Env) (s : Shared) (H : Hp) (vs : List V) (Q : VK) (E : XK), Room k (A.deeper (envOfC x (defScope st) s.heap.objs.size f cdv)) → sp vs H Q E →
      ∃ t, PSs (cxOf CX0 P w K mg base N x (defScope st) f cdv A outer s H E).nox (defBody st) t ∧ t { nx := fun _ H' => Q .non H', rt := Q } (start N vs) H) : Cal P w K mg base (k + 1) x sp := by
  obtain ⟨f, fd, hm, F, b⟩ := D.ex
  exact ⟨f, fd, ps, F.ok S len (body f), hm, F.kp, b⟩
end
/-! ### what is promised -/
/-- all but the object at T stands -/
def Fx (T : Addr) (H H' : Hp) : Prop := ∀ b o, b ≠ T → H b = some o → H' b = some o
theorem Fx.refl {T : Addr} {H : Hp} : Fx T H H := fun _ _ _ e => e
theorem Fx.trans {T : Addr} {H H1 H2 : Hp} (a : Fx T H H1) (b : Fx T H1 H2) : Fx T H H2 := fun c o n e => b c o n (a c o n e)
theorem Fx.set {T : Addr} {H : Hp} {o : HO} : Fx T H (upd H T o) := fun b u n e => by
  rw [upd_ne n]
  exact e
theorem Fx.same {T : Addr} {H H' : Hp} (s : Same H H') : Fx T H H' := fun b o _ e => s b o e
theorem Fx.new {T a : Addr} {H H1 : Hp} {o : HO} (x : Fx T H H1) (n : H1 a = none) : Fx T H (upd H1 a o) := fun b u ne e => by
  have q := x b u ne e
  rw [upd_ne (ne_of_none q n)]
  exact q
/-- the tape: ints below 720720 -/
def Tape (H : Hp) (T : Addr) : Prop := ∃ ns : List Int, H T = some (.lst (ns.map V.int)) ∧ ns.length ≤ 1000 ∧ ∀ n ∈ ns, 0 ≤ n ∧ n < 720720
theorem Tape.new {H : Hp} {T a : Addr} {o : HO} (t : Tape H T) (n : H a = none) : Tape (upd H a o) T := by
  obtain ⟨ns, e, z⟩ := t
  exact ⟨ns, by rw [upd_ne (ne_of_none e n)]; exact e, z⟩
theorem Tape.ne {H : Hp} {T a : Addr} {o : HO} (t : Tape H T) (e : H a = some o) (d : ∀ xs, o ≠ .lst xs) : a ≠ T := by
  obtain ⟨ns, q, _⟩ := t
  exact ne_of e q (d _)
theorem Tape.put {H : Hp} {T a : Addr} {o : HO} (t : Tape H T) (n : a ≠ T) : Tape (upd H a o) T := by
  obtain ⟨ns, e, z⟩ := t
  exact ⟨ns, by rw [upd_ne n.symm]; exact e, z⟩
def spCell (K : PySem.W.Frag) : Sp := fun vs H Q _ => ∃ (a : Addr) (ns : List Int) (k : Int), vs = [.ref a, .int k] ∧ SqL K H a (ns.map V.int) ∧ 0 ≤ k ∧ ∀ i, Q (.int i) H
def spMixed : Sp := fun vs H Q _ => ∃ c k : Int, vs = [.int c, .int k] ∧ 0 ≤ k ∧ k < 10000 ∧ ∀ i, 0 ≤ i → i < 720720 → Q (.int i) H
def spTape : Sp := fun vs H Q _ => ∃ g l c : Int, vs = [.int g, .int l, .int c] ∧ 0 ≤ c ∧ c ≤ 1000 ∧ ∀ T H', H T = none → Tape H' T → Same H H' → Q (.ref T) H'
def spTake : Sp := fun vs H Q _ => ∃ (T : Addr) (m : Int), vs = [.ref T, .int m] ∧ Tape H T ∧ 0 < m ∧ ∀ i H', 0 ≤ i → i < m → Fx T H H' → Tape H' T → Q (.int i) H'
def spNumber : Sp := fun vs H Q _ => ∃ T : Addr, vs = [.ref T] ∧ Tape H T ∧ ∀ i H', 0 ≤ i → i < 2 ^ 100 → Fx T H H' → Tape H' T → Q (.int i) H'
/-- a text of signs a to z -/
def Az (x : Str) : Prop := ∀ c ∈ x.cps.toList, letter c
def spWord : Sp := fun vs H Q _ => ∃ (T : Addr) (m : Int), vs = [.ref T, .int m] ∧ Tape H T ∧ 0 < m ∧ m ≤ 100 ∧ ∀ (x : Str) H', 1 ≤ x.length → (x.length : Int) ≤ m → Az x → Fx T H H' → Tape H' T → Q (.str x) H'
section
variable {P : Program} {w : World} {K : PySem.W.Frag} {mg : Str → Option Value} {base : Heap}
/-! ### the defs -/
theorem scCell : FnScope ["script", "k"] ["script", "k"] (defScope sCell) := ⟨rfl, rfl, rfl, by decide +kernel, rfl, by decide +kernel, by decide +kernel⟩
theorem c_cell (T : Bt mg) (D : Dfn K mg "_law_cell" sCell ["script", "k"]) : Cal P w K mg base 1 "_law_cell" (spCell K) := by
  refine D.cal scCell (fun vs H Q E h => ?_) (fun f cdv A outer s H vs Q E hr h => ?_)
  · obtain ⟨a, ns, k, rfl, _⟩ := h
    rfl
  · obtain ⟨a, ns, k, rfl, hS, k0, q⟩ := h
    refine ⟨_, (pss_cons (ps_if (pt_cmpR op_lt (pv 1) (pe_callB call_len_seq (by rfl) T.b_len PySem.boot_len (pa_cons (pv 0) pa_nil)) (nomark _))
      (pss_one (ps_ret (pe_ix ix_list (pv 0) (pv 1) (fun _ _ => rfl))))
      pss_nil)
      (pss_one (ps_ret pe_int))), ?_⟩
    refine ⟨_, rfl, _, rfl, a, _, rfl, .inl hS, _, _, rfl, rfl, _, rfl, ?_⟩
    refine ite2 (fun hk => ?_) (fun _ => q 0)
    have hk' := of_decide_eq_true hk
    rw [List.length_map] at hk'
    have e1 : k.toNat < ns.length := by omega
    refine ⟨_, rfl, _, rfl, a, _, _, _, rfl, rfl, hS, ?_, q (ns[k.toNat]'e1)⟩
    obtain ⟨j, rfl⟩ : ∃ j : Nat, k = (j : Int) := ⟨k.toNat, by omega⟩
    refine atI_nat ?_
    rw [List.getElem?_map]
    have e3 : j < ns.length := by omega
    simp [List.getElem?_eq_getElem e3]
theorem scMixed : FnScope ["cell", "k", "first", "second"] ["cell", "k"] (defScope sMixed) := ⟨rfl, rfl, rfl, by decide +kernel, rfl, by decide +kernel, by decide +kernel⟩
theorem c_mixed (T : Bt mg) (D : Dfn K mg "_law_mixed" sMixed ["cell", "k"]) : Cal P w K mg base 1 "_law_mixed" spMixed := by
  refine D.cal scMixed (fun vs H Q E h => ?_) (fun f cdv A outer s H vs Q E hr h => ?_)
  · obtain ⟨c, k, rfl, _⟩ := h
    rfl
  · obtain ⟨c, k, rfl, k0, k1, q⟩ := h
    refine ⟨_, (pss_cons (ps_set (i := 2) scMixed.nd rfl (Or.inl rfl) (pe_op op_mod (pe_callTy call_int1 (by rfl) T.b_int (by decide +kernel) (pa_cons (pe_op op_add (pe_op op_add (pe_op op_mul (pv 0) pe_int) (pe_op op_mul (pv 1) pe_int)) pe_int) pa_nil)) pe_int))
      (pss_cons (ps_set (i := 3) scMixed.nd rfl (Or.inl rfl) (pe_op op_mod (pe_callTy call_int1 (by rfl) T.b_int (by decide +kernel) (pa_cons (pe_op op_add (pe_op op_add (pe_op op_mul (pv 2) (pv 2)) (pe_op op_mul pe_int (pv 2))) (pe_op op_mul (pv 1) pe_int)) pa_nil)) pe_int))
      (pss_one (ps_ret (pe_op op_mod (pe_callTy call_int1 (by rfl) T.b_int (by decide +kernel) (pa_cons (pv 3) pa_nil)) pe_int))))), ?_⟩
    have p31 : (0 : Int) < 2147483647 := by decide
    have f0 : ∀ z : Int, 0 ≤ z % 2147483647 ∧ z % 2147483647 < 2147483647 := fun z => ⟨Int.emod_nonneg z (by decide), Int.emod_lt_of_pos z p31⟩
    refine ⟨_, rfl, _, _, rfl, rfl, .inr ⟨by decide, by decide⟩, _, rfl, _, _, rfl, rfl, .inr ⟨by decide, by decide⟩, _, _, rfl, rfl, _, _, rfl, rfl, .inl ⟨_, rfl, _, _, rfl, rfl, p31, ?_⟩⟩
    generalize hz : (c * 48271 + k * 69621 + 7) % 2147483647 = z
    have hf := f0 (c * 48271 + k * 69621 + 7)
    rw [hz] at hf
    refine ⟨_, rfl, _, rfl, _, _, rfl, rfl, .inl ⟨by omega, by omega⟩, _, rfl, _, _, rfl, rfl, .inl ⟨by decide, by decide⟩, _, _, rfl, rfl, _, rfl, _, _, rfl, rfl, .inr ⟨by decide, by decide⟩, _, _, rfl, rfl, .inl ⟨_, rfl, _, _, rfl, rfl, (by decide : (0 : Int) < 2147483629), ?_⟩⟩
    exact ⟨_, rfl, .inl ⟨_, rfl, _, _, rfl, rfl, (by decide : (0 : Int) < 720720), q _ (Int.emod_nonneg _ (by decide)) (Int.emod_lt_of_pos _ (by decide))⟩⟩
theorem scTape : FnScope ["great", "lesser", "count", "tape", "rest", "k", "drawn"] ["great", "lesser", "count"] (defScope sTape) := ⟨rfl, rfl, rfl, by decide +kernel, rfl, by decide +kernel, by decide +kernel⟩
theorem p72 : (0 : Int) < 720720 := by decide
theorem c_tape (T : Bt mg) (D : Dfn K mg "_law_tape" sTape ["great", "lesser", "count"]) (c_law_mixed : Cal P w K mg base 1 "_law_mixed" spMixed) : Cal P w K mg base 2 "_law_tape" spTape := by
  refine D.cal scTape (fun vs H Q E h => ?_) (fun f cdv A outer s H vs Q E hr h => ?_)
  · obtain ⟨g, l, c, rfl, _⟩ := h
    rfl
  · obtain ⟨g, l, c, rfl, c0, c1, q⟩ := h
    refine ⟨_, (pss_cons (ps_set (i := 3) scTape.nd rfl (Or.inl rfl) (pe_lst pa_nil))
      (pss_cons (ps_set (i := 4) scTape.nd rfl (Or.inl rfl) (pv 0))
      (pss_cons (ps_for PassesOwn.never rfl (pi_range1 (by rfl) T.b_range (pa_cons (pv 2) pa_nil)) (pg_name (i := 5) scTape.nd rfl (Or.inl rfl))
      (pss_cons (ps_set (i := 6) scTape.nd rfl (Or.inl rfl) (pe_c c_law_mixed hr (by decide) rfl (pa_cons (pv 1) (pa_cons (pv 5) pa_nil))))
      (pss_cons (ps_if (pt_cmpR op_ge (pv 0) (pe_op op_pow pe_int pe_int) (nomark _))
      (pss_cons (ps_set (i := 6) scTape.nd rfl (Or.inl rfl) (pe_op op_add (pv 6) (pe_op op_mod (pe_callTy call_int1 (by rfl) T.b_int (by decide +kernel) (pa_cons (pv 4) pa_nil)) pe_int)))
      (pss_one (ps_set (i := 4) scTape.nd rfl (Or.inl rfl) (pe_op op_fdiv (pv 4) pe_int))))
      (pss_one (ps_set (i := 6) scTape.nd rfl (Or.inl rfl) (pe_op op_add (pv 6) (pe_c c_law_mixed hr (by decide) rfl (pa_cons (pv 0) (pa_cons (pe_op op_add (pv 5) pe_int) pa_nil)))))))
      (pss_one (ps_expr (pe_bm PySem.F.plainAttrs_list PySem.F.slot_list_append PySem.F.type_list_append mt_append (pv 3) (pa_cons (pe_op op_mod (pe_callTy call_int1 (by rfl) T.b_int (by decide +kernel) (pa_cons (pv 6) pa_nil)) pe_int) pa_nil)))))))
      (pss_one (ps_ret (pv 3)))))), ?_⟩
    refine ⟨Nat.zero_le _, fun p hp => ?_⟩
    refine ⟨_, rfl, _, rfl, c, rfl, by omega, by omega, for_range (lo := 0) (n := c.toNat) (fun i σ H' => ∃ (r : Int) (kv dv : Option V) (ns : List Int), σ = [some (.int g), some (.int l), some (.int c), some (.ref p), some (.int r), kv, dv] ∧
      H' p = some (.lst (ns.map V.int)) ∧ ns.length = i ∧ (∀ n ∈ ns, 0 ≤ n ∧ n < 720720) ∧ Same H H') ⟨g, none, none, [], rfl, upd_same, rfl, (fun n hn => by cases hn), (fun b o e => by rw [upd_ne (ne_of_none e hp)]; exact e)⟩ ?_ ?_⟩
    · rintro i σ H' hi ⟨r, kv, dv, ns, rfl, hl, hn, hb, hs⟩
      refine ⟨_, rfl, _, rfl, _, _, rfl, by omega, by omega, fun d1 hd1 hd2 => ?_⟩
      refine ⟨_, rfl, _, _, rfl, rfl, ⟨by decide, by decide, by decide⟩, _, _, rfl, rfl, _, rfl, ite2 (fun _ => ?_) (fun _ => ?_)⟩
      · refine ⟨_, rfl, _, rfl, .inl ⟨_, rfl, _, _, rfl, rfl, p72, _, _, rfl, rfl, _, rfl, _, _, rfl, rfl, ⟨by decide, by decide⟩, ?_⟩⟩
        refine ⟨_, rfl, .inl ⟨rfl, _, .inl (.inl hl)⟩, _, rfl, .inl ⟨_, rfl, _, _, rfl, rfl, p72, p, _, _, rfl, rfl, hl, small1000 (by rw [List.length_map]; omega), ?_⟩⟩
        refine ⟨_, _, _, ns ++ [(d1 + r % 720720) % 720720], rfl, ?_, by rw [List.length_append, hn]; rfl, fun n h => ?_, fun b o e => ?_⟩
        · rw [upd_same, List.map_append]
          rfl
        · rcases List.mem_append.mp h with h | h
          · exact hb n h
          · have e := List.mem_singleton.mp h
            rw [e]
            exact ⟨Int.emod_nonneg _ (by decide), Int.emod_lt_of_pos _ p72⟩
        · rw [upd_ne (ne_of_none e hp)]
          exact hs b o e
      · refine ⟨_, rfl, _, rfl, _, rfl, _, _, rfl, rfl, _, _, rfl, by omega, by omega, fun d2 hd3 hd4 => ⟨_, _, rfl, rfl, ?_⟩⟩
        refine ⟨_, rfl, .inl ⟨rfl, _, .inl (.inl hl)⟩, _, rfl, .inl ⟨_, rfl, _, _, rfl, rfl, p72, p, _, _, rfl, rfl, hl, small1000 (by rw [List.length_map]; omega), ?_⟩⟩
        refine ⟨_, _, _, ns ++ [(d1 + d2) % 720720], rfl, ?_, by rw [List.length_append, hn]; rfl, fun n h => ?_, fun b o e => ?_⟩
        · rw [upd_same, List.map_append]
          rfl
        · rcases List.mem_append.mp h with h | h
          · exact hb n h
          · have e := List.mem_singleton.mp h
            rw [e]
            exact ⟨Int.emod_nonneg _ (by decide), Int.emod_lt_of_pos _ p72⟩
        · rw [upd_ne (ne_of_none e hp)]
          exact hs b o e
    · rintro σ H' ⟨r, kv, dv, ns, rfl, hl, hn, hb, hs⟩
      exact ⟨_, rfl, q p H' hp ⟨ns, hl, by omega, hb⟩ hs⟩
theorem scTake : FnScope ["tape", "many"] ["tape", "many"] (defScope sTake) := ⟨rfl, rfl, rfl, by decide +kernel, rfl, by decide +kernel, by decide +kernel⟩
theorem type_pop : typeOf (.builtin "list.pop") = pure (.type "method_descriptor") := by
  show builtinType _ = _
  rw [builtinType_eq_fast]
  kernel_rfl
theorem c_take (T : Bt mg) (D : Dfn K mg "_law_take" sTake ["tape", "many"]) : Cal P w K mg base 1 "_law_take" spTake := by
  refine D.cal scTake (fun vs H Q E h => ?_) (fun f cdv A outer s H vs Q E hr h => ?_)
  · obtain ⟨p, m, rfl, _⟩ := h
    rfl
  · obtain ⟨p, m, rfl, ⟨ns, hl, hn, hb⟩, m0, q⟩ := h
    refine ⟨_, (pss_cons (ps_if (pt_not (pt_truth (pv 0) (by intro _; rfl)))
      (pss_one (ps_ret pe_int))
      pss_nil)
      (pss_one (ps_ret (pe_op op_mod (pe_callTy call_int1 (by rfl) T.b_int (by decide +kernel) (pa_cons (pe_bm PySem.F.plainAttrs_list PySem.F.slot_list_pop type_pop mt_popAt (pv 0) (pa_cons pe_int pa_nil)) pa_nil)) (pv 1))))), ?_⟩
    refine ⟨_, rfl, !(ns.map V.int).isEmpty, .inl ⟨_, SqL.of hl, rfl⟩, ?_⟩
    cases ns with
    | nil => exact iteT (q 0 H (Int.le_refl _) m0 Fx.refl ⟨[], hl, hn, hb⟩)
    | cons n ns =>
      refine iteF ?_
      refine ⟨_, rfl, .inl ⟨rfl, _, .inl (.inl hl)⟩, p, _, 0, 0, .int n, rfl, rfl, hl, by decide, by decide, by simp [seqIndex?], rfl, ?_⟩
      refine .inl ⟨n, rfl, _, rfl, n, m, rfl, rfl, m0, ?_⟩
      refine q _ _ (Int.emod_nonneg _ (by omega)) (Int.emod_lt_of_pos _ m0) Fx.set ⟨ns, upd_same, ?_, fun z hz => hb z (List.mem_cons_of_mem _ hz)⟩
      rw [List.length_cons] at hn
      omega
end
end Lw
namespace Lw
open PySem PySem.Spec PyProof.Rows L2 GrT
section
variable {P : Program} {w : World} {K : PySem.W.Frag} {mg : Str → Option Value} {base : Heap}
theorem scNumber : FnScope ["tape", "number", "k"] ["tape"] (defScope sNumber) := ⟨rfl, rfl, rfl, by decide +kernel, rfl, by decide +kernel, by decide +kernel⟩
theorem pow_step {m d : Int} {i : Nat} (h0 : 0 ≤ m) (h : m < 720720 ^ i) (d0 : 0 ≤ d) (d1 : d < 720720) : 0 ≤ m * 720720 + d ∧ m * 720720 + d < 720720 ^ (i + 1) := by
  have e : (720720 : Int) ^ (i + 1) = 720720 ^ i * 720720 := Int.pow_succ _ _
  rw [e]
  generalize (720720 : Int) ^ i = q at h
  omega
theorem c_number (T : Bt mg) (D : Dfn K mg "_law_number" sNumber ["tape"]) (c_law_take : Cal P w K mg base 1 "_law_take" spTake) : Cal P w K mg base 2 "_law_number" spNumber := by
  refine D.cal scNumber (fun vs H Q E h => ?_) (fun f cdv A outer s H vs Q E hr h => ?_)
  · obtain ⟨p, rfl, _⟩ := h
    rfl
  · obtain ⟨p, rfl, tp, q⟩ := h
    refine ⟨_, (pss_cons (ps_if (pt_cmpR op_lt (pe_c c_law_take hr (by decide) rfl (pa_cons (pv 0) (pa_cons pe_int pa_nil))) pe_int (nomark _))
      (pss_one (ps_ret (pe_c c_law_take hr (by decide) rfl (pa_cons (pv 0) (pa_cons pe_int pa_nil)))))
      pss_nil)
      (pss_cons (ps_set (i := 1) scNumber.nd rfl (Or.inl rfl) pe_int)
      (pss_cons (ps_for PassesOwn.never rfl (pi_range1 (by rfl) T.b_range (pa_cons pe_int pa_nil)) (pg_name (i := 2) scNumber.nd rfl (Or.inl rfl))
      (pss_one (ps_set (i := 1) scNumber.nd rfl (Or.inl rfl) (pe_op op_add (pe_op op_mul (pv 1) pe_int) (pe_c c_law_take hr (by decide) rfl (pa_cons (pv 0) (pa_cons pe_int pa_nil)))))))
      (pss_one (ps_ret (pv 1)))))), ?_⟩
    refine ⟨_, rfl, p, 4, rfl, tp, by decide, fun i H1 i0 i1 x1 t1 => ⟨_, _, rfl, rfl, _, rfl, ite2 (fun _ => ?_) (fun _ => ?_)⟩⟩
    · exact ⟨_, rfl, p, 10, rfl, t1, by decide, fun j H2 j0 j1 x2 t2 => q j H2 j0 (by omega) (x1.trans x2) t2⟩
    · refine ⟨5, rfl, by decide, by decide, for_range (lo := 0) (n := 5) (fun i σ H' => ∃ (m : Int) (kv : Option V), σ = [some (.ref p), some (.int m), kv] ∧ 0 ≤ m ∧ m < 720720 ^ i ∧ Fx p H H' ∧ Tape H' p)
        ⟨0, none, rfl, by decide, by decide, x1, t1⟩ ?_ ?_⟩
      · rintro i σ H' hi ⟨m, kv, rfl, m0, m1, x2, t2⟩
        refine ⟨_, rfl, _, _, rfl, rfl, .inr ⟨by decide, by decide⟩, _, rfl, p, 720720, rfl, t2, p72, fun d H3 d0 d1 x3 t3 => ⟨_, _, rfl, rfl, ?_⟩⟩
        have hp := pow_step m0 m1 d0 d1
        exact ⟨m * 720720 + d, _, rfl, hp.1, hp.2, x2.trans x3, t3⟩
      · rintro σ H' ⟨m, kv, rfl, m0, m1, x2, t2⟩
        have e5 : (720720 : Int) ^ 5 < 2 ^ 100 := by decide
        exact ⟨_, rfl, q m H' m0 (by omega) x2 t2⟩
theorem scWord : FnScope ["tape", "longest", "letters", "size", "word", "drawn", "k"] ["tape", "longest"] (defScope sWord) := ⟨rfl, rfl, rfl, by decide +kernel, rfl, by decide +kernel, by decide +kernel⟩
theorem abc_at : ∀ j : Nat, j < 26 → ((Str.ofString "abcdefghijklmnopqrstuvwxyz").cps.toList)[j]? = some (97 + j) := by decide +kernel
theorem abc_len : (Str.ofString "abcdefghijklmnopqrstuvwxyz").length = 26 := by decide +kernel
theorem abc_mod (d : Int) : ∃ c, letter c ∧ atI (Str.ofString "abcdefghijklmnopqrstuvwxyz").cps.toList (d % 26) = some c := by
  have h0 : 0 ≤ d % 26 := Int.emod_nonneg _ (by decide)
  have h1 : d % 26 < 26 := Int.emod_lt_of_pos _ (by decide)
  obtain ⟨j, hj⟩ : ∃ j : Nat, d % 26 = (j : Int) := ⟨(d % 26).toNat, by omega⟩
  refine ⟨97 + j, ⟨by omega, by omega⟩, ?_⟩
  rw [hj]
  exact atI_nat (abc_at j (by omega))
theorem len_tl (x : Str) : x.length = x.cps.toList.length := by simp [Str.length]
theorem cat_tl (x y : Str) : (x ++ y).cps.toList = x.cps.toList ++ y.cps.toList := SX.S_inj (by rw [SX.S_tl, ← SX.S_cat, SX.S_tl, SX.S_tl])
theorem cat_len (x y : Str) : (x ++ y).length = x.length + y.length := by rw [len_tl, len_tl x, len_tl y, cat_tl, List.length_append]
theorem Az.cat {x y : Str} (a : Az x) (b : Az y) : Az (x ++ y) := fun c hc => by
  rw [cat_tl] at hc
  rcases List.mem_append.mp hc with h | h
  · exact a c h
  · exact b c h
theorem cut_tl (x : Str) {i : Int} (h : 0 ≤ i) : (Txt.slice x none (some i)).cps.toList = x.cps.toList.take i.toNat := by
  have e := SX.slice_to (a := x.cps.toList) h
  rw [SX.S_tl] at e
  rw [e]
theorem Az.cut {x : Str} (a : Az x) {i : Int} (h : 0 ≤ i) : Az (Txt.slice x none (some i)) := fun c hc => by
  rw [cut_tl x h] at hc
  exact a c (List.mem_of_mem_take hc)
theorem cut_len (x : Str) {i : Int} (h : 0 ≤ i) : (Txt.slice x none (some i)).length = min i.toNat x.length := by rw [len_tl, cut_tl x h, List.length_take, len_tl x]
theorem one_len (c : Nat) : (⟨#[c]⟩ : Str).length = 1 := rfl
theorem Az.one {c : Nat} (h : letter c) : Az ⟨#[c]⟩ := fun d hd => by
  have e : d = c := by simpa using hd
  rw [e]
  exact h
theorem line_big {n : Nat} (h : n ≤ 100000) : n ≤ sizeLine := Nat.le_trans h (by rw [sizeLine_eq]; decide)
theorem c_word (T : Bt mg) (D : Dfn K mg "_law_word" sWord ["tape", "longest"]) (c_law_take : Cal P w K mg base 1 "_law_take" spTake) : Cal P w K mg base 2 "_law_word" spWord := by
  refine D.cal scWord (fun vs H Q E h => ?_) (fun f cdv A outer s H vs Q E hr h => ?_)
  · obtain ⟨p, m, rfl, _⟩ := h
    rfl
  · obtain ⟨p, m, rfl, tp, m0, m1, q⟩ := h
    refine ⟨_, (pss_cons (ps_set (i := 2) scWord.nd rfl (Or.inl rfl) pe_str)
      (pss_cons (ps_set (i := 3) scWord.nd rfl (Or.inl rfl) (pe_op op_add pe_int (pe_c c_law_take hr (by decide) rfl (pa_cons (pv 0) (pa_cons (pv 1) pa_nil)))))
      (pss_cons (ps_set (i := 4) scWord.nd rfl (Or.inl rfl) pe_str)
      (pss_cons (ps_while PassesOwn.never (pt_cmpR op_lt (pe_callB call_len_str (by rfl) T.b_len PySem.boot_len (pa_cons (pv 4) pa_nil)) (pv 3) (nomark _))
      (pss_cons (ps_set (i := 5) scWord.nd rfl (Or.inl rfl) (pe_c c_law_take hr (by decide) rfl (pa_cons (pv 0) (pa_cons pe_int pa_nil))))
      (pss_one (ps_for PassesOwn.never rfl (pi_range1 (by rfl) T.b_range (pa_cons pe_int pa_nil)) (pg_name (i := 6) scWord.nd rfl (Or.inl rfl))
      (pss_cons (ps_set (i := 4) scWord.nd rfl (Or.inl rfl) (pe_op op_add_str (pv 4) (pe_ix ix_str (pv 2) (pe_op op_mod (pe_callTy call_int1 (by rfl) T.b_int (by decide +kernel) (pa_cons (pv 5) pa_nil)) pe_int) (fun _ _ => rfl))))
      (pss_one (ps_set (i := 5) scWord.nd rfl (Or.inl rfl) (pe_op op_fdiv (pv 5) pe_int))))))))
      (pss_one (ps_ret (pe_slice C8.sl_txt (pv 4) po_none (po_some (pv 3))))))))), ?_⟩
    refine ⟨_, rfl, _, rfl, p, m, rfl, tp, m0, fun z H1 z0 z1 x1 t1 => ⟨_, _, rfl, rfl, ?_⟩⟩
    refine ⟨fun n σ H' => ∃ (x : Str) (dv kv : Option V), σ = [some (.ref p), some (.int m), some (.str "abcdefghijklmnopqrstuvwxyz"), some (.int (1 + z)), some (.str x), dv, kv] ∧ n = 200 - x.length ∧ x.length ≤ 150 ∧ Az x ∧ Fx p H H' ∧ Tape H' p,
      ⟨_, Str.ofString "", none, none, rfl, rfl, by decide, (fun c hc => by cases hc), x1, t1⟩, ?_⟩
    rintro n σ H' ⟨x, dv, kv, rfl, rfl, xl, xa, x2, t2⟩
    refine ⟨_, rfl, x, rfl, line_big (by omega), _, rfl, _, _, rfl, rfl, _, rfl, ite2 (fun hlt => ?_) (fun hge => ?_)⟩
    · have hlt' := of_decide_eq_true hlt
      refine ⟨fun σ' H2 => ∃ (y : Str) (dv kv : Option V), σ' = [some (.ref p), some (.int m), some (.str "abcdefghijklmnopqrstuvwxyz"), some (.int (1 + z)), some (.str y), dv, kv] ∧ y.length = x.length + 4 ∧ Az y ∧ Fx p H H2 ∧ Tape H2 p,
        fun σ' H2 hN => ?_, ?_⟩
      · obtain ⟨y, dv, kv, rfl, yl, ya, x3, t3⟩ := hN
        exact ⟨200 - y.length, by omega, y, dv, kv, rfl, rfl, by omega, ya, x3, t3⟩
      · refine ⟨_, rfl, p, 720720, rfl, t2, p72, fun d H3 d0 d1 x3 t3 => ?_⟩
        refine ⟨4, rfl, by decide, by decide, for_range (lo := 0) (n := 4) (fun i σ' H2 => ∃ (y : Str) (d : Int) (kv : Option V), σ' = [some (.ref p), some (.int m), some (.str "abcdefghijklmnopqrstuvwxyz"), some (.int (1 + z)), some (.str y), some (.int d), kv] ∧ y.length = x.length + i ∧ Az y ∧ Fx p H H2 ∧ Tape H2 p)
          ⟨x, d, kv, rfl, rfl, xa, x2.trans x3, t3⟩ ?_ ?_⟩
        · rintro i σ' H2 hi ⟨y, d, kv, rfl, yl, ya, x4, t4⟩
          obtain ⟨c, hc, hat⟩ := abc_mod d
          refine ⟨_, rfl, _, rfl, _, rfl, .inl ⟨_, rfl, _, _, rfl, rfl, (by decide : (0 : Int) < 26), ?_⟩⟩
          refine ⟨_, _, c, rfl, rfl, by rw [abc_len]; exact line_big (by decide), hat, _, _, rfl, rfl, ?_, ?_⟩
          · rw [one_len]
            exact line_big (by omega)
          · refine ⟨_, rfl, _, _, rfl, rfl, ⟨by decide, by decide⟩, ?_⟩
            exact ⟨_, _, _, rfl, by rw [cat_len, yl, one_len]; omega, ya.cat (Az.one hc), x4, t4⟩
        · rintro σ' H2 ⟨y, d, kv, rfl, yl, ya, x4, t4⟩
          exact ⟨y, _, _, rfl, yl, ya, x4, t4⟩
    · have hge' : ¬ ((x.length : Int) < 1 + z) := fun c => hge (decide_eq_true c)
      refine ⟨_, rfl, _, rfl, _, rfl, x, rfl, line_big (by omega), ?_⟩
      have h1z : 0 ≤ 1 + z := by omega
      refine q _ H' ?_ ?_ (xa.cut h1z) x2 t2
      · rw [cut_len x h1z]
        omega
      · rw [cut_len x h1z]
        omega
end
end Lw
namespace Lw
open PySem PySem.Spec PyProof.Rows L2 GrT
/-! ### texts in a list, counted -/
theorem inV_str {a : Str} : ∀ {bs : List Str}, inV (.str a) (bs.map V.str) = true ↔ a ∈ bs
  | [] => by simp [inV]
  | b :: bs => by
    have ih := inV_str (a := a) (bs := bs)
    unfold inV at ih ⊢
    rw [List.map_cons, List.any_cons, Bool.or_eq_true, ih, List.mem_cons]
    have e : eqV (.str b) (.str a) = true ↔ a = b := by
      show (b == a) = true ↔ a = b
      rw [beq_iff_eq]
      exact eq_comm
    rw [e]
theorem flat_str (bs : List Str) : (bs.map V.str).all flatV = true := by
  rw [List.all_map, List.all_eq_true]
  intro x _
  rfl
theorem sub_len {α : Type} [DecidableEq α] : ∀ {l m : List α}, l.Nodup → (∀ x ∈ l, x ∈ m) → l.length ≤ m.length
  | [], m, _, _ => Nat.zero_le _
  | a :: l, m, nd, h => by
    have nd' := List.nodup_cons.mp nd
    have hm := h a List.mem_cons_self
    have ih := sub_len (l := l) (m := m.erase a) nd'.2 fun x hx => by
      have ne : x ≠ a := fun e => nd'.1 (e ▸ hx)
      exact (List.mem_erase_of_ne ne).mpr (h x (List.mem_cons_of_mem _ hx))
    rw [List.length_erase_of_mem hm] at ih
    have : 0 < m.length := List.length_pos_of_mem hm
    rw [List.length_cons]
    omega
theorem nodup_map {α β : Type} {f : α → β} : ∀ {l : List α}, l.Nodup → (∀ a ∈ l, ∀ b ∈ l, f a = f b → a = b) → (l.map f).Nodup
  | [], _, _ => List.nodup_nil
  | a :: l, nd, h => by
    have nd' := List.nodup_cons.mp nd
    rw [List.map_cons]
    refine List.nodup_cons.mpr ⟨fun hm => ?_, nodup_map nd'.2 fun x hx y hy => h x (List.mem_cons_of_mem _ hx) y (List.mem_cons_of_mem _ hy)⟩
    obtain ⟨b, hb, e⟩ := List.mem_map.mp hm
    have := h b (List.mem_cons_of_mem _ hb) a List.mem_cons_self e
    exact nd'.1 (this ▸ hb)
/-- a text and one of the twenty-six signs behind it -/
def cand (u : Str) (j : Nat) : Str := u ++ ⟨#[97 + j]⟩
theorem cand_inj {u : Str} {i j : Nat} (h : cand u i = cand u j) : i = j := by
  have e := congrArg (fun x : Str => x.cps.toList) h
  simp only [cand, cat_tl] at e
  have e2 := List.append_cancel_left e
  simp at e2
  exact e2
theorem some_free (u : Str) (bs : List Str) (h : bs.length < 26) : ∃ j, j < 26 ∧ cand u j ∉ bs := by
  by_cases q : ∃ j, j < 26 ∧ cand u j ∉ bs
  · exact q
  · have all : ∀ x ∈ (List.range 26).map (cand u), x ∈ bs := fun x hx => by
      obtain ⟨j, hj, rfl⟩ := List.mem_map.mp hx
      by_cases m : cand u j ∈ bs
      · exact m
      · exact absurd ⟨j, List.mem_range.mp hj, m⟩ q
    have nd : ((List.range 26).map (cand u)).Nodup := nodup_map List.nodup_range fun a _ b _ e => cand_inj e
    have := sub_len nd all
    rw [List.length_map, List.length_range] at this
    omega
/-! ### rules where the written part is named (within a comprehension's block) -/
theorem op_notInK {X : Cx} {K : PySem.W.Frag} (h : X.K = K) : OpR X (compareOp .NotIn) (rIn K true) := h ▸ op_notIn_seq
theorem op_inK {X : Cx} {K : PySem.W.Frag} (h : X.K = K) : OpR X (compareOp .In) (rIn K false) := h ▸ op_in_seq
theorem ix_listK {X : Cx} {K : PySem.W.Frag} (h : X.K = K) : IxR X (rIxL K) := h ▸ ix_list
/-! ### tests of which nothing is told -/
def tU (R : L2.St → Hp → Prop) : TT := fun σ H Q => R σ H ∧ Q true H ∧ Q false H
def quiet (t : TT) : L2.St → Hp → Prop := fun σ H => t σ H fun _ H1 => H1 = H
theorem pt_U {X : Cx} {e : Expr} {t : TT} (h : PT X e t) : PT X e (tU (quiet t)) := ⟨fun pins s σ H Q I q => thn (h.run pins s σ H _ I q.1) fun b s1 hb => by
  obtain ⟨H1, I1, rfl⟩ := hb
  cases b
  · exact ⟨_, I1, q.2.2⟩
  · exact ⟨_, I1, q.2.1⟩⟩
theorem pw_orU1 {X : Cx} {a : Expr} {t : TT} {pos : Pos} (h : PT X a t) : PW X (.BoolOp .Or [a] pos) (tU (quiet t)) := pw_or1 (pt_U h)
theorem pw_orU {X : Cx} {a b : Expr} {rest : List Expr} {t : TT} {R : L2.St → Hp → Prop} {pos : Pos} (ha : PT X a t) (hb : PW X (.BoolOp .Or (b :: rest) pos) (tU R)) : PW X (.BoolOp .Or (a :: b :: rest) pos) (tU fun σ H => quiet t σ H ∧ R σ H) := by
  have z := pw_or (pt_U ha) hb
  refine ⟨fun wh pins s σ H Q I q => z.run wh pins s σ H Q I ?_⟩
  obtain ⟨⟨q1, q2⟩, q3, q4⟩ := q
  exact ⟨q1, iteT q3, iteF ⟨q2, q3, q4⟩⟩
theorem un_ne {H : Hp} {a b : Addr} {o : HO} (h : upd H a o b = none) : b ≠ a := fun e => by
  rw [e, upd_same] at h
  cases h
theorem un {H : Hp} {a b : Addr} {o : HO} (h : upd H a o b = none) : H b = none := by
  exact (upd_ne (o := o) (un_ne h)).symm.trans h
theorem Tape.ne'' {H : Hp} {p a : Addr} (t : Tape H p) (h : H a = none) : a ≠ p := fun e => by
  obtain ⟨ns, q, _⟩ := t
  rw [e, q] at h
  cases h
theorem Tape.ne' {H H' : Hp} {p a : Addr} (_ : Tape H' p) (h : H a = none) (t : Tape H p) : a ≠ p := t.ne'' h
/-- a drawn name -/
structure Nm (x : Str) : Prop where
  one : 1 ≤ x.length
  eight : x.length ≤ 8
  az : Az x
def spWords : Sp := fun vs H Q _ => ∃ (p tk : Addr) (m : Int) (ts : List Str), vs = [.ref p, .int m, .ref tk] ∧ Tape H p ∧ H tk = some (.lst (ts.map V.str)) ∧ tk ≠ p ∧ 0 ≤ m ∧ m + ts.length ≤ 20 ∧
  ∀ (W : Addr) (ws : List Str) H', H W = none → H' W = some (.lst (ws.map V.str)) → (ws.length : Int) = m → (∀ x ∈ ws, Nm x) → Fx p H H' → Tape H' p → Q (.ref W) H'
section
variable {P : Program} {w : World} {K : PySem.W.Frag} {mg : Str → Option Value} {base : Heap}
theorem scWords : FnScope ["tape", "many", "taken", "reserved", "words", "k", "word", "barred", "ends", "letter"] ["tape", "many", "taken"] (defScope sWords) := ⟨rfl, rfl, rfl, by decide +kernel, rfl, by decide +kernel, by decide +kernel⟩
theorem q_one : (Str.ofString "q").cps.toList = [113] := by decide +kernel
theorem q_len : (Str.ofString "q").length = 1 := by decide +kernel
theorem q_az : Az (Str.ofString "q") := fun c hc => by
  rw [q_one] at hc
  have e : c = 113 := by simpa using hc
  rw [e]
  exact ⟨by decide, by decide⟩
theorem words_cut {σ : L2.St} {i : Nat} : True := trivial
theorem c_words (T : Bt mg) (D : Dfn K mg "_law_words" sWords ["tape", "many", "taken"]) (c_law_word : Cal P w K mg base 2 "_law_word" spWord) : Cal P w K mg base 3 "_law_words" spWords := by
  refine D.cal scWords (fun vs H Q E h => ?_) (fun f cdv A outer s H vs Q E hr h => ?_)
  · obtain ⟨p, tk, m, ts, rfl, _⟩ := h
    rfl
  · obtain ⟨p, tk, m, ts, rfl, tp, htk, tkp, m0, m1, q⟩ := h
    refine ⟨_, (pss_cons (ps_set (i := 3) scWords.nd rfl (Or.inl rfl) (pe_lst (pa_cons pe_str (pa_cons pe_str (pa_cons pe_str (pa_cons pe_str (pa_cons pe_str (pa_cons pe_str (pa_cons pe_str (pa_cons pe_str (pa_cons pe_str (pa_cons pe_str (pa_cons pe_str (pa_cons pe_str (pa_cons pe_str (pa_cons pe_str pa_nil))))))))))))))))
      (pss_cons (ps_set (i := 3) scWords.nd rfl (Or.inl rfl) (pe_op op_cat (pv 3) (pe_lst (pa_cons pe_str (pa_cons pe_str (pa_cons pe_str (pa_cons pe_str pa_nil)))))))
      (pss_cons (ps_set (i := 4) scWords.nd rfl (Or.inl rfl) (pe_lst pa_nil))
      (pss_cons (ps_for PassesOwn.never rfl (pi_range1 (by rfl) T.b_range (pa_cons (pv 1) pa_nil)) (pg_name (i := 5) scWords.nd rfl (Or.inl rfl))
      (pss_cons (ps_set (i := 6) scWords.nd rfl (Or.inr rfl) (pe_c c_law_word hr (by decide) rfl (pa_cons (pv 0) (pa_cons pe_int pa_nil))))
      (C8.pss_cut (ps_if (PW.pt (pw_orU (pt_cmpR op_in_seq (pv 6) (pv 3) (by rfl)) (pw_orU (pt_cmpR op_in_seq (pv 6) (pv 4) (by rfl)) (pw_orU1 (pt_cmpR op_in_seq (pv 6) (pv 2) (by rfl))))))
      (pss_cons (ps_set (i := 7) scWords.nd rfl (Or.inr rfl) (pe_op op_cat (pv 4) (pv 2)))
      (pss_cons (ps_setLc (i := 8) (own := [("letter", 9)]) (g := gName 9) rfl scWords.nd rfl rfl (sw_true rfl rfl rfl (by decide +kernel)) (pi_str pe_str) (blkOk_by (own := [("letter", 9)]) (N := ["tape", "many", "taken", "reserved", "words", "k", "word", "barred", "ends", "letter"]) (sc := defScope sWords) (by decide +kernel)) (fun _ _ _ _ _ => pg_name (i := 9) scWords.nd rfl (Or.inl rfl)) (fun _ _ _ _ _ => (by exact (pts_one (pt_cmpR (op_notInK (K := K) rfl) (pe_op op_add_str (pe_op op_add_str (pe_slice C8.sl_txt (pv 6) po_none (po_some pe_int)) pe_str) (pv 9)) (pv 7) (by rfl))))) (fun _ _ _ _ _ => (pv 9)))
      (pss_one (ps_set (i := 6) scWords.nd rfl (Or.inr rfl) (pe_op op_add_str (pe_op op_add_str (pe_slice C8.sl_txt (pv 6) po_none (po_some pe_int)) pe_str) (pe_ix ix_list (pv 8) pe_int (fun _ _ => rfl)))))))
      pss_nil)
      (pss_one (ps_expr (pe_bm PySem.F.plainAttrs_list PySem.F.slot_list_append PySem.F.type_list_append mt_append (pv 4) (pa_cons (pv 6) pa_nil)))))))
      (pss_one (ps_ret (pv 4))))))), ?_⟩
    refine ⟨by rw [sizeLine_eq]; decide, fun r1 hr1 => ?_⟩
    refine ⟨_, rfl, by rw [sizeLine_eq]; decide, fun r2 hr2 => ?_⟩
    have r12 : r1 ≠ r2 := ne_of_none upd_same hr2
    refine ⟨r1, r2, _, _, rfl, rfl, by rw [upd_ne r12]; exact upd_same, upd_same, by rw [sizeLine_eq]; decide, fun R hR => ?_⟩
    refine ⟨Nat.zero_le _, fun W hW => ?_⟩
    have hR0 := un (un hR)
    have hW0 := un (un (un hW))
    have eR : (upd (upd (upd (upd H r1 (.lst [V.str "add", V.str "and", V.str "cut", V.str "def", V.str "drop", V.str "else", V.str "has", V.str "if", V.str "in", V.str "is", V.str "let", V.str "not", V.str "only", V.str "put"])) r2 (.lst [V.str "record", V.str "rename", V.str "then", V.str "to"])) R
      (.lst ([V.str "add", V.str "and", V.str "cut", V.str "def", V.str "drop", V.str "else", V.str "has", V.str "if", V.str "in", V.str "is", V.str "let", V.str "not", V.str "only", V.str "put"] ++ [V.str "record", V.str "rename", V.str "then", V.str "to"]))) W (.lst [])) R = some (.lst ([V.str "add", V.str "and", V.str "cut", V.str "def", V.str "drop", V.str "else", V.str "has", V.str "if", V.str "in", V.str "is", V.str "let", V.str "not", V.str "only", V.str "put"] ++ [V.str "record", V.str "rename", V.str "then", V.str "to"])) := by
      rw [upd_ne (un_ne hW).symm]
      exact upd_same
    generalize hrs : ([V.str "add", V.str "and", V.str "cut", V.str "def", V.str "drop", V.str "else", V.str "has", V.str "if", V.str "in", V.str "is", V.str "let", V.str "not", V.str "only", V.str "put"] ++ [V.str "record", V.str "rename", V.str "then", V.str "to"] : List V) = rs at eR hR hW ⊢
    have hfl : rs.all flatV = true := by
      rw [← hrs]
      rfl
    have x0 := (((((Fx.refl (T := p) (H := H)).new (o := .lst [V.str "add", V.str "and", V.str "cut", V.str "def", V.str "drop", V.str "else", V.str "has", V.str "if", V.str "in", V.str "is", V.str "let", V.str "not", V.str "only", V.str "put"]) hr1).new (o := .lst [V.str "record", V.str "rename", V.str "then", V.str "to"]) hr2).new (o := .lst rs) hR).new (o := .lst []) hW)
    have t0 := ((((tp.new (o := .lst [V.str "add", V.str "and", V.str "cut", V.str "def", V.str "drop", V.str "else", V.str "has", V.str "if", V.str "in", V.str "is", V.str "let", V.str "not", V.str "only", V.str "put"]) hr1).new (o := .lst [V.str "record", V.str "rename", V.str "then", V.str "to"]) hr2).new (o := .lst rs) hR).new (o := .lst []) hW)
    generalize hH0 : upd (upd (upd (upd H r1 (.lst [V.str "add", V.str "and", V.str "cut", V.str "def", V.str "drop", V.str "else", V.str "has", V.str "if", V.str "in", V.str "is", V.str "let", V.str "not", V.str "only", V.str "put"])) r2 (.lst [V.str "record", V.str "rename", V.str "then", V.str "to"])) R (.lst rs)) W (.lst []) = H0 at eR x0 t0 ⊢
    have eW : H0 W = some (.lst []) := by
      rw [← hH0]
      exact upd_same
    have RW : R ≠ W := (un_ne hW).symm
    have Rp : R ≠ p := t0.ne' hR0 tp
    have Wp : W ≠ p := t0.ne' hW0 tp
    have kW : tk ≠ W := ne_of_none htk hW0
    refine ⟨_, rfl, m, rfl, by omega, by omega, for_range (lo := 0) (n := m.toNat) (fun i σ H' => ∃ (kv wv bv ev lv : Option V) (ws : List Str), σ = [some (.ref p), some (.int m), some (.ref tk), some (.ref R), some (.ref W), kv, wv, bv, ev, lv] ∧
      H' R = some (.lst rs) ∧ H' W = some (.lst (ws.map V.str)) ∧ H' tk = some (.lst (ts.map V.str)) ∧ ws.length = i ∧ (∀ x ∈ ws, Nm x) ∧ Fx p H H' ∧ Tape H' p)
      ⟨none, none, none, none, none, [], rfl, eR, eW, x0 _ _ tkp htk, rfl, (fun x hx => by cases hx), x0, t0⟩ ?_ ?_⟩
    · rintro i σ H' hi ⟨kv, wv, bv, ev, lv, ws, rfl, aR, aW, ak, wl, wn, x1, t1⟩
      refine ⟨_, rfl, p, 8, rfl, t1, by decide, by decide, fun x H3 xl1 xl8 xa y3 t3 => ?_⟩
      have bR := y3 _ _ Rp aR
      have bW := y3 _ _ Wp aW
      have bk := y3 _ _ tkp ak
      refine ⟨fun σ' H2 => ∃ (kv bv ev lv : Option V) (y : Str), σ' = [some (.ref p), some (.int m), some (.ref tk), some (.ref R), some (.ref W), kv, some (.str y), bv, ev, lv] ∧ Nm y ∧
        H2 R = some (.lst rs) ∧ H2 W = some (.lst (ws.map V.str)) ∧ H2 tk = some (.lst (ts.map V.str)) ∧ Fx p H H2 ∧ Tape H2 p, ⟨⟨⟨_, rfl, _, rfl, R, rs, rfl, .inl (SqL.of bR), rfl, hfl, _, rfl, rfl⟩, ⟨_, rfl, _, rfl, W, _, rfl, .inl (SqL.of bW), rfl, flat_str _, _, rfl, rfl⟩, ⟨_, rfl, _, rfl, tk, _, rfl, .inl (SqL.of bk), rfl, flat_str _, _, rfl, rfl⟩⟩, iteT ?_, iteF ?_⟩, ?_⟩
      · -- a name that is taken: another end
        refine ⟨_, rfl, _, rfl, W, tk, _, _, rfl, rfl, bW, bk, line_big (by rw [List.length_map, List.length_map]; omega), fun B hB => ?_⟩
        have Bp : B ≠ p := t3.ne'' hB
        have x3 : Fx p H (upd H3 B (.lst (ws.map V.str ++ ts.map V.str))) := (x1.trans y3).new hB
        have t4 : Tape (upd H3 B (.lst (ws.map V.str ++ ts.map V.str))) p := t3.new hB
        have eB : ws.map V.str ++ ts.map V.str = (ws ++ ts).map V.str := by rw [List.map_append]
        rw [eB] at x3 t4 ⊢
        have cR : upd H3 B (.lst ((ws ++ ts).map V.str)) R = some (.lst rs) := by rw [upd_ne (ne_of_none bR hB)]; exact bR
        have cW : upd H3 B (.lst ((ws ++ ts).map V.str)) W = some (.lst (ws.map V.str)) := by rw [upd_ne (ne_of_none bW hB)]; exact bW
        have ck : upd H3 B (.lst ((ws ++ ts).map V.str)) tk = some (.lst (ts.map V.str)) := by rw [upd_ne (ne_of_none bk hB)]; exact bk
        generalize hH4 : upd H3 B (.lst ((ws ++ ts).map V.str)) = H4 at x3 t4 cR cW ck ⊢
        have cB : H4 B = some (.lst ((ws ++ ts).map V.str)) := by
          rw [← hH4]
          exact upd_same
        -- the signs that give a free name
        have ul : (Txt.slice x none (some 6) ++ Str.ofString "q").length ≤ 7 := by
          rw [cat_len, cut_len x (by decide), q_len]
          omega
        have ua : Az (Txt.slice x none (some 6) ++ Str.ofString "q") := (xa.cut (by decide)).cat q_az
        obtain ⟨j0, hj0, free⟩ := some_free (Txt.slice x none (some 6) ++ Str.ofString "q") (ws ++ ts) (by rw [List.length_append]; omega)
        refine ⟨_, rfl, fun Z hZ => lc_it walk_str (fun i H5 => ∃ es : List Nat, H5 Z = some (.lst (es.map fun c => V.str ⟨#[c]⟩)) ∧ es.length ≤ i ∧ (∀ c ∈ es, letter c) ∧ (j0 < i → es ≠ []) ∧ (∀ b o, b ≠ Z → H4 b = some o → H5 b = some o))
          ⟨[], upd_same, Nat.le_refl _, (fun c hc => by cases hc), (fun h => absurd h (Nat.not_lt_zero _)), fun b o hb e => by rw [upd_ne hb]; exact e⟩ (fun _ _ _ _ => True.intro) ?_ ?_⟩
        · rintro i5 y5 H5 H6 hi5 ⟨es, e1, e2, e3, e4, e5⟩ ⟨rfl, c, hc, rfl⟩
          have cc : c = 97 + i5 := by
            have h26 : i5 < 26 := by
              have := (Array.getElem?_eq_some_iff.mp hc).1
              have q := abc_len
              unfold Str.length at q
              omega
            have z := abc_at i5 h26
            rw [Array.getElem?_toList, hc] at z
            exact Option.some.inj z
          subst cc
          have h26 : i5 < 26 := by
            have := (Array.getElem?_eq_some_iff.mp hc).1
            have q := abc_len
            unfold Str.length at q
            omega
          have BZ : B ≠ Z := ne_of_none cB hZ
          refine ⟨rfl, _, rfl, _, rfl, x, rfl, line_big (by omega), _, _, rfl, rfl, line_big (by rw [cut_len x (by decide), q_len]; omega), _, rfl, _, _, rfl, rfl, line_big (by rw [one_len]; omega), _, rfl, B, _, rfl, .inl (SqL.of (e5 _ _ BZ cB)), rfl, flat_str _, _, rfl, ?_⟩
          refine ite2 (fun _ => ?_) (fun hno => ?_)
          · refine ⟨_, rfl, _, e1, line_big (by rw [List.length_map]; omega), es ++ [97 + i5], by rw [upd_same, List.map_append]; rfl, by rw [List.length_append]; simpa using e2, fun c h => ?_, fun _ h => ?_, fun b o nb e => by rw [upd_ne nb]; exact e5 b o nb e⟩
            · rcases List.mem_append.mp h with h | h
              · exact e3 c h
              · rw [List.mem_singleton.mp h]
                exact ⟨by omega, by omega⟩
            · simp at h
          · refine ⟨es, e1, by omega, e3, fun h => ?_, e5⟩
            by_cases hj : j0 < i5
            · exact e4 hj
            · have ej : j0 = i5 := by omega
              refine absurd ?_ hno
              show (!inV (V.str (cand (Txt.slice x none (some 6) ++ Str.ofString "q") i5)) ((ws ++ ts).map V.str)) = true
              rw [← ej, Bool.not_eq_true', ← Bool.not_eq_true]
              exact fun z => free (inV_str.mp z)
        · rintro H5 ⟨es, e1, e2, e3, e4, e5⟩
          have ne : es ≠ [] := e4 (by
            have q := abc_len
            unfold Str.length at q
            omega)
          obtain ⟨c, es, rfl⟩ : ∃ c es', es = c :: es' := by
            cases es with
            | nil => exact absurd rfl ne
            | cons c es => exact ⟨c, es, rfl⟩
          have hc := e3 c List.mem_cons_self
          refine ⟨_, rfl, _, rfl, x, rfl, line_big (by omega), _, _, rfl, rfl, line_big (by rw [cut_len x (by decide), q_len]; omega), _, rfl, Z, _, _, _, rfl, rfl, SqL.of e1, atI_nat (j := 0) rfl, _, _, rfl, rfl, line_big (by rw [one_len]; omega), ?_⟩
          have BZ : B ≠ Z := ne_of_none cB hZ
          refine ⟨_, _, _, _, (Txt.slice x none (some 6) ++ Str.ofString "q") ++ ⟨#[c]⟩, rfl, ⟨?_, ?_, ua.cat (Az.one hc)⟩, e5 _ _ (ne_of_none cR hZ) cR, e5 _ _ (ne_of_none cW hZ) cW, e5 _ _ (ne_of_none ck hZ) ck, ?_, ?_⟩
          · rw [cat_len, one_len]
            omega
          · rw [cat_len, one_len]
            omega
          · exact fun b o nb e => e5 b o (ne_of_none (x3 b o nb e) hZ) (x3 b o nb e)
          · obtain ⟨ns, tl, tz⟩ := t4
            exact ⟨ns, e5 p _ (ne_of_none tl hZ) tl, tz⟩
      · exact ⟨_, _, _, _, x, rfl, ⟨xl1, by omega, xa⟩, bR, bW, bk, x1.trans y3, t3⟩
      · rintro σ' H2 ⟨kv, bv, ev, lv, y, rfl, yn, cR, cW, ck, x4, t4⟩
        refine ⟨_, rfl, .inl ⟨rfl, _, .inl (.inl cW)⟩, _, rfl, W, _, _, rfl, rfl, cW, small1000 (by rw [List.length_map]; omega), ?_⟩
        refine ⟨_, _, _, _, _, ws ++ [y], rfl, ?_, ?_, ?_, by rw [List.length_append, wl]; rfl, fun z hz => ?_, fun b o nb e => ?_, t4.put Wp⟩
        · rw [upd_ne RW]
          exact cR
        · rw [upd_same, List.map_append]
          rfl
        · rw [upd_ne kW]
          exact ck
        · rcases List.mem_append.mp hz with h | h
          · exact wn z h
          · rw [List.mem_singleton.mp h]
            exact yn
        · rw [upd_ne (ne_of_none e hW0)]
          exact x4 b o nb e
    · rintro σ H' ⟨kv, wv, bv, ev, lv, ws, rfl, aR, aW, ak, wl, wn, x1, t1⟩
      exact ⟨_, rfl, q W ws H' hW0 aW (by omega) wn x1 t1⟩
end
end Lw
namespace Lw
open PySem PySem.Spec PyProof.Rows L2 GrT
abbrev sLong : Stmt := top 20
abbrev sPool : Stmt := top 21
abbrev sFields : Stmt := top 22
abbrev sCount : Stmt := top 24
abbrev sSorted : Stmt := top 25
abbrev sIsInt : Stmt := top 26
abbrev sLaw : Stmt := top 29
/-! ### a text some times over -/
theorem op_mul_str {X : Cx} : OpR X (binaryOp .Mult) (fun x y H Q => ∃ i n, x = .str i ∧ y = .int n ∧ MulOk i n ∧ Q (.str (PySem.Txt.mul i n)) H) := by
  intro pins s σ H x y v u Q I rx ry h
  obtain ⟨i, n, rfl, rfl, hz, q⟩ := h
  obtain ⟨t, rfl⟩ := rx
  obtain ⟨t', rfl⟩ := ry
  exact PySem.SB.mul hz (fun t' tk => ⟨.str (PySem.Txt.mul i n), H, I.tok _, ⟨_, rfl⟩, q⟩)
theorem fold_tl (a : Array Nat) : ∀ (k : Nat) (acc : Array Nat), ((List.replicate k a).foldl (· ++ ·) acc).toList = acc.toList ++ (List.replicate k a.toList).flatten
  | 0, acc => by simp
  | k + 1, acc => by
    rw [List.replicate_succ, List.foldl_cons, fold_tl a k, List.replicate_succ, List.flatten_cons, Array.toList_append, List.append_assoc]
theorem mul_tl {x : Str} {n : Int} (h1 : 1 < n) (hx : 1 ≤ x.length) : (PySem.Txt.mul x n).cps.toList = (List.replicate n.toNat x.cps.toList).flatten := by
  unfold PySem.Txt.mul
  rw [if_neg (by omega)]
  have e : ¬ ((n == 1 || x.length == 0) = true) := by
    intro h
    rcases Bool.or_eq_true _ _ ▸ h with h | h
    · have := eq_of_beq h
      omega
    · have := eq_of_beq h
      omega
  rw [if_neg e, fold_tl]
  simp
theorem mul_len {x : Str} {n : Int} (h1 : 1 < n) (hx : 1 ≤ x.length) : (PySem.Txt.mul x n).length = n.toNat * x.length := by
  rw [len_tl, mul_tl h1 hx, List.length_flatten, List.map_replicate, List.sum_replicate_nat, len_tl x]
theorem Az.mul {x : Str} {n : Int} (a : Az x) (h1 : 1 < n) (hx : 1 ≤ x.length) : Az (PySem.Txt.mul x n) := fun c hc => by
  rw [mul_tl h1 hx] at hc
  obtain ⟨l, hl, hcl⟩ := List.mem_flatten.mp hc
  rw [List.eq_of_mem_replicate hl] at hcl
  exact a c hcl
theorem Nm.good {x : Str} (h : Nm x) : Good x := ⟨h.one, Nat.le_trans h.eight (by decide), h.az⟩
def spLong : Sp := fun vs H Q _ => ∃ (p : Addr) (x : Str), vs = [.ref p, .str x] ∧ Tape H p ∧ Nm x ∧ ∀ (y : Str) H', Good y → Fx p H H' → Tape H' p → Q (.str y) H'
def spPool : Sp := fun vs H Q _ => ∃ (p : Addr) (m : Int), vs = [.ref p, .int m] ∧ Tape H p ∧ 0 ≤ m ∧ m ≤ 20 ∧
  ∀ (W : Addr) (ws : List Str) H', H W = none → H' W = some (.lst (ws.map V.str)) → (ws.length : Int) = m → (∀ x ∈ ws, Good x) → Fx p H H' → Tape H' p → Q (.ref W) H'
section
variable {P : Program} {w : World} {K : PySem.W.Frag} {mg : Str → Option Value} {base : Heap}
theorem scLong : FnScope ["tape", "word"] ["tape", "word"] (defScope sLong) := ⟨rfl, rfl, rfl, by decide +kernel, rfl, by decide +kernel, by decide +kernel⟩
theorem mulOk30 {x : Str} (h : x.length ≤ 8) : MulOk x 30 := by
  refine ⟨by decide, fun _ _ => ?_, fun _ _ => ?_⟩
  · have : ((2 : Int) ^ 63 - 1) / 30 = 307445734561825860 := by decide
    omega
  · have e : (30 : Int).toNat = 30 := rfl
    rw [e]
    unfold Builtin.Str.tooLong
    have := line_big (n := x.length * 30) (by omega)
    exact decide_eq_false (by omega)
theorem c_long (T : Bt mg) (D : Dfn K mg "_law_long" sLong ["tape", "word"]) (c_law_take : Cal P w K mg base 1 "_law_take" spTake) : Cal P w K mg base 2 "_law_long" spLong := by
  refine D.cal scLong (fun vs H Q E h => ?_) (fun f cdv A outer s H vs Q E hr h => ?_)
  · obtain ⟨p, x, rfl, _⟩ := h
    rfl
  · obtain ⟨p, x, rfl, tp, nx, q⟩ := h
    refine ⟨_, (pss_cons (ps_if (pt_cmpR op_eq (pe_c c_law_take hr (by decide) rfl (pa_cons (pv 0) (pa_cons pe_int pa_nil))) pe_int (nomark _))
      (pss_one (ps_ret (pe_slice C8.sl_txt (pe_op op_mul_str (pv 1) pe_int) po_none (po_some (pe_op op_add pe_int (pe_c c_law_take hr (by decide) rfl (pa_cons (pv 0) (pa_cons pe_int pa_nil))))))))
      pss_nil)
      (pss_one (ps_ret (pv 1)))), ?_⟩
    refine ⟨_, rfl, p, 4, rfl, tp, by decide, fun i H1 i0 i1 x1 t1 => ⟨rfl, _, rfl, ite2 (fun _ => ?_) (fun _ => ?_)⟩⟩
    · have ml := mul_len (x := x) (n := 30) (by decide) nx.one
      have h30 : (30 : Int).toNat = 30 := rfl
      rw [h30] at ml
      have hx1 := nx.one
      have hx2 := nx.eight
      refine ⟨_, rfl, _, _, rfl, rfl, mulOk30 nx.eight, _, rfl, p, 22, rfl, t1, by decide, fun j H2 j0 j1 x2 t2 => ⟨_, _, rfl, rfl, _, rfl, _, rfl, line_big (by omega), ?_⟩⟩
      have h9 : 0 ≤ 9 + j := by omega
      refine q _ H2 ⟨?_, ?_, (nx.az.mul (by decide) nx.one).cut h9⟩ (x1.trans x2) t2
      · rw [cut_len _ h9, ml]
        omega
      · rw [cut_len _ h9, ml]
        omega
    · exact ⟨_, rfl, q _ H1 nx.good x1 t1⟩
theorem scPool : FnScope ["tape", "many", "pool", "word", "long"] ["tape", "many"] (defScope sPool) := ⟨rfl, rfl, rfl, by decide +kernel, rfl, by decide +kernel, by decide +kernel⟩
theorem c_pool (T : Bt mg) (D : Dfn K mg "_law_pool" sPool ["tape", "many"]) (c_law_words : Cal P w K mg base 3 "_law_words" spWords) (c_law_long : Cal P w K mg base 2 "_law_long" spLong) : Cal P w K mg base 4 "_law_pool" spPool := by
  refine D.cal scPool (fun vs H Q E h => ?_) (fun f cdv A outer s H vs Q E hr h => ?_)
  · obtain ⟨p, m, rfl, _⟩ := h
    rfl
  · obtain ⟨p, m, rfl, tp, m0, m1, q⟩ := h
    refine ⟨_, (pss_cons (ps_set (i := 2) scPool.nd rfl (Or.inl rfl) (pe_lst pa_nil))
      (pss_cons (ps_for PassesOwn.never rfl (pi_list (pe_c c_law_words hr (by decide) rfl (pa_cons (pv 0) (pa_cons (pv 1) (pa_cons (pe_lst pa_nil) pa_nil))))) (pg_name (i := 3) scPool.nd rfl (Or.inl rfl))
      (pss_cons (ps_set (i := 4) scPool.nd rfl (Or.inl rfl) (pe_c c_law_long hr (by decide) rfl (pa_cons (pv 0) (pa_cons (pv 3) pa_nil))))
      (C8.pss_cut (ps_if (pt_U (pt_cmpR op_in_seq (pv 4) (pv 2) (by rfl)))
      (pss_one (ps_set (i := 4) scPool.nd rfl (Or.inl rfl) (pv 3)))
      pss_nil)
      (pss_one (ps_expr (pe_bm PySem.F.plainAttrs_list PySem.F.slot_list_append PySem.F.type_list_append mt_append (pv 2) (pa_cons (pv 4) pa_nil)))))))
      (pss_one (ps_ret (pv 2))))), ?_⟩
    refine ⟨Nat.zero_le _, fun R hR => ?_⟩
    refine ⟨_, rfl, _, rfl, Nat.zero_le _, fun k hk => ?_⟩
    have hk0 := un hk
    have t0 := (tp.new (o := .lst []) hR).new (o := .lst []) hk
    have x0 := ((Fx.refl (T := p) (H := H)).new (o := .lst []) hR).new (o := .lst []) hk
    have eR : (upd (upd H R (.lst [])) k (.lst [])) R = some (.lst []) := by
      rw [upd_ne (un_ne hk).symm]
      exact upd_same
    have ek : (upd (upd H R (.lst [])) k (.lst [])) k = some (.lst (([] : List Str).map V.str)) := upd_same
    generalize upd (upd H R (.lst [])) k (.lst []) = H0 at t0 x0 eR ek ⊢
    have Rp : R ≠ p := tp.ne'' hR
    have kp : k ≠ p := tp.ne'' hk0
    refine ⟨p, k, m, [], rfl, t0, ek, kp, m0, by simpa using m1, fun W ws H1 hW eW wl wn x1 t1 => ?_⟩
    have RW : R ≠ W := ne_of_none eR hW
    have Wp : W ≠ p := t0.ne'' hW
    refine ⟨W, rfl, ⟨_, SqL.of eW⟩, for_list (xs := ws.map V.str) (fun i σ H' => ∃ (wv lv : Option V) (ps : List Str), σ = [some (.ref p), some (.int m), some (.ref R), wv, lv] ∧
      H' R = some (.lst (ps.map V.str)) ∧ H' W = some (.lst (ws.map V.str)) ∧ ps.length = i ∧ (∀ x ∈ ps, Good x) ∧ Fx p H H' ∧ Tape H' p)
      ⟨none, none, [], rfl, x1 _ _ Rp eR, eW, rfl, (fun x hx => by cases hx), x0.trans x1, t1⟩ ?_ ?_ ?_⟩
    · rintro i σ H' _ ⟨wv, lv, ps, rfl, _, aW, _⟩
      exact SqL.of aW
    · rintro i x σ H' hx ⟨wv, lv, ps, rfl, aR, aW, pl, pn, x2, t2⟩
      have hi : i < ws.length := by
        have := (List.getElem?_eq_some_iff.mp hx).1
        rwa [List.length_map] at this
      obtain ⟨z, hz, rfl⟩ : ∃ z, z ∈ ws ∧ x = V.str z := by
        obtain ⟨z, hz, e⟩ := List.mem_map.mp (List.mem_of_getElem? hx)
        exact ⟨z, hz, e.symm⟩
      have nz := wn z hz
      refine ⟨_, rfl, _, rfl, p, z, rfl, t2, nz, fun y H2 gy x3 t3 => ?_⟩
      have bR := x3 _ _ Rp aR
      have bW := x3 _ _ Wp aW
      refine ⟨fun σ' H3 => ∃ (y : Str), σ' = [some (.ref p), some (.int m), some (.ref R), some (.str z), some (.str y)] ∧ H3 = H2 ∧ Good y, ⟨⟨_, rfl, _, rfl, R, _, rfl, .inl (SqL.of bR), rfl, flat_str _, _, rfl, rfl⟩, iteT ?_, iteF ?_⟩, ?_⟩
      · exact ⟨_, rfl, z, rfl, rfl, nz.good⟩
      · exact ⟨y, rfl, rfl, gy⟩
      · rintro σ' H3 ⟨y, rfl, rfl, gy⟩
        refine ⟨_, rfl, .inl ⟨rfl, _, .inl (.inl bR)⟩, _, rfl, R, _, _, rfl, rfl, bR, small1000 (by rw [List.length_map]; omega), ?_⟩
        refine ⟨_, _, ps ++ [y], rfl, by rw [upd_same, List.map_append]; rfl, by rw [upd_ne RW.symm]; exact bW, by rw [List.length_append, pl]; rfl, fun v hv => ?_, ?_, t3.put Rp⟩
        · rcases List.mem_append.mp hv with h | h
          · exact pn v h
          · rw [List.mem_singleton.mp h]
            exact gy
        · intro b o nb e
          rw [upd_ne (ne_of_none e hR)]
          exact (x2.trans x3) b o nb e
    · rintro σ H' ⟨wv, lv, ps, rfl, aR, aW, pl, pn, x2, t2⟩
      rw [List.length_map] at pl
      exact ⟨_, rfl, q R ps H' hR aR (by omega) pn x2 t2⟩
end
end Lw
namespace Lw
open PySem PySem.Spec PyProof.Rows L2 GrT
/-- a promise that nobody asks -/
def spNo : Sp := fun _ _ _ _ => False
theorem Fx.back {p b : Addr} {H H' : Hp} (x : Fx p H H') (t : Tape H' p) (h : H' b = none) : H b = none := by
  cases e : H b with
  | none => rfl
  | some o =>
    by_cases q : b = p
    · obtain ⟨ns, tl, _⟩ := t
      rw [q, tl] at h
      cases h
    · rw [x b o q e] at h
      cases h
/-- the tree stands while nothing but the tape and what is new changes -/
theorem Tr.fx {S : Addr → Prop} {H H' : Hp} {L n : Nat} {v : V} {t : T} {p : Addr} (h : Tr S H L n v t) (tp : Tape H p) (x : Fx p H H') : Tr S H' L n v t :=
  h.keep fun b kvs _ e => x b _ (fun q => by
    obtain ⟨ns, tl, _⟩ := tp
    rw [q, tl] at e
    cases e) e
/-- a test, cut off from what follows: only the outcomes in φ go on -/
def tCut (t : TT) : TT := fun σ H Q => ∃ φ : Bool → Prop, (t σ H fun b H1 => H1 = H ∧ φ b) ∧ ∀ b, φ b → Q b H
theorem pt_cut {X : Cx} {e : Expr} {t : TT} (h : PT X e t) : PT X e (tCut t) := ⟨fun pins s σ H Q I ⟨φ, q, r⟩ => thn (h.run pins s σ H _ I q) fun b s1 ⟨H1, I1, e, hb⟩ => ⟨H1, I1, by
  subst e
  exact r b hb⟩⟩
def spFields (n : Nat) : Sp := fun vs H Q _ => ∃ (p P : Addr) (ps : List Str), vs = [.ref p, .ref P, .int (n : Int)] ∧ Tape H p ∧ H P = some (.lst (ps.map V.str)) ∧ P ≠ p ∧ 1 ≤ ps.length ∧ ps.length ≤ 6 ∧ (∀ x ∈ ps, Good x) ∧
  ∀ (D : Addr) (fs : List (Str × GrT.T)) H', Tr (fun b => H b = none) H' 6 (n + 1) (.ref D) (.fds fs) → Fx p H H' → Tape H' p → Q (.ref D) H'
def spFieldsR : Nat → Sp
  | 0 => spNo
  | n + 1 => spFields n
theorem pick_ix {ps : List Str} {z : Int} (h : 1 ≤ ps.length) : ∃ x ∈ ps, atI (ps.map V.str) (z % (ps.length : Int)) = some (V.str x) := by
  have h0 : (0 : Int) < ps.length := by omega
  have h1 := Int.emod_nonneg z (by omega : (ps.length : Int) ≠ 0)
  have h2 := Int.emod_lt_of_pos z h0
  obtain ⟨j, hj⟩ : ∃ j : Nat, z % (ps.length : Int) = (j : Int) := ⟨(z % (ps.length : Int)).toNat, by omega⟩
  have hl : j < ps.length := by omega
  refine ⟨ps[j], List.getElem_mem hl, ?_⟩
  rw [hj]
  refine atI_nat ?_
  rw [List.getElem?_map, List.getElem?_eq_getElem hl]
  rfl
section
variable {P : Program} {w : World} {K : PySem.W.Frag} {mg : Str → Option Value} {base : Heap}
theorem c_no {k : Nat} {x : Str} {st : Stmt} {N ps : List Str} (D : Dfn K mg x st ps) (S : FnScope N ps (defScope st)) : Cal P w K mg base (k + 1) x spNo :=
  D.cal S (fun _ _ _ _ h => h.elim) (fun _ _ _ _ _ _ _ _ _ _ h => h.elim)
theorem scFields : FnScope ["tape", "names", "depth", "fields", "first", "turn", "k", "name", "choice"] ["tape", "names", "depth"] (defScope sFields) := ⟨rfl, rfl, rfl, by decide +kernel, rfl, by decide +kernel, by decide +kernel⟩
theorem c_fields_step (T : Bt mg) (D : Dfn K mg "_law_fields" sFields ["tape", "names", "depth"]) (c_law_take : Cal P w K mg base 1 "_law_take" spTake) (c_law_number : Cal P w K mg base 2 "_law_number" spNumber)
    (n : Nat) (c_law_fields : Cal P w K mg base (n + 3) "_law_fields" (spFieldsR n)) : Cal P w K mg base (n + 4) "_law_fields" (spFields n) := by
  refine D.cal scFields (fun vs H Q E h => ?_) (fun f cdv A outer s H vs Q E hr h => ?_)
  · obtain ⟨p, P, ps, rfl, _⟩ := h
    rfl
  · obtain ⟨p, P, ps, rfl, tp, eP, Pp, l1, l2, gp, q⟩ := h
    have hu1 : (A.deeper (envOfC "_law_fields" (defScope sFields) s.heap.objs.size f cdv)).units + 1 < cLine := by
      have := hr.units
      omega
    refine ⟨_, (pss_cons (ps_set (i := 3) scFields.nd rfl (Or.inl rfl) pe_dnewK)
      (pss_cons (ps_set (i := 4) scFields.nd rfl (Or.inl rfl) (pe_c c_law_take hr (by omega) rfl (pa_cons (pv 0) (pa_cons pe_int pa_nil))))
      (pss_cons (ps_set (i := 5) scFields.nd rfl (Or.inl rfl) (pe_c c_law_take hr (by omega) rfl (pa_cons (pv 0) (pa_cons pe_int pa_nil))))
      (pss_cons (ps_for PassesOwn.never rfl (pi_range1 (by rfl) T.b_range (pa_cons (pe_callB call_len_seq (by rfl) T.b_len PySem.boot_len (pa_cons (pv 1) pa_nil)) pa_nil)) (pg_name (i := 6) scFields.nd rfl (Or.inl rfl))
      (pss_cons (ps_set (i := 7) scFields.nd rfl (Or.inl rfl) (pe_ix ix_list (pv 1) (pe_op op_mod (pe_op op_add (pv 4) (pe_op op_mul (pe_op op_sub pe_int (pe_op op_mul pe_int (pv 5))) (pv 6))) (pe_callB call_len_seq (by rfl) T.b_len PySem.boot_len (pa_cons (pv 1) pa_nil))) (fun _ _ => rfl)))
      (pss_cons (ps_set (i := 8) scFields.nd rfl (Or.inl rfl) (pe_c c_law_take hr (by omega) rfl (pa_cons (pv 0) (pa_cons pe_int pa_nil))))
      (pss_one (ps_if (pt_cut (PW.pt (pw_or (pt_cmpR op_eq (pv 8) pe_int (nomark _)) (pw_or1 (PW.pt (pw_and (pt_cmpR op_eq (pv 8) pe_int (nomark _)) (pw_and1 (pt_cmpR op_le (pv 2) pe_int (nomark _)))))))))
      (pss_one (ps_dput hu1 (pv 3) (pv 7) (pe_op op_mul (pe_c c_law_number hr (by omega) rfl (pa_cons (pv 0) pa_nil)) (pe_op op_sub pe_int (pe_op op_mul pe_int (pe_c c_law_take hr (by omega) rfl (pa_cons (pv 0) (pa_cons pe_int pa_nil)))))) rfl))
      (pss_one (ps_if (pt_cmpR op_eq (pv 8) pe_int (nomark _))
      (pss_one (ps_dput hu1 (pv 3) (pv 7) (pe_c c_law_fields hr (by omega) rfl (pa_cons (pv 0) (pa_cons (pv 1) (pa_cons (pe_op op_sub (pv 2) pe_int) pa_nil)))) rfl))
      pss_nil)))))))
      (pss_one (ps_ret (pv 3))))))), ?_⟩
    refine fun D hD => ?_
    have Dp : D ≠ p := tp.ne'' hD
    have t0 := tp.new (o := .dK []) hD
    have x0 := (Fx.refl (T := p) (H := H)).new (o := .dK []) hD
    have eD : (upd H D (.dK [])) D = some (.dK (dk [])) := upd_same
    have eP0 := x0 _ _ Pp eP
    generalize upd H D (.dK []) = H0 at t0 x0 eD eP0 ⊢
    refine ⟨_, rfl, p, 720720, rfl, t0, p72, fun i1 H1 _ _ x1 t1 => ?_⟩
    refine ⟨_, rfl, p, 2, rfl, t1, by decide, fun i2 H2 i20 i21 x2 t2 => ?_⟩
    have eP2 := (x1.trans x2) _ _ Pp eP0
    have eD2 := (x1.trans x2) _ _ Dp eD
    refine ⟨_, rfl, P, _, rfl, .inl (SqL.of eP2), ps.length, by rw [List.length_map], by omega, by omega, ?_⟩
    have x02 := (x0.trans x1).trans x2
    refine for_range (lo := 0) (n := ps.length) (fun i σ H' => ∃ (kv nv cv : Option V) (l : List (Str × V)) (fs : List (Str × GrT.T)), σ = [some (.ref p), some (.ref P), some (.int n), some (.ref D), some (.int i1), some (.int i2), kv, nv, cv] ∧
      H' D = some (.dK (dk l)) ∧ H' P = some (.lst (ps.map V.str)) ∧ Wf i fs ∧ Al (Tr (fun b => H b = none ∧ b ≠ D) H' 6 n) l fs ∧ Fx p H H' ∧ Tape H' p)
      ⟨none, none, none, [], [], rfl, eD2, eP2, Wf.nil, .nil, x02, t2⟩ ?_ ?_
    · rintro i σ H' hi ⟨kv, nv, cv, l, fs, rfl, aD, aP, wf, al, x3, t3⟩
      have PD : P ≠ D := fun e => by
        rw [e, aD] at aP
        cases aP
      obtain ⟨x, hx, hat⟩ := pick_ix (ps := ps) (z := i1 + (1 - 2 * i2) * (0 + (i : Int))) l1
      have gx := gp x hx
      refine ⟨_, rfl, _, rfl, _, rfl, _, _, rfl, rfl, .inl ⟨by decide, by decide⟩, _, _, rfl, rfl, _, rfl, _, _, rfl, rfl, .inl ⟨by omega, by omega⟩, _, _, rfl, rfl, _, rfl, P, _, rfl, .inl (SqL.of aP), _, _, rfl, rfl, by rw [List.length_map]; omega, P, _, _, _, rfl, rfl, SqL.of aP, by rw [List.length_map]; exact hat, ?_⟩
      refine ⟨_, rfl, p, 4, rfl, t3, by decide, fun c H4 c0 c1 x4 t4 => ?_⟩
      have bD := x4 _ _ Dp aD
      have bP := x4 _ _ Pp aP
      have al4 : Al (Tr (fun b => H b = none ∧ b ≠ D) H4 6 n) l fs := al.imp fun _ _ _ z => Tr.fx z t3 x4
      have hsz : (dk l).length < sizeLine := by
        have := wf.ln
        rw [dk_len, al.len]
        exact Nat.lt_of_lt_of_le (by omega : fs.length < 100) (line_big (by decide))
      have ndl : (names l).Nodup := by
        rw [al.names]
        exact wf.nd
      have fin : ∀ (v : V) (t : GrT.T) (H5 : Hp), H5 D = some (.dK (dk l)) → H5 P = some (.lst (ps.map V.str)) → Al (Tr (fun b => H b = none ∧ b ≠ D) H5 6 n) l fs → Tr (fun b => H b = none ∧ b ≠ D) H5 6 n v t → Fx p H H5 → Tape H5 p →
          ∃ H6, DPut H5 D (.str x) v H6 ∧ H6 D = some (.dK (dk (put x v l))) ∧ H6 P = some (.lst (ps.map V.str)) ∧ Wf (i + 1) (put x t fs) ∧ Al (Tr (fun b => H b = none ∧ b ≠ D) H6 6 n) (put x v l) (put x t fs) ∧ Fx p H H6 ∧ Tape H6 p := by
        intro v t H5 dD dP a5 r5 x5 t5
        refine ⟨_, DPut.k (k := Sum.inr x) dD hsz, ?_, ?_, wf.put gx, ?_, ?_, t5.put Dp⟩
        · rw [upd_same, dk_put x v l ndl]
        · rw [upd_ne PD]
          exact dP
        · have k : ∀ {v t}, Tr (fun b => H b = none ∧ b ≠ D) H5 6 n v t → Tr (fun b => H b = none ∧ b ≠ D) (upd H5 D (.dK (putK (dk l) (Sum.inr x) v))) 6 n v t := fun z => z.keep fun b kvs sb e => by rw [upd_ne sb.2]; exact e
          refine Al.put (a5.imp fun _ _ _ z => z.keep fun b kvs sb e => by rw [upd_ne sb.2]; exact e) x (r5.keep fun b kvs sb e => by rw [upd_ne sb.2]; exact e)
        · intro b o nb e
          rw [upd_ne (ne_of_none e hD)]
          exact x5 b o nb e
      refine ⟨fun b => b = false → c = 2 → 0 < n, ⟨_, rfl, rfl, _, rfl, ite2 (fun _ => ⟨rfl, fun h => by cases h⟩) (fun _ => ⟨_, rfl, rfl, _, rfl, ite2 (fun _ => ⟨_, rfl, _, _, rfl, rfl, _, rfl, rfl, fun h _ => ?_⟩) (fun h2 => ⟨rfl, fun _ e => ?_⟩)⟩)⟩, fun b hb => ?_⟩
      · have := of_decide_eq_false h
        omega
      · rw [e] at h2
        exact absurd rfl h2
      · cases b
        · refine iteF ⟨_, rfl, rfl, _, rfl, ite2 (fun h2 => ?_) (fun _ => ?_)⟩
          · have e2 : c = 2 := V.int.inj (of_decide_eq_true h2)
            have hn := hb rfl e2
            obtain ⟨m, rfl⟩ : ∃ m, n = m + 1 := ⟨n - 1, by omega⟩
            refine ⟨_, rfl, _, rfl, _, rfl, _, _, rfl, rfl, p, P, ps, by rw [Int.natCast_add]; simp, t4, bP, Pp, l1, l2, gp, fun D2 gs H5 r5 x5 t5 => ?_⟩
            have a5 : Al (Tr (fun b => H b = none ∧ b ≠ D) H5 6 (m + 1)) l fs := al4.imp fun _ _ _ z => Tr.fx z t4 x5
            have r6 : Tr (fun b => H b = none ∧ b ≠ D) H5 6 (m + 1) (.ref D2) (.fds gs) := r5.wid fun b hb => ⟨(x3.trans x4).back t4 hb, fun e => by
              rw [e, bD] at hb
              cases hb⟩
            obtain ⟨H6, dp, cD, cP, cw, ca, cx, ct⟩ := fin _ _ H5 (x5 _ _ Dp bD) (x5 _ _ Pp bP) a5 r6 ((x3.trans x4).trans x5) t5
            exact ⟨_, rfl, _, rfl, D, H6, rfl, dp, _, _, _, _, _, rfl, cD, cP, cw, ca, cx, ct⟩
          · exact ⟨_, _, _, l, fs, rfl, bD, bP, ⟨wf.nd, Nat.le_succ_of_le wf.ln, wf.gd⟩, al4, x3.trans x4, t4⟩
        · refine iteT ⟨_, rfl, p, rfl, t4, fun v H5 v0 v1 x5 t5 => ?_⟩
          refine ⟨_, rfl, p, 2, rfl, t5, by decide, fun u H6 u0 u1 x6 t6 => ?_⟩
          have x46 := x5.trans x6
          obtain ⟨H7, dp, cD, cP, cw, ca, cx, ct⟩ := fin (.int (v * (1 - 2 * u))) (.int (v * (1 - 2 * u))) H6 (x46 _ _ Dp bD) (x46 _ _ Pp bP) (al4.imp fun _ _ _ z => Tr.fx z t4 x46) (Tr.int _) ((x3.trans x4).trans x46) t6
          exact ⟨_, _, rfl, rfl, .inl ⟨by decide, by decide⟩, _, _, rfl, rfl, _, _, rfl, rfl, .inr ⟨by omega, by omega⟩, _, rfl, _, rfl, D, H7, rfl, dp, _, _, _, _, _, rfl, cD, cP, cw, ca, cx, ct⟩
    · rintro σ H' ⟨kv, nv, cv, l, fs, rfl, aD, aP, wf, al, x3, t3⟩
      exact ⟨_, rfl, q D fs H' (.inr ⟨D, l, fs, rfl, rfl, hD, aD, wf.mono l2, al.imp fun _ _ _ z => z.wid fun b h => h.1⟩) x3 t3⟩
end
end Lw
namespace GrT
open PySem L2
mutual
/-- how many fields a value has, on all levels -/
def nf : T → Int
  | .int _ => 0
  | .fds fs => nfs fs
def nfs : List (Str × T) → Int
  | [] => 0
  | (_, t) :: r => 1 + nf t + nfs r
end
mutual
/-- the first value has all that the second one has -/
def ext : T → T → Bool
  | .int i, .int j => decide (i = j)
  | .fds a, .fds b => extL a b
  | .int _, .fds _ => false
  | .fds _, .int _ => false
def extL : List (Str × T) → List (Str × T) → Bool
  | _, [] => true
  | a, (x, t) :: r => (match look x a with | none => false | some u => ext u t) && extL a r
end
theorem nfs_sum : ∀ fs : List (Str × T), nfs fs = (fs.map fun p => 1 + nf p.2).sum
  | [] => by simp [nfs]
  | (x, t) :: r => by
    rw [nfs, List.map_cons, List.sum_cons, nfs_sum r]
theorem extL_iff {a : List (Str × T)} : ∀ {b : List (Str × T)}, extL a b = true ↔ ∀ p ∈ b, ∃ u, look p.1 a = some u ∧ ext u p.2 = true
  | [] => by simp [extL]
  | (x, t) :: r => by
    rw [extL, Bool.and_eq_true, extL_iff (b := r)]
    constructor
    · rintro ⟨h1, h2⟩ p hp
      rcases List.mem_cons.mp hp with e | e
      · rw [e]
        cases q : look x a with
        | none =>
          rw [q] at h1
          cases h1
        | some u =>
          rw [q] at h1
          exact ⟨u, rfl, h1⟩
      · exact h2 p e
    · intro h
      refine ⟨?_, fun p hp => h p (List.mem_cons_of_mem _ hp)⟩
      obtain ⟨u, h1, h2⟩ := h (x, t) List.mem_cons_self
      have h1' : look x a = some u := h1
      rw [h1']
      exact h2
end GrT
namespace Lw
open PySem PySem.Spec PyProof.Rows L2 GrT
theorem upd_back {H : Hp} {d : Addr} {u z : HO} (h : H d = some u) : upd (upd H d z) d u = H := by
  rw [upd_upd]
  funext b
  by_cases e : b = d
  · subst e
    rw [upd_same, h]
  · rw [upd_ne e]
theorem Same.unlock {H H' : Hp} {d : Addr} {u z : HO} (h : H d = some u) (s : Same (upd H d z) H') : Same H (upd H' d u) := fun b o e => by
  by_cases q : b = d
  · subst q
    rw [upd_same, ← h, e]
  · rw [upd_ne q]
    exact s b o (by rw [upd_ne q]; exact e)
theorem Same.new {H H1 : Hp} {a : Addr} {o : HO} (x : Same H H1) (n : H1 a = none) : Same H (upd H1 a o) := fun b u e => by
  have q := x b u e
  rw [upd_ne (ne_of_none q n)]
  exact q
theorem Tr.same {S : Addr → Prop} {H H' : Hp} {L n : Nat} {v : V} {t : T} (h : Tr S H L n v t) (x : Same H H') : Tr S H' L n v t :=
  h.keep fun b kvs _ e => x b _ e
theorem dk_at {l : List (Str × V)} {i : Nat} {k : Key} {v : V} (h : (dk l)[i]? = some (k, v)) : ∃ x, k = Sum.inr x ∧ l[i]? = some (x, v) := by
  unfold dk at h
  rw [List.getElem?_map] at h
  cases e : l[i]? with
  | none =>
    rw [e] at h
    cases h
  | some p =>
    rw [e] at h
    have h' := Option.some.inj h
    obtain ⟨x, w⟩ := p
    injection h' with h1 h2
    exact ⟨x, h1.symm, by rw [show w = v from h2]⟩
theorem Al.at {R : V → T → Prop} : ∀ {l : List (Str × V)} {fs : List (Str × T)} {i : Nat} {x : Str} {v : V}, Al R l fs → l[i]? = some (x, v) → ∃ t, fs[i]? = some (x, t) ∧ R v t
  | _, _, 0, x, v, .cons (a := p) (b := q) r _, h => by
    have e : p = (x, v) := by simpa using h
    subst e
    obtain ⟨z, u⟩ := q
    have e2 : x = z := r.1
    exact ⟨u, by rw [e2]; rfl, r.2⟩
  | _, _, i + 1, x, v, .cons r t, h => by
    have h' := h
    rw [List.getElem?_cons_succ] at h'
    obtain ⟨u, h1, h2⟩ := Al.at t h'
    exact ⟨u, by rw [List.getElem?_cons_succ]; exact h1, h2⟩
/-- further built-ins -/
structure Bu (mg : Str → Option Value) : Prop extends Bt mg where
  b_isinstance : mg "isinstance" = none
  b_dict : mg "dict" = none
  b_tuple : mg "tuple" = none
  b_bool : mg "bool" = none
  b_list : mg "list" = none
  b_str : mg "str" = none
  b_sum : mg "sum" = none
  b_sorted : mg "sorted" = none
theorem bo_isinstance : bootBuiltins "isinstance" = some (.builtin "isinstance") := by decide +kernel
theorem bo_dict : bootBuiltins "dict" = some (.type "dict") := by decide +kernel
theorem bo_tuple : bootBuiltins "tuple" = some (.type "tuple") := by decide +kernel
theorem bo_bool : bootBuiltins "bool" = some (.type "bool") := by decide +kernel
theorem bo_list : bootBuiltins "list" = some (.type "list") := by decide +kernel
theorem bo_str : bootBuiltins "str" = some (.type "str") := by decide +kernel
theorem bo_int : bootBuiltins "int" = some (.type "int") := by decide +kernel
theorem bo_sum : bootBuiltins "sum" = some (.builtin "sum") := by decide +kernel
theorem bo_sorted : bootBuiltins "sorted" = some (.builtin "sorted") := by decide +kernel
def spIsInt : Sp := fun vs H Q _ => ∃ i : Int, vs = [.int i] ∧ Q (.bl true) H
def spCount (n : Nat) : Sp := fun vs H Q _ => ∃ (v : V) (S : Addr → Prop) (t : T), vs = [v] ∧ Tr S H 40 n v t ∧ ∀ H', Same H H' → Q (.int (nf t)) H'
def spCountR : Nat → Sp
  | 0 => spNo
  | n + 1 => spCount n
section
variable {P : Program} {w : World} {K : PySem.W.Frag} {mg : Str → Option Value} {base : Heap}
theorem scIsInt : FnScope ["found"] ["found"] (defScope sIsInt) := ⟨rfl, rfl, rfl, by decide +kernel, rfl, by decide +kernel, by decide +kernel⟩
theorem c_is_integer (T : Bu mg) (D : Dfn K mg "_law_is_integer" sIsInt ["found"]) : Cal P w K mg base 1 "_law_is_integer" spIsInt := by
  refine D.cal scIsInt (fun vs H Q E h => ?_) (fun f cdv A outer s H vs Q E hr h => ?_)
  · obtain ⟨i, rfl, _⟩ := h
    rfl
  · obtain ⟨i, rfl, q⟩ := h
    refine ⟨_, (pss_one (ps_ret (pe_and (pe_callB call_isi (by rfl) T.b_isinstance bo_isinstance (pa_cons (pv 0) (pa_cons (pe_bltn (by rfl) T.b_int bo_int (v := .ty "int") rfl) pa_nil)))
      (pe_one (pe_not (pe_callB call_isi (by rfl) T.b_isinstance bo_isinstance (pa_cons (pv 0) (pa_cons (pe_bltn (by rfl) T.b_bool bo_bool (v := .ty "bool") rfl) pa_nil)))))))), ?_⟩
    exact ⟨_, rfl, _, _, _, _, _, rfl, .ty _, .base (.int i), rfl, _, rfl, iteT ⟨_, rfl, _, _, _, _, _, rfl, .ty _, .base (.int i), rfl, _, rfl, q⟩⟩
theorem scCount : FnScope ["value", "name"] ["value"] (defScope sCount) := ⟨rfl, rfl, rfl, by decide +kernel, rfl, by decide +kernel, by decide +kernel⟩
theorem c_count_step (T : Bu mg) (D : Dfn K mg "_law_count" sCount ["value"]) (n : Nat) (c_law_count : Cal P w K mg base (n + 1) "_law_count" (spCountR n)) : Cal P w K mg base (n + 2) "_law_count" (spCount n) := by
  refine D.cal scCount (fun vs H Q E h => ?_) (fun f cdv A outer s H vs Q E hr h => ?_)
  · obtain ⟨v, S, t, rfl, _⟩ := h
    rfl
  · obtain ⟨v, S, t, rfl, tr, q⟩ := h
    have hu1 : (A.deeper (envOfC "_law_count" (defScope sCount) s.heap.objs.size f cdv)).units + 1 < cLine := by
      have := hr.units
      omega
    refine ⟨_, (pss_cons (ps_if (pt_not (pt_val (pe_callB call_isi (by rfl) T.b_isinstance bo_isinstance (pa_cons (pv 0) (pa_cons (pe_bltn (by rfl) T.b_dict bo_dict (v := .ty "dict") rfl) pa_nil)))))
      (pss_one (ps_ret pe_int))
      pss_nil)
      (pss_one (ps_ret (pe_callB (cr_sum rfl) (by rfl) T.b_sum bo_sum (pa_cons (pe_lock (pe_lc (own := [("name", 1)]) (g := gName 1) (tt := tYes) rfl scCount.nd (pi_keys (pv 0)) (blkOk_by (own := [("name", 1)]) (N := ["value", "name"]) (sc := defScope sCount) (by decide +kernel)) (fun _ _ _ _ _ => pg_name (i := 1) scCount.nd rfl (Or.inl rfl)) (fun _ _ _ _ _ => pts_nil) (fun _ _ _ _ _ => (by exact (pe_op op_add pe_int (pe_c c_law_count hr (by omega) rfl (pa_cons (pe_dget hu1 (pv 0) (pv 1) (fun _ _ => rfl)) pa_nil))))))) pa_nil))))), ?_⟩
    refine tr.cases (fun i e1 e2 => ?_) (fun k a l fs en e1 e2 sa ea wf al => ?_)
    · subst e1 e2
      exact ⟨_, rfl, _, _, _, _, _, rfl, .ty _, .base (.int i), rfl, _, rfl, iteT (q H (Same.refl H))⟩
    · subst en e1 e2
      refine ⟨_, rfl, _, _, _, _, _, rfl, .ty _, .base (.dK ea), rfl, _, rfl, iteF ?_⟩
      refine ⟨a, .dK (dk l), ea, True.intro, fun od => ⟨_, rfl, a, od, rfl, .inl ⟨_, upd_same, fun Z hZ => lc_it walk_keys (fun i H5 => ∃ (fs' : List (Str × GrT.T)), fs' = fs.take i ∧ H5 Z = some (.lst ((fs'.map fun p : Str × GrT.T => 1 + nf p.2).map V.int)) ∧ Same (upd H a (.frz od (.dK (dk l)))) H5)
        ⟨[], rfl, upd_same, Same.new (Same.refl _) hZ⟩ ?_ ?_ ?_⟩⟩⟩
      · rintro i H5 _ ⟨fs', _, _, sm⟩
        exact sm _ _ upd_same
      · rintro i x H5 H6 hi ⟨fs', rfl, eZ, sm⟩ ⟨rfl, k', v', hk, rfl⟩
        obtain ⟨x, rfl, hx⟩ := dk_at hk
        obtain ⟨u, hu, ru⟩ := Lw.Al.at al hx
        have aZ : a ≠ Z := ne_of_none upd_same hZ
        have ea6 := sm _ _ (upd_same (H := H) (a := a) (o := .frz od (.dK (dk l))))
        have nd : (names l).Nodup := by
          rw [al.names]
          exact wf.nd
        have r6 : Tr S H6 40 k v' u := Tr.same ((Lw.Al.at (al_away sa ea wf al (.frz od (.dK (dk l)))) hx).elim fun u' h => by
          have e : u' = u := by
            have := h.1.symm.trans hu
            injection this with this
            injection this
          rw [← e]
          exact h.2) sm
        have hln : fs.length ≤ 40 := wf.ln
        refine ⟨rfl, iteT (A := _) (B := True) (iteT ⟨_, rfl, _, rfl, a, v', rfl, .inl ⟨dk l, Sum.inr x, .inr ⟨od, ea6⟩, rfl, by rw [dk_val, mem_look nd (List.mem_of_getElem? hx)]⟩, v', S, u, rfl, r6, fun H7 s7 => ?_⟩)⟩
        refine ⟨_, _, rfl, rfl, _, s7 _ _ eZ, line_big (by rw [List.length_map, List.length_map, List.length_take]; omega), _, rfl, ?_, ?_⟩
        · rw [upd_same, List.take_add_one, hu]
          simp
        · intro b o e
          rw [upd_ne (ne_of_none e hZ)]
          exact s7 _ _ (sm b o e)
      · rintro H5 ⟨fs', rfl, eZ, sm⟩
        rw [dk_len, al.len, List.take_length] at eZ
        have ea5 := sm _ _ (upd_same (H := H) (a := a) (o := .frz od (.dK (dk l))))
        have aZ : Z ≠ a := (ne_of_none upd_same hZ).symm
        refine ⟨ea5, Z, _, rfl, .of (by rw [upd_ne aZ]; exact eZ), ?_⟩
        rw [← nfs_sum]
        exact q _ (Same.unlock ea sm)
end
end Lw
namespace Lw
open PySem PySem.Spec PyProof.Rows L2 GrT
/-! ### one row of names in ascending order -/
theorem ltc_anti : ∀ a b : List Nat, ltCps a b = false → ltCps b a = false → a = b
  | [], [], _, _ => rfl
  | [], _ :: _, h, _ => by cases h
  | _ :: _, [], _, h => by cases h
  | a :: r, b :: t, h1, h2 => by
    simp only [ltCps, Bool.or_eq_false_iff, decide_eq_false_iff_not, Bool.and_eq_false_iff, beq_eq_false_iff_ne] at h1 h2
    have e : a = b := by omega
    subst e
    have q1 := h1.2.resolve_left (fun h => h rfl)
    have q2 := h2.2.resolve_left (fun h => h rfl)
    rw [ltc_anti r t q1 q2]
theorem ltc_trans : ∀ a b c : List Nat, ltCps b a = false → ltCps c b = false → ltCps c a = false
  | [], _, [], _, _ => rfl
  | [], _, _ :: _, _, _ => rfl
  | _ :: _, [], _, h, _ => by cases h
  | _ :: _, _ :: _, [], _, h => by cases h
  | a :: r, b :: t, c :: u, h1, h2 => by
    simp only [ltCps, Bool.or_eq_false_iff, decide_eq_false_iff_not, Bool.and_eq_false_iff, beq_eq_false_iff_ne] at h1 h2 ⊢
    refine ⟨by omega, ?_⟩
    by_cases e : c = a
    · right
      have e1 : a = b := by omega
      have e2 : c = b := by omega
      exact ltc_trans r t u (h1.2.resolve_left (fun h => h e1.symm)) (h2.2.resolve_left (fun h => h e2))
    · exact .inl e
theorem rising_pw : ∀ (l : List Str) (p : Str), risingS p l = true → (p :: l).Pairwise fun a b => ltCps b.cps.toList a.cps.toList = false
  | [], p, _ => List.pairwise_singleton _ _
  | x :: r, p, h => by
    rw [risingS, Bool.and_eq_true, Bool.not_eq_true'] at h
    have ih := rising_pw r x h.2
    refine List.pairwise_cons.mpr ⟨fun y hy => ?_, ih⟩
    rcases List.mem_cons.mp hy with e | e
    · rw [e]
      exact h.1
    · exact ltc_trans _ _ _ h.1 ((List.pairwise_cons.mp ih).1 y e)
theorem sorted_pw {l : List Str} (h : sortedS l = true) : l.Pairwise fun a b => ltCps b.cps.toList a.cps.toList = false := by
  cases l with
  | nil => exact List.Pairwise.nil
  | cons x r => exact rising_pw r x h
theorem str_tl {x y : Str} (h : x.cps.toList = y.cps.toList) : x = y := by
  obtain ⟨a⟩ := x
  obtain ⟨b⟩ := y
  have e : a.toList = b.toList := h
  rw [Array.toList_inj.mp e]
theorem sorted_one {ys zs : List Str} (hy : sortedS ys = true) (hz : sortedS zs = true) (p : ys.Perm zs) : ys = zs :=
  List.Perm.eq_of_pairwise (fun x y _ _ h1 h2 => str_tl (ltc_anti _ _ h2 h1)) (sorted_pw hy) (sorted_pw hz) p
/-- the names in ascending order, in a new list -/
def spSorted : Sp := fun vs H Q _ => ∃ (a : Addr) (l : List (Str × V)), vs = [.ref a] ∧ H a = some (.dK (dk l)) ∧ l.length < 64 ∧
  ∀ (ys : List Str) (W : Addr) H', ys.Perm (names l) → sortedS ys = true → H' W = some (.lst (ys.map V.str)) → H W = none → Same H H' → Q (.ref W) H'
section
variable {P : Program} {w : World} {K : PySem.W.Frag} {mg : Str → Option Value} {base : Heap}
theorem scSorted : FnScope ["names", "name"] ["names"] (defScope sSorted) := ⟨rfl, rfl, rfl, by decide +kernel, rfl, by decide +kernel, by decide +kernel⟩
theorem c_sorted (T : Bu mg) (D : Dfn K mg "_law_sorted" sSorted ["names"]) : Cal P w K mg base 1 "_law_sorted" spSorted := by
  refine D.cal scSorted (fun vs H Q E h => ?_) (fun f cdv A outer s H vs Q E hr h => ?_)
  · obtain ⟨a, l, rfl, _⟩ := h
    rfl
  · obtain ⟨a, l, rfl, ea, hl, q⟩ := h
    refine ⟨_, (pss_one (ps_ret (pe_callB cr_sortedS (by rfl) T.b_sorted bo_sorted (pa_cons (pe_lock (pe_lc (own := [("name", 1)]) (g := gName 1) (tt := tYes) rfl scSorted.nd (pi_keys (pv 0)) (blkOk_by (own := [("name", 1)]) (N := ["names", "name"]) (sc := defScope sSorted) (by decide +kernel)) (fun _ _ _ _ _ => pg_name (i := 1) scSorted.nd rfl (Or.inl rfl)) (fun _ _ _ _ _ => pts_nil) (fun _ _ _ _ _ => (by exact (pe_callTy SkE.call_str_str (by rfl) T.b_str bo_str (pa_cons (pv 1) pa_nil)))))) pa_nil)))), ?_⟩
    refine ⟨a, .dK (dk l), ea, True.intro, fun od => ⟨_, rfl, a, od, rfl, .inl ⟨_, upd_same, fun Z hZ => lc_it walk_keys (fun i H5 => H5 Z = some (.lst (((names l).take i).map V.str)) ∧ Same (upd H a (.frz od (.dK (dk l)))) H5)
      ⟨upd_same, Same.new (Same.refl _) hZ⟩ ?_ ?_ ?_⟩⟩⟩
    · rintro i H5 _ ⟨_, sm⟩
      exact sm _ _ upd_same
    · rintro i x H5 H6 hi ⟨eZ, sm⟩ ⟨rfl, k', v', hk, rfl⟩
      obtain ⟨x, rfl, hx⟩ := dk_at hk
      refine ⟨rfl, iteT (A := _) (B := True) (iteT ⟨_, rfl, x, rfl, _, eZ, line_big (by rw [List.length_map, List.length_take, show (names l).length = l.length from List.length_map _]; omega), ?_, ?_⟩)⟩
      · have hn : (names l)[i]? = some x := by rw [List.getElem?_map, hx]; rfl
        rw [upd_same, List.take_add_one, hn]
        simp
      · intro b o e
        rw [upd_ne (ne_of_none e hZ)]
        exact sm b o e
    · rintro H5 ⟨eZ, sm⟩
      have hn : (names l).length = l.length := List.length_map _
      rw [dk_len, ← hn, List.take_length] at eZ
      have ea5 := sm _ _ (upd_same (H := H) (a := a) (o := .frz od (.dK (dk l))))
      have aZ : Z ≠ a := (ne_of_none upd_same hZ).symm
      have hZ0 : H Z = none := by
        rw [upd_ne aZ] at hZ
        exact hZ
      refine ⟨ea5, Z, _, rfl, .of (by rw [upd_ne aZ]; exact eZ), by rw [hn]; exact hl, fun ys W pm so hW => ?_⟩
      have s1 : Same H (upd H5 a (.dK (dk l))) := Same.unlock ea sm
      exact q ys W _ pm so upd_same (s1.free hW) (Same.new s1 hW)
end
end Lw
namespace Lw
open PySem PySem.Spec PyProof.Rows L2 GrT GrOwn
abbrev sIsName : Stmt := top 8
abbrev sValueSize : Stmt := top 9
abbrev sInit : Stmt := inClass (top 10) 0
abbrev sMake : Stmt := inClass (top 10) 1
abbrev sSize : Stmt := inClass (top 10) 3
abbrev sEq : Stmt := inClass (top 10) 14
abbrev sContains : Stmt := inClass (top 10) 16
abbrev sLen : Stmt := inClass (top 10) 17
abbrev sGet : Stmt := inClass (top 10) 18
abbrev sIter : Stmt := inClass (top 10) 19
/-! ### a record in the heap -/
theorem nSF : ¬ (("_fields" : Str) = "_size") := by decide +kernel
theorem nNS : ¬ (("names" : Str) = "_size") := by decide +kernel
theorem nNF : ¬ (("names" : Str) = "_fields") := by decide +kernel
def rf (t d : Addr) (z : Int) : List (Str × V) := putF "_size" (.int z) (putF "_fields" (.ref d) (putF "names" (.ref t) []))
theorem rf_names (t d : Addr) (z : Int) : (rf t d z).lookup ("names" : Str) = some (.ref t) := by
  unfold rf
  rw [lookup_putF, if_neg nNS, lookup_putF, if_neg nNF, lookup_putF, if_pos rfl]
theorem rf_fields (t d : Addr) (z : Int) : (rf t d z).lookup ("_fields" : Str) = some (.ref d) := by
  unfold rf
  rw [lookup_putF, if_neg nSF, lookup_putF, if_pos rfl]
theorem rf_size (t d : Addr) (z : Int) : (rf t d z).lookup ("_size" : Str) = some (.int z) := by
  unfold rf
  rw [lookup_putF, if_pos rfl]
/-- at a: a record of the class C, its fields l, what it is made of within S -/
structure RA (S : Addr → Prop) (C : Addr) (H : Hp) (a : Addr) (l : List (Str × V)) (z : Int) : Prop where
  ex : ∃ dx tp d, (S a ∧ S tp ∧ S d) ∧ H a = some (.ins C dx (rf tp d z)) ∧ H tp = some (.tup ((names l).map V.str)) ∧ H d = some (.dK (dk l))
  nd : (names l).Nodup
  so : sortedS (names l) = true
def Ro : HO → Prop
  | .ins _ _ _ => True
  | .tup _ => True
  | .dK _ => True
  | _ => False
theorem RA.keep {S : Addr → Prop} {C : Addr} {H H' : Hp} {a : Addr} {l : List (Str × V)} {z : Int} (r : RA S C H a l z) (k : ∀ b o, S b → H b = some o → Ro o → H' b = some o) : RA S C H' a l z := by
  obtain ⟨⟨dx, tp, d, ⟨s1, s2, s3⟩, e1, e2, e3⟩, n, s⟩ := r
  exact ⟨⟨dx, tp, d, ⟨s1, s2, s3⟩, k _ _ s1 e1 True.intro, k _ _ s2 e2 True.intro, k _ _ s3 e3 True.intro⟩, n, s⟩
theorem RA.wid {S S' : Addr → Prop} {C : Addr} {H : Hp} {a : Addr} {l : List (Str × V)} {z : Int} (r : RA S C H a l z) (k : ∀ b, S b → S' b) : RA S' C H a l z := by
  obtain ⟨⟨dx, tp, d, ⟨s1, s2, s3⟩, e1, e2, e3⟩, n, s⟩ := r
  exact ⟨⟨dx, tp, d, ⟨k _ s1, k _ s2, k _ s3⟩, e1, e2, e3⟩, n, s⟩
theorem RA.any {S : Addr → Prop} {C : Addr} {H : Hp} {a : Addr} {l : List (Str × V)} {z : Int} (r : RA S C H a l z) : RA (fun _ => True) C H a l z := r.wid fun _ _ => True.intro
/-- v is t, dicts having become records -/
def Rc (S : Addr → Prop) (C : Addr) (H : Hp) : Nat → V → T → Prop
  | 0, v, t => ∃ i, v = .int i ∧ t = .int i
  | n + 1, v, t => (∃ i, v = .int i ∧ t = .int i) ∨ ∃ a l fs, v = .ref a ∧ t = .fds fs ∧ RA S C H a l (nfs fs) ∧ Wf 40 fs ∧ (names l).Perm (names fs) ∧ ∀ x v u, look x l = some v → look x fs = some u → Rc S C H n v u
section
variable {S S' : Addr → Prop} {C : Addr} {H H' : Hp}
theorem Rc.int {n : Nat} (i : Int) : Rc S C H n (.int i) (.int i) := by
  cases n with
  | zero => exact ⟨i, rfl, rfl⟩
  | succ n => exact .inl ⟨i, rfl, rfl⟩
theorem Rc.cases {n : Nat} {v : V} {t : T} {P : Prop} (h : Rc S C H n v t) (h1 : ∀ i, v = .int i → t = .int i → P)
    (h2 : ∀ k a l fs, n = k + 1 → v = .ref a → t = .fds fs → RA S C H a l (nfs fs) → Wf 40 fs → (names l).Perm (names fs) → (∀ x v u, look x l = some v → look x fs = some u → Rc S C H k v u) → P) : P := by
  cases n with
  | zero =>
    obtain ⟨i, e1, e2⟩ := h
    exact h1 i e1 e2
  | succ k =>
    rcases h with ⟨i, e1, e2⟩ | ⟨a, l, fs, e1, e2, e3, e4, e5, e6⟩
    · exact h1 i e1 e2
    · exact h2 k a l fs rfl e1 e2 e3 e4 e5 e6
theorem Rc.keep : ∀ {n : Nat} {v : V} {t : T}, Rc S C H n v t → (∀ b o, S b → H b = some o → Ro o → H' b = some o) → Rc S C H' n v t
  | 0, _, _, h, _ => h
  | n + 1, v, t, h, k => by
    rcases h with h | ⟨a, l, fs, e1, e2, e3, e4, e5, e6⟩
    · exact .inl h
    · exact .inr ⟨a, l, fs, e1, e2, e3.keep k, e4, e5, fun x v u q1 q2 => (e6 x v u q1 q2).keep k⟩
theorem Rc.wid : ∀ {n : Nat} {v : V} {t : T}, Rc S C H n v t → (∀ b, S b → S' b) → Rc S' C H n v t
  | 0, _, _, h, _ => h
  | n + 1, v, t, h, k => by
    rcases h with h | ⟨a, l, fs, e1, e2, e3, e4, e5, e6⟩
    · exact .inl h
    · exact .inr ⟨a, l, fs, e1, e2, e3.wid k, e4, e5, fun x v u q1 q2 => (e6 x v u q1 q2).wid k⟩
theorem Rc.same {n : Nat} {v : V} {t : T} (h : Rc S C H n v t) (s : Same H H') : Rc S C H' n v t := h.keep fun b o _ e _ => s b o e
theorem Rc.fx {p : Addr} {n : Nat} {v : V} {t : T} (h : Rc S C H n v t) (tp : Tape H p) (s : Fx p H H') : Rc S C H' n v t := h.keep fun b o _ e r => s b o (fun q => by
  obtain ⟨ns, tl, _⟩ := tp
  rw [q, tl] at e
  cases e
  exact r) e
end
/-! ### what the top says of the class -/
structure RecK (K : PySem.W.Frag) (mg : Str → Option Value) (C : Addr) : Prop where
  cl : Cls K C
  nN : NoAttr K C "names"
  nF : NoAttr K C "_fields"
  nS : NoAttr K C "_size"
  ha : PySem.W.findIn K (.ref C) "__class__" = some (some (.builtin "object.__class__"))
  hn : PySem.W.specialIn K (.builtin "object.__class__") "__get__" = some (some (.builtin "getset_descriptor.__get__"))
  htk : PySem.W.takesIn K (.builtin "object.__class__") = some true
  hm : PySem.W.mroIn K C (.type "object") = some true
  kI : PySem.W.kitOne K (.type "int") (.ref C) = some false
  kRD : PySem.W.kitOne K (.ref C) (.type "dict") = some false
  kRC : PySem.W.kitOne K (.ref C) (.ref C) = some true
  sI : PySem.W.subIn K (.type "int") (.ref C) = some false
  sR : PySem.W.subIn K (.ref C) (.type "int") = some false
  mgC : mg "Record" = some (.ref C)
theorem RecK.ty {K : PySem.W.Frag} {mg : Str → Option Value} {C : Addr} {H : Hp} {a dx : Addr} {fs : List (Str × V)} (R : RecK K mg C) (e : H a = some (.ins C dx fs)) : TyX K H (.ref a) (.ref C) := .base (.ins e R.cl R.ha R.hn R.htk R.hm)
/-- a def of the class, by its name -/
structure DfM (K : PySem.W.Frag) (C : Addr) (x q : Str) (st : Stmt) (ps : List Str) : Prop where
  ex : ∃ f fd, Sm K C x f ∧ PySem.W.fnIn K f = true ∧ L2.Fun K x q st f fd ∧ Binds K fd ps []
structure Mth (P : Program) (w : World) (K : PySem.W.Frag) (mg : Str → Option Value) (base : Heap) (C : Addr) (k : Nat) (x : Str) (sp : Sp) : Prop where
  ex : ∃ (f : Addr) (fd : FuncData) (ps : List Str), FnOk P w K mg base CX0 k f fd ps sp ∧ Sm K C x f ∧ PySem.W.fnIn K f = true ∧ Binds K fd ps []
structure MthS (P : Program) (w : World) (K : PySem.W.Frag) (mg : Str → Option Value) (base : Heap) (C : Addr) (k : Nat) (x : Str) (sp : Nat → Sp) : Prop where
  ex : ∃ (f : Addr) (fd : FuncData) (ps : List Str), FnS P w K mg base CX0 k f fd ps sp ∧ Sm K C x f ∧ PySem.W.fnIn K f = true ∧ Binds K fd ps []
section
variable {P : Program} {w : World} {K : PySem.W.Frag} {mg : Str → Option Value} {base : Heap} {C : Addr}
theorem DfM.cal {x qu : Str} {st : Stmt} {N ps : List Str} {k : Nat} {sp : Sp} (D : DfM K C x qu st ps) (S : FnScope N ps (defScope st)) (len : ∀ vs H Q E, sp vs H Q E → vs.length = ps.length)
    (body : ∀ (f : Addr) (cdv : Value) (A : Around) (outer : List Env) (s : Shared) (H : Hp) (vs : List V) (Q : VK) (E : XK), Room k (A.deeper (envOfC qu (defScope st) s.heap.objs.size f cdv)) → sp vs H Q E →
      ∃ t, PSs (cxOf CX0 P w K mg base N qu (defScope st) f cdv A outer s H E).nox (defBody st) t ∧ t { nx := fun _ H' => Q .non H', rt := Q } (start N vs) H) : Mth P w K mg base C (k + 1) x sp := by
  obtain ⟨f, fd, hm, hfn, F, b⟩ := D.ex
  exact ⟨f, fd, ps, F.ok S len (body f), hm, hfn, b⟩
end
section
variable {X : Cx} {C : Addr} {k j : Nat} {sp : Sp}
theorem op_inM (m : Mth X.prog X.w X.K X.mg X.base C k "__contains__" sp) (hr : Room j X.A) (hk : k ≤ j) : OpR X (compareOp .In) (rInO false C sp E0) := by
  obtain ⟨f, fd, ps, F, s, _, b⟩ := m.ex
  exact op_inO s F (hr.mono hk) b pass0
theorem op_notInM (m : Mth X.prog X.w X.K X.mg X.base C k "__contains__" sp) (hr : Room j X.A) (hk : k ≤ j) : OpR X (compareOp .NotIn) (rInO true C sp E0) := by
  obtain ⟨f, fd, ps, F, s, _, b⟩ := m.ex
  exact op_notInO s F (hr.mono hk) b pass0
theorem pe_ixM {a b : Expr} {ta tb : TE} {pos : Pos} (m : Mth X.prog X.w X.K X.mg X.base C k "__getitem__" sp) (hr : Room j X.A) (hk : k + 1 ≤ j) (ha : PE X a ta) (hb : PE X b tb)
    (hsl : ∀ (q : Addr) (i : Value), subscripted b true (.ref q) i = runValue (.builtin "lifetime.subscript" ⟨[.ref q, i], []⟩) := by intro _ _; with_unfolding_all rfl) : PE X (.Subscript a b pos) (tIxO C sp E0 ta tb) := by
  obtain ⟨f, fd, ps, F, s, fn, bd⟩ := m.ex
  exact pe_ixO s fn F (hr.mono hk) bd pass0 ha hb hsl
theorem call_lenM (m : Mth X.prog X.w X.K X.mg X.base C k "__len__" sp) (hr : Room j X.A) (hk : k + 1 ≤ j) : CallR X (.builtin "len") (rLenO C sp E0) := by
  obtain ⟨f, fd, ps, F, s, _, b⟩ := m.ex
  exact call_lenO s F (hr.mono hk) b pass0
theorem op_eqML (R : RecK X.K X.mg C) (m : Mth X.prog X.w X.K X.mg X.base C k "__eq__" sp) (hr : Room j X.A) (hk : k ≤ j) : OpR X (compareOp .Eq) (rEqOL X.K C sp E0) := by
  obtain ⟨f, fd, ps, F, s, _, b⟩ := m.ex
  exact op_eqOL s R.sI F (hr.mono hk) b pass0
theorem op_eqMR (R : RecK X.K X.mg C) (m : Mth X.prog X.w X.K X.mg X.base C k "__eq__" sp) (hr : Room j X.A) (hk : k ≤ j) : OpR X (compareOp .Eq) (rEqOR C sp E0) := by
  obtain ⟨f, fd, ps, F, s, _, b⟩ := m.ex
  exact op_eqOR s R.sR F (hr.mono hk) b pass0
theorem pi_ownM {tg e : Expr} {te : TE} (R : RecK X.K X.mg C) (m : MthS X.prog X.w X.K X.mg X.base C k "__iter__" (spIt X.K)) (hr : Room j X.A) (hk : k ≤ j) (he : PE X e te) : PI X tg e (iOwn X.K te C) := by
  obtain ⟨f, fd, ps, F, s, _, b⟩ := m.ex
  exact pi_own s R.cl R.nN F (hr.mono hk) b pass0 he
theorem ps_no {st : Stmt} : PS X st (fun _ _ _ => False) := ⟨fun _ _ _ _ _ _ h => h.elim⟩
theorem pe_no {e : Expr} : PE X e (fun _ _ _ => False) := ⟨fun _ _ _ _ _ _ h => h.elim⟩
end
end Lw
namespace Lw
open PySem PySem.Spec PyProof.Rows L2 GrT GrOwn
/-! ### the record's own defs -/
def spContains (C : Addr) : Sp := fun vs H Q _ => ∃ (a : Addr) (l : List (Str × V)) (z : Int) (x : Str), vs = [.ref a, .str x] ∧ RA (fun _ => True) C H a l z ∧ Q (.bl (look x l).isSome) H
def spLen (C : Addr) : Sp := fun vs H Q _ => ∃ (a : Addr) (l : List (Str × V)) (z : Int), vs = [.ref a] ∧ RA (fun _ => True) C H a l z ∧ Q (.int l.length) H
def spGet (C : Addr) : Sp := fun vs H Q _ => ∃ (a : Addr) (l : List (Str × V)) (z : Int) (x : Str) (v : V), vs = [.ref a, .str x] ∧ RA (fun _ => True) C H a l z ∧ look x l = some v ∧ Q v H
def spSize (C : Addr) : Sp := fun vs H Q _ => ∃ (a dx tp d : Addr) (z : Int), vs = [.ref a] ∧ H a = some (.ins C dx (rf tp d z)) ∧ Q (.int z) H
def spEq (C : Addr) : Sp := fun vs H Q _ => ∃ (a : Addr) (i : Int), vs = [.ref a, .int i] ∧ Q (.bl false) H
/-- how many fields a value has, as the program asks it -/
def SzV (C : Addr) (H : Hp) (v : V) (z : Int) : Prop := (∃ i, v = .int i ∧ z = 0) ∨ ∃ a dx tp d, v = .ref a ∧ H a = some (.ins C dx (rf tp d z))
def spVs (C : Addr) : Sp := fun vs H Q _ => ∃ (v : V) (z : Int), vs = [v] ∧ SzV C H v z ∧ Q (.int z) H
section
variable {P : Program} {w : World} {K : PySem.W.Frag} {mg : Str → Option Value} {base : Heap} {C : Addr}
theorem scContains : FnScope ["self", "name"] ["self", "name"] (defScope sContains) := ⟨rfl, rfl, rfl, by decide +kernel, rfl, by decide +kernel, by decide +kernel⟩
theorem scLen : FnScope ["self"] ["self"] (defScope sLen) := ⟨rfl, rfl, rfl, by decide +kernel, rfl, by decide +kernel, by decide +kernel⟩
theorem scGet : FnScope ["self", "name"] ["self", "name"] (defScope sGet) := ⟨rfl, rfl, rfl, by decide +kernel, rfl, by decide +kernel, by decide +kernel⟩
theorem scSize : FnScope ["self"] ["self"] (defScope sSize) := ⟨rfl, rfl, rfl, by decide +kernel, rfl, by decide +kernel, by decide +kernel⟩
theorem scIter : FnScope ["self"] ["self"] (defScope sIter) := ⟨rfl, rfl, rfl, by decide +kernel, rfl, by decide +kernel, by decide +kernel⟩
theorem scEq : FnScope ["self", "other"] ["self", "other"] (defScope sEq) := ⟨rfl, rfl, rfl, by decide +kernel, rfl, by decide +kernel, by decide +kernel⟩
theorem scValueSize : FnScope ["value"] ["value"] (defScope sValueSize) := ⟨rfl, rfl, rfl, by decide +kernel, rfl, by decide +kernel, by decide +kernel⟩
theorem m_contains (R : RecK K mg C) (D : DfM K C "__contains__" "Record.__contains__" sContains ["self", "name"]) : Mth P w K mg base C 1 "__contains__" (spContains C) := by
  refine D.cal scContains (fun vs H Q E h => ?_) (fun f cdv A outer s H vs Q E hr h => ?_)
  · obtain ⟨a, l, z, x, rfl, _⟩ := h
    rfl
  · obtain ⟨a, l, z, x, rfl, ⟨⟨dx, tp, d, _, e1, e2, e3⟩, _, _⟩, q⟩ := h
    have hu := hu_of hr
    refine ⟨_, (pss_one (ps_ret (pe_cmp (pc_din hu (pv 1) (pe_fld (pv 0) rfl))))), ?_⟩
    refine ⟨_, rfl, _, rfl, a, C, dx, _, _, rfl, e1, R.cl, R.nF, rf_fields _ _ _, d, _, rfl, DGet.k (k := Sum.inr x) e3, ?_⟩
    rw [dk_val]
    exact q
theorem m_len (T : Bt mg) (R : RecK K mg C) (D : DfM K C "__len__" "Record.__len__" sLen ["self"]) : Mth P w K mg base C 1 "__len__" (spLen C) := by
  refine D.cal scLen (fun vs H Q E h => ?_) (fun f cdv A outer s H vs Q E hr h => ?_)
  · obtain ⟨a, l, z, rfl, _⟩ := h
    rfl
  · obtain ⟨a, l, z, rfl, ⟨⟨dx, tp, d, _, e1, e2, e3⟩, _, _⟩, q⟩ := h
    refine ⟨_, (pss_one (ps_ret (pe_callB call_lenD (by rfl) T.b_len PySem.boot_len (pa_cons (pe_fld (pv 0) rfl) pa_nil)))), ?_⟩
    refine ⟨_, rfl, a, C, dx, _, _, rfl, e1, R.cl, R.nF, rf_fields _ _ _, d, _, rfl, e3, ?_⟩
    rw [dk_len]
    exact q
theorem m_get (R : RecK K mg C) (D : DfM K C "__getitem__" "Record.__getitem__" sGet ["self", "name"]) : Mth P w K mg base C 1 "__getitem__" (spGet C) := by
  refine D.cal scGet (fun vs H Q E h => ?_) (fun f cdv A outer s H vs Q E hr h => ?_)
  · obtain ⟨a, l, z, x, v, rfl, _⟩ := h
    rfl
  · obtain ⟨a, l, z, x, v, rfl, ⟨⟨dx, tp, d, _, e1, e2, e3⟩, _, _⟩, hv, q⟩ := h
    have hu := hu_of hr
    refine ⟨_, (pss_cons (ps_if (pt_cmp (pc_dnotin hu (pv 1) (pe_fld (pv 0) rfl)))
      (pss_one ps_no)
      pss_nil)
      (pss_one (ps_ret (pe_dget hu (pe_fld (pv 0) rfl) (pv 1) (fun _ _ => rfl))))), ?_⟩
    have hg : valV (dk l) (Sum.inr x : Key) = some v := by rw [dk_val, hv]
    have hd := DGet.k (k := Sum.inr x) e3
    rw [hg] at hd
    exact ⟨_, rfl, _, rfl, a, C, dx, _, _, rfl, e1, R.cl, R.nF, rf_fields _ _ _, d, some v, rfl, hd, _, rfl, iteF ⟨_, rfl, a, C, dx, _, _, rfl, e1, R.cl, R.nF, rf_fields _ _ _, _, rfl, d, v, rfl, hd, q⟩⟩
theorem fn_size (R : RecK K mg C) {f : Addr} {fd : FuncData} (F : L2.Fun K "size" "Record.size" sSize f fd) : FnOk P w K mg base CX0 1 f fd ["self"] (spSize C) := by
  refine F.ok scSize (fun vs H Q E h => ?_) (fun cdv A outer s H vs Q E hr h => ?_)
  · obtain ⟨a, dx, tp, d, z, rfl, _⟩ := h
    rfl
  · obtain ⟨a, dx, tp, d, z, rfl, e1, q⟩ := h
    refine ⟨_, (pss_one (ps_ret (pe_fld (pv 0) rfl))), ?_⟩
    exact ⟨_, rfl, a, C, dx, _, _, rfl, e1, R.cl, R.nS, rf_size _ _ _, q⟩
theorem m_iter (hi : mg "iter" = none) (R : RecK K mg C) (D : DfM K C "__iter__" "Record.__iter__" sIter ["self"]) : MthS P w K mg base C 1 "__iter__" (spIt K) := by
  obtain ⟨f, fd, hm, hfn, F, b⟩ := D.ex
  refine ⟨f, fd, ["self"], Fun.okS F scIter (fun n vs H Q E h => ?_) (fun cdv A outer s H vs Q E hr h => ?_), hm, hfn, b⟩
  · obtain ⟨a, C, dx, fs, t, zs, rfl, _⟩ := h
    rfl
  · obtain ⟨a, C, dx, fs, t, zs, rfl, e1, cl, na, el, hq, q⟩ := h
    refine ⟨_, (pss_one (ps_ret (pe_callB call_iterT (by rfl) hi (by decide +kernel) (pa_cons (pe_fld (pv 0) rfl) pa_nil)))), ?_⟩
    exact ⟨_, rfl, a, C, dx, _, _, rfl, e1, cl, na, el, t, zs, rfl, hq, fun it h1 h2 => q it h1 h2⟩
theorem m_eq (T : Bu mg) (R : RecK K mg C) (D : DfM K C "__eq__" "Record.__eq__" sEq ["self", "other"]) : Mth P w K mg base C 1 "__eq__" (spEq C) := by
  refine D.cal scEq (fun vs H Q E h => ?_) (fun f cdv A outer s H vs Q E hr h => ?_)
  · obtain ⟨a, i, rfl, _⟩ := h
    rfl
  · obtain ⟨a, i, rfl, q⟩ := h
    refine ⟨_, (pss_one (ps_ret (pe_and (pe_callB call_isi (by rfl) T.b_isinstance bo_isinstance (pa_cons (pv 1) (pa_cons (pe_glob (by rfl) R.mgC (v := .ref C) rfl) pa_nil))) pe_no))), ?_⟩
    exact ⟨_, rfl, _, _, _, _, _, rfl, .own C, .base (.int i), R.kI, _, rfl, iteF q⟩
theorem pe_size {X : Cx} {e : Expr} {pos : Pos} {ta : TE} {p g : Addr} {fd : FuncData} {j : Nat} (R : RecK X.K X.mg C) (hp : PropOf X.K C "size" p g) (F : L2.Fun X.K "size" "Record.size" sSize g fd) (b : Binds X.K fd ["self"] []) (hr : Room j X.A) (hk : 2 ≤ j) (he : PE X e ta)
    (hab : attributeBase e "size" X.env (eval e X.env) = eval e X.env) : PE X (.Attribute e "size" pos) (tProp C (spSize C) [] E0 ta) :=
  pe_prop he R.cl hp (fn_size R F) (hr.mono hk) b .nil pass0 hab
/-- the property, as the top has made it -/
structure PrK (K : PySem.W.Frag) (C : Addr) : Prop where
  ex : ∃ p g fd, PropOf K C "size" p g ∧ L2.Fun K "size" "Record.size" sSize g fd ∧ Binds K fd ["self"] []
theorem pe_sizeK {X : Cx} {e : Expr} {pos : Pos} {ta : TE} {j : Nat} (R : RecK X.K X.mg C) (h : PrK X.K C) (hr : Room j X.A) (hk : 2 ≤ j) (he : PE X e ta)
    (hab : attributeBase e "size" X.env (eval e X.env) = eval e X.env) : PE X (.Attribute e "size" pos) (tProp C (spSize C) [] E0 ta) := by
  obtain ⟨p, g, fd, hp, F, b⟩ := h.ex
  exact pe_size R hp F b hr hk he hab
theorem c_value_size (T : Bu mg) (R : RecK K mg C) (pr : PrK K C) (D : Dfn K mg "value_size" sValueSize ["value"]) : Cal P w K mg base 3 "value_size" (spVs C) := by
  refine D.cal scValueSize (fun vs H Q E h => ?_) (fun f cdv A outer s H vs Q E hr h => ?_)
  · obtain ⟨v, z, rfl, _⟩ := h
    rfl
  · obtain ⟨v, z, rfl, hv, q⟩ := h
    refine ⟨_, (pss_one (ps_ret (pe_ifExp (pt_val (pe_callB call_isi (by rfl) T.b_isinstance bo_isinstance (pa_cons (pv 0) (pa_cons (pe_glob (by rfl) R.mgC (v := .ref C) rfl) pa_nil)))) (pe_sizeK R pr hr (by decide) (pv 0) rfl) pe_int))), ?_⟩
    rcases hv with ⟨i, rfl, rfl⟩ | ⟨a, dx, tp, d, rfl, e1⟩
    · exact ⟨_, rfl, _, _, _, _, _, rfl, .own C, .base (.int i), R.kI, _, rfl, iteF q⟩
    · exact ⟨_, rfl, _, _, _, _, _, rfl, .own C, R.ty e1, R.kRC, _, rfl, iteT ⟨_, rfl, a, dx, _, rfl, e1, a, dx, tp, d, z, rfl, e1, q⟩⟩
end
end Lw
namespace Lw
open PySem PySem.Spec PyProof.Rows L2 GrT GrOwn
def spIsName : Sp := fun vs H Q _ => ∃ x : Str, vs = [.str x] ∧ Good x ∧ ∀ H', Same H H' → Q (.bl true) H'
theorem a_tl : (Str.ofString "a").cps.toList = [97] := by decide +kernel
theorem z_tl : (Str.ofString "z").cps.toList = [122] := by decide +kernel
theorem ge_a {c : Nat} (h : letter c) : (!decide ((⟨#[c]⟩ : Str).cps.toList < (Str.ofString "a").cps.toList)) = true := by
  rw [a_tl, Bool.not_eq_true', decide_eq_false_iff_not]
  show ¬ ([c] < [97])
  intro q
  have h' := h.1
  rcases List.cons_lt_cons_iff.mp q with e | ⟨_, e⟩
  · omega
  · exact absurd e (List.not_lt_nil _)
theorem le_z {c : Nat} (h : letter c) : (!decide ((Str.ofString "z").cps.toList < (⟨#[c]⟩ : Str).cps.toList)) = true := by
  rw [z_tl, Bool.not_eq_true', decide_eq_false_iff_not]
  show ¬ ([122] < [c])
  intro q
  have h' := h.2
  rcases List.cons_lt_cons_iff.mp q with e | ⟨_, e⟩
  · omega
  · exact absurd e (List.not_lt_nil _)
section
variable {P : Program} {w : World} {K : PySem.W.Frag} {mg : Str → Option Value} {base : Heap} {C : Addr}
theorem scIsName : FnScope ["text", "letter"] ["text"] (defScope sIsName) := ⟨rfl, rfl, rfl, by decide +kernel, rfl, by decide +kernel, by decide +kernel⟩
theorem c_is_name (T : Bu mg) (ba : mg "all" = none) {tL : Tok} (hL : mg "LONGEST_NAME" = some (.int 30 tL)) (D : Dfn K mg "is_name" sIsName ["text"]) : Cal P w K mg base 1 "is_name" spIsName := by
  refine D.cal scIsName (fun vs H Q E h => ?_) (fun f cdv A outer s H vs Q E hr h => ?_)
  · obtain ⟨x, rfl, _⟩ := h
    rfl
  · obtain ⟨x, rfl, ⟨g1, g2, g3⟩, q⟩ := h
    refine ⟨_, (pss_one (ps_ret (pe_and (pe_chain op_le op_le pe_int (pe_callB call_len_str (by rfl) T.b_len PySem.boot_len (pa_cons (pv 0) pa_nil)) (pe_glob (by rfl) hL (v := .int 30) ⟨tL, rfl⟩))
      (pe_one (pe_callB (cr_all rfl) (by rfl) ba (by decide +kernel) (pa_cons (pe_lc (own := [("letter", 1)]) (g := gName 1) (tt := tYes) rfl scIsName.nd (pi_str (pv 0)) (blkOk_by (own := [("letter", 1)]) (N := ["text", "letter"]) (sc := defScope sIsName) (by decide +kernel)) (fun _ _ _ _ _ => pg_name (i := 1) scIsName.nd rfl (Or.inl rfl)) (fun _ _ _ _ _ => pts_nil) (fun _ _ _ _ _ => (by exact (pe_chain op_le_str op_le_str pe_str (pv 1) pe_str)))) pa_nil)))))), ?_⟩
    refine ⟨_, rfl, x, rfl, line_big (by omega), _, _, rfl, rfl, _, rfl, ?_⟩
    rw [if_pos (decide_eq_true (by omega))]
    refine ⟨_, _, rfl, rfl, _, rfl, ?_⟩
    rw [if_pos (decide_eq_true (by omega))]
    refine ⟨_, rfl, _, rfl, fun Z hZ => lc_it walk_str (fun i H5 => H5 Z = some (.lst ((List.replicate i true).map V.bl)) ∧ Same H H5) ⟨upd_same, Same.new (Same.refl _) hZ⟩ (fun _ _ _ _ => True.intro) ?_ ?_⟩
    · rintro i y H5 H6 hi ⟨eZ, sm⟩ ⟨rfl, c, hc, rfl⟩
      have lc : letter c := g3 c (by
        rw [← Array.getElem?_toList] at hc
        exact List.mem_of_getElem? hc)
      have hsz : x.cps.size = x.length := rfl
      refine ⟨rfl, iteT (A := _) (B := True) (iteT ⟨_, rfl, _, _, rfl, rfl, _, rfl, ?_⟩)⟩
      rw [if_pos (ge_a lc)]
      refine ⟨_, _, rfl, rfl, _, eZ, line_big (by rw [List.length_map, List.length_replicate]; omega), ?_, ?_⟩
      · rw [upd_same, le_z lc, List.replicate_succ', List.map_append]
        rfl
      · intro b o e
        rw [upd_ne (ne_of_none e hZ)]
        exact sm b o e
    · rintro H5 ⟨eZ, sm⟩
      refine ⟨Z, _, rfl, .of eZ, ?_⟩
      have e : (List.replicate x.cps.size true).all id = true := by
        rw [List.all_eq_true]
        intro b hb
        rw [List.eq_of_mem_replicate hb]
        rfl
      rw [e]
      exact q _ sm
end
end Lw
namespace Lw
open PySem PySem.Spec PyProof.Rows L2 GrT GrOwn
section
variable {J : It} {n : Nat} {G : Hp → Prop} {Y : Nat → Hp → V → Hp → Prop}
/-- the loop of a dict comprehension, Pv by the turn and the heap -/
theorem dc_it (w : Walk J n G Y) {g : TG} {tt : TT} {tk tv : TE} {vs : List Nat} {σ : L2.St} {H1 : Hp} {D : Addr} {Qd : Hp → Prop} (Pv : Nat → Hp → Prop) (h0 : Pv 0 (upd H1 D (.dK []))) (hG : ∀ i H, i ≤ n → Pv i H → G H)
    (hs : ∀ i x H H', i < n → Pv i H → Y i H x H' → g x (wipe σ vs) H' fun σ2 H2 => wipe σ2 vs = wipe σ vs ∧ tt σ2 H2 fun b H3 =>
      if b = true then tk σ2 H3 fun y H4 => tv σ2 H4 fun z H5 => ∃ kvs k, y = kV k ∧ H5 D = some (.dK kvs) ∧ kvs.length < sizeLine ∧ Pv (i + 1) (upd H5 D (.dK (putK kvs k z))) else Pv (i + 1) H3) (hd : ∀ H, Pv n H → Qd H) :
    ∃ W : Nat → Nat → Hp → Prop, (∃ m, W 0 m (upd H1 D (.dK []))) ∧ ∀ i m H, W i m H →
      (J.stop i H ∧ Qd H) ∨ (J.go i H ∧ ∃ Nx : Hp → Prop, (∀ H', Nx H' → ∃ m', m' < m ∧ W (i + 1) m' H') ∧ ∀ x H', J.yld i H x H' → g x (wipe σ vs) H' fun σ2 H2 => wipe σ2 vs = wipe σ vs ∧ tt σ2 H2 fun b H3 =>
        if b = true then tk σ2 H3 fun y H4 => tv σ2 H4 fun z H5 => ∃ kvs k, y = kV k ∧ H5 D = some (.dK kvs) ∧ kvs.length < sizeLine ∧ Nx (upd H5 D (.dK (putK kvs k z))) else Nx H3) := by
  refine ⟨fun i m H => m = n - i ∧ i ≤ n ∧ Pv i H, ⟨n, by simp, Nat.zero_le _, h0⟩, ?_⟩
  rintro i m H ⟨rfl, hi, p⟩
  have q := hG i H hi p
  by_cases hlt : i < n
  · exact .inr ⟨w.goes i H hlt q, Pv (i + 1), fun H' p' => ⟨n - (i + 1), by omega, rfl, hlt, p'⟩, fun x H' y => hs i x H H' hlt p (w.yields i H x H' hlt q y)⟩
  · have e : i = n := by omega
    subst e
    exact .inl ⟨w.stops H q, hd H p⟩
end
theorem sum_perm {α : Type} {f : α → Int} {l m : List α} (h : l.Perm m) : (l.map f).sum = (m.map f).sum := by
  induction h with
  | nil => rfl
  | cons x _ ih => rw [List.map_cons, List.map_cons, List.sum_cons, List.sum_cons, ih]
  | swap x y l =>
    simp only [List.map_cons, List.sum_cons]
    omega
  | trans _ _ ih1 ih2 => rw [ih1, ih2]
def spInit (C : Addr) : Sp := fun vs H Q _ => ∃ (a dx d0 : Addr) (l0 : List (Str × V)) (sz : Str → Int), vs = [.ref a, .ref d0] ∧ H a = some (.ins C dx []) ∧ H d0 = some (.dK (dk l0)) ∧ (names l0).Nodup ∧ l0.length ≤ 40 ∧
  (∀ x v, look x l0 = some v → SzV C H v (sz x)) ∧
  ∀ (l : List (Str × V)) H', RA (fun b => b = a ∨ H b = none) C H' a l (l0.length + ((names l0).map sz).sum) → (names l).Perm (names l0) → (∀ x, look x l = look x l0) → Fx a H H' → Q .non H'
section
variable {P : Program} {w : World} {K : PySem.W.Frag} {mg : Str → Option Value} {base : Heap} {C : Addr}
theorem scInit : FnScope ["self", "fields", "names", "name"] ["self", "fields"] (defScope sInit) := ⟨rfl, rfl, rfl, by decide +kernel, rfl, by decide +kernel, by decide +kernel⟩
theorem fn_init (T : Bu mg) (R : RecK K mg C) (c_value_size : Cal P w K mg base 3 "value_size" (spVs C)) {f : Addr} {fd : FuncData} (F : L2.Fun K "__init__" "Record.__init__" sInit f fd) : FnOk P w K mg base CX0 4 f fd ["self", "fields"] (spInit C) := by
  refine F.ok scInit (fun vs H Q E h => ?_) (fun cdv A outer s H vs Q E hr h => ?_)
  · obtain ⟨a, dx, d0, l0, sz, rfl, _⟩ := h
    rfl
  · obtain ⟨a, dx, d0, l0, sz, rfl, ea, ed, nd, hl, hsz, q⟩ := h
    have hu := hu_of hr
    refine ⟨_, (pss_cons (ps_set (i := 2) scInit.nd rfl (Or.inl rfl) (pe_callB cr_sortedS (by rfl) T.b_sorted bo_sorted (pa_cons (pe_lock (pe_lc (own := [("name", 3)]) (g := gName 3) (tt := tYes) rfl scInit.nd (pi_keys (pv 1)) (blkOk_by (own := [("name", 3)]) (N := ["self", "fields", "names", "name"]) (sc := defScope sInit) (by decide +kernel)) (fun _ _ _ _ _ => pg_name (i := 3) scInit.nd rfl (Or.inl rfl)) (fun _ _ _ _ _ => pts_nil) (fun _ _ _ _ _ => (by exact (pe_callTy SkE.call_str_str (by rfl) T.b_str bo_str (pa_cons (pv 3) pa_nil)))))) pa_nil)))
      (pss_cons (ps_fld (pv 0) (pe_callTy call_tuple_of (by rfl) T.b_tuple bo_tuple (pa_cons (pv 2) pa_nil)) rfl)
      (pss_cons (ps_fld (pv 0) (pe_dc (own := [("name", 3)]) (g := gName 3) (tt := tYes) rfl scInit.nd (pi_list (pv 2)) (blkOk_by (own := [("name", 3)]) (N := ["self", "fields", "names", "name"]) (sc := defScope sInit) (by decide +kernel)) (fun _ _ _ _ _ => pg_name (i := 3) scInit.nd rfl (Or.inl rfl)) (fun _ _ _ _ _ => pts_nil) (fun _ _ _ _ _ => (by exact (pv 3))) (fun _ _ _ _ _ => (by exact (pe_dget hu (pv 1) (pv 3) (fun _ _ => rfl))))) rfl)
      (pss_one (ps_fld (pv 0) (pe_op op_add (pe_callB call_len_seq (by rfl) T.b_len PySem.boot_len (pa_cons (pv 2) pa_nil)) (pe_callB (cr_sum rfl) (by rfl) T.b_sum bo_sum (pa_cons (pe_lc (own := [("name", 3)]) (g := gName 3) (tt := tYes) rfl scInit.nd (pi_list (pv 2)) (blkOk_by (own := [("name", 3)]) (N := ["self", "fields", "names", "name"]) (sc := defScope sInit) (by decide +kernel)) (fun _ _ _ _ _ => pg_name (i := 3) scInit.nd rfl (Or.inl rfl)) (fun _ _ _ _ _ => pts_nil) (fun _ _ _ _ _ => (by exact (pe_c c_value_size hr (by decide) rfl (pa_cons (pe_dget hu (pv 1) (pv 3) (fun _ _ => rfl)) pa_nil))))) pa_nil))) rfl))))), ?_⟩
    refine ⟨d0, .dK (dk l0), ed, True.intro, fun od => ⟨_, rfl, d0, od, rfl, .inl ⟨_, upd_same, fun Z hZ => lc_it walk_keys (fun i H5 => H5 Z = some (.lst (((names l0).take i).map V.str)) ∧ Same (upd H d0 (.frz od (.dK (dk l0)))) H5)
      ⟨upd_same, Same.new (Same.refl _) hZ⟩ ?_ ?_ ?_⟩⟩⟩
    · rintro i H5 _ ⟨_, sm⟩
      exact sm _ _ upd_same
    · rintro i x H5 H6 hi ⟨eZ, sm⟩ ⟨rfl, k', v', hk, rfl⟩
      obtain ⟨x, rfl, hx⟩ := dk_at hk
      refine ⟨rfl, iteT (A := _) (B := True) (iteT ⟨_, rfl, x, rfl, _, eZ, line_big (by rw [List.length_map, List.length_take, show (names l0).length = l0.length from List.length_map _]; omega), ?_, ?_⟩)⟩
      · have hn : (names l0)[i]? = some x := by rw [List.getElem?_map, hx]; rfl
        rw [upd_same, List.take_add_one, hn]
        simp
      · intro b o e
        rw [upd_ne (ne_of_none e hZ)]
        exact sm b o e
    · rintro H5 ⟨eZ, sm⟩
      have hn : (names l0).length = l0.length := List.length_map _
      rw [dk_len, ← hn, List.take_length] at eZ
      have ea5 := sm _ _ (upd_same (H := H) (a := d0) (o := .frz od (.dK (dk l0))))
      have aZ : Z ≠ d0 := (ne_of_none upd_same hZ).symm
      refine ⟨ea5, Z, _, rfl, .of (by rw [upd_ne aZ]; exact eZ), by rw [hn]; omega, fun ys W pm so hW => ?_⟩
      have s1 : Same H (upd H5 d0 (.dK (dk l0))) := Same.unlock ed sm
      have s2 : Same H (upd (upd H5 d0 (.dK (dk l0))) W (.lst (ys.map V.str))) := Same.new s1 hW
      have eW : (upd (upd H5 d0 (.dK (dk l0))) W (.lst (ys.map V.str))) W = some (.lst (ys.map V.str)) := upd_same
      generalize upd (upd H5 d0 (.dK (dk l0))) W (.lst (ys.map V.str)) = H1 at s2 eW ⊢
      clear sm s1 ea5 eZ hZ hW
      have hyl : ys.length = l0.length := by rw [pm.length_eq, hn]
      have ydn : ys.Nodup := pm.nodup_iff.mpr nd
      have ea1 := s2 _ _ ea
      have ed1 := s2 _ _ ed
      have da : d0 ≠ a := fun e => by
        rw [e, ea] at ed
        cases ed
      have Wa : W ≠ a := fun e => by
        rw [e, ea1] at eW
        cases eW
      -- self.names
      refine ⟨_, rfl, W, _, rfl, .inl ⟨SqL.of eW, fun tp htp => ?_⟩⟩
      have ta : tp ≠ a := (ne_of_none ea1 htp).symm
      have htp0 : H tp = none := s2.free htp
      have s3 : Same H (upd H1 tp (.tup (ys.map V.str))) := Same.new s2 htp
      have eW3 : (upd H1 tp (.tup (ys.map V.str))) W = some (.lst (ys.map V.str)) := by
        rw [upd_ne (ne_of_none eW htp)]
        exact eW
      have et3 : (upd H1 tp (.tup (ys.map V.str))) tp = some (.tup (ys.map V.str)) := upd_same
      generalize upd H1 tp (.tup (ys.map V.str)) = H2 at s3 eW3 et3 ⊢
      refine ⟨_, rfl, a, C, dx, [], rfl, s3 _ _ ea, R.cl, R.nN, (by show 0 < 1000; decide), ?_⟩
      have x4 : Fx a H (upd H2 a (.ins C dx (putF "names" (.ref tp) []))) := fun b o nb e => by
        rw [upd_ne nb]
        exact s3 b o e
      have ea4 : (upd H2 a (.ins C dx (putF "names" (.ref tp) []))) a = some (.ins C dx (putF "names" (.ref tp) [])) := upd_same
      have eW4 : (upd H2 a (.ins C dx (putF "names" (.ref tp) []))) W = some (.lst (ys.map V.str)) := by
        rw [upd_ne Wa]
        exact eW3
      have et4 : (upd H2 a (.ins C dx (putF "names" (.ref tp) []))) tp = some (.tup (ys.map V.str)) := by
        rw [upd_ne ta]
        exact et3
      generalize upd H2 a (.ins C dx (putF "names" (.ref tp) [])) = H3 at x4 ea4 eW4 et4 ⊢
      clear s3 eW3 et3
      -- self._fields
      have get : ∀ x ∈ ys, ∃ v, look x l0 = some v := fun x hx => look_some (pm.mem_iff.mp hx)
      obtain ⟨l, hlY, hlL⟩ : ∃ l : List (Str × V), names l = ys ∧ ∀ p ∈ l, look p.1 l0 = some p.2 := by
        refine ⟨ys.map fun x => (x, (look x l0).getD .non), by simp [names, Function.comp_def], fun p hp => ?_⟩
        obtain ⟨x, hx, rfl⟩ := List.mem_map.mp hp
        obtain ⟨v, hv⟩ := get x hx
        show look x l0 = some ((look x l0).getD .non)
        rw [hv]
        rfl
      have hll : l.length = ys.length := by rw [← hlY]; simp [names]
      refine ⟨_, rfl, W, rfl, ⟨_, SqL.of eW4⟩, fun d hd => dc_it (walk_list (xs := ys.map V.str)) (fun i H5 => H5 d = some (.dK (dk (l.take i))) ∧ Same H3 H5) ⟨upd_same, Same.new (Same.refl _) hd⟩ (fun i H5 _ h => SqL.of (h.2 _ _ eW4)) ?_ ?_⟩
      · rintro i v H5 H6 hi ⟨eZ, sm⟩ ⟨rfl, hk⟩
        have hi2 : i < l.length := by
          rw [List.length_map] at hi
          omega
        obtain ⟨⟨x, u⟩, hx⟩ : ∃ p, l[i]? = some p := ⟨l[i], List.getElem?_eq_getElem hi2⟩
        have hyx : ys[i]? = some x := by
          rw [← hlY]
          show (l.map (·.1))[i]? = some x
          rw [List.getElem?_map, hx]
          rfl
        have ev : v = V.str x := by
          rw [List.getElem?_map, hyx] at hk
          exact (Option.some.inj hk).symm
        subst ev
        have hv := hlL _ (List.mem_of_getElem? hx)
        have hg : valV (dk l0) (Sum.inr x : Key) = some u := by rw [dk_val]; exact hv
        have ed5 : H6 d0 = some (.dK (dk l0)) := sm _ _ (x4 _ _ da ed)
        have hdg := DGet.k (k := Sum.inr x) ed5
        rw [hg] at hdg
        refine ⟨rfl, iteT (A := _) (B := True) (iteT ⟨_, rfl, _, rfl, _, rfl, d0, u, rfl, hdg, _, Sum.inr x, rfl, eZ, Nat.lt_of_lt_of_le (m := 100) (by rw [dk_len, List.length_take]; omega) (line_big (by decide)), ?_, ?_⟩)⟩
        · have hno : valV (dk (l.take i)) (Sum.inr x : Key) = none := by
            rw [dk_val, look_none]
            intro hm
            have e1 : names (l.take i) = (names l).take i := by simp [names, List.map_take]
            rw [e1, hlY] at hm
            obtain ⟨j, hj, ej⟩ := List.mem_take_iff_getElem.mp hm
            have hi3 : i < ys.length := by omega
            have e2 : ys[i] = x := by
              rw [List.getElem?_eq_getElem hi3] at hyx
              exact Option.some.inj hyx
            have := (List.getElem_inj ydn).mp (ej.trans e2.symm)
            omega
          rw [upd_same, putK_new _ hno, List.take_add_one, hx]
          simp [dk]
        · intro b o e
          rw [upd_ne (ne_of_none e hd)]
          exact sm b o e
      · rintro H5 ⟨eZ, sm⟩
        rw [List.length_map, ← hll, List.take_length] at eZ
        have ad : a ≠ d := ne_of_none ea4 hd
        have hd0 : H d = none := by
          cases e : H d with
          | none => rfl
          | some o =>
            rw [x4 d o ad.symm e] at hd
            cases hd
        have ea5 := sm _ _ ea4
        have et5 := sm _ _ et4
        have eW5 := sm _ _ eW4
        have x5 : Fx a H H5 := fun b o nb e => sm _ _ (x4 b o nb e)
        refine ⟨_, rfl, a, C, dx, _, rfl, ea5, R.cl, R.nF, (by show 1 < 1000; decide), ?_⟩
        have x6 : Fx a H (upd H5 a (.ins C dx (putF "_fields" (.ref d) (putF "names" (.ref tp) [])))) := fun b o nb e => by
          rw [upd_ne nb]
          exact x5 b o nb e
        have ea6 : (upd H5 a (.ins C dx (putF "_fields" (.ref d) (putF "names" (.ref tp) [])))) a = some (.ins C dx (putF "_fields" (.ref d) (putF "names" (.ref tp) []))) := upd_same
        have eW6 : (upd H5 a (.ins C dx (putF "_fields" (.ref d) (putF "names" (.ref tp) [])))) W = some (.lst (ys.map V.str)) := by
          rw [upd_ne Wa]
          exact eW5
        have et6 : (upd H5 a (.ins C dx (putF "_fields" (.ref d) (putF "names" (.ref tp) [])))) tp = some (.tup (ys.map V.str)) := by
          rw [upd_ne ta]
          exact et5
        have ed6 : (upd H5 a (.ins C dx (putF "_fields" (.ref d) (putF "names" (.ref tp) [])))) d = some (.dK (dk l)) := by
          rw [upd_ne ad.symm]
          exact eZ
        generalize upd H5 a (.ins C dx (putF "_fields" (.ref d) (putF "names" (.ref tp) []))) = H6 at x6 ea6 eW6 et6 ed6 ⊢
        -- self._size
        refine ⟨_, rfl, W, _, rfl, .inl (SqL.of eW6), _, rfl, W, rfl, ⟨_, SqL.of eW6⟩, fun Z hZ => lc_it (walk_list (xs := ys.map V.str)) (fun i H7 => H7 Z = some (.lst (((ys.map sz).take i).map V.int)) ∧ Same H6 H7) ⟨upd_same, Same.new (Same.refl _) hZ⟩ (fun i H7 _ h => SqL.of (h.2 _ _ eW6)) ?_ ?_⟩
        · rintro i v H7 H8 hi ⟨eZ7, sm7⟩ ⟨rfl, hk⟩
          have hi2 : i < ys.length := by
            rw [List.length_map] at hi
            exact hi
          obtain ⟨x, hyx⟩ : ∃ p, ys[i]? = some p := ⟨ys[i], List.getElem?_eq_getElem hi2⟩
          have ev : v = V.str x := by
            rw [List.getElem?_map, hyx] at hk
            exact (Option.some.inj hk).symm
          subst ev
          obtain ⟨u, hu2⟩ := get x (List.mem_of_getElem? hyx)
          have ed8 : H8 d0 = some (.dK (dk l0)) := sm7 _ _ (x6 _ _ da ed)
          have hdg := DGet.k (k := Sum.inr x) ed8
          rw [dk_val, hu2] at hdg
          have sv : SzV C H8 u (sz x) := by
            rcases hsz x u hu2 with h | ⟨b, dy, tq, dq, e1, e2⟩
            · exact .inl h
            · refine .inr ⟨b, dy, tq, dq, e1, sm7 _ _ (x6 b _ (fun e => ?_) e2)⟩
              rw [e, ea] at e2
              exact absurd (HO.ins.inj (Option.some.inj e2)).2.2 (by
                intro z
                have := congrArg (fun l => List.lookup ("_size" : Str) l) z
                simp only [rf_size] at this
                cases this)
          refine ⟨rfl, iteT (A := _) (B := True) (iteT ⟨_, rfl, _, rfl, d0, u, rfl, hdg, u, sz x, rfl, sv, _, eZ7, line_big (by rw [List.length_map, List.length_take, List.length_map]; omega), ?_, ?_⟩)⟩
          · rw [upd_same, List.take_add_one, List.getElem?_map, hyx]
            simp
          · intro b o e
            rw [upd_ne (ne_of_none e hZ)]
            exact sm7 b o e
        · rintro H7 ⟨eZ7, sm7⟩
          have hys : (ys.map sz).length = ys.length := List.length_map _
          rw [List.length_map, ← hys, List.take_length] at eZ7
          refine ⟨Z, _, rfl, .of eZ7, _, _, rfl, rfl, _, rfl, a, C, dx, _, rfl, sm7 _ _ ea6, R.cl, R.nS, (by show 2 < 1000; decide), ?_⟩
          have hz : ((ys.map V.str).length : Int) + (ys.map sz).sum = (l0.length : Int) + ((names l0).map sz).sum := by
            rw [List.length_map, hyl, sum_perm pm]
          refine q l _ ⟨⟨dx, tp, d, ⟨.inl rfl, .inr htp0, .inr hd0⟩, ?_, ?_, ?_⟩, by rw [hlY]; exact ydn, by rw [hlY]; exact so⟩ (by rw [hlY]; exact pm) (fun x => ?_) fun b o nb e => ?_
          · rw [upd_same, ← hz]
            rfl
          · rw [upd_ne ta, hlY]
            exact sm7 _ _ et6
          · rw [upd_ne ad.symm]
            exact sm7 _ _ ed6
          · cases e : look x l with
            | some v => exact (hlL _ (look_mem e)).symm
            | none =>
              refine (look_none.mpr fun hm => ?_).symm
              exact look_none.mp e (by rw [hlY]; exact pm.mem_iff.mpr hm)
          · rw [upd_ne nb]
            exact sm7 _ _ (x6 b o nb e)
end
end Lw
namespace Lw
open PySem PySem.Spec PyProof.Rows L2 GrT GrOwn
/-- the dicts of a tree all stand in the heap -/
theorem Tr.ex {S : Addr → Prop} {H : Hp} {L : Nat} : ∀ {n : Nat} {v : V} {t : T}, Tr S H L n v t → Tr (fun b => S b ∧ H b ≠ none) H L n v t
  | 0, _, _, h => h
  | n + 1, v, t, h => by
    rcases h with h | ⟨a, l, fs, e1, e2, es, e3, e4, e5⟩
    · exact .inl h
    · exact .inr ⟨a, l, fs, e1, e2, ⟨es, by rw [e3]; exact fun z => by cases z⟩, e3, e4, e5.imp fun _ _ _ q => Tr.ex q⟩
/-- a field's size by its name -/
def szf (fs : List (Str × T)) (x : Str) : Int := match look x fs with | some u => nf u | none => 0
theorem szf_sum : ∀ {gs fs : List (Str × T)}, (∀ p ∈ gs, look p.1 fs = some p.2) → ((names gs).map (szf fs)).sum + gs.length = nfs gs
  | [], _, _ => rfl
  | (x, t) :: r, fs, h => by
    have e : look x fs = some t := h (x, t) List.mem_cons_self
    have ih := szf_sum (gs := r) (fs := fs) fun p hp => h p (List.mem_cons_of_mem _ hp)
    have e2 : szf fs x = nf t := by
      unfold szf
      rw [e]
    show (szf fs x :: (names r).map (szf fs)).sum + ((r.length + 1 : Nat) : Int) = nfs ((x, t) :: r)
    rw [List.sum_cons, e2, nfs]
    omega
theorem nfs_len {fs : List (Str × T)} (nd : (names fs).Nodup) : (fs.length : Int) + ((names fs).map (szf fs)).sum = nfs fs := by
  have := szf_sum (gs := fs) (fs := fs) fun p hp => mem_look nd hp
  omega
theorem put_new {x : Str} {v : V} : ∀ {l : List (Str × V)}, x ∉ names l → put x v l = l ++ [(x, v)]
  | [], _ => rfl
  | (z, w) :: r, h => by
    have h' : z ≠ x ∧ x ∉ names r := ⟨fun e => h (by rw [← e]; exact List.mem_cons_self), fun e => h (List.mem_cons_of_mem _ e)⟩
    unfold put
    rw [if_neg h'.1, put_new h'.2]
    rfl
theorem Al.snoc {R : V → T → Prop} {l : List (Str × V)} {fs : List (Str × T)} {x : Str} {v : V} {t : T} (h : Al R l fs) (r : R v t) : Al R (l ++ [(x, v)]) (fs ++ [(x, t)]) := by
  induction h with
  | nil => exact .cons ⟨rfl, r⟩ .nil
  | cons a _ ih => exact .cons a ih
theorem Rc.sz {S : Addr → Prop} {C : Addr} {H : Hp} {n : Nat} {v : V} {t : T} (h : Rc S C H n v t) : SzV C H v (nf t) := by
  refine h.cases (fun i e1 e2 => .inl ⟨i, e1, by rw [e2, nf]⟩) fun k a l fs _ e1 e2 ra _ _ _ => ?_
  obtain ⟨⟨dx, tp, d, _, q, _⟩, _, _⟩ := ra
  exact .inr ⟨a, dx, tp, d, e1, by rw [e2, nf]; exact q⟩
def spMake (C : Addr) (n : Nat) : Sp := fun vs H Q _ => ∃ (v : V) (S : Addr → Prop) (fs : List (Str × T)), vs = [v] ∧ Tr S H 40 (n + 1) v (.fds fs) ∧ ∀ v' H', Rc (fun b => H b = none) C H' (n + 1) v' (.fds fs) → Same H H' → Q v' H'
def spMakeR (C : Addr) : Nat → Sp
  | 0 => spNo
  | n + 1 => spMake C n
/-- the static method, as the top has made it -/
structure StK (K : PySem.W.Frag) (C : Addr) : Prop where
  ex : ∃ p g fd, SMet K C (.type "type") "make" p g ∧ L2.Fun K "make" "Record.make" sMake g fd ∧ Binds K fd ["fields"] []
structure SCal (P : Program) (w : World) (K : PySem.W.Frag) (mg : Str → Option Value) (base : Heap) (C : Addr) (k : Nat) (sp : Sp) : Prop where
  ex : ∃ p g fd ps, SMet K C (.type "type") "make" p g ∧ FnOk P w K mg base CX0 k g fd ps sp ∧ Binds K fd ps []
/-- the class is made: its __init__ -/
structure InK (K : PySem.W.Frag) (C : Addr) : Prop where
  ex : ∃ f fd, Mk K C f ∧ L2.Fun K "__init__" "Record.__init__" sInit f fd ∧ Binds K fd ["self", "fields"] []
section
variable {X : Cx} {C : Addr} {k j : Nat} {sp : Sp} {o e : Expr} {es : List Expr} {pos apos : Pos} {ta : TE} {t : TA} {pl : Sem Bool}
theorem pe_smC (he : PE X o ta) (c : SCal X.prog X.w X.K X.mg X.base C k sp) (hr : Room j X.A) (hk : k ≤ j) (ha : PA X (e :: es) t)
    (hst : starEach (e :: es) X.env = (false, eval e X.env) :: starEach es X.env := by rfl) (hpl : (backTo pos (starEach es X.env)).any (·.1) = false := by rfl)
    (ht : eval (.Call (.Attribute o "make" apos) (e :: es) [] pos) X.env = (do
      let ov ← eval o X.env
      standAt apos.atName
      let (f, first) ← holding [ov] (getMethod ov "make" pl)
      callWith pos f first (backTo pos (starEach (e :: es) X.env)) (backToKw pos (keywordEach [] X.env))) := by rfl) :
    PE X (.Call (.Attribute o "make" apos) (e :: es) [] pos) (tSMet C sp E0 ta t) := by
  obtain ⟨p, g, fd, ps, m, F, b⟩ := c.ex
  exact pe_sm he m F (hr.mono hk) b pass0 ha hst hpl ht
theorem pe_new {p : Pos} (T : Bu X.mg) (R : RecK X.K X.mg C) (c_value_size : Cal X.prog X.w X.K X.mg X.base 3 "value_size" (spVs C)) (I : InK X.K C) (hr : Room j X.A) (hk : 5 ≤ j) (hg : Gl X "Record") (ha : PA X (e :: es) t)
    (he : starEach (e :: es) X.env = (false, eval e X.env) :: starEach es X.env := by rfl) (hpl : (backTo pos (starEach es X.env)).any (·.1) = false := by rfl) :
    PE X (.Call (.Name "Record" p) (e :: es) [] pos) (tMake C (spInit C) [] E0 t) := by
  obtain ⟨f, fd, M, F, b⟩ := I.ex
  exact pe_make M (fn_init T R c_value_size F) (hr.mono hk) hg R.mgC b .nil pass0 ha (by decide) he hpl
end
section
variable {P : Program} {w : World} {K : PySem.W.Frag} {mg : Str → Option Value} {base : Heap} {C : Addr}
theorem scMake : FnScope ["fields", "made", "name", "value"] ["fields"] (defScope sMake) := ⟨rfl, rfl, rfl, by decide +kernel, rfl, by decide +kernel, by decide +kernel⟩
theorem s_no {k : Nat} (D : StK K C) : SCal P w K mg base C (k + 1) spNo := by
  obtain ⟨p, g, fd, m, F, b⟩ := D.ex
  exact ⟨p, g, fd, _, m, F.ok scMake (fun _ _ _ _ h => h.elim) (fun _ _ _ _ _ _ _ _ _ h => h.elim), b⟩
theorem fn_make_step (T : Bu mg) (R : RecK K mg C) {pD g : Addr} {fd : FuncData} (mD : SMet K C (.type "type") "make" pD g) (F : L2.Fun K "make" "Record.make" sMake g fd) (bD : Binds K fd ["fields"] []) (I : InK K C) (c_value_size : Cal P w K mg base 3 "value_size" (spVs C)) (c_is_name : Cal P w K mg base 1 "is_name" spIsName) (n : Nat)
    (c_make : SCal P w K mg base C (n + 5) (spMakeR C n)) : FnOk P w K mg base CX0 (n + 6) g fd ["fields"] (spMake C n) := by
  refine F.ok scMake (fun vs H Q E h => ?_) (fun cdv A outer s H vs Q E hr h => ?_)
  · obtain ⟨v, S, fs, rfl, _⟩ := h
    rfl
  · obtain ⟨v, S, fs, rfl, tr, q⟩ := h
    have hu := hu_of hr
    refine ⟨_, (pss_cons (ps_set (i := 1) scMake.nd rfl (Or.inl rfl) pe_dnewK)
      (pss_cons (ps_lock (ps_for PassesOwn.never rfl (pi_items (pv 0)) (pg_tup rfl (pgs_cons (pg_name (i := 2) scMake.nd rfl (Or.inl rfl)) (pgs_cons (pg_name (i := 3) scMake.nd rfl (Or.inl rfl)) pgs_nil)))
      (pss_cons (ps_if (pt_not (pt_val (pe_c c_is_name hr (by omega) rfl (pa_cons (pv 2) pa_nil)))) (pss_one ps_no) pss_nil)
      (pss_one (ps_dput hu (pv 1) (pv 2) (pe_ifExp (pt_val (pe_callB call_isi (by rfl) T.b_isinstance bo_isinstance (pa_cons (pv 3) (pa_cons (pe_bltn (by rfl) T.b_dict bo_dict (v := .ty "dict") rfl) pa_nil)))) (pe_smC (pe_glob (by rfl) R.mgC (v := .ref C) rfl) c_make hr (by omega) (pa_cons (pv 3) pa_nil)) (pv 3)) rfl)))))
      (pss_one (ps_ret (pe_new T R c_value_size I hr (by omega) (by rfl) (pa_cons (pv 1) pa_nil)))))), ?_⟩
    refine tr.cases (fun i e1 e2 => by cases e2) (fun k a l fs' en e1 e2 sa ea wf al => ?_)
    cases en
    cases e2
    subst e1
    intro M hM
    have aM : a ≠ M := ne_of_none ea hM
    have s1 : Same H (upd H M (.dK [])) := Same.new (Same.refl _) hM
    have ea1 := s1 _ _ ea
    have eM1 : (upd H M (.dK [])) M = some (.dK (dk [])) := upd_same
    have al0 : Al (Tr (fun b => S b ∧ H b ≠ none) H 40 n) l fs := al.imp fun _ _ _ z => Tr.ex z
    have al1 : Al (Tr (fun b => (S b ∧ H b ≠ none)) (upd H M (.dK [])) 40 n) l fs := al0.imp fun _ _ _ z => Tr.same z s1
    have sa1 : (fun b => S b ∧ H b ≠ none) a := ⟨sa, by rw [ea]; exact fun z => by cases z⟩
    refine ⟨a, .dK (dk l), ea1, True.intro, fun od => ?_⟩
    have alB := al_away sa1 ea1 wf al1 (.frz od (.dK (dk l)))
    have eMB : (upd (upd H M (.dK [])) a (.frz od (.dK (dk l)))) M = some (.dK (dk [])) := by
      rw [upd_ne aM.symm]
      exact eM1
    have eaB : (upd (upd H M (.dK [])) a (.frz od (.dK (dk l)))) a = some (.frz od (.dK (dk l))) := upd_same
    have sB : ∀ b o, H b = some o → b ≠ a → (upd (upd H M (.dK [])) a (.frz od (.dK (dk l)))) b = some o := fun b o e nb => by
      rw [upd_ne nb]
      exact s1 b o e
    generalize upd (upd H M (.dK [])) a (.frz od (.dK (dk l))) = B at alB eMB eaB sB ⊢
    have hfl : fs.length ≤ 40 := wf.ln
    refine ⟨_, rfl, a, od, dk l, rfl, eaB, for_it walk_items (fun i σ H' => ∃ (nv vv : Option V) (lm : List (Str × V)), σ = [some (.ref a), some (.ref M), nv, vv] ∧ H' M = some (.dK (dk lm)) ∧ Al (Rc (fun b => H b = none ∧ b ≠ M) C H' n) lm (fs.take i) ∧ Fx M B H')
      ⟨none, none, [], rfl, eMB, .nil, Fx.refl⟩ ?_ ?_ ?_⟩
    · rintro i σ H' _ ⟨nv, vv, lm, _, _, _, x3⟩
      exact x3 _ _ aM eaB
    · rintro i x σ H' H2 hi ⟨nv, vv, lm, rfl, eM, ar, x3⟩ ⟨Tp, x1, y1, rfl, hT, rfl, hx1, hy1⟩
      have hi2 : i < l.length := by
        rw [dk_len] at hi
        exact hi
      obtain ⟨⟨x, v⟩, hx⟩ : ∃ p, l[i]? = some p := ⟨l[i], List.getElem?_eq_getElem hi2⟩
      have hd : (dk l)[i]? = some (Sum.inr x, v) := by
        unfold dk
        rw [List.getElem?_map, hx]
        rfl
      have hx2 : ((dk l)[i]?).map (fun kv => kV kv.1) = some x1 := hx1
      have hy2 : ((dk l)[i]?).map Prod.snd = some y1 := hy1
      rw [hd] at hx2 hy2
      cases hx2
      cases hy2
      obtain ⟨u, hu2, ru⟩ := Lw.Al.at alB hx
      have eT : (upd H' Tp (.tup [kV (Sum.inr x), v])) Tp = some (.tup [kV (Sum.inr x), v]) := upd_same
      have x4 : Fx M B (upd H' Tp (.tup [kV (Sum.inr x), v])) := x3.new hT
      have eM4 : (upd H' Tp (.tup [kV (Sum.inr x), v])) M = some (.dK (dk lm)) := by
        rw [upd_ne (ne_of_none eM hT)]
        exact eM
      have ar4 : Al (Rc (fun b => H b = none ∧ b ≠ M) C (upd H' Tp (.tup [kV (Sum.inr x), v])) n) lm (fs.take i) := ar.imp fun _ _ _ z => z.same (Same.new (Same.refl _) hT)
      generalize upd H' Tp (.tup [kV (Sum.inr x), v]) = H4 at eT x4 eM4 ar4 ⊢
      have gx : Good x := wf.gd (x, u) (List.mem_of_getElem? hu2)
      refine ⟨Tp, _, rfl, SqT.of eT, rfl, _, _, rfl, _, _, rfl, rfl, ?_⟩
      refine ⟨_, rfl, x, rfl, gx, fun H5 s5 => ⟨_, rfl, iteF ?_⟩⟩
      have x5 : Fx M B H5 := fun b o nb e => s5 _ _ (x4 b o nb e)
      have eM5 := s5 _ _ eM4
      have ar5 : Al (Rc (fun b => H b = none ∧ b ≠ M) C H5 n) lm (fs.take i) := ar4.imp fun _ _ _ z => z.same s5
      have ru5 : Tr (fun b => S b ∧ H b ≠ none) H5 40 n v u := ru.keep fun b kvs sb e => x5 b _ (fun z => sb.2 (by rw [z]; exact hM)) e
      have hno : x ∉ names lm := by
        rw [ar5.names]
        intro hm
        have e1 : names (fs.take i) = (names fs).take i := by simp [names, List.map_take]
        rw [e1] at hm
        obtain ⟨j, hj, ej⟩ := List.mem_take_iff_getElem.mp hm
        have e2 : (names fs)[i]? = some x := by rw [List.getElem?_map, hu2]; rfl
        have hi3 : i < (names fs).length := (List.getElem?_eq_some_iff.mp e2).1
        have e3 : (names fs)[i] = x := (List.getElem?_eq_some_iff.mp e2).2
        have := (List.getElem_inj wf.nd).mp (ej.trans e3.symm)
        omega
      have ndm : (names lm).Nodup := by
        rw [ar5.names]
        have e1 : names (fs.take i) = (names fs).take i := by simp [names, List.map_take]
        rw [e1]
        exact List.Nodup.sublist (List.take_sublist _ _) wf.nd
      have hml : (dk lm).length < sizeLine := by
        rw [dk_len, ar5.len, List.length_take]
        exact Nat.lt_of_lt_of_le (by omega : min i fs.length < 100) (line_big (by decide))
      have fin : ∀ (v' : V) (H6 : Hp), Rc (fun b => H b = none ∧ b ≠ M) C H6 n v' u → Same H5 H6 → ∃ H7, DPut H6 M (.str x) v' H7 ∧ ∃ lm', H7 M = some (.dK (dk lm')) ∧ Al (Rc (fun b => H b = none ∧ b ≠ M) C H7 n) lm' (fs.take (i + 1)) ∧ Fx M B H7 := by
        intro v' H6 r6 s6
        have eM6 := s6 _ _ eM5
        refine ⟨_, DPut.k (k := Sum.inr x) eM6 hml, lm ++ [(x, v')], ?_, ?_, fun b o nb e => by rw [upd_ne nb]; exact s6 _ _ (x5 b o nb e)⟩
        · rw [upd_same, dk_put x v' lm ndm, put_new hno]
        · rw [List.take_add_one, hu2]
          exact Al.snoc (ar5.imp fun _ _ _ z => (z.same s6).keep fun b o sb e _ => by rw [upd_ne sb.2]; exact e) (r6.keep fun b o sb e _ => by rw [upd_ne sb.2]; exact e)
      refine ru5.cases (fun j e1 e2 => ?_) (fun k ca cl cfs en e1 e2 cs ce cw cal => ?_)
      · subst e1 e2
        obtain ⟨H7, dp, lm', g1, g2, g3⟩ := fin (.int j) H5 (Rc.int j) (Same.refl _)
        exact ⟨_, rfl, _, _, _, _, _, rfl, .ty _, .base (.int j), rfl, _, rfl, iteF ⟨_, rfl, _, rfl, _, rfl, M, H7, rfl, dp, _, _, lm', rfl, g1, g2, g3⟩⟩
      · subst en e1 e2
        refine ⟨_, rfl, _, _, _, _, _, rfl, .ty _, .base (.dK ce), rfl, _, rfl, iteT ⟨rfl, _, rfl, .ref ca, _, cfs, rfl, ru5, fun v' H6 r6 s6 => ?_⟩⟩
        obtain ⟨H7, dp, lm', g1, g2, g3⟩ := fin v' H6 (r6.wid fun b hb => by
          refine ⟨?_, fun z => by rw [z, eM5] at hb; cases hb⟩
          cases e : H b with
          | none => rfl
          | some o =>
            by_cases q : b = a
            · have h2 := x5 _ _ aM eaB
              rw [q, h2] at hb
              cases hb
            · have h2 := x5 b o (fun z => by rw [z, hM] at e; cases e) (sB b o e q)
              rw [h2] at hb
              cases hb) s6
        exact ⟨_, rfl, _, rfl, M, H7, rfl, dp, _, _, lm', rfl, g1, g2, g3⟩
    · rintro σ H' ⟨nv, vv, lm, rfl, eM, ar, x3⟩
      have ell : (dk l).length = fs.length := by rw [dk_len, al.len]
      rw [ell, List.take_length] at ar
      have eaL : H' a = some (.frz od (.dK (dk l))) := x3 _ _ aM eaB
      refine ⟨eaL, ?_⟩
      have sU : Same H (upd H' a (.dK (dk l))) := fun b o e => by
        by_cases z : b = a
        · rw [z, upd_same, ← ea, ← z, e]
        · rw [upd_ne z]
          exact x3 b o (fun y => by rw [y, hM] at e; cases e) (sB b o e z)
      have arU : Al (Rc (fun b => H b = none ∧ b ≠ M) C (upd H' a (.dK (dk l))) n) lm fs := ar.imp fun _ _ _ z => z.keep fun b o sb e _ => by
        rw [upd_ne (fun y => by rw [y, ea] at sb; cases sb.1)]
        exact e
      have eMU : (upd H' a (.dK (dk l))) M = some (.dK (dk lm)) := by
        rw [upd_ne aM.symm]
        exact eM
      generalize upd H' a (.dK (dk l)) = HU at sU arU eMU ⊢
      have hnm : names lm = names fs := arU.names
      refine ⟨_, rfl, fun x dx hx hdx hne => ?_⟩
      have eX : (upd (upd HU dx (.own x)) x (.ins C dx [])) x = some (.ins C dx []) := upd_same
      have sX : Same HU (upd (upd HU dx (.own x)) x (.ins C dx [])) := Same.new (Same.new (Same.refl _) hdx) (by rw [upd_ne hne.symm]; exact hx)
      have nX : ∀ b, (upd (upd HU dx (.own x)) x (.ins C dx [])) b = none → HU b = none := fun b h => sX.free h
      generalize upd (upd HU dx (.own x)) x (.ins C dx []) = HX at eX sX nX ⊢
      have arX : Al (Rc (fun b => H b = none ∧ b ≠ M) C HX n) lm fs := arU.imp fun _ _ _ z => z.same sX
      refine ⟨x, dx, M, lm, szf fs, rfl, eX, sX _ _ eMU, by rw [hnm]; exact wf.nd, by rw [arX.len]; exact hfl, fun y v hv => ?_, fun l' H'' ra pm lk fx => ?_⟩
      · obtain ⟨u, hu2, ru⟩ := arX.get' hv
        have := Rc.sz ru
        unfold szf
        rw [hu2]
        exact this
      · refine ⟨rfl, q _ _ (.inr ⟨x, l', fs, rfl, rfl, ?_, wf, by rw [← hnm]; exact pm, fun y v u h1 h2 => ?_⟩) fun b o e => ?_⟩
        · have ez : (lm.length : Int) + ((names lm).map (szf fs)).sum = nfs fs := by
            rw [hnm, arX.len]
            exact nfs_len wf.nd
          rw [ez] at ra
          refine ra.wid fun b hb => ?_
          rcases hb with e | e
          · rw [e]
            exact sU.free hx
          · exact sU.free (nX b e)
        · rw [lk] at h1
          obtain ⟨u', h3, r3⟩ := arU.get' h1
          have e : u' = u := Option.some.inj (h3.symm.trans h2)
          subst e
          exact (r3.keep fun b o sb e _ => fx b o (fun z => by rw [z, hx] at e; cases e) (sX _ _ e)).wid fun b hb => hb.1
        · exact fx b o (fun z => by rw [z, sU.free hx] at e; cases e) (sX _ _ (sU _ _ e))
theorem s_make_step (T : Bu mg) (R : RecK K mg C) (D : StK K C) (I : InK K C) (c_value_size : Cal P w K mg base 3 "value_size" (spVs C)) (c_is_name : Cal P w K mg base 1 "is_name" spIsName) (n : Nat)
    (c_make : SCal P w K mg base C (n + 5) (spMakeR C n)) : SCal P w K mg base C (n + 6) (spMake C n) := by
  obtain ⟨pD, g, fd, mD, F, bD⟩ := D.ex
  exact ⟨pD, g, fd, _, mD, fn_make_step T R mD F bD I c_value_size c_is_name n c_make, bD⟩
theorem fn_make {pD g : Addr} {fd : FuncData} (T : Bu mg) (R : RecK K mg C) (mD : SMet K C (.type "type") "make" pD g) (F : L2.Fun K "make" "Record.make" sMake g fd) (bD : Binds K fd ["fields"] []) (I : InK K C) (c_value_size : Cal P w K mg base 3 "value_size" (spVs C)) (c_is_name : Cal P w K mg base 1 "is_name" spIsName) : ∀ n, FnOk P w K mg base CX0 (n + 6) g fd ["fields"] (spMake C n)
  | 0 => fn_make_step T R mD F bD I c_value_size c_is_name 0 (s_no ⟨pD, g, fd, mD, F, bD⟩)
  | n + 1 => fn_make_step T R mD F bD I c_value_size c_is_name (n + 1) ⟨pD, g, fd, _, mD, fn_make T R mD F bD I c_value_size c_is_name n, bD⟩
end
end Lw
namespace Lw
open PySem PySem.Spec PyProof.Rows L2 GrT GrOwn
theorem op_or {X : Cx} {op : Value → Value → Sem Value} {r1 r2 : R2} (h1 : OpR X op r1) (h2 : OpR X op r2) : OpR X op (fun x y H Q => r1 x y H Q ∨ r2 x y H Q) := by
  intro pins s σ H x y v u Q I rx ry h
  rcases h with h | h
  · exact h1 pins s σ H x y v u Q I rx ry h
  · exact h2 pins s σ H x y v u Q I rx ry h
theorem dint {i j : Int} : decide (V.int i = V.int j) = decide (i = j) := by simp
section
variable {P : Program} {w : World} {K : PySem.W.Frag} {mg : Str → Option Value} {base : Heap} {C : Addr}
theorem s_make (T : Bu mg) (R : RecK K mg C) (D : StK K C) (I : InK K C) (c_value_size : Cal P w K mg base 3 "value_size" (spVs C)) (c_is_name : Cal P w K mg base 1 "is_name" spIsName) : ∀ n, SCal P w K mg base C (n + 6) (spMake C n)
  | 0 => s_make_step T R D I c_value_size c_is_name 0 (s_no D)
  | n + 1 => s_make_step T R D I c_value_size c_is_name (n + 1) (s_make T R D I c_value_size c_is_name n)
theorem c_fields (T : Bt mg) (D : Dfn K mg "_law_fields" sFields ["tape", "names", "depth"]) (ct : Cal P w K mg base 1 "_law_take" spTake) (cn : Cal P w K mg base 2 "_law_number" spNumber) : ∀ n, Cal P w K mg base (n + 4) "_law_fields" (spFields n)
  | 0 => c_fields_step T D ct cn 0 (c_no D scFields)
  | n + 1 => c_fields_step T D ct cn (n + 1) (c_fields T D ct cn n)
theorem c_count (T : Bu mg) (D : Dfn K mg "_law_count" sCount ["value"]) : ∀ n, Cal P w K mg base (n + 2) "_law_count" (spCount n)
  | 0 => c_count_step T D 0 (c_no D scCount)
  | n + 1 => c_count_step T D (n + 1) (c_count T D n)
end
end Lw
namespace GrT
open PySem L2
/-- alike up to the order of the fields -/
def Sm : Nat → T → T → Prop
  | 0, t, u => ∃ i, t = .int i ∧ u = .int i
  | n + 1, t, u => (∃ i, t = .int i ∧ u = .int i) ∨ ∃ fs gs, t = .fds fs ∧ u = .fds gs ∧ (names fs).Nodup ∧ (names fs).Perm (names gs) ∧ ∀ x v w, look x fs = some v → look x gs = some w → Sm n v w
end GrT
namespace Lw
open PySem PySem.Spec PyProof.Rows L2 GrT GrOwn
theorem Sm.nf : ∀ {n : Nat} {t u : T}, Sm n t u → GrT.nf t = GrT.nf u
  | 0, _, _, ⟨i, e1, e2⟩ => by rw [e1, e2]
  | n + 1, t, u, h => by
    rcases h with ⟨i, e1, e2⟩ | ⟨fs, gs, e1, e2, nd, pm, ch⟩
    · rw [e1, e2]
    · rw [e1, e2, GrT.nf, GrT.nf]
      have nd2 : (names gs).Nodup := pm.nodup_iff.mp nd
      rw [← nfs_len nd, ← nfs_len nd2]
      have hl : fs.length = gs.length := by
        have := pm.length_eq
        rwa [List.length_map, List.length_map] at this
      have hs : ((names fs).map (szf fs)).sum = ((names fs).map (szf gs)).sum := by
        congr 1
        refine List.map_congr_left fun x hx => ?_
        obtain ⟨v, hv⟩ := look_some hx
        obtain ⟨w, hw⟩ := look_some (pm.mem_iff.mp hx)
        unfold szf
        rw [hv, hw]
        exact Sm.nf (ch x v w hv hw)
      rw [hs, sum_perm pm, hl]
theorem Rc.sim {S : Addr → Prop} {C : Addr} {H : Hp} : ∀ {n : Nat} {v : V} {t u : T}, Rc S C H n v t → Sm n t u → Rc S C H n v u
  | 0, v, t, u, ⟨i, e1, e2⟩, ⟨j, f1, f2⟩ => by
    rw [e2] at f1
    cases f1
    exact ⟨i, e1, f2⟩
  | n + 1, v, t, u, h, g => by
    rcases h with ⟨i, e1, e2⟩ | ⟨a, l, fs, e1, e2, ra, wf, pm, ch⟩
    · rcases g with ⟨j, f1, f2⟩ | ⟨_, _, f1, _⟩
      · rw [e2] at f1
        cases f1
        exact .inl ⟨i, e1, f2⟩
      · rw [e2] at f1
        cases f1
    · have hn := Sm.nf g
      rcases g with ⟨j, f1, f2⟩ | ⟨fs', gs, f1, f2, nd, pg, cg⟩
      · rw [e2] at f1
        cases f1
      · rw [e2] at f1
        cases f1
        rw [e2, f2, GrT.nf, GrT.nf] at hn
        rw [hn] at ra
        have hl : fs.length = gs.length := by
          have := pg.length_eq
          rwa [List.length_map, List.length_map] at this
        refine .inr ⟨a, l, gs, e1, f2, ra, ⟨pg.nodup_iff.mp nd, by rw [← hl]; exact wf.ln, fun p hp => ?_⟩, pm.trans pg, fun x v w h1 h2 => ?_⟩
        · obtain ⟨q, hq, e⟩ := List.mem_map.mp (pg.mem_iff.mpr (List.mem_map.mpr ⟨p, hp, rfl⟩))
          rw [← e]
          exact wf.gd q hq
        · obtain ⟨u', hu⟩ := look_some (pg.mem_iff.mpr (List.mem_map.mpr ⟨_, look_mem h2, rfl⟩))
          exact (ch x v u' h1 hu).sim (cg x u' w hu h2)
theorem put_any {α : Type} {x : Str} {v : α} : ∀ {l : List (Str × α)}, x ∉ names l → GrT.put x v l = l ++ [(x, v)]
  | [], _ => rfl
  | (y, u) :: r, h => by
    rw [GrT.put, if_neg (fun z => h (by rw [← z]; exact List.mem_cons_self)), put_any fun z => h (List.mem_cons_of_mem _ z)]
    rfl
theorem look_snoc {α : Type} {x z : Str} {v : α} {l : List (Str × α)} (h : x ∉ names l) : look z (l ++ [(x, v)]) = if z = x then some v else look z l := by
  rw [← put_any h, look_put]
def spTurned (n : Nat) : Sp := fun vs H Q _ => ∃ (v : V) (S : Addr → Prop) (t : T), vs = [v] ∧ Tr S H 20 n v t ∧ ∀ v' t' H', Tr (fun b => H b = none) H' 20 n v' t' → Sm n t' t → Same H H' → Q v' H'
def spTurnedR : Nat → Sp
  | 0 => spNo
  | n + 1 => spTurned n
section
variable {P : Program} {w : World} {K : PySem.W.Frag} {mg : Str → Option Value} {base : Heap} {C : Addr}
theorem Sm.int {n : Nat} (i : Int) : Sm n (.int i) (.int i) := by
  cases n with
  | zero => exact ⟨i, rfl, rfl⟩
  | succ n => exact .inl ⟨i, rfl, rfl⟩
abbrev sTurn : Stmt := top 23
theorem scTurn : FnScope ["value", "fields", "name"] ["value"] (defScope sTurn) := ⟨rfl, rfl, rfl, by decide +kernel, rfl, by decide +kernel, by decide +kernel⟩
theorem c_turned_step (T : Bu mg) (br : mg "reversed" = none) (D : Dfn K mg "_law_turned" sTurn ["value"]) (n : Nat) (c_law_turned : Cal P w K mg base (n + 1) "_law_turned" (spTurnedR n)) : Cal P w K mg base (n + 2) "_law_turned" (spTurned n) := by
  refine D.cal scTurn (fun vs H Q E h => ?_) (fun f cdv A outer s H vs Q E hr h => ?_)
  · obtain ⟨v, S, t, rfl, _⟩ := h
    rfl
  · obtain ⟨v, S, t, rfl, tr, q⟩ := h
    have hu := hu_of hr
    refine ⟨_, (pss_cons (ps_if (pt_not (pt_val (pe_callB call_isi (by rfl) T.b_isinstance bo_isinstance (pa_cons (pv 0) (pa_cons (pe_bltn (by rfl) T.b_dict bo_dict (v := .ty "dict") rfl) pa_nil)))))
      (pss_one (ps_ret (pv 0)))
      pss_nil)
      (pss_cons (ps_set (i := 1) scTurn.nd rfl (Or.inl rfl) pe_dnewK)
      (pss_cons (ps_for PassesOwn.never rfl (pi_reversed (by rfl) br (pa_cons (pe_callTy (call_listD rfl) (by rfl) T.b_list bo_list (pa_cons (pv 0) pa_nil)) pa_nil)) (pg_name (i := 2) scTurn.nd rfl (Or.inl rfl))
      (pss_one (ps_dput hu (pv 1) (pv 2) (pe_c c_law_turned hr (by omega) rfl (pa_cons (pe_dget hu (pv 0) (pv 2) (fun _ _ => rfl)) pa_nil)) rfl)))
      (pss_one (ps_ret (pv 1)))))), ?_⟩
    refine tr.cases (fun i e1 e2 => ?_) (fun k a l fs en e1 e2 sa ea wf al => ?_)
    · subst e1 e2
      exact ⟨_, rfl, _, _, _, _, _, rfl, .ty _, .base (.int i), rfl, _, rfl, iteT ⟨_, rfl, q _ _ H (Tr.int i) (Sm.int i) (Same.refl _)⟩⟩
    · subst en e1 e2
      refine ⟨_, rfl, _, _, _, _, _, rfl, .ty _, .base (.dK ea), rfl, _, rfl, iteF ?_⟩
      intro D hD
      have s0 : Same H (upd H D (.dK [])) := Same.new (Same.refl _) hD
      have eD0 : (upd H D (.dK [])) D = some (.dK (dk [])) := upd_same
      generalize upd H D (.dK []) = H0 at s0 eD0 ⊢
      refine ⟨_, rfl, a, dk l, rfl, .inl (s0 _ _ ea), fun W hW => ?_⟩
      have kn : (dk l).map (fun kv => kV kv.1) = (names l).map V.str := by
        unfold dk names
        rw [List.map_map, List.map_map]
        rfl
      rw [kn]
      have s1 : Same H (upd H0 W (.lst ((names l).map V.str))) := Same.new s0 hW
      have eW : (upd H0 W (.lst ((names l).map V.str))) W = some (.lst ((names l).map V.str)) := upd_same
      have eD1 : (upd H0 W (.lst ((names l).map V.str))) D = some (.dK (dk [])) := by
        rw [upd_ne (ne_of_none eD0 hW)]
        exact eD0
      have WD : W ≠ D := (ne_of_none eD0 hW).symm
      generalize upd H0 W (.lst ((names l).map V.str)) = H1 at s1 eW eD1 ⊢
      have hfl : fs.length ≤ 20 := wf.ln
      have nll : (names l).length = fs.length := by rw [al.names, List.length_map]
      have rl : (names fs).reverse.length = fs.length := by rw [List.length_reverse, List.length_map]
      refine ⟨W, _, rfl, SqL.of eW, for_it (walk_rev (xs := (names l).map V.str)) (fun i σ H' => ∃ (nv : Option V) (lm : List (Str × V)) (fm : List (Str × GrT.T)), σ = [some (.ref a), some (.ref D), nv] ∧ H' D = some (.dK (dk lm)) ∧ H' W = some (.lst ((names l).map V.str)) ∧
          Al (Tr (fun b => H b = none ∧ b ≠ D) H' 20 k) lm fm ∧ names fm = (names fs).reverse.take i ∧ (∀ x v w, look x fm = some v → look x fs = some w → Sm k v w) ∧ Same H H')
        ⟨none, [], [], rfl, eD1, eW, .nil, rfl, (fun x v w h => by cases h), s1⟩ (fun i σ H' _ h => ?_) ?_ ?_⟩
      · obtain ⟨nv, lm, fm, _, _, h, _⟩ := h
        exact SqL.of h
      · rintro i y σ H' H2 hi ⟨nv, lm, fm, rfl, eD, eW', ar, nm, sm, sH⟩ ⟨rfl, hy⟩
        rw [List.length_map, nll] at hi hy
        obtain ⟨x, hx, rfl⟩ : ∃ x, (names l)[fs.length - 1 - i]? = some x ∧ y = V.str x := by
          rw [List.getElem?_map] at hy
          cases e : (names l)[fs.length - 1 - i]? with
          | none =>
            rw [e] at hy
            cases hy
          | some x =>
            rw [e] at hy
            exact ⟨x, rfl, (Option.some.inj hy).symm⟩
        rw [al.names] at hx
        have hrx : (names fs).reverse[i]? = some x := by
          rw [List.getElem?_reverse (by rw [List.length_map]; exact hi), List.length_map]
          exact hx
        have hxm : x ∈ names fs := List.mem_of_getElem? hx
        obtain ⟨u, hu2⟩ := look_some hxm
        obtain ⟨v', hv', rv⟩ := al.get hu2
        have gx : Good x := wf.gd (x, u) (look_mem hu2)
        have hg := DGet.k (k := Sum.inr x) (sH _ _ ea)
        rw [dk_val, hv'] at hg
        refine ⟨_, rfl, _, rfl, a, v', rfl, hg, v', S, u, rfl, Tr.same rv sH, fun w' t' H5 r5 m5 s5 => ?_⟩
        have r6 : Tr (fun b => H b = none ∧ b ≠ D) H5 20 k w' t' := r5.wid fun b hb => ⟨sH.free hb, fun z => by rw [z, eD] at hb; cases hb⟩
        have eD5 := s5 _ _ eD
        have ar5 : Al (Tr (fun b => H b = none ∧ b ≠ D) H5 20 k) lm fm := ar.imp fun _ _ _ z => Tr.same z s5
        have hno : x ∉ names fm := fun hm => by
          rw [nm] at hm
          obtain ⟨j, hj, ej⟩ := List.mem_take_iff_getElem.mp hm
          have hi3 : i < (names fs).reverse.length := (List.getElem?_eq_some_iff.mp hrx).1
          have e3 : (names fs).reverse[i] = x := (List.getElem?_eq_some_iff.mp hrx).2
          have ndr : (names fs).reverse.Nodup := (List.reverse_perm _).nodup_iff.mpr wf.nd
          have := (List.getElem_inj ndr).mp (ej.trans e3.symm)
          omega
        have hnl : x ∉ names lm := by
          rw [ar5.names]
          exact hno
        have ndm : (names lm).Nodup := by
          rw [ar5.names, nm]
          exact ((List.reverse_perm _).nodup_iff.mpr wf.nd).sublist (List.take_sublist _ _)
        have hml : (dk lm).length < sizeLine := by
          have h1 : fm.length ≤ 20 := by
            have z := congrArg List.length nm
            rw [List.length_map, List.length_take, rl] at z
            omega
          rw [dk_len, ar5.len]
          exact Nat.lt_of_lt_of_le (by omega : fm.length < 100) (line_big (by decide))
        refine ⟨_, rfl, _, rfl, D, _, rfl, DPut.k (k := Sum.inr x) eD5 hml, _, lm ++ [(x, w')], fm ++ [(x, t')], rfl, ?_, ?_, ?_, ?_, ?_, ?_⟩
        · rw [upd_same, dk_put x w' lm ndm, put_new hnl]
        · rw [upd_ne WD]
          exact s5 _ _ eW'
        · exact Al.snoc (ar5.imp fun _ _ _ z => z.keep fun b kvs sb e => by rw [upd_ne sb.2]; exact e) (r6.keep fun b kvs sb e => by rw [upd_ne sb.2]; exact e)
        · rw [List.take_add_one, hrx, ← nm]
          simp [names]
        · intro z v w h1 h2
          by_cases ez : z = x
          · rw [ez] at h1 h2
            rw [hu2] at h2
            cases h2
            have e0 : look x (fm ++ [(x, t')]) = some t' := by rw [look_snoc hno, if_pos rfl]
            rw [e0] at h1
            cases h1
            exact m5
          · rw [look_snoc hno, if_neg ez] at h1
            exact sm z v w h1 h2
        · intro b o e
          rw [upd_ne (ne_of_none e hD)]
          exact s5 _ _ (sH b o e)
      · rintro σ H' ⟨nv, lm, fm, rfl, eD, eW', ar, nm, sm, sH⟩
        rw [List.length_map, nll, ← rl, List.take_length] at nm
        have hfm : fm.length = fs.length := by
          have z := congrArg List.length nm
          rwa [List.length_map, rl] at z
        have ndf : (names fm).Nodup := by
          rw [nm]
          exact (List.reverse_perm _).nodup_iff.mpr wf.nd
        refine ⟨_, rfl, q _ (.fds fm) H' (.inr ⟨D, lm, fm, rfl, rfl, hD, eD, ⟨ndf, by omega, fun p hp => ?_⟩, ar.imp fun _ _ _ z => z.wid fun b h => h.1⟩) (.inr ⟨fm, fs, rfl, rfl, ndf, by rw [nm]; exact List.reverse_perm _, sm⟩) sH⟩
        have h1 : p.1 ∈ names fs := List.mem_reverse.mp (by rw [← nm]; exact List.mem_map.mpr ⟨p, hp, rfl⟩)
        obtain ⟨q2, hq, e⟩ := List.mem_map.mp h1
        rw [← e]
        exact wf.gd q2 hq
end
end Lw
namespace Lw
open PySem PySem.Spec PyProof.Rows L2 GrT GrOwn
theorem SzV.one {C : Addr} {H : Hp} {v : V} {z y : Int} (h : SzV C H v z) (g : SzV C H v y) : z = y := by
  rcases h with ⟨i, e, e1⟩ | ⟨a, dx, tp, d, e, e1⟩
  · rcases g with ⟨j, f, f1⟩ | ⟨b, dy, tq, c, f, f1⟩
    · rw [e1, f1]
    · rw [e] at f
      cases f
  · rcases g with ⟨j, f, f1⟩ | ⟨b, dy, tq, c, f, f1⟩
    · rw [e] at f
      cases f
    · rw [e] at f
      cases f
      rw [e1] at f1
      have h3 := HO.ins.inj (Option.some.inj f1)
      have h4 : (rf tp d z).lookup ("_size" : Str) = (rf tq c y).lookup ("_size" : Str) := by rw [h3.2.2]
      rw [rf_size, rf_size] at h4
      cases h4
      rfl
theorem nfs_one {C : Addr} {H : Hp} {l : List (Str × V)} {fs gs : List (Str × T)} (nf1 : (names fs).Nodup) (p1 : (names l).Perm (names fs)) (p2 : (names l).Perm (names gs))
    (c1 : ∀ x v u, look x l = some v → look x fs = some u → SzV C H v (nf u)) (c2 : ∀ x v u, look x l = some v → look x gs = some u → SzV C H v (nf u)) : nfs fs = nfs gs := by
  have pm : (names fs).Perm (names gs) := p1.symm.trans p2
  have nd2 : (names gs).Nodup := pm.nodup_iff.mp nf1
  rw [← nfs_len nf1, ← nfs_len nd2]
  have hl : fs.length = gs.length := by
    have := pm.length_eq
    rwa [List.length_map, List.length_map] at this
  have hs : ((names fs).map (szf fs)).sum = ((names fs).map (szf gs)).sum := by
    congr 1
    refine List.map_congr_left fun x hx => ?_
    obtain ⟨v, hv⟩ := look_some hx
    obtain ⟨w, hw⟩ := look_some (pm.mem_iff.mp hx)
    obtain ⟨u, hu⟩ := look_some (p1.mem_iff.mpr hx)
    unfold szf
    rw [hv, hw]
    exact (c1 x u v hu hv).one (c2 x u w hu hw)
  rw [hs, sum_perm pm, hl]
mutual
theorem nf_nn : ∀ t : T, 0 ≤ nf t
  | .int _ => by rw [nf]; exact Int.le_refl 0
  | .fds fs => by rw [nf]; exact nfs_nn fs
theorem nfs_nn : ∀ fs : List (Str × T), 0 ≤ nfs fs
  | [] => by rw [nfs]; exact Int.le_refl 0
  | (x, t) :: r => by
    have h1 := nf_nn t
    have h2 := nfs_nn r
    rw [nfs]
    omega
end
theorem nf_child {x : Str} {u : T} : ∀ {fs : List (Str × T)}, look x fs = some u → nf u < nfs fs
  | [], h => by cases h
  | (y, t) :: r, h => by
    have h1 := nf_nn t
    have h2 := nfs_nn r
    rw [nfs]
    by_cases q : y = x
    · rw [look, if_pos q] at h
      cases h
      omega
    · rw [look, if_neg q] at h
      have := nf_child h
      omega
/-- what is smaller than the record whose fields' dict is d does not reach d -/
theorem Rc.away {S : Addr → Prop} {C d : Addr} {H : Hp} {l : List (Str × V)} {z : Int} (ed : H d = some (.dK (dk l)))
    (hz : ∀ gs, (names gs).Nodup → (names l).Perm (names gs) → (∀ x v u, look x l = some v → look x gs = some u → SzV C H v (nf u)) → nfs gs = z) (o : HO) : ∀ {n : Nat} {v : V} {t : T}, Rc S C H n v t → nf t < z → Rc S C (upd H d o) n v t
  | 0, _, _, h, _ => h
  | n + 1, v, t, h, hs => by
    rcases h with h | ⟨a, m, fs, e1, e2, ra, wf, pm, ch⟩
    · exact .inl h
    · rw [e2, nf] at hs
      obtain ⟨⟨dx, tp, c, ss, f1, f2, f3⟩, nd, so⟩ := ra
      have ha : a ≠ d := fun q => by
        rw [q, ed] at f1
        cases f1
      have ht : tp ≠ d := fun q => by
        rw [q, ed] at f2
        cases f2
      have hc : c ≠ d := fun q => by
        rw [q, ed] at f3
        have hm : dk l = dk m := HO.dK.inj (Option.some.inj f3)
        have hlm : l = m := by
          apply dk_inj hm
        subst hlm
        have := hz fs wf.nd pm fun x v u h1 h2 => (ch x v u h1 h2).sz
        omega
      refine .inr ⟨a, m, fs, e1, e2, ⟨⟨dx, tp, c, ss, by rw [upd_ne ha]; exact f1, by rw [upd_ne ht]; exact f2, by rw [upd_ne hc]; exact f3⟩, nd, so⟩, wf, pm, fun x v u h1 h2 => Rc.away ed hz o (ch x v u h1 h2) ?_⟩
      have := nf_child h2
      omega
end Lw
/-! An own exception's __init__ that begins with super().__init__(..): its promise. -/
namespace GrEx
open PySem PySem.Spec PyProof.Rows L2 NdefX
abbrev supE (p0 p1 ap pos : Pos) (e : Expr) (es : List Expr) : Expr := .Call (.Attribute (.Call (.Name "super" p0) [] [] p1) "__init__" ap) (e :: es) [] pos
abbrev supNF (name qual : Str) (params : Arguments) (scope : Scope) (p0 p1 ap pos epos : Pos) (e : Expr) (es : List Expr) (rest : List Stmt) (cc cda : Addr) : NF := ⟨name, qual, params, .Expr (supE p0 p1 ap pos e es) epos :: rest, scope, [("__class__", cc)], cda⟩
theorem fn_sup {P : Program} {w : World} {K : PySem.W.Frag} {mg : Str → Option Value} {base : Heap} {CX : CXT} {N ps : List Str} {name qual : Str} {params : Arguments} {scope : Scope} {rest : List Stmt} {e : Expr} {es : List Expr} {p0 p1 ap pos epos : Pos}
    {f C cc cda : Addr} {oc ccl cl kV doc pm ct : Value} {od an cdd cld : Option Addr} {osl ccs csl : Array (Option Value)} {vs0 : Array Value} {file : Str} {tf : Tok} {ar : Arg} {k : Nat} {sp : Sp} {pl : Sem Bool}
    (T : OexC K C) (S : NScope N ps ["__class__"] scope)
    (lk : K.lookup f = some ⟨oc, od, .func (PySem.W.ksFn name qual params (.Expr (supE p0 p1 ap pos e es) epos :: rest) scope .none kV doc pm an (.ref cda) ct cc), osl⟩)
    (hcd : PySem.W.codeIn K (.ref cda) qual = true) (hcode : K.lookup cda = some ⟨ccl, cdd, .fields vs0, ccs⟩) (hvs : vs0[2]? = some (.str file tf)) (hfile : ((P.main.file : Str) == file) = true)
    (hcell : K.lookup cc = some ⟨cl, cld, .cell (some (.ref C)), csl⟩) (hsup : mg "super" = none) (htop : (P.main.scope.names.lookup ("super" : Str)).isSome = false)
    (hks : scope.names.lookup ("super" : Str) = some .globalImplicit) (hp : (params.posonlyargs ++ params.args).head? = some ar) (hps : ps[0]? = some ar.arg)
    (ho : PySem.W.nsIn K cStatics "thirdparty.any" = some none) (hm : PySem.W.ks_superIn K C C "__init__" = some (some (.builtin "ValueError.__init__"))) (hB : PySem.W.subIn K (.ref C) (.type "ValueError") = some true)
    (hmro : PySem.W.mroIn K C (.ref C) = some true)
    (he : ∀ L : Addr, eval (supE p0 p1 ap pos e es) (PySem.W.ksEnv qual scope L f (.ref cda) cc) = (do
      let ov ← attributeBase (.Call (.Name "super" p0) [] [] p1) "__init__" (PySem.W.ksEnv qual scope L f (.ref cda) cc) (eval (.Call (.Name "super" p0) [] [] p1) (PySem.W.ksEnv qual scope L f (.ref cda) cc))
      standAt ap.atName
      let (g, first) ← holding [ov] (getMethod ov "__init__" pl)
      callWith pos g first (backTo pos (starEach (e :: es) (PySem.W.ksEnv qual scope L f (.ref cda) cc))) []))
    (hsw : ∀ L : Addr, swapsWith (supE p0 p1 ap pos e es) none epos.line (PySem.W.ksEnv qual scope L f (.ref cda) cc) = pure false)
    (hst : ∀ L : Addr, starEach (e :: es) (PySem.W.ksEnv qual scope L f (.ref cda) cc) = (false, eval e (PySem.W.ksEnv qual scope L f (.ref cda) cc)) :: starEach es (PySem.W.ksEnv qual scope L f (.ref cda) cc))
    (hpl : ∀ L : Addr, (backTo pos (starEach es (PySem.W.ksEnv qual scope L f (.ref cda) cc))).any (·.1) = false)
    (len : ∀ vs H Q E, sp vs H Q E → vs.length = ps.length)
    (body : ∀ (A : Around) (outer : List Env) (s : Shared) (H : Hp) (vs : List V) (Q : VK) (E : XK), sp vs H Q E → ∃ a ta t, vs[0]? = some (.ref a) ∧ H a = some (exo a C none) ∧
      PA (ncx CX P w K mg base N (supNF name qual params scope p0 p1 ap pos epos e es rest cc cda) f A outer s H E) (e :: es) ta ∧
      PSs (ncx CX P w K mg base N (supNF name qual params scope p0 p1 ap pos epos e es rest cc cda) f A outer s H E) rest t ∧
      ta (startF N vs [some (.ref C)]) H fun ws H1 => ws.length ≤ 1000 ∧ H1 a = some (exo a C none) ∧ t { nx := fun _ H' => Q .non H', rt := Q } (startF N vs [some (.ref C)]) H1) :
    FnOk P w K mg base CX (k + 1) f (PySem.W.ksFn name qual params (.Expr (supE p0 p1 ap pos e es) epos :: rest) scope .none kV doc pm an (.ref cda) ct cc) ps sp := by
  refine ⟨len, fun A outer s H args us vs Q E hr e0 hb r q => ?_⟩
  have hl := len _ _ _ _ q
  have kb : ∀ b o, base.get? b = some o → s.heap.get? b = some o := fun b o z => (e0.bs b o z).1
  have KX : K.In s.heap := e0.mod.kin.keeps kb
  have lim : s.heap.NoLimit := e0.mod.nolimit.keeps kb
  obtain ⟨a, ta, t, ha0, ea, hA, hR, hq⟩ := body A outer s H vs Q E q
  refine PySem.ks_codeAny_call_defAt hr.depth (KX _ _ lk) rfl lim (PySem.W.codeRec_of KX hcd) rfl hb S.nocell (fun y hy => S.par y.1 (List.of_mem_zip hy).1) (fun h₀ hns kp => ?_) S.co S.gen S.kind
  have nop : ∀ b o, K.lookup b = some o → H b = none := fun b o z => (e0.bs b o (e0.mod.kin _ _ z)).2
  have hcl : ∀ {h : Heap}, K.In h → h.IsCell cc (some (.ref C)) := fun {h} X => ⟨_, X _ _ hcell, rfl⟩
  have cells : CellsAt [(("__class__" : Str), cc)] ["__class__"] [some (V.ref C)] s.heap H := by
    refine ⟨rfl, fun y c z => ?_, fun x y c h1 h2 => ?_, fun i y z => ?_⟩
    · have e1 : c = cc := by
        unfold List.lookup at z
        split at z
        · exact (Option.some.inj z).symm
        · cases z
      rw [e1]
      exact ⟨nop _ _ hcell, _, hcl KX⟩
    · have k : ∀ x : Str, List.lookup x [(("__class__" : Str), cc)] = some c → x = "__class__" := fun x h => by
        unfold List.lookup at h
        split at h
        · rename_i q
          exact eq_of_beq q
        · cases h
      rw [k x h1, k y h2]
    · cases i with
      | zero =>
        have e1 : y = "__class__" := (Option.some.inj z).symm
        rw [e1]
        refine ⟨cc, by rfl, fun v hv => ⟨.ref C, ?_, hcl KX⟩⟩
        have e2 : v = V.ref C := (Option.some.inj (Option.some.inj hv)).symm
        rw [e2]
        rfl
      | succ i => cases z
  have I0 := inv_startN (CX := CX) (N := N) (F := supNF name qual params scope p0 p1 ap pos epos e es rest cc cda) (f := f) (E := E) (tk := s.toks + (ps.zip us).length) S hr.hd e0 hl r cells hns kp
  have X0 := I0.kIn
  obtain ⟨nm, qn, Nn, bs, bm, sn, sub, ab, col, dd, k0, k1, k2, k3, k5, hC, hbm⟩ := T.cls
  obtain ⟨t1, hx⟩ := exo_at I0.hok ea
  have hus0 : us[0]? = some (Value.ref a) := by
    obtain ⟨u, h1, h2⟩ := r.get ha0
    rw [h1]
    exact congrArg some h2
  have ndP : ps.Nodup := by
    have z := S.nd.sublist (List.take_sublist (ps.length + ([("__class__" : Str)] : List Str).length) N)
    rw [S.pre] at z
    exact (List.nodup_append.mp z).1
  have hint : interactive (PySem.W.ksEnv qual scope s.heap.objs.size f (.ref cda) cc) = false := by
    unfold interactive
    rw [show (PySem.W.ksEnv qual scope s.heap.objs.size f (.ref cda) cc).scope.kind = .function from S.kind]
    rfl
  refine PySem.ks_wpAt_execs_cons (PySem.ks_wpAt_Expr_any (PySem.ks_wpAt_MethodCall (pl := pl) ?_ (he _)) hint (hsw _))
  have hkc : scope.names.lookup ("__class__" : Str) = some .free := S.frk _ (List.mem_singleton.mpr rfl)
  have hka : scope.names.lookup ar.arg = some .local := S.par _ (List.mem_of_getElem? hps)
  obtain ⟨mb, hb1, hb2⟩ := I0.mod.blt
  refine PySem.ks_wpAt_super_base (env := PySem.W.ksEnv qual scope s.heap.objs.size f (.ref cda) cc) hks hkc (by decide) rfl (X0 _ _ lk) rfl hp rfl (X0 _ _ hcode) rfl hvs hfile htop ?_
  refine PySem.W.ks_loadName_global S.kind hks (Calls.loadGlobal_builtin (env := PySem.W.ksEnv qual scope s.heap.objs.size f (.ref cda) cc) (I0.mod.glob.keeps I0.bk) hsup (hb1.keeps I0.bk) ((hb2 "super" (by decide)).trans (by decide +kernel)) ⟨rfl, ?_⟩)
  refine wpAny_loadName_free S.kind hkc rfl (hcl X0) ?_
  refine wpAny_loadName_local S.kind hka hns (zip_look ndP hps hus0) ?_
  refine ks_wpAny_isType_cls (X0 _ _ hC) rfl ⟨rfl, ?_⟩
  refine ks_wpAny_call_super (X0 _ _ hC) rfl hx rfl (fun c z => by cases z) (PySem.W.looks_mroIn X0 hmro) (fun h1 hso k1 => ?_)
  have I1 : Inv (ncx CX P w K mg base N (supNF name qual params scope p0 p1 ap pos epos e es rest cc cda) f A outer s H E) [] (startF N vs [some (.ref C)]) H ⟨h1, s.gens, s.drawn, s.toks + (ps.zip us).length, s.os⟩ := I0.kept (t' := s.toks + (ps.zip us).length) k1
  have X1 := I1.kIn
  have hcC : PySem.W.clsIn K C = some { name := nm, bases := bs, mro := .ref C :: bm, ns := Nn, qualname := qn, hasDict := true, slotNames := sn, subclasses := sub, abstract := ab, collection := col, hasDel := false } := by unfold PySem.W.clsIn; rw [hC] <;> rfl
  unfold PySem.W.ks_superIn at hm
  rw [hcC] at hm
  have ia : PySem.W.InstAt h1 a { cls := .ref C, dict := none, data := .fields #[.ref t1, .none, .none, .none, .bool false, .none] } C none := ⟨k1 _ _ hx, rfl, rfl, trivial⟩
  have aC : a ≠ C := fun z => by
    rw [z, nop _ _ hC] at ea
    cases ea
  refine PySem.W.kxs_getMethod PySem.W.kxs_ValueError hso (PySem.W.looks_opaque X1 ho) (fun A Q E s k q => wpAny_bind ((PySem.W.looks_clsIn X1 hcC) A _ E s k (wpAny_pure q))) rfl X1 hm (ia.type.andThen (PySem.W.looks_subIn X1 hB)) aC (by decide) ?_
  have hu : (h1.push (PySem.W.kxs_mw "ValueError.__init__" a)).get? h1.objs.size = some (PySem.W.kxs_mw "ValueError.__init__" a) := Heap.get?_push_size h1 rfl
  have I2 : Inv (ncx CX P w K mg base N (supNF name qual params scope p0 p1 ap pos epos e es rest cc cda) f A outer s H E) [(h1.objs.size, PySem.W.kxs_mw "ValueError.__init__" a)] (startF N vs [some (.ref C)]) H ⟨h1.push (PySem.W.kxs_mw "ValueError.__init__" a), s.gens, s.drawn, s.toks + (ps.zip us).length + 1, s.os⟩ := by
    refine (I1.kept (t' := s.toks + (ps.zip us).length + 1) fun b o z => Heap.get?_push_of_some _ z).pins_of fun p hp => ?_
    have e1 : p = (h1.objs.size, PySem.W.kxs_mw "ValueError.__init__" a) := List.mem_singleton.mp hp
    rw [e1]
    exact ⟨hu, I1.hok.fresh (Nat.le_refl _), Nat.ne_of_gt I1.lt, I1.nofs (Nat.le_refl _), fun v z => by cases z⟩
  have key : ∀ {A' : Around} {Q' : Value → Shared → Prop} {E' : Value → Shared → Prop} {s' : Shared}, wpAny (model P w) A' (spliced (backTo pos (starEach (e :: es) (PySem.W.ksEnv qual scope s.heap.objs.size f (.ref cda) cc)))) (fun vs s₁ => PySem.W.KxsAt "ValueError.__init__" h1.objs.size a s₁.heap ∧ wpAny (model P w) A' (call (.ref h1.objs.size) vs) Q' E' s₁) E' s' →
      wpAny (model P w) A' (callWith pos (.ref h1.objs.size) [] (backTo pos (starEach (e :: es) (PySem.W.ksEnv qual scope s.heap.objs.size f (.ref cda) cc))) []) Q' E' s' := by
    intro A' Q' E' s' h
    rw [hst] at h ⊢
    refine PySem.W.kxs_callWith (i := "ValueError.__init__") (x := a) (by show (false || (backTo pos (starEach es _)).any (·.1)) = false; rw [hpl]; rfl) ?_
    exact Calls.evalArgs_plain h
  refine key (thn (hA.run pos _ _ _ _ _ I2 hq) fun us2 s2 hv => ?_)
  obtain ⟨ws, H1, I3, rws, hz, ea1, hq1⟩ := hv
  have hu3 : s2.heap.get? h1.objs.size = some (PySem.W.kxs_mw "ValueError.__init__" a) := (I3.pin (h1.objs.size, PySem.W.kxs_mw "ValueError.__init__" a) (List.mem_append_right _ List.mem_cons_self)).1
  refine ⟨hu3, ?_⟩
  have I4 : Inv (ncx CX P w K mg base N (supNF name qual params scope p0 p1 ap pos epos e es rest cc cda) f A outer s H E) [] (startF N vs [some (.ref C)]) H1 s2 := I3.pins_of fun p hp => by cases hp
  obtain ⟨t2, hx2⟩ := exo_at I4.hok ea1
  have hC2 := I4.kIn _ _ hC
  have hus2 : us2.length ≤ sizeLine := by
    rw [← rws.length, sizeLine_eq]
    omega
  obtain ⟨hp2, g2, d2, tk2, os2⟩ := s2
  refine wpAny_call (codeAny_of_tree ?_)
  show wpAny _ _ (callAny (.ref h1.objs.size) ⟨us2, []⟩) _ _ _
  simp only [callAny]
  refine wpAny_bind (wpAny_load hu3 ?_)
  simp only [PySem.W.kxs_mw, show (Value.type "method-wrapper" == Value.type "method" || Value.type "method-wrapper" == Value.type "builtin_function_or_method" || Value.type "method-wrapper" == Value.type "method-wrapper") = true by decide, if_true]
  refine PySem.W.KFB.if_so (by decide) ?_
  refine wpAny_bind (PySem.W.check_bound_init PySem.F.excBase_ValueError.toExcCallFacts hC2 hx2 rfl ?_)
  refine wpAny_bind (wpAny_pure (wpAny_pure ?_))
  refine ⟨plainId_quiet PySem.F.excBase_ValueError.init.plain _, codeAny_builtin PySem.F.excBase_ValueError.initEntry ?_⟩
  refine PySem.W.exc_init_tree (cls := .ref C) (t0 := t2) (dv := none) (c2 := .none) (c3 := .none) (b4 := .bool false) hx2 hus2 (fun h' kh hxn _ => ?_)
  have J := I4.write (t' := tk2) (x := a) (e := a) (o := exo a C none) (by rw [ea1]; exact True.intro) (.inl rfl) kh ⟨_, hxn⟩ (exo_ok hxn)
  have eu : upd H1 a (exo a C none) = H1 := by
    funext b
    by_cases hb : b = a
    · rw [hb, upd_same, ea1]
    · rw [upd_ne hb]
  rw [eu] at J
  show PySem.wpAt _ _ _ _ _ _ _
  refine PySem.wpAt_of_wpAny (wpAny_mono (hR.run [] _ (startF N vs [some (.ref C)]) H1 _ J hq1) (fun fl s' hs => ?_) fun e s' hs => hs)
  match fl, hs with
  | .ret u, ⟨v, σ', H', J, rv, q⟩ => exact ⟨v, H', J.os, J.bare, J.base, J.hok, rv, q⟩
  | .next, ⟨σ', H', J, q⟩ => exact ⟨V.non, H', J.os, J.bare, J.base, J.hok, rfl, q⟩
  | .brk, ⟨_, _, _, q⟩ => exact q.elim
  | .cont, ⟨_, _, _, q⟩ => exact q.elim
end GrEx
namespace Lw
open PySem PySem.Spec PyProof.Rows L2 GrT GrOwn
/-! ### an exception that bears a name -/
def spEI (C : Addr) : Sp := fun vs H Q _ => ∃ (a : Addr) (x : Str), vs = [.ref a, .str x] ∧ H a = some (exo a C none) ∧ x.length ≤ 1000 ∧ (∀ c ∈ x.cps.toList, c < 16 ^ 8) ∧
  ∀ d, H d = none → d ≠ a → Q .non (upd (upd H d (exd d [("name", .str x)])) a (exo a C (some d)))
/-- what the top says of such a class; st: the text of its __init__ -/
structure ExK (P : Program) (K : PySem.W.Frag) (mg : Str → Option Value) (x q : Str) (st : Stmt) (C : Addr) : Prop where
  T : OexC K C
  ex : ∃ (f cc cda : Addr) (oc ccl cl kV doc pm ct : Value) (od an cdd cld : Option Addr) (osl ccs csl : Array (Option Value)) (vs0 : Array Value) (file : Str) (tf : Tok),
    PySem.W.findIn K (.ref C) "__init__" = some (some (.ref f)) ∧ PySem.W.typeIn K (.ref f) = some (.type "function") ∧
    K.lookup f = some ⟨oc, od, .func (PySem.W.ksFn "__init__" q (defArgs st) (defBody st) (defScope st) .none kV doc pm an (.ref cda) ct cc), osl⟩ ∧ PySem.W.codeIn K (.ref cda) q = true ∧
    K.lookup cda = some ⟨ccl, cdd, .fields vs0, ccs⟩ ∧ vs0[2]? = some (.str file tf) ∧ ((P.main.file : Str) == file) = true ∧ K.lookup cc = some ⟨cl, cld, .cell (some (.ref C)), csl⟩ ∧
    Binds K (PySem.W.ksFn "__init__" q (defArgs st) (defBody st) (defScope st) .none kV doc pm an (.ref cda) ct cc) ["self", "name"] []
  sup : mg "super" = none
  mgC : mg x = some (.ref C)
  top : (P.main.scope.names.lookup ("super" : Str)).isSome = false
  ho : PySem.W.nsIn K cStatics "thirdparty.any" = some none
  hm : PySem.W.ks_superIn K C C "__init__" = some (some (.builtin "ValueError.__init__"))
  hB : PySem.W.subIn K (.ref C) (.type "ValueError") = some true
  mro : PySem.W.mroIn K C (.ref C) = some true
  noN : PySem.W.findIn K (.ref C) "name" = some none
  te : PySem.W.exmOne K (.ref C) (.ref C) = some true
abbrev sShInit : Stmt := inClass (top 5) 0
section
variable {P : Program} {w : World} {K : PySem.W.Frag} {mg : Str → Option Value} {base : Heap} {C : Addr}
theorem scShInit : NdefX.NScope ["self", "name", "__class__"] ["self", "name"] ["__class__"] (defScope sShInit) := NdefX.nscope_by (by decide +kernel)
theorem fn_shared {x q : Str} (Z : ExK P K mg x q sShInit C) : ∃ (f : Addr) (fd : FuncData), PySem.W.findIn K (.ref C) "__init__" = some (some (.ref f)) ∧ PySem.W.typeIn K (.ref f) = some (.type "function") ∧ FnOk P w K mg base CX0 1 f fd ["self", "name"] (spEI C) ∧ Binds K fd ["self", "name"] [] := by
  obtain ⟨f, cc, cda, oc, ccl, cl, kV, doc, pm, ct, od, an, cdd, cld, osl, ccs, csl, vs0, file, tf, h1, h2, lk, hcd, hcode, hvs, hfile, hcell, hb⟩ := Z.ex
  refine ⟨f, _, h1, h2, ?_, hb⟩
  refine GrEx.fn_sup (N := ["self", "name", "__class__"]) (ar := { arg := "self", annotation := none, pos := ⟨19, 17, 19, 21⟩ }) Z.T scShInit lk hcd hcode hvs hfile hcell Z.sup Z.top (by rfl) (by rfl) (by rfl) Z.ho Z.hm Z.hB Z.mro (fun L => by rfl) (fun L => by rfl) (fun L => by rfl) (fun L => by rfl) (fun vs H Q E h => ?_) (fun A outer s H vs Q E h => ?_)
  · obtain ⟨a, x, rfl, _⟩ := h
    rfl
  · obtain ⟨a, x, rfl, ea, xl, xc, k⟩ := h
    refine ⟨a, _, _, rfl, ea, pa_cons (pe_joined (PJ.cons pe_str (PJ.cons (pe_fmtR (pv 1)) .nil))) pa_nil, pss_one (ps_ost (pv 0) (pv 1)), ?_⟩
    have rl := PySem.StrLaws.reprText_len x xc
    have cl1 : (Str.empty ++ Str.ofString "both records have a field ").length ≤ 100 := by decide +kernel
    refine ⟨_, rfl, line_big (Nat.le_trans cl1 (by decide)), _, rfl, .inl ⟨x, rfl, line_big (by omega), _, rfl, line_big (by rw [cat_len]; omega), by show 1 ≤ 1000; decide, ea, ?_⟩⟩
    exact ⟨_, rfl, _, rfl, a, C, rfl, Z.T, Z.noN, .inl ⟨ea, fun d h1 h2 => k d h1 h2⟩⟩
end
end Lw
namespace Lw
open PySem PySem.Spec PyProof.Rows L2 GrT GrOwn
/-! ### r op s, both of one class that defines op -/
structure MthX (P : Program) (w : World) (K : PySem.W.Frag) (mg : Str → Option Value) (base : Heap) (CX : CXT) (C : Addr) (k : Nat) (x : Str) (sp : Sp) : Prop where
  ex : ∃ (f : Addr) (fd : FuncData) (ps : List Str), FnOk P w K mg base CX k f fd ps sp ∧ Sm K C x f ∧ Binds K fd ps []
def tBinX (C : Addr) (sp : Sp) (E : L2.St → XK) (ta tb : TE) : TE := fun σ H Q => ta σ H fun x H1 => tb σ H1 fun y H2 => ∃ a dx fs b dy gs, x = .ref a ∧ y = .ref b ∧ H2 a = some (.ins C dx fs) ∧ H2 b = some (.ins C dy gs) ∧
  sp [.ref a, .ref b] H2 (fun v H' => ∃ r, v = .ref r ∧ Q (.ref r) H') (E σ)
section
variable {X : Cx} {CX : CXT} {C : Addr} {k j : Nat} {sp : Sp} {E : L2.St → XK} {a b : Expr} {ta tb : TE} {pos : Pos} {op : Operator}
theorem pe_binX {nm : Str} (m : MthX X.prog X.w X.K X.mg X.base CX C k nm sp) (hd : PySem.dunder op.info.2 = nm) (sf : PySem.W.selfFirst X.K C = true) (hr : Room j X.A) (hk : k ≤ j) (hx : ∀ σ, PassesAt CX X σ (E σ)) (ha : PE X a ta) (hb : PE X b tb) : PE X (.BinOp a op b pos) (tBinX C sp E ta tb) := by
  obtain ⟨f, fd, ps, F, sm, bd⟩ := m.ex
  refine ⟨fun pins s σ H Q I h => ?_⟩
  refine wpAny_BinOp (binT ha hb I h fun v u s2 x y H2 I2 rx ry q => ?_)
  obtain ⟨p, dx, fs, r, dy, gs, rfl, rfl, ea, eb, q⟩ := q
  cases rx
  cases ry
  obtain ⟨od, J⟩ := inst I2 ea
  obtain ⟨oe, J2⟩ := inst I2 eb
  obtain ⟨m0, hF⟩ := I2.fr
  refine PySem.W.binop_K hF I2.ok.mod.kin J J2.type sf (by rw [hd]; exact sm.at_) sm.fn (thn (run_fnS (vs := [V.ref p, V.ref r]) F (hr.mono hk) bd (hx σ) I2 (.cons rfl (.cons rfl .nil)) q) fun w s3 hq => ?_)
  obtain ⟨z, H', I', rz, r', rfl, qq⟩ := hq
  cases rz
  exact ⟨.ref r', H', I', rfl, qq⟩
end
end Lw
/-! One dict's entries laid into another one, as a displayed dict with two stars does it. -/
namespace GrMg
open PySem PySem.Spec PyProof.Rows
section
variable {prog : Program} {w : World} {K : Type} [DecidableEq K] {knd : KeyKind prog w K} {A : Around} {E : Value → Shared → Prop} {s : Shared}
theorem put_pairs {d : Addr} {m : List (K × Value)} {k : K} {kv v : Value} {Q : Unit → Shared → Prop} (hk : knd.is k kv = true) (D : s.heap.DictOf knd d m) (hz : m.length ≤ sizeLine)
    (q : ∀ h', h'.DictOf knd d (stored m k v) → Heap.SameBut d s.heap h' → Q () { s with heap := h' }) : wpAny (model prog w) A (dictPut d (knd.hash k) kv v) Q E s := by
  obtain ⟨o, es, ep, g1, g2, g3, g4, g5, g6⟩ := D
  have len : es.size ≤ sizeLine := by
    have e1 := g5.length
    rw [Array.length_toList] at e1
    omega
  have ix : (es.findIdx? fun y => knd.is k y.key) = m.findIdx? fun y => decide (y.1 = k) := by
    rw [← g5.findIdx k]
    obtain ⟨z⟩ := es
    simp
  unfold dictPut
  refine wpAny_bind (wpAny_dictFind_of hk g1 g3 g4 ?_)
  cases f : es.findIdx? fun y => knd.is k y.key with
  | some i =>
    have yes : (m.any fun y => decide (y.1 = k)) = true := any_of_findIdx_some (ix ▸ f)
    have st : stored m k v = m.map fun y => if y.1 = k then (y.1, v) else y := by rw [stored, if_pos yes]
    refine wpAny_updateDict g1 g3 (q _ ?_ (Heap.SameBut.update ..))
    refine ⟨_, _, ep, Heap.get?_update_self _ g1 (Obj.isFreed_of_dict (Obj.data_mapDict g3 _)), g2.mapDict _, Obj.data_mapDict g3 _, g4.modify _ _, ?_, ?_⟩
    · have at_ : (es.toList.findIdx? fun y => knd.is k y.key) = some i := by
        rw [← f]
        obtain ⟨z⟩ := es
        simp
      have z := g5.modify g6 at_ v
      rw [st]
      obtain ⟨y⟩ := es
      simpa using z
    · rw [st, keys_map_store]
      exact g6
  | none =>
    have no : k ∉ m.map (·.1) := not_mem_of_findIdx_none (ix ▸ f)
    have no2 : ¬ (m.any fun y => decide (y.1 = k)) = true := fun c => by
      obtain ⟨y, hy, z⟩ := List.any_eq_true.mp c
      exact no (List.mem_map.mpr ⟨y, hy, of_decide_eq_true z⟩)
    have st : stored m k v = m ++ [(k, v)] := by rw [stored, if_neg no2]
    refine wpAny_updateDictKeys (hz := len) g1 g3 (q _ ?_ (Heap.SameBut.update ..))
    refine ⟨_, _, ep + 1, Heap.get?_update_self _ g1 (Obj.isFreed_of_dict (Obj.data_mapDictKeys g3 _)), g2.mapDictKeys _, Obj.data_mapDictKeys g3 _, g4.push hk _, ?_, ?_⟩
    · have z := g5.append hk (knd.hash k) v
      rw [st]
      obtain ⟨y⟩ := es
      simpa using z
    · rw [st, List.map_append]
      refine List.nodup_append.mpr ⟨g6, by simp, fun x hx y hy z => ?_⟩
      have e1 : y = k := by simpa using hy
      exact no (by rw [← e1, ← z]; exact hx)
theorem stored_len {m : List (K × Value)} {k : K} {v : Value} : (stored m k v).length ≤ m.length + 1 := by
  unfold stored
  split
  · rw [List.length_map]
    exact Nat.le_succ _
  · rw [List.length_append]
    exact Nat.le_refl _
/-- where a dict's object stands, it is a dict -/
theorem ty_dict {a : Addr} {ks : List (K × Value)} (B : s.heap.DictOf knd a ks) : s.TypeIs (.ref a) "dict" := B.typeIs
theorem pairs_at : ∀ {es : List DictEntry} {ks : List (K × Value)} {i : Nat} {e : DictEntry}, Pairs knd es ks → es[i]? = some e → ∃ y, ks[i]? = some y ∧ knd.is y.1 e.key = true ∧ e.val = y.2
  | _, _, 0, e, .cons (kv := y) h1 h2 _, h => by
    have z := Option.some.inj h
    subst z
    exact ⟨y, rfl, h1, h2⟩
  | _, _, i + 1, e, .cons _ _ t, h => by
    have h' := h
    rw [List.getElem?_cons_succ] at h'
    obtain ⟨y, a, b⟩ := pairs_at t h'
    exact ⟨y, by rw [List.getElem?_cons_succ]; exact a, b⟩
theorem range_loop {M : Model} {n : Nat} {f : Nat → PUnit → Sem (ForInStep PUnit)} (inv : Nat → Shared → Prop) (h0 : inv 0 s)
    (turn : ∀ i c s', i < n → inv i s' → wpAny M A (f i c) (fun r s2 => r = .yield ⟨⟩ ∧ inv (i + 1) s2) E s') : wpAny M A (forIn (List.range n) PUnit.unit f) (fun _ s' => inv n s') E s := by
  refine wpAny_forIn_list f (fun rest _ s' => ∃ i, rest = (List.range n).drop i ∧ i ≤ n ∧ inv i s') _ (fun x rest c s' hi => ?_) (fun c s' hi => ?_) _ _ ⟨0, rfl, Nat.zero_le _, h0⟩
  · obtain ⟨i, e, le, hv⟩ := hi
    have hlt : i < n := by
      by_cases q : i < n
      · exact q
      · rw [List.drop_eq_nil_of_le (by rw [List.length_range]; omega)] at e
        cases e
    rw [List.drop_eq_getElem_cons (by rw [List.length_range]; exact hlt)] at e
    injection e with e1 e2
    rw [List.getElem_range] at e1
    subst e1
    refine wpAny_mono (turn x c s' hlt hv) (fun r s2 h => ?_) fun _ _ z => z
    obtain ⟨rfl, h2⟩ := h
    exact ⟨x + 1, e2, hlt, h2⟩
  · obtain ⟨i, e, le, hv⟩ := hi
    have hn : i = n := by
      have := congrArg List.length e
      rw [List.length_drop, List.length_range] at this
      simp at this
      omega
    rw [← hn]
    exact hv
theorem merge_pairs {d a : Addr} {m ks : List (K × Value)} {Q : Unit → Shared → Prop} (ne : a ≠ d) (hs : (a == sysModules) = false) (D : s.heap.DictOf knd d m) (B : s.heap.DictOf knd a ks) (hz : m.length + ks.length ≤ sizeLine)
    (nr : ∀ k r, knd.is k (.ref r) = false) (q : ∀ h', h'.DictOf knd d (ks.foldl (fun m y => stored m y.1 y.2) m) → Heap.SameBut d s.heap h' → Q () { s with heap := h' }) :
    wpAny (model prog w) A (mergeMapping d (.ref a) false) Q E s := by
  have ty : s.TypeIs (.ref a) "dict" := B.typeIs
  obtain ⟨ob, eb, nb, b1, b2, b3, b4, b5, b6⟩ := id B
  obtain ⟨od, ed, nd, d1, d2, d3, d4, d5, d6⟩ := id D
  unfold mergeMapping
  refine wpAny_bind (m := isInstance (.ref a) (.type "dict")) ?_
  refine wpAny_isInstance (T := "dict") (U := "dict") (b := true) ty (by rw [isSubtype_type]; kernel_rfl) ?_
  simp only [if_true]
  refine wpAny_bind (m := specialOf (.ref a) "__iter__") ?_
  refine wpAny_specialOf ty PySem.F.slot_dict_iter.lookup ?_
  refine wpAny_bind (wpAny_pure ?_)
  simp only [beq_self_eq_true]
  rw [if_neg (by rw [hs]; exact Bool.false_ne_true)]
  let inv : Nat → Shared → Prop := fun i s' => ∃ h', s' = { s with heap := h' } ∧ h'.DictOf knd d ((ks.take i).foldl (fun m y => stored m y.1 y.2) m) ∧ Heap.SameBut d s.heap h'
  have i0 : inv 0 s := ⟨s.heap, rfl, D, Heap.SameBut.refl _ _⟩
  have kl : eb.size = ks.length := by
    have z := b5.length
    rwa [Array.length_toList] at z
  have fl : ∀ (r : List (K × Value)) (m : List (K × Value)), (r.foldl (fun m y => stored m y.1 y.2) m).length ≤ m.length + r.length := by
    intro r
    induction r with
    | nil => exact fun m => Nat.le_refl _
    | cons y r ih =>
      intro m
      have z := ih (stored m y.1 y.2)
      have z2 := stored_len (m := m) (k := y.1) (v := y.2)
      rw [List.foldl_cons, List.length_cons]
      omega
  have last : ∀ s', inv eb.size s' → Q () s' := fun s' ⟨h', e, x, y⟩ => by
    rw [kl, List.take_length] at x
    rw [e]
    exact q h' x y
  have step : ∀ i s', i < eb.size → inv i s' → ∃ e, eb[i]? = some e ∧ s'.heap.get? a = some ob ∧ ∀ Q' : Unit → Shared → Prop, (∀ s2, s2.heap.get? a = some ob → inv (i + 1) s2 → Q' () s2) → wpAny (model prog w) A (dictPut d e.hash e.key e.val) Q' E s' := by
    rintro i s' hi ⟨h', rfl, x, y⟩
    have ha : h'.get? a = some ob := (y.2 a ne).trans b1
    refine ⟨eb[i], Array.getElem?_eq_getElem hi, ha, fun Q' k => ?_⟩
    obtain ⟨z, hz1, hz2, hz3⟩ := pairs_at b5 (by rw [Array.getElem?_toList, Array.getElem?_eq_getElem hi])
    obtain ⟨k', hk1, hk2⟩ := b4 eb[i] (Array.getElem_mem hi)
    have ek : k' = z.1 := knd.inj _ _ _ hk1 hz2
    rw [hk2, ek, hz3]
    refine put_pairs hz2 x ?_ (fun h2 g1 g2 => k _ ((g2.2 a ne).trans ha) ⟨h2, rfl, ?_, ?_⟩)
    · have := fl (ks.take i) m
      rw [List.length_take] at this
      omega
    · rw [List.take_add_one, hz1, Option.toList_some, List.foldl_append]
      exact g1
    · exact y.trans g2
  refine wpAny_bind (wpAny_dictEntries d1 d3 ?_)
  have turn : True := trivial
  by_cases emp : ed.isEmpty = true
  · rw [if_pos emp]
    refine wpAny_bind (wpAny_dictEntries b1 b3 ?_)
    refine wpAny_bind ?_
    refine wpAny_forIn_array' _ (fun (rest : List DictEntry) (_ : PUnit) (s' : Shared) => s' = s ∧ ∀ e ∈ rest, e ∈ eb.toList) _ ?_ ?_ eb ⟨⟩ ⟨rfl, fun e h => h⟩
    · rintro x rest c s' ⟨rfl, h⟩
      obtain ⟨k', hk1, _⟩ := b4 x (by simpa using h x List.mem_cons_self)
      cases hx : x.key with
      | ref r =>
        rw [hx, nr] at hk1
        cases hk1
      | _ => exact wpAny_pure ⟨rfl, fun e he => h e (List.mem_cons_of_mem _ he)⟩
    · rintro c s' ⟨rfl, _⟩
      refine wpAny_bind (wpAny_dictEntries b1 b3 (wpAny_bind (wpAny_dictEpoch b1 b3 ?_)))
      refine wpAny_bind (wpAny_mono (range_loop inv i0 fun i c s2 hi hv => ?_) (fun _ s2 h => wpAny_pure (last s2 h)) fun _ _ z => z)
      obtain ⟨e, he, ha, k⟩ := step i s2 hi hv
      refine wpAny_bind (wpAny_dictEntries ha b3 ?_)
      rw [he]
      refine wpAny_bind (wpAny_holding ?_)
      simp only [Bool.false_eq_true, if_false]
      refine k _ fun s3 h1 h2 => wpAny_bind (wpAny_dictEpoch h1 b3 ?_)
      simp only [bne_self_eq_false, Bool.false_eq_true, if_false]
      exact wpAny_pure ⟨rfl, h2⟩
  · rw [if_neg emp]
    refine wpAny_bind (wpAny_dictEntries b1 b3 (wpAny_bind (wpAny_dictEpoch b1 b3 ?_)))
    refine wpAny_bind (wpAny_mono (range_loop inv i0 fun i c s2 hi hv => ?_) (fun _ s2 h => wpAny_pure (last s2 h)) fun _ _ z => z)
    obtain ⟨e, he, ha, k⟩ := step i s2 hi hv
    refine wpAny_bind (wpAny_dictEntries ha b3 ?_)
    rw [he]
    refine wpAny_bind (wpAny_holding ?_)
    simp only [Bool.false_eq_true, if_false]
    refine k _ fun s3 h1 h2 => wpAny_bind (wpAny_dictEpoch h1 b3 ?_)
    simp only [bne_self_eq_false, Bool.false_eq_true, if_false]
    exact wpAny_pure ⟨rfl, h2⟩
end
end GrMg
namespace Lw
open PySem PySem.Spec PyProof.Rows L2 GrT GrOwn GrMg
theorem dict2 {prog : Program} {w : World} {A : Around} {E : Value → Shared → Prop} {s : Shared} {t1 t2 : Sem Value} {Q : Value → Shared → Prop}
    (h : wpAny (model prog w) A t1 (fun v s1 => wpAny (model prog w) A (mergeMapping s.heap.objs.size v false) (fun _ s2 => wpAny (model prog w) A t2 (fun u s3 => wpAny (model prog w) A (mergeMapping s.heap.objs.size u false) (fun _ s4 => Q (.ref s.heap.objs.size) s4) (fun _ _ => False) s3) E s2) (fun _ _ => False) s1) E { s with heap := s.heap.push { cls := .type "dict", data := .dict #[] } }) :
    wpAny (model prog w) A (dictDisplay [(none, t1), (none, t2)]) Q E s := by
  unfold dictDisplay
  simp only [List.forIn_cons, List.forIn_nil, List.isEmpty_nil, if_true, pure_bind, bind_assoc]
  have quiet : ∀ {m : Sem Unit} {k1 k3 : Value → Sem Unit} {k2 : Value → Sem Unit} {Q' : Unit → Shared → Prop} {E' : Value → Shared → Prop} {s' : Shared}, wpAny (model prog w) A m Q' (fun _ _ => False) s' → wpAny (model prog w) A (((m.onRaise k1).tryCatch k2).onRaise k3) Q' E' s' := fun {m k1 k3 k2 Q' E' s'} z =>
    wpAny_onRaise (wpAny_tryCatch (wpAny_onRaise (wpAny_mono z (fun _ _ q => q) fun _ _ q => q.elim)))
  refine wpAny_bind (wpAny_alloc (wpAny_bind (wpAny_holding (wpAny_mono h (fun v s1 h1 => ?_) fun _ _ z => z))))
  refine wpAny_bind (quiet (wpAny_holding (wpAny_mono h1 (fun _ s2 h2 => ?_) fun _ _ z => z)))
  refine wpAny_bind (wpAny_holding (wpAny_mono h2 (fun u s3 h3 => ?_) fun _ _ z => z))
  refine wpAny_bind (quiet (wpAny_holding (wpAny_mono h3 (fun _ s4 h4 => ?_) fun _ _ z => z)))
  exact wpAny_pure h4
def mergeK (m ks : List (Key × V)) : List (Key × V) := ks.foldl (fun m y => putK m y.1 y.2) m
section
variable {X : Cx} {pins : List (Addr × Obj)} {σ : L2.St} {H : Hp} {s : Shared}
theorem merge_ok {d a : Addr} {ls ks : List (Key × V)} {Q : Unit → Shared → Prop} (I : Inv X pins σ H s) (hd : H d = some (.dK ls)) (ha : H a = some (.dK ks)) (ne : a ≠ d) (hz : ls.length + ks.length ≤ 1000)
    (q : ∀ s', Inv X pins σ (upd H d (.dK (mergeK ls ks))) s' → Q () s') : wpAny (model X.prog X.w) X.A (mergeMapping d (.ref a) false) Q (fun _ _ => False) s := by
  obtain ⟨z1, y1, v1, r1, D⟩ := dk_of I.hok hd
  obtain ⟨z2, y2, v2, r2, B⟩ := dk_of I.hok ha
  have l1 := r1.length
  have l2 := r2.length
  obtain ⟨hp, g, dr, t, os⟩ := s
  refine merge_pairs ne y2 D B (Nat.le_trans (by omega) (line_big (n := 1000) (by decide))) (fun k r => ?_) fun h' hD hs => q _ ?_
  · cases k <;> rfl
  · have rel : ∀ {ks : List (Key × V)} {v2 : List (Key × Value)} {ls : List (Key × V)} {v1 : List (Key × Value)}, KV ls v1 → KV ks v2 → KV (mergeK ls ks) (v2.foldl (fun m y => stored m y.1 y.2) v1) := by
      intro ks v2 ls v1 h1 h2
      induction h2 generalizing ls v1 with
      | nil => exact h1
      | cons r _ ih => exact ih (by dsimp only; rw [← r.1]; exact h1.put _ r.2)
    have ll : ∀ (ks ls : List (Key × V)), (mergeK ls ks).length ≤ ls.length + ks.length := by
      intro ks
      induction ks with
      | nil => exact fun ls => Nat.le_refl _
      | cons y r ih =>
        intro ls
        have z := ih (putK ls y.1 y.2)
        have z2 := length_putK ls y.1 y.2
        show (mergeK (putK ls y.1 y.2) r).length ≤ _
        rw [List.length_cons]
        omega
    have he : ∃ o, h'.get? d = some o := by
      obtain ⟨o, _, _, e, _⟩ := hD
      exact ⟨o, e⟩
    exact d_write I (t' := t) (by rw [hd]; exact True.intro) hs he (dk_new (Nat.le_trans (ll ks ls) (Nat.le_trans hz (line_big (by decide)))) y1 (rel r1 r2) hD)
end
/-- {**x, **y} -/
def tMrg2 (ta tb : TE) : TE := fun σ H Q => ∀ D, H D = none → ta σ (upd H D (.dK [])) fun x H1 => ∃ a ks, x = .ref a ∧ a ≠ D ∧ H1 a = some (.dK ks) ∧ H1 D = some (.dK []) ∧ ks.length ≤ 400 ∧
  tb σ (upd H1 D (.dK (mergeK [] ks))) fun y H3 => ∃ b ms, y = .ref b ∧ b ≠ D ∧ H3 b = some (.dK ms) ∧ H3 D = some (.dK (mergeK [] ks)) ∧ ms.length ≤ 400 ∧ Q (.ref D) (upd H3 D (.dK (mergeK (mergeK [] ks) ms)))
theorem mergeK_len (ks : List (Key × V)) : ∀ ls : List (Key × V), (mergeK ls ks).length ≤ ls.length + ks.length := by
  induction ks with
  | nil => exact fun ls => Nat.le_refl _
  | cons y r ih =>
    intro ls
    have z := ih (putK ls y.1 y.2)
    have z2 := length_putK ls y.1 y.2
    show (mergeK (putK ls y.1 y.2) r).length ≤ _
    rw [List.length_cons]
    omega
theorem pe_mrg2 {X : Cx} {a b : Expr} {ta tb : TE} {pos : Pos} (ha : PE X a ta) (hb : PE X b tb)
    (he : eval (.Dict [none, none] [a, b] pos) X.env = (do
      standAt pos
      dictDisplay [(none, do let x ← eval a X.env; standAt pos; pure x), (none, do let x ← eval b X.env; standAt pos; pure x)]) := by rfl) : PE X (.Dict [none, none] [a, b] pos) (tMrg2 ta tb) := by
  refine ⟨fun pins s σ H Q I h => ?_⟩
  rw [he]
  have hn : H s.heap.objs.size = none := I.hok.fresh (Nat.le_refl _)
  have I1 := I.laid (a := s.heap.objs.size) (o := .dK []) (t' := s.toks) (fun _ _ q => Heap.get?_push_of_some _ q) (Nat.le_refl _) (dk_empty s.heap I.big)
  refine wpAny_bind (wpAny_standAt (dict2 ?_))
  refine wpAny_bind (thn (ha.run pins _ σ _ _ I1 (h _ hn)) fun v s1 hv => wpAny_bind (wpAny_standAt (wpAny_pure ?_)))
  obtain ⟨x, H1, I2, rx, p, ks, rfl, np, ep, eD, kl, q1⟩ := hv
  cases rx
  refine merge_ok I2 eD ep np (by rw [List.length_nil]; omega) fun s2 I3 => ?_
  refine wpAny_bind (thn (hb.run pins _ σ _ _ I3 q1) fun u s3 hu => wpAny_bind (wpAny_standAt (wpAny_pure ?_)))
  obtain ⟨y, H3, I4, ry, r, ms, rfl, nr, er, eD3, ml, q2⟩ := hu
  cases ry
  have l0 := mergeK_len ks []
  refine merge_ok I4 eD3 er nr (by rw [List.length_nil] at l0; omega) fun s4 I5 => ?_
  exact ⟨.ref s.heap.objs.size, _, I5, rfl, q2⟩
end Lw
namespace GrT
open PySem L2
section
variable {α : Type}
/-- the second list's entries laid over the first one's -/
def unite (fs gs : List (Str × α)) : List (Str × α) := gs.foldl (fun m p => put p.1 p.2 m) fs
def flt (c : Str → Bool) (l : List (Str × α)) : List (Str × α) := l.filter fun p => c p.1
theorem unite_nd : ∀ {gs fs : List (Str × α)}, (names fs).Nodup → (names (unite fs gs)).Nodup
  | [], _, h => h
  | p :: r, _, h => unite_nd (gs := r) (nodup_put h)
theorem unite_len : ∀ {gs fs : List (Str × α)}, (unite fs gs).length ≤ fs.length + gs.length
  | [], _ => Nat.le_refl _
  | p :: r, fs => by
    have z := unite_len (gs := r) (fs := put p.1 p.2 fs)
    have z2 := length_put (x := p.1) (y := p.2) (l := fs)
    show (unite (put p.1 p.2 fs) r).length ≤ _
    rw [List.length_cons]
    omega
theorem look_unite {x : Str} : ∀ {gs fs : List (Str × α)}, (names gs).Nodup → look x (unite fs gs) = (look x gs).or (look x fs)
  | [], _, _ => rfl
  | (y, v) :: r, fs, h => by
    have h' := List.nodup_cons.mp h
    have ih := look_unite (x := x) (gs := r) (fs := put y v fs) h'.2
    show look x (unite (put y v fs) r) = _
    have e0 : look x ((y, v) :: r) = if y = x then some v else look x r := rfl
    rw [ih, look_put, e0]
    by_cases e : y = x
    · subst e
      have hn : look y r = none := look_none.mpr h'.1
      rw [if_pos rfl, if_pos rfl, hn]
      rfl
    · rw [if_neg e, if_neg fun z => e z.symm]
theorem unite_names {x : Str} {gs fs : List (Str × α)} (h : (names gs).Nodup) : x ∈ names (unite fs gs) ↔ x ∈ names gs ∨ x ∈ names fs := by
  have k : ∀ l : List (Str × α), x ∈ names l ↔ look x l ≠ none := fun l => by
    rw [Ne, look_none]
    exact Decidable.not_not.symm
  rw [k, k, k, look_unite h]
  cases look x gs <;> simp
theorem names_flt {c : Str → Bool} {l : List (Str × α)} : names (flt c l) = (names l).filter c := by
  unfold flt names
  rw [List.filter_map]
  rfl
theorem look_flt {c : Str → Bool} {x : Str} : ∀ {l : List (Str × α)}, look x (flt c l) = if c x = true then look x l else none
  | [] => by simp [flt, look]
  | (y, v) :: r => by
    have ih := look_flt (c := c) (x := x) (l := r)
    unfold flt at ih ⊢
    rw [List.filter_cons]
    by_cases h : c y = true
    · rw [if_pos h]
      unfold look
      by_cases e : y = x
      · subst e
        rw [if_pos rfl, if_pos rfl, if_pos h]
      · rw [if_neg e, if_neg e]
        exact ih
    · rw [if_neg h]
      by_cases e : y = x
      · subst e
        rw [ih, if_neg h, if_neg h]
      · rw [ih]
        conv => rhs; unfold look
        rw [if_neg e]
end
theorem Wf.unite {L M : Nat} : ∀ {gs fs : List (Str × T)}, Wf L fs → (∀ p ∈ gs, Good p.1) → L + gs.length ≤ M → Wf M (GrT.unite fs gs)
  | [], _, h, _, z => h.mono (by simpa using z)
  | p :: r, fs, h, g, z => by
    rw [List.length_cons] at z
    exact Wf.unite (gs := r) (h.put (g p List.mem_cons_self)) (fun q hq => g q (List.mem_cons_of_mem _ hq)) (by omega)
theorem Wf.flt {L : Nat} {c : Str → Bool} {fs : List (Str × T)} (h : Wf L fs) : Wf L (GrT.flt c fs) :=
  ⟨by rw [names_flt]; exact h.nd.sublist List.filter_sublist, Nat.le_trans (List.length_filter_le _ _) h.ln, fun p hp => h.gd p (List.mem_filter.mp hp).1⟩
end GrT
namespace Lw
open PySem PySem.Spec PyProof.Rows L2 GrT GrOwn GrMg
theorem merge_dk : ∀ {m l : List (Str × V)}, (names l).Nodup → mergeK (dk l) (dk m) = dk (unite l m)
  | [], _, _ => rfl
  | (x, v) :: r, l, h => by
    show mergeK (putK (dk l) (Sum.inr x) v) (dk r) = dk (unite (put x v l) r)
    rw [dk_put x v l h, merge_dk (nodup_put h)]
theorem unite_nil {α : Type} {l : List (Str × α)} (h : (names l).Nodup) : ∀ {m : List (Str × α)}, (∀ x ∈ names l, x ∉ names m) → unite m l = m ++ l := by
  induction l with
  | nil => exact fun _ => (List.append_nil _).symm
  | cons p r ih =>
    intro m hm
    obtain ⟨x, v⟩ := p
    have h' := List.nodup_cons.mp h
    have e : put x v m = m ++ [(x, v)] := by
      have : ∀ {m : List (Str × α)}, x ∉ names m → put x v m = m ++ [(x, v)] := by
        intro m
        induction m with
        | nil => exact fun _ => rfl
        | cons q s ih2 =>
          obtain ⟨y, u⟩ := q
          intro hx
          rw [put, if_neg (fun z => hx (by rw [← z]; exact List.mem_cons_self)), ih2 fun z => hx (List.mem_cons_of_mem _ z)]
          rfl
      exact this (hm x List.mem_cons_self)
    show unite (put x v m) r = _
    rw [e, ih h'.2 fun y hy z => ?_, List.append_assoc]
    · rfl
    · have z' : y ∈ names m ++ [x] := by simpa [names] using z
      rcases List.mem_append.mp z' with q | q
      · exact hm y (List.mem_cons_of_mem _ hy) q
      · exact h'.1 (by rw [← List.mem_singleton.mp q]; exact hy)
theorem rc_new {S S1 S2 : Addr → Prop} {C a : Addr} {H1 H' : Hp} {n : Nat} {lm l : List (Str × V)} {U : List (Str × T)} (pm : (names lm).Perm (names U)) (wf : Wf 40 U) (ch : ∀ x v u, look x lm = some v → look x U = some u → Rc S C H1 n v u)
    (ra : RA S1 C H' a l (lm.length + ((names lm).map (szf U)).sum)) (pl : (names l).Perm (names lm)) (lk : ∀ x, look x l = look x lm) (k : ∀ b o, S b → H1 b = some o → Ro o → H' b = some o) (w1 : ∀ b, S b → S2 b) (w2 : ∀ b, S1 b → S2 b) : Rc S2 C H' (n + 1) (.ref a) (.fds U) := by
  have e : (lm.length : Int) + ((names lm).map (szf U)).sum = nfs U := by
    have h1 : lm.length = U.length := by
      have := pm.length_eq
      rwa [List.length_map, List.length_map] at this
    rw [sum_perm pm, h1]
    exact nfs_len wf.nd
  rw [e] at ra
  exact .inr ⟨a, l, U, rfl, rfl, ra.wid w2, wf, pl.trans pm, fun x v u h1 h2 => ((ch x v u (by rw [← lk]; exact h1) h2).keep k).wid w1⟩
/-! ### the operators' promises -/
def All : Addr → Prop := fun _ => True
def spOr (C : Addr) (n : Nat) : Sp := fun vs H Q _ => ∃ (a b : Addr) (fs gs : List (Str × T)), vs = [.ref a, .ref b] ∧ Rc All C H (n + 1) (.ref a) (.fds fs) ∧ Rc All C H (n + 1) (.ref b) (.fds gs) ∧ fs.length + gs.length ≤ 40 ∧
  ∀ r H', Rc All C H' (n + 1) (.ref r) (.fds (unite fs gs)) → Same H H' → Q (.ref r) H'
def spPart (C : Addr) (n : Nat) (there : Bool) : Sp := fun vs H Q _ => ∃ (a b : Addr) (fs gs : List (Str × T)), vs = [.ref a, .ref b] ∧ Rc All C H (n + 1) (.ref a) (.fds fs) ∧ Rc All C H (n + 1) (.ref b) (.fds gs) ∧
  ∀ r H', Rc All C H' (n + 1) (.ref r) (.fds (flt (fun x => (look x gs).isSome == there) fs)) → Same H H' → Q (.ref r) H'
abbrev sOr : Stmt := inClass (top 10) 10
abbrev sAdd : Stmt := inClass (top 10) 11
abbrev sSub : Stmt := inClass (top 10) 12
abbrev sAnd : Stmt := inClass (top 10) 13
section
variable {P : Program} {w : World} {K : PySem.W.Frag} {mg : Str → Option Value} {base : Heap} {C : Addr}
theorem scOr : FnScope ["self", "other"] ["self", "other"] (defScope sOr) := ⟨rfl, rfl, rfl, by decide +kernel, rfl, by decide +kernel, by decide +kernel⟩
/-- a record taken apart -/
theorem Rc.out {S : Addr → Prop} {H : Hp} {n : Nat} {a : Addr} {fs : List (Str × T)} (h : Rc S C H (n + 1) (.ref a) (.fds fs)) : ∃ l, RA S C H a l (nfs fs) ∧ Wf 40 fs ∧ (names l).Perm (names fs) ∧ ∀ x v u, look x l = some v → look x fs = some u → Rc S C H n v u := by
  refine h.cases (fun i e _ => by cases e) fun k a' l fs' en e1 e2 ra wf pm ch => ?_
  cases en
  cases e1
  cases e2
  exact ⟨l, ra, wf, pm, ch⟩
theorem fn_or (T : Bu mg) (R : RecK K mg C) (I : InK K C) (vs_ : Cal P w K mg base 3 "value_size" (spVs C)) (n : Nat) {f : Addr} {fd : FuncData} (F : L2.Fun K "__or__" "Record.__or__" sOr f fd) : FnOk P w K mg base CX0 6 f fd ["self", "other"] (spOr C n) := by
  refine F.ok scOr (fun vs H Q E h => ?_) (fun cdv A outer s H vs Q E hr h => ?_)
  · obtain ⟨a, b, fs, gs, rfl, _⟩ := h
    rfl
  · obtain ⟨a, b, fs, gs, rfl, r1, r2, hl, q⟩ := h
    obtain ⟨l, ⟨⟨dx, tp, d1, _, ea, _, ed1⟩, nl, _⟩, wf, pm, ch⟩ := Rc.out r1
    obtain ⟨m, ⟨⟨dy, tq, d2, _, eb, _, ed2⟩, nm, _⟩, wg, pg, cg⟩ := Rc.out r2
    refine ⟨_, (pss_one (ps_ret (pe_new T R vs_ I hr (by decide) (by rfl) (pa_cons (pe_mrg2 (pe_fld (pv 0) rfl) (pe_fld (pv 1) rfl)) pa_nil)))), ?_⟩
    intro D hD
    have s1 : Same H (upd H D (.dK [])) := Same.new (Same.refl _) hD
    have ne1 : d1 ≠ D := ne_of_none ed1 hD
    have ne2 : d2 ≠ D := ne_of_none ed2 hD
    have ll : l.length = fs.length := by
      have := pm.length_eq
      rwa [List.length_map, List.length_map] at this
    have lm : m.length = gs.length := by
      have := pg.length_eq
      rwa [List.length_map, List.length_map] at this
    have hfl := wf.ln
    have hgl := wg.ln
    have e0 : mergeK [] (dk l) = dk l := by
      have z := merge_dk (m := l) (l := []) (by simp [names])
      rw [unite_nil nl (fun x _ h => by simp [names] at h)] at z
      exact z
    refine ⟨_, rfl, a, C, dx, _, _, rfl, s1 _ _ ea, R.cl, R.nF, rf_fields _ _ _, d1, dk l, rfl, ne1, s1 _ _ ed1, upd_same, by rw [dk_len]; omega, ?_⟩
    rw [e0]
    have s2 : Same H (upd (upd H D (.dK [])) D (.dK (dk l))) := by
      rw [upd_upd]
      exact Same.new (Same.refl _) hD
    refine ⟨_, rfl, b, C, dy, _, _, rfl, s2 _ _ eb, R.cl, R.nF, rf_fields _ _ _, d2, dk m, rfl, ne2, s2 _ _ ed2, upd_same, by rw [dk_len]; omega, ?_⟩
    rw [merge_dk nl, upd_upd, upd_upd]
    have s3 : Same H (upd H D (.dK (dk (unite l m)))) := Same.new (Same.refl _) hD
    have eD : (upd H D (.dK (dk (unite l m)))) D = some (.dK (dk (unite l m))) := upd_same
    generalize upd H D (.dK (dk (unite l m))) = H1 at s3 eD ⊢
    intro x dx1 hx hdx hne
    have eX : (upd (upd H1 dx1 (.own x)) x (.ins C dx1 [])) x = some (.ins C dx1 []) := upd_same
    have sX : Same H1 (upd (upd H1 dx1 (.own x)) x (.ins C dx1 [])) := Same.new (Same.new (Same.refl _) hdx) (by rw [upd_ne hne.symm]; exact hx)
    generalize upd (upd H1 dx1 (.own x)) x (.ins C dx1 []) = HX at eX sX ⊢
    have s4 := s3.trans sX
    have lu := unite_len (fs := l) (gs := m)
    have cu : ∀ y v u, look y (unite l m) = some v → look y (unite fs gs) = some u → Rc All C H n v u := fun y v u h1 h2 => by
      rw [look_unite nm] at h1
      rw [look_unite wg.nd] at h2
      cases e1 : look y m with
      | some v' =>
        obtain ⟨u', hu'⟩ := look_some (pg.mem_iff.mp (List.mem_map.mpr ⟨_, look_mem e1, rfl⟩ : y ∈ names m))
        rw [e1] at h1
        rw [hu'] at h2
        cases h1
        cases h2
        exact cg y _ _ e1 hu'
      | none =>
        have e2 : look y gs = none := look_none.mpr fun z => look_none.mp e1 (pg.mem_iff.mpr z)
        rw [e1] at h1
        rw [e2] at h2
        exact ch y v u h1 h2
    have pu : (names (unite l m)).Perm (names (unite fs gs)) := (List.perm_ext_iff_of_nodup (unite_nd nl) (unite_nd wf.nd)).mpr fun y => by
      rw [unite_names nm, unite_names wg.nd, pm.mem_iff, pg.mem_iff]
    have wu : Wf 40 (unite fs gs) := Wf.unite (L := fs.length) ⟨wf.nd, Nat.le_refl _, wf.gd⟩ wg.gd hl
    refine ⟨x, dx1, D, unite l m, szf (unite fs gs), rfl, eX, sX _ _ eD, unite_nd nl, by omega, fun y v hv => ?_, fun l' H'' ra p2 lk fx => ⟨rfl, q x H'' ?_ ?_⟩⟩
    · obtain ⟨u, hu⟩ := look_some (pu.mem_iff.mp (List.mem_map.mpr ⟨_, look_mem hv, rfl⟩))
      have z := Rc.sz ((cu y v u hv hu).same s4)
      unfold szf
      rw [hu]
      exact z
    · exact rc_new pu wu cu ra p2 lk (fun c o _ e _ => fx c o (fun z => by rw [z, s3.free hx] at e; cases e) (s4 _ _ e)) (fun _ _ => True.intro) (fun _ _ => True.intro)
    · exact fun c o e => fx c o (fun z => by rw [z, s3.free hx] at e; cases e) (s4 _ _ e)
end
end Lw
namespace Lw
open PySem PySem.Spec PyProof.Rows L2 GrT GrOwn GrMg
theorem pe_fldK {X : Cx} {K : PySem.W.Frag} {e : Expr} {ta : TE} {f : Str} {pos : Pos} (h : X.K = K) (he : PE X e ta) (hb : attributeBase e f X.env (eval e X.env) = eval e X.env) : PE X (.Attribute e f pos) (tFld K ta f) := h ▸ pe_fld he hb
section
variable {P : Program} {w : World} {K : PySem.W.Frag} {mg : Str → Option Value} {base : Heap} {C : Addr}
theorem scSub : FnScope ["self", "other", "name", "value"] ["self", "other"] (defScope sSub) := ⟨rfl, rfl, rfl, by decide +kernel, rfl, by decide +kernel, by decide +kernel⟩
theorem fn_sub (T : Bu mg) (R : RecK K mg C) (I : InK K C) (vs_ : Cal P w K mg base 3 "value_size" (spVs C)) (n : Nat) {f : Addr} {fd : FuncData} (F : L2.Fun K "__sub__" "Record.__sub__" sSub f fd) : FnOk P w K mg base CX0 6 f fd ["self", "other"] (spPart C n false) := by
  refine F.ok scSub (fun vs H Q E h => ?_) (fun cdv A outer s H vs Q E hr h => ?_)
  · obtain ⟨a, b, fs, gs, rfl, _⟩ := h
    rfl
  · obtain ⟨a, b, fs, gs, rfl, r1, r2, q⟩ := h
    have hu := hu_of hr
    obtain ⟨l, ⟨⟨dx, tp, d1, _, ea, _, ed1⟩, nl, _⟩, wf, pm, ch⟩ := Rc.out r1
    obtain ⟨m, ⟨⟨dy, tq, d2, _, eb, _, ed2⟩, nm, _⟩, wg, pg, cg⟩ := Rc.out r2
    refine ⟨_, (pss_one (ps_ret (pe_new T R vs_ I hr (by decide) (by rfl) (pa_cons (pe_lock (pe_dc (own := [("name", 2), ("value", 3)]) (g := gTup K 2 (gCons (gName 2) (gCons (gName 3) gNil))) rfl scSub.nd (pi_items (pe_fld (pv 0) rfl)) (blkOk_by (own := [("name", 2), ("value", 3)]) (N := ["self", "other", "name", "value"]) (sc := defScope sSub) (by decide +kernel))
      (fun _ _ _ _ _ => pg_tup rfl (pgs_cons (pg_name (i := 2) scSub.nd rfl (Or.inl rfl)) (pgs_cons (pg_name (i := 3) scSub.nd rfl (Or.inl rfl)) pgs_nil))) (fun _ _ _ _ _ => (by exact (pts_one (pt_cmp (pc_dnotin hu (pv 2) (pe_fldK (K := K) rfl (pv 1) (by rfl))))))) (fun _ _ _ _ _ => (by exact (pv 2))) (fun _ _ _ _ _ => (by exact (pv 3))))) pa_nil)))), ?_⟩
    have hfl := wf.ln
    have ll : l.length = fs.length := by
      have := pm.length_eq
      rwa [List.length_map, List.length_map] at this
    have ad1 : a ≠ d1 := fun z => by
      rw [z, ed1] at ea
      cases ea
    have bd1 : b ≠ d1 := fun z => by
      rw [z, ed1] at eb
      cases eb
    refine ⟨d1, .dK (dk l), ed1, True.intro, fun od => ?_⟩
    have eaB : (upd H d1 (.frz od (.dK (dk l)))) a = some (.ins C dx (rf tp d1 (nfs fs))) := by
      rw [upd_ne ad1]
      exact ea
    have ebB : (upd H d1 (.frz od (.dK (dk l)))) b = some (.ins C dy (rf tq d2 (nfs gs))) := by
      rw [upd_ne bd1]
      exact eb
    have edB : (upd H d1 (.frz od (.dK (dk l)))) d1 = some (.frz od (.dK (dk l))) := upd_same
    have look2 : ∀ H5, Same (upd H d1 (.frz od (.dK (dk l)))) H5 → ∀ x, DGet H5 d2 (.str x) (look x m) := fun H5 s5 x => by
      by_cases z : d2 = d1
      · have e : dk l = dk m := by
          rw [z, ed1] at ed2
          exact HO.dK.inj (Option.some.inj ed2)
        rw [z]
        exact .inl ⟨dk m, Sum.inr x, .inr ⟨od, by rw [← e]; exact s5 _ _ edB⟩, rfl, (dk_val x m).symm⟩
      · exact .inl ⟨dk m, Sum.inr x, .inl (s5 _ _ (by rw [upd_ne z]; exact ed2)), rfl, (dk_val x m).symm⟩
    have take1 : ∀ i x v, l[i]? = some (x, v) → flt (fun x => (look x m).isSome == false) (l.take (i + 1)) = flt (fun x => (look x m).isSome == false) (l.take i) ++ (if ((look x m).isSome == false) = true then [(x, v)] else []) := fun i x v h => by
      unfold flt
      rw [List.take_add_one, h, List.filter_append, Option.toList_some, List.filter_cons, List.filter_nil]
    refine ⟨_, rfl, a, C, dx, _, _, rfl, eaB, R.cl, R.nF, rf_fields _ _ _, d1, od, dk l, rfl, edB, fun D hD => dc_it walk_items (fun i H5 => H5 D = some (.dK (dk (flt (fun x => (look x m).isSome == false) (l.take i)))) ∧ Same (upd H d1 (.frz od (.dK (dk l)))) H5)
      ⟨upd_same, Same.new (Same.refl _) hD⟩ (fun i H5 _ h => h.2 _ _ edB) ?_ ?_⟩
    · rintro i y H5 H6 hi ⟨eD, sm⟩ ⟨Tp, x1, y1, rfl, hT, rfl, hx1, hy1⟩
      have hi2 : i < l.length := by
        rw [dk_len] at hi
        exact hi
      obtain ⟨⟨x, v⟩, hx⟩ : ∃ p, l[i]? = some p := ⟨l[i], List.getElem?_eq_getElem hi2⟩
      have hd : (dk l)[i]? = some (Sum.inr x, v) := by
        unfold dk
        rw [List.getElem?_map, hx]
        rfl
      have hx2 : ((dk l)[i]?).map (fun kv => kV kv.1) = some x1 := hx1
      have hy2 : ((dk l)[i]?).map Prod.snd = some y1 := hy1
      rw [hd] at hx2 hy2
      cases hx2
      cases hy2
      have eT : (upd H5 Tp (.tup [kV (Sum.inr x), v])) Tp = some (.tup [kV (Sum.inr x), v]) := upd_same
      have s6 : Same (upd H d1 (.frz od (.dK (dk l)))) (upd H5 Tp (.tup [kV (Sum.inr x), v])) := Same.new sm hT
      have eD6 : (upd H5 Tp (.tup [kV (Sum.inr x), v])) D = some (.dK (dk (flt (fun x => (look x m).isSome == false) (l.take i)))) := by
        rw [upd_ne (ne_of_none eD hT)]
        exact eD
      generalize upd H5 Tp (.tup [kV (Sum.inr x), v]) = H4 at eT s6 eD6 ⊢
      refine ⟨Tp, _, rfl, SqT.of eT, rfl, _, _, rfl, _, _, rfl, rfl, ?_⟩
      have t1 := take1 i x v hx
      refine ⟨rfl, _, rfl, _, rfl, b, C, dy, _, _, rfl, s6 _ _ ebB, R.cl, R.nF, rf_fields _ _ _, d2, _, rfl, look2 _ s6 x, _, rfl, ?_⟩
      have hno : x ∉ names (flt (fun x => (look x m).isSome == false) (l.take i)) := fun hm => by
        rw [names_flt] at hm
        have hm2 := (List.mem_filter.mp hm).1
        have e1 : names (l.take i) = (names l).take i := by simp [names, List.map_take]
        rw [e1] at hm2
        obtain ⟨j, hj, ej⟩ := List.mem_take_iff_getElem.mp hm2
        have e2 : (names l)[i]? = some x := by rw [List.getElem?_map, hx]; rfl
        have hi3 : i < (names l).length := (List.getElem?_eq_some_iff.mp e2).1
        have e3 : (names l)[i] = x := (List.getElem?_eq_some_iff.mp e2).2
        have := (List.getElem_inj nl).mp (ej.trans e3.symm)
        omega
      have ndt : (names (flt (fun x => (look x m).isSome == false) (l.take i))).Nodup := by
        rw [names_flt]
        have e1 : names (l.take i) = (names l).take i := by simp [names, List.map_take]
        rw [e1]
        exact (nl.sublist (List.take_sublist _ _)).sublist List.filter_sublist
      cases hc : look x m with
      | none =>
        rw [hc] at t1
        refine iteT ⟨_, rfl, _, rfl, _, Sum.inr x, rfl, eD6, Nat.lt_of_lt_of_le (m := 100) (by rw [dk_len]; exact Nat.lt_of_le_of_lt (List.length_filter_le _ _) (by rw [List.length_take]; omega)) (line_big (by decide)), ?_, ?_⟩
        · rw [upd_same, dk_put x v _ ndt, put_new hno, t1]
          rfl
        · intro c o e
          rw [upd_ne (ne_of_none e hD)]
          exact s6 c o e
      | some v0 =>
        rw [hc] at t1
        refine iteF ⟨?_, s6⟩
        rw [t1, eD6]
        simp
    · rintro H5 ⟨eD, sm⟩
      rw [dk_len, List.take_length] at eD
      have e5 := sm _ _ edB
      refine ⟨e5, ?_⟩
      have D1 : D ≠ d1 := (ne_of_none edB hD).symm
      have hD0 : H D = none := by
        rw [upd_ne D1] at hD
        exact hD
      have s3 : Same H (upd H5 d1 (.dK (dk l))) := Same.unlock ed1 sm
      have eDU : (upd H5 d1 (.dK (dk l))) D = some (.dK (dk (flt (fun x => (look x m).isSome == false) l))) := by
        rw [upd_ne D1]
        exact eD
      generalize upd H5 d1 (.dK (dk l)) = H1 at s3 eDU ⊢
      intro x dx1 hx hdx hne
      have eX : (upd (upd H1 dx1 (.own x)) x (.ins C dx1 [])) x = some (.ins C dx1 []) := upd_same
      have sX : Same H1 (upd (upd H1 dx1 (.own x)) x (.ins C dx1 [])) := Same.new (Same.new (Same.refl _) hdx) (by rw [upd_ne hne.symm]; exact hx)
      generalize upd (upd H1 dx1 (.own x)) x (.ins C dx1 []) = HX at eX sX ⊢
      have s4 := s3.trans sX
      have cc : ∀ y, ((look y m).isSome == false) = ((look y gs).isSome == false) := fun y => by
        cases e1 : look y m with
        | none =>
          rw [(look_none.mpr fun z => look_none.mp e1 (pg.mem_iff.mpr z) : look y gs = none)]
          rfl
        | some v' =>
          obtain ⟨u', hu'⟩ := look_some (pg.mem_iff.mp (List.mem_map.mpr ⟨_, look_mem e1, rfl⟩ : y ∈ names m))
          rw [hu']
          rfl
      have ef : flt (fun x => (look x m).isSome == false) l = flt (fun x => (look x gs).isSome == false) l := by
        unfold flt
        exact List.filter_congr fun p _ => cc p.1
      rw [ef] at eDU
      have cu : ∀ y v u, look y (flt (fun x => (look x gs).isSome == false) l) = some v → look y (flt (fun x => (look x gs).isSome == false) fs) = some u → Rc All C H n v u := fun y v u h1 h2 => by
        rw [look_flt] at h1 h2
        split at h1
        · rename_i c
          rw [if_pos c] at h2
          exact ch y v u h1 h2
        · cases h1
      have pu : (names (flt (fun x => (look x gs).isSome == false) l)).Perm (names (flt (fun x => (look x gs).isSome == false) fs)) := by
        rw [names_flt, names_flt]
        exact pm.filter _
      have ln : (flt (fun x => (look x gs).isSome == false) l).length ≤ l.length := List.length_filter_le _ _
      have ndl : (names (flt (fun x => (look x gs).isSome == false) l)).Nodup := by
        rw [names_flt]
        exact nl.sublist List.filter_sublist
      refine ⟨x, dx1, D, flt (fun x => (look x gs).isSome == false) l, szf (flt (fun x => (look x gs).isSome == false) fs), rfl, eX, sX _ _ eDU, ndl, by omega, fun y v hv => ?_, fun l' H'' ra p2 lk fx => ⟨rfl, q x H'' ?_ ?_⟩⟩
      · obtain ⟨u, hu⟩ := look_some (pu.mem_iff.mp (List.mem_map.mpr ⟨_, look_mem hv, rfl⟩))
        have z := Rc.sz ((cu y v u hv hu).same s4)
        unfold szf
        rw [hu]
        exact z
      · exact rc_new pu wf.flt cu ra p2 lk (fun c o _ e _ => fx c o (fun z => by rw [z, s3.free hx] at e; cases e) (s4 _ _ e)) (fun _ _ => True.intro) (fun _ _ => True.intro)
      · exact fun c o e => fx c o (fun z => by rw [z, s3.free hx] at e; cases e) (s4 _ _ e)
theorem scAnd : FnScope ["self", "other", "name", "value"] ["self", "other"] (defScope sAnd) := ⟨rfl, rfl, rfl, by decide +kernel, rfl, by decide +kernel, by decide +kernel⟩
theorem fn_and (T : Bu mg) (R : RecK K mg C) (I : InK K C) (vs_ : Cal P w K mg base 3 "value_size" (spVs C)) (n : Nat) {f : Addr} {fd : FuncData} (F : L2.Fun K "__and__" "Record.__and__" sAnd f fd) : FnOk P w K mg base CX0 6 f fd ["self", "other"] (spPart C n true) := by
  refine F.ok scAnd (fun vs H Q E h => ?_) (fun cdv A outer s H vs Q E hr h => ?_)
  · obtain ⟨a, b, fs, gs, rfl, _⟩ := h
    rfl
  · obtain ⟨a, b, fs, gs, rfl, r1, r2, q⟩ := h
    have hu := hu_of hr
    obtain ⟨l, ⟨⟨dx, tp, d1, _, ea, _, ed1⟩, nl, _⟩, wf, pm, ch⟩ := Rc.out r1
    obtain ⟨m, ⟨⟨dy, tq, d2, _, eb, _, ed2⟩, nm, _⟩, wg, pg, cg⟩ := Rc.out r2
    refine ⟨_, (pss_one (ps_ret (pe_new T R vs_ I hr (by decide) (by rfl) (pa_cons (pe_lock (pe_dc (own := [("name", 2), ("value", 3)]) (g := gTup K 2 (gCons (gName 2) (gCons (gName 3) gNil))) rfl scAnd.nd (pi_items (pe_fld (pv 0) rfl)) (blkOk_by (own := [("name", 2), ("value", 3)]) (N := ["self", "other", "name", "value"]) (sc := defScope sAnd) (by decide +kernel))
      (fun _ _ _ _ _ => pg_tup rfl (pgs_cons (pg_name (i := 2) scAnd.nd rfl (Or.inl rfl)) (pgs_cons (pg_name (i := 3) scAnd.nd rfl (Or.inl rfl)) pgs_nil))) (fun _ _ _ _ _ => (by exact (pts_one (pt_cmp (pc_din hu (pv 2) (pe_fldK (K := K) rfl (pv 1) (by rfl))))))) (fun _ _ _ _ _ => (by exact (pv 2))) (fun _ _ _ _ _ => (by exact (pv 3))))) pa_nil)))), ?_⟩
    have hfl := wf.ln
    have ll : l.length = fs.length := by
      have := pm.length_eq
      rwa [List.length_map, List.length_map] at this
    have ad1 : a ≠ d1 := fun z => by
      rw [z, ed1] at ea
      cases ea
    have bd1 : b ≠ d1 := fun z => by
      rw [z, ed1] at eb
      cases eb
    refine ⟨d1, .dK (dk l), ed1, True.intro, fun od => ?_⟩
    have eaB : (upd H d1 (.frz od (.dK (dk l)))) a = some (.ins C dx (rf tp d1 (nfs fs))) := by
      rw [upd_ne ad1]
      exact ea
    have ebB : (upd H d1 (.frz od (.dK (dk l)))) b = some (.ins C dy (rf tq d2 (nfs gs))) := by
      rw [upd_ne bd1]
      exact eb
    have edB : (upd H d1 (.frz od (.dK (dk l)))) d1 = some (.frz od (.dK (dk l))) := upd_same
    have look2 : ∀ H5, Same (upd H d1 (.frz od (.dK (dk l)))) H5 → ∀ x, DGet H5 d2 (.str x) (look x m) := fun H5 s5 x => by
      by_cases z : d2 = d1
      · have e : dk l = dk m := by
          rw [z, ed1] at ed2
          exact HO.dK.inj (Option.some.inj ed2)
        rw [z]
        exact .inl ⟨dk m, Sum.inr x, .inr ⟨od, by rw [← e]; exact s5 _ _ edB⟩, rfl, (dk_val x m).symm⟩
      · exact .inl ⟨dk m, Sum.inr x, .inl (s5 _ _ (by rw [upd_ne z]; exact ed2)), rfl, (dk_val x m).symm⟩
    have take1 : ∀ i x v, l[i]? = some (x, v) → flt (fun x => (look x m).isSome == true) (l.take (i + 1)) = flt (fun x => (look x m).isSome == true) (l.take i) ++ (if ((look x m).isSome == true) = true then [(x, v)] else []) := fun i x v h => by
      unfold flt
      rw [List.take_add_one, h, List.filter_append, Option.toList_some, List.filter_cons, List.filter_nil]
    refine ⟨_, rfl, a, C, dx, _, _, rfl, eaB, R.cl, R.nF, rf_fields _ _ _, d1, od, dk l, rfl, edB, fun D hD => dc_it walk_items (fun i H5 => H5 D = some (.dK (dk (flt (fun x => (look x m).isSome == true) (l.take i)))) ∧ Same (upd H d1 (.frz od (.dK (dk l)))) H5)
      ⟨upd_same, Same.new (Same.refl _) hD⟩ (fun i H5 _ h => h.2 _ _ edB) ?_ ?_⟩
    · rintro i y H5 H6 hi ⟨eD, sm⟩ ⟨Tp, x1, y1, rfl, hT, rfl, hx1, hy1⟩
      have hi2 : i < l.length := by
        rw [dk_len] at hi
        exact hi
      obtain ⟨⟨x, v⟩, hx⟩ : ∃ p, l[i]? = some p := ⟨l[i], List.getElem?_eq_getElem hi2⟩
      have hd : (dk l)[i]? = some (Sum.inr x, v) := by
        unfold dk
        rw [List.getElem?_map, hx]
        rfl
      have hx2 : ((dk l)[i]?).map (fun kv => kV kv.1) = some x1 := hx1
      have hy2 : ((dk l)[i]?).map Prod.snd = some y1 := hy1
      rw [hd] at hx2 hy2
      cases hx2
      cases hy2
      have eT : (upd H5 Tp (.tup [kV (Sum.inr x), v])) Tp = some (.tup [kV (Sum.inr x), v]) := upd_same
      have s6 : Same (upd H d1 (.frz od (.dK (dk l)))) (upd H5 Tp (.tup [kV (Sum.inr x), v])) := Same.new sm hT
      have eD6 : (upd H5 Tp (.tup [kV (Sum.inr x), v])) D = some (.dK (dk (flt (fun x => (look x m).isSome == true) (l.take i)))) := by
        rw [upd_ne (ne_of_none eD hT)]
        exact eD
      generalize upd H5 Tp (.tup [kV (Sum.inr x), v]) = H4 at eT s6 eD6 ⊢
      refine ⟨Tp, _, rfl, SqT.of eT, rfl, _, _, rfl, _, _, rfl, rfl, ?_⟩
      have t1 := take1 i x v hx
      refine ⟨rfl, _, rfl, _, rfl, b, C, dy, _, _, rfl, s6 _ _ ebB, R.cl, R.nF, rf_fields _ _ _, d2, _, rfl, look2 _ s6 x, _, rfl, ?_⟩
      have hno : x ∉ names (flt (fun x => (look x m).isSome == true) (l.take i)) := fun hm => by
        rw [names_flt] at hm
        have hm2 := (List.mem_filter.mp hm).1
        have e1 : names (l.take i) = (names l).take i := by simp [names, List.map_take]
        rw [e1] at hm2
        obtain ⟨j, hj, ej⟩ := List.mem_take_iff_getElem.mp hm2
        have e2 : (names l)[i]? = some x := by rw [List.getElem?_map, hx]; rfl
        have hi3 : i < (names l).length := (List.getElem?_eq_some_iff.mp e2).1
        have e3 : (names l)[i] = x := (List.getElem?_eq_some_iff.mp e2).2
        have := (List.getElem_inj nl).mp (ej.trans e3.symm)
        omega
      have ndt : (names (flt (fun x => (look x m).isSome == true) (l.take i))).Nodup := by
        rw [names_flt]
        have e1 : names (l.take i) = (names l).take i := by simp [names, List.map_take]
        rw [e1]
        exact (nl.sublist (List.take_sublist _ _)).sublist List.filter_sublist
      cases hc : look x m with
      | none =>
        rw [hc] at t1
        refine iteF ⟨?_, s6⟩
        rw [t1, eD6]
        simp
      | some v0 =>
        rw [hc] at t1
        refine iteT ⟨_, rfl, _, rfl, _, Sum.inr x, rfl, eD6, Nat.lt_of_lt_of_le (m := 100) (by rw [dk_len]; exact Nat.lt_of_le_of_lt (List.length_filter_le _ _) (by rw [List.length_take]; omega)) (line_big (by decide)), ?_, ?_⟩
        · rw [upd_same, dk_put x v _ ndt, put_new hno, t1]
          rfl
        · intro c o e
          rw [upd_ne (ne_of_none e hD)]
          exact s6 c o e
    · rintro H5 ⟨eD, sm⟩
      rw [dk_len, List.take_length] at eD
      have e5 := sm _ _ edB
      refine ⟨e5, ?_⟩
      have D1 : D ≠ d1 := (ne_of_none edB hD).symm
      have hD0 : H D = none := by
        rw [upd_ne D1] at hD
        exact hD
      have s3 : Same H (upd H5 d1 (.dK (dk l))) := Same.unlock ed1 sm
      have eDU : (upd H5 d1 (.dK (dk l))) D = some (.dK (dk (flt (fun x => (look x m).isSome == true) l))) := by
        rw [upd_ne D1]
        exact eD
      generalize upd H5 d1 (.dK (dk l)) = H1 at s3 eDU ⊢
      intro x dx1 hx hdx hne
      have eX : (upd (upd H1 dx1 (.own x)) x (.ins C dx1 [])) x = some (.ins C dx1 []) := upd_same
      have sX : Same H1 (upd (upd H1 dx1 (.own x)) x (.ins C dx1 [])) := Same.new (Same.new (Same.refl _) hdx) (by rw [upd_ne hne.symm]; exact hx)
      generalize upd (upd H1 dx1 (.own x)) x (.ins C dx1 []) = HX at eX sX ⊢
      have s4 := s3.trans sX
      have cc : ∀ y, ((look y m).isSome == true) = ((look y gs).isSome == true) := fun y => by
        cases e1 : look y m with
        | none =>
          rw [(look_none.mpr fun z => look_none.mp e1 (pg.mem_iff.mpr z) : look y gs = none)]
          rfl
        | some v' =>
          obtain ⟨u', hu'⟩ := look_some (pg.mem_iff.mp (List.mem_map.mpr ⟨_, look_mem e1, rfl⟩ : y ∈ names m))
          rw [hu']
          rfl
      have ef : flt (fun x => (look x m).isSome == true) l = flt (fun x => (look x gs).isSome == true) l := by
        unfold flt
        exact List.filter_congr fun p _ => cc p.1
      rw [ef] at eDU
      have cu : ∀ y v u, look y (flt (fun x => (look x gs).isSome == true) l) = some v → look y (flt (fun x => (look x gs).isSome == true) fs) = some u → Rc All C H n v u := fun y v u h1 h2 => by
        rw [look_flt] at h1 h2
        split at h1
        · rename_i c
          rw [if_pos c] at h2
          exact ch y v u h1 h2
        · cases h1
      have pu : (names (flt (fun x => (look x gs).isSome == true) l)).Perm (names (flt (fun x => (look x gs).isSome == true) fs)) := by
        rw [names_flt, names_flt]
        exact pm.filter _
      have ln : (flt (fun x => (look x gs).isSome == true) l).length ≤ l.length := List.length_filter_le _ _
      have ndl : (names (flt (fun x => (look x gs).isSome == true) l)).Nodup := by
        rw [names_flt]
        exact nl.sublist List.filter_sublist
      refine ⟨x, dx1, D, flt (fun x => (look x gs).isSome == true) l, szf (flt (fun x => (look x gs).isSome == true) fs), rfl, eX, sX _ _ eDU, ndl, by omega, fun y v hv => ?_, fun l' H'' ra p2 lk fx => ⟨rfl, q x H'' ?_ ?_⟩⟩
      · obtain ⟨u, hu⟩ := look_some (pu.mem_iff.mp (List.mem_map.mpr ⟨_, look_mem hv, rfl⟩))
        have z := Rc.sz ((cu y v u hv hu).same s4)
        unfold szf
        rw [hu]
        exact z
      · exact rc_new pu wf.flt cu ra p2 lk (fun c o _ e _ => fx c o (fun z => by rw [z, s3.free hx] at e; cases e) (s4 _ _ e)) (fun _ _ => True.intro) (fun _ _ => True.intro)
      · exact fun c o e => fx c o (fun z => by rw [z, s3.free hx] at e; cases e) (s4 _ _ e)
end
end Lw
namespace Lw
open PySem PySem.Spec PyProof.Rows L2 GrT GrOwn GrMg
theorem d_or : PySem.dunder (Operator.info .BitOr).2 = (Str.ofString "__or__") := by decide +kernel
theorem d_add : PySem.dunder (Operator.info .Add).2 = (Str.ofString "__add__") := by decide +kernel
theorem d_sub : PySem.dunder (Operator.info .Sub).2 = (Str.ofString "__sub__") := by decide +kernel
theorem d_and : PySem.dunder (Operator.info .BitAnd).2 = (Str.ofString "__and__") := by decide +kernel
/-- the least common name, of names in ascending order -/
def common (ys : List Str) (gs : List (Str × T)) : Option Str := ys.find? fun x => (look x gs).isSome
def spAdd (C CS : Addr) (n : Nat) : Sp := fun vs H Q E => ∃ (a b : Addr) (fs gs : List (Str × T)), vs = [.ref a, .ref b] ∧ Rc All C H (n + 1) (.ref a) (.fds fs) ∧ Rc All C H (n + 1) (.ref b) (.fds gs) ∧ fs.length + gs.length ≤ 40 ∧
  (∀ ys, ys.Perm (names fs) → sortedS ys = true → common ys gs = none → ∀ r H', Rc All C H' (n + 1) (.ref r) (.fds (unite fs gs)) → Same H H' → Q (.ref r) H') ∧
  ∀ ys x, ys.Perm (names fs) → sortedS ys = true → common ys gs = some x → ∀ d H', H' d = some (.xd [("name", .str x)]) → Same H H' → E (.ref CS) (some d) H'
theorem find_at {α : Type} {p : α → Bool} {x : α} : ∀ {ys : List α} {i : Nat}, (∀ y ∈ ys.take i, p y = false) → ys[i]? = some x → p x = true → ys.find? p = some x
  | y :: r, 0, _, h, hp => by
    have e : y = x := Option.some.inj h
    rw [e, List.find?_cons, hp]
  | y :: r, i + 1, h0, h, hp => by
    have h1 := h0 y (by rw [List.take_succ_cons]; exact List.mem_cons_self)
    rw [List.find?_cons, h1]
    exact find_at (fun z hz => h0 z (by rw [List.take_succ_cons]; exact List.mem_cons_of_mem _ hz)) (by rw [← List.getElem?_cons_succ (a := y)]; exact h) hp
theorem good_cp {x : Str} (h : Good x) : x.length ≤ 1000 ∧ ∀ c ∈ x.cps.toList, c < 16 ^ 8 := ⟨by have := h.2.1; omega, fun c hc => by
  have := (h.2.2 c hc).2
  have e : (16 : Nat) ^ 8 = 4294967296 := by decide
  omega⟩
section
variable {P : Program} {w : World} {K : PySem.W.Frag} {mg : Str → Option Value} {base : Heap} {C CS : Addr}
theorem scAdd : FnScope ["self", "other", "name"] ["self", "other"] (defScope sAdd) := ⟨rfl, rfl, rfl, by decide +kernel, rfl, by decide +kernel, by decide +kernel⟩
theorem fn_add (R : RecK K mg C) (sf : PySem.W.selfFirst K C = true) (Z : ExK P K mg "Shared" "Shared.__init__" sShInit CS) (n : Nat) (m_or : MthX P w K mg base CX0 C 6 "__or__" (spOr C n)) {f : Addr} {fd : FuncData} (F : L2.Fun K "__add__" "Record.__add__" sAdd f fd) : FnOk P w K mg base (L2.CX P w) 7 f fd ["self", "other"] (spAdd C CS n) := by
  obtain ⟨fI, fdI, iC, tI, FI, bI⟩ := fn_shared (w := w) (base := base) Z
  refine Fun.okX F scAdd (fun vs H Q E h => ?_) (fun cdv A outer s H vs Q E hr h => ?_)
  · obtain ⟨a, b, fs, gs, rfl, _⟩ := h
    rfl
  · obtain ⟨a, b, fs, gs, rfl, r1, r2, hl, q1, q2⟩ := h
    have hu := hu_of hr
    have hr2 : Room 2 (A.deeper (envOfC "Record.__add__" (defScope sAdd) s.heap.objs.size f cdv)) := hr.mono (by decide)
    obtain ⟨l, ⟨⟨dx, tp, d1, _, ea, et, ed1⟩, nl, sl⟩, wf, pm, ch⟩ := Rc.out r1
    obtain ⟨m, ⟨⟨dy, tq, d2, _, eb, _, ed2⟩, nm, _⟩, wg, pg, cg⟩ := Rc.out r2
    refine ⟨_, (pss_cons (ps_for (passes_of rfl) rfl (pi_tup (pe_fld (pv 0) rfl)) (pg_name (i := 2) scAdd.nd rfl (Or.inl rfl))
      (pss_one (ps_if (pt_cmp (pc_din hu (pv 2) (pe_fld (pv 1) rfl)))
      (pss_one (ps_raise rfl (takes_of rfl rfl rfl rfl) (pmk_oex Z.T iC tI FI hr2 bI .nil pass0 (by rfl) Z.mgC (pa_cons (pv 2) pa_nil))))
      pss_nil)))
      (pss_one (ps_ret (pe_binX (E := fun _ => E0) m_or d_or sf hr (by decide) (fun σ pins H s e s' I h => pass0 pins σ H s e s' I h) (pv 0) (pv 1))))), ?_⟩
    have gm : ∀ x, look x m = none → look x gs = none := fun x e => look_none.mpr fun z => look_none.mp e (pg.mem_iff.mpr z)
    have gm2 : ∀ x v, look x m = some v → (look x gs).isSome = true := fun x v e => by
      obtain ⟨u, hu⟩ := look_some (pg.mem_iff.mp (List.mem_map.mpr ⟨_, look_mem e, rfl⟩ : x ∈ names m))
      rw [hu]
      rfl
    refine ⟨_, rfl, a, C, dx, _, _, rfl, ea, R.cl, R.nN, rf_names _ _ _, tp, rfl, ⟨_, SqT.of et⟩, for_it (walk_tup (xs := (names l).map V.str)) (fun i σ H' => ∃ nv : Option V, σ = [some (.ref a), some (.ref b), nv] ∧ H' = H ∧ ∀ x ∈ (names l).take i, (look x gs).isSome = false)
      ⟨none, rfl, rfl, fun x hx => by simp at hx⟩ (fun i σ H' _ h => ?_) ?_ ?_⟩
    · obtain ⟨nv, _, rfl, _⟩ := h
      exact SqT.of et
    · rintro i y σ H' H2 hi ⟨nv, rfl, rfl, ok⟩ ⟨rfl, hy⟩
      obtain ⟨x, hx, rfl⟩ : ∃ x, (names l)[i]? = some x ∧ y = V.str x := by
        rw [List.getElem?_map] at hy
        cases e : (names l)[i]? with
        | none =>
          rw [e] at hy
          cases hy
        | some x =>
          rw [e] at hy
          exact ⟨x, rfl, (Option.some.inj hy).symm⟩
      have hg := DGet.k (k := Sum.inr x) ed2
      rw [dk_val] at hg
      refine ⟨_, rfl, _, rfl, b, C, dy, _, _, rfl, eb, R.cl, R.nF, rf_fields _ _ _, d2, _, rfl, hg, _, rfl, ?_⟩
      cases e : look x m with
      | none =>
        refine iteF ⟨_, rfl, rfl, fun z hz => ?_⟩
        rw [List.take_add_one, hx] at hz
        rcases List.mem_append.mp hz with h | h
        · exact ok z h
        · have ez : z = x := by simpa using h
          rw [ez, gm x e]
          rfl
      | some v =>
        have gx : Good x := by
          obtain ⟨p, hp, ep⟩ := List.mem_map.mp (pm.mem_iff.mp (List.mem_of_getElem? hx))
          rw [← ep]
          exact wf.gd p hp
        obtain ⟨c1, c2⟩ := good_cp gx
        refine iteT ⟨_, rfl, by show 1 ≤ 1000; decide, fun ea2 he => ⟨ea2, x, rfl, upd_same, c1, c2, fun d hd hde => ⟨rfl, d, _, upd_same, by rw [upd_ne hde]; exact upd_same, ?_, ?_⟩⟩⟩
        · rw [upd_ne hde] at hd
          exact hd
        · refine q2 (names l) x pm sl (find_at ok hx (gm2 x v e)) d _ upd_same fun c o z => ?_
          have h0 : H2 d = none := by
            rw [upd_ne hde] at hd
            exact hd
          have n1 : c ≠ ea2 := ne_of_none z he
          rw [upd_ne (ne_of_none z h0), del_ne n1, upd_ne n1, upd_ne (ne_of_none z h0), upd_ne n1]
          exact z
    · rintro σ H' ⟨nv, rfl, rfl, ok⟩
      rw [List.length_map, List.take_length] at ok
      refine ⟨_, rfl, _, rfl, a, dx, _, b, dy, _, rfl, rfl, ea, eb, a, b, fs, gs, rfl, r1, r2, hl, fun r H2 rr s2 => ⟨r, rfl, q1 (names l) pm sl ?_ r H2 rr s2⟩⟩
      exact List.find?_eq_none.mpr fun x hx => by rw [ok x hx]; exact Bool.false_ne_true
end
end Lw
namespace Lw
open PySem PySem.Spec PyProof.Rows L2 GrT GrOwn
/-- a method that is called by its name -/
structure MthK (P : Program) (w : World) (K : PySem.W.Frag) (mg : Str → Option Value) (base : Heap) (CX : CXT) (C : Addr) (k : Nat) (x : Str) (sp : Sp) : Prop where
  ex : ∃ (f : Addr) (fd : FuncData) (ps : List Str), FnOk P w K mg base CX k f fd ps sp ∧ Meth K C x f ∧ Binds K fd ps []
structure DfK (K : PySem.W.Frag) (C : Addr) (x q : Str) (st : Stmt) (ps : List Str) : Prop where
  ex : ∃ f fd, Meth K C x f ∧ L2.Fun K x q st f fd ∧ Binds K fd ps []
section
variable {X : Cx} {CX : CXT} {C : Addr} {k j : Nat} {sp : Sp} {E : XK} {x : Str} {o e : Expr} {es : List Expr} {pos apos : Pos} {ta : TE} {t : TA} {pl : Sem Bool}
theorem pe_mK0 (R : RecK X.K X.mg C) (c : MthK X.prog X.w X.K X.mg X.base CX C k x sp) (hr : Room j X.A) (hk : k ≤ j) (hx : Passes CX X E) (he : PE X o ta)
    (ht : eval (.Call (.Attribute o x apos) [] [] pos) X.env = (do
      let ov ← eval o X.env
      standAt apos.atName
      let (f, first) ← holding [ov] (getMethod ov x pl)
      callWith pos f first (backTo pos (starEach [] X.env)) (backToKw pos (keywordEach [] X.env))) := by rfl) :
    PE X (.Call (.Attribute o x apos) [] [] pos) (tMeth C x sp [] E ta tNil) := by
  obtain ⟨f, fd, ps, F, m, b⟩ := c.ex
  exact pe_meth0 he R.cl m F (hr.mono hk) b .nil hx ht
end
theorem rf_no {x : Str} (h1 : x ≠ ("_size" : Str)) (h2 : x ≠ ("_fields" : Str)) (h3 : x ≠ ("names" : Str)) (t d : Addr) (z : Int) : (rf t d z).lookup x = none := by
  unfold rf
  rw [lookup_putF, if_neg h1, lookup_putF, if_neg h2, lookup_putF, if_neg h3]
  rfl
theorem RA.exs {S : Addr → Prop} {C : Addr} {H : Hp} {a : Addr} {l : List (Str × V)} {z : Int} (r : RA S C H a l z) : RA (fun b => S b ∧ H b ≠ none) C H a l z := by
  obtain ⟨⟨dx, tp, d, ⟨s1, s2, s3⟩, e1, e2, e3⟩, n, s⟩ := r
  exact ⟨⟨dx, tp, d, ⟨⟨s1, by rw [e1]; exact fun z => by cases z⟩, ⟨s2, by rw [e2]; exact fun z => by cases z⟩, ⟨s3, by rw [e3]; exact fun z => by cases z⟩⟩, e1, e2, e3⟩, n, s⟩
theorem Rc.exs {S : Addr → Prop} {C : Addr} {H : Hp} : ∀ {n : Nat} {v : V} {t : T}, Rc S C H n v t → Rc (fun b => S b ∧ H b ≠ none) C H n v t
  | 0, _, _, h => h
  | n + 1, v, t, h => by
    rcases h with h | ⟨a, l, fs, e1, e2, e3, e4, e5, e6⟩
    · exact .inl h
    · exact .inr ⟨a, l, fs, e1, e2, e3.exs, e4, e5, fun x v u h1 h2 => Rc.exs (e6 x v u h1 h2)⟩
end Lw
/-! == of two dicts whose values' == may run code: the two dicts stand physically still -/
namespace Qd
open PySem PySem.W PySem.Calls PyProof.Rows PyProof.V PySem.Spec
section
variable {prog : Program} {w : World} {K : Type} [DecidableEq K] {knd : KeyKind prog w K} {A : Around} {E : Value → Shared → Prop} {s : Shared}
theorem samePairsG {nm : String} {a b : Addr} {ka kb : List (K × Value)} {oa ob : Obj} {Q : Bool → Shared → Prop} (I : Nat → Shared → Prop) (ha : (a == sysModules) = false) (hb : (b == sysModules) = false)
    (da : s.heap.DictOf knd a ka) (db : s.heap.DictOf knd b kb) (ga : s.heap.get? a = some oa) (gb : s.heap.get? b = some ob)
    (keep : ∀ i s', I i s' → s'.heap.get? a = some oa ∧ s'.heap.get? b = some ob) (h0 : ka.length = kb.length → I 0 s) (hne : ka.length ≠ kb.length → Q false s)
    (turn : ∀ i k v s', ka[i]? = some (k, v) → I i s' → (valueAt kb k = none → Q false s') ∧ ∀ y, valueAt kb k = some y → wpAny (model prog w) A (eqBool v y) (fun r s2 => if r = true then I (i + 1) s2 else Q false s2) E s')
    (fin : ∀ s', I ka.length s' → Q true s') : wpAny (model prog w) A (Builtin.Dict.samePairs nm a b) Q E s := by
  obtain ⟨oa', es, ep, hoa, _, hda, hka, hpa, _⟩ := da
  obtain ⟨ob', es', ep', hob, _, hdb, hkb, hpb, _⟩ := db
  rw [ga] at hoa
  rw [gb] at hob
  cases hoa
  cases hob
  have hla : ka.length = es.size := by rw [← hpa.length]; exact Array.length_toList
  have hlb : kb.length = es'.size := by rw [← hpb.length]; exact Array.length_toList
  have hfind : ∀ k, findBy knd.is es' k = valueAt kb k := fun k => by
    rw [← hpb.find k]
    clear hlb hpb hkb hdb
    obtain ⟨l⟩ := es'
    simp [findBy]
  unfold Builtin.Dict.samePairs Builtin.Dict.showsAll
  rw [if_neg (show ¬ (a == sysModules) = true by rw [ha]; exact Bool.false_ne_true), if_neg (show ¬ (b == sysModules) = true by rw [hb]; exact Bool.false_ne_true)]
  refine wpAny_bind (wpAny_pure (wpAny_bind (wpAny_pure ?_)))
  refine wpAny_bind (wpAny_dictEntries ga hda ?_)
  dsimp only
  refine wpAny_bind (wpAny_dictEntries gb hdb ?_)
  by_cases hsz : es.size = es'.size
  case neg =>
    rw [if_pos (by simpa using hsz)]
    exact wpAny_bind (wpAny_rule (wpAny_pure (hne (by rw [hla, hlb]; exact hsz))))
  case pos =>
    have i0 := h0 (by rw [hla, hlb]; exact hsz)
    rw [if_neg (by rw [hsz]; simp)]
    refine wpAny_bind (wpAny_dictEpoch ga hda ?_)
    refine wpAny_bind ?_
    rw [Std.Legacy.Range.forIn_eq_forIn_range']
    simp only [Std.Legacy.Range.size, Nat.sub_zero, Nat.add_sub_cancel, Nat.div_one]
    refine wpAny_forIn_list _ (fun rest q s' => q = (none, ()) ∧ ∃ i, rest = List.range' i (es.size - i) ∧ i ≤ es.size ∧ I i s') _ ?_ ?_ _ _ ⟨rfl, 0, by simp, Nat.zero_le _, i0⟩
    · rintro x rest q s' ⟨rfl, i, hr, hi, hI⟩
      obtain ⟨ga', gb'⟩ := keep i s' hI
      have hlt : i < es.size := by
        rcases Nat.lt_or_ge i es.size with h | h
        · exact h
        · rw [Nat.sub_eq_zero_of_le h] at hr; simp at hr
      obtain ⟨rfl, hrest⟩ : x = i ∧ rest = List.range' (i + 1) (es.size - (i + 1)) := by
        have e : es.size - i = (es.size - (i + 1)) + 1 := by omega
        rw [e, List.range'_succ] at hr
        injection hr with h1 h2
        exact ⟨h1, h2⟩
      refine wpAny_bind (wpAny_dictEntries ga' hda ?_)
      rw [Array.getElem?_eq_getElem hlt]
      have hlt' : x < ka.length := by rw [hla]; exact hlt
      obtain ⟨k, v, hkv⟩ : ∃ k v, ka[x] = (k, v) := ⟨_, _, rfl⟩
      have hg : ka[x]? = some (k, v) := by rw [List.getElem?_eq_getElem hlt', hkv]
      obtain ⟨hkey, hval⟩ := hpa.get? (i := x) (e := es[x]) (k := k) (v := v) (by rw [Array.getElem?_toList]; exact Array.getElem?_eq_getElem hlt) hg
      obtain ⟨k', hk', hh⟩ := hka es[x] (Array.getElem_mem hlt)
      have ekk : k' = k := knd.inj _ _ _ hk' hkey
      rw [ekk] at hh
      obtain ⟨tn, ts⟩ := turn x k v s' hg hI
      show wpAny _ _ (holding [es[x].key, es[x].val] _ >>= _) _ _ _
      rw [hh]
      refine wpAny_bind (wpAny_holding (wpAny_bind (wpAny_dictFind_of hkey gb' hdb hkb ?_)))
      cases hj : es'.findIdx? fun e => knd.is k e.key with
      | none =>
        have hn : valueAt kb k = none := by rw [← hfind k, findBy_of_findIdx?, hj]
        refine wpAny_pure ?_
        show wpAny _ _ (if (!false) = true then _ else _) _ _ _
        rw [if_pos (by decide)]
        exact wpAny_pure (wpAny_pure (tn hn))
      | some j =>
        obtain ⟨hjlt, _, _⟩ := Array.findIdx?_eq_some_iff_getElem.mp hj
        have hv' : valueAt kb k = some es'[j].val := by
          rw [← hfind k, findBy_of_findIdx?, hj]
          simp [Array.getElem?_eq_getElem hjlt]
        refine wpAny_bind (wpAny_dictEntries gb' hdb ?_)
        rw [Array.getElem?_eq_getElem hjlt]
        have t1 := ts _ hv'
        rw [← hval] at t1
        refine wpAny_holding (wpAny_mono t1 (fun r s2 q2 => ?_) fun _ _ z => z)
        cases r with
        | false =>
          rw [if_neg Bool.false_ne_true] at q2
          show wpAny _ _ (if (!false) = true then _ else _) _ _ _
          rw [if_pos (by decide)]
          exact wpAny_pure (wpAny_pure q2)
        | true =>
          rw [if_pos rfl] at q2
          show wpAny _ _ (if (!true) = true then _ else _) _ _ _
          rw [if_neg (by decide)]
          refine wpAny_bind (wpAny_dictEpoch (keep _ _ q2).1 hda ?_)
          rw [if_neg (by simp)]
          exact wpAny_pure ⟨rfl, x + 1, hrest, hlt, q2⟩
    · rintro q s' ⟨rfl, i, hr, hi, hI⟩
      have hin : i = es.size := by
        rcases Nat.lt_or_ge i es.size with h | h
        · have e : es.size - i = (es.size - (i + 1)) + 1 := by omega
          rw [e, List.range'_succ] at hr; exact nomatch hr
        · exact Nat.le_antisymm hi h
      refine wpAny_pure (fin s' ?_)
      rw [hla, ← hin]
      exact hI
theorem rc_dictsG {a b : Addr} {ka kb : List (K × Value)} {oa ob : Obj} {Q : Bool → Shared → Prop} (I : Nat → Shared → Prop) (ha : (a == sysModules) = false) (hb : (b == sysModules) = false) (hu : A.units < cLine)
    (da : s.heap.DictOf knd a ka) (db : s.heap.DictOf knd b kb) (ga : s.heap.get? a = some oa) (gb : s.heap.get? b = some ob)
    (keep : ∀ i s', I i s' → s'.heap.get? a = some oa ∧ s'.heap.get? b = some ob) (h0 : ka.length = kb.length → I 0 s) (hne : ka.length ≠ kb.length → Q false s)
    (turn : ∀ i k v s', ka[i]? = some (k, v) → I i s' → (valueAt kb k = none → Q false s') ∧ ∀ y, valueAt kb k = some y → wpAny (model prog w) A.in1 (eqBool v y) (fun r s2 => if r = true then I (i + 1) s2 else Q false s2) E s')
    (fin : ∀ s', I ka.length s' → Q true s') : wpAny (model prog w) A (richCompare .Eq (.ref a) (.ref b)) (fun v s' => ∃ r, v = .bool r ∧ Q r s') E s := by
  refine wpAny_richCompare_same_room (op := .Eq) da.typeIs db.typeIs PySem.F.slot_dict_eq (wpAny_call_entry PySem.F.slot_dict_eq da.typeIs PySem.F.entry_dict_eq ?_ (PySem.F.args_dict_eq_2 _ _)) hu
  show wpAny _ _ (Builtin.Dict.dictSlotArgs "__eq__" ⟨[.ref a, .ref b], []⟩ >>= _) _ _ s
  refine wpAny_bind ?_
  unfold Builtin.Dict.dictSlotArgs
  refine wpAny_bind (wpAny_notOrdered_dict da.typeIs ?_)
  show wpAny _ _ (pure (Value.ref a, Value.ref b)) _ _ s
  refine wpAny_pure ?_
  refine wpAny_bind (wpAny_isInstance (T := "dict") db.typeIs PySem.F.sub_dict_dict ?_)
  simp only [Bool.not_true, Bool.false_eq_true, if_false]
  refine wpAny_bind (wpAny_pure (wpAny_bind (wpAny_pure ?_)))
  refine wpAny_bind (wpAny_mono (samePairsG (Q := Q) I ha hb da db ga gb keep h0 hne turn fin) (fun r s' q => ?_) fun e s' z => z)
  refine wpAny_pure ⟨_, rfl, ?_, ?_⟩
  · exact fun x => nomatch x
  · exact ⟨r, by simp, q⟩
end
end Qd
namespace Qd
open PySem PySem.Spec PyProof.Rows L2
/-- what is decided of two values -/
abbrev Dcd := V → V → Bool → Hp → Prop
def MonB (D : Dcd) : Prop := ∀ x y e H H', Ext H H' → D x y e H → D x y e H'
/-- == within a builtin gives what D says, and only makes objects -/
def EqB (X : Cx) (n : Nat) (D : Dcd) : Prop :=
  ∀ (A : Around) (pins : List (Addr × Obj)) (s : Shared) (σ : L2.St) (H : Hp) (x y : V) (u v : Value) (e : Bool), Sub X n A → Inv X pins σ H s → RelV x u → RelV y v → D x y e H →
    wpAny (model X.prog X.w) A (eqBool u v) (fun r s' => r = e ∧ ∃ H', Inv X pins σ H' s' ∧ Ext H H') X.xe s
def tstB (d : V → V → Bool) (kb : List (Key × V)) (p : Key × V) : Bool := match valV kb p.1 with
  | none => false
  | some y => d p.2 y
def allB (d : V → V → Bool) (ka kb : List (Key × V)) : Bool := (ka.length == kb.length) && ka.all (tstB d kb)
section
variable {X : Cx} {n : Nat} {D : Dcd} {A : Around} {pins : List (Addr × Obj)} {σ : L2.St} {H : Hp} {s : Shared} {a b : Addr} {ka kb : List (Key × V)}
theorem lock2 (I : Inv X pins σ H s) (ha : H a = some (.dK ka)) (hb : H b = some (.dK kb)) : ∃ oa ob, Inv X pins σ (upd (upd H a (.frz oa (.dK ka))) b (.frz ob (.dK kb))) s ∧
    (upd (upd H a (.frz oa (.dK ka))) b (.frz ob (.dK kb))) a = some (.frz oa (.dK ka)) ∧
    ∀ H' s', Inv X pins σ H' s' → Ext (upd (upd H a (.frz oa (.dK ka))) b (.frz ob (.dK kb))) H' → ∃ H'', Inv X pins σ H'' s' ∧ Ext H H'' := by
  have na := I.nofrz ha True.intro
  have nb := I.nofrz hb True.intro
  obtain ⟨oa, I1⟩ := I.lock ha True.intro
  by_cases e : a = b
  · subst e
    rw [ha] at hb
    cases hb
    refine ⟨oa, oa, by rw [upd_upd]; exact I1, upd_same, fun H' s' I' x => ?_⟩
    have x' := x a _ upd_same
    refine ⟨_, I'.unlock x' na, fun c o hc => ?_⟩
    by_cases q : c = a
    · rw [q, upd_same, ← ha, ← q, hc]
    · rw [upd_ne q]
      exact x c o (by rw [upd_ne q, upd_ne q]; exact hc)
  · have ne : b ≠ a := fun z => e z.symm
    obtain ⟨ob, I2⟩ := I1.lock (d := b) (u := .dK kb) (by rw [upd_ne ne]; exact hb) True.intro
    refine ⟨oa, ob, I2, by rw [upd_ne e]; exact upd_same, fun H' s' I' x => ?_⟩
    have xb := x b _ upd_same
    have xa := x a (.frz oa (.dK ka)) (by rw [upd_ne e]; exact upd_same)
    have J := I'.unlock xb nb
    refine ⟨_, J.unlock (d := a) (od := oa) (u := .dK ka) (by rw [upd_ne e]; exact xa) na, fun c o hc => ?_⟩
    by_cases q : c = a
    · rw [q, upd_same, ← ha, ← q, hc]
    · rw [upd_ne q]
      by_cases q2 : c = b
      · rw [q2, upd_same, ← hb, ← q2, hc]
      · rw [upd_ne q2]
        exact x c o (by rw [upd_ne q2, upd_ne q]; exact hc)
theorem rcB_dict (mon : MonB D) (h : EqB X n D) {d : V → V → Bool} (sb : Sub X (n + 1) A) (I : Inv X pins σ H s) (ha : H a = some (.dK ka)) (hb : H b = some (.dK kb))
    (hd : ka.length = kb.length → ∀ oa ob k v y, (k, v) ∈ ka → valV kb k = some y → D v y (d v y) (upd (upd H a (.frz oa (.dK ka))) b (.frz ob (.dK kb)))) :
    wpAny (model X.prog X.w) A (richCompare .Eq (.ref a) (.ref b)) (fun r s' => r = .bool (allB d ka kb) ∧ ∃ H', Inv X pins σ H' s' ∧ Ext H H') X.xe s := by
  obtain ⟨_, sa, vsa, kva, da⟩ := dk_of I.hok ha
  obtain ⟨_, sy, vsb, kvb, db⟩ := dk_of I.hok hb
  obtain ⟨oa, ob, IL, hla, un⟩ := lock2 I ha hb
  have hlb : (upd (upd H a (.frz oa (.dK ka))) b (.frz ob (.dK kb))) b = some (.frz ob (.dK kb)) := upd_same
  have la := kva.length
  have lb := kvb.length
  generalize hHL : upd (upd H a (.frz oa (.dK ka))) b (.frz ob (.dK kb)) = HL at IL hla un hlb
  have bad : ∀ p ∈ ka, tstB d kb p = false → allB d ka kb = false := fun p hp e => by
    unfold allB
    rw [Bool.and_eq_false_iff]
    refine .inr ?_
    rw [← Bool.not_eq_true, List.all_eq_true]
    intro z
    rw [z p hp] at e
    cases e
  refine wpAny_mono (rc_dictsG (Q := fun r s' => r = allB d ka kb ∧ ∃ H', Inv X pins σ H' s' ∧ Ext H H') (fun i s' => ka.length = kb.length ∧ (ka.take i).all (tstB d kb) = true ∧ ∃ H', Inv X pins σ H' s' ∧ Ext HL H') sa sy sb.room.units0 da db (IL.hok a _ hla).1 (IL.hok b _ hlb).1
    (fun i s' q => ?_) (fun e => ?_) (fun e => ?_) (fun i k v s' hi q => ?_) (fun s' q => ?_)) (fun v s' q => ?_) fun _ _ z => z
  · obtain ⟨_, _, H', I', x⟩ := q
    exact ⟨(I'.hok a _ (x _ _ hla)).1, (I'.hok b _ (x _ _ hlb)).1⟩
  · exact ⟨by rw [la, lb]; exact e, by simp, HL, IL, Ext.rfl'⟩
  · refine ⟨?_, H, I, Ext.rfl'⟩
    unfold allB
    have : (ka.length == kb.length) = false := by rw [beq_eq_false_iff_ne]; intro z; exact e (by rw [← la, ← lb]; exact z)
    rw [this, Bool.false_and]
  · obtain ⟨hlen, hall, H', I', x⟩ := q
    obtain ⟨xv, hx, rx⟩ := KV.at' kva hi
    have hm : (k, xv) ∈ ka := List.mem_of_getElem? hx
    have rv := kvb.val k
    have step : (ka.take (i + 1)).all (tstB d kb) = ((ka.take i).all (tstB d kb) && tstB d kb (k, xv)) := by
      rw [List.take_add_one, hx, Option.toList_some, List.all_append]
      simp
    refine ⟨fun hn => ?_, fun y hy => ?_⟩
    · have e : valV kb k = none := by
        rw [hn] at rv
        cases e : valV kb k with
        | none => rfl
        | some z =>
          rw [e] at rv
          exact rv.elim
      obtain ⟨H2, I2, e2⟩ := un H' s' I' x
      exact ⟨(bad _ hm (by unfold tstB; rw [e])).symm, H2, I2, e2⟩
    · obtain ⟨z, hz, rz⟩ : ∃ z, valV kb k = some z ∧ RelV z y := by
        rw [hy] at rv
        cases e : valV kb k with
        | none =>
          rw [e] at rv
          exact rv.elim
        | some z =>
          rw [e] at rv
          exact ⟨z, rfl, rv⟩
      have hD := hd hlen oa ob k xv z hm hz
      rw [hHL] at hD
      have et : tstB d kb (k, xv) = d xv z := by
        unfold tstB
        rw [hz]
      refine wpAny_mono (h A.in1 pins s' σ H' xv z v y _ sb.in1 I' rx rz (mon _ _ _ _ _ x hD)) (fun r s2 q2 => ?_) fun _ _ z => z
      obtain ⟨rfl, H2, I2, e2⟩ := q2
      by_cases hdv : d xv z = true
      · rw [if_pos hdv]
        exact ⟨hlen, by rw [step, hall, et, hdv]; rfl, H2, I2, x.trans e2⟩
      · rw [if_neg hdv]
        obtain ⟨H3, I3, e3⟩ := un H2 s2 I2 (x.trans e2)
        exact ⟨(bad _ hm (by rw [et]; simpa using hdv)).symm, H3, I3, e3⟩
  · obtain ⟨hlen, hall, H', I', x⟩ := q
    obtain ⟨H2, I2, e2⟩ := un H' s' I' x
    refine ⟨?_, H2, I2, e2⟩
    rw [← la, List.take_length] at hall
    unfold allB
    rw [hall, hlen]
    simp
  · obtain ⟨r, rfl, rfl, q⟩ := q
    exact ⟨rfl, q⟩
end
end Qd
namespace Qd
open PySem PySem.Spec PyProof.Rows L2 GrOwn
section
variable {X : Cx} {CX : CXT} {k : Nat} {C f : Addr} {fd : FuncData} {ps : List Str} {sp : Sp} {E : XK} {A : Around} {pins : List (Addr × Obj)} {σ : L2.St} {H : Hp} {s : Shared}
theorem run_sub {Q : VK} {us : List Value} {vs : List V} (F : FnOk X.prog X.w X.K X.mg X.base CX k f fd ps sp) (sb : Sub X k A) (hb : Binds X.K fd ps []) (hx : Passes CX X E) (I : Inv X pins σ H s) (r : Vals vs us) (h : sp vs H Q E) :
    wpAny (model X.prog X.w) A (call (.ref f) us) (EP X pins σ Q) X.xe s := by
  have e0 : Env0 X.prog X.w X.K X.mg X.base A X.stack s H := by
    have e := I.env0
    exact ⟨by rw [sb.fr]; exact e.frames, e.mod, e.bs, e.bsz, e.funs, e.frf, e.hok, e.bare⟩
  have hl := F.len _ _ _ _ h
  refine wpAny_call (codeAny_mono (F.run A X.stack s H ⟨us, []⟩ us vs Q E sb.room e0 (by
    have hl2 : us.length = ps.length := by rw [← r.length]; exact hl
    have := hb s us I.kIn (by simpa using hl2)
    simpa using this) r h) fun r s' hq => ?_)
  cases r with
  | error e => exact hx pins σ H s e s' I hq
  | ok fl =>
    cases fl with
    | ret w => exact I.after hq
    | next => exact False.elim hq
    | brk => exact False.elim hq
    | cont => exact False.elim hq
/-- == of two values, at any depth below: r == y by r's own def -/
theorem rc_own {Q : VK} {a : Addr} {y : V} {u : Value} (m : GrOwn.Sm X.K C "__eq__" f) (hi : PySem.W.subIn X.K (.type "int") (.ref C) = some false) (F : FnOk X.prog X.w X.K X.mg X.base CX k f fd ps sp) (sb : Sub X k A) (hb : Binds X.K fd ps []) (hx : Passes CX X E)
    (I : Inv X pins σ H s) (ry : RelV y u) {dx : Addr} {fs : List (Str × V)} (ea : H a = some (.ins C dx fs)) (hy : (∃ i, y = .int i) ∨ ∃ b dy gs, y = .ref b ∧ H b = some (.ins C dy gs)) (q : sp [.ref a, y] H (fun v H' => ∃ b, v = .bl b ∧ Q (.bl b) H') E) :
    wpAny (model X.prog X.w) A (richCompare .Eq (.ref a) u) (EP X pins σ Q) X.xe s := by
  obtain ⟨od, J⟩ := inst I ea
  obtain ⟨m0, hF⟩ := I.fr
  have fin : wpAny (model X.prog X.w) A (call (.ref f) [.ref a, u]) (PySem.W.CmpBack (EP X pins σ Q)) X.xe s := by
    refine thn (run_sub (vs := [V.ref a, y]) F sb hb hx I (.cons rfl (.cons ry .nil)) q) fun r s' hq => ?_
    obtain ⟨z, H', I', rz, b, rfl, qq⟩ := hq
    cases rz
    exact ⟨.bl b, H', I', rfl, qq⟩
  rcases hy with ⟨i, rfl⟩ | ⟨b, dy, gs, rfl, eb⟩
  · obtain ⟨t, rfl⟩ := ry
    refine PySem.W.cmp_K (op := .Eq) (tb := .type "int") sb.room.units0 hF I.ok.mod.kin J .now ?_ m.at_ m.fn fin
    unfold PySem.W.notFirst
    rw [hi]
    rfl
  · cases ry
    obtain ⟨oe, J2⟩ := inst I eb
    exact PySem.W.cmp_K (op := .Eq) (tb := .ref C) sb.room.units0 hF I.ok.mod.kin J J2.type (by simp [PySem.W.notFirst]) m.at_ m.fn fin
theorem rc_int {Q : VK} {a : Addr} {i : Int} {t : Tok} (m : GrOwn.Sm X.K C "__eq__" f) (hi : PySem.W.subIn X.K (.ref C) (.type "int") = some false) (F : FnOk X.prog X.w X.K X.mg X.base CX k f fd ps sp) (sb : Sub X k A) (hb : Binds X.K fd ps []) (hx : Passes CX X E)
    (I : Inv X pins σ H s) {dx : Addr} {fs : List (Str × V)} (ea : H a = some (.ins C dx fs)) (q : sp [.ref a, .int i] H (fun v H' => ∃ b, v = .bl b ∧ Q (.bl b) H') E) :
    wpAny (model X.prog X.w) A (richCompare .Eq (.int i t) (.ref a)) (EP X pins σ Q) X.xe s := by
  obtain ⟨od, J⟩ := inst I ea
  obtain ⟨m0, hF⟩ := I.fr
  have K0 := I.kIn
  have one : wpAny (model X.prog X.w) A (tryCompare (.ref a) "__eq__" (.int i t)) (fun r s' => ∃ v, r = some v ∧ EP X pins σ Q v s') X.xe s := by
    unfold tryCompare
    refine wpAny_bind (PySem.W.ifBound_K K0 J m.at_ m.fn (thn (run_sub (vs := [V.ref a, V.int i]) F sb hb hx I (.cons rfl (.cons ⟨t, rfl⟩ .nil)) q) fun r s' hq => ?_))
    obtain ⟨z, H', I', rz, b, rfl, qq⟩ := hq
    cases rz
    exact wpAny_pure ⟨_, rfl, .bl b, H', I', rfl, qq⟩
  have o0 : oneThing? .Eq (.int i t) (.ref a) = none := by first | rfl | decide +kernel
  have ne : (Value.type "int" != Value.ref C) = true := by simp
  unfold richCompare
  simp only [o0]
  refine wpAny_holding (wpAny_bind (wpAny_cRoomFor sb.room.units0 ?_))
  refine wpAny_bind (wpAny_typeOf (T := "int") (PySem.typeIs_int s i t) (wpAny_bind (J.type.here ?_)))
  simp only [ne, if_true]
  refine wpAny_bind ((PySem.W.looks_subIn K0 hi).here ?_)
  simp only [Bool.false_eq_true, if_false, Bool.not_false, if_true]
  refine wpAny_bind (m := tryCompare (.int i t) _ (.ref a)) (wpAny_tryCompare_declines (PySem.typeIs_int s i t) PySem.F.slot_int_eq (int_eq_ins J.at_ rfl ⟨rfl, ?_⟩))
  refine wpAny_bind (m := tryCompare (.ref a) _ (.int i t)) (wpAny_mono one (fun r s' z => ?_) fun _ _ e => e)
  obtain ⟨v, rfl, hq⟩ := z
  exact wpAny_pure hq
/-- from a rich comparison to == within a builtin -/
theorem eqBool_ri {a : Addr} {i : Int} {t : Tok} {Q : Bool → Shared → Prop} {M : Model} {E : Value → Shared → Prop} (h : wpAny M A (richCompare .Eq (.ref a) (.int i t)) (fun r s' => ∃ b, r = .bool b ∧ Q b s') E s) : wpAny M A (eqBool (.ref a) (.int i t)) Q E s := by
  unfold eqBool
  refine wpAny_holding ?_
  refine wpAny_ite_split (fun hab => absurd (eq_of_beq hab) (fun z => nomatch z)) (fun _ => ?_)
  refine wpAny_bind (wpAny_mono h (fun v s' hv => ?_) fun _ _ x => x)
  obtain ⟨r, rfl, q⟩ := hv
  exact wpAny_truthy_bool q
theorem eqBool_ir {a : Addr} {i : Int} {t : Tok} {Q : Bool → Shared → Prop} {M : Model} {E : Value → Shared → Prop} (h : wpAny M A (richCompare .Eq (.int i t) (.ref a)) (fun r s' => ∃ b, r = .bool b ∧ Q b s') E s) : wpAny M A (eqBool (.int i t) (.ref a)) Q E s := by
  unfold eqBool
  refine wpAny_holding ?_
  refine wpAny_ite_split (fun hab => absurd (eq_of_beq hab) (fun z => nomatch z)) (fun _ => ?_)
  refine wpAny_bind (wpAny_mono h (fun v s' hv => ?_) fun _ _ x => x)
  obtain ⟨r, rfl, q⟩ := hv
  exact wpAny_truthy_bool q
end
end Qd
namespace Lw
open PySem PySem.Spec PyProof.Rows L2 GrT GrOwn Qd
/-! ### alike up to order is an equivalence; what a record is, is told once -/
theorem Sm.symm : ∀ {n : Nat} {t u : T}, GrT.Sm n t u → GrT.Sm n u t
  | 0, t, u, ⟨i, e1, e2⟩ => ⟨i, e2, e1⟩
  | n + 1, t, u, h => by
    rcases h with ⟨i, e1, e2⟩ | ⟨fs, gs, e1, e2, nd, pm, ch⟩
    · exact .inl ⟨i, e2, e1⟩
    · exact .inr ⟨gs, fs, e2, e1, pm.nodup_iff.mp nd, pm.symm, fun x v w h1 h2 => Lw.Sm.symm (ch x w v h2 h1)⟩
theorem Sm.trans : ∀ {n : Nat} {t u v : T}, GrT.Sm n t u → GrT.Sm n u v → GrT.Sm n t v
  | 0, t, u, v, ⟨i, e1, e2⟩, ⟨j, f1, f2⟩ => by
    rw [e2] at f1
    cases f1
    exact ⟨i, e1, f2⟩
  | n + 1, t, u, v, h, g => by
    rcases h with ⟨i, e1, e2⟩ | ⟨fs, gs, e1, e2, nd, pm, ch⟩
    · rcases g with ⟨j, f1, f2⟩ | ⟨_, _, f1, _⟩
      · rw [e2] at f1
        cases f1
        exact .inl ⟨i, e1, f2⟩
      · rw [e2] at f1
        cases f1
    · rcases g with ⟨j, f1, _⟩ | ⟨gs', hs, f1, f2, nd', pm', ch'⟩
      · rw [e2] at f1
        cases f1
      · rw [e2] at f1
        cases f1
        refine .inr ⟨fs, hs, e1, f2, nd, pm.trans pm', fun x a c h1 h2 => ?_⟩
        obtain ⟨b, hb⟩ := look_some (pm.mem_iff.mp (List.mem_map.mpr ⟨_, look_mem h1, rfl⟩))
        exact Lw.Sm.trans (ch x a b h1 hb) (ch' x b c hb h2)
theorem RA.one {S S' : Addr → Prop} {C : Addr} {H : Hp} {a : Addr} {l m : List (Str × V)} {z y : Int} (r : RA S C H a l z) (q : RA S' C H a m y) : l = m := by
  obtain ⟨⟨dx, tp, d, _, e1, _, e3⟩, _, _⟩ := r
  obtain ⟨⟨dx', tp', d', _, f1, _, f3⟩, _, _⟩ := q
  rw [e1] at f1
  have h : rf tp d z = rf tp' d' y := by
    injection f1 with f1
    injection f1
  have hd : d = d' := by
    have := rf_fields tp d z
    rw [h, rf_fields] at this
    exact (V.ref.inj (Option.some.inj this)).symm
  rw [hd, f3] at e3
  exact (dk_inj (HO.dK.inj (Option.some.inj e3))).symm
theorem Rc.one {S S' : Addr → Prop} {C : Addr} {H : Hp} : ∀ {n : Nat} {v : V} {t u : T}, Rc S C H n v t → Rc S' C H n v u → GrT.Sm n t u
  | 0, v, t, u, ⟨i, e1, e2⟩, ⟨j, f1, f2⟩ => by
    rw [e1] at f1
    cases f1
    exact ⟨i, e2, f2⟩
  | n + 1, v, t, u, h, g => by
    rcases h with ⟨i, e1, e2⟩ | ⟨a, l, fs, e1, e2, ra, wf, pm, ch⟩
    · rcases g with ⟨j, f1, f2⟩ | ⟨_, _, _, f1, _⟩
      · rw [e1] at f1
        cases f1
        exact .inl ⟨i, e2, f2⟩
      · rw [e1] at f1
        cases f1
    · rcases g with ⟨j, f1, _⟩ | ⟨b, m, gs, f1, f2, rb, wg, pg, cg⟩
      · rw [e1] at f1
        cases f1
      · rw [e1] at f1
        cases f1
        have e := RA.one ra rb
        subst e
        refine .inr ⟨fs, gs, e2, f2, wf.nd, pm.symm.trans pg, fun x p q h1 h2 => ?_⟩
        obtain ⟨y, hy⟩ := look_some (pm.mem_iff.mpr (List.mem_map.mpr ⟨_, look_mem h1, rfl⟩))
        exact Rc.one (ch x y p hy h1) (cg x y q hy h2)
/-- what == decides of two values -/
def DRec (C : Addr) (n : Nat) : Dcd := fun x y e H => ∃ t u, Rc All C H n x t ∧ Rc All C H n y u ∧ (e = true ↔ GrT.Sm n t u)
theorem mon_rec {C : Addr} {n : Nat} : MonB (DRec C n) := fun x y e H H' x' ⟨t, u, h1, h2, h3⟩ => ⟨t, u, h1.same x', h2.same x', h3⟩
open Classical in
/-- the decision, as a function of the values -/
noncomputable def dRec (C : Addr) (n : Nat) (H : Hp) (x y : V) : Bool := decide (∃ t u, Rc All C H n x t ∧ Rc All C H n y u ∧ GrT.Sm n t u)
theorem dRec_iff {C : Addr} {n : Nat} {H : Hp} {x y : V} {t u : T} (h1 : Rc All C H n x t) (h2 : Rc All C H n y u) : dRec C n H x y = true ↔ GrT.Sm n t u := by
  unfold dRec
  rw [@decide_eq_true_iff _ (Classical.propDecidable _)]
  exact ⟨fun ⟨t', u', g1, g2, s⟩ => Lw.Sm.trans (Rc.one h1 g1) (Lw.Sm.trans s (Rc.one g2 h2)), fun s => ⟨t, u, h1, h2, s⟩⟩
theorem perm_of {l m : List Str} (n1 : l.Nodup) (n2 : m.Nodup) (hl : l.length = m.length) (h : ∀ x ∈ l, x ∈ m) : l.Perm m := by
  refine (List.perm_ext_iff_of_nodup n1 n2).mpr fun z => ⟨h z, fun hz => ?_⟩
  by_cases q : z ∈ l
  · exact q
  · have := sub_len (l := z :: l) (m := m) (List.nodup_cons.mpr ⟨q, n1⟩) fun x hx => by
      rcases List.mem_cons.mp hx with e | e
      · rw [e]
        exact hz
      · exact h x e
    rw [List.length_cons] at this
    omega
theorem all_iff {C : Addr} {n : Nat} {H : Hp} {l m : List (Str × V)} {fs gs : List (Str × T)} (nl : (names l).Nodup) (nm : (names m).Nodup) (nf1 : (names fs).Nodup) (pl : (names l).Perm (names fs)) (pm : (names m).Perm (names gs))
    (cl : ∀ x v u, look x l = some v → look x fs = some u → Rc All C H n v u) (cm : ∀ x v u, look x m = some v → look x gs = some u → Rc All C H n v u) :
    Qd.allB (dRec C n H) (dk l) (dk m) = true ↔ GrT.Sm (n + 1) (.fds fs) (.fds gs) := by
  unfold Qd.allB
  rw [Bool.and_eq_true, beq_iff_eq, dk_len, dk_len, List.all_eq_true]
  constructor
  · rintro ⟨h1, h2⟩
    have hh : ∀ x v, look x l = some v → ∃ y, look x m = some y ∧ dRec C n H v y = true := fun x v hx => by
      have := h2 (Sum.inr x, v) (List.mem_map.mpr ⟨(x, v), look_mem hx, rfl⟩)
      unfold tstB at this
      rw [dk_val] at this
      cases e : look x m with
      | none =>
        rw [e] at this
        cases this
      | some y =>
        rw [e] at this
        exact ⟨y, rfl, this⟩
    have pn : (names l).Perm (names m) := perm_of nl nm (by rw [List.length_map, List.length_map]; exact h1) fun x hx => by
      obtain ⟨v, hv⟩ := look_some hx
      obtain ⟨y, hy, _⟩ := hh x v hv
      exact List.mem_map.mpr ⟨_, look_mem hy, rfl⟩
    refine .inr ⟨fs, gs, rfl, rfl, nf1, (pl.symm.trans pn).trans pm, fun x t u h3 h4 => ?_⟩
    obtain ⟨v, hv⟩ := look_some (pl.mem_iff.mpr (List.mem_map.mpr ⟨_, look_mem h3, rfl⟩))
    obtain ⟨y, hy, hd⟩ := hh x v hv
    exact (dRec_iff (cl x v t hv h3) (cm x y u hy h4)).mp hd
  · intro h
    rcases h with ⟨i, e, _⟩ | ⟨fs', gs', e1, e2, nd, pn, ch⟩
    · cases e
    · cases e1
      cases e2
      have pp : (names l).Perm (names m) := (pl.trans pn).trans pm.symm
      refine ⟨by have := pp.length_eq; rwa [List.length_map, List.length_map] at this, fun p hp => ?_⟩
      obtain ⟨⟨x, v⟩, hx, rfl⟩ := List.mem_map.mp hp
      have hv := mem_look nl hx
      obtain ⟨y, hy⟩ := look_some (pp.mem_iff.mp (List.mem_map.mpr ⟨_, hx, rfl⟩))
      obtain ⟨t, ht⟩ := look_some (pl.mem_iff.mp (List.mem_map.mpr ⟨_, hx, rfl⟩))
      obtain ⟨u, hu⟩ := look_some (pm.mem_iff.mp (List.mem_map.mpr ⟨_, look_mem hy, rfl⟩))
      show tstB (dRec C n H) (dk m) (Sum.inr x, v) = true
      unfold tstB
      rw [dk_val, hy]
      exact (dRec_iff (cl x v t hv ht) (cm x y u hy hu)).mpr (ch x t u ht hu)
end Lw
namespace Lw
open PySem PySem.Spec PyProof.Rows L2 GrT GrOwn Qd
/-- == of two dicts in the text -/
def rDict (D : Dcd) : R2 := fun x y H Q => ∃ (a b : Addr) (ka kb : List (Key × V)) (d : V → V → Bool), x = .ref a ∧ y = .ref b ∧ H a = some (.dK ka) ∧ H b = some (.dK kb) ∧
  (ka.length = kb.length → ∀ oa ob k v y, (k, v) ∈ ka → valV kb k = some y → D v y (d v y) (upd (upd H a (.frz oa (.dK ka))) b (.frz ob (.dK kb)))) ∧ ∀ H', Ext H H' → Q (.bl (Qd.allB d ka kb)) H'
theorem op_dictB {X : Cx} {n : Nat} {D : Dcd} (mon : MonB D) (h : EqB X n D) (hr : Room (n + 1) X.A) : OpR X (compareOp .Eq) (rDict D) := by
  intro pins s σ H x y v u Q I rx ry hq
  obtain ⟨a, b, ka, kb, d, rfl, rfl, ha, hb, hd, q⟩ := hq
  cases rx
  cases ry
  show wpAny (model X.prog X.w) X.A (richCompare .Eq (.ref a) (.ref b)) (EP X pins σ Q) X.xe s
  refine wpAny_mono (rcB_dict mon h ⟨hr, rfl⟩ I ha hb hd) (fun r s' z => ?_) fun _ _ x => x
  obtain ⟨rfl, H', I', e⟩ := z
  exact ⟨.bl _, H', I', rfl, q H' e⟩
/-- __eq__, asked of an int or of a record n + 1 deep -/
def spEqR (C : Addr) (n : Nat) : Sp := fun vs H Q _ => ∃ (a : Addr) (fs : List (Str × T)), Rc All C H (n + 1) (.ref a) (.fds fs) ∧
  ((∃ i, vs = [.ref a, .int i] ∧ ∀ H', Same H H' → Q (.bl false) H') ∨
   ∃ (b : Addr) (gs : List (Str × T)), vs = [.ref a, .ref b] ∧ Rc All C H (n + 1) (.ref b) (.fds gs) ∧ ∀ e H', (e = true ↔ GrT.Sm (n + 1) (.fds fs) (.fds gs)) → Same H H' → Q (.bl e) H')
theorem Rc.outR {C : Addr} {H : Hp} {n : Nat} {a : Addr} {t : T} (h : Rc All C H (n + 1) (.ref a) t) : ∃ fs l, t = .fds fs ∧ RA All C H a l (nfs fs) ∧ Wf 40 fs ∧ (names l).Perm (names fs) ∧ ∀ x v u, look x l = some v → look x fs = some u → Rc All C H n v u := by
  rcases h with ⟨i, e, _⟩ | ⟨a', l, fs, e1, e2, ra, wf, pm, ch⟩
  · cases e
  · cases e1
    exact ⟨fs, l, e2, ra, wf, pm, ch⟩
theorem eqV_int {i j : Int} : eqV (.int i) (.int j) = true ↔ i = j := by
  show (i == j) = true ↔ i = j
  exact beq_iff_eq
theorem sm_int {n : Nat} {i j : Int} : GrT.Sm n (.int i) (.int j) ↔ i = j := by
  constructor
  · intro h
    cases n with
    | zero =>
      obtain ⟨k, e1, e2⟩ := h
      cases e1
      cases e2
      rfl
    | succ n =>
      rcases h with ⟨k, e1, e2⟩ | ⟨_, _, e1, _⟩
      · cases e1
        cases e2
        rfl
      · cases e1
  · intro e
    rw [e]
    cases n with
    | zero => exact ⟨j, rfl, rfl⟩
    | succ n => exact .inl ⟨j, rfl, rfl⟩
theorem eqB_int {X : Cx} {C : Addr} : EqB X 0 (DRec C 0) := by
  intro A pins s σ H x y u v e sb I rx ry d
  obtain ⟨t, t', ⟨i, rfl, rfl⟩, ⟨j, rfl, rfl⟩, he⟩ := d
  have q := eqAt_V (A := A) (s := s) rx ry rfl rfl
  refine q X.prog X.w X.xe _ ⟨?_, H, I, Ext.rfl'⟩
  rw [sm_int] at he
  rw [Bool.eq_iff_iff, he]
  exact eqV_int
theorem eqB_rec {X : Cx} {C f : Addr} {fd : FuncData} {k n : Nat} (R : RecK X.K X.mg C) (m : GrOwn.Sm X.K C "__eq__" f) (F : FnOk X.prog X.w X.K X.mg X.base CX0 k f fd ["self", "other"] (spEqR C n)) (hb : Binds X.K fd ["self", "other"] []) : EqB X k (DRec C (n + 1)) := by
  intro A pins s σ H x y u v e sb I rx ry d
  obtain ⟨t, t', h1, h2, he⟩ := d
  have fin : ∀ {w : Value} {Q : VK} {s2 : Shared}, (∀ z H', Q z H' → ∃ b, z = .bl b ∧ b = e ∧ Ext H H') → EP X pins σ Q w s2 → ∃ b, w = .bool b ∧ b = e ∧ ∃ H', Inv X pins σ H' s2 ∧ Ext H H' := fun hq ⟨z, H', I', rz, q⟩ => by
    obtain ⟨b, rfl, hb, x⟩ := hq z H' q
    cases rz
    exact ⟨b, rfl, hb, H', I', x⟩
  refine h1.cases (fun i e1 e2 => ?_) (fun k1 a l fs en e1 e2 ra wf pm ch => ?_)
  · subst e1 e2
    refine h2.cases (fun j f1 f2 => ?_) (fun k2 b m' gs _ f1 f2 rb wg pg cg => ?_)
    · subst f1 f2
      have q := eqAt_V (A := A) (s := s) rx ry rfl rfl
      refine q X.prog X.w X.xe _ ⟨?_, H, I, Ext.rfl'⟩
      rw [sm_int] at he
      rw [Bool.eq_iff_iff, he]
      exact eqV_int
    · subst f1 f2
      obtain ⟨tk, rfl⟩ := rx
      cases ry
      obtain ⟨⟨dx, tp, d, _, eb, _, _⟩, _, _⟩ := id rb
      have ef : e = false := by
        rw [← Bool.not_eq_true, he]
        rintro (⟨_, _, e2⟩ | ⟨_, _, e1, _⟩)
        · cases e2
        · cases e1
      refine eqBool_ir (wpAny_mono (rc_int (Q := fun z H' => z = .bl false ∧ Ext H H') m R.sR F sb hb pass0 I eb ⟨b, gs, h2, .inl ⟨i, rfl, fun H' s' => ⟨false, rfl, rfl, s'⟩⟩⟩) (fun r s2 q => ?_) fun _ _ z => z)
      exact fin (fun z H' ⟨hz, x⟩ => ⟨false, hz, ef.symm, x⟩) q
  · subst e1 e2
    cases rx
    obtain ⟨⟨dx, tp, d, _, ea, _, _⟩, _, _⟩ := id ra
    refine h2.cases (fun j f1 f2 => ?_) (fun k2 b m' gs _ f1 f2 rb wg pg cg => ?_)
    · subst f1 f2
      obtain ⟨tk, rfl⟩ := ry
      have ef : e = false := by
        rw [← Bool.not_eq_true, he]
        rintro (⟨_, e1, _⟩ | ⟨_, _, _, e2, _⟩)
        · cases e1
        · cases e2
      refine eqBool_ri (wpAny_mono (rc_own (Q := fun z H' => z = .bl false ∧ Ext H H') (y := .int j) m R.sI F sb hb pass0 I ⟨tk, rfl⟩ ea (.inl ⟨j, rfl⟩) ⟨a, fs, h1, .inl ⟨j, rfl, fun H' s' => ⟨false, rfl, rfl, s'⟩⟩⟩) (fun r s2 q => ?_) fun _ _ z => z)
      exact fin (fun z H' ⟨hz, x⟩ => ⟨false, hz, ef.symm, x⟩) q
    · subst f1 f2
      cases ry
      obtain ⟨⟨dy, tq, d', _, eb, _, _⟩, _, _⟩ := id rb
      by_cases hab : a = b
      · subst hab
        have et : e = true := he.mpr (Rc.one h1 h2)
        subst et
        exact SeqAt.EqAt.same (A := A) (s := s) (.ref a) X.prog X.w X.xe _ ⟨rfl, H, I, Ext.rfl'⟩
      · refine GQ.eqBool_refG hab (wpAny_mono (rc_own (Q := fun z H' => z = .bl e ∧ Ext H H') (y := .ref b) m R.sI F sb hb pass0 I rfl ea (.inr ⟨b, dy, _, rfl, eb⟩) ⟨a, fs, h1, .inr ⟨b, gs, rfl, h2, fun e' H' he' s' => ⟨e', rfl, by rw [show e' = e from Bool.eq_iff_iff.mpr (he'.trans he.symm)], s'⟩⟩⟩) (fun r s2 q => ?_) fun _ _ z => z)
        exact fin (fun z H' ⟨hz, x⟩ => ⟨e, hz, rfl, x⟩) q
end Lw
namespace Lw
open PySem PySem.Spec PyProof.Rows L2 GrT GrOwn Qd
section
variable {P : Program} {w : World} {K : PySem.W.Frag} {mg : Str → Option Value} {base : Heap} {C : Addr}
theorem fn_eq_step (T : Bu mg) (R : RecK K mg C) {n k : Nat} (hE : ∀ X : Cx, X.prog = P → X.w = w → X.K = K → X.mg = mg → X.base = base → EqB X k (DRec C n)) {f : Addr} {fd : FuncData} (F : L2.Fun K "__eq__" "Record.__eq__" sEq f fd) :
    FnOk P w K mg base CX0 (k + 2) f fd ["self", "other"] (spEqR C n) := by
  refine F.ok scEq (fun vs H Q E h => ?_) (fun cdv A outer s H vs Q E hr h => ?_)
  · obtain ⟨a, fs, _, ⟨i, rfl, _⟩ | ⟨b, gs, rfl, _⟩⟩ := h
    · rfl
    · rfl
  · obtain ⟨a, fs, ra0, hy⟩ := h
    suffices hh : ∃ t, PSs (cxOf CX0 P w K mg base ["self", "other"] "Record.__eq__" (defScope sEq) f cdv A outer s H E).nox (defBody sEq) t ∧ t { nx := fun _ H' => Q .non H', rt := Q } (start ["self", "other"] vs) H from hh
    refine ⟨_, (pss_one (ps_ret (pe_and (pe_callB call_isi (by rfl) T.b_isinstance bo_isinstance (pa_cons (pv 1) (pa_cons (pe_glob (by rfl) R.mgC (v := .ref C) rfl) pa_nil)))
      (pe_and (pe_cmpR op_eq (pe_fld (pv 0) rfl) (pe_fld (pv 1) rfl) (nomark _)) (pe_one (pe_cmpR (op_dictB mon_rec (hE _ rfl rfl rfl rfl rfl) hr) (pe_fld (pv 0) rfl) (pe_fld (pv 1) rfl) (nomark _))))))), ?_⟩
    rcases hy with ⟨i, rfl, q⟩ | ⟨b, gs, rfl, rb0, q⟩
    · exact ⟨_, rfl, _, _, _, _, _, rfl, .own C, .base (.int i), R.kI, _, rfl, iteF (q H (Same.refl _))⟩
    · obtain ⟨fs', l, e1, ra, wf, pm, ch⟩ := Rc.outR ra0
      obtain ⟨gs', m, e2, rb, wg, pg, cg⟩ := Rc.outR rb0
      cases e1
      cases e2
      obtain ⟨⟨dx, tp, d1, _, ea, _, ed1⟩, nl, _⟩ := id ra
      obtain ⟨⟨dy, tq, d2, _, eb, _, ed2⟩, nm, _⟩ := id rb
      refine ⟨_, rfl, _, _, _, _, _, rfl, .own C, R.ty eb, R.kRC, _, rfl, iteT ?_⟩
      refine ⟨_, rfl, a, C, dx, _, _, rfl, ea, R.cl, R.nS, rf_size _ _ _, _, rfl, b, C, dy, _, _, rfl, eb, R.cl, R.nS, rf_size _ _ _, rfl, _, rfl, ?_⟩
      by_cases hz : nfs fs = nfs gs
      · rw [show decide (V.int (nfs fs) = V.int (nfs gs)) = true from decide_eq_true (by rw [hz])]
        refine iteT ?_
        refine ⟨_, rfl, a, C, dx, _, _, rfl, ea, R.cl, R.nF, rf_fields _ _ _, _, rfl, b, C, dy, _, _, rfl, eb, R.cl, R.nF, rf_fields _ _ _, d1, d2, dk l, dk m, dRec C n H, rfl, rfl, ed1, ed2, fun _ oa ob k v y hk hv => ?_, fun H' x => q _ H' (all_iff nl nm wf.nd pm pg ch cg) x⟩
        obtain ⟨⟨x, v'⟩, hx, e⟩ := List.mem_map.mp hk
        cases e
        rw [dk_val] at hv
        have hv1 := mem_look nl hx
        obtain ⟨t, ht⟩ := look_some (pm.mem_iff.mp (List.mem_map.mpr ⟨_, hx, rfl⟩))
        obtain ⟨u, hu⟩ := look_some (pg.mem_iff.mp (List.mem_map.mpr ⟨_, look_mem hv, rfl⟩))
        refine ⟨t, u, ?_, ?_, dRec_iff (ch x v' t hv1 ht) (cg x y u hv hu)⟩
        · have a1 : ∀ o {x v u}, look x l = some v → look x fs = some u → Rc All C (upd H d1 o) n v u := fun o x v u h1 h2 =>
            Rc.away (z := nfs fs) ed1 (fun gs' ng pg' cg' => (nfs_one wf.nd pm pg' (fun x v u h1 h2 => (ch x v u h1 h2).sz) cg').symm) o (ch x v u h1 h2) (nf_child h2)
          by_cases hd : d1 = d2
          · subst hd
            rw [upd_upd]
            exact a1 _ hv1 ht
          · have ed2' : (upd H d1 (.frz oa (.dK (dk l)))) d2 = some (.dK (dk m)) := by
              rw [upd_ne fun z => hd z.symm]
              exact ed2
            have b1 : ∀ {x v u}, look x m = some v → look x gs = some u → Rc All C (upd H d1 (.frz oa (.dK (dk l)))) n v u := fun {x v u} h1 h2 =>
              Rc.away (z := nfs fs) ed1 (fun gs' ng pg' cg' => (nfs_one wf.nd pm pg' (fun x v u h1 h2 => (ch x v u h1 h2).sz) cg').symm) _ (cg x v u h1 h2) (by rw [hz]; exact nf_child h2)
            exact Rc.away (z := nfs gs) ed2' (fun gs' ng pg' cg' => (nfs_one wg.nd pg pg' (fun x v u h1 h2 => (b1 h1 h2).sz) cg').symm) _ (a1 _ hv1 ht) (by rw [← hz]; exact nf_child ht)
        · have b1 : ∀ o {x v u}, look x m = some v → look x gs = some u → Rc All C (upd H d1 o) n v u := fun o {x v u} h1 h2 =>
            Rc.away (z := nfs fs) ed1 (fun gs' ng pg' cg' => (nfs_one wf.nd pm pg' (fun x v u h1 h2 => (ch x v u h1 h2).sz) cg').symm) o (cg x v u h1 h2) (by rw [hz]; exact nf_child h2)
          by_cases hd : d1 = d2
          · subst hd
            rw [upd_upd]
            exact b1 _ hv hu
          · have ed2' : (upd H d1 (.frz oa (.dK (dk l)))) d2 = some (.dK (dk m)) := by
              rw [upd_ne fun z => hd z.symm]
              exact ed2
            exact Rc.away (z := nfs gs) ed2' (fun gs' ng pg' cg' => (nfs_one wg.nd pg pg' (fun x v u h1 h2 => (b1 _ h1 h2).sz) cg').symm) _ (b1 _ hv hu) (nf_child hu)
      · rw [show decide (V.int (nfs fs) = V.int (nfs gs)) = false from decide_eq_false fun e => hz (V.int.inj e)]
        refine iteF (q false H ?_ (Same.refl _))
        refine ⟨(fun e => nomatch e), fun h => ?_⟩
        have := Lw.Sm.nf h
        rw [nf, nf] at this
        exact absurd this hz
theorem fn_eq (T : Bu mg) (R : RecK K mg C) {f : Addr} {fd : FuncData} (m : GrOwn.Sm K C "__eq__" f) (hb : Binds K fd ["self", "other"] []) (F : L2.Fun K "__eq__" "Record.__eq__" sEq f fd) : ∀ n, FnOk P w K mg base CX0 (2 * n + 2) f fd ["self", "other"] (spEqR C n)
  | 0 => fn_eq_step T R (k := 0) (fun X _ _ _ _ _ => eqB_int) F
  | n + 1 => by
    have ih := fn_eq T R m hb F n
    exact fn_eq_step T R (k := 2 * n + 2) (fun X e1 e2 e3 e4 e5 => by
      subst e1 e2 e3 e4 e5
      exact eqB_rec R m ih hb) F
end
end Lw
namespace Qd
open PySem PySem.W PySem.Spec PyProof.Rows L2 GrOwn
theorem on_slot : Slot "object" "__ne__" "object.__ne__" :=
  Slot.of (T := "object") (name := "__ne__") (owner := "object") (n := "__ne__") (by rw [typeLookup_type, builtinLookup_eq_fast]; kernel_rfl) (by decide +kernel) (by decide +kernel) (by decide +kernel) (.inl (by decide +kernel)) (by rw [isSubtype_type]; kernel_rfl)
section
variable {prog : Program} {w : World} {A : Around} {E : Value → Shared → Prop} {s : Shared} {K : Frag} {x C : Addr} {ox : Obj} {od : Option Obj} {name : Str} {b : Value}
theorem ifBound_ne {M : Model} {args : List Value} {Q : Option Value → Shared → Prop} (X : K.In s.heap) (I : InstAt s.heap x ox C od) (hs : findIn K (.ref C) "__ne__" = some (some (.builtin "object.__ne__")))
    (h : wpAny M A (call (.builtin "object.__ne__") (.ref x :: args)) (fun v => Q (some v)) E s) : wpAny M A (callSpecialIfBound? (.ref x) "__ne__" args) Q E s := by
  simp only [callSpecialIfBound?, bindSpecialIfBound?]
  refine wpAny_holding (wpAny_bind (wpAny_bind (wpAny_bind (I.type.here ((looks_findIn X hs).here ?_)))))
  simp only [on_slot.bind]
  refine wpAny_bind (wpAny_askSetting (wpAny_ite ?_))
  have fin : wpAny M A (call (.builtin "object.__ne__") ([.ref x] ++ args) >>= fun v => pure (some v)) Q E s := wpAny_bind (wpAny_mono h (fun v s' h' => wpAny_pure h') fun _ _ h' => h')
  split
  · exact wpAny_bind (wpAny_pure (wpAny_pure fin))
  · exact wpAny_tryCatch (wpAny_bind (wpAny_pure (wpAny_pure fin)))
theorem objNe_entry {h0 : Heap} {y : Value} {f : Addr} {m0 : Str → Option Value} (X : K.In s.heap) (I : InstAt s.heap x ox C od) (hs : findIn K (.ref C) "__eq__" = some (some (.ref f))) (hf : isFn K (.ref f) = true) (hu : A.units < cLine)
    {Q : Fin → Shared → Prop} (h : wpAny (model prog w) A (call (.ref f) [.ref x, y]) (fun v s' => ∃ e, v = .bool e ∧ Q (.done (.ret (.bool (!e)))) s') E s) :
    wpAny (model prog w) A (Builtin.«object.__ne__» ⟨[.ref x, y], []⟩) Q E s := by
  unfold Builtin.«object.__ne__»
  repeat (first | with_reducible refine wpAny_cRoomFor hu ?_ | with_reducible refine wpAny_bind (ifBound_K X I hs hf (wpAny_mono h (fun v s' hv => ?_) fun _ _ e => e)) | wp_step)
  obtain ⟨e, rfl, q⟩ := hv
  exact wpAny_bind (wpAny_truthy_bool (wpAny_pure q))
theorem cmp_ne {y : Value} {f : Addr} {L : Addr} {h0 : Heap} {m0 : Str → Option Value} {Q : Value → Shared → Prop} (hu : A.units + 1 < cLine) (F : Fr h0 L s.heap m0) (X0 : K.In h0) (I : InstAt s.heap x ox C od) (hb : Looks (model prog w) s.heap (typeOf y) (.ref C))
    (hn : findIn K (.ref C) "__ne__" = some (some (.builtin "object.__ne__"))) (hm : mroIn K C (.type "object") = some true) (hs : findIn K (.ref C) "__eq__" = some (some (.ref f))) (hf : isFn K (.ref f) = true)
    (h : wpAny (model prog w) A.in1 (call (.ref f) [.ref x, y]) (fun v s' => ∃ e, v = .bool e ∧ Q (.bool (!e)) s') E s) : wpAny (model prog w) A (richCompare .NotEq (.ref x) y) Q E s := by
  have X := X0.keeps F.keep
  have inst : Looks (model prog w) s.heap (isInstance (.ref x) (.type "object")) true := I.type.andThen (looks_subIn X hm)
  have one : wpAny (model prog w) A (tryCompare (.ref x) "__ne__" y) (fun r s' => ∃ v, r = some v ∧ Q v s') E s := by
    unfold tryCompare
    refine wpAny_bind (ifBound_ne X I hn (wpAny_call (codeAny_call_builtin on_slot.plain PySem.F.cmpEntry_ne (check_slot PySem.F.cmpKind_ne PySem.F.cmpSplit_ne inst (PySem.F.cmpArgs_ne _ _) ?_))))
    refine objNe_entry (h0 := s.heap) (m0 := m0) X I hs hf (by show A.units + 1 < cLine; exact hu) (wpAny_mono h (fun v s' hv => ?_) fun _ _ e => e)
    obtain ⟨e, rfl, q⟩ := hv
    exact ⟨e, rfl, wpAny_pure ⟨_, rfl, q⟩⟩
  unfold richCompare
  simp only [oneThing_ref]
  refine wpAny_holding (wpAny_bind (wpAny_cRoomFor (by omega) ?_))
  refine wpAny_bind (I.type.here (wpAny_bind (hb.here ?_)))
  rw [if_neg (by simp)]
  refine wpAny_bind (wpAny_pure ?_)
  simp only [Bool.false_eq_true, if_false]
  refine wpAny_bind (wpAny_mono one (fun r s' z => ?_) fun _ _ e => e)
  obtain ⟨v, rfl, hq⟩ := z
  exact wpAny_pure hq
end
end Qd
namespace Lw
open PySem PySem.Spec PyProof.Rows L2 GrT GrOwn Qd
/-- what is kept of __eq__ -/
structure EqM (P : Program) (w : World) (K : PySem.W.Frag) (mg : Str → Option Value) (base : Heap) (C : Addr) (k n : Nat) : Prop where
  ex : ∃ (f : Addr) (fd : FuncData), FnOk P w K mg base CX0 k f fd ["self", "other"] (spEqR C n) ∧ GrOwn.Sm K C "__eq__" f ∧ Binds K fd ["self", "other"] []
/-- records n + 1 deep -/
def rEqRec (neg : Bool) (C : Addr) (n : Nat) : R2 := fun x y H Q => ∃ (a b : Addr) (fs gs : List (Str × T)), x = .ref a ∧ y = .ref b ∧ Rc All C H (n + 1) (.ref a) (.fds fs) ∧ Rc All C H (n + 1) (.ref b) (.fds gs) ∧
  ∀ e H', (e = true ↔ GrT.Sm (n + 1) (.fds fs) (.fds gs)) → Same H H' → Q (.bl (if neg then !e else e)) H'
/-- ints, or records n + 1 deep -/
def rEqVal (C : Addr) (n : Nat) : R2 := fun x y H Q => ∃ (t u : T), Rc All C H (n + 1) x t ∧ Rc All C H (n + 1) y u ∧ ∀ e H', (e = true ↔ GrT.Sm (n + 1) t u) → Same H H' → Q (.bl e) H'
theorem Rc.ins {C : Addr} {H : Hp} {n : Nat} {a : Addr} {fs : List (Str × T)} (h : Rc All C H (n + 1) (.ref a) (.fds fs)) : ∃ dx vs, H a = some (.ins C dx vs) := by
  obtain ⟨l, ⟨⟨dx, tp, d, _, ea, _⟩, _, _⟩, _⟩ := Rc.out h
  exact ⟨dx, _, ea⟩
section
variable {X : Cx} {C : Addr} {k j n : Nat}
theorem op_eqRec (R : RecK X.K X.mg C) (M : EqM X.prog X.w X.K X.mg X.base C k n) (hr : Room j X.A) (hk : k ≤ j) : OpR X (compareOp .Eq) (rEqRec false C n) := by
  intro pins s σ H x y v u Q I rx ry h
  obtain ⟨f, fd, F, m, hb⟩ := M.ex
  obtain ⟨a, b, fs, gs, rfl, rfl, r1, r2, q⟩ := h
  cases rx
  cases ry
  obtain ⟨dx, vs, ea⟩ := Rc.ins r1
  obtain ⟨dy, ws, eb⟩ := Rc.ins r2
  show wpAny _ _ (richCompare .Eq (.ref a) (.ref b)) _ _ _
  exact rc_own (y := .ref b) m R.sI F ⟨hr.mono hk, rfl⟩ hb pass0 I rfl ea (.inr ⟨b, dy, _, rfl, eb⟩) ⟨a, fs, r1, .inr ⟨b, gs, rfl, r2, fun e H' he s' => ⟨e, rfl, q e H' he s'⟩⟩⟩
theorem op_neRec (R : RecK X.K X.mg C) (hn : PySem.W.findIn X.K (.ref C) "__ne__" = some (some (.builtin "object.__ne__"))) (M : EqM X.prog X.w X.K X.mg X.base C k n) (hr : Room j X.A) (hk : k + 1 ≤ j) : OpR X (compareOp .NotEq) (rEqRec true C n) := by
  intro pins s σ H x y v u Q I rx ry h
  obtain ⟨f, fd, F, m, hb⟩ := M.ex
  obtain ⟨a, b, fs, gs, rfl, rfl, r1, r2, q⟩ := h
  cases rx
  cases ry
  obtain ⟨dx, vs, ea⟩ := Rc.ins r1
  obtain ⟨dy, ws, eb⟩ := Rc.ins r2
  obtain ⟨od, J⟩ := inst I ea
  obtain ⟨oe, J2⟩ := inst I eb
  obtain ⟨m0, hF⟩ := I.fr
  have sb : Sub X (k + 1) X.A := ⟨hr.mono hk, rfl⟩
  show wpAny _ _ (richCompare .NotEq (.ref a) (.ref b)) _ _ _
  refine cmp_ne (by have := sb.in1.room.units0; exact this) hF I.ok.mod.kin J J2.type hn R.hm m.at_ m.fn (thn (run_sub (Q := fun z H' => ∃ e, z = .bl e ∧ Q (.bl (!e)) H') (vs := [V.ref a, V.ref b]) F sb.in1 hb pass0 I (.cons rfl (.cons rfl .nil)) ⟨a, fs, r1, .inr ⟨b, gs, rfl, r2, fun e H' he s' => ⟨e, rfl, q e H' he s'⟩⟩⟩) fun r s' hq => ?_)
  obtain ⟨z, H', I', rz, e, rfl, qq⟩ := hq
  cases rz
  exact ⟨e, rfl, .bl _, H', I', rfl, qq⟩
theorem op_eqVal (R : RecK X.K X.mg C) (M : EqM X.prog X.w X.K X.mg X.base C k n) (hr : Room j X.A) (hk : k ≤ j) : OpR X (compareOp .Eq) (rEqVal C n) := by
  intro pins s σ H x y v u Q I rx ry h
  obtain ⟨f, fd, F, m, hb⟩ := M.ex
  obtain ⟨t, t', r1, r2, q⟩ := h
  have sb : Sub X k X.A := ⟨hr.mono hk, rfl⟩
  refine r1.cases (fun i e1 e2 => ?_) (fun k1 a l fs en e1 e2 ra wf pm ch => ?_)
  · subst e1 e2
    refine r2.cases (fun i2 f1 f2 => ?_) (fun k2 b m' gs _ f1 f2 rb wg pg cg => ?_)
    · subst f1 f2
      refine op_eq pins s σ H _ _ v u Q I rx ry ⟨rfl, q _ H ?_ (Same.refl _)⟩
      rw [decide_eq_true_iff, sm_int]
      exact ⟨fun e => V.int.inj e, fun e => by rw [e]⟩
    · subst f1 f2
      obtain ⟨tk, rfl⟩ := rx
      cases ry
      obtain ⟨dy, ws, eb⟩ := Rc.ins r2
      show wpAny _ _ (richCompare .Eq (.int i tk) (.ref b)) _ _ _
      refine rc_int m R.sR F sb hb pass0 I eb ⟨b, gs, r2, .inl ⟨i, rfl, fun H' s' => ⟨false, rfl, q false H' ⟨(fun e => nomatch e), ?_⟩ s'⟩⟩⟩
      rintro (⟨_, _, e2⟩ | ⟨_, _, e1, _⟩)
      · cases e2
      · cases e1
  · subst e1 e2
    cases rx
    obtain ⟨dx, vs, ea⟩ := Rc.ins r1
    show wpAny _ _ (richCompare .Eq (.ref a) u) _ _ _
    refine r2.cases (fun i2 f1 f2 => ?_) (fun k2 b m' gs _ f1 f2 rb wg pg cg => ?_)
    · subst f1 f2
      refine rc_own (y := .int i2) m R.sI F sb hb pass0 I ry ea (.inl ⟨i2, rfl⟩) ⟨a, fs, r1, .inl ⟨i2, rfl, fun H' s' => ⟨false, rfl, q false H' ⟨(fun e => nomatch e), ?_⟩ s'⟩⟩⟩
      rintro (⟨_, e1, _⟩ | ⟨_, _, _, e2, _⟩)
      · cases e1
      · cases e2
    · subst f1 f2
      obtain ⟨dy, ws, eb⟩ := Rc.ins r2
      exact rc_own (y := .ref b) m R.sI F sb hb pass0 I ry ea (.inr ⟨b, dy, _, rfl, eb⟩) ⟨a, fs, r1, .inr ⟨b, gs, rfl, r2, fun e H' he s' => ⟨e, rfl, q e H' he s'⟩⟩⟩
end
/-! ### <= -/
def LeT (n : Nat) (fs gs : List (Str × T)) : Prop := ∀ x t, look x fs = some t → ∃ u, look x gs = some u ∧ GrT.Sm n t u
def spLeR (C : Addr) (n : Nat) : Sp := fun vs H Q _ => ∃ (a b : Addr) (fs gs : List (Str × T)), vs = [.ref a, .ref b] ∧ Rc All C H (n + 1) (.ref a) (.fds fs) ∧ Rc All C H (n + 1) (.ref b) (.fds gs) ∧ ∀ e H', (e = true ↔ LeT n fs gs) → Same H H' → Q (.bl e) H'
abbrev sLe : Stmt := inClass (top 10) 15
def rLeRec (C : Addr) (n : Nat) : R2 := fun x y H Q => ∃ (a b : Addr) (fs gs : List (Str × T)), x = .ref a ∧ y = .ref b ∧ Rc All C H (n + 1) (.ref a) (.fds fs) ∧ Rc All C H (n + 1) (.ref b) (.fds gs) ∧ ∀ e H', (e = true ↔ LeT n fs gs) → Same H H' → Q (.bl e) H'
theorem op_leRec {X : Cx} {C : Addr} {k j n : Nat} (M : MthX X.prog X.w X.K X.mg X.base CX0 C k "__le__" (spLeR C n)) (hr : Room j X.A) (hk : k ≤ j) : OpR X (compareOp .LtE) (rLeRec C n) := by
  intro pins s σ H x y v u Q I rx ry h
  obtain ⟨f, fd, ps, F, m, hb⟩ := M.ex
  obtain ⟨a, b, fs, gs, rfl, rfl, r1, r2, q⟩ := h
  cases rx
  cases ry
  obtain ⟨dx, vs, ea⟩ := Rc.ins r1
  obtain ⟨dy, ws, eb⟩ := Rc.ins r2
  obtain ⟨od, J⟩ := inst I ea
  obtain ⟨oe, J2⟩ := inst I eb
  obtain ⟨m0, hF⟩ := I.fr
  show wpAny _ _ (richCompare .LtE (.ref a) (.ref b)) _ _ _
  refine PySem.W.cmp_K (op := .LtE) (tb := .ref C) (hr.units0) hF I.ok.mod.kin J J2.type (by simp [PySem.W.notFirst]) m.at_ m.fn ?_
  refine thn (run_at (vs := [V.ref a, V.ref b]) (Q := fun z H' => ∃ e, z = .bl e ∧ Q (.bl e) H') F (hr.mono hk) I.env0 hb pass0 I (.cons rfl (.cons rfl .nil)) ⟨a, b, fs, gs, rfl, r1, r2, fun e H' he s' => ⟨e, rfl, q e H' he s'⟩⟩) fun r s' hq => ?_
  obtain ⟨z, H', I', rz, e, rfl, qq⟩ := hq
  cases rz
  exact ⟨.bl e, H', I', rfl, qq⟩
section
variable {P : Program} {w : World} {K : PySem.W.Frag} {mg : Str → Option Value} {base : Heap} {C : Addr}
theorem scLe : FnScope ["self", "other", "name"] ["self", "other"] (defScope sLe) := ⟨rfl, rfl, rfl, by decide +kernel, rfl, by decide +kernel, by decide +kernel⟩
theorem fn_le (T : Bu mg) (ba : mg "all" = none) (R : RecK K mg C) {k n : Nat} (M : EqM P w K mg base C k n) {f : Addr} {fd : FuncData} (F : L2.Fun K "__le__" "Record.__le__" sLe f fd) : FnOk P w K mg base CX0 (k + 1) f fd ["self", "other"] (spLeR C (n + 1)) := by
  refine F.ok scLe (fun vs H Q E h => ?_) (fun cdv A outer s H vs Q E hr h => ?_)
  · obtain ⟨a, b, fs, gs, rfl, _⟩ := h
    rfl
  · obtain ⟨a, b, fs, gs, rfl, r1, r2, q⟩ := h
    have hu := hu_of hr
    obtain ⟨l, ⟨⟨dx, tp, d1, _, ea, et, ed1⟩, nl, sl⟩, wf, pm, ch⟩ := Rc.out r1
    obtain ⟨m, ⟨⟨dy, tq, d2, _, eb, _, ed2⟩, nm, _⟩, wg, pg, cg⟩ := Rc.out r2
    refine ⟨_, (pss_one (ps_ret (pe_callB (cr_all rfl) (by rfl) ba (by decide +kernel) (pa_cons (pe_lc (own := [("name", 2)]) (g := gName 2) (tt := tYes) rfl scLe.nd (pi_tup (pe_fld (pv 0) rfl)) (blkOk_by (own := [("name", 2)]) (N := ["self", "other", "name"]) (sc := defScope sLe) (by decide +kernel)) (fun _ _ _ _ _ => pg_name (i := 2) scLe.nd rfl (Or.inl rfl)) (fun _ _ _ _ _ => pts_nil)
      (fun _ _ _ _ _ => (by exact (pe_and (pe_cmp (pc_din hu (pv 2) (pe_fldK (K := K) rfl (pv 1) rfl))) (pe_one (pe_cmpR (op_eqVal R M hr (by omega)) (pe_dget hu (pe_fldK (K := K) rfl (pv 0) rfl) (pv 2) (fun _ _ => rfl)) (pe_dget hu (pe_fldK (K := K) rfl (pv 1) rfl) (pv 2) (fun _ _ => rfl)) (nomark _))))))) pa_nil)))), ?_⟩
    have gm : ∀ x, look x m = none → look x gs = none := fun x e => look_none.mpr fun z => look_none.mp e (pg.mem_iff.mpr z)
    refine ⟨_, rfl, a, C, dx, _, _, rfl, ea, R.cl, R.nN, rf_names _ _ _, tp, rfl, ⟨_, SqT.of et⟩, fun Z hZ => lc_it (walk_tup (xs := (names l).map V.str)) (fun i H5 => ∃ bs : List Bool, H5 Z = some (.lst (bs.map V.bl)) ∧ bs.length = i ∧ (bs.all id = true ↔ ∀ x t, look x fs = some t → x ∈ (names l).take i → ∃ u, look x gs = some u ∧ GrT.Sm (n + 1) t u) ∧ Same H H5)
      ⟨[], upd_same, rfl, ⟨fun _ x t _ hx => by simp at hx, fun _ => rfl⟩, Same.new (Same.refl _) hZ⟩ (fun i H5 _ h => ?_) ?_ ?_⟩
    · obtain ⟨_, _, _, _, sm⟩ := h
      exact SqT.of (sm _ _ et)
    · rintro i y H5 H6 hi ⟨bs, e1, e2, e3, sm⟩ ⟨rfl, hy⟩
      obtain ⟨x, hx, rfl⟩ : ∃ x, (names l)[i]? = some x ∧ y = V.str x := by
        rw [List.getElem?_map] at hy
        cases e : (names l)[i]? with
        | none =>
          rw [e] at hy
          cases hy
        | some x =>
          rw [e] at hy
          exact ⟨x, rfl, (Option.some.inj hy).symm⟩
      have hxm : x ∈ names l := List.mem_of_getElem? hx
      obtain ⟨v, hv⟩ := look_some hxm
      obtain ⟨t, ht⟩ := look_some (pm.mem_iff.mp hxm)
      have hln := wf.ln
      have hll : (names l).length = fs.length := by rw [pm.length_eq, List.length_map]
      have hil : i < (names l).length := by rw [List.length_map] at hi; exact hi
      have fin : ∀ (e : Bool) H7, (e = true ↔ ∃ u, look x gs = some u ∧ GrT.Sm (n + 1) t u) → Same H6 H7 → ∃ acc, H7 Z = some (.lst acc) ∧ acc.length < sizeLine ∧ ∃ bs' : List Bool, (upd H7 Z (.lst (acc ++ [V.bl e]))) Z = some (.lst (bs'.map V.bl)) ∧ bs'.length = i + 1 ∧
          (bs'.all id = true ↔ ∀ x t, look x fs = some t → x ∈ (names l).take (i + 1) → ∃ u, look x gs = some u ∧ GrT.Sm (n + 1) t u) ∧ Same H (upd H7 Z (.lst (acc ++ [V.bl e]))) := fun e H7 he s7 => by
        refine ⟨_, s7 _ _ e1, line_big (by rw [List.length_map, e2]; omega), bs ++ [e], by rw [upd_same, List.map_append]; rfl, by rw [List.length_append, e2]; rfl, ?_, fun c o hc => by rw [upd_ne (ne_of_none hc hZ)]; exact s7 _ _ (sm _ _ hc)⟩
        rw [List.all_append, Bool.and_eq_true, e3, List.take_add_one, hx, Option.toList_some]
        have one : ([e].all id = true) ↔ e = true := by simp
        rw [one, he]
        constructor
        · rintro ⟨g1, g2⟩ z tz hz hm
          rcases List.mem_append.mp hm with hm | hm
          · exact g1 z tz hz hm
          · rw [List.mem_singleton.mp hm] at hz ⊢
            rw [ht] at hz
            cases hz
            exact g2
        · exact fun g => ⟨fun z tz hz hm => g z tz hz (List.mem_append_left _ hm), g x t ht (List.mem_append_right _ (List.mem_singleton.mpr rfl))⟩
      refine ⟨rfl, iteT (A := _) (B := True) (iteT ⟨_, rfl, _, rfl, b, C, dy, _, _, rfl, sm _ _ eb, R.cl, R.nF, rf_fields _ _ _, d2, _, rfl, DGet.k (k := Sum.inr x) (sm _ _ ed2), ?_⟩)⟩
      rw [dk_val]
      cases hy2 : look x m with
      | none =>
        exact ⟨_, rfl, iteF (fin false H6 ⟨(fun e => nomatch e), fun ⟨u, hu, _⟩ => by rw [gm x hy2] at hu; cases hu⟩ (Same.refl _))⟩
      | some y =>
        obtain ⟨u, hu⟩ := look_some (pg.mem_iff.mp (List.mem_map.mpr ⟨_, look_mem hy2, rfl⟩ : x ∈ names m) )
        have g1 := DGet.k (k := Sum.inr x) (sm _ _ ed1)
        rw [dk_val, hv] at g1
        have g2 := DGet.k (k := Sum.inr x) (sm _ _ ed2)
        rw [dk_val, hy2] at g2
        refine ⟨_, rfl, iteT ⟨_, rfl, a, C, dx, _, _, rfl, sm _ _ ea, R.cl, R.nF, rf_fields _ _ _, _, rfl, d1, v, rfl, g1, _, rfl, b, C, dy, _, _, rfl, sm _ _ eb, R.cl, R.nF, rf_fields _ _ _, _, rfl, d2, y, rfl, g2, t, u, (ch x v t hv ht).same sm, (cg x y u hy2 hu).same sm, fun e H7 he s7 => fin e H7 (he.trans ⟨fun z => ⟨u, hu, z⟩, fun ⟨u', hu', z⟩ => by rw [hu] at hu'; cases hu'; exact z⟩) s7⟩⟩
    · rintro H5 ⟨bs, e1, e2, e3, sm⟩
      refine ⟨Z, _, rfl, .of e1, q _ _ (e3.trans ?_) sm⟩
      constructor
      · intro g x t ht
        exact g x t ht (by rw [List.length_map, List.take_length]; exact pm.mem_iff.mpr (List.mem_map.mpr ⟨_, look_mem ht, rfl⟩))
      · intro g x t ht _
        exact g x t ht
end
end Lw
namespace GrT
open PySem L2
/-! ### records as maps: or, without, common, equal, within -/
def OR (R : T → T → Prop) (a b : Option T) : Prop := match a, b with
  | some t, some u => R t u
  | none, none => True
  | _, _ => False
/-- fields whose values are equal to themselves -/
structure Wr (n : Nat) (fs : List (Str × T)) : Prop where
  nd : (names fs).Nodup
  rf : ∀ x t, look x fs = some t → Sm n t t
theorem sm_ext {n : Nat} {fs gs : List (Str × T)} (n1 : (names fs).Nodup) (n2 : (names gs).Nodup) : Sm (n + 1) (.fds fs) (.fds gs) ↔ ∀ x, OR (Sm n) (look x fs) (look x gs) := by
  constructor
  · intro h x
    rcases h with ⟨i, e, _⟩ | ⟨fs', gs', e1, e2, _, pm, ch⟩
    · cases e
    · cases e1
      cases e2
      cases h1 : look x fs with
      | none =>
        have : look x gs = none := look_none.mpr fun z => look_none.mp h1 (pm.mem_iff.mpr z)
        rw [this]
        exact True.intro
      | some t =>
        obtain ⟨u, hu⟩ := look_some (pm.mem_iff.mp (List.mem_map.mpr ⟨_, look_mem h1, rfl⟩))
        rw [hu]
        exact ch x t u h1 hu
  · intro h
    refine .inr ⟨fs, gs, rfl, rfl, n1, (List.perm_ext_iff_of_nodup n1 n2).mpr fun x => ?_, fun x v w h1 h2 => ?_⟩
    · have hx := h x
      constructor
      · intro hm
        obtain ⟨v, hv⟩ := look_some hm
        rw [hv] at hx
        cases e : look x gs with
        | none =>
          rw [e] at hx
          exact hx.elim
        | some u => exact List.mem_map.mpr ⟨_, look_mem e, rfl⟩
      · intro hm
        obtain ⟨v, hv⟩ := look_some hm
        rw [hv] at hx
        cases e : look x fs with
        | none =>
          rw [e] at hx
          exact hx.elim
        | some u => exact List.mem_map.mpr ⟨_, look_mem e, rfl⟩
    · have hx := h x
      rw [h1, h2] at hx
      exact hx
def U (a b : List (Str × T)) : List (Str × T) := unite a b
def Dm (a b : List (Str × T)) : List (Str × T) := flt (fun x => (look x b).isSome == false) a
def Am (a b : List (Str × T)) : List (Str × T) := flt (fun x => (look x b).isSome == true) a
theorem nd_flt {c : Str → Bool} {l : List (Str × T)} (h : (names l).Nodup) : (names (flt c l)).Nodup := by
  rw [names_flt]
  exact h.sublist List.filter_sublist
section
variable {n : Nat} {a b c : List (Str × T)} {x : Str}
theorem look_U (hb : (names b).Nodup) : look x (U a b) = (look x b).or (look x a) := look_unite hb
theorem look_D : look x (Dm a b) = if ((look x b).isSome == false) = true then look x a else none := look_flt
theorem look_A : look x (Am a b) = if ((look x b).isSome == true) = true then look x a else none := look_flt
theorem Wr.U (ha : Wr n a) (hb : Wr n b) : Wr n (GrT.U a b) := ⟨unite_nd ha.nd, fun x t h => by
  rw [look_U hb.nd] at h
  cases e : look x b with
  | none =>
    rw [e] at h
    exact ha.rf x t h
  | some u =>
    rw [e] at h
    cases h
    exact hb.rf x _ e⟩
theorem Wr.D (ha : Wr n a) : Wr n (Dm a b) := ⟨nd_flt ha.nd, fun x t h => by
  rw [look_D] at h
  split at h
  · exact ha.rf x t h
  · cases h⟩
theorem Wr.A (ha : Wr n a) : Wr n (Am a b) := ⟨nd_flt ha.nd, fun x t h => by
  rw [look_A] at h
  split at h
  · exact ha.rf x t h
  · cases h⟩
theorem Wr.nil : Wr n [] := ⟨List.nodup_nil, fun x t h => by cases h⟩
end
/-- two maps that look up alike are equal -/
theorem sm_of {n : Nat} {a b : List (Str × T)} (ha : Wr n a) (hb : Wr n b) (h : ∀ x, look x a = look x b) : Sm (n + 1) (.fds a) (.fds b) := (sm_ext ha.nd hb.nd).mpr fun x => by
  rw [← h x]
  cases e : look x a with
  | none => exact True.intro
  | some t => exact ha.rf x t e
theorem le_of {n : Nat} {a b : List (Str × T)} (ha : Wr n a) (h : ∀ x t, look x a = some t → look x b = some t) : Lw.LeT n a b := fun x t e => ⟨t, h x t e, ha.rf x t e⟩
end GrT
namespace Lw
open PySem PySem.Spec PyProof.Rows L2 GrT GrOwn Qd
abbrev sPlusN : Stmt := top 27
abbrev sPair : Stmt := top 28
def spPlusN (C : Addr) (n : Nat) : Sp := fun vs H Q _ => ∃ (a b : Addr) (fs gs : List (Str × T)), vs = [.ref a, .ref b] ∧ Rc All C H (n + 1) (.ref a) (.fds fs) ∧ Rc All C H (n + 1) (.ref b) (.fds gs) ∧ fs.length + gs.length ≤ 40 ∧
  ((∀ x, look x fs ≠ none → look x gs = none) → ∀ r H', Rc All C H' (n + 1) (.ref r) (.fds (unite fs gs)) → Same H H' → Q (.ref r) H') ∧
  ((∃ x, look x fs ≠ none ∧ look x gs ≠ none) → ∀ H', Same H H' → Q .non H')
theorem look_ne {α : Type} {x : Str} {l : List (Str × α)} : look x l ≠ none ↔ x ∈ names l := by
  rw [ne_eq, look_none]
  exact Classical.not_not
section
variable {P : Program} {w : World} {K : PySem.W.Frag} {mg : Str → Option Value} {base : Heap} {C CS RE : Addr}
theorem scPlusN : FnScope ["left", "right"] ["left", "right"] (defScope sPlusN) := ⟨rfl, rfl, rfl, by decide +kernel, rfl, by decide +kernel, by decide +kernel⟩
theorem c_plusN (T : Bu mg) (R : RecK K mg C) (sf : PySem.W.selfFirst K C = true) (Z : ExK P K mg "Shared" "Shared.__init__" sShInit CS) (n : Nat) (m_add : MthX P w K mg base (L2.CX P w) C 7 "__add__" (spAdd C CS n))
    (D : Dfn K mg "_law_plus" sPlusN ["left", "right"]) : Cal P w K mg base 8 "_law_plus" (spPlusN C n) := by
  refine D.cal scPlusN (fun vs H Q E h => ?_) (fun f cdv A outer s H vs Q E hr h => ?_)
  · obtain ⟨a, b, fs, gs, rfl, _⟩ := h
    rfl
  · obtain ⟨a, b, fs, gs, rfl, r1, r2, hl, q1, q2⟩ := h
    obtain ⟨dx, vs, ea⟩ := Rc.ins r1
    obtain ⟨dy, ws, eb⟩ := Rc.ins r2
    refine ⟨_, (pss_one (ps_try_only (tb := fun W => tRet (tBinX C (spAdd C CS n) (WE W) (tVar 0) (tVar 1))) (ts := fun a cls d => tRet (tC .non)) (Wout := fun _ _ _ _ => False) rfl rfl ⟨rfl, by decide, Or.inl Z.mgC⟩ takes0
      (fun W pn xe tk _ => pss_one (ps_ret (pe_binX (E := WE W) m_add d_add sf hr (by decide) (fun σ => passAt tk σ) (pv 0) (pv 1))))
      (fun a oe cls d pn hz hf => pss_one (ps_ret pe_non)))), ?_⟩
    refine ⟨_, rfl, _, rfl, a, dx, _, b, dy, _, rfl, rfl, ea, eb, a, b, fs, gs, rfl, r1, r2, hl, fun ys pm so cm r H1 rr s1 => ⟨r, rfl, q1 (fun x hx => ?_) r H1 rr s1⟩, fun ys x pm so cm d H1 hd s1 => ⟨true, Z.te, fun _ e he => q2 ?_ H1 s1, fun h => by cases h⟩⟩
    · have := List.find?_eq_none.mp cm x (pm.mem_iff.mpr (look_ne.mp hx))
      cases e : look x gs with
      | none => rfl
      | some u =>
        rw [e] at this
        exact absurd rfl this
    · have h1 := List.find?_some cm
      have h2 := List.mem_of_find?_eq_some cm
      refine ⟨x, look_ne.mpr (pm.mem_iff.mp h2), fun e => ?_⟩
      rw [e] at h1
      cases h1
end
/-! ### what an expression gives, from any later heap on -/
def Ev (C : Addr) (n : Nat) (ta : TE) (σ : L2.St) (H : Hp) (fs : List (Str × T)) : Prop := ∀ H1, Same H H1 → ∀ Q : VK, (∀ r H2, Rc All C H2 (n + 1) (.ref r) (.fds fs) → Same H1 H2 → Q (.ref r) H2) → ta σ H1 Q
def EvV (ta : TE) (σ : L2.St) (H : Hp) (v : V) : Prop := ∀ H1, Same H H1 → ∀ Q : VK, (∀ H2, Same H1 H2 → Q v H2) → ta σ H1 Q
def EvT (t : TT) (σ : L2.St) (H : Hp) (b : Bool) : Prop := ∀ H1, Same H H1 → ∀ Q : Bool → Hp → Prop, (∀ H2, Same H1 H2 → Q b H2) → t σ H1 Q
section
variable {C : Addr} {n : Nat} {σ : L2.St} {H : Hp} {ta tb : TE} {fs gs : List (Str × T)} {v u : V} {b c : Bool} {t t' : TT} {E : L2.St → XK}
theorem ev_var {i : Nat} {a : Addr} (h : σ[i]? = some (some (.ref a))) (rc : Rc All C H (n + 1) (.ref a) (.fds fs)) : Ev C n (tVar i) σ H fs := fun H1 s1 Q k => ⟨_, h, k a H1 (rc.same s1) (Same.refl _)⟩
theorem ev_or (ha : Ev C n ta σ H fs) (hb : Ev C n tb σ H gs) (hl : fs.length + gs.length ≤ 40) : Ev C n (tBinX C (spOr C n) E ta tb) σ H (U fs gs) := fun H1 s1 Q k =>
  ha H1 s1 _ fun r H2 rr s2 => hb H2 (s1.trans s2) _ fun r' H3 rr' s3 => by
    obtain ⟨dx, vs, ea⟩ := Rc.ins (rr.same s3)
    obtain ⟨dy, ws, eb⟩ := Rc.ins rr'
    exact ⟨r, dx, _, r', dy, _, rfl, rfl, ea, eb, r, r', fs, gs, rfl, rr.same s3, rr', hl, fun q H4 rq s4 => ⟨q, rfl, k q H4 rq ((s2.trans s3).trans s4)⟩⟩
theorem ev_sub (ha : Ev C n ta σ H fs) (hb : Ev C n tb σ H gs) : Ev C n (tBinX C (spPart C n false) E ta tb) σ H (Dm fs gs) := fun H1 s1 Q k =>
  ha H1 s1 _ fun r H2 rr s2 => hb H2 (s1.trans s2) _ fun r' H3 rr' s3 => by
    obtain ⟨dx, vs, ea⟩ := Rc.ins (rr.same s3)
    obtain ⟨dy, ws, eb⟩ := Rc.ins rr'
    exact ⟨r, dx, _, r', dy, _, rfl, rfl, ea, eb, r, r', fs, gs, rfl, rr.same s3, rr', fun q H4 rq s4 => ⟨q, rfl, k q H4 rq ((s2.trans s3).trans s4)⟩⟩
theorem ev_and (ha : Ev C n ta σ H fs) (hb : Ev C n tb σ H gs) : Ev C n (tBinX C (spPart C n true) E ta tb) σ H (Am fs gs) := fun H1 s1 Q k =>
  ha H1 s1 _ fun r H2 rr s2 => hb H2 (s1.trans s2) _ fun r' H3 rr' s3 => by
    obtain ⟨dx, vs, ea⟩ := Rc.ins (rr.same s3)
    obtain ⟨dy, ws, eb⟩ := Rc.ins rr'
    exact ⟨r, dx, _, r', dy, _, rfl, rfl, ea, eb, r, r', fs, gs, rfl, rr.same s3, rr', fun q H4 rq s4 => ⟨q, rfl, k q H4 rq ((s2.trans s3).trans s4)⟩⟩
theorem ev_ne (ha : Ev C n ta σ H fs) (hb : Ev C n tb σ H gs) (h : GrT.Sm (n + 1) (.fds fs) (.fds gs)) : EvV (tOp (rEqRec true C n) ta tb) σ H (.bl false) := fun H1 s1 Q k =>
  ha H1 s1 _ fun r H2 rr s2 => hb H2 (s1.trans s2) _ fun r' H3 rr' s3 => ⟨r, r', fs, gs, rfl, rfl, rr.same s3, rr', fun e H4 he s4 => by
    rw [he.mpr h]
    exact k H4 ((s2.trans s3).trans s4)⟩
theorem ev_eq (ha : Ev C n ta σ H fs) (hb : Ev C n tb σ H gs) (h : b = true ↔ GrT.Sm (n + 1) (.fds fs) (.fds gs)) : EvV (tOp (rEqRec false C n) ta tb) σ H (.bl b) := fun H1 s1 Q k =>
  ha H1 s1 _ fun r H2 rr s2 => hb H2 (s1.trans s2) _ fun r' H3 rr' s3 => ⟨r, r', fs, gs, rfl, rfl, rr.same s3, rr', fun e H4 he s4 => by
    rw [show e = b from Bool.eq_iff_iff.mpr (he.trans h.symm)]
    exact k H4 ((s2.trans s3).trans s4)⟩
theorem ev_le (ha : Ev C n ta σ H fs) (hb : Ev C n tb σ H gs) (h : b = true ↔ LeT n fs gs) : EvV (tOp (rLeRec C n) ta tb) σ H (.bl b) := fun H1 s1 Q k =>
  ha H1 s1 _ fun r H2 rr s2 => hb H2 (s1.trans s2) _ fun r' H3 rr' s3 => ⟨r, r', fs, gs, rfl, rfl, rr.same s3, rr', fun e H4 he s4 => by
    rw [show e = b from Bool.eq_iff_iff.mpr (he.trans h.symm)]
    exact k H4 ((s2.trans s3).trans s4)⟩
theorem ev_len (ha : Ev C n ta σ H fs) (hl : fs.length < 1000) : EvV (tCB (rLenO C (spLen C) E0) (tCons ta tNil)) σ H (.int fs.length) := fun H1 s1 Q k =>
  ha H1 s1 _ fun r H2 rr s2 => by
    obtain ⟨l, ra, wf, pm, ch⟩ := Rc.out rr
    obtain ⟨⟨dx, tp, d, _, ea, _⟩, _, _⟩ := id ra
    have e : l.length = fs.length := by
      have := pm.length_eq
      rwa [List.length_map, List.length_map] at this
    exact ⟨r, dx, _, rfl, ea, r, l, _, rfl, ra.any, _, rfl, by omega, by rw [e]; omega, by rw [e]; exact k H2 s2⟩
theorem ev_add {i j : Int} (ha : EvV ta σ H (.int i)) (hb : EvV tb σ H (.int j)) : EvV (tOp (rI0 fun i j => .int (i + j)) ta tb) σ H (.int (i + j)) := fun H1 s1 Q k =>
  ha H1 s1 _ fun H2 s2 => hb H2 (s1.trans s2) _ fun H3 s3 => ⟨i, j, rfl, rfl, k H3 (s2.trans s3)⟩
theorem ev_neV (ha : EvV ta σ H v) (hb : EvV tb σ H u) (h : scal v u = true) (hd : (!decide (v = u)) = b) : EvV (tOp rNe ta tb) σ H (.bl b) := fun H1 s1 Q k =>
  ha H1 s1 _ fun H2 s2 => hb H2 (s1.trans s2) _ fun H3 s3 => ⟨h, by rw [hd]; exact k H3 (s2.trans s3)⟩
theorem ev_eqV (ha : EvV ta σ H v) (hb : EvV tb σ H u) (h : scal v u = true) (hd : (decide (v = u)) = b) : EvV (tOp rEq ta tb) σ H (.bl b) := fun H1 s1 Q k =>
  ha H1 s1 _ fun H2 s2 => hb H2 (s1.trans s2) _ fun H3 s3 => ⟨h, by rw [hd]; exact k H3 (s2.trans s3)⟩
theorem ev_andV (ha : EvV ta σ H (.bl b)) (hb : EvV tb σ H (.bl c)) : EvV (tAndV ta tb) σ H (.bl (b && c)) := fun H1 s1 Q k => ha H1 s1 _ fun H2 s2 => ⟨b, rfl, by
  cases b with
  | true => exact iteT (hb H2 (s1.trans s2) _ fun H3 s3 => k H3 (s2.trans s3))
  | false => exact iteF (k H2 s2)⟩
theorem ev_orV (ha : EvV ta σ H (.bl b)) (hb : EvV tb σ H (.bl c)) : EvV (tOrV ta tb) σ H (.bl (b || c)) := fun H1 s1 Q k => ha H1 s1 _ fun H2 s2 => ⟨b, rfl, by
  cases b with
  | true => exact iteT (k H2 s2)
  | false => exact iteF (hb H2 (s1.trans s2) _ fun H3 s3 => k H3 (s2.trans s3))⟩
theorem et_test (ha : EvV ta σ H (.bl b)) : EvT (tTest ta) σ H b := fun H1 s1 Q k => ha H1 s1 _ fun H2 s2 => ⟨b, rfl, k H2 s2⟩
theorem et_val (ha : EvV ta σ H (.bl b)) : EvT (tB ta) σ H b := fun H1 s1 Q k => ha H1 s1 _ fun H2 s2 => ⟨b, rfl, k H2 s2⟩
theorem et_not (ha : EvT t σ H b) : EvT (tNot t) σ H (!b) := fun H1 s1 Q k => ha H1 s1 _ k
theorem et_or (ha : EvT t σ H false) (hb : EvT t' σ H false) : EvT (tOr t t') σ H false := fun H1 s1 Q k => ha H1 s1 _ fun H2 s2 => iteF (hb H2 (s1.trans s2) _ fun H3 s3 => k H3 (s2.trans s3))
end
end Lw
namespace GrT
open PySem L2
section
variable {n : Nat} {a b c : List (Str × T)} {x : Str}
theorem len_U : (U a b).length ≤ a.length + b.length := unite_len
theorem len_D : (Dm a b).length ≤ a.length := List.length_filter_le _ _
theorem len_A : (Am a b).length ≤ a.length := List.length_filter_le _ _
theorem len_DA {b : List (Str × T)} : ∀ (a : List (Str × T)), (Dm a b).length + (Am a b).length = a.length
  | [] => rfl
  | (y, t) :: r => by
    have ih := len_DA (b := b) r
    unfold Dm Am flt at ih ⊢
    rw [List.filter_cons, List.filter_cons]
    cases h : (look y b).isSome
    · rw [if_pos (by simp [h]), if_neg (by simp [h])]
      rw [List.length_cons, List.length_cons]
      omega
    · rw [if_neg (by simp [h]), if_pos (by simp [h])]
      rw [List.length_cons, List.length_cons]
      omega
theorem mem_look_iff {l : List (Str × T)} : x ∈ names l ↔ (look x l).isSome = true := by
  constructor
  · intro h
    obtain ⟨v, hv⟩ := look_some h
    rw [hv]
    rfl
  · intro h
    cases e : look x l with
    | none =>
      rw [e] at h
      cases h
    | some v => exact List.mem_map.mpr ⟨_, look_mem e, rfl⟩
theorem len_UD (ha : (names a).Nodup) (hb : (names b).Nodup) : (U a b).length = (Dm a b).length + b.length := by
  have n1 : (names (U a b)).Nodup := unite_nd ha
  have n2 : (names (Dm a b) ++ names b).Nodup := List.nodup_append.mpr ⟨nd_flt ha, hb, fun x hx y hy e => by
    subst e
    have h1 := mem_look_iff.mp hx
    rw [look_D, mem_look_iff.mp hy] at h1
    cases h1⟩
  have p : (names (U a b)).Perm (names (Dm a b) ++ names b) := (List.perm_ext_iff_of_nodup n1 n2).mpr fun x => by
    rw [List.mem_append, mem_look_iff, mem_look_iff, mem_look_iff, look_U hb, look_D]
    cases look x b <;> cases look x a <;> simp
  have := p.length_eq
  rw [List.length_append, List.length_map, List.length_map, List.length_map] at this
  exact this
theorem le_le (ha : Wr n a) (hb : Wr n b) : (Lw.LeT n a b ∧ Lw.LeT n b a) ↔ Sm (n + 1) (.fds a) (.fds b) := by
  rw [sm_ext ha.nd hb.nd]
  constructor
  · rintro ⟨h1, h2⟩ x
    cases e1 : look x a with
    | none =>
      cases e2 : look x b with
      | none => exact True.intro
      | some u =>
        obtain ⟨t, ht, _⟩ := h2 x u e2
        rw [e1] at ht
        cases ht
    | some t =>
      obtain ⟨u, hu, s⟩ := h1 x t e1
      rw [hu]
      exact s
  · intro h
    refine ⟨fun x t e => ?_, fun x t e => ?_⟩
    · have := h x
      rw [e] at this
      cases e2 : look x b with
      | none =>
        rw [e2] at this
        exact this.elim
      | some u =>
        rw [e2] at this
        exact ⟨u, rfl, this⟩
    · have := h x
      rw [e] at this
      cases e2 : look x a with
      | none =>
        rw [e2] at this
        exact this.elim
      | some u =>
        rw [e2] at this
        exact ⟨u, rfl, Lw.Sm.symm this⟩
theorem le_U (ha : Wr n a) (hb : Wr n b) : Lw.LeT n a (U a b) ↔ Sm (n + 1) (.fds (Am a b)) (.fds (Am b a)) := by
  rw [sm_ext ha.A.nd hb.A.nd]
  constructor
  · intro h x
    rw [look_A, look_A]
    cases e1 : look x a with
    | none => cases e2 : look x b <;> exact True.intro
    | some t =>
      cases e2 : look x b with
      | none => exact True.intro
      | some u =>
        obtain ⟨v, hv, s⟩ := h x t e1
        rw [look_U hb.nd, e2] at hv
        cases hv
        exact s
  · intro h x t e
    have := h x
    rw [look_A, look_A, e] at this
    cases e2 : look x b with
    | none => exact ⟨t, by rw [look_U hb.nd, e2, e]; rfl, ha.rf x t e⟩
    | some u =>
      rw [e2] at this
      exact ⟨u, by rw [look_U hb.nd, e2]; rfl, this⟩
theorem A_nil (h : ∀ x, look x a ≠ none → look x b = none) : (Am a b).length = 0 := by
  cases e : Am a b with
  | nil => rfl
  | cons p r =>
    have hm : p.1 ∈ names (Am a b) := by
      rw [e]
      exact List.mem_cons_self
    have h1 := mem_look_iff.mp hm
    rw [look_A] at h1
    split at h1
    · rename_i c
      have : look p.1 b = none := h p.1 fun z => by
        rw [z] at h1
        cases h1
      rw [this] at c
      cases c
    · cases h1
theorem A_pos (h : ∃ x, look x a ≠ none ∧ look x b ≠ none) : (Am a b).length ≠ 0 := fun e => by
  obtain ⟨x, h1, h2⟩ := h
  have en : Am a b = [] := List.eq_nil_of_length_eq_zero e
  have : look x (Am a b) = none := by
    rw [en]
    rfl
  rw [look_A] at this
  cases e2 : look x b with
  | none => exact h2 e2
  | some u =>
    rw [e2] at this
    exact h1 this
end
end GrT
namespace Lw
open PySem PySem.Spec PyProof.Rows L2 GrT GrOwn Qd
theorem look_E {x : Str} : look x ([] : List (Str × T)) = none := rfl
theorem ne_false {i j : Int} (h : i = j) : (!decide (V.int i = V.int j)) = false := by
  rw [h, decide_eq_true rfl]
  rfl
theorem neb_false {b c : Bool} (h : b = true ↔ c = true) : (!decide (V.bl b = V.bl c)) = false := by
  rw [Bool.eq_iff_iff.mpr h, decide_eq_true rfl]
  rfl
theorem exB (p : Prop) : ∃ b : Bool, b = true ↔ p := by
  by_cases h : p
  · exact ⟨true, fun _ => h, fun _ => rfl⟩
  · exact ⟨false, (fun e => nomatch e), fun z => absurd z h⟩
theorem wr_of {C : Addr} {H : Hp} {n : Nat} {a : Addr} {fs : List (Str × T)} (h : Rc All C H (n + 1) (.ref a) (.fds fs)) : Wr n fs := by
  obtain ⟨l, ra, wf, pm, ch⟩ := Rc.out h
  refine ⟨wf.nd, fun x t ht => ?_⟩
  obtain ⟨v, hv⟩ := look_some (pm.mem_iff.mpr (List.mem_map.mpr ⟨_, look_mem ht, rfl⟩))
  exact Rc.one (ch x v t hv ht) (ch x v t hv ht)
theorem ev_c {v : V} {σ : L2.St} {H : Hp} : EvV (tC v) σ H v := fun H1 s1 Q k => k H1 (Same.refl _)
theorem ev_isN {i : Nat} {x : V} {σ : L2.St} {H : Hp} (h : σ[i]? = some (some x)) : EvV (tIsN (tVar i)) σ H (.bl (decide (x = .non))) := fun H1 s1 Q k => ⟨x, h, k H1 (Same.refl _)⟩
theorem nn1 {r : Addr} {k : Nat} (h : k = 0) : decide (V.bl (decide (V.ref r = V.non)) = V.bl (decide (V.int (k : Int) = V.int 0))) = false := by
  subst h
  rw [decide_eq_false (fun e : V.ref r = V.non => nomatch e), show decide (V.int ((0 : Nat) : Int) = V.int 0) = true from decide_eq_true rfl]
  exact decide_eq_false (fun e => nomatch e)
theorem nn2 {k : Nat} (h : k ≠ 0) : decide (V.bl (decide (V.non = V.non)) = V.bl (decide (V.int (k : Int) = V.int 0))) = false := by
  rw [decide_eq_true (rfl : V.non = V.non), show decide (V.int (k : Int) = V.int 0) = false from decide_eq_false fun e => h (by have := V.int.inj e; omega)]
  exact decide_eq_false (fun e => nomatch e)
theorem ev_plus {C : Addr} {n : Nat} {σ : L2.St} {H : Hp} {ta tb : TE} {fs gs : List (Str × T)} (ha : Ev C n ta σ H fs) (hb : Ev C n tb σ H gs) (hl : fs.length + gs.length ≤ 40) (hd : ∀ x, look x fs ≠ none → look x gs = none) :
    Ev C n (tCall (spPlusN C n) [] E0 (tCons ta (tCons tb tNil))) σ H (U fs gs) := fun H1 s1 Q k =>
  ha H1 s1 _ fun r H2 rr s2 => hb H2 (s1.trans s2) _ fun r' H3 rr' s3 => ⟨r, r', fs, gs, rfl, rr.same s3, rr', hl, fun _ q H4 rq s4 => k q H4 rq ((s2.trans s3).trans s4), fun ⟨x, h1, h2⟩ => absurd (hd x h1) h2⟩
theorem skip_if {c : TT} {t v : TS} {D : Ends} {σ : L2.St} {H Hb : Hp} (h : EvT c σ Hb false) (s : Same Hb H) (k : ∀ H2, Same H H2 → v D σ H2) : tSeq (tIfS c t tNext) v D σ H := h H s _ fun H2 s2 => iteF (k H2 s2)
def spPairN (C : Addr) : Sp := fun vs H Q _ => ∃ (a b : Addr) (fs gs : List (Str × T)), vs = [.ref a, .ref b] ∧ Rc All C H 2 (.ref a) (.fds fs) ∧ Rc All C H 2 (.ref b) (.fds gs) ∧ fs.length ≤ 6 ∧ gs.length ≤ 6 ∧ ∀ H', Same H H' → Q (.bl true) H'
section
variable {P : Program} {w : World} {K : PySem.W.Frag} {mg : Str → Option Value} {base : Heap} {C : Addr}
theorem scPair : FnScope ["r", "s", "empty", "both"] ["r", "s"] (defScope sPair) := ⟨rfl, rfl, rfl, by decide +kernel, rfl, by decide +kernel, by decide +kernel⟩
theorem c_pair (T : Bu mg) (R : RecK K mg C) (sf : PySem.W.selfFirst K C = true) (hn : PySem.W.findIn K (.ref C) "__ne__" = some (some (.builtin "object.__ne__"))) (s_make : SCal P w K mg base C 7 (spMake C 1)) (M : EqM P w K mg base C 4 1) (m_le : MthX P w K mg base CX0 C 3 "__le__" (spLeR C 1))
    (m_or : MthX P w K mg base CX0 C 6 "__or__" (spOr C 1)) (m_sub : MthX P w K mg base CX0 C 6 "__sub__" (spPart C 1 false)) (m_and : MthX P w K mg base CX0 C 6 "__and__" (spPart C 1 true)) (m_len : Mth P w K mg base C 1 "__len__" (spLen C))
    (c_plus : Cal P w K mg base 8 "_law_plus" (spPlusN C 1)) (D : Dfn K mg "_law_pair" sPair ["r", "s"]) : Cal P w K mg base 9 "_law_pair" (spPairN C) := by
  refine D.cal scPair (fun vs H Q E h => ?_) (fun f cdv A outer s H vs Q E hr h => ?_)
  · obtain ⟨a, b, fs, gs, rfl, _⟩ := h
    rfl
  · obtain ⟨a, b, fs, gs, rfl, ra, rb, la, lb, q⟩ := h
    let px : ∀ {X : Cx} (σ : L2.St), PassesAt CX0 X σ E0 := fun σ pins H s e s' I h => pass0 pins σ H s e s' I h
    refine ⟨_, (pss_cons (ps_set (i := 2) scPair.nd rfl (Or.inl rfl) (pe_smC (pe_glob (by rfl) R.mgC (v := .ref C) rfl) s_make hr (by decide) (pa_cons pe_dnewK pa_nil)))
      (pss_cons (ps_if (PW.pt (pw_or (pt_cmpR (op_neRec R hn M hr (by decide)) (pe_binX (E := fun _ => E0) m_or d_or sf hr (by decide) px (pe_binX (E := fun _ => E0) m_sub d_sub sf hr (by decide) px (pv 0) (pv 1)) (pe_binX (E := fun _ => E0) m_and d_and sf hr (by decide) px (pv 0) (pv 1))) (pv 0) (nomark _)) (pw_or1 (pt_cmpR (op_neRec R hn M hr (by decide)) (pe_binX (E := fun _ => E0) m_or d_or sf hr (by decide) px (pv 0) (pv 1)) (pe_binX (E := fun _ => E0) m_or d_or sf hr (by decide) px (pe_binX (E := fun _ => E0) m_or d_or sf hr (by decide) px (pe_binX (E := fun _ => E0) m_sub d_sub sf hr (by decide) px (pv 1) (pv 0)) (pe_binX (E := fun _ => E0) m_sub d_sub sf hr (by decide) px (pv 0) (pv 1))) (pv 1)) (nomark _))))) (pss_one (ps_ret pe_bl)) pss_nil)
      (pss_cons (ps_if (PW.pt (pw_or (pt_cmpR (op_neRec R hn M hr (by decide)) (pe_binX (E := fun _ => E0) m_and d_and sf hr (by decide) px (pe_binX (E := fun _ => E0) m_sub d_sub sf hr (by decide) px (pv 0) (pv 1)) (pv 1)) (pv 2) (nomark _)) (pw_or (pt_cmpR (op_neRec R hn M hr (by decide)) (pe_binX (E := fun _ => E0) m_sub d_sub sf hr (by decide) px (pe_binX (E := fun _ => E0) m_and d_and sf hr (by decide) px (pv 0) (pv 1)) (pv 1)) (pv 2) (nomark _)) (pw_or (pt_cmpR (op_neRec R hn M hr (by decide)) (pe_binX (E := fun _ => E0) m_sub d_sub sf hr (by decide) px (pe_binX (E := fun _ => E0) m_sub d_sub sf hr (by decide) px (pv 0) (pv 1)) (pv 1)) (pe_binX (E := fun _ => E0) m_sub d_sub sf hr (by decide) px (pv 0) (pv 1)) (nomark _)) (pw_or1 (pt_cmpR (op_neRec R hn M hr (by decide)) (pe_binX (E := fun _ => E0) m_and d_and sf hr (by decide) px (pe_binX (E := fun _ => E0) m_and d_and sf hr (by decide) px (pv 0) (pv 1)) (pv 1)) (pe_binX (E := fun _ => E0) m_and d_and sf hr (by decide) px (pv 0) (pv 1)) (nomark _))))))) (pss_one (ps_ret pe_bl)) pss_nil)
      (pss_cons (ps_if (PW.pt (pw_or (pt_cmpR op_ne (pe_op op_add (pe_callB (call_lenM m_len hr (by decide)) (by rfl) T.b_len PySem.boot_len (pa_cons (pe_binX (E := fun _ => E0) m_sub d_sub sf hr (by decide) px (pv 0) (pv 1)) pa_nil)) (pe_callB (call_lenM m_len hr (by decide)) (by rfl) T.b_len PySem.boot_len (pa_cons (pe_binX (E := fun _ => E0) m_and d_and sf hr (by decide) px (pv 0) (pv 1)) pa_nil))) (pe_callB (call_lenM m_len hr (by decide)) (by rfl) T.b_len PySem.boot_len (pa_cons (pv 0) pa_nil)) (nomark _)) (pw_or1 (pt_cmpR op_ne (pe_callB (call_lenM m_len hr (by decide)) (by rfl) T.b_len PySem.boot_len (pa_cons (pe_binX (E := fun _ => E0) m_or d_or sf hr (by decide) px (pv 0) (pv 1)) pa_nil)) (pe_op op_add (pe_callB (call_lenM m_len hr (by decide)) (by rfl) T.b_len PySem.boot_len (pa_cons (pe_binX (E := fun _ => E0) m_sub d_sub sf hr (by decide) px (pv 0) (pv 1)) pa_nil)) (pe_callB (call_lenM m_len hr (by decide)) (by rfl) T.b_len PySem.boot_len (pa_cons (pv 1) pa_nil))) (nomark _))))) (pss_one (ps_ret pe_bl)) pss_nil)
      (pss_cons (ps_if (PW.pt (pw_or (pt_not (pt_cmpR (op_leRec m_le hr (by decide)) (pe_binX (E := fun _ => E0) m_sub d_sub sf hr (by decide) px (pv 0) (pv 1)) (pv 0) (nomark _))) (pw_or (pt_not (pt_cmpR (op_leRec m_le hr (by decide)) (pe_binX (E := fun _ => E0) m_and d_and sf hr (by decide) px (pv 0) (pv 1)) (pv 0) (nomark _))) (pw_or (pt_not (pt_cmpR (op_leRec m_le hr (by decide)) (pv 1) (pe_binX (E := fun _ => E0) m_or d_or sf hr (by decide) px (pv 0) (pv 1)) (nomark _))) (pw_or1 (pt_not (pt_cmpR (op_leRec m_le hr (by decide)) (pv 2) (pv 0) (nomark _)))))))) (pss_one (ps_ret pe_bl)) pss_nil)
      (pss_cons (ps_if (PW.pt (pw_or (pt_cmpR op_ne (pe_and (pe_cmpR (op_leRec m_le hr (by decide)) (pv 0) (pv 1) (nomark _)) (pe_one (pe_cmpR (op_leRec m_le hr (by decide)) (pv 1) (pv 0) (nomark _)))) (pe_cmpR (op_eqRec R M hr (by decide)) (pv 0) (pv 1) (nomark _)) (by rfl)) (pw_or1 (pt_cmpR op_ne (pe_cmpR (op_leRec m_le hr (by decide)) (pv 0) (pe_binX (E := fun _ => E0) m_or d_or sf hr (by decide) px (pv 0) (pv 1)) (nomark _)) (pe_cmpR (op_eqRec R M hr (by decide)) (pe_binX (E := fun _ => E0) m_and d_and sf hr (by decide) px (pv 0) (pv 1)) (pe_binX (E := fun _ => E0) m_and d_and sf hr (by decide) px (pv 1) (pv 0)) (nomark _)) (by rfl))))) (pss_one (ps_ret pe_bl)) pss_nil)
      (pss_cons (ps_set (i := 3) scPair.nd rfl (Or.inl rfl) (pe_c c_plus hr (by decide) rfl (pa_cons (pv 0) (pa_cons (pv 1) pa_nil))))
      (pss_cons (ps_if (pt_cmpR op_eq (pe_cmp (pc_isN (pv 3))) (pe_cmpR op_eq (pe_callB (call_lenM m_len hr (by decide)) (by rfl) T.b_len PySem.boot_len (pa_cons (pe_binX (E := fun _ => E0) m_and d_and sf hr (by decide) px (pv 0) (pv 1)) pa_nil)) pe_int (nomark _)) (by rfl)) (pss_one (ps_ret pe_bl)) pss_nil)
      (pss_one (ps_ret (pe_or (pe_cmp (pc_isN (pv 3))) (pe_one (pe_and (pe_cmpR (op_eqRec R M hr (by decide)) (pv 3) (pe_binX (E := fun _ => E0) m_or d_or sf hr (by decide) px (pv 0) (pv 1)) (nomark _)) (pe_one (pe_cmpR (op_eqRec R M hr (by decide)) (pv 3) (pe_c c_plus hr (by decide) rfl (pa_cons (pv 1) (pa_cons (pv 0) pa_nil))) (nomark _)))))))))))))))), ?_⟩
    have wR := wr_of ra
    have wS := wr_of rb
    have wE : Wr 1 [] := Wr.nil
    have := len_A (a := (Am fs gs)) (b := gs)
    have := len_A (a := (Dm fs gs)) (b := gs)
    have := len_A (a := fs) (b := gs)
    have := len_A (a := gs) (b := fs)
    have := len_D (a := (Am fs gs)) (b := gs)
    have := len_D (a := (Dm fs gs)) (b := gs)
    have := len_D (a := fs) (b := gs)
    have := len_D (a := gs) (b := fs)
    have := len_U (a := (Dm fs gs)) (b := (Am fs gs))
    have := len_U (a := (Dm gs fs)) (b := (Dm fs gs))
    have := len_U (a := (U (Dm gs fs) (Dm fs gs))) (b := gs)
    have := len_U (a := fs) (b := gs)
    refine ⟨rfl, fun D0 hD => ⟨.ref D0, (· = D0), [], rfl, .inr ⟨D0, [], [], rfl, rfl, rfl, upd_same, ⟨List.nodup_nil, Nat.zero_le _, fun p hp => by cases hp⟩, .nil⟩, fun ve H1 re s1' => ?_⟩⟩
    have s1 : Same H H1 := (Same.new (Same.refl _) hD).trans s1'
    have re1 : Rc All C H1 2 ve (.fds []) := re.wid fun _ _ => True.intro
    obtain ⟨ae, rfl⟩ : ∃ ae, ve = .ref ae := re1.cases (fun i _ e => by cases e) fun k a l fs' _ e1 _ _ _ _ _ => ⟨a, e1⟩
    have eR : Ev C 1 (tVar 0) ((start ["r", "s", "empty", "both"] [V.ref a, V.ref b]).set 2 (some (V.ref ae))) H1 fs := ev_var rfl (ra.same s1)
    have eS : Ev C 1 (tVar 1) ((start ["r", "s", "empty", "both"] [V.ref a, V.ref b]).set 2 (some (V.ref ae))) H1 gs := ev_var rfl (rb.same s1)
    have eE : Ev C 1 (tVar 2) ((start ["r", "s", "empty", "both"] [V.ref a, V.ref b]).set 2 (some (V.ref ae))) H1 [] := ev_var rfl re1
    obtain ⟨b1, h1⟩ := exB (LeT 1 fs gs)
    obtain ⟨b2, h2⟩ := exB (LeT 1 gs fs)
    obtain ⟨b3, h3⟩ := exB (GrT.Sm 2 (.fds fs) (.fds gs))
    obtain ⟨b4, h4⟩ := exB (LeT 1 fs (U fs gs))
    obtain ⟨b5, h5⟩ := exB (GrT.Sm 2 (.fds (Am fs gs)) (.fds (Am gs fs)))
    have e0 : ((start ["r", "s", "empty", "both"] [V.ref a, V.ref b]).set 2 (some (V.ref ae)))[0]? = some (some (V.ref a)) := rfl
    have e1 : ((start ["r", "s", "empty", "both"] [V.ref a, V.ref b]).set 2 (some (V.ref ae)))[1]? = some (some (V.ref b)) := rfl
    refine skip_if (et_or (et_test (ev_ne (ev_or (E := fun _ => E0) (ev_sub (E := fun _ => E0) eR eS) (ev_and (E := fun _ => E0) eR eS) (by omega)) eR (sm_of (Wr.U (Wr.D wR) (Wr.A wR)) wR (by intro x; simp only [look_U (x := x) (Wr.A wR).nd, look_U (x := x) (Wr.D wR).nd, look_U (x := x) wS.nd, look_D, look_A, look_E]; cases look x fs <;> cases look x gs <;> simp)))) (et_test (ev_ne (ev_or (E := fun _ => E0) eR eS (by omega)) (ev_or (E := fun _ => E0) (ev_or (E := fun _ => E0) (ev_sub (E := fun _ => E0) eS eR) (ev_sub (E := fun _ => E0) eR eS) (by omega)) eS (by omega)) (sm_of (Wr.U wR wS) (Wr.U (Wr.U (Wr.D wS) (Wr.D wR)) wS) (by intro x; simp only [look_U (x := x) (Wr.A wR).nd, look_U (x := x) (Wr.D wR).nd, look_U (x := x) wS.nd, look_D, look_A, look_E]; cases look x fs <;> cases look x gs <;> simp))))) (Same.refl _) (fun H2 s2 => ?_)
    refine skip_if (et_or (et_test (ev_ne (ev_and (E := fun _ => E0) (ev_sub (E := fun _ => E0) eR eS) eS) eE (sm_of (Wr.A (Wr.D wR)) wE (by intro x; simp only [look_U (x := x) (Wr.A wR).nd, look_U (x := x) (Wr.D wR).nd, look_U (x := x) wS.nd, look_D, look_A, look_E]; cases look x fs <;> cases look x gs <;> simp)))) (et_or (et_test (ev_ne (ev_sub (E := fun _ => E0) (ev_and (E := fun _ => E0) eR eS) eS) eE (sm_of (Wr.D (Wr.A wR)) wE (by intro x; simp only [look_U (x := x) (Wr.A wR).nd, look_U (x := x) (Wr.D wR).nd, look_U (x := x) wS.nd, look_D, look_A, look_E]; cases look x fs <;> cases look x gs <;> simp)))) (et_or (et_test (ev_ne (ev_sub (E := fun _ => E0) (ev_sub (E := fun _ => E0) eR eS) eS) (ev_sub (E := fun _ => E0) eR eS) (sm_of (Wr.D (Wr.D wR)) (Wr.D wR) (by intro x; simp only [look_U (x := x) (Wr.A wR).nd, look_U (x := x) (Wr.D wR).nd, look_U (x := x) wS.nd, look_D, look_A, look_E]; cases look x fs <;> cases look x gs <;> simp)))) (et_test (ev_ne (ev_and (E := fun _ => E0) (ev_and (E := fun _ => E0) eR eS) eS) (ev_and (E := fun _ => E0) eR eS) (sm_of (Wr.A (Wr.A wR)) (Wr.A wR) (by intro x; simp only [look_U (x := x) (Wr.A wR).nd, look_U (x := x) (Wr.D wR).nd, look_U (x := x) wS.nd, look_D, look_A, look_E]; cases look x fs <;> cases look x gs <;> simp))))))) s2 (fun H3 s3 => ?_)
    have s13 := s2.trans s3
    refine skip_if (et_or (et_test (ev_neV (ev_add (ev_len (ev_sub (E := fun _ => E0) eR eS) (by omega)) (ev_len (ev_and (E := fun _ => E0) eR eS) (by omega))) (ev_len eR (by omega)) rfl (ne_false (by have := len_DA (b := gs) fs; omega)))) (et_test (ev_neV (ev_len (ev_or (E := fun _ => E0) eR eS (by omega)) (by omega)) (ev_add (ev_len (ev_sub (E := fun _ => E0) eR eS) (by omega)) (ev_len eS (by omega))) rfl (ne_false (by have := len_UD wR.nd wS.nd; omega))))) s13 (fun H4 s4 => ?_)
    have s14 := s13.trans s4
    refine skip_if (et_or (et_not (et_test (ev_le (b := true) (ev_sub (E := fun _ => E0) eR eS) eR (iff_of_true rfl (le_of (Wr.D wR) (by intro x t h; rw [look_D] at h; split at h; exact h; cases h)))))) (et_or (et_not (et_test (ev_le (b := true) (ev_and (E := fun _ => E0) eR eS) eR (iff_of_true rfl (le_of (Wr.A wR) (by intro x t h; rw [look_A] at h; split at h; exact h; cases h)))))) (et_or (et_not (et_test (ev_le (b := true) eS (ev_or (E := fun _ => E0) eR eS (by omega)) (iff_of_true rfl (le_of wS (by intro x t h; rw [look_U wS.nd, h]; rfl)))))) (et_not (et_test (ev_le (b := true) eE eR (iff_of_true rfl (le_of wE (by intro x t h; cases h))))))))) s14 (fun H5 s5 => ?_)
    have s15 := s14.trans s5
    refine skip_if (et_or (et_test (ev_neV (ev_andV (ev_le eR eS h1) (ev_le eS eR h2)) (ev_eq eR eS h3) rfl (neb_false (by rw [Bool.and_eq_true, h1, h2, h3]; exact le_le wR wS)))) (et_test (ev_neV (ev_le eR (ev_or (E := fun _ => E0) eR eS (by omega)) h4) (ev_eq (ev_and (E := fun _ => E0) eR eS) (ev_and (E := fun _ => E0) eS eR) h5) rfl (neb_false (by rw [h4, h5]; exact le_U wR wS))))) s15 (fun H6 s6 => ?_)
    have s06 := s1.trans (s15.trans s6)
    refine ⟨_, e0, _, e1, a, b, fs, gs, rfl, ra.same s06, rb.same s06, by omega, fun hdis r3 H7 rr s7 => ?_, fun hcom H7 s7 => ?_⟩
    · have s07 := s06.trans s7
      have eR7 : Ev C 1 (tVar 0) (((start ["r", "s", "empty", "both"] [V.ref a, V.ref b]).set 2 (some (V.ref ae))).set 3 (some (V.ref r3))) H7 fs := ev_var rfl (ra.same s07)
      have eS7 : Ev C 1 (tVar 1) (((start ["r", "s", "empty", "both"] [V.ref a, V.ref b]).set 2 (some (V.ref ae))).set 3 (some (V.ref r3))) H7 gs := ev_var rfl (rb.same s07)
      have e3 : (((start ["r", "s", "empty", "both"] [V.ref a, V.ref b]).set 2 (some (V.ref ae))).set 3 (some (V.ref r3)))[3]? = some (some (V.ref r3)) := rfl
      have eB7 : Ev C 1 (tVar 3) (((start ["r", "s", "empty", "both"] [V.ref a, V.ref b]).set 2 (some (V.ref ae))).set 3 (some (V.ref r3))) H7 (U fs gs) := ev_var e3 rr
      refine skip_if (et_test (ev_eqV (ev_isN e3) (ev_eqV (ev_len (ev_and (E := fun _ => E0) eR7 eS7) (by omega)) ev_c rfl rfl) rfl (nn1 (A_nil hdis)))) (Same.refl _) (fun H8 s8 => ?_)
      have hdis2 : ∀ x, look x gs ≠ none → look x fs = none := fun x hx => by
        cases e : look x fs with
        | none => rfl
        | some t => exact absurd (hdis x (by rw [e]; exact fun z => nomatch z)) hx
      have sw : GrT.Sm 2 (.fds (U fs gs)) (.fds (U gs fs)) := sm_of (Wr.U wR wS) (Wr.U wS wR) (fun x => by
        rw [look_U wS.nd, look_U wR.nd]
        cases e : look x fs with
        | none => cases look x gs <;> rfl
        | some t => rw [hdis x (by rw [e]; exact fun z => nomatch z)]; rfl)
      have fin := ev_orV (ev_isN e3) (ev_andV (ev_eq (b := true) eB7 (ev_or (E := fun _ => E0) eR7 eS7 (by omega)) (iff_of_true rfl (sm_of (Wr.U wR wS) (Wr.U wR wS) fun x => rfl))) (ev_eq (b := true) eB7 (ev_plus eS7 eR7 (by omega) hdis2) (iff_of_true rfl sw)))
      rw [show (decide (V.ref r3 = V.non) || (true && true)) = true from by simp] at fin
      exact fin H8 s8 _ fun H9 s9 => q H9 ((s07.trans s8).trans s9)
    · have s07 := s06.trans s7
      have eR7 : Ev C 1 (tVar 0) (((start ["r", "s", "empty", "both"] [V.ref a, V.ref b]).set 2 (some (V.ref ae))).set 3 (some V.non)) H7 fs := ev_var rfl (ra.same s07)
      have eS7 : Ev C 1 (tVar 1) (((start ["r", "s", "empty", "both"] [V.ref a, V.ref b]).set 2 (some (V.ref ae))).set 3 (some V.non)) H7 gs := ev_var rfl (rb.same s07)
      have e3 : (((start ["r", "s", "empty", "both"] [V.ref a, V.ref b]).set 2 (some (V.ref ae))).set 3 (some V.non))[3]? = some (some V.non) := rfl
      refine skip_if (et_test (ev_eqV (ev_isN e3) (ev_eqV (ev_len (ev_and (E := fun _ => E0) eR7 eS7) (by omega)) ev_c rfl rfl) rfl (nn2 (A_pos hcom)))) (Same.refl _) (fun H8 s8 => ?_)
      refine ⟨V.non, e3, true, by rw [decide_eq_true rfl], iteT (q H8 (s07.trans s8))⟩
end
end Lw
namespace Lw
open PySem PySem.Spec PyProof.Rows L2 GrT GrOwn GrMg Qd
theorem Fx.fresh {p : Addr} {H H1 H2 : Hp} (h : H p = none) (s : Same H H1) (x : Fx p H1 H2) : Same H H2 := fun b o e => x b o (fun z => by
  rw [z, h] at e
  cases e) (s b o e)
theorem Tape.same {H H' : Hp} {p : Addr} (t : Tape H p) (s : Same H H') : Tape H' p := by
  obtain ⟨z, f1, f2⟩ := t
  exact ⟨z, s _ _ f1, f2⟩
theorem Rc.ref' {S : Addr → Prop} {C : Addr} {H : Hp} {n : Nat} {v : V} {fs : List (Str × T)} (h : Rc S C H n v (.fds fs)) : ∃ a, v = .ref a :=
  h.cases (fun i _ e => by cases e) fun k a l fs' _ e1 _ _ _ _ _ => ⟨a, e1⟩
theorem Tr.ln {S : Addr → Prop} {H : Hp} {L n : Nat} {v : V} {fs : List (Str × T)} (h : Tr S H L n v (.fds fs)) : fs.length ≤ L :=
  h.cases (fun i _ e => by cases e) fun k a l fs' en e1 e2 sa ea wf al => by
    cases e2
    exact wf.ln
theorem ev_pair {C : Addr} {σ : L2.St} {H : Hp} {ta tb : TE} {fs gs : List (Str × T)} (ha : Ev C 1 ta σ H fs) (hb : Ev C 1 tb σ H gs) (la : fs.length ≤ 6) (lb : gs.length ≤ 6) : EvV (tCall (spPairN C) [] E0 (tCons ta (tCons tb tNil))) σ H (.bl true) := fun H1 s1 Q k =>
  ha H1 s1 _ fun r H2 rr s2 => hb H2 (s1.trans s2) _ fun r' H3 rr' s3 => ⟨r, r', fs, gs, rfl, rr.same s3, rr', la, lb, fun H4 s4 => k H4 ((s2.trans s3).trans s4)⟩
theorem skip_last {c : TT} {t : TS} {D : Ends} {σ : L2.St} {H Hb : Hp} (h : EvT c σ Hb false) (s : Same Hb H) (k : ∀ H2, Same H H2 → D.nx σ H2) : tIfS c t tNext D σ H := h H s _ fun H2 s2 => iteF (k H2 s2)
def spLaw (K : PySem.W.Frag) : Sp := fun vs H Q _ => ∃ (a : Addr) (ns : List Int), vs = [.ref a] ∧ SqL K H a (ns.map V.int) ∧ ns.length ≤ 63 ∧ ∀ H', Q (.bl true) H'
section
variable {P : Program} {w : World} {K : PySem.W.Frag} {mg : Str → Option Value} {base : Heap} {C : Addr}
theorem scLaw : FnScope ["script", "k", "tape", "names", "r", "s", "t", "choice"] ["script"] (defScope sLaw) := ⟨rfl, rfl, rfl, by decide +kernel, rfl, by decide +kernel, by decide +kernel⟩
theorem fn_law (T : Bu mg) (bm : mg "min" = none) (R : RecK K mg C) (sf : PySem.W.selfFirst K C = true) (hn : PySem.W.findIn K (.ref C) "__ne__" = some (some (.builtin "object.__ne__"))) (M : EqM P w K mg base C 4 1)
    (m_or : MthX P w K mg base CX0 C 6 "__or__" (spOr C 1)) (m_sub : MthX P w K mg base CX0 C 6 "__sub__" (spPart C 1 false)) (m_and : MthX P w K mg base CX0 C 6 "__and__" (spPart C 1 true))
    (c_law_cell : Cal P w K mg base 1 "_law_cell" (spCell K)) (c_law_tape : Cal P w K mg base 2 "_law_tape" spTape) (c_law_take : Cal P w K mg base 1 "_law_take" spTake) (c_law_pool : Cal P w K mg base 4 "_law_pool" spPool) (c_law_fields : Cal P w K mg base 5 "_law_fields" (spFields 1))
    (s_make : SCal P w K mg base C 7 (spMake C 1)) (c_pair : Cal P w K mg base 9 "_law_pair" (spPairN C)) {f : Addr} {fd : FuncData} (F : L2.Fun K "law" "law" sLaw f fd) : FnOk P w K mg base CX0 10 f fd ["script"] (spLaw K) := by
  refine F.ok scLaw (fun vs H Q E h => ?_) (fun cdv A outer s H vs Q E hr h => ?_)
  · obtain ⟨a, ns, rfl, _⟩ := h
    rfl
  · obtain ⟨a, ns, rfl, hS, hl, q⟩ := h
    let px : ∀ {X : Cx} (σ : L2.St), PassesAt CX0 X σ E0 := fun σ pins H s e s' I h => pass0 pins σ H s e s' I h
    refine ⟨_, (pss_cons (ps_for PassesOwn.never rfl (pi_range1 (by rfl) T.b_range (pa_cons (pe_callB (call_min2 rfl) (by rfl) bm (by decide +kernel) (pa_cons pe_int (pa_cons (pe_op op_add pe_int (pe_op op_fdiv (pe_callB call_len_seq (by rfl) T.b_len PySem.boot_len (pa_cons (pv 0) pa_nil)) pe_int)) pa_nil))) pa_nil)) (pg_name (i := 1) scLaw.nd rfl (Or.inl rfl))
      (pss_cons (ps_set (i := 2) scLaw.nd rfl (Or.inl rfl) (pe_c c_law_tape hr (by decide) rfl (pa_cons (pe_c c_law_cell hr (by decide) rfl (pa_cons (pv 0) (pa_cons (pe_op op_mul pe_int (pv 1)) pa_nil))) (pa_cons (pe_c c_law_cell hr (by decide) rfl (pa_cons (pv 0) (pa_cons (pe_op op_add (pe_op op_mul pe_int (pv 1)) pe_int) pa_nil))) (pa_cons pe_int pa_nil)))))
      (pss_cons (ps_set (i := 3) scLaw.nd rfl (Or.inl rfl) (pe_c c_law_pool hr (by decide) rfl (pa_cons (pv 2) (pa_cons (pe_op op_add pe_int (pe_c c_law_take hr (by decide) rfl (pa_cons (pv 2) (pa_cons pe_int pa_nil)))) pa_nil))))
      (pss_cons (ps_set (i := 4) scLaw.nd rfl (Or.inl rfl) (pe_smC (pe_glob (by rfl) R.mgC (v := .ref C) rfl) s_make hr (by decide) (pa_cons (pe_c c_law_fields hr (by decide) rfl (pa_cons (pv 2) (pa_cons (pv 3) (pa_cons pe_int pa_nil)))) pa_nil)))
      (pss_cons (ps_set (i := 5) scLaw.nd rfl (Or.inl rfl) (pe_smC (pe_glob (by rfl) R.mgC (v := .ref C) rfl) s_make hr (by decide) (pa_cons (pe_c c_law_fields hr (by decide) rfl (pa_cons (pv 2) (pa_cons (pv 3) (pa_cons pe_int pa_nil)))) pa_nil)))
      (pss_cons (ps_set (i := 6) scLaw.nd rfl (Or.inl rfl) (pe_smC (pe_glob (by rfl) R.mgC (v := .ref C) rfl) s_make hr (by decide) (pa_cons (pe_c c_law_fields hr (by decide) rfl (pa_cons (pv 2) (pa_cons (pv 3) (pa_cons pe_int pa_nil)))) pa_nil)))
      (pss_cons (ps_set (i := 7) scLaw.nd rfl (Or.inl rfl) (pe_op op_mod (pe_callTy call_int1 (by rfl) T.b_int (by decide +kernel) (pa_cons (pe_c c_law_cell hr (by decide) rfl (pa_cons (pv 0) (pa_cons (pe_op op_add (pe_op op_mul pe_int (pv 1)) pe_int) pa_nil))) pa_nil)) pe_int))
      (C8.pss_cut (ps_if (pt_cmpR op_eq (pv 7) pe_int (nomark _)) (pss_one (ps_set (i := 6) scLaw.nd rfl (Or.inl rfl) (pe_binX (E := fun _ => E0) m_and d_and sf hr (by decide) px (pv 4) (pv 6)))) pss_nil)
      (C8.pss_cut (ps_if (pt_cmpR op_eq (pv 7) pe_int (nomark _)) (pss_one (ps_set (i := 6) scLaw.nd rfl (Or.inl rfl) (pe_binX (E := fun _ => E0) m_sub d_sub sf hr (by decide) px (pv 5) (pv 6)))) pss_nil)
      (pss_cons (ps_if (PW.pt (pw_or (pt_not (pt_val (pe_c c_pair hr (by decide) rfl (pa_cons (pv 4) (pa_cons (pv 5) pa_nil))))) (pw_or (pt_not (pt_val (pe_c c_pair hr (by decide) rfl (pa_cons (pv 5) (pa_cons (pv 6) pa_nil))))) (pw_or (pt_not (pt_val (pe_c c_pair hr (by decide) rfl (pa_cons (pv 6) (pa_cons (pv 4) pa_nil))))) (pw_or1 (pt_not (pt_val (pe_c c_pair hr (by decide) rfl (pa_cons (pv 4) (pa_cons (pv 4) pa_nil)))))))))) (pss_one (ps_ret pe_bl)) pss_nil)
      (pss_cons (ps_if (PW.pt (pw_or (pt_cmpR (op_neRec R hn M hr (by decide)) (pe_binX (E := fun _ => E0) m_or d_or sf hr (by decide) px (pe_binX (E := fun _ => E0) m_or d_or sf hr (by decide) px (pv 4) (pv 5)) (pv 6)) (pe_binX (E := fun _ => E0) m_or d_or sf hr (by decide) px (pv 4) (pe_binX (E := fun _ => E0) m_or d_or sf hr (by decide) px (pv 5) (pv 6))) (nomark _)) (pw_or (pt_cmpR (op_neRec R hn M hr (by decide)) (pe_binX (E := fun _ => E0) m_and d_and sf hr (by decide) px (pe_binX (E := fun _ => E0) m_and d_and sf hr (by decide) px (pv 4) (pv 5)) (pv 6)) (pe_binX (E := fun _ => E0) m_and d_and sf hr (by decide) px (pv 4) (pe_binX (E := fun _ => E0) m_and d_and sf hr (by decide) px (pv 5) (pv 6))) (nomark _)) (pw_or1 (pt_cmpR (op_neRec R hn M hr (by decide)) (pe_binX (E := fun _ => E0) m_sub d_sub sf hr (by decide) px (pe_binX (E := fun _ => E0) m_sub d_sub sf hr (by decide) px (pv 4) (pv 5)) (pv 6)) (pe_binX (E := fun _ => E0) m_sub d_sub sf hr (by decide) px (pv 4) (pe_binX (E := fun _ => E0) m_or d_or sf hr (by decide) px (pv 5) (pv 6))) (nomark _)))))) (pss_one (ps_ret pe_bl)) pss_nil)
      (pss_one (ps_if (PW.pt (pw_or (pt_cmpR (op_neRec R hn M hr (by decide)) (pe_binX (E := fun _ => E0) m_sub d_sub sf hr (by decide) px (pe_binX (E := fun _ => E0) m_or d_or sf hr (by decide) px (pv 4) (pv 5)) (pv 6)) (pe_binX (E := fun _ => E0) m_or d_or sf hr (by decide) px (pe_binX (E := fun _ => E0) m_sub d_sub sf hr (by decide) px (pv 4) (pv 6)) (pe_binX (E := fun _ => E0) m_sub d_sub sf hr (by decide) px (pv 5) (pv 6))) (nomark _)) (pw_or1 (pt_cmpR (op_neRec R hn M hr (by decide)) (pe_binX (E := fun _ => E0) m_and d_and sf hr (by decide) px (pe_binX (E := fun _ => E0) m_or d_or sf hr (by decide) px (pv 4) (pv 5)) (pv 6)) (pe_binX (E := fun _ => E0) m_or d_or sf hr (by decide) px (pe_binX (E := fun _ => E0) m_and d_and sf hr (by decide) px (pv 4) (pv 6)) (pe_binX (E := fun _ => E0) m_and d_and sf hr (by decide) px (pv 5) (pv 6))) (nomark _))))) (pss_one (ps_ret pe_bl)) pss_nil)))))))))))))
      (pss_one (ps_ret pe_bl))), ?_⟩
    have hm : ∀ z : Int, z = (if 1 + ((ns.map V.int).length : Int) / 3 < 10 then 1 + ((ns.map V.int).length : Int) / 3 else 10) → 0 ≤ z ∧ z ≤ 10 := fun z e => by
      split at e <;> omega
    refine ⟨_, rfl, a, _, rfl, .inl hS, _, _, rfl, rfl, ⟨by decide, by decide⟩, _, _, rfl, rfl, _, _, rfl, ?_⟩
    generalize hz : (if 1 + ((ns.map V.int).length : Int) / 3 < 10 then 1 + ((ns.map V.int).length : Int) / 3 else 10) = z
    have hz2 := hm z hz.symm
    refine ⟨z, rfl, by omega, by omega, for_range (lo := 0) (n := z.toNat) (fun i σ H' => ∃ (kv tv nv rv sv uv cv : Option V), σ = [some (.ref a), kv, tv, nv, rv, sv, uv, cv] ∧ Same H H')
      ⟨none, none, none, none, none, none, none, rfl, Same.refl _⟩ ?_ ?_⟩
    · rintro i σ H0 hi ⟨kv, tv, nv, rv, sv, uv, cv, rfl, s0⟩
      have hS0 := s0.seq hS
      refine ⟨_, rfl, _, rfl, _, _, rfl, rfl, .inl ⟨by decide, by decide⟩, a, ns, _, rfl, hS0, by omega, fun g => ?_⟩
      refine ⟨_, rfl, _, rfl, _, _, rfl, rfl, .inl ⟨by decide, by decide⟩, _, _, rfl, rfl, a, ns, _, rfl, hS0, by omega, fun g2 => ?_⟩
      refine ⟨g, g2, 240, rfl, by decide, by decide, fun p H1 hp tp1 s1 => ?_⟩
      have s01 := s0.trans s1
      have hp0 : H p = none := s0.free hp
      refine ⟨_, rfl, _, rfl, p, 6, rfl, tp1, by decide, fun c H2 c0 c1 x2 t2 => ⟨_, _, rfl, rfl, ?_⟩⟩
      refine ⟨p, _, rfl, t2, by omega, by omega, fun W ws H3 hW eW wl wn x3 t3 => ?_⟩
      have Wp : W ≠ p := t2.ne'' hW
      have s03 : Same H H3 := Fx.fresh hp0 s01 (x2.trans x3)
      refine ⟨rfl, _, rfl, _, rfl, p, W, ws, rfl, t3, eW, Wp, by omega, by omega, wn, fun D1 fs H4 r4 x4 t4 => ?_⟩
      have lf := Tr.ln r4
      refine ⟨.ref D1, _, fs, rfl, r4.mono (Nat.le_refl _) (by decide), fun v1 H5 rr1 s5 => ?_⟩
      have rc1 : Rc All C H5 2 v1 (.fds fs) := rr1.wid fun _ _ => True.intro
      obtain ⟨ra, rfl⟩ := Lw.Rc.ref' rc1
      have s05 := (Fx.fresh hp0 s03 x4).trans s5
      have eW5 := s5 _ _ (x4 _ _ Wp eW)
      have t5 := Tape.same t4 s5
      refine ⟨rfl, _, rfl, _, rfl, p, W, ws, rfl, t5, eW5, Wp, by omega, by omega, wn, fun D2 gs H6 r6 x6 t6 => ?_⟩
      have lg := Tr.ln r6
      refine ⟨.ref D2, _, gs, rfl, r6.mono (Nat.le_refl _) (by decide), fun v2 H7 rr2 s7 => ?_⟩
      have rc2 : Rc All C H7 2 v2 (.fds gs) := rr2.wid fun _ _ => True.intro
      obtain ⟨sa, rfl⟩ := Lw.Rc.ref' rc2
      have s07 := (Fx.fresh hp0 s05 x6).trans s7
      have eW7 := s7 _ _ (x6 _ _ Wp eW5)
      have t7 := Tape.same t6 s7
      have rc17 : Rc All C H7 2 (.ref ra) (.fds fs) := (Rc.fx rc1 t5 x6).same s7
      refine ⟨rfl, _, rfl, _, rfl, p, W, ws, rfl, t7, eW7, Wp, by omega, by omega, wn, fun D3 ts0 H8 r8 x8 t8 => ?_⟩
      have lt := Tr.ln r8
      refine ⟨.ref D3, _, ts0, rfl, r8.mono (Nat.le_refl _) (by decide), fun v3 H9 rr3 s9 => ?_⟩
      have rc3 : Rc All C H9 2 v3 (.fds ts0) := rr3.wid fun _ _ => True.intro
      obtain ⟨ua, rfl⟩ := Lw.Rc.ref' rc3
      have s09 := (Fx.fresh hp0 s07 x8).trans s9
      have rc19 : Rc All C H9 2 (.ref ra) (.fds fs) := (Rc.fx rc17 t7 x8).same s9
      have rc29 : Rc All C H9 2 (.ref sa) (.fds gs) := (Rc.fx rc2 t7 x8).same s9
      have hS9 := s09.seq hS
      refine ⟨_, rfl, _, rfl, _, _, rfl, rfl, .inl ⟨by decide, by decide⟩, _, _, rfl, rfl, a, ns, _, rfl, hS9, by omega, fun g3 => .inl ⟨_, rfl, _, _, rfl, rfl, by show (0 : Int) < 4; decide, ?_⟩⟩
      have chh : g3 % 4 = g3 % 4 := rfl
      have base : ∀ H', Same H9 H' → Rc All C H' 2 (.ref ra) (.fds fs) ∧ Rc All C H' 2 (.ref sa) (.fds gs) := fun H' s' => ⟨rc19.same s', rc29.same s'⟩
      refine ⟨fun σ' H' => ∃ (ta : Addr) (ts : List (Str × GrT.T)), σ' = [some (.ref a), some (.int (0 + (i : Int))), some (.ref p), some (.ref W), some (.ref ra), some (.ref sa), some (.ref ta), some (.int (g3 % 4))] ∧ Rc All C H' 2 (.ref ta) (.fds ts) ∧ ts.length ≤ 6 ∧ Same H9 H', ?_, ?_⟩
      · refine ⟨_, rfl, rfl, _, rfl, ite2 (fun _ => ?_) (fun _ => ?_)⟩
        · exact (ev_and (E := fun _ => E0) (ev_var (i := 4) rfl rc19) (ev_var (i := 6) rfl rc3)) H9 (Same.refl _) _ fun q' H10 rq s10 => ⟨q', _, rfl, rq, Nat.le_trans len_A lf, s10⟩
        · exact ⟨ua, ts0, rfl, rc3, lt, Same.refl _⟩
      rintro σ1 H10 ⟨ta, ts1, rfl, rt, lt1, s10⟩
      refine ⟨fun σ' H' => ∃ (ta : Addr) (ts : List (Str × GrT.T)), σ' = [some (.ref a), some (.int (0 + (i : Int))), some (.ref p), some (.ref W), some (.ref ra), some (.ref sa), some (.ref ta), some (.int (g3 % 4))] ∧ Rc All C H' 2 (.ref ta) (.fds ts) ∧ ts.length ≤ 6 ∧ Same H9 H', ?_, ?_⟩
      · refine ⟨_, rfl, rfl, _, rfl, ite2 (fun _ => ?_) (fun _ => ?_)⟩
        · exact (ev_sub (E := fun _ => E0) (ev_var (i := 5) rfl (base H10 s10).2) (ev_var (i := 6) rfl rt)) H10 (Same.refl _) _ fun q' H11 rq s11 => ⟨q', _, rfl, rq, Nat.le_trans len_D lg, s10.trans s11⟩
        · exact ⟨ta, ts1, rfl, rt, lt1, s10⟩
      rintro σ2 H11 ⟨tb, ts, rfl, ru, lu, s11⟩
      have eR : Ev C 1 (tVar 4) [some (.ref a), some (.int (0 + (i : Int))), some (.ref p), some (.ref W), some (.ref ra), some (.ref sa), some (.ref tb), some (.int (g3 % 4))] H11 fs := ev_var rfl (base H11 s11).1
      have eS : Ev C 1 (tVar 5) [some (.ref a), some (.int (0 + (i : Int))), some (.ref p), some (.ref W), some (.ref ra), some (.ref sa), some (.ref tb), some (.int (g3 % 4))] H11 gs := ev_var rfl (base H11 s11).2
      have eT : Ev C 1 (tVar 6) [some (.ref a), some (.int (0 + (i : Int))), some (.ref p), some (.ref W), some (.ref ra), some (.ref sa), some (.ref tb), some (.int (g3 % 4))] H11 ts := ev_var rfl ru
      have wR := wr_of rc19
      have wS := wr_of rc29
      have wT := wr_of ru
      have := len_A (a := (Am fs gs)) (b := ts)
      have := len_A (a := (U fs gs)) (b := ts)
      have := len_A (a := fs) (b := (Am gs ts))
      have := len_A (a := fs) (b := gs)
      have := len_A (a := fs) (b := ts)
      have := len_A (a := gs) (b := ts)
      have := len_D (a := (Dm fs gs)) (b := ts)
      have := len_D (a := (U fs gs)) (b := ts)
      have := len_D (a := fs) (b := (U gs ts))
      have := len_D (a := fs) (b := gs)
      have := len_D (a := fs) (b := ts)
      have := len_D (a := gs) (b := ts)
      have := len_U (a := (Am fs ts)) (b := (Am gs ts))
      have := len_U (a := (Dm fs ts)) (b := (Dm gs ts))
      have := len_U (a := (U fs gs)) (b := ts)
      have := len_U (a := fs) (b := (U gs ts))
      have := len_U (a := fs) (b := gs)
      have := len_U (a := gs) (b := ts)
      refine skip_if (et_or (et_not (et_val (ev_pair eR eS (by omega) (by omega)))) (et_or (et_not (et_val (ev_pair eS eT (by omega) (by omega)))) (et_or (et_not (et_val (ev_pair eT eR (by omega) (by omega)))) (et_not (et_val (ev_pair eR eR (by omega) (by omega))))))) (Same.refl _) (fun H12 s12 => ?_)
      refine skip_if (et_or (et_test (ev_ne (ev_or (E := fun _ => E0) (ev_or (E := fun _ => E0) eR eS (by omega)) eT (by omega)) (ev_or (E := fun _ => E0) eR (ev_or (E := fun _ => E0) eS eT (by omega)) (by omega)) (sm_of (Wr.U (Wr.U wR wS) wT) (Wr.U wR (Wr.U wS wT)) (by intro x; simp only [look_U (x := x) (Wr.A wS).nd, look_U (x := x) (Wr.D wS).nd, look_U (x := x) (Wr.U wS wT).nd, look_U (x := x) wS.nd, look_U (x := x) wT.nd, look_D, look_A]; cases look x fs <;> cases look x gs <;> cases look x ts <;> simp)))) (et_or (et_test (ev_ne (ev_and (E := fun _ => E0) (ev_and (E := fun _ => E0) eR eS) eT) (ev_and (E := fun _ => E0) eR (ev_and (E := fun _ => E0) eS eT)) (sm_of (Wr.A (Wr.A wR)) (Wr.A wR) (by intro x; simp only [look_U (x := x) (Wr.A wS).nd, look_U (x := x) (Wr.D wS).nd, look_U (x := x) (Wr.U wS wT).nd, look_U (x := x) wS.nd, look_U (x := x) wT.nd, look_D, look_A]; cases look x fs <;> cases look x gs <;> cases look x ts <;> simp)))) (et_test (ev_ne (ev_sub (E := fun _ => E0) (ev_sub (E := fun _ => E0) eR eS) eT) (ev_sub (E := fun _ => E0) eR (ev_or (E := fun _ => E0) eS eT (by omega))) (sm_of (Wr.D (Wr.D wR)) (Wr.D wR) (by intro x; simp only [look_U (x := x) (Wr.A wS).nd, look_U (x := x) (Wr.D wS).nd, look_U (x := x) (Wr.U wS wT).nd, look_U (x := x) wS.nd, look_U (x := x) wT.nd, look_D, look_A]; cases look x fs <;> cases look x gs <;> cases look x ts <;> simp)))))) s12 (fun H13 s13 => ?_)
      refine skip_last (et_or (et_test (ev_ne (ev_sub (E := fun _ => E0) (ev_or (E := fun _ => E0) eR eS (by omega)) eT) (ev_or (E := fun _ => E0) (ev_sub (E := fun _ => E0) eR eT) (ev_sub (E := fun _ => E0) eS eT) (by omega)) (sm_of (Wr.D (Wr.U wR wS)) (Wr.U (Wr.D wR) (Wr.D wS)) (by intro x; simp only [look_U (x := x) (Wr.A wS).nd, look_U (x := x) (Wr.D wS).nd, look_U (x := x) (Wr.U wS wT).nd, look_U (x := x) wS.nd, look_U (x := x) wT.nd, look_D, look_A]; cases look x fs <;> cases look x gs <;> cases look x ts <;> simp)))) (et_test (ev_ne (ev_and (E := fun _ => E0) (ev_or (E := fun _ => E0) eR eS (by omega)) eT) (ev_or (E := fun _ => E0) (ev_and (E := fun _ => E0) eR eT) (ev_and (E := fun _ => E0) eS eT) (by omega)) (sm_of (Wr.A (Wr.U wR wS)) (Wr.U (Wr.A wR) (Wr.A wS)) (by intro x; simp only [look_U (x := x) (Wr.A wS).nd, look_U (x := x) (Wr.D wS).nd, look_U (x := x) (Wr.U wS wT).nd, look_U (x := x) wS.nd, look_U (x := x) wT.nd, look_D, look_A]; cases look x fs <;> cases look x gs <;> cases look x ts <;> simp))))) (s12.trans s13) (fun H14 s14 => ?_)
      exact ⟨_, _, _, _, _, _, _, rfl, (((s09.trans s11).trans s12).trans s13).trans s14⟩
    · rintro σ H' ⟨kv, tv, nv, rv, sv, uv, cv, rfl, s0⟩
      exact q H'
end
end Lw
namespace Lw
open PySem PySem.Spec PyProof.Rows L2 GrT GrOwn
theorem all_mk {l : PySem.W.OpenLaw} {w : World} {K : PySem.W.Frag} {h : Heap} {mg : Str → Option Value} {fa C RE CS fS cdS ccS NS pm ps f1 f2 f3 f4 f5 f6 f7 f8 f9 f10 f11 f12 f13 f14 f15 f16 f17 f18 f19 f20 f21 f22 f23 f24 f25 : Addr} {cdC : ClassData} {ocC : Value} {odC : Option Addr} {slC : Array (Option Value)} {tL : Tok} {cdR : ClassData} {ocR : Value} {odR : Option Addr} {slR : Array (Option Value)} {nmS qS fileS : Str} {bsS bmS subS : List Value} {snS : List Str} {abS : Bool} {colS : Option Bool} {ddS odS anS cddS cldS : Option Addr} {k0S k1S k2S k3S k5S : Option Value} {ocS kVS dcS pmS ctS cclS clS : Value} {slS ccsS cslS : Array (Option Value)} {vsS : Array Value} {tfS : Tok} {rest1 : List Value} {rest2 : List Value} (X : K.In h) (G : h.Ns mainGlobals mg) (hfa : mg "law" = some (.ref fa))
    {od1 an1 od2 an2 od3 an3 od4 an4 od5 an5 od6 an6 od7 an7 od8 an8 od9 an9 od10 an10 od11 an11 od12 an12 od13 an13 od14 an14 od15 an15 od16 an16 od17 an17 od18 an18 od19 an19 od20 an20 od21 an21 od22 an22 od23 an23 od24 an24 od25 an25 : Option Addr} {sl1 sl2 sl3 sl4 sl5 sl6 sl7 sl8 sl9 sl10 sl11 sl12 sl13 sl14 sl15 sl16 sl17 sl18 sl19 sl20 sl21 sl22 sl23 sl24 sl25 : Array (Option Value)} {oc1 kV1 dc1 pm1 cd1 ct1 oc2 kV2 dc2 pm2 cd2 ct2 oc3 kV3 dc3 pm3 cd3 ct3 oc4 kV4 dc4 pm4 cd4 ct4 oc5 kV5 dc5 pm5 cd5 ct5 oc6 kV6 dc6 pm6 cd6 ct6 oc7 kV7 dc7 pm7 cd7 ct7 oc8 kV8 dc8 pm8 cd8 ct8 oc9 kV9 dc9 pm9 cd9 ct9 oc10 kV10 dc10 pm10 cd10 ct10 oc11 kV11 dc11 pm11 cd11 ct11 oc12 kV12 dc12 pm12 cd12 ct12 oc13 kV13 dc13 pm13 cd13 ct13 oc14 kV14 dc14 pm14 cd14 ct14 oc15 kV15 dc15 pm15 cd15 ct15 oc16 kV16 dc16 pm16 cd16 ct16 oc17 kV17 dc17 pm17 cd17 ct17 oc18 kV18 dc18 pm18 cd18 ct18 oc19 kV19 dc19 pm19 cd19 ct19 oc20 kV20 dc20 pm20 cd20 ct20 oc21 kV21 dc21 pm21 cd21 ct21 oc22 kV22 dc22 pm22 cd22 ct22 oc23 kV23 dc23 pm23 cd23 ct23 oc24 kV24 dc24 pm24 cd24 ct24 oc25 kV25 dc25 pm25 cd25 ct25 : Value}
    (aC : PySem.W.nsIn K mainGlobals "Record" = some (some (.ref C)))
    (pg : PySem.W.plainGet K C Str.empty = true)
    (hd : PySem.W.hasDictIn K C = true)
    (po : PySem.W.plainOver K C = true)
    (sa : PySem.W.findIn K (.ref C) "__setattr__" = some (some (.builtin "object.__setattr__")))
    (mk : PySem.W.makesIn K C = true)
    (kc : PySem.W.keepIn K (.ref C) = true)
    (nN : PySem.W.findIn K (.ref C) "names" = some none)
    (nF : PySem.W.findIn K (.ref C) "_fields" = some none)
    (nS : PySem.W.findIn K (.ref C) "_size" = some none)
    (ha : PySem.W.findIn K (.ref C) "__class__" = some (some (.builtin "object.__class__")))
    (hn : PySem.W.specialIn K (.builtin "object.__class__") "__get__" = some (some (.builtin "getset_descriptor.__get__")))
    (htk : PySem.W.takesIn K (.builtin "object.__class__") = some true)
    (hm : PySem.W.mroIn K C (.type "object") = some true)
    (cI : K.lookup C = some ⟨ocC, odC, .cls cdC, slC⟩)
    (tI : PySem.W.typeIn K (.ref C) = some (.type "type"))
    (sD : PySem.W.subIn K (.ref C) (.type "dict") = some false)
    (sI : PySem.W.subIn K (.type "int") (.ref C) = some false)
    (sR : PySem.W.subIn K (.ref C) (.type "int") = some false)
    (gL : PySem.W.nsIn K mainGlobals "LONGEST_NAME" = some (some (.int 30 tL)))
    (sf : PySem.W.selfFirst K C = true)
    (aR : PySem.W.nsIn K mainGlobals "RecordsError" = some (some (.ref RE)))
    (lR : K.lookup RE = some ⟨ocR, odR, .cls cdR, slR⟩)
    (tR : PySem.W.typeIn K (.ref RE) = some (.type "type"))
    (hoS : PySem.W.nsIn K cStatics "thirdparty.any" = some none)
    (tpS : (l.prog.main.scope.names.lookup ("super" : Str)).isSome = false)
    (aS : PySem.W.nsIn K mainGlobals "Shared" = some (some (.ref CS)))
    (cS : K.lookup CS = some (excClassObj nmS qS CS NS bsS bmS true snS subS abS colS ddS k0S k1S k2S k3S k5S "ValueError.__new__"))
    (vS : PySem.HandSPX.refsVE bmS = true)
    (zS : PySem.W.findIn K (.ref CS) "__setattr__" = some (some (.builtin "object.__setattr__")))
    (bS : PySem.W.subIn K (.ref CS) (.type "BaseException") = some true)
    (tS : PySem.W.typeIn K (.ref CS) = some (.type "type"))
    (kS : PySem.W.keepIn K (.ref CS) = true)
    (iS : PySem.W.findIn K (.ref CS) "__init__" = some (some (.ref fS)))
    (yS : PySem.W.typeIn K (.ref fS) = some (.type "function"))
    (lS : K.lookup fS = some ⟨ocS, odS, .func (PySem.W.ksFn "__init__" "Shared.__init__" (defArgs sShInit) (defBody sShInit) (defScope sShInit) .none kVS dcS pmS anS (.ref cdS) ctS ccS), slS⟩)
    (dS : PySem.W.codeIn K (.ref cdS) "Shared.__init__" = true)
    (eS : K.lookup cdS = some ⟨cclS, cddS, .fields vsS, ccsS⟩)
    (wS : vsS[2]? = some (.str fileS tfS))
    (xS : ((l.prog.main.file : Str) == fileS) = true)
    (oS : K.lookup ccS = some ⟨clS, cldS, .cell (some (.ref CS)), cslS⟩)
    (hmS : PySem.W.ks_superIn K CS CS "__init__" = some (some (.builtin "ValueError.__init__")))
    (hBS : PySem.W.subIn K (.ref CS) (.type "ValueError") = some true)
    (mS : PySem.W.mroIn K CS (.ref CS) = some true)
    (nnS : PySem.W.findIn K (.ref CS) "name" = some none)
    (ssS : PySem.W.subIn K (.ref CS) (.ref CS) = some true)
    (hdS : PySem.W.hasDictIn K CS = true)
    (gaS : PySem.W.findIn K (.ref CS) "__getattribute__" = some (some (.builtin "BaseException.__getattribute__")))
    (ggS : PySem.W.findIn K (.ref CS) "__getattr__" = some none)
    (haS : PySem.W.findIn K (.ref CS) "__class__" = some (some (.builtin "object.__class__")))
    (moS : PySem.W.mroIn K CS (.type "object") = some true)
    (rS : PySem.W.subIn K (.ref CS) (.ref RE) = some true)
    (hne : PySem.W.findIn K (.ref C) "__ne__" = some (some (.builtin "object.__ne__")))
    (a1 : PySem.W.nsIn K mainGlobals "_law_cell" = some (some (.ref f1)))
    (l1 : K.lookup f1 = some ⟨oc1, od1, .func (PySem.W.fnOf "_law_cell" "_law_cell" (defArgs sCell) (defBody sCell) (defScope sCell) .none kV1 dc1 pm1 an1 cd1 ct1), sl1⟩)
    (c1 : PySem.W.codeIn K cd1 "_law_cell" = true)
    (k1 : PySem.W.keepIn K (.ref f1) = true)
    (a2 : PySem.W.nsIn K mainGlobals "_law_mixed" = some (some (.ref f2)))
    (l2 : K.lookup f2 = some ⟨oc2, od2, .func (PySem.W.fnOf "_law_mixed" "_law_mixed" (defArgs sMixed) (defBody sMixed) (defScope sMixed) .none kV2 dc2 pm2 an2 cd2 ct2), sl2⟩)
    (c2 : PySem.W.codeIn K cd2 "_law_mixed" = true)
    (k2 : PySem.W.keepIn K (.ref f2) = true)
    (a3 : PySem.W.nsIn K mainGlobals "_law_tape" = some (some (.ref f3)))
    (l3 : K.lookup f3 = some ⟨oc3, od3, .func (PySem.W.fnOf "_law_tape" "_law_tape" (defArgs sTape) (defBody sTape) (defScope sTape) .none kV3 dc3 pm3 an3 cd3 ct3), sl3⟩)
    (c3 : PySem.W.codeIn K cd3 "_law_tape" = true)
    (k3 : PySem.W.keepIn K (.ref f3) = true)
    (a4 : PySem.W.nsIn K mainGlobals "_law_take" = some (some (.ref f4)))
    (l4 : K.lookup f4 = some ⟨oc4, od4, .func (PySem.W.fnOf "_law_take" "_law_take" (defArgs sTake) (defBody sTake) (defScope sTake) .none kV4 dc4 pm4 an4 cd4 ct4), sl4⟩)
    (c4 : PySem.W.codeIn K cd4 "_law_take" = true)
    (k4 : PySem.W.keepIn K (.ref f4) = true)
    (a5 : PySem.W.nsIn K mainGlobals "_law_number" = some (some (.ref f5)))
    (l5 : K.lookup f5 = some ⟨oc5, od5, .func (PySem.W.fnOf "_law_number" "_law_number" (defArgs sNumber) (defBody sNumber) (defScope sNumber) .none kV5 dc5 pm5 an5 cd5 ct5), sl5⟩)
    (c5 : PySem.W.codeIn K cd5 "_law_number" = true)
    (k5 : PySem.W.keepIn K (.ref f5) = true)
    (a6 : PySem.W.nsIn K mainGlobals "_law_word" = some (some (.ref f6)))
    (l6 : K.lookup f6 = some ⟨oc6, od6, .func (PySem.W.fnOf "_law_word" "_law_word" (defArgs sWord) (defBody sWord) (defScope sWord) .none kV6 dc6 pm6 an6 cd6 ct6), sl6⟩)
    (c6 : PySem.W.codeIn K cd6 "_law_word" = true)
    (k6 : PySem.W.keepIn K (.ref f6) = true)
    (a7 : PySem.W.nsIn K mainGlobals "_law_words" = some (some (.ref f7)))
    (l7 : K.lookup f7 = some ⟨oc7, od7, .func (PySem.W.fnOf "_law_words" "_law_words" (defArgs sWords) (defBody sWords) (defScope sWords) .none kV7 dc7 pm7 an7 cd7 ct7), sl7⟩)
    (c7 : PySem.W.codeIn K cd7 "_law_words" = true)
    (k7 : PySem.W.keepIn K (.ref f7) = true)
    (a8 : PySem.W.nsIn K mainGlobals "_law_long" = some (some (.ref f8)))
    (l8 : K.lookup f8 = some ⟨oc8, od8, .func (PySem.W.fnOf "_law_long" "_law_long" (defArgs sLong) (defBody sLong) (defScope sLong) .none kV8 dc8 pm8 an8 cd8 ct8), sl8⟩)
    (c8 : PySem.W.codeIn K cd8 "_law_long" = true)
    (k8 : PySem.W.keepIn K (.ref f8) = true)
    (a9 : PySem.W.nsIn K mainGlobals "_law_pool" = some (some (.ref f9)))
    (l9 : K.lookup f9 = some ⟨oc9, od9, .func (PySem.W.fnOf "_law_pool" "_law_pool" (defArgs sPool) (defBody sPool) (defScope sPool) .none kV9 dc9 pm9 an9 cd9 ct9), sl9⟩)
    (c9 : PySem.W.codeIn K cd9 "_law_pool" = true)
    (k9 : PySem.W.keepIn K (.ref f9) = true)
    (a10 : PySem.W.nsIn K mainGlobals "_law_fields" = some (some (.ref f10)))
    (l10 : K.lookup f10 = some ⟨oc10, od10, .func (PySem.W.fnOf "_law_fields" "_law_fields" (defArgs sFields) (defBody sFields) (defScope sFields) .none kV10 dc10 pm10 an10 cd10 ct10), sl10⟩)
    (c10 : PySem.W.codeIn K cd10 "_law_fields" = true)
    (k10 : PySem.W.keepIn K (.ref f10) = true)
    (a11 : PySem.W.nsIn K mainGlobals "_law_plus" = some (some (.ref f11)))
    (l11 : K.lookup f11 = some ⟨oc11, od11, .func (PySem.W.fnOf "_law_plus" "_law_plus" (defArgs sPlusN) (defBody sPlusN) (defScope sPlusN) .none kV11 dc11 pm11 an11 cd11 ct11), sl11⟩)
    (c11 : PySem.W.codeIn K cd11 "_law_plus" = true)
    (k11 : PySem.W.keepIn K (.ref f11) = true)
    (a12 : PySem.W.nsIn K mainGlobals "_law_pair" = some (some (.ref f12)))
    (l12 : K.lookup f12 = some ⟨oc12, od12, .func (PySem.W.fnOf "_law_pair" "_law_pair" (defArgs sPair) (defBody sPair) (defScope sPair) .none kV12 dc12 pm12 an12 cd12 ct12), sl12⟩)
    (c12 : PySem.W.codeIn K cd12 "_law_pair" = true)
    (k12 : PySem.W.keepIn K (.ref f12) = true)
    (a13 : PySem.W.nsIn K mainGlobals "law" = some (some (.ref f13)))
    (l13 : K.lookup f13 = some ⟨oc13, od13, .func (PySem.W.fnOf "law" "law" (defArgs sLaw) (defBody sLaw) (defScope sLaw) .none kV13 dc13 pm13 an13 cd13 ct13), sl13⟩)
    (c13 : PySem.W.codeIn K cd13 "law" = true)
    (k13 : PySem.W.keepIn K (.ref f13) = true)
    (a14 : PySem.W.nsIn K mainGlobals "is_name" = some (some (.ref f14)))
    (l14 : K.lookup f14 = some ⟨oc14, od14, .func (PySem.W.fnOf "is_name" "is_name" (defArgs sIsName) (defBody sIsName) (defScope sIsName) .none kV14 dc14 pm14 an14 cd14 ct14), sl14⟩)
    (c14 : PySem.W.codeIn K cd14 "is_name" = true)
    (k14 : PySem.W.keepIn K (.ref f14) = true)
    (a15 : PySem.W.nsIn K mainGlobals "value_size" = some (some (.ref f15)))
    (l15 : K.lookup f15 = some ⟨oc15, od15, .func (PySem.W.fnOf "value_size" "value_size" (defArgs sValueSize) (defBody sValueSize) (defScope sValueSize) .none kV15 dc15 pm15 an15 cd15 ct15), sl15⟩)
    (c15 : PySem.W.codeIn K cd15 "value_size" = true)
    (k15 : PySem.W.keepIn K (.ref f15) = true)
    (a16 : PySem.W.findIn K (.ref C) "__init__" = some (some (.ref f16)))
    (i16 : PySem.W.isFn K (.ref f16) = true)
    (j16 : PySem.W.fnIn K f16 = true)
    (l16 : K.lookup f16 = some ⟨oc16, od16, .func (PySem.W.fnOf "__init__" "Record.__init__" (defArgs sInit) (defBody sInit) (defScope sInit) .none kV16 dc16 pm16 an16 cd16 ct16), sl16⟩)
    (c16 : PySem.W.codeIn K cd16 "Record.__init__" = true)
    (k16 : PySem.W.keepIn K (.ref f16) = true)
    (a17 : PySem.W.findIn K (.ref C) "__len__" = some (some (.ref f17)))
    (i17 : PySem.W.isFn K (.ref f17) = true)
    (j17 : PySem.W.fnIn K f17 = true)
    (l17 : K.lookup f17 = some ⟨oc17, od17, .func (PySem.W.fnOf "__len__" "Record.__len__" (defArgs sLen) (defBody sLen) (defScope sLen) .none kV17 dc17 pm17 an17 cd17 ct17), sl17⟩)
    (c17 : PySem.W.codeIn K cd17 "Record.__len__" = true)
    (k17 : PySem.W.keepIn K (.ref f17) = true)
    (a18 : PySem.W.findIn K (.ref C) "__eq__" = some (some (.ref f18)))
    (i18 : PySem.W.isFn K (.ref f18) = true)
    (j18 : PySem.W.fnIn K f18 = true)
    (l18 : K.lookup f18 = some ⟨oc18, od18, .func (PySem.W.fnOf "__eq__" "Record.__eq__" (defArgs sEq) (defBody sEq) (defScope sEq) .none kV18 dc18 pm18 an18 cd18 ct18), sl18⟩)
    (c18 : PySem.W.codeIn K cd18 "Record.__eq__" = true)
    (k18 : PySem.W.keepIn K (.ref f18) = true)
    (a19 : PySem.W.findIn K (.ref C) "__le__" = some (some (.ref f19)))
    (i19 : PySem.W.isFn K (.ref f19) = true)
    (j19 : PySem.W.fnIn K f19 = true)
    (l19 : K.lookup f19 = some ⟨oc19, od19, .func (PySem.W.fnOf "__le__" "Record.__le__" (defArgs sLe) (defBody sLe) (defScope sLe) .none kV19 dc19 pm19 an19 cd19 ct19), sl19⟩)
    (c19 : PySem.W.codeIn K cd19 "Record.__le__" = true)
    (k19 : PySem.W.keepIn K (.ref f19) = true)
    (a20 : PySem.W.findIn K (.ref C) "__or__" = some (some (.ref f20)))
    (i20 : PySem.W.isFn K (.ref f20) = true)
    (j20 : PySem.W.fnIn K f20 = true)
    (l20 : K.lookup f20 = some ⟨oc20, od20, .func (PySem.W.fnOf "__or__" "Record.__or__" (defArgs sOr) (defBody sOr) (defScope sOr) .none kV20 dc20 pm20 an20 cd20 ct20), sl20⟩)
    (c20 : PySem.W.codeIn K cd20 "Record.__or__" = true)
    (k20 : PySem.W.keepIn K (.ref f20) = true)
    (a21 : PySem.W.findIn K (.ref C) "__add__" = some (some (.ref f21)))
    (i21 : PySem.W.isFn K (.ref f21) = true)
    (j21 : PySem.W.fnIn K f21 = true)
    (l21 : K.lookup f21 = some ⟨oc21, od21, .func (PySem.W.fnOf "__add__" "Record.__add__" (defArgs sAdd) (defBody sAdd) (defScope sAdd) .none kV21 dc21 pm21 an21 cd21 ct21), sl21⟩)
    (c21 : PySem.W.codeIn K cd21 "Record.__add__" = true)
    (k21 : PySem.W.keepIn K (.ref f21) = true)
    (a22 : PySem.W.findIn K (.ref C) "__sub__" = some (some (.ref f22)))
    (i22 : PySem.W.isFn K (.ref f22) = true)
    (j22 : PySem.W.fnIn K f22 = true)
    (l22 : K.lookup f22 = some ⟨oc22, od22, .func (PySem.W.fnOf "__sub__" "Record.__sub__" (defArgs sSub) (defBody sSub) (defScope sSub) .none kV22 dc22 pm22 an22 cd22 ct22), sl22⟩)
    (c22 : PySem.W.codeIn K cd22 "Record.__sub__" = true)
    (k22 : PySem.W.keepIn K (.ref f22) = true)
    (a23 : PySem.W.findIn K (.ref C) "__and__" = some (some (.ref f23)))
    (i23 : PySem.W.isFn K (.ref f23) = true)
    (j23 : PySem.W.fnIn K f23 = true)
    (l23 : K.lookup f23 = some ⟨oc23, od23, .func (PySem.W.fnOf "__and__" "Record.__and__" (defArgs sAnd) (defBody sAnd) (defScope sAnd) .none kV23 dc23 pm23 an23 cd23 ct23), sl23⟩)
    (c23 : PySem.W.codeIn K cd23 "Record.__and__" = true)
    (k23 : PySem.W.keepIn K (.ref f23) = true)
    (mrd : PySem.W.readsIn K C (.type "type") = true)
    (mga : PySem.W.specialIn K (.ref C) "__getattribute__" = some (some (.builtin "type.__getattribute__")))
    (a24 : PySem.W.findCls K (.ref C) (.type "type") "make" = some (.get (.builtin "staticmethod.__get__") (.ref pm) .none (.ref C)))
    (r24 : PySem.W.recIn K pm "staticmethod" = some (.ref f24 :: rest1))
    (l24 : K.lookup f24 = some ⟨oc24, od24, .func (PySem.W.fnOf "make" "Record.make" (defArgs sMake) (defBody sMake) (defScope sMake) .none kV24 dc24 pm24 an24 cd24 ct24), sl24⟩)
    (c24 : PySem.W.codeIn K cd24 "Record.make" = true)
    (k24 : PySem.W.keepIn K (.ref f24) = true)
    (a25 : PySem.W.findIn K (.ref C) "size" = some (some (.ref ps)))
    (g25 : PySem.W.specialIn K (.ref ps) "__get__" = some (some (.builtin "property.__get__")))
    (t25 : PySem.W.takesIn K (.ref ps) = some true)
    (r25 : PySem.W.recIn K ps "property" = some (.ref f25 :: rest2))
    (l25 : K.lookup f25 = some ⟨oc25, od25, .func (PySem.W.fnOf "size" "Record.size" (defArgs sSize) (defBody sSize) (defScope sSize) .none kV25 dc25 pm25 an25 cd25 ct25), sl25⟩)
    (c25 : PySem.W.codeIn K cd25 "Record.size" = true)
    (k25 : PySem.W.keepIn K (.ref f25) = true)
    (z_len : PySem.W.nsIn K mainGlobals "len" = some none)
    (z_int : PySem.W.nsIn K mainGlobals "int" = some none)
    (z_range : PySem.W.nsIn K mainGlobals "range" = some none)
    (z_isinstance : PySem.W.nsIn K mainGlobals "isinstance" = some none)
    (z_dict : PySem.W.nsIn K mainGlobals "dict" = some none)
    (z_tuple : PySem.W.nsIn K mainGlobals "tuple" = some none)
    (z_bool : PySem.W.nsIn K mainGlobals "bool" = some none)
    (z_list : PySem.W.nsIn K mainGlobals "list" = some none)
    (z_str : PySem.W.nsIn K mainGlobals "str" = some none)
    (z_sum : PySem.W.nsIn K mainGlobals "sum" = some none)
    (z_sorted : PySem.W.nsIn K mainGlobals "sorted" = some none)
    (z_all : PySem.W.nsIn K mainGlobals "all" = some none)
    (z_super : PySem.W.nsIn K mainGlobals "super" = some none)
    (z_min : PySem.W.nsIn K mainGlobals "min" = some none) :
    ∃ fd : FuncData, (∀ (s : Shared) (v : Value), BindsTo s fd ⟨[v], []⟩ [("script", v)]) ∧ ∀ base : Heap, K.In base → base.Ns mainGlobals mg → FnOk l.prog w K mg base CX0 10 fa fd ["script"] (spLaw K) := by
  have cI1 : PySem.W.clsIn K C = some cdC := by
    unfold PySem.W.clsIn
    rw [cI]
  have kit : ∀ t : Value, ¬ (t = .ref C) → ∀ b, PySem.W.subIn K t (.ref C) = some b → PySem.W.kitOne K t (.ref C) = some b := fun t ht b hb => by
    unfold PySem.W.kitOne
    rw [if_neg (by simpa using ht)]
    show (if ((PySem.W.clsIn K C).isSome && PySem.W.typeIn K (.ref C) == some (.type "type")) = true then PySem.W.subIn K t (.ref C) else none) = some b
    rw [cI1, tI, if_pos (by simp)]
    exact hb
  have R : RecK K mg C := ⟨⟨pg, hd, po, sa⟩, nN, nF, nS, ha, hn, htk, hm, kit _ (by simp) _ sI, (by
    unfold PySem.W.kitOne
    rw [if_neg (by simp)]
    exact sD), (by
    unfold PySem.W.kitOne
    rw [if_pos (by simp)]), sI, sR, PySem.W.mg_of X G aC⟩
  have hL := PySem.W.mg_of X G gL
  have cR1 : PySem.W.clsIn K RE = some cdR := by
    unfold PySem.W.clsIn
    rw [lR]
  have kitR : ∀ t : Value, PySem.W.subIn K t (.ref RE) = some true → PySem.W.kitOne K t (.ref RE) = some true := fun t hb => by
    unfold PySem.W.kitOne
    split
    · rfl
    · show (if ((PySem.W.clsIn K RE).isSome && PySem.W.typeIn K (.ref RE) == some (.type "type")) = true then PySem.W.subIn K t (.ref RE) else none) = some true
      rw [cR1, tR, if_pos (by simp)]
      exact hb
  have OXS : OexC K CS := ⟨⟨_, _, _, _, _, _, _, _, _, _, _, _, _, _, _, cS, vS⟩, zS, bS, tS, kS⟩
  have bnS := (show Binds K (PySem.W.ksFn "__init__" "Shared.__init__" (defArgs sShInit) (defBody sShInit) (defScope sShInit) .none kVS dcS pmS anS (.ref cdS) ctS ccS) ["self", "name"] [] from Binds.all fun us hl => match us, hl with | [_, _], _ => rfl)
  have ZS : ExK l.prog K mg "Shared" "Shared.__init__" sShInit CS := ⟨OXS, ⟨fS, ccS, cdS, _, _, _, _, _, _, _, _, _, _, _, _, _, _, _, _, _, iS, yS, lS, dS, eS, wS, xS, oS, bnS⟩, PySem.W.mg_none_of X G z_super, PySem.W.mg_of X G aS, tpS, hoS, hmS, hBS, mS, nnS, PySem.W.exm_ref bS hdS tS ssS⟩
  have F1 := fun_mk (st := sCell) l1 c1 k1
  have b1 := F1.binds (ps := ["script", "k"]) fun _ _ _ _ _ _ us hl => match us, hl with | [_, _], _ => rfl
  have D1 : Dfn K mg "_law_cell" sCell ["script", "k"] := ⟨_, _, PySem.W.mg_of X G a1, F1, b1⟩
  have F2 := fun_mk (st := sMixed) l2 c2 k2
  have b2 := F2.binds (ps := ["cell", "k"]) fun _ _ _ _ _ _ us hl => match us, hl with | [_, _], _ => rfl
  have D2 : Dfn K mg "_law_mixed" sMixed ["cell", "k"] := ⟨_, _, PySem.W.mg_of X G a2, F2, b2⟩
  have F3 := fun_mk (st := sTape) l3 c3 k3
  have b3 := F3.binds (ps := ["great", "lesser", "count"]) fun _ _ _ _ _ _ us hl => match us, hl with | [_, _, _], _ => rfl
  have D3 : Dfn K mg "_law_tape" sTape ["great", "lesser", "count"] := ⟨_, _, PySem.W.mg_of X G a3, F3, b3⟩
  have F4 := fun_mk (st := sTake) l4 c4 k4
  have b4 := F4.binds (ps := ["tape", "many"]) fun _ _ _ _ _ _ us hl => match us, hl with | [_, _], _ => rfl
  have D4 : Dfn K mg "_law_take" sTake ["tape", "many"] := ⟨_, _, PySem.W.mg_of X G a4, F4, b4⟩
  have F5 := fun_mk (st := sNumber) l5 c5 k5
  have b5 := F5.binds (ps := ["tape"]) fun _ _ _ _ _ _ us hl => match us, hl with | [_], _ => rfl
  have D5 : Dfn K mg "_law_number" sNumber ["tape"] := ⟨_, _, PySem.W.mg_of X G a5, F5, b5⟩
  have F6 := fun_mk (st := sWord) l6 c6 k6
  have b6 := F6.binds (ps := ["tape", "longest"]) fun _ _ _ _ _ _ us hl => match us, hl with | [_, _], _ => rfl
  have D6 : Dfn K mg "_law_word" sWord ["tape", "longest"] := ⟨_, _, PySem.W.mg_of X G a6, F6, b6⟩
  have F7 := fun_mk (st := sWords) l7 c7 k7
  have b7 := F7.binds (ps := ["tape", "many", "taken"]) fun _ _ _ _ _ _ us hl => match us, hl with | [_, _, _], _ => rfl
  have D7 : Dfn K mg "_law_words" sWords ["tape", "many", "taken"] := ⟨_, _, PySem.W.mg_of X G a7, F7, b7⟩
  have F8 := fun_mk (st := sLong) l8 c8 k8
  have b8 := F8.binds (ps := ["tape", "word"]) fun _ _ _ _ _ _ us hl => match us, hl with | [_, _], _ => rfl
  have D8 : Dfn K mg "_law_long" sLong ["tape", "word"] := ⟨_, _, PySem.W.mg_of X G a8, F8, b8⟩
  have F9 := fun_mk (st := sPool) l9 c9 k9
  have b9 := F9.binds (ps := ["tape", "many"]) fun _ _ _ _ _ _ us hl => match us, hl with | [_, _], _ => rfl
  have D9 : Dfn K mg "_law_pool" sPool ["tape", "many"] := ⟨_, _, PySem.W.mg_of X G a9, F9, b9⟩
  have F10 := fun_mk (st := sFields) l10 c10 k10
  have b10 := F10.binds (ps := ["tape", "names", "depth"]) fun _ _ _ _ _ _ us hl => match us, hl with | [_, _, _], _ => rfl
  have D10 : Dfn K mg "_law_fields" sFields ["tape", "names", "depth"] := ⟨_, _, PySem.W.mg_of X G a10, F10, b10⟩
  have F11 := fun_mk (st := sPlusN) l11 c11 k11
  have b11 := F11.binds (ps := ["left", "right"]) fun _ _ _ _ _ _ us hl => match us, hl with | [_, _], _ => rfl
  have D11 : Dfn K mg "_law_plus" sPlusN ["left", "right"] := ⟨_, _, PySem.W.mg_of X G a11, F11, b11⟩
  have F12 := fun_mk (st := sPair) l12 c12 k12
  have b12 := F12.binds (ps := ["r", "s"]) fun _ _ _ _ _ _ us hl => match us, hl with | [_, _], _ => rfl
  have D12 : Dfn K mg "_law_pair" sPair ["r", "s"] := ⟨_, _, PySem.W.mg_of X G a12, F12, b12⟩
  have F13 := fun_mk (st := sLaw) l13 c13 k13
  have b13 := F13.binds (ps := ["script"]) fun _ _ _ _ _ _ us hl => match us, hl with | [_], _ => rfl
  have F14 := fun_mk (st := sIsName) l14 c14 k14
  have b14 := F14.binds (ps := ["text"]) fun _ _ _ _ _ _ us hl => match us, hl with | [_], _ => rfl
  have D14 : Dfn K mg "is_name" sIsName ["text"] := ⟨_, _, PySem.W.mg_of X G a14, F14, b14⟩
  have F15 := fun_mk (st := sValueSize) l15 c15 k15
  have b15 := F15.binds (ps := ["value"]) fun _ _ _ _ _ _ us hl => match us, hl with | [_], _ => rfl
  have D15 : Dfn K mg "value_size" sValueSize ["value"] := ⟨_, _, PySem.W.mg_of X G a15, F15, b15⟩
  have F16 := fun_mk (st := sInit) l16 c16 k16
  have b16 := F16.binds (ps := ["self", "fields"]) fun _ _ _ _ _ _ us hl => match us, hl with | [_, _], _ => rfl
  have IN : InK K C := ⟨_, _, ⟨mk, a16, i16, kc⟩, F16, b16⟩
  have F17 := fun_mk (st := sLen) l17 c17 k17
  have b17 := F17.binds (ps := ["self"]) fun _ _ _ _ _ _ us hl => match us, hl with | [_], _ => rfl
  have D17 : DfM K C "__len__" "Record.__len__" sLen ["self"] := ⟨_, _, ⟨a17, i17⟩, j17, F17, b17⟩
  have F18 := fun_mk (st := sEq) l18 c18 k18
  have b18 := F18.binds (ps := ["self", "other"]) fun _ _ _ _ _ _ us hl => match us, hl with | [_, _], _ => rfl
  have D18 : DfM K C "__eq__" "Record.__eq__" sEq ["self", "other"] := ⟨_, _, ⟨a18, i18⟩, j18, F18, b18⟩
  have F19 := fun_mk (st := sLe) l19 c19 k19
  have b19 := F19.binds (ps := ["self", "other"]) fun _ _ _ _ _ _ us hl => match us, hl with | [_, _], _ => rfl
  have D19 : DfM K C "__le__" "Record.__le__" sLe ["self", "other"] := ⟨_, _, ⟨a19, i19⟩, j19, F19, b19⟩
  have F20 := fun_mk (st := sOr) l20 c20 k20
  have b20 := F20.binds (ps := ["self", "other"]) fun _ _ _ _ _ _ us hl => match us, hl with | [_, _], _ => rfl
  have D20 : DfM K C "__or__" "Record.__or__" sOr ["self", "other"] := ⟨_, _, ⟨a20, i20⟩, j20, F20, b20⟩
  have F21 := fun_mk (st := sAdd) l21 c21 k21
  have b21 := F21.binds (ps := ["self", "other"]) fun _ _ _ _ _ _ us hl => match us, hl with | [_, _], _ => rfl
  have D21 : DfM K C "__add__" "Record.__add__" sAdd ["self", "other"] := ⟨_, _, ⟨a21, i21⟩, j21, F21, b21⟩
  have F22 := fun_mk (st := sSub) l22 c22 k22
  have b22 := F22.binds (ps := ["self", "other"]) fun _ _ _ _ _ _ us hl => match us, hl with | [_, _], _ => rfl
  have D22 : DfM K C "__sub__" "Record.__sub__" sSub ["self", "other"] := ⟨_, _, ⟨a22, i22⟩, j22, F22, b22⟩
  have F23 := fun_mk (st := sAnd) l23 c23 k23
  have b23 := F23.binds (ps := ["self", "other"]) fun _ _ _ _ _ _ us hl => match us, hl with | [_, _], _ => rfl
  have D23 : DfM K C "__and__" "Record.__and__" sAnd ["self", "other"] := ⟨_, _, ⟨a23, i23⟩, j23, F23, b23⟩
  have F24 := fun_mk (st := sMake) l24 c24 k24
  have b24 := F24.binds (ps := ["fields"]) fun _ _ _ _ _ _ us hl => match us, hl with | [_], _ => rfl
  have mD : SMet K C (.type "type") "make" pm f24 := ⟨⟨mrd, mga⟩, a24, ⟨_, r24⟩, k24⟩
  have DM : StK K C := ⟨_, _, _, mD, F24, b24⟩
  have F25 := fun_mk (st := sSize) l25 c25 k25
  have b25 := F25.binds (ps := ["self"]) fun _ _ _ _ _ _ us hl => match us, hl with | [_], _ => rfl
  have PR : PrK K C := ⟨_, _, _, ⟨a25, g25, t25, ⟨_, r25⟩⟩, F25, b25⟩
  have T : Bu mg := { b_len := PySem.W.mg_none_of X G z_len, b_int := PySem.W.mg_none_of X G z_int, b_range := PySem.W.mg_none_of X G z_range, b_isinstance := PySem.W.mg_none_of X G z_isinstance, b_dict := PySem.W.mg_none_of X G z_dict, b_tuple := PySem.W.mg_none_of X G z_tuple, b_bool := PySem.W.mg_none_of X G z_bool, b_list := PySem.W.mg_none_of X G z_list, b_str := PySem.W.mg_none_of X G z_str, b_sum := PySem.W.mg_none_of X G z_sum, b_sorted := PySem.W.mg_none_of X G z_sorted }
  refine ⟨PySem.W.fnOf "law" "law" (defArgs sLaw) (defBody sLaw) (defScope sLaw) .none kV13 dc13 pm13 an13 cd13 ct13, fun s v => .of_eq rfl, fun base _ _ => ?_⟩
  have p_cell := c_cell (P := l.prog) (w := w) (base := base) T.toBt D1
  have p_mixed := c_mixed (P := l.prog) (w := w) (base := base) T.toBt D2
  have p_tape := c_tape T.toBt D3 p_mixed
  have p_take := c_take (P := l.prog) (w := w) (base := base) T.toBt D4
  have p_number := c_number T.toBt D5 p_take
  have p_word := c_word T.toBt D6 p_take
  have p_words := c_words T.toBt D7 p_word
  have p_long := c_long T.toBt D8 p_take
  have p_pool := c_pool T.toBt D9 p_words p_long
  have p_fields := c_fields T.toBt D10 p_take p_number
  have p_len := m_len (P := l.prog) (w := w) (base := base) T.toBt R D17
  have p_vs := c_value_size (P := l.prog) (w := w) (base := base) T R PR D15
  have ba := PySem.W.mg_none_of X G z_all
  have p_name := c_is_name (P := l.prog) (w := w) (base := base) T ba hL D14
  have p_make := s_make T R DM IN p_vs p_name
  have M1 : EqM l.prog w K mg base C 4 1 := ⟨_, _, fn_eq T R ⟨a18, i18⟩ b18 F18 1, ⟨a18, i18⟩, b18⟩
  have M0 : EqM l.prog w K mg base C 2 0 := ⟨_, _, fn_eq T R ⟨a18, i18⟩ b18 F18 0, ⟨a18, i18⟩, b18⟩
  have p_le : MthX l.prog w K mg base CX0 C 3 "__le__" (spLeR C 1) := ⟨_, _, _, fn_le T ba R M0 F19, ⟨a19, i19⟩, b19⟩
  have p_or : MthX l.prog w K mg base CX0 C 6 "__or__" (spOr C 1) := ⟨_, _, _, fn_or T R IN p_vs 1 F20, ⟨a20, i20⟩, b20⟩
  have p_sub : MthX l.prog w K mg base CX0 C 6 "__sub__" (spPart C 1 false) := ⟨_, _, _, fn_sub T R IN p_vs 1 F22, ⟨a22, i22⟩, b22⟩
  have p_and : MthX l.prog w K mg base CX0 C 6 "__and__" (spPart C 1 true) := ⟨_, _, _, fn_and T R IN p_vs 1 F23, ⟨a23, i23⟩, b23⟩
  have p_add : MthX l.prog w K mg base (L2.CX l.prog w) C 7 "__add__" (spAdd C CS 1) := ⟨_, _, _, fn_add R sf ZS 1 p_or F21, ⟨a21, i21⟩, b21⟩
  have p_plus := c_plusN T R sf ZS 1 p_add D11
  have p_pair := c_pair T R sf hne (p_make 1) M1 p_le p_or p_sub p_and p_len p_plus D12
  have hf := hfa.symm.trans (PySem.W.mg_of X G a13)
  cases hf
  exact fn_law T (PySem.W.mg_none_of X G z_min) R sf hne M1 p_or p_sub p_and p_cell p_tape p_take p_pool (p_fields 1) (p_make 1) p_pair F13
theorem walk {l : PySem.W.OpenLaw} {q : Program} {loose : List Str} {XP : (Str → Option Value) → Heap → Prop} {YP : World → Heap → Prop} {d : DefRec} {K : Params → PySem.W.Frag} (hn : l.most = some 63) (hdf : d.params.defaults = [])
    (hY : ∀ (w : World) (h : Heap), YP w h → (K w.params).In h)
    (F : ∀ (w : World) (mg : Str → Option Value) (fa : Addr) (h : Heap), (K w.params).In h → h.Ns mainGlobals mg → mg d.name = some (.ref fa) →
      ∃ fd : FuncData, (∀ (s : Shared) (u : Value), BindsTo s fd ⟨[u], []⟩ [("script", u)]) ∧ ∀ base : Heap, (K w.params).In base → base.Ns mainGlobals mg → FnOk l.prog w (K w.params) mg base CX0 10 fa fd ["script"] (spLaw (K w.params))) :
    PySem.W.WalkO q loose XP YP l.row.toRowW d [] (fun f vs => PySem.call f vs) :=
  L2.walk_of (n := 63) (k := 10) (x := "script") (CX := fun _ => CX0) (sp := fun w => spLaw (K w.params)) hn (by decide) hdf ⟨rfl, by decide, by decide⟩ hY F (fun _ _ a ns hl _ hS => ⟨a, ns, rfl, hS, hl, fun _ => rfl⟩) fun _ _ _ _ _ z => z
end Lw
open PySem PySem.W PyProof.Rows
set_option maxRecDepth 100000 in
set_option maxHeartbeats 0 in
theorem PySem.Challenge.cw_growingrecords_k08_whole_record_algebra_holds : PySem.Challenge.rw_growingrecords_k08_whole_record_algebra.Holds := by
  w_on; o_law; k_head; (case hw => w_witness2)
  k_fill
  refine Lw.walk (l := PySem.Challenge.rw_growingrecords_k08_whole_record_algebra) rfl rfl (fun w h Y => PySem.W.kIn_of Y) ?F
  case F =>
    intro w mg fa h KX G hmg
    refine' Lw.all_mk KX G hmg ?aC ?pg ?hd ?po ?sa ?mk ?kc ?nN ?nF ?nS ?ha ?hn ?htk ?hm ?cI ?tI ?sD ?sI ?sR ?gL ?sf ?aR ?lR ?tR ?hoS ?tpS ?aS ?cS ?vS ?zS ?bS ?tS ?kS ?iS ?yS ?lS ?dS ?eS ?wS ?xS ?oS ?hmS ?hBS ?mS ?nnS ?ssS ?hdS ?gaS ?ggS ?haS ?moS ?rS ?hne ?a1 ?l1 ?c1 ?k1 ?a2 ?l2 ?c2 ?k2 ?a3 ?l3 ?c3 ?k3 ?a4 ?l4 ?c4 ?k4 ?a5 ?l5 ?c5 ?k5 ?a6 ?l6 ?c6 ?k6 ?a7 ?l7 ?c7 ?k7 ?a8 ?l8 ?c8 ?k8 ?a9 ?l9 ?c9 ?k9 ?a10 ?l10 ?c10 ?k10 ?a11 ?l11 ?c11 ?k11 ?a12 ?l12 ?c12 ?k12 ?a13 ?l13 ?c13 ?k13 ?a14 ?l14 ?c14 ?k14 ?a15 ?l15 ?c15 ?k15 ?a16 ?i16 ?j16 ?l16 ?c16 ?k16 ?a17 ?i17 ?j17 ?l17 ?c17 ?k17 ?a18 ?i18 ?j18 ?l18 ?c18 ?k18 ?a19 ?i19 ?j19 ?l19 ?c19 ?k19 ?a20 ?i20 ?j20 ?l20 ?c20 ?k20 ?a21 ?i21 ?j21 ?l21 ?c21 ?k21 ?a22 ?i22 ?j22 ?l22 ?c22 ?k22 ?a23 ?i23 ?j23 ?l23 ?c23 ?k23 ?mrd ?mga ?a24 ?r24 ?l24 ?c24 ?k24 ?a25 ?g25 ?t25 ?r25 ?l25 ?c25 ?k25 ?z_len ?z_int ?z_range ?z_isinstance ?z_dict ?z_tuple ?z_bool ?z_list ?z_str ?z_sum ?z_sorted ?z_all ?z_super ?z_min
    (case aC => k_is)
    (case pg => k_is)
    (case hd => k_is)
    (case po => k_is)
    (case sa => k_is)
    (case mk => k_is)
    (case kc => k_is)
    (case nN => k_is)
    (case nF => k_is)
    (case nS => k_is)
    (case ha => k_is)
    (case hn => k_is)
    (case htk => k_is)
    (case hm => k_is)
    (case cI => k_is)
    (case tI => k_is)
    (case sD => k_is)
    (case sI => k_is)
    (case sR => k_is)
    (case gL => k_is)
    (case sf => k_is)
    (case aR => k_is)
    (case lR => k_is)
    (case tR => k_is)
    (case hoS => k_is)
    (case tpS => first | rfl | decide +kernel)
    (case aS => k_is)
    (case cS => k_is)
    (case vS => first | rfl | decide +kernel)
    (case zS => k_is)
    (case bS => k_is)
    (case tS => k_is)
    (case kS => k_is)
    (case iS => k_is)
    (case yS => k_is)
    (case lS => k_is)
    (case dS => k_is)
    (case eS => k_is)
    (case wS => rfl)
    (case xS => first | rfl | decide +kernel)
    (case oS => k_is)
    (case hmS => first | ks_is | k_is | rfl)
    (case hBS => k_is)
    (case mS => k_is)
    (case nnS => k_is)
    (case ssS => k_is)
    (case hdS => k_is)
    (case gaS => k_is)
    (case ggS => k_is)
    (case haS => k_is)
    (case moS => k_is)
    (case rS => k_is)
    (case hne => k_is)
    (case a1 => k_is)
    (case l1 => k_is)
    (case c1 => k_is)
    (case k1 => k_is)
    (case a2 => k_is)
    (case l2 => k_is)
    (case c2 => k_is)
    (case k2 => k_is)
    (case a3 => k_is)
    (case l3 => k_is)
    (case c3 => k_is)
    (case k3 => k_is)
    (case a4 => k_is)
    (case l4 => k_is)
    (case c4 => k_is)
    (case k4 => k_is)
    (case a5 => k_is)
    (case l5 => k_is)
    (case c5 => k_is)
    (case k5 => k_is)
    (case a6 => k_is)
    (case l6 => k_is)
    (case c6 => k_is)
    (case k6 => k_is)
    (case a7 => k_is)
    (case l7 => k_is)
    (case c7 => k_is)
    (case k7 => k_is)
    (case a8 => k_is)
    (case l8 => k_is)
    (case c8 => k_is)
    (case k8 => k_is)
    (case a9 => k_is)
    (case l9 => k_is)
    (case c9 => k_is)
    (case k9 => k_is)
    (case a10 => k_is)
    (case l10 => k_is)
    (case c10 => k_is)
    (case k10 => k_is)
    (case a11 => k_is)
    (case l11 => k_is)
    (case c11 => k_is)
    (case k11 => k_is)
    (case a12 => k_is)
    (case l12 => k_is)
    (case c12 => k_is)
    (case k12 => k_is)
    (case a13 => k_is)
    (case l13 => k_is)
    (case c13 => k_is)
    (case k13 => k_is)
    (case a14 => k_is)
    (case l14 => k_is)
    (case c14 => k_is)
    (case k14 => k_is)
    (case a15 => k_is)
    (case l15 => k_is)
    (case c15 => k_is)
    (case k15 => k_is)
    (case a16 => k_is)
    (case i16 => k_is)
    (case j16 => k_is)
    (case l16 => k_is)
    (case c16 => k_is)
    (case k16 => k_is)
    (case a17 => k_is)
    (case i17 => k_is)
    (case j17 => k_is)
    (case l17 => k_is)
    (case c17 => k_is)
    (case k17 => k_is)
    (case a18 => k_is)
    (case i18 => k_is)
    (case j18 => k_is)
    (case l18 => k_is)
    (case c18 => k_is)
    (case k18 => k_is)
    (case a19 => k_is)
    (case i19 => k_is)
    (case j19 => k_is)
    (case l19 => k_is)
    (case c19 => k_is)
    (case k19 => k_is)
    (case a20 => k_is)
    (case i20 => k_is)
    (case j20 => k_is)
    (case l20 => k_is)
    (case c20 => k_is)
    (case k20 => k_is)
    (case a21 => k_is)
    (case i21 => k_is)
    (case j21 => k_is)
    (case l21 => k_is)
    (case c21 => k_is)
    (case k21 => k_is)
    (case a22 => k_is)
    (case i22 => k_is)
    (case j22 => k_is)
    (case l22 => k_is)
    (case c22 => k_is)
    (case k22 => k_is)
    (case a23 => k_is)
    (case i23 => k_is)
    (case j23 => k_is)
    (case l23 => k_is)
    (case c23 => k_is)
    (case k23 => k_is)
    (case mrd => k_is)
    (case mga => k_is)
    (case a24 => k_is)
    (case r24 => k_is)
    (case l24 => k_is)
    (case c24 => k_is)
    (case k24 => k_is)
    (case a25 => k_is)
    (case g25 => k_is)
    (case t25 => k_is)
    (case r25 => k_is)
    (case l25 => k_is)
    (case c25 => k_is)
    (case k25 => k_is)
    (case z_len => k_is)
    (case z_int => k_is)
    (case z_range => k_is)
    (case z_isinstance => k_is)
    (case z_dict => k_is)
    (case z_tuple => k_is)
    (case z_bool => k_is)
    (case z_list => k_is)
    (case z_str => k_is)
    (case z_sum => k_is)
    (case z_sorted => k_is)
    (case z_all => k_is)
    (case z_super => k_is)
    (case z_min => k_is)
