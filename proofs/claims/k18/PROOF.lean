import PyProof.Rows.All
import Wide.All
import OpenK.AllK
import Wide.FinOn
import HandS.ForMost
import HandS.IsInst
import HandS.Codes
import HandS.HotCalls
import HandS.ExcField
import HandS.ExcIs
import HandS.Comp
import KE.KExcIs
import HandS.ExcInit
import HandS.ExcCtx
import KE.KExcSuper
import HandS.Nested
import PyProof.StrLawsRepr
import HandS.FStr
import HandS.FStrTup
import HandS.Text
import PyProof.EqAt
import HandS.List
import HandS.ExcInitHot
import PySem.Challenge.RW_growingrecords_k18_errors_made
set_option Elab.async false
set_option linter.all false
set_option maxRecDepth 100000
set_option maxHeartbeats 4000000
/-! Values of the law as plain data: an int, or fields by name; how dicts and records of the heap bear them. -/
namespace GrT
open PySem L2
/-- a value: an int, or fields in their order -/
inductive T where
  | int (i : Int)
  | fds (fs : List (Str × T))
/-! ### lists by name -/
section
variable {α β : Type}
def look (x : Str) : List (Str × α) → Option α
  | [] => none
  | (z, w) :: r => if z = x then some w else look x r
def put (x : Str) (y : α) : List (Str × α) → List (Str × α)
  | [] => [(x, y)]
  | (z, w) :: r => if z = x then (x, y) :: r else (z, w) :: put x y r
abbrev names (l : List (Str × α)) : List Str := l.map (·.1)
theorem look_mem {x : Str} {w : α} : ∀ {l : List (Str × α)}, look x l = some w → (x, w) ∈ l
  | (z, y) :: r, h => by
    unfold look at h
    split at h
    · rename_i e
      subst e
      cases h
      exact List.mem_cons_self
    · exact List.mem_cons_of_mem _ (look_mem h)
theorem look_none {x : Str} : ∀ {l : List (Str × α)}, look x l = none ↔ x ∉ names l
  | [] => by simp [look, names]
  | (z, y) :: r => by
    unfold look
    by_cases e : z = x
    · subst e
      simp
    · rw [if_neg e, look_none (l := r)]
      simp only [names, List.map_cons, List.mem_cons, not_or]
      exact ⟨fun h => ⟨fun q => e q.symm, h⟩, fun h => h.2⟩
theorem look_some {x : Str} {l : List (Str × α)} (h : x ∈ names l) : ∃ w, look x l = some w := by
  cases e : look x l with
  | some w => exact ⟨w, rfl⟩
  | none => exact absurd h (look_none.mp e)
theorem mem_look {x : Str} {w : α} : ∀ {l : List (Str × α)}, (names l).Nodup → (x, w) ∈ l → look x l = some w
  | (z, y) :: r, nd, h => by
    have nd' := List.nodup_cons.mp nd
    rcases List.mem_cons.mp h with e | e
    · cases e
      unfold look
      rw [if_pos rfl]
    · have hz : z ≠ x := fun q => nd'.1 (by rw [q]; exact List.mem_map.mpr ⟨_, e, rfl⟩)
      unfold look
      rw [if_neg hz]
      exact mem_look nd'.2 e
theorem names_put {x : Str} {y : α} : ∀ {l : List (Str × α)}, names (put x y l) = if x ∈ names l then names l else names l ++ [x]
  | [] => by simp [put, names]
  | (z, w) :: r => by
    unfold put
    by_cases e : z = x
    · subst e
      simp
    · have ih := names_put (x := x) (y := y) (l := r)
      rw [if_neg e]
      have hm : (x ∈ names ((z, w) :: r)) = (x ∈ names r) := by
        simp only [names, List.map_cons, List.mem_cons, eq_iff_iff]
        exact ⟨fun h => h.elim (fun q => absurd q.symm e) id, .inr⟩
      show z :: names (put x y r) = _
      rw [ih]
      simp only [hm]
      split <;> rfl
theorem nodup_put {x : Str} {y : α} {l : List (Str × α)} (h : (names l).Nodup) : (names (put x y l)).Nodup := by
  rw [names_put]
  split
  · exact h
  · rename_i q
    refine List.nodup_append.mpr ⟨h, by simp, fun a ha b hb => ?_⟩
    simp at hb
    subst hb
    exact fun e => q (e ▸ ha)
theorem length_put {x : Str} {y : α} {l : List (Str × α)} : (put x y l).length ≤ l.length + 1 := by
  have e : (names (put x y l)).length = (put x y l).length := List.length_map _
  rw [← e, names_put]
  split
  · simp
  · simp
theorem mem_put {x : Str} {y : α} : ∀ {l : List (Str × α)} {p}, p ∈ put x y l → p = (x, y) ∨ p ∈ l
  | [], p, h => by
    simp [put] at h
    exact .inl h
  | (z, w) :: r, p, h => by
    unfold put at h
    split at h
    · rcases List.mem_cons.mp h with q | q
      · exact .inl q
      · exact .inr (List.mem_cons_of_mem _ q)
    · rcases List.mem_cons.mp h with q | q
      · exact .inr (q ▸ List.mem_cons_self)
      · rcases mem_put q with q | q
        · exact .inl q
        · exact .inr (List.mem_cons_of_mem _ q)
theorem look_put {x z : Str} {y : α} : ∀ {l : List (Str × α)}, look z (put x y l) = if z = x then some y else look z l
  | [] => by
    simp only [put, look]
    by_cases e : z = x
    · subst e
      simp
    · rw [if_neg (fun q => e q.symm), if_neg e]
  | (u, w) :: r => by
    unfold put
    by_cases e : u = x
    · subst e
      rw [if_pos rfl]
      simp only [look]
      by_cases q : u = z
      · subst q
        simp
      · rw [if_neg q, if_neg (fun h => q h.symm), if_neg q]
    · rw [if_neg e]
      simp only [look]
      by_cases q : u = z
      · subst q
        rw [if_pos rfl, if_neg e, if_pos rfl]
      · rw [if_neg q, look_put, if_neg q]
end
/-! ### the dict that bears such a list -/
def dk (l : List (Str × V)) : List (Key × V) := l.map fun p => (Sum.inr p.1, p.2)
theorem dk_len (l : List (Str × V)) : (dk l).length = l.length := List.length_map _
theorem dk_val (x : Str) : ∀ l : List (Str × V), valV (dk l) (Sum.inr x : Key) = look x l
  | [] => rfl
  | (z, w) :: r => by
    show valV ((Sum.inr z, w) :: dk r) (Sum.inr x : Key) = if z = x then some w else look x r
    by_cases e : z = x
    · subst e
      rw [if_pos rfl, valV_pos rfl]
    · rw [if_neg e, valV_neg (fun q => e (Sum.inr.inj q)), dk_val x r]
theorem dk_put (x : Str) (y : V) : ∀ l : List (Str × V), (names l).Nodup → putK (dk l) (Sum.inr x : Key) y = dk (put x y l) := by
  intro l nd
  cases e : look x l with
  | none =>
    have h0 : valV (dk l) (Sum.inr x : Key) = none := by rw [dk_val, e]
    rw [putK_new _ h0]
    have hp : ∀ l : List (Str × V), look x l = none → put x y l = l ++ [(x, y)] := by
      intro l
      induction l with
      | nil => intro _; rfl
      | cons p r ih =>
        obtain ⟨z, w⟩ := p
        intro h
        unfold look at h
        split at h
        · cases h
        · rename_i q
          unfold put
          rw [if_neg q, ih h]
          rfl
    rw [hp l e]
    simp [dk]
  | some w =>
    have h1 : (dk l).any (fun kv => decide (kv.1 = (Sum.inr x : Key))) = true := by rw [valV_any, dk_val, e]; rfl
    unfold putK
    rw [if_pos h1]
    clear h1
    induction l with
    | nil => cases e
    | cons p r ih =>
      obtain ⟨z, u⟩ := p
      have nd' := List.nodup_cons.mp nd
      unfold look at e
      unfold put
      by_cases q : z = x
      · subst q
        rw [if_pos rfl]
        have hr : ∀ r : List (Str × V), z ∉ names r → (dk r).map (fun kv => if kv.1 = (Sum.inr z : Key) then (kv.1, y) else kv) = dk r := by
          intro r
          induction r with
          | nil => intro _; rfl
          | cons p r ih =>
            obtain ⟨a, b⟩ := p
            intro h
            have h' : z ≠ a ∧ z ∉ names r := by simpa [names] using h
            show (if (Sum.inr a : Key) = Sum.inr z then ((Sum.inr a : Key), y) else (Sum.inr a, b)) :: (dk r).map _ = (Sum.inr a, b) :: dk r
            rw [if_neg (fun q => h'.1 (Sum.inr.inj q).symm), ih h'.2]
        show (if (Sum.inr z : Key) = Sum.inr z then ((Sum.inr z : Key), y) else (Sum.inr z, u)) :: (dk r).map _ = (Sum.inr z, y) :: dk r
        rw [if_pos rfl, hr r nd'.1]
      · rw [if_neg q] at e
        rw [if_neg q]
        show (if (Sum.inr z : Key) = Sum.inr x then ((Sum.inr z : Key), y) else (Sum.inr z, u)) :: (dk r).map _ = (Sum.inr z, u) :: dk (put x y r)
        rw [if_neg (fun h => q (Sum.inr.inj h)), ih nd'.2 e]
/-! ### two lists by name, alike by R -/
def Al (R : V → T → Prop) : List (Str × V) → List (Str × T) → Prop := Paired fun p q => p.1 = q.1 ∧ R p.2 q.2
section
variable {R S : V → T → Prop} {l : List (Str × V)} {fs : List (Str × T)}
theorem Al.imp (h : Al R l fs) (f : ∀ p ∈ fs, ∀ v, R v p.2 → S v p.2) : Al S l fs := by
  induction h with
  | nil => exact .nil
  | @cons p q l fs r t ih => exact .cons ⟨r.1, f _ List.mem_cons_self _ r.2⟩ (ih fun p hp => f p (List.mem_cons_of_mem _ hp))
theorem Al.names (h : Al R l fs) : names l = names fs := by
  induction h with
  | nil => rfl
  | @cons p q l fs r t ih =>
    show p.1 :: GrT.names l = q.1 :: GrT.names fs
    rw [r.1, ih]
theorem Al.len (h : Al R l fs) : l.length = fs.length := Paired.length h
theorem Al.get (h : Al R l fs) {x : Str} {t : T} (e : look x fs = some t) : ∃ v, look x l = some v ∧ R v t := by
  induction h with
  | nil => cases e
  | @cons p q l fs r t' ih =>
    obtain ⟨z, v⟩ := p
    obtain ⟨z', u⟩ := q
    obtain ⟨rfl, r⟩ := r
    unfold look at e ⊢
    by_cases hz : z = x
    · rw [if_pos hz] at e ⊢
      cases e
      exact ⟨v, rfl, r⟩
    · rw [if_neg hz] at e ⊢
      exact ih e
theorem Al.get' (h : Al R l fs) {x : Str} {v : V} (e : look x l = some v) : ∃ t, look x fs = some t ∧ R v t := by
  induction h with
  | nil => cases e
  | @cons p q l fs r t' ih =>
    obtain ⟨z, v'⟩ := p
    obtain ⟨z', u⟩ := q
    obtain ⟨rfl, r⟩ := r
    unfold look at e ⊢
    by_cases hz : z = x
    · rw [if_pos hz] at e ⊢
      cases e
      exact ⟨u, rfl, r⟩
    · rw [if_neg hz] at e ⊢
      exact ih e
theorem Al.none (h : Al R l fs) {x : Str} : look x l = none ↔ look x fs = none := by rw [look_none, look_none, h.names]
theorem Al.put (h : Al R l fs) (x : Str) {v : V} {t : T} (r : R v t) : Al R (put x v l) (put x t fs) := by
  induction h with
  | nil => exact .cons ⟨rfl, r⟩ .nil
  | @cons p q l fs r' t' ih =>
    obtain ⟨z, v'⟩ := p
    obtain ⟨z', u⟩ := q
    obtain ⟨rfl, r'⟩ := r'
    unfold GrT.put
    by_cases hz : z = x
    · rw [if_pos hz, if_pos hz]
      exact .cons ⟨rfl, r⟩ t'
    · rw [if_neg hz, if_neg hz]
      exact .cons ⟨rfl, r'⟩ ih
end
/-! ### names, fields -/
def letter (c : Nat) : Prop := 97 ≤ c ∧ c ≤ 122
def Good (x : Str) : Prop := 1 ≤ x.length ∧ x.length ≤ 30 ∧ ∀ c ∈ x.cps.toList, letter c
structure Wf (L : Nat) (fs : List (Str × T)) : Prop where
  nd : (names fs).Nodup
  ln : fs.length ≤ L
  gd : ∀ p ∈ fs, Good p.1
theorem Wf.mono {L M : Nat} {fs : List (Str × T)} (h : Wf L fs) (hl : L ≤ M) : Wf M fs := ⟨h.nd, Nat.le_trans h.ln hl, h.gd⟩
theorem Wf.put {L : Nat} {fs : List (Str × T)} (h : Wf L fs) {x : Str} {t : T} (g : Good x) : Wf (L + 1) (put x t fs) :=
  ⟨nodup_put h.nd, Nat.le_trans length_put (Nat.add_le_add_right h.ln 1), fun p hp => by
    rcases mem_put hp with e | e
    · rw [e]
      exact g
    · exact h.gd p e⟩
theorem Wf.nil {L : Nat} : Wf L [] := ⟨by simp [names], Nat.zero_le _, fun p hp => by cases hp⟩
/-! ### a value as dicts -/
/-- v is t: ints and dicts, at most n deep, at most L fields each, the dicts all within S -/
def Tr (S : Addr → Prop) (H : Hp) (L : Nat) : Nat → V → T → Prop
  | 0, v, t => ∃ i, v = .int i ∧ t = .int i
  | n + 1, v, t => (∃ i, v = .int i ∧ t = .int i) ∨ ∃ a l fs, v = .ref a ∧ t = .fds fs ∧ S a ∧ H a = some (.dK (dk l)) ∧ Wf L fs ∧ Al (Tr S H L n) l fs
section
variable {S S' : Addr → Prop} {H H' : Hp} {L M n m : Nat} {v : V} {t u : T} {a : Addr}
theorem Tr.int (i : Int) : Tr S H L n (.int i) (.int i) := by
  cases n with
  | zero => exact ⟨i, rfl, rfl⟩
  | succ n => exact .inl ⟨i, rfl, rfl⟩
theorem Tr.cases {P : Prop} (h : Tr S H L n v t) (h1 : ∀ i, v = .int i → t = .int i → P)
    (h2 : ∀ k a l fs, n = k + 1 → v = .ref a → t = .fds fs → S a → H a = some (.dK (dk l)) → Wf L fs → Al (Tr S H L k) l fs → P) : P := by
  cases n with
  | zero =>
    obtain ⟨i, e1, e2⟩ := h
    exact h1 i e1 e2
  | succ k =>
    rcases h with ⟨i, e1, e2⟩ | ⟨a, l, fs, e1, e2, es, e3, e4, e5⟩
    · exact h1 i e1 e2
    · exact h2 k a l fs rfl e1 e2 es e3 e4 e5
theorem Tr.keep : ∀ {n : Nat} {v : V} {t : T}, Tr S H L n v t → (∀ b kvs, S b → H b = some (.dK kvs) → H' b = some (.dK kvs)) → Tr S H' L n v t
  | 0, _, _, h, _ => h
  | n + 1, v, t, h, k => by
    rcases h with h | ⟨a, l, fs, e1, e2, es, e3, e4, e5⟩
    · exact .inl h
    · exact .inr ⟨a, l, fs, e1, e2, es, k _ _ es e3, e4, e5.imp fun _ _ _ q => Tr.keep q k⟩
theorem Tr.mono : ∀ {n m L M : Nat} {v : V} {t : T}, Tr S H L n v t → n ≤ m → L ≤ M → Tr S H M m v t
  | 0, m, L, M, v, t, ⟨i, e1, e2⟩, _, _ => by
    rw [e1, e2]
    exact Tr.int i
  | n + 1, 0, _, _, _, _, _, h, _ => absurd h (Nat.not_succ_le_zero _)
  | n + 1, m + 1, L, M, v, t, h, h1, h2 => by
    rcases h with h | ⟨a, l, fs, e1, e2, es, e3, e4, e5⟩
    · exact .inl h
    · exact .inr ⟨a, l, fs, e1, e2, es, e3, e4.mono h2, e5.imp fun _ _ _ q => Tr.mono q (Nat.le_of_succ_le_succ h1) h2⟩
theorem dk_inj : ∀ {l l' : List (Str × V)}, dk l = dk l' → l = l'
  | [], [], _ => rfl
  | [], _ :: _, h => by cases h
  | _ :: _, [], h => by cases h
  | (x, v) :: l, (y, w) :: l', h => by
    have h' : ((Sum.inr x : Key), v) :: dk l = (Sum.inr y, w) :: dk l' := h
    injection h' with h1 h2
    injection h1 with h3 h4
    injection h3 with h3
    rw [h3, h4, dk_inj h2]
theorem al_inj {n m L M : Nat} (ih : ∀ {v : V} {t u : T}, Tr S H L n v t → Tr S' H M m v u → t = u) : ∀ {l : List (Str × V)} {fs gs : List (Str × T)}, Al (Tr S H L n) l fs → Al (Tr S' H M m) l gs → fs = gs
  | [], _, _, .nil, .nil => rfl
  | _ :: _, (x, t) :: fs, (y, u) :: gs, .cons r1 t1, .cons r2 t2 => by
    have e : x = y := r1.1.symm.trans r2.1
    have e2 : t = u := ih r1.2 r2.2
    rw [e, e2, al_inj ih t1 t2]
theorem Tr.inj : ∀ {n m L M : Nat} {v : V} {t u : T}, Tr S H L n v t → Tr S' H M m v u → t = u
  | 0, m, L, M, v, t, u, ⟨i, e1, e2⟩, h => by
    refine h.cases (fun j q1 q2 => ?_) fun k a l fs _ q => ?_
    · rw [e1] at q1
      cases q1
      rw [e2, q2]
    · rw [e1] at q
      cases q
  | n + 1, m, L, M, v, t, u, h0, h => by
    refine h.cases (fun j q1 q2 => ?_) fun k a l fs _ q1 q2 qs q3 q4 q5 => ?_
    · rcases h0 with ⟨i, e1, e2⟩ | ⟨a, l, fs, e1, _⟩
      · rw [e1] at q1
        cases q1
        rw [e2, q2]
      · rw [e1] at q1
        cases q1
    · rcases h0 with ⟨i, e1, e2⟩ | ⟨b, l', gs, e1, e2, es, e3, e4, e5⟩
      · rw [e1] at q1
        cases q1
      · rw [e1] at q1
        cases q1
        rw [e3] at q3
        have z := dk_inj (HO.dK.inj (Option.some.inj q3))
        subst z
        rw [e2, q2, al_inj (fun a b => Tr.inj a b) e5 q5]
theorem size_mem {x : Str} {t : T} {fs : List (Str × T)} (h : (x, t) ∈ fs) : sizeOf t < sizeOf (T.fds fs) := by
  have h1 := List.sizeOf_lt_of_mem h
  have h2 : sizeOf (x, t) = 1 + sizeOf x + sizeOf t := by simp
  have h3 : sizeOf (T.fds fs) = 1 + sizeOf fs := by simp
  omega
/-- what is smaller than the value at a has no place at a -/
theorem Tr.away : ∀ {n : Nat} {v : V} {t : T}, Tr S H L n v t → Tr S' H M m (.ref a) u → sizeOf t < sizeOf u → ∀ o, Tr S (upd H a o) L n v t
  | 0, _, _, h, _, _, _ => h
  | n + 1, v, t, h, q, hs, o => by
    rcases id h with h' | ⟨b, l, fs, e1, e2, es, e3, e4, e5⟩
    · exact .inl h'
    · have hb : b ≠ a := fun z => by
        subst z
        rw [e1] at h
        have := Tr.inj h q
        subst this
        exact absurd hs (Nat.lt_irrefl _)
      refine .inr ⟨b, l, fs, e1, e2, es, by rw [upd_ne hb]; exact e3, e4, e5.imp fun p hp _ z => Tr.away z q (Nat.lt_trans ?_ hs) o⟩
      rw [e2]
      exact size_mem (x := p.1) (t := p.2) hp
/-- the children of the dict at a, while it is locked -/
theorem al_away (es : S a) {l : List (Str × V)} {fs : List (Str × T)} (e : H a = some (.dK (dk l))) (w : Wf L fs) (h : Al (Tr S H L n) l fs) (o : HO) : Al (Tr S (upd H a o) L n) l fs :=
  h.imp fun p hp _ z => z.away (m := n + 1) (M := L) (u := .fds fs) (a := a) (.inr ⟨a, l, fs, rfl, rfl, es, e, w, h⟩) (size_mem (x := p.1) (t := p.2) hp) o
theorem Tr.wid : ∀ {n : Nat} {v : V} {t : T}, Tr S H L n v t → (∀ b, S b → S' b) → Tr S' H L n v t
  | 0, _, _, h, _ => h
  | n + 1, v, t, h, k => by
    rcases h with h | ⟨a, l, fs, e1, e2, es, e3, e4, e5⟩
    · exact .inl h
    · exact .inr ⟨a, l, fs, e1, e2, k _ es, e3, e4, e5.imp fun _ _ _ q => Tr.wid q k⟩
end
end GrT
/-! The law's own helpers: cells, the tape, what is drawn from it. -/
namespace Lw
open PySem PySem.Spec PyProof.Rows L2 GrT
def top (i : Nat) : Stmt := PySem.Challenge.pw_growingrecords_k18_errors_made.main.body.getD i (.Pass ⟨0, 0, 0, 0⟩)
abbrev sCell : Stmt := top 19
abbrev sMixed : Stmt := top 20
abbrev sTape : Stmt := top 21
abbrev sTake : Stmt := top 22
abbrev sNumber : Stmt := top 23
abbrev sWord : Stmt := top 24
abbrev sWords : Stmt := top 25
/-- a def of the module's top, by its name -/
structure Dfn (K : PySem.W.Frag) (mg : Str → Option Value) (x : Str) (st : Stmt) (ps : List Str) : Prop where
  ex : ∃ f fd, mg x = some (.ref f) ∧ L2.Fun K x x st f fd ∧ Binds K fd ps []
/-- the def called x keeps the promise sp, at level k -/
structure Cal (P : Program) (w : World) (K : PySem.W.Frag) (mg : Str → Option Value) (base : Heap) (k : Nat) (x : Str) (sp : Sp) : Prop where
  ex : ∃ (f : Addr) (fd : FuncData) (ps : List Str), FnOk P w K mg base CX0 k f fd ps sp ∧ mg x = some (.ref f) ∧ PySem.W.keepIn K (.ref f) = true ∧ Binds K fd ps []
theorem pe_c {X : Cx} {k j : Nat} {x : Str} {sp : Sp} {p pos : Pos} {e : Expr} {es : List Expr} {t : TA} (c : Cal X.prog X.w X.K X.mg X.base k x sp) (hr : Room j X.A) (hk : k ≤ j) (hg : Gl X x) (ha : PA X (e :: es) t)
    (hdb : (x == ("__debug__" : Str)) = false := by decide) (he : starEach (e :: es) X.env = (false, eval e X.env) :: starEach es X.env := by rfl) (hpl : (backTo pos (starEach es X.env)).any (·.1) = false := by rfl) :
    PE X (.Call (.Name x p) (e :: es) [] pos) (tCall sp [] E0 t) := by
  obtain ⟨f, fd, ps, F, hm, kp, b⟩ := c.ex
  exact pe_call F (hr.mono hk) hg hm kp b .nil pass0 ha hdb he hpl
/-- what the top leaves of the built-ins that the helpers ask -/
structure Bt (mg : Str → Option Value) : Prop where
  b_len : mg "len" = none
  b_int : mg "int" = none
  b_range : mg "range" = none
section
variable {P : Program} {w : World} {K : PySem.W.Frag} {mg : Str → Option Value} {base : Heap}
theorem Dfn.cal {x : Str} {st : Stmt} {N ps : List Str} {k : Nat} {sp : Sp} (D : Dfn K mg x st ps) (S : FnScope N ps (defScope st)) (len : ∀ vs H Q E, sp vs H Q E → vs.length = ps.length)
    (body : ∀ (f : Addr) (cdv : Value) (A : Around) (outer : List Env) (s : Shared) (H : Hp) (vs : List V) (Q : VK) (E : XK), Room k (A.deeper (envOfC x (defScope st) s.heap.objs.size f cdv)) → sp vs H Q E →
      ∃ t, PSs (cxOf CX0 P w K mg base N x (defScope st) f cdv A outer s H E).nox (defBody st) t ∧ t { nx := fun _ H' => Q .non H', rt := Q } (start N vs) H) : Cal P w K mg base (k + 1) x sp := by
  obtain ⟨f, fd, hm, F, b⟩ := D.ex
  exact ⟨f, fd, ps, F.ok S len (body f), hm, F.kp, b⟩
end
/-! ### what is promised -/
/-- all but the object at T stands -/
def Fx (T : Addr) (H H' : Hp) : Prop := ∀ b o, b ≠ T → H b = some o → H' b = some o
theorem Fx.refl {T : Addr} {H : Hp} : Fx T H H := fun _ _ _ e => e
theorem Fx.trans {T : Addr} {H H1 H2 : Hp} (a : Fx T H H1) (b : Fx T H1 H2) : Fx T H H2 := fun c o n e => b c o n (a c o n e)
theorem Fx.set {T : Addr} {H : Hp} {o : HO} : Fx T H (upd H T o) := fun b u n e => by
  rw [upd_ne n]
  exact e
theorem Fx.same {T : Addr} {H H' : Hp} (s : Same H H') : Fx T H H' := fun b o _ e => s b o e
theorem Fx.new {T a : Addr} {H H1 : Hp} {o : HO} (x : Fx T H H1) (n : H1 a = none) : Fx T H (upd H1 a o) := fun b u ne e => by
  have q := x b u ne e
  rw [upd_ne (ne_of_none q n)]
  exact q
/-- the tape: ints below 720720 -/
def Tape (H : Hp) (T : Addr) : Prop := ∃ ns : List Int, H T = some (.lst (ns.map V.int)) ∧ ns.length ≤ 1000 ∧ ∀ n ∈ ns, 0 ≤ n ∧ n < 720720
theorem Tape.new {H : Hp} {T a : Addr} {o : HO} (t : Tape H T) (n : H a = none) : Tape (upd H a o) T := by
  obtain ⟨ns, e, z⟩ := t
  exact ⟨ns, by rw [upd_ne (ne_of_none e n)]; exact e, z⟩
theorem Tape.ne {H : Hp} {T a : Addr} {o : HO} (t : Tape H T) (e : H a = some o) (d : ∀ xs, o ≠ .lst xs) : a ≠ T := by
  obtain ⟨ns, q, _⟩ := t
  exact ne_of e q (d _)
theorem Tape.put {H : Hp} {T a : Addr} {o : HO} (t : Tape H T) (n : a ≠ T) : Tape (upd H a o) T := by
  obtain ⟨ns, e, z⟩ := t
  exact ⟨ns, by rw [upd_ne n.symm]; exact e, z⟩
def spCell (K : PySem.W.Frag) : Sp := fun vs H Q _ => ∃ (a : Addr) (ns : List Int) (k : Int), vs = [.ref a, .int k] ∧ SqL K H a (ns.map V.int) ∧ 0 ≤ k ∧ ∀ i, Q (.int i) H
def spMixed : Sp := fun vs H Q _ => ∃ c k : Int, vs = [.int c, .int k] ∧ 0 ≤ k ∧ k < 10000 ∧ ∀ i, 0 ≤ i → i < 720720 → Q (.int i) H
def spTape : Sp := fun vs H Q _ => ∃ g l c : Int, vs = [.int g, .int l, .int c] ∧ 0 ≤ c ∧ c ≤ 1000 ∧ ∀ T H', H T = none → Tape H' T → Same H H' → Q (.ref T) H'
def spTake : Sp := fun vs H Q _ => ∃ (T : Addr) (m : Int), vs = [.ref T, .int m] ∧ Tape H T ∧ 0 < m ∧ ∀ i H', 0 ≤ i → i < m → Fx T H H' → Tape H' T → Q (.int i) H'
def spNumber : Sp := fun vs H Q _ => ∃ T : Addr, vs = [.ref T] ∧ Tape H T ∧ ∀ i H', 0 ≤ i → i < 2 ^ 100 → Fx T H H' → Tape H' T → Q (.int i) H'
/-- a text of signs a to z -/
def Az (x : Str) : Prop := ∀ c ∈ x.cps.toList, letter c
def spWord : Sp := fun vs H Q _ => ∃ (T : Addr) (m : Int), vs = [.ref T, .int m] ∧ Tape H T ∧ 0 < m ∧ m ≤ 100 ∧ ∀ (x : Str) H', 1 ≤ x.length → (x.length : Int) ≤ m → Az x → Fx T H H' → Tape H' T → Q (.str x) H'
section
variable {P : Program} {w : World} {K : PySem.W.Frag} {mg : Str → Option Value} {base : Heap}
/-! ### the defs -/
theorem scCell : FnScope ["script", "k"] ["script", "k"] (defScope sCell) := ⟨rfl, rfl, rfl, by decide +kernel, rfl, by decide +kernel, by decide +kernel⟩
theorem c_cell (T : Bt mg) (D : Dfn K mg "_law_cell" sCell ["script", "k"]) : Cal P w K mg base 1 "_law_cell" (spCell K) := by
  refine D.cal scCell (fun vs H Q E h => ?_) (fun f cdv A outer s H vs Q E hr h => ?_)
  · obtain ⟨a, ns, k, rfl, _⟩ := h
    rfl
  · obtain ⟨a, ns, k, rfl, hS, k0, q⟩ := h
    refine ⟨_, (pss_cons (ps_if (pt_cmpR op_lt (pv 1) (pe_callB call_len_seq (by rfl) T.b_len PySem.boot_len (pa_cons (pv 0) pa_nil)) (nomark _))
      (pss_one (ps_ret (pe_ix ix_list (pv 0) (pv 1) (fun _ _ => rfl))))
      pss_nil)
      (pss_one (ps_ret pe_int))), ?_⟩
    refine ⟨_, rfl, _, rfl, a, _, rfl, .inl hS, _, _, rfl, rfl, _, rfl, ?_⟩
    refine ite2 (fun hk => ?_) (fun _ => q 0)
    have hk' := of_decide_eq_true hk
    rw [List.length_map] at hk'
    have e1 : k.toNat < ns.length := by omega
    refine ⟨_, rfl, _, rfl, a, _, _, _, rfl, rfl, hS, ?_, q (ns[k.toNat]'e1)⟩
    obtain ⟨j, rfl⟩ : ∃ j : Nat, k = (j : Int) := ⟨k.toNat, by omega⟩
    refine atI_nat ?_
    rw [List.getElem?_map]
    have e3 : j < ns.length := by omega
    simp [List.getElem?_eq_getElem e3]
theorem scMixed : FnScope ["cell", "k", "first", "second"] ["cell", "k"] (defScope sMixed) := ⟨rfl, rfl, rfl, by decide +kernel, rfl, by decide +kernel, by decide +kernel⟩
theorem c_mixed (T : Bt mg) (D : Dfn K mg "_law_mixed" sMixed ["cell", "k"]) : Cal P w K mg base 1 "_law_mixed" spMixed := by
  refine D.cal scMixed (fun vs H Q E h => ?_) (fun f cdv A outer s H vs Q E hr h => ?_)
  · obtain ⟨c, k, rfl, _⟩ := h
    rfl
  · obtain ⟨c, k, rfl, k0, k1, q⟩ := h
    refine ⟨_, (pss_cons (ps_set (i := 2) scMixed.nd rfl (Or.inl rfl) (pe_op op_mod (pe_callTy call_int1 (by rfl) T.b_int (by decide +kernel) (pa_cons (pe_op op_add (pe_op op_add (pe_op op_mul (pv 0) pe_int) (pe_op op_mul (pv 1) pe_int)) pe_int) pa_nil)) pe_int))
      (pss_cons (ps_set (i := 3) scMixed.nd rfl (Or.inl rfl) (pe_op op_mod (pe_callTy call_int1 (by rfl) T.b_int (by decide +kernel) (pa_cons (pe_op op_add (pe_op op_add (pe_op op_mul (pv 2) (pv 2)) (pe_op op_mul pe_int (pv 2))) (pe_op op_mul (pv 1) pe_int)) pa_nil)) pe_int))
      (pss_one (ps_ret (pe_op op_mod (pe_callTy call_int1 (by rfl) T.b_int (by decide +kernel) (pa_cons (pv 3) pa_nil)) pe_int))))), ?_⟩
    have p31 : (0 : Int) < 2147483647 := by decide
    have f0 : ∀ z : Int, 0 ≤ z % 2147483647 ∧ z % 2147483647 < 2147483647 := fun z => ⟨Int.emod_nonneg z (by decide), Int.emod_lt_of_pos z p31⟩
    refine ⟨_, rfl, _, _, rfl, rfl, .inr ⟨by decide, by decide⟩, _, rfl, _, _, rfl, rfl, .inr ⟨by decide, by decide⟩, _, _, rfl, rfl, _, _, rfl, rfl, .inl ⟨_, rfl, _, _, rfl, rfl, p31, ?_⟩⟩
    generalize hz : (c * 48271 + k * 69621 + 7) % 2147483647 = z
    have hf := f0 (c * 48271 + k * 69621 + 7)
    rw [hz] at hf
    refine ⟨_, rfl, _, rfl, _, _, rfl, rfl, .inl ⟨by omega, by omega⟩, _, rfl, _, _, rfl, rfl, .inl ⟨by decide, by decide⟩, _, _, rfl, rfl, _, rfl, _, _, rfl, rfl, .inr ⟨by decide, by decide⟩, _, _, rfl, rfl, .inl ⟨_, rfl, _, _, rfl, rfl, (by decide : (0 : Int) < 2147483629), ?_⟩⟩
    exact ⟨_, rfl, .inl ⟨_, rfl, _, _, rfl, rfl, (by decide : (0 : Int) < 720720), q _ (Int.emod_nonneg _ (by decide)) (Int.emod_lt_of_pos _ (by decide))⟩⟩
theorem scTape : FnScope ["great", "lesser", "count", "tape", "rest", "k", "drawn"] ["great", "lesser", "count"] (defScope sTape) := ⟨rfl, rfl, rfl, by decide +kernel, rfl, by decide +kernel, by decide +kernel⟩
theorem p72 : (0 : Int) < 720720 := by decide
theorem c_tape (T : Bt mg) (D : Dfn K mg "_law_tape" sTape ["great", "lesser", "count"]) (c_law_mixed : Cal P w K mg base 1 "_law_mixed" spMixed) : Cal P w K mg base 2 "_law_tape" spTape := by
  refine D.cal scTape (fun vs H Q E h => ?_) (fun f cdv A outer s H vs Q E hr h => ?_)
  · obtain ⟨g, l, c, rfl, _⟩ := h
    rfl
  · obtain ⟨g, l, c, rfl, c0, c1, q⟩ := h
    refine ⟨_, (pss_cons (ps_set (i := 3) scTape.nd rfl (Or.inl rfl) (pe_lst pa_nil))
      (pss_cons (ps_set (i := 4) scTape.nd rfl (Or.inl rfl) (pv 0))
      (pss_cons (ps_for PassesOwn.never rfl (pi_range1 (by rfl) T.b_range (pa_cons (pv 2) pa_nil)) (pg_name (i := 5) scTape.nd rfl (Or.inl rfl))
      (pss_cons (ps_set (i := 6) scTape.nd rfl (Or.inl rfl) (pe_c c_law_mixed hr (by decide) rfl (pa_cons (pv 1) (pa_cons (pv 5) pa_nil))))
      (pss_cons (ps_if (pt_cmpR op_ge (pv 0) (pe_op op_pow pe_int pe_int) (nomark _))
      (pss_cons (ps_set (i := 6) scTape.nd rfl (Or.inl rfl) (pe_op op_add (pv 6) (pe_op op_mod (pe_callTy call_int1 (by rfl) T.b_int (by decide +kernel) (pa_cons (pv 4) pa_nil)) pe_int)))
      (pss_one (ps_set (i := 4) scTape.nd rfl (Or.inl rfl) (pe_op op_fdiv (pv 4) pe_int))))
      (pss_one (ps_set (i := 6) scTape.nd rfl (Or.inl rfl) (pe_op op_add (pv 6) (pe_c c_law_mixed hr (by decide) rfl (pa_cons (pv 0) (pa_cons (pe_op op_add (pv 5) pe_int) pa_nil)))))))
      (pss_one (ps_expr (pe_bm PySem.F.plainAttrs_list PySem.F.slot_list_append PySem.F.type_list_append mt_append (pv 3) (pa_cons (pe_op op_mod (pe_callTy call_int1 (by rfl) T.b_int (by decide +kernel) (pa_cons (pv 6) pa_nil)) pe_int) pa_nil)))))))
      (pss_one (ps_ret (pv 3)))))), ?_⟩
    refine ⟨Nat.zero_le _, fun p hp => ?_⟩
    refine ⟨_, rfl, _, rfl, c, rfl, by omega, by omega, for_range (lo := 0) (n := c.toNat) (fun i σ H' => ∃ (r : Int) (kv dv : Option V) (ns : List Int), σ = [some (.int g), some (.int l), some (.int c), some (.ref p), some (.int r), kv, dv] ∧
      H' p = some (.lst (ns.map V.int)) ∧ ns.length = i ∧ (∀ n ∈ ns, 0 ≤ n ∧ n < 720720) ∧ Same H H') ⟨g, none, none, [], rfl, upd_same, rfl, (fun n hn => by cases hn), (fun b o e => by rw [upd_ne (ne_of_none e hp)]; exact e)⟩ ?_ ?_⟩
    · rintro i σ H' hi ⟨r, kv, dv, ns, rfl, hl, hn, hb, hs⟩
      refine ⟨_, rfl, _, rfl, _, _, rfl, by omega, by omega, fun d1 hd1 hd2 => ?_⟩
      refine ⟨_, rfl, _, _, rfl, rfl, ⟨by decide, by decide, by decide⟩, _, _, rfl, rfl, _, rfl, ite2 (fun _ => ?_) (fun _ => ?_)⟩
      · refine ⟨_, rfl, _, rfl, .inl ⟨_, rfl, _, _, rfl, rfl, p72, _, _, rfl, rfl, _, rfl, _, _, rfl, rfl, ⟨by decide, by decide⟩, ?_⟩⟩
        refine ⟨_, rfl, .inl ⟨rfl, _, .inl (.inl hl)⟩, _, rfl, .inl ⟨_, rfl, _, _, rfl, rfl, p72, p, _, _, rfl, rfl, hl, small1000 (by rw [List.length_map]; omega), ?_⟩⟩
        refine ⟨_, _, _, ns ++ [(d1 + r % 720720) % 720720], rfl, ?_, by rw [List.length_append, hn]; rfl, fun n h => ?_, fun b o e => ?_⟩
        · rw [upd_same, List.map_append]
          rfl
        · rcases List.mem_append.mp h with h | h
          · exact hb n h
          · have e := List.mem_singleton.mp h
            rw [e]
            exact ⟨Int.emod_nonneg _ (by decide), Int.emod_lt_of_pos _ p72⟩
        · rw [upd_ne (ne_of_none e hp)]
          exact hs b o e
      · refine ⟨_, rfl, _, rfl, _, rfl, _, _, rfl, rfl, _, _, rfl, by omega, by omega, fun d2 hd3 hd4 => ⟨_, _, rfl, rfl, ?_⟩⟩
        refine ⟨_, rfl, .inl ⟨rfl, _, .inl (.inl hl)⟩, _, rfl, .inl ⟨_, rfl, _, _, rfl, rfl, p72, p, _, _, rfl, rfl, hl, small1000 (by rw [List.length_map]; omega), ?_⟩⟩
        refine ⟨_, _, _, ns ++ [(d1 + d2) % 720720], rfl, ?_, by rw [List.length_append, hn]; rfl, fun n h => ?_, fun b o e => ?_⟩
        · rw [upd_same, List.map_append]
          rfl
        · rcases List.mem_append.mp h with h | h
          · exact hb n h
          · have e := List.mem_singleton.mp h
            rw [e]
            exact ⟨Int.emod_nonneg _ (by decide), Int.emod_lt_of_pos _ p72⟩
        · rw [upd_ne (ne_of_none e hp)]
          exact hs b o e
    · rintro σ H' ⟨r, kv, dv, ns, rfl, hl, hn, hb, hs⟩
      exact ⟨_, rfl, q p H' hp ⟨ns, hl, by omega, hb⟩ hs⟩
theorem scTake : FnScope ["tape", "many"] ["tape", "many"] (defScope sTake) := ⟨rfl, rfl, rfl, by decide +kernel, rfl, by decide +kernel, by decide +kernel⟩
theorem type_pop : typeOf (.builtin "list.pop") = pure (.type "method_descriptor") := by
  show builtinType _ = _
  rw [builtinType_eq_fast]
  kernel_rfl
theorem c_take (T : Bt mg) (D : Dfn K mg "_law_take" sTake ["tape", "many"]) : Cal P w K mg base 1 "_law_take" spTake := by
  refine D.cal scTake (fun vs H Q E h => ?_) (fun f cdv A outer s H vs Q E hr h => ?_)
  · obtain ⟨p, m, rfl, _⟩ := h
    rfl
  · obtain ⟨p, m, rfl, ⟨ns, hl, hn, hb⟩, m0, q⟩ := h
    refine ⟨_, (pss_cons (ps_if (pt_not (pt_truth (pv 0) (by intro _; rfl)))
      (pss_one (ps_ret pe_int))
      pss_nil)
      (pss_one (ps_ret (pe_op op_mod (pe_callTy call_int1 (by rfl) T.b_int (by decide +kernel) (pa_cons (pe_bm PySem.F.plainAttrs_list PySem.F.slot_list_pop type_pop mt_popAt (pv 0) (pa_cons pe_int pa_nil)) pa_nil)) (pv 1))))), ?_⟩
    refine ⟨_, rfl, !(ns.map V.int).isEmpty, .inl ⟨_, SqL.of hl, rfl⟩, ?_⟩
    cases ns with
    | nil => exact iteT (q 0 H (Int.le_refl _) m0 Fx.refl ⟨[], hl, hn, hb⟩)
    | cons n ns =>
      refine iteF ?_
      refine ⟨_, rfl, .inl ⟨rfl, _, .inl (.inl hl)⟩, p, _, 0, 0, .int n, rfl, rfl, hl, by decide, by decide, by simp [seqIndex?], rfl, ?_⟩
      refine .inl ⟨n, rfl, _, rfl, n, m, rfl, rfl, m0, ?_⟩
      refine q _ _ (Int.emod_nonneg _ (by omega)) (Int.emod_lt_of_pos _ m0) Fx.set ⟨ns, upd_same, ?_, fun z hz => hb z (List.mem_cons_of_mem _ hz)⟩
      rw [List.length_cons] at hn
      omega
end
end Lw
namespace Lw
open PySem PySem.Spec PyProof.Rows L2 GrT
section
variable {P : Program} {w : World} {K : PySem.W.Frag} {mg : Str → Option Value} {base : Heap}
theorem scNumber : FnScope ["tape", "number", "k"] ["tape"] (defScope sNumber) := ⟨rfl, rfl, rfl, by decide +kernel, rfl, by decide +kernel, by decide +kernel⟩
theorem pow_step {m d : Int} {i : Nat} (h0 : 0 ≤ m) (h : m < 720720 ^ i) (d0 : 0 ≤ d) (d1 : d < 720720) : 0 ≤ m * 720720 + d ∧ m * 720720 + d < 720720 ^ (i + 1) := by
  have e : (720720 : Int) ^ (i + 1) = 720720 ^ i * 720720 := Int.pow_succ _ _
  rw [e]
  generalize (720720 : Int) ^ i = q at h
  omega
theorem c_number (T : Bt mg) (D : Dfn K mg "_law_number" sNumber ["tape"]) (c_law_take : Cal P w K mg base 1 "_law_take" spTake) : Cal P w K mg base 2 "_law_number" spNumber := by
  refine D.cal scNumber (fun vs H Q E h => ?_) (fun f cdv A outer s H vs Q E hr h => ?_)
  · obtain ⟨p, rfl, _⟩ := h
    rfl
  · obtain ⟨p, rfl, tp, q⟩ := h
    refine ⟨_, (pss_cons (ps_if (pt_cmpR op_lt (pe_c c_law_take hr (by decide) rfl (pa_cons (pv 0) (pa_cons pe_int pa_nil))) pe_int (nomark _))
      (pss_one (ps_ret (pe_c c_law_take hr (by decide) rfl (pa_cons (pv 0) (pa_cons pe_int pa_nil)))))
      pss_nil)
      (pss_cons (ps_set (i := 1) scNumber.nd rfl (Or.inl rfl) pe_int)
      (pss_cons (ps_for PassesOwn.never rfl (pi_range1 (by rfl) T.b_range (pa_cons pe_int pa_nil)) (pg_name (i := 2) scNumber.nd rfl (Or.inl rfl))
      (pss_one (ps_set (i := 1) scNumber.nd rfl (Or.inl rfl) (pe_op op_add (pe_op op_mul (pv 1) pe_int) (pe_c c_law_take hr (by decide) rfl (pa_cons (pv 0) (pa_cons pe_int pa_nil)))))))
      (pss_one (ps_ret (pv 1)))))), ?_⟩
    refine ⟨_, rfl, p, 4, rfl, tp, by decide, fun i H1 i0 i1 x1 t1 => ⟨_, _, rfl, rfl, _, rfl, ite2 (fun _ => ?_) (fun _ => ?_)⟩⟩
    · exact ⟨_, rfl, p, 10, rfl, t1, by decide, fun j H2 j0 j1 x2 t2 => q j H2 j0 (by omega) (x1.trans x2) t2⟩
    · refine ⟨5, rfl, by decide, by decide, for_range (lo := 0) (n := 5) (fun i σ H' => ∃ (m : Int) (kv : Option V), σ = [some (.ref p), some (.int m), kv] ∧ 0 ≤ m ∧ m < 720720 ^ i ∧ Fx p H H' ∧ Tape H' p)
        ⟨0, none, rfl, by decide, by decide, x1, t1⟩ ?_ ?_⟩
      · rintro i σ H' hi ⟨m, kv, rfl, m0, m1, x2, t2⟩
        refine ⟨_, rfl, _, _, rfl, rfl, .inr ⟨by decide, by decide⟩, _, rfl, p, 720720, rfl, t2, p72, fun d H3 d0 d1 x3 t3 => ⟨_, _, rfl, rfl, ?_⟩⟩
        have hp := pow_step m0 m1 d0 d1
        exact ⟨m * 720720 + d, _, rfl, hp.1, hp.2, x2.trans x3, t3⟩
      · rintro σ H' ⟨m, kv, rfl, m0, m1, x2, t2⟩
        have e5 : (720720 : Int) ^ 5 < 2 ^ 100 := by decide
        exact ⟨_, rfl, q m H' m0 (by omega) x2 t2⟩
theorem scWord : FnScope ["tape", "longest", "letters", "size", "word", "drawn", "k"] ["tape", "longest"] (defScope sWord) := ⟨rfl, rfl, rfl, by decide +kernel, rfl, by decide +kernel, by decide +kernel⟩
theorem abc_at : ∀ j : Nat, j < 26 → ((Str.ofString "abcdefghijklmnopqrstuvwxyz").cps.toList)[j]? = some (97 + j) := by decide +kernel
theorem abc_len : (Str.ofString "abcdefghijklmnopqrstuvwxyz").length = 26 := by decide +kernel
theorem abc_mod (d : Int) : ∃ c, letter c ∧ atI (Str.ofString "abcdefghijklmnopqrstuvwxyz").cps.toList (d % 26) = some c := by
  have h0 : 0 ≤ d % 26 := Int.emod_nonneg _ (by decide)
  have h1 : d % 26 < 26 := Int.emod_lt_of_pos _ (by decide)
  obtain ⟨j, hj⟩ : ∃ j : Nat, d % 26 = (j : Int) := ⟨(d % 26).toNat, by omega⟩
  refine ⟨97 + j, ⟨by omega, by omega⟩, ?_⟩
  rw [hj]
  exact atI_nat (abc_at j (by omega))
theorem len_tl (x : Str) : x.length = x.cps.toList.length := by simp [Str.length]
theorem cat_tl (x y : Str) : (x ++ y).cps.toList = x.cps.toList ++ y.cps.toList := SX.S_inj (by rw [SX.S_tl, ← SX.S_cat, SX.S_tl, SX.S_tl])
theorem cat_len (x y : Str) : (x ++ y).length = x.length + y.length := by rw [len_tl, len_tl x, len_tl y, cat_tl, List.length_append]
theorem Az.cat {x y : Str} (a : Az x) (b : Az y) : Az (x ++ y) := fun c hc => by
  rw [cat_tl] at hc
  rcases List.mem_append.mp hc with h | h
  · exact a c h
  · exact b c h
theorem cut_tl (x : Str) {i : Int} (h : 0 ≤ i) : (Txt.slice x none (some i)).cps.toList = x.cps.toList.take i.toNat := by
  have e := SX.slice_to (a := x.cps.toList) h
  rw [SX.S_tl] at e
  rw [e]
theorem Az.cut {x : Str} (a : Az x) {i : Int} (h : 0 ≤ i) : Az (Txt.slice x none (some i)) := fun c hc => by
  rw [cut_tl x h] at hc
  exact a c (List.mem_of_mem_take hc)
theorem cut_len (x : Str) {i : Int} (h : 0 ≤ i) : (Txt.slice x none (some i)).length = min i.toNat x.length := by rw [len_tl, cut_tl x h, List.length_take, len_tl x]
theorem one_len (c : Nat) : (⟨#[c]⟩ : Str).length = 1 := rfl
theorem Az.one {c : Nat} (h : letter c) : Az ⟨#[c]⟩ := fun d hd => by
  have e : d = c := by simpa using hd
  rw [e]
  exact h
theorem line_big {n : Nat} (h : n ≤ 100000) : n ≤ sizeLine := Nat.le_trans h (by rw [sizeLine_eq]; decide)
theorem c_word (T : Bt mg) (D : Dfn K mg "_law_word" sWord ["tape", "longest"]) (c_law_take : Cal P w K mg base 1 "_law_take" spTake) : Cal P w K mg base 2 "_law_word" spWord := by
  refine D.cal scWord (fun vs H Q E h => ?_) (fun f cdv A outer s H vs Q E hr h => ?_)
  · obtain ⟨p, m, rfl, _⟩ := h
    rfl
  · obtain ⟨p, m, rfl, tp, m0, m1, q⟩ := h
    refine ⟨_, (pss_cons (ps_set (i := 2) scWord.nd rfl (Or.inl rfl) pe_str)
      (pss_cons (ps_set (i := 3) scWord.nd rfl (Or.inl rfl) (pe_op op_add pe_int (pe_c c_law_take hr (by decide) rfl (pa_cons (pv 0) (pa_cons (pv 1) pa_nil)))))
      (pss_cons (ps_set (i := 4) scWord.nd rfl (Or.inl rfl) pe_str)
      (pss_cons (ps_while PassesOwn.never (pt_cmpR op_lt (pe_callB call_len_str (by rfl) T.b_len PySem.boot_len (pa_cons (pv 4) pa_nil)) (pv 3) (nomark _))
      (pss_cons (ps_set (i := 5) scWord.nd rfl (Or.inl rfl) (pe_c c_law_take hr (by decide) rfl (pa_cons (pv 0) (pa_cons pe_int pa_nil))))
      (pss_one (ps_for PassesOwn.never rfl (pi_range1 (by rfl) T.b_range (pa_cons pe_int pa_nil)) (pg_name (i := 6) scWord.nd rfl (Or.inl rfl))
      (pss_cons (ps_set (i := 4) scWord.nd rfl (Or.inl rfl) (pe_op op_add_str (pv 4) (pe_ix ix_str (pv 2) (pe_op op_mod (pe_callTy call_int1 (by rfl) T.b_int (by decide +kernel) (pa_cons (pv 5) pa_nil)) pe_int) (fun _ _ => rfl))))
      (pss_one (ps_set (i := 5) scWord.nd rfl (Or.inl rfl) (pe_op op_fdiv (pv 5) pe_int))))))))
      (pss_one (ps_ret (pe_slice C8.sl_txt (pv 4) po_none (po_some (pv 3))))))))), ?_⟩
    refine ⟨_, rfl, _, rfl, p, m, rfl, tp, m0, fun z H1 z0 z1 x1 t1 => ⟨_, _, rfl, rfl, ?_⟩⟩
    refine ⟨fun n σ H' => ∃ (x : Str) (dv kv : Option V), σ = [some (.ref p), some (.int m), some (.str "abcdefghijklmnopqrstuvwxyz"), some (.int (1 + z)), some (.str x), dv, kv] ∧ n = 200 - x.length ∧ x.length ≤ 150 ∧ Az x ∧ Fx p H H' ∧ Tape H' p,
      ⟨_, Str.ofString "", none, none, rfl, rfl, by decide, (fun c hc => by cases hc), x1, t1⟩, ?_⟩
    rintro n σ H' ⟨x, dv, kv, rfl, rfl, xl, xa, x2, t2⟩
    refine ⟨_, rfl, x, rfl, line_big (by omega), _, rfl, _, _, rfl, rfl, _, rfl, ite2 (fun hlt => ?_) (fun hge => ?_)⟩
    · have hlt' := of_decide_eq_true hlt
      refine ⟨fun σ' H2 => ∃ (y : Str) (dv kv : Option V), σ' = [some (.ref p), some (.int m), some (.str "abcdefghijklmnopqrstuvwxyz"), some (.int (1 + z)), some (.str y), dv, kv] ∧ y.length = x.length + 4 ∧ Az y ∧ Fx p H H2 ∧ Tape H2 p,
        fun σ' H2 hN => ?_, ?_⟩
      · obtain ⟨y, dv, kv, rfl, yl, ya, x3, t3⟩ := hN
        exact ⟨200 - y.length, by omega, y, dv, kv, rfl, rfl, by omega, ya, x3, t3⟩
      · refine ⟨_, rfl, p, 720720, rfl, t2, p72, fun d H3 d0 d1 x3 t3 => ?_⟩
        refine ⟨4, rfl, by decide, by decide, for_range (lo := 0) (n := 4) (fun i σ' H2 => ∃ (y : Str) (d : Int) (kv : Option V), σ' = [some (.ref p), some (.int m), some (.str "abcdefghijklmnopqrstuvwxyz"), some (.int (1 + z)), some (.str y), some (.int d), kv] ∧ y.length = x.length + i ∧ Az y ∧ Fx p H H2 ∧ Tape H2 p)
          ⟨x, d, kv, rfl, rfl, xa, x2.trans x3, t3⟩ ?_ ?_⟩
        · rintro i σ' H2 hi ⟨y, d, kv, rfl, yl, ya, x4, t4⟩
          obtain ⟨c, hc, hat⟩ := abc_mod d
          refine ⟨_, rfl, _, rfl, _, rfl, .inl ⟨_, rfl, _, _, rfl, rfl, (by decide : (0 : Int) < 26), ?_⟩⟩
          refine ⟨_, _, c, rfl, rfl, by rw [abc_len]; exact line_big (by decide), hat, _, _, rfl, rfl, ?_, ?_⟩
          · rw [one_len]
            exact line_big (by omega)
          · refine ⟨_, rfl, _, _, rfl, rfl, ⟨by decide, by decide⟩, ?_⟩
            exact ⟨_, _, _, rfl, by rw [cat_len, yl, one_len]; omega, ya.cat (Az.one hc), x4, t4⟩
        · rintro σ' H2 ⟨y, d, kv, rfl, yl, ya, x4, t4⟩
          exact ⟨y, _, _, rfl, yl, ya, x4, t4⟩
    · have hge' : ¬ ((x.length : Int) < 1 + z) := fun c => hge (decide_eq_true c)
      refine ⟨_, rfl, _, rfl, _, rfl, x, rfl, line_big (by omega), ?_⟩
      have h1z : 0 ≤ 1 + z := by omega
      refine q _ H' ?_ ?_ (xa.cut h1z) x2 t2
      · rw [cut_len x h1z]
        omega
      · rw [cut_len x h1z]
        omega
end
end Lw
/-! Defs called within an except suite whose promise speaks of the exception in hand; what is asked of that exception there; a list comprehension over a range there. -/
namespace Hp18
open PySem PySem.Spec PyProof.Rows L2 HotX L2H
abbrev SpP := Addr → Obj → Sp
structure FnHP (P : Program) (w : World) (K : PySem.W.Frag) (mg : Str → Option Value) (base : Heap) (CX : CXT) (k : Nat) (f : Addr) (fd : FuncData) (ps : List Str) (sp : SpP) : Prop where
  len : ∀ a o vs H Q E, sp a o vs H Q E → vs.length = ps.length
  run : ∀ (A : Around) (outer : List Env) (s : Shared) (H : Hp) (args : Args) (us : List Value) (vs : List V) (Q : VK) (E : XK) (p : Addr × Obj), RoomH k A → Hot1 A p → PinOk outer H s p → Env0 P w K mg base A outer s H → BindsTo s fd args (ps.zip us) → Vals vs us → sp p.1 p.2 vs H Q E →
    codeAny (model P w) A (.call (.ref f) args) (CR CX outer P w H s Q E) s
theorem fnHP_of {CX : CXT} {P : Program} {w : World} {K : PySem.W.Frag} {mg : Str → Option Value} {base : Heap} {k : Nat} {f : Addr} {name qual : Str} {params : Arguments} {body : List Stmt} {scope : Scope} {dV kV doc pm cdv ct oc : Value} {an od : Option Addr}
    {osl : Array (Option Value)} {N ps : List Str} {sp : SpP} (lk : K.lookup f = some ⟨oc, od, .func (PySem.W.fnOf name qual params body scope dV kV doc pm an cdv ct), osl⟩) (hcd : PySem.W.codeIn K cdv qual = true) (S : FnScope N ps scope)
    (len : ∀ a o vs H Q E, sp a o vs H Q E → vs.length = ps.length)
    (hbody : ∀ (A : Around) (outer : List Env) (s : Shared) (H : Hp) (vs : List V) (Q : VK) (E : XK) (p : Addr × Obj), Hot1 A p → RoomH k (A.deeper (envOfC qual scope s.heap.objs.size f cdv)) → sp p.1 p.2 vs H Q E →
      ∃ t, PSs (cxH CX P w K mg base N qual scope f cdv A outer s H E p) body t ∧ t { nx := fun _ H' => Q .non H', rt := Q } (L2.start N vs) H) :
    FnHP P w K mg base CX (k + 1) f (PySem.W.fnOf name qual params body scope dV kV doc pm an cdv ct) ps sp := by
  refine ⟨len, fun A outer s H args us vs Q E p hr hot hpin e0 hb r hsp => ?_⟩
  have hl := len _ _ _ _ _ _ hsp
  have KX : K.In s.heap := e0.mod.kin.keeps fun b o e => (e0.bs b o e).1
  have lim : s.heap.NoLimit := e0.mod.nolimit.keeps fun b o e => (e0.bs b o e).1
  have hkind : ∀ y ∈ ps.zip us, scope.names.lookup y.1 = some .local ∨ (scope.names.lookup y.1 = some .cell ∧ ((cellsFrom (s.heap.objs.size + 1) scope.names []).lookup y.1).isSome = true) := fun ⟨n, v⟩ hy =>
    (S.par n (List.of_mem_zip hy).1).imp id fun q => ⟨q, PySem.W.cellsFrom_some _ _ _ (.inl q)⟩
  refine codeAny_call_function hr.depth (KX _ _ lk) rfl S.co S.gen rfl (PySem.W.codeRec_of KX hcd) (hb _ _ _ _ ?_)
  refine wpAny_newFunctionEnv_cells S.kind hkind fun env he s1 x => ?_
  subst he
  refine ⟨lim.keeps x.toInCall.keep, codeAny_func ?_⟩
  obtain ⟨t, ht, hq⟩ := hbody A outer s H vs Q E p hot (hr.deeper _) hsp
  have I : Inv (cxH CX P w K mg base N qual scope f cdv A outer s H E p) [] (L2.start N vs) H s1 := inv_startH S hpin e0 hl r x
  refine wpAny_mono (ht.run [] s1 (L2.start N vs) H _ I hq) (fun fl s' hs => ?_) fun e s' hs => hs
  match fl, hs with
  | .ret u, ⟨v, σ', H', J, rv, q⟩ => exact ⟨v, H', J.os, J.bare, J.base, J.hok, rv, q⟩
  | .next, ⟨σ', H', J, q⟩ => exact ⟨V.non, H', J.os, J.bare, J.base, J.hok, rfl, q⟩
  | .brk, ⟨_, _, _, q⟩ => exact q.elim
  | .cont, ⟨_, _, _, q⟩ => exact q.elim
section
variable {X : Cx} {CX : CXT} {k : Nat} {f : Addr} {fd : FuncData} {ps : List Str} {sp : SpP} {E : L2.St → XK} {x : Str} {q pos : Pos} {e : Expr} {es : List Expr} {t : TA}
theorem pe_callHP {p : Addr × Obj} (F : FnHP X.prog X.w X.K X.mg X.base CX k f fd ps sp) (hr : RoomH k X.A) (hot : Hot1 X.A p) (hp : p ∈ X.pn) (hg : Gl X x) (hm : X.mg x = some (.ref f)) (hk : PySem.W.keepIn X.K (.ref f) = true) (hb : Binds X.K fd ps []) (hx : ∀ σ, PassesAt CX X σ (E σ))
    (ha : PA X (e :: es) t) (hdb : (x == ("__debug__" : Str)) = false := by decide) (he : starEach (e :: es) X.env = (false, eval e X.env) :: starEach es X.env := by rfl) (hpl : (backTo pos (starEach es X.env)).any (·.1) = false := by rfl) :
    PE X (.Call (.Name x q) (e :: es) [] pos) (tCallS (sp p.1 p.2) E t) := by
  refine ⟨fun pins s σ H Q I h => ?_⟩
  refine wpAny_Call_Name_kw (ld_glob I hg hm ?_ hdb)
  refine PySem.W.callWith_K (h₀ := X.base) I.ok.mod.kin hk (thn (ha.run pos pins s σ H _ I h) fun us s1 ⟨vs, H1, I1, r, z⟩ => ⟨I1.kIn, ?_⟩) he hpl
  have hl : us.length = ps.length := by rw [← r.length]; exact F.len _ _ _ _ _ _ z
  have b := hb s1 us I1.kIn (by rw [List.append_nil]; exact hl)
  rw [List.append_nil] at b
  have P1 := I1.pin p (List.mem_append_left _ hp)
  have hpin : PinOk X.stack H1 s1 p := ⟨P1.1, P1.2.1, fun hm => (List.mem_cons.mp (I1.stkSub p.1 hm)).elim P1.2.2.1 P1.2.2.2.1, P1.2.2.2.2⟩
  refine wpAny_call (codeAny_mono (F.run X.A X.stack s1 H1 ⟨us, []⟩ us vs Q (E σ) p hr hot hpin I1.env0 b r z) fun r s' hq => ?_)
  match r, hq with
  | .error e, hq => exact hx σ pins H1 s1 e s' I1 hq
  | .ok (.ret u), hq => exact I1.after hq
end
/-! ### the exception in hand -/
/-- its dict, if there is one, with these fields -/
def DctE (H : Hp) (d : Option Addr) (fs : List (Str × V)) : Prop := (d = none ∧ fs = []) ∨ ∃ dd, d = some dd ∧ H dd = some (.xd fs)
def rIsP (K : PySem.W.Frag) (D a : Addr) (d : Option Addr) : List V → Hp → VK → Prop := fun xs H Q => ∃ (c : V) (cv : Value) (b : Bool) (fs : List (Str × V)), xs = [.ref a, c] ∧ ClsV c cv ∧ DctE H d fs ∧ PySem.W.kitOne K (.ref D) cv = some b ∧ Q (.bl b) H
theorem call_isP {X : Cx} {a D : Addr} {oe : Obj} {d : Option Addr} (hp : (a, oe) ∈ X.pn) (C : ExcC X.K D) (hz : Zc (.ref D) d oe) (hf : ∃ vs, oe.data = .fields vs) : CallR X (.builtin "isinstance") (rIsP X.K D a d) := by
  intro pins s σ H xs us Q I r h
  obtain ⟨c, cv, b, fs, rfl, hcv, hd, e, q⟩ := h
  obtain ⟨u, v, rfl, ru, rv⟩ := vals2 r
  cases ru
  have ev := hcv.eq rv
  subst ev
  obtain ⟨ha, _⟩ := I.pin (a, oe) (List.mem_append_left _ hp)
  obtain ⟨vs, hv⟩ := hf
  have fin : ∀ {od : Option Obj}, PySem.W.InstAt s.heap a oe D od → PySem.W.KitX X.K (.ref a) (.ref D) (fun h => PySem.W.InstAt h a oe D od) → _ := fun {od} J KX =>
    PySem.W.kia_one (prog := X.prog) (w := X.w) (A := X.A) (Q := EP X pins σ Q) (E := X.xe) KX I.kIn J e (fun z => nomatch z) fun tk => ⟨.bl b, H, I.kept (t' := tk) fun _ _ z => z, rfl, q⟩
  rcases hd with ⟨rfl, _⟩ | ⟨dd, rfl, hd⟩
  · have J : PySem.W.InstAt s.heap a oe D none := by
      obtain ⟨oc, od, oda, osl⟩ := oe
      obtain ⟨h1, h2⟩ := hz
      dsimp only at h1 h2 hv
      subst h1 h2 hv
      exact ⟨ha, rfl, rfl, trivial⟩
    exact fin J (PySem.W.handS_kitx_exc C.hg C.hk C.hs C.hd C.ha C.hn C.ht C.hm)
  · have hx : ObjOk X.prog X.w H s.heap dd (.xd fs) := I.hok dd _ hd
    obtain ⟨mA, hns, _⟩ := hx
    obtain ⟨od, ho, _⟩ := lookIn_ns hns
    have J : PySem.W.InstAt s.heap a oe D (some od) := ⟨ha, hz.1, by unfold PySem.W.notCls; rw [hv] <;> rfl, by rw [hz.2]; exact ho⟩
    exact fin J (PySem.W.kitx_exc (by obtain ⟨cd, hc, _⟩ := PySem.W.any_some C.hd; rw [hc]; rfl) C.hg C.hk C.hs C.ha C.hn C.ht C.hm)
/-- e.f, e the exception in hand -/
def tXp (a : Addr) (d : Option Addr) (f : Str) (te : TE) : TE := fun σ H Q => te σ H fun x H1 => x = .ref a ∧ ∃ (dd : Addr) (fs : List (Str × V)) (v : V), d = some dd ∧ H1 dd = some (.xd fs) ∧ fs.lookup f = some v ∧ Q v H1
theorem pe_xp {X : Cx} {a C : Addr} {oe : Obj} {d : Option Addr} {e : Expr} {te : TE} {pos : Pos} {n : Str} (hp : (a, oe) ∈ X.pn) (T : XfC X.K C) (hno : PySem.W.findIn X.K (.ref C) n = some none)
    (hz : Zc (.ref C) d oe) (hf : ∃ vs, oe.data = .fields vs) (he : PE X e te) (hb : attributeBase e n X.env (eval e X.env) = eval e X.env := by rfl) :
    PE X (.Attribute e n pos) (tXp a d n te) := by
  refine ⟨fun pins s σ H Q I h => ?_⟩
  refine attr_of hb (thn (he.run pins s σ H _ I h) fun u s1 hh => ?_)
  obtain ⟨x, H1, I1, rx, ex, dd, fs, v, ed, ea, l, q⟩ := hh
  subst ex
  obtain rfl : u = Value.ref a := rx
  subst ed
  obtain ⟨ha, _⟩ := I1.pin (a, oe) (List.mem_append_left _ hp)
  obtain ⟨vs, hd⟩ := hf
  have hx : ObjOk X.prog X.w H1 s1.heap dd (.xd fs) := I1.hok dd _ ea
  obtain ⟨mA, hns, hr⟩ := hx
  obtain ⟨od, ho, hl⟩ := lookIn_ns hns
  obtain ⟨u, hu, ru⟩ := RelO.some_of (v := v) (o := mA n) (by rw [← l]; exact hr n)
  have J : PySem.W.InstAt s1.heap a oe C (some od) := ⟨ha, hz.1, by unfold PySem.W.notCls; rw [hd] <;> rfl, by rw [hz.2]; exact ho⟩
  exact HandSPX.exc_get I1.kIn J T.ga T.gg T.exC (PySem.W.findObj_own T.hdC hno rfl (by rw [hl, hu])) (handed_of ru) ⟨v, H1, I1.tok _, ru, q⟩
end Hp18
/-! [elt for x in range(..)] within an except suite. -/
namespace Hp18
open PySem PySem.Spec PyProof.Rows L2 HotX L2H
/-- the block's context, with the exception in hand -/
abbrev blkP (X : Cx) (s : Shared) (H : Hp) (scope : Scope) (ce : Env) (fp : List Addr) (p : Addr × Obj) : Cx := { X.blk s H scope ce fp with pn := [p] }
theorem blkP_of {X : Cx} {s : Shared} {H : Hp} {scope : Scope} {ce : Env} {fp : List Addr} {p : Addr × Obj} {σ : L2.St} {H' : Hp} {s' : Shared} (I : Inv (X.blk s H scope ce fp) [] σ H' s')
    (hp : s'.heap.get? p.1 = some p.2 ∧ H' p.1 = none ∧ p.1 ≠ ce.locals ∧ p.1 ∉ frs X.stack ∧ ∀ v, p.2.data ≠ .cell v) : Inv (blkP X s H scope ce fp p) [] σ H' s' :=
  ⟨⟨I.ok.mod, I.ok.kind, I.ok.glob, I.ok.blt, I.ok.above, I.ok.inj, I.ok.has, I.ok.cab, I.ok.hd, I.ok.frames, I.ok.stk, I.ok.exf, I.ok.bs, I.ok.bsz, I.ok.noex, I.ok.exfs, I.ok.funs, I.ok.frf⟩, I.os, I.bare, I.base, I.loc, I.cell, I.free, I.freeC,
    fun q hq => by
      have e : q = p := by simpa using (show q ∈ [p] ++ ([] : List (Addr × Obj)) from hq)
      rw [e]
      exact hp, I.hok, I.len⟩
section
variable {X : Cx} {p : Addr × Obj} {elt tg iter : Expr} {scope : Scope} {own : List (Str × Nat)} {pos : Pos} {wi : TI} {g : TG} {te : TE}
theorem pe_lcH (hot : Hot1 X.A p) (hpn : p ∈ X.pn) (hN : X.N.Nodup) (hi : PIH X tg iter wi) (ok : BlkOk X.N X.env.scope scope own)
    (hg : ∀ (s : Shared) (H : Hp) (C : Addr) (cl : List (Str × Addr)) (fp : List Addr), PG (blkP X s H scope (compEnvC scope cl C X.env) fp p) tg g)
    (he : ∀ (s : Shared) (H : Hp) (C : Addr) (cl : List (Str × Addr)) (fp : List Addr), PE (blkP X s H scope (compEnvC scope cl C X.env) fp p) elt te) (hs : ∀ x, foldedSetIterable iter X.env x = pure x := by intro _; rfl) :
    PE X (.ListComp elt [⟨tg, iter, [], 0⟩] scope pos) (tLc wi g tYes te (own.map (·.2))) := by
  refine ⟨fun pins s σ H Q I h => ?_⟩
  rw [eval_ListComp]
  have hfree : ∀ y ∈ scope.names, y.2 = .free → ∃ c, X.env.cells.lookup y.1 = some c := fun y hy e => (ok.free y hy e).elim (fun k => I.ok.has _ (.inl k)) fun k => I.ok.has _ (.inr k)
  refine wpAny_comprehension_free (use := none) rfl hs (closure_ok hfree) ok.kind (fun y hy e => by rw [ok.uniq y hy, e])
    (thn (hi.run pins s σ H _ I h) fun xv s1 hx => thn hx fun itv s2 h2 => ?_)
  obtain ⟨it, fp, tn, J, H2, e, I2, T, st2, f2, q⟩ := h2
  subst e
  refine wpAny_newObj_type (newEnv_comp ?_) (by show 0 ≤ sizeLine; decide)
  generalize hD : s2.heap.objs.size = D
  obtain ⟨W, ⟨m0, w0⟩, turn⟩ := q D (I2.hok.fresh (Nat.le_of_eq hD))
  generalize hs3 : ({ s2 with heap := s2.heap.push { cls := .type "list", data := .seq ([] : List Value).toArray } } : Shared) = s3
  have h3 : s3.heap = s2.heap.push { cls := .type "list", data := .seq ([] : List Value).toArray } := by rw [← hs3]
  have I3 : Inv X pins σ (upd H2 D (.lst [])) s3 := by
    rw [← hs3]
    refine I2.laid (t' := s2.toks) (fun b o e => Heap.get?_push_of_some _ e) (Nat.le_of_eq hD) ⟨Nat.zero_le _, [], 0, .nil, ?_⟩
    rw [← hD]
    exact Heap.get?_push_size _ rfl
  have f3 : ∀ b ∈ fp, FpOk X pins (upd H2 D (.lst [])) b ∧ b < s3.heap.objs.size := fun b hb => by
    obtain ⟨o, e, _⟩ := T.obj _ _ st2 b hb
    have hlt := Heap.lt_size e
    refine ⟨⟨?_, (f2 b hb).2⟩, by rw [h3, Heap.size_push]; exact Nat.lt_succ_of_lt hlt⟩
    rw [upd_ne (by rw [← hD]; exact Nat.ne_of_lt hlt)]
    exact (f2 b hb).1
  have st3 : tn 0 s3.heap := T.keep _ _ _ st2 fun b _ o e => by rw [h3]; exact Heap.get?_push_of_some _ e
  have P3 := I3.pin p (List.mem_append_left _ hpn)
  have pfr : p.1 ∉ frs X.stack := fun hm => (List.mem_cons.mp (I3.stkSub p.1 hm)).elim P3.2.2.1 P3.2.2.2.1
  have pfp : ∀ b ∈ fp, p.1 ≠ b := fun b hb => (f3 b hb).1.2.2.2.2.2 p (List.mem_append_left _ hpn)
  have I4 := block_start I3 ok hN f3
  show codeAny _ _ (.compStart (.ListComp elt [⟨tg, iter, [], 0⟩] scope pos) 0 (.ref it) (.ref D) (compEnvC scope (cellsFrom (s3.heap.objs.size + 1) scope.names (cloFrom X.env.cells scope.names [])) s3.heap.objs.size X.env)) (compPost (model X.prog X.w) X.A X.xe none (EP X pins σ Q) (.ref D) s3.heap.objs.size) { s3 with heap := pushCells (s3.heap.push { cls := .type "dict", data := .dict #[] }) scope.names }
  generalize hcl : cellsFrom (s3.heap.objs.size + 1) scope.names (cloFrom X.env.cells scope.names []) = cl at I4
  have pg := hg s3 (upd H2 D (.lst [])) s3.heap.objs.size cl fp
  have pe := he s3 (upd H2 D (.lst [])) s3.heap.objs.size cl fp
  have nfp : ∀ b ∈ fp, (upd H2 D (.lst [])) b = none := fun b hb => (f3 b hb).1.1
  have I4p := blkP_of (p := p) I4 ⟨pushCells_keeps _ _ _ _ (Heap.get?_push_of_some _ P3.1), P3.2.1, Nat.ne_of_lt (Heap.lt_size P3.1), pfr, P3.2.2.2.2⟩
  generalize hce : compEnvC scope cl s3.heap.objs.size X.env = ce at I4p pg pe ⊢
  have cL : ce.locals = s3.heap.objs.size := by subst hce; rfl
  generalize hH3 : upd H2 D (.lst []) = H3 at I3 I4p pg pe w0 nfp f3
  generalize hs4 : ({ s3 with heap := pushCells (s3.heap.push { cls := .type "dict", data := .dict #[] }) scope.names } : Shared) = s4 at I4p ⊢
  have st4 : tn 0 s4.heap := T.keep _ _ _ st3 fun b _ o e => by rw [← hs4]; exact pushCells_keeps _ _ _ _ (Heap.get?_push_of_some _ e)
  have hcB : HotC (blkP X s3 H3 scope ce fp p) := ⟨p, hot, List.mem_singleton.mpr rfl⟩
  have stat : ∀ {σ' : L2.St} {H' : Hp} {s' : Shared}, Inv (blkP X s3 H3 scope ce fp p) [] σ' H' s' → (∀ b ∈ fp, H' b = none) → ∀ b ∈ fp, FpOk (blkP X s3 H3 scope ce fp p) [] H' b := fun {σ' H' s'} I' hn b hb =>
    ⟨hn b hb, (I'.ok.exf b hb).1, I'.ok.exfs b hb, .inl hb, fun x c e => (I'.ok.exf b hb).2 x c e, fun z hz => by
      have e : z = p := by simpa using (show z ∈ [p] ++ ([] : List (Addr × Obj)) from hz)
      rw [e]
      exact pfp b hb⟩
  have loop : codeAny (model X.prog X.w) X.A (.compLoop (.ListComp elt [⟨tg, iter, [], 0⟩] scope pos) 0 (.ref it) (.ref D) ce) (compPost (model X.prog X.w) X.A X.xe none (EP X pins σ Q) (.ref D) s3.heap.objs.size) s4 := by
    refine compLoop_any (fun n s' => ∃ i H', Inv (blkP X s3 H3 scope ce fp p) [] (wipe σ (own.map (·.2))) H' s' ∧ tn i s'.heap ∧ (∀ b ∈ fp, H' b = none) ∧ W i n H') ?_ m0 ⟨0, H3, I4p, st4, nfp, w0⟩
    rintro n s5 ⟨i, H5, I5, st5, n5, w5⟩
    rcases turn i n H5 w5 with ⟨stop, qq⟩ | ⟨go, Nx, hNx, step⟩
    · refine thnF (T.done (blkP X s3 H3 scope ce fp p) rfl rfl rfl hcB i [] s5 _ H5 (fun _ _ => False) I5 (stat I5 n5) st5 stop) fun r s6 ⟨hr, I6⟩ => ?_
      subst hr
      have I7 : Inv X pins σ H5 s6 := I3.call' (ch := fp) I6.os I6.base I6.hok I6.bare fun b hb => ⟨(f3 b hb).1.2.2.2.1, (f3 b hb).1.2.1, (f3 b hb).1.2.2.2.2.1, (f3 b hb).1.2.2.2.2.2⟩
      have nC : H5 s3.heap.objs.size = none := by
        have z : H5 ce.locals = none := I6.free
        rw [cL] at z
        exact z
      obtain ⟨m, hn, _⟩ := I6.loc
      have hn : s6.heap.Ns ce.locals m := hn
      rw [cL] at hn
      obtain ⟨f0, f1, f2', f3', f4, f5⟩ := I3.fpOk (Nat.le_refl _) nC
      exact ⟨m, hn, fun h'' sb => ⟨.ref D, H5, I7.turned (t' := s6.toks) (fun b o hb e => (sb.2 b hb).trans e) f0 f1 f3' f4 f5, rfl, qq⟩⟩
    · refine thnF (T.item (blkP X s3 H3 scope ce fp p) rfl rfl rfl hcB i [] s5 _ H5 (fun _ _ => False) I5 (stat I5 n5) st5 go) fun r s6 ⟨u, hr, h6⟩ => ?_
      subst hr
      refine thnF h6 fun _ s7 ⟨x, H7, I7, r7, y7, st7, n7⟩ => ?_
      have I7' := I7.pinned (stat I7 n7) (T.obj _ _ st7)
      refine thnF (pg.run _ s7 _ H7 x u _ I7' r7 (step x H7 y7)) fun _ s8 ⟨σ8, H8, I8, hw8, q8⟩ => ?_
      refine thnF ((pts_nil (X := blkP X s3 H3 scope ce fp p)).run _ s8 σ8 H8 _ I8 q8) fun b s9 ⟨H9, I9, q9⟩ => ?_
      have fin : ∀ {s' : Shared} {H' : Hp}, Inv (blkP X s3 H3 scope ce fp p) ([] ++ pinsAt fp s7.heap) σ8 H' s' → Nx H' → ∃ m, m < n ∧ ∃ i H', Inv (blkP X s3 H3 scope ce fp p) [] (wipe σ (own.map (·.2))) H' s' ∧ tn i s'.heap ∧ (∀ b ∈ fp, H' b = none) ∧ W i m H' := fun {s' H'} I' nx => by
        obtain ⟨m', hm, w'⟩ := hNx H' nx
        have pin' : ∀ b ∈ fp, ∀ o, s7.heap.get? b = some o → s'.heap.get? b = some o ∧ H' b = none := fun b hb o e =>
          let z := I'.pin (b, o) (List.mem_append_right _ (List.mem_append_right _ (mem_pinsAt hb e)))
          ⟨z.1, z.2.1⟩
        have hl : (wipe σ (own.map (·.2))).length = σ8.length := by rw [← hw8, wipe_length]
        refine ⟨m', hm, i + 1, H', (I'.unpinned (pins := [])).weak hl (fun j v e => ?_), T.keep _ _ _ st7 fun b hb o e => (pin' b hb o e).1, fun b hb => ?_, w'⟩
        · rw [← hw8] at e
          exact (wipe_some e).1
        · obtain ⟨o, e, _⟩ := T.obj _ _ st7 b hb
          exact (pin' b hb o e).2
      cases b with
      | false =>
        simp only [Bool.false_eq_true, if_false] at q9 ⊢
        exact fin I9 q9
      | true =>
        simp only [if_true] at q9 ⊢
        refine thnF (pe.run _ s9 σ8 H9 _ I9 q9) fun z s10 ⟨yv, H10, I10, r10, acc, hD10, hz10, nx⟩ => ?_
        exact app_ok (X := blkP X s3 H3 scope ce fp p) I10 hD10 hz10 r10 fun s11 I11 => fin I11 nx
  exact codeAny_compStart_list loop (T.self X.A 0 _ _ _ st4 loop)
end
end Hp18
/-! C(..), C an own exception class with its own __init__, whose context is None; a dict it may have or not. -/
namespace Hp18
open PySem PySem.Spec PyProof.Rows L2 HotX L2H
def tMkN (C : Addr) (sp : Sp) (ta : TA) : L2.St → Hp → XK → Prop := fun σ H Q => ta σ H fun vs H1 => vs.length ≤ 1000 ∧ ∀ a, H1 a = none → sp (.ref a :: vs) (upd H1 a (exo a C none))
  (fun v H2 => v = .non ∧ ((∃ (d : Addr) (fs : List (Str × V)), H2 a = some (exo a C (some d)) ∧ H2 d = some (exd d fs) ∧ H1 d = none ∧ Q (.ref C) (some d) (upd (del H2 a) d (.xd fs))) ∨ (H2 a = some (exo a C none) ∧ Q (.ref C) none (del H2 a)))) (fun _ _ _ => False)
theorem mk_endN {X : Cx} {pins : List (Addr × Obj)} {σ : L2.St} {H1 H2 : Hp} {hp hp2 h2 : Heap} {g1 g2 : Array GenState} {d1 d2 : Drawn} {t1 t2 : Nat} {os1 os2 : OsState} {a C : Addr} (I1 : Inv X pins σ H1 ⟨hp, g1, d1, t1, os1⟩)
    (ha : hp.objs.size ≤ a) (k : ∀ b o, hp.get? b = some o → hp2.get? b = some o) (un : Un (frs X.stack) [] (upd H1 a (exo a C none)) H2 hp2 h2) (hok : HOk X.prog X.w H2 h2) (ho : os2 = os1) (hb : AllBare g2)
    (ea : H2 a = some (exo a C none)) :
    ∃ (t0 : Addr) (G : Heap), Inv X pins σ (del H2 a) ⟨G, g2, d2, t2, os2⟩ ∧ (∀ b o, G.get? b = some o → h2.get? b = some o) ∧ G.get? a = none ∧
      h2.get? a = some ({ cls := .ref C, dict := none, data := .fields #[.ref t0, .none, .none, .none, .bool false, .none] } : Obj) ∧ del H2 a a = none := by
  obtain ⟨t0, hoe⟩ := exo_at hok ea
  have hn : H1 a = none := I1.hok.fresh ha
  obtain ⟨G, g1', g2'⟩ := restrict h2 fun b => decide (b ≠ a)
  have gk : ∀ b, b ≠ a → G.get? b = h2.get? b := fun b hb => g1' b (decide_eq_true hb)
  have ge : G.get? a = none := g2' a (by simp)
  have nha : ∀ {b : Addr} {o : Obj}, hp.get? b = some o → b ≠ a := fun {b o} z => Nat.ne_of_lt (Nat.lt_of_lt_of_le (Heap.lt_size z) ha)
  have up : ∀ {b : Addr}, b ≠ a → H1 b = none → upd H1 a (exo a C none) b = none := fun {b} hb n => by rw [upd_ne hb]; exact n
  have U : Un (frs X.stack) [] H1 (del H2 a) hp G := {
    keep := fun b o z n hf hx => (gk b (nha z)).trans (un.keep b o (k b o z) (up (nha z) n) hf hx)
    slot := fun b o z n hf hx => by
      rw [gk b (nha z)]
      exact un.slot b o (k b o z) (up (nha z) n) hf hx
    free := fun b o z n hx => by
      rw [del_ne (nha z)]
      exact un.free b o (k b o z) (up (nha z) n) hx
    there := fun b o z hx => by
      rw [gk b (nha z)]
      exact un.there b o (k b o z) hx
    tups := fun b xs z => by
      rw [del_ne (ne_of_none z hn)]
      exact un.tups b xs (by rw [upd_ne (ne_of_none z hn)]; exact z)
    frzs := fun b o v z => by
      rw [del_ne (ne_of_none z hn)]
      exact un.frzs b o v (by rw [upd_ne (ne_of_none z hn)]; exact z)
    tbls := fun b ps z => by
      rw [del_ne (ne_of_none z hn)]
      exact un.tbls b ps (by rw [upd_ne (ne_of_none z hn)]; exact z) }
  have hok3 : HOk X.prog X.w (del H2 a) G := fun b o z => by
    have hba : b ≠ a := fun e => by
      rw [e, del_same] at z
      cases z
    rw [del_ne hba] at z
    have noa : ∀ {c : Addr}, H2 c = some (.own b) → c ≠ a := fun {c} hc => at_ne ea hc exo_own
    exact (hok b o z).stay (fun c v hc y => by
        have hca : c ≠ a := by
          rcases hc with hc | hc
          · rw [hc]
            exact hba
          · exact noa hc
        rw [gk c hca]
        exact y)
      (fun c hc => by rw [del_ne (noa hc)]; exact hc) (fun c xs hc => by rw [del_ne (at_ne ea hc exo_tup)]; exact hc)
  have J : Inv X pins σ (del H2 a) ⟨G, g2, d2, t2, os2⟩ := I1.call' (ch := []) ho U hok3 hb (fun b z => absurd z (by simp))
  refine ⟨t0, G, J, fun b o z => ?_, ge, hoe, del_same⟩
  by_cases hba : b = a
  · rw [hba, ge] at z
    cases z
  · exact (gk b hba).symm.trans z
section
variable {X : Cx} {CX : CXT} {x : Str} {C fI : Addr} {k : Nat} {fd : FuncData} {ps : List Str} {sp : Sp}
theorem mk_core {pins : List (Addr × Obj)} {σ : L2.St} {H1 : Hp} {s1 : Shared} {us : List Value} {vs : List V} {Q : XK} (T : OexC X.K C) (iC : PySem.W.findIn X.K (.ref C) "__init__" = some (some (.ref fI))) (tI : PySem.W.typeIn X.K (.ref fI) = some (.type "function"))
    (F1 : FnOk X.prog X.w X.K X.mg X.base CX k fI fd ps sp) (hr : Room (k + 1) X.A) (hb : Binds X.K fd ps []) (hx : Passes CX X (fun _ _ _ => False)) (I1 : Inv X pins σ H1 s1) (r1 : Vals vs us) (hz : vs.length ≤ 1000)
    (q1 : ∀ a, H1 a = none → sp (.ref a :: vs) (upd H1 a (exo a C none)) (fun v H2 => v = .non ∧ ((∃ (d : Addr) (fs : List (Str × V)), H2 a = some (exo a C (some d)) ∧ H2 d = some (exd d fs) ∧ H1 d = none ∧ Q (.ref C) (some d) (upd (del H2 a) d (.xd fs))) ∨ (H2 a = some (exo a C none) ∧ Q (.ref C) none (del H2 a)))) (fun _ _ _ => False)) :
    wpAny (model X.prog X.w) X.A (call (.ref C) us) (L2N.MkP X pins σ Q) X.xe s1 := by
  obtain ⟨nm, q, N, bs, bm, sn, sub, ab, col, dd, k0, k1, k2, k3, k5, hC, hbm⟩ := T.cls
  obtain ⟨hp, g, dr, tk, os⟩ := s1
  have hsz : hp.objs.size ≤ hp.objs.size + 1 := Nat.le_succ _
  have hn : H1 (hp.objs.size + 1) = none := I1.hok.fresh hsz
  have hq := q1 (hp.objs.size + 1) hn
  have kk : ∀ b o, hp.get? b = some o → ((hp.push (PySem.W.kdv_tup us)).push (PySem.HandSPX.excO C hp.objs.size)).get? b = some o := fun b o e => Heap.get?_push_of_some _ (Heap.get?_push_of_some _ e)
  have hget : ((hp.push (PySem.W.kdv_tup us)).push (PySem.HandSPX.excO C hp.objs.size)).get? (hp.objs.size + 1) = some (PySem.HandSPX.excO C hp.objs.size) := by heap_get
  have I2 : Inv X pins σ (upd H1 (hp.objs.size + 1) (exo (hp.objs.size + 1) C none)) ⟨(hp.push (PySem.W.kdv_tup us)).push (PySem.HandSPX.excO C hp.objs.size), g, dr, tk, os⟩ :=
    I1.laid (t' := tk) (a := hp.objs.size + 1) (o := exo (hp.objs.size + 1) C none) (h' := (hp.push (PySem.W.kdv_tup us)).push (PySem.HandSPX.excO C hp.objs.size)) kk hsz (exo_ok hget)
  have r2 : Vals (V.ref (hp.objs.size + 1) :: vs) (Value.ref (hp.objs.size + 1) :: us) := .cons rfl r1
  have hl : (Value.ref (hp.objs.size + 1) :: us ++ []).length = ps.length := by
    have e := r2.length
    rw [F1.len _ _ _ _ hq] at e
    rw [List.append_nil]
    exact e.symm
  have hus : us.length ≤ sizeLine := by
    rw [← Paired.length r1, sizeLine_eq]
    omega
  have b2 := hb _ (Value.ref (hp.objs.size + 1) :: us) I2.kIn hl
  rw [List.append_nil] at b2
  refine wpAny_call (PySem.HandSPX.call_own F.excBase_ValueError (fun Y => PySem.HandSPX.refsVE_contains Y bm hbm) (I1.kIn _ _ hC) (PySem.W.looks_findIn I1.kIn iC) (fun self => PySem.W.bind_fn I1.kIn self tI) hus
    (codeAny_mono (F1.run _ X.stack _ _ ⟨Value.ref (hp.objs.size + 1) :: us, []⟩ (Value.ref (hp.objs.size + 1) :: us) _ _ (fun _ _ _ => False) (hr.make C us []) (I2.env0.make C us []) b2 r2 hq) fun r s' hq' => ?_))
  match r, hq' with
  | .error er, hq' => exact hx pins σ _ _ er s' I2 hq'
  | .ok (.ret u), ⟨v, H2, os2, bare2, un2, hok2, rv, ev, z⟩ =>
    subst ev
    obtain ⟨h2, g2, d2, t2, os'⟩ := s'
    refine ⟨rv, ?_⟩
    rcases z with ⟨d, fs, ea, ed, hd1, q2⟩ | ⟨ea, q2⟩
    · obtain ⟨t0, G, J, kG, ge, hoe, na⟩ := mk_end0 (d2 := d2) (t2 := t2) I1 hsz kk un2 hok2 os2 bare2 ea ed hd1
      exact ⟨_, _, _, ⟨G, g2, d2, t2, os'⟩, _, .ref C, some d, rfl, J, kG, ge, hoe, ⟨rfl, rfl, fun vs hv => by cases hv; rfl⟩, rfl, rfl, na, rfl, bare2, raises_own T.exC T.tyC, q2⟩
    · obtain ⟨t0, G, J, kG, ge, hoe, na⟩ := mk_endN (d2 := d2) (t2 := t2) I1 hsz kk un2 hok2 os2 bare2 ea
      exact ⟨_, _, _, ⟨G, g2, d2, t2, os'⟩, _, .ref C, none, rfl, J, kG, ge, hoe, ⟨rfl, rfl, fun vs hv => by cases hv; rfl⟩, rfl, rfl, na, rfl, bare2, raises_own T.exC T.tyC, q2⟩
theorem pmkN {e : Expr} {es : List Expr} {ta : TA} {p pos : Pos} (T : OexC X.K C) (iC : PySem.W.findIn X.K (.ref C) "__init__" = some (some (.ref fI))) (tI : PySem.W.typeIn X.K (.ref fI) = some (.type "function"))
    (F1 : FnOk X.prog X.w X.K X.mg X.base CX k fI fd ps sp) (hr : Room (k + 1) X.A) (hb : Binds X.K fd ps []) (hx : Passes CX X (fun _ _ _ => False)) (hg : Gl X x) (hm : X.mg x = some (.ref C)) (ha : PA X (e :: es) ta)
    (hdb : (x == ("__debug__" : Str)) = false := by decide) (he : starEach (e :: es) X.env = (false, eval e X.env) :: starEach es X.env := by rfl) (hpl : (backTo pos (starEach es X.env)).any (·.1) = false := by rfl) :
    L2N.PMk X (.Call (.Name x p) (e :: es) [] pos) (tMkN C sp ta) := by
  intro pins s σ H Q I h
  refine wpAny_Call_Name_kw (ld_glob I hg hm ?_ hdb)
  refine PySem.W.callWith_K (h₀ := X.base) I.ok.mod.kin T.kC (thn (ha.run pos pins s σ H _ I h) fun us s1 ⟨vs, H1, I1, r1, hz, q1⟩ => ⟨I1.kIn, ?_⟩) he hpl
  exact mk_core T iC tI F1 hr hb hx I1 r1 hz q1
theorem pmkN0 {p pos : Pos} (T : OexC X.K C) (iC : PySem.W.findIn X.K (.ref C) "__init__" = some (some (.ref fI))) (tI : PySem.W.typeIn X.K (.ref fI) = some (.type "function"))
    (F1 : FnOk X.prog X.w X.K X.mg X.base CX k fI fd ps sp) (hr : Room (k + 1) X.A) (hb : Binds X.K fd ps []) (hx : Passes CX X (fun _ _ _ => False)) (hg : Gl X x) (hm : X.mg x = some (.ref C))
    (hdb : (x == ("__debug__" : Str)) = false := by decide) :
    L2N.PMk X (.Call (.Name x p) [] [] pos) (tMkN C sp tNil) := by
  intro pins s σ H Q I h
  refine wpAny_Call_Name_kw (ld_glob I hg hm ?_ hdb)
  exact PySem.W.callWith_K0 I.kIn T.kC (mk_core T iC tI F1 hr hb hx I .nil h.1 h.2)
end
end Hp18
/-! An own exception's __init__ that begins with super().__init__(..): its promise. -/
namespace GrEx
open PySem PySem.Spec PyProof.Rows L2 NdefX
abbrev supE (p0 p1 ap pos : Pos) (e : Expr) (es : List Expr) : Expr := .Call (.Attribute (.Call (.Name "super" p0) [] [] p1) "__init__" ap) (e :: es) [] pos
abbrev supNF (name qual : Str) (params : Arguments) (scope : Scope) (p0 p1 ap pos epos : Pos) (e : Expr) (es : List Expr) (rest : List Stmt) (cc cda : Addr) : NF := ⟨name, qual, params, .Expr (supE p0 p1 ap pos e es) epos :: rest, scope, [("__class__", cc)], cda⟩
theorem fn_sup {P : Program} {w : World} {K : PySem.W.Frag} {mg : Str → Option Value} {base : Heap} {CX : CXT} {N ps : List Str} {name qual : Str} {params : Arguments} {scope : Scope} {rest : List Stmt} {e : Expr} {es : List Expr} {p0 p1 ap pos epos : Pos}
    {f C cc cda : Addr} {oc ccl cl kV doc pm ct : Value} {od an cdd cld : Option Addr} {osl ccs csl : Array (Option Value)} {vs0 : Array Value} {file : Str} {tf : Tok} {ar : Arg} {k : Nat} {sp : Sp} {pl : Sem Bool}
    (T : OexC K C) (S : NScope N ps ["__class__"] scope)
    (lk : K.lookup f = some ⟨oc, od, .func (PySem.W.ksFn name qual params (.Expr (supE p0 p1 ap pos e es) epos :: rest) scope .none kV doc pm an (.ref cda) ct cc), osl⟩)
    (hcd : PySem.W.codeIn K (.ref cda) qual = true) (hcode : K.lookup cda = some ⟨ccl, cdd, .fields vs0, ccs⟩) (hvs : vs0[2]? = some (.str file tf)) (hfile : ((P.main.file : Str) == file) = true)
    (hcell : K.lookup cc = some ⟨cl, cld, .cell (some (.ref C)), csl⟩) (hsup : mg "super" = none) (htop : (P.main.scope.names.lookup ("super" : Str)).isSome = false)
    (hks : scope.names.lookup ("super" : Str) = some .globalImplicit) (hp : (params.posonlyargs ++ params.args).head? = some ar) (hps : ps[0]? = some ar.arg)
    (ho : PySem.W.nsIn K cStatics "thirdparty.any" = some none) (hm : PySem.W.ks_superIn K C C "__init__" = some (some (.builtin "ValueError.__init__"))) (hB : PySem.W.subIn K (.ref C) (.type "ValueError") = some true)
    (hmro : PySem.W.mroIn K C (.ref C) = some true)
    (he : ∀ L : Addr, eval (supE p0 p1 ap pos e es) (PySem.W.ksEnv qual scope L f (.ref cda) cc) = (do
      let ov ← attributeBase (.Call (.Name "super" p0) [] [] p1) "__init__" (PySem.W.ksEnv qual scope L f (.ref cda) cc) (eval (.Call (.Name "super" p0) [] [] p1) (PySem.W.ksEnv qual scope L f (.ref cda) cc))
      standAt ap.atName
      let (g, first) ← holding [ov] (getMethod ov "__init__" pl)
      callWith pos g first (backTo pos (starEach (e :: es) (PySem.W.ksEnv qual scope L f (.ref cda) cc))) []))
    (hsw : ∀ L : Addr, swapsWith (supE p0 p1 ap pos e es) none epos.line (PySem.W.ksEnv qual scope L f (.ref cda) cc) = pure false)
    (hst : ∀ L : Addr, starEach (e :: es) (PySem.W.ksEnv qual scope L f (.ref cda) cc) = (false, eval e (PySem.W.ksEnv qual scope L f (.ref cda) cc)) :: starEach es (PySem.W.ksEnv qual scope L f (.ref cda) cc))
    (hpl : ∀ L : Addr, (backTo pos (starEach es (PySem.W.ksEnv qual scope L f (.ref cda) cc))).any (·.1) = false)
    (len : ∀ vs H Q E, sp vs H Q E → vs.length = ps.length)
    (body : ∀ (A : Around) (outer : List Env) (s : Shared) (H : Hp) (vs : List V) (Q : VK) (E : XK), sp vs H Q E → ∃ a ta t, vs[0]? = some (.ref a) ∧ H a = some (exo a C none) ∧
      PA (ncx CX P w K mg base N (supNF name qual params scope p0 p1 ap pos epos e es rest cc cda) f A outer s H E) (e :: es) ta ∧
      PSs (ncx CX P w K mg base N (supNF name qual params scope p0 p1 ap pos epos e es rest cc cda) f A outer s H E) rest t ∧
      ta (startF N vs [some (.ref C)]) H fun ws H1 => ws.length ≤ 1000 ∧ H1 a = some (exo a C none) ∧ t { nx := fun _ H' => Q .non H', rt := Q } (startF N vs [some (.ref C)]) H1) :
    FnOk P w K mg base CX (k + 1) f (PySem.W.ksFn name qual params (.Expr (supE p0 p1 ap pos e es) epos :: rest) scope .none kV doc pm an (.ref cda) ct cc) ps sp := by
  refine ⟨len, fun A outer s H args us vs Q E hr e0 hb r q => ?_⟩
  have hl := len _ _ _ _ q
  have kb : ∀ b o, base.get? b = some o → s.heap.get? b = some o := fun b o z => (e0.bs b o z).1
  have KX : K.In s.heap := e0.mod.kin.keeps kb
  have lim : s.heap.NoLimit := e0.mod.nolimit.keeps kb
  obtain ⟨a, ta, t, ha0, ea, hA, hR, hq⟩ := body A outer s H vs Q E q
  refine PySem.ks_codeAny_call_defAt hr.depth (KX _ _ lk) rfl lim (PySem.W.codeRec_of KX hcd) rfl hb S.nocell (fun y hy => S.par y.1 (List.of_mem_zip hy).1) (fun h₀ hns kp => ?_) S.co S.gen S.kind
  have nop : ∀ b o, K.lookup b = some o → H b = none := fun b o z => (e0.bs b o (e0.mod.kin _ _ z)).2
  have hcl : ∀ {h : Heap}, K.In h → h.IsCell cc (some (.ref C)) := fun {h} X => ⟨_, X _ _ hcell, rfl⟩
  have cells : CellsAt [(("__class__" : Str), cc)] ["__class__"] [some (V.ref C)] s.heap H := by
    refine ⟨rfl, fun y c z => ?_, fun x y c h1 h2 => ?_, fun i y z => ?_⟩
    · have e1 : c = cc := by
        unfold List.lookup at z
        split at z
        · exact (Option.some.inj z).symm
        · cases z
      rw [e1]
      exact ⟨nop _ _ hcell, _, hcl KX⟩
    · have k : ∀ x : Str, List.lookup x [(("__class__" : Str), cc)] = some c → x = "__class__" := fun x h => by
        unfold List.lookup at h
        split at h
        · rename_i q
          exact eq_of_beq q
        · cases h
      rw [k x h1, k y h2]
    · cases i with
      | zero =>
        have e1 : y = "__class__" := (Option.some.inj z).symm
        rw [e1]
        refine ⟨cc, by rfl, fun v hv => ⟨.ref C, ?_, hcl KX⟩⟩
        have e2 : v = V.ref C := (Option.some.inj (Option.some.inj hv)).symm
        rw [e2]
        rfl
      | succ i => cases z
  have I0 := inv_startN (CX := CX) (N := N) (F := supNF name qual params scope p0 p1 ap pos epos e es rest cc cda) (f := f) (E := E) (tk := s.toks + (ps.zip us).length) S hr.hd e0 hl r cells hns kp
  have X0 := I0.kIn
  obtain ⟨nm, qn, Nn, bs, bm, sn, sub, ab, col, dd, k0, k1, k2, k3, k5, hC, hbm⟩ := T.cls
  obtain ⟨t1, hx⟩ := exo_at I0.hok ea
  have hus0 : us[0]? = some (Value.ref a) := by
    obtain ⟨u, h1, h2⟩ := r.get ha0
    rw [h1]
    exact congrArg some h2
  have ndP : ps.Nodup := by
    have z := S.nd.sublist (List.take_sublist (ps.length + ([("__class__" : Str)] : List Str).length) N)
    rw [S.pre] at z
    exact (List.nodup_append.mp z).1
  have hint : interactive (PySem.W.ksEnv qual scope s.heap.objs.size f (.ref cda) cc) = false := by
    unfold interactive
    rw [show (PySem.W.ksEnv qual scope s.heap.objs.size f (.ref cda) cc).scope.kind = .function from S.kind]
    rfl
  refine PySem.ks_wpAt_execs_cons (PySem.ks_wpAt_Expr_any (PySem.ks_wpAt_MethodCall (pl := pl) ?_ (he _)) hint (hsw _))
  have hkc : scope.names.lookup ("__class__" : Str) = some .free := S.frk _ (List.mem_singleton.mpr rfl)
  have hka : scope.names.lookup ar.arg = some .local := S.par _ (List.mem_of_getElem? hps)
  obtain ⟨mb, hb1, hb2⟩ := I0.mod.blt
  refine PySem.ks_wpAt_super_base (env := PySem.W.ksEnv qual scope s.heap.objs.size f (.ref cda) cc) hks hkc (by decide) rfl (X0 _ _ lk) rfl hp rfl (X0 _ _ hcode) rfl hvs hfile htop ?_
  refine PySem.W.ks_loadName_global S.kind hks (Calls.loadGlobal_builtin (env := PySem.W.ksEnv qual scope s.heap.objs.size f (.ref cda) cc) (I0.mod.glob.keeps I0.bk) hsup (hb1.keeps I0.bk) ((hb2 "super" (by decide)).trans (by decide +kernel)) ⟨rfl, ?_⟩)
  refine wpAny_loadName_free S.kind hkc rfl (hcl X0) ?_
  refine wpAny_loadName_local S.kind hka hns (zip_look ndP hps hus0) ?_
  refine ks_wpAny_isType_cls (X0 _ _ hC) rfl ⟨rfl, ?_⟩
  refine ks_wpAny_call_super (X0 _ _ hC) rfl hx rfl (fun c z => by cases z) (PySem.W.looks_mroIn X0 hmro) (fun h1 hso k1 => ?_)
  have I1 : Inv (ncx CX P w K mg base N (supNF name qual params scope p0 p1 ap pos epos e es rest cc cda) f A outer s H E) [] (startF N vs [some (.ref C)]) H ⟨h1, s.gens, s.drawn, s.toks + (ps.zip us).length, s.os⟩ := I0.kept (t' := s.toks + (ps.zip us).length) k1
  have X1 := I1.kIn
  have hcC : PySem.W.clsIn K C = some { name := nm, bases := bs, mro := .ref C :: bm, ns := Nn, qualname := qn, hasDict := true, slotNames := sn, subclasses := sub, abstract := ab, collection := col, hasDel := false } := by unfold PySem.W.clsIn; rw [hC] <;> rfl
  unfold PySem.W.ks_superIn at hm
  rw [hcC] at hm
  have ia : PySem.W.InstAt h1 a { cls := .ref C, dict := none, data := .fields #[.ref t1, .none, .none, .none, .bool false, .none] } C none := ⟨k1 _ _ hx, rfl, rfl, trivial⟩
  have aC : a ≠ C := fun z => by
    rw [z, nop _ _ hC] at ea
    cases ea
  refine PySem.W.kxs_getMethod PySem.W.kxs_ValueError hso (PySem.W.looks_opaque X1 ho) (fun A Q E s k q => wpAny_bind ((PySem.W.looks_clsIn X1 hcC) A _ E s k (wpAny_pure q))) rfl X1 hm (ia.type.andThen (PySem.W.looks_subIn X1 hB)) aC (by decide) ?_
  have hu : (h1.push (PySem.W.kxs_mw "ValueError.__init__" a)).get? h1.objs.size = some (PySem.W.kxs_mw "ValueError.__init__" a) := Heap.get?_push_size h1 rfl
  have I2 : Inv (ncx CX P w K mg base N (supNF name qual params scope p0 p1 ap pos epos e es rest cc cda) f A outer s H E) [(h1.objs.size, PySem.W.kxs_mw "ValueError.__init__" a)] (startF N vs [some (.ref C)]) H ⟨h1.push (PySem.W.kxs_mw "ValueError.__init__" a), s.gens, s.drawn, s.toks + (ps.zip us).length + 1, s.os⟩ := by
    refine (I1.kept (t' := s.toks + (ps.zip us).length + 1) fun b o z => Heap.get?_push_of_some _ z).pins_of fun p hp => ?_
    have e1 : p = (h1.objs.size, PySem.W.kxs_mw "ValueError.__init__" a) := List.mem_singleton.mp hp
    rw [e1]
    exact ⟨hu, I1.hok.fresh (Nat.le_refl _), Nat.ne_of_gt I1.lt, I1.nofs (Nat.le_refl _), fun v z => by cases z⟩
  have key : ∀ {A' : Around} {Q' : Value → Shared → Prop} {E' : Value → Shared → Prop} {s' : Shared}, wpAny (model P w) A' (spliced (backTo pos (starEach (e :: es) (PySem.W.ksEnv qual scope s.heap.objs.size f (.ref cda) cc)))) (fun vs s₁ => PySem.W.KxsAt "ValueError.__init__" h1.objs.size a s₁.heap ∧ wpAny (model P w) A' (call (.ref h1.objs.size) vs) Q' E' s₁) E' s' →
      wpAny (model P w) A' (callWith pos (.ref h1.objs.size) [] (backTo pos (starEach (e :: es) (PySem.W.ksEnv qual scope s.heap.objs.size f (.ref cda) cc))) []) Q' E' s' := by
    intro A' Q' E' s' h
    rw [hst] at h ⊢
    refine PySem.W.kxs_callWith (i := "ValueError.__init__") (x := a) (by show (false || (backTo pos (starEach es _)).any (·.1)) = false; rw [hpl]; rfl) ?_
    exact Calls.evalArgs_plain h
  refine key (thn (hA.run pos _ _ _ _ _ I2 hq) fun us2 s2 hv => ?_)
  obtain ⟨ws, H1, I3, rws, hz, ea1, hq1⟩ := hv
  have hu3 : s2.heap.get? h1.objs.size = some (PySem.W.kxs_mw "ValueError.__init__" a) := (I3.pin (h1.objs.size, PySem.W.kxs_mw "ValueError.__init__" a) (List.mem_append_right _ List.mem_cons_self)).1
  refine ⟨hu3, ?_⟩
  have I4 : Inv (ncx CX P w K mg base N (supNF name qual params scope p0 p1 ap pos epos e es rest cc cda) f A outer s H E) [] (startF N vs [some (.ref C)]) H1 s2 := I3.pins_of fun p hp => by cases hp
  obtain ⟨t2, hx2⟩ := exo_at I4.hok ea1
  have hC2 := I4.kIn _ _ hC
  have hus2 : us2.length ≤ sizeLine := by
    rw [← rws.length, sizeLine_eq]
    omega
  obtain ⟨hp2, g2, d2, tk2, os2⟩ := s2
  refine wpAny_call (codeAny_of_tree ?_)
  show wpAny _ _ (callAny (.ref h1.objs.size) ⟨us2, []⟩) _ _ _
  simp only [callAny]
  refine wpAny_bind (wpAny_load hu3 ?_)
  simp only [PySem.W.kxs_mw, show (Value.type "method-wrapper" == Value.type "method" || Value.type "method-wrapper" == Value.type "builtin_function_or_method" || Value.type "method-wrapper" == Value.type "method-wrapper") = true by decide, if_true]
  refine PySem.W.KFB.if_so (by decide) ?_
  refine wpAny_bind (PySem.W.check_bound_init PySem.F.excBase_ValueError.toExcCallFacts hC2 hx2 rfl ?_)
  refine wpAny_bind (wpAny_pure (wpAny_pure ?_))
  refine ⟨plainId_quiet PySem.F.excBase_ValueError.init.plain _, codeAny_builtin PySem.F.excBase_ValueError.initEntry ?_⟩
  refine PySem.W.exc_init_tree (cls := .ref C) (t0 := t2) (dv := none) (c2 := .none) (c3 := .none) (b4 := .bool false) hx2 hus2 (fun h' kh hxn _ => ?_)
  have J := I4.write (t' := tk2) (x := a) (e := a) (o := exo a C none) (by rw [ea1]; exact True.intro) (.inl rfl) kh ⟨_, hxn⟩ (exo_ok hxn)
  have eu : upd H1 a (exo a C none) = H1 := by
    funext b
    by_cases hb : b = a
    · rw [hb, upd_same, ea1]
    · rw [upd_ne hb]
  rw [eu] at J
  show PySem.wpAt _ _ _ _ _ _ _
  refine PySem.wpAt_of_wpAny (wpAny_mono (hR.run [] _ (startF N vs [some (.ref C)]) H1 _ J hq1) (fun fl s' hs => ?_) fun e s' hs => hs)
  match fl, hs with
  | .ret u, ⟨v, σ', H', J, rv, q⟩ => exact ⟨v, H', J.os, J.bare, J.base, J.hok, rv, q⟩
  | .next, ⟨σ', H', J, q⟩ => exact ⟨V.non, H', J.os, J.bare, J.base, J.hok, rfl, q⟩
  | .brk, ⟨_, _, _, q⟩ => exact q.elim
  | .cont, ⟨_, _, _, q⟩ => exact q.elim
end GrEx
/-! An own exception's __init__ with one statement ahead of super().__init__(..): its promise. -/
namespace GrEx
open PySem PySem.Spec PyProof.Rows L2 NdefX
abbrev supNF2 (name qual : Str) (params : Arguments) (scope : Scope) (p0 p1 ap pos epos : Pos) (st0 : Stmt) (e : Expr) (es : List Expr) (rest : List Stmt) (cc cda : Addr) : NF := ⟨name, qual, params, st0 :: .Expr (supE p0 p1 ap pos e es) epos :: rest, scope, [("__class__", cc)], cda⟩
theorem fn_sup2 {st0 : Stmt} {P : Program} {w : World} {K : PySem.W.Frag} {mg : Str → Option Value} {base : Heap} {CX : CXT} {N ps : List Str} {name qual : Str} {params : Arguments} {scope : Scope} {rest : List Stmt} {e : Expr} {es : List Expr} {p0 p1 ap pos epos : Pos}
    {f C cc cda : Addr} {oc ccl cl kV doc pm ct : Value} {od an cdd cld : Option Addr} {osl ccs csl : Array (Option Value)} {vs0 : Array Value} {file : Str} {tf : Tok} {ar : Arg} {k : Nat} {sp : Sp} {pl : Sem Bool}
    (T : OexC K C) (S : NScope N ps ["__class__"] scope)
    (lk : K.lookup f = some ⟨oc, od, .func (PySem.W.ksFn name qual params (st0 :: .Expr (supE p0 p1 ap pos e es) epos :: rest) scope .none kV doc pm an (.ref cda) ct cc), osl⟩)
    (hcd : PySem.W.codeIn K (.ref cda) qual = true) (hcode : K.lookup cda = some ⟨ccl, cdd, .fields vs0, ccs⟩) (hvs : vs0[2]? = some (.str file tf)) (hfile : ((P.main.file : Str) == file) = true)
    (hcell : K.lookup cc = some ⟨cl, cld, .cell (some (.ref C)), csl⟩) (hsup : mg "super" = none) (htop : (P.main.scope.names.lookup ("super" : Str)).isSome = false)
    (hks : scope.names.lookup ("super" : Str) = some .globalImplicit) (hp : (params.posonlyargs ++ params.args).head? = some ar) (hps : ps[0]? = some ar.arg)
    (ho : PySem.W.nsIn K cStatics "thirdparty.any" = some none) (hm : PySem.W.ks_superIn K C C "__init__" = some (some (.builtin "ValueError.__init__"))) (hB : PySem.W.subIn K (.ref C) (.type "ValueError") = some true)
    (hmro : PySem.W.mroIn K C (.ref C) = some true)
    (he : ∀ L : Addr, eval (supE p0 p1 ap pos e es) (PySem.W.ksEnv qual scope L f (.ref cda) cc) = (do
      let ov ← attributeBase (.Call (.Name "super" p0) [] [] p1) "__init__" (PySem.W.ksEnv qual scope L f (.ref cda) cc) (eval (.Call (.Name "super" p0) [] [] p1) (PySem.W.ksEnv qual scope L f (.ref cda) cc))
      standAt ap.atName
      let (g, first) ← holding [ov] (getMethod ov "__init__" pl)
      callWith pos g first (backTo pos (starEach (e :: es) (PySem.W.ksEnv qual scope L f (.ref cda) cc))) []))
    (hsw : ∀ L : Addr, swapsWith (supE p0 p1 ap pos e es) none epos.line (PySem.W.ksEnv qual scope L f (.ref cda) cc) = pure false)
    (hst : ∀ L : Addr, starEach (e :: es) (PySem.W.ksEnv qual scope L f (.ref cda) cc) = (false, eval e (PySem.W.ksEnv qual scope L f (.ref cda) cc)) :: starEach es (PySem.W.ksEnv qual scope L f (.ref cda) cc))
    (hpl : ∀ L : Addr, (backTo pos (starEach es (PySem.W.ksEnv qual scope L f (.ref cda) cc))).any (·.1) = false)
    (len : ∀ vs H Q E, sp vs H Q E → vs.length = ps.length)
    (body : ∀ (A : Around) (outer : List Env) (s : Shared) (H : Hp) (vs : List V) (Q : VK) (E : XK), sp vs H Q E → ∃ a tP ta t, vs[0]? = some (.ref a) ∧ PS (ncx CX P w K mg base N (supNF2 name qual params scope p0 p1 ap pos epos st0 e es rest cc cda) f A outer s H E) st0 tP ∧
      PA (ncx CX P w K mg base N (supNF2 name qual params scope p0 p1 ap pos epos st0 e es rest cc cda) f A outer s H E) (e :: es) ta ∧ PSs (ncx CX P w K mg base N (supNF2 name qual params scope p0 p1 ap pos epos st0 e es rest cc cda) f A outer s H E) rest t ∧
      tP { nx := fun σ1 H1 => σ1[0]? = some (some (V.ref a)) ∧ H1 a = some (exo a C none) ∧ ta σ1 H1 fun ws H2 => ws.length ≤ 1000 ∧ H2 a = some (exo a C none) ∧ t { nx := fun _ H' => Q .non H', rt := Q } σ1 H2, rt := fun _ _ => False } (startF N vs [some (.ref C)]) H) :
    FnOk P w K mg base CX (k + 1) f (PySem.W.ksFn name qual params (st0 :: .Expr (supE p0 p1 ap pos e es) epos :: rest) scope .none kV doc pm an (.ref cda) ct cc) ps sp := by
  refine ⟨len, fun A outer s H args us vs Q E hr e0 hb r q => ?_⟩
  have hl := len _ _ _ _ q
  have kb : ∀ b o, base.get? b = some o → s.heap.get? b = some o := fun b o z => (e0.bs b o z).1
  have KX : K.In s.heap := e0.mod.kin.keeps kb
  have lim : s.heap.NoLimit := e0.mod.nolimit.keeps kb
  obtain ⟨a, tP, ta, t, ha0, hP, hA, hR, hq⟩ := body A outer s H vs Q E q
  refine PySem.ks_codeAny_call_defAt hr.depth (KX _ _ lk) rfl lim (PySem.W.codeRec_of KX hcd) rfl hb S.nocell (fun y hy => S.par y.1 (List.of_mem_zip hy).1) (fun h₀ hns kp => ?_) S.co S.gen S.kind
  have nop : ∀ b o, K.lookup b = some o → H b = none := fun b o z => (e0.bs b o (e0.mod.kin _ _ z)).2
  have hcl : ∀ {h : Heap}, K.In h → h.IsCell cc (some (.ref C)) := fun {h} X => ⟨_, X _ _ hcell, rfl⟩
  have cells : CellsAt [(("__class__" : Str), cc)] ["__class__"] [some (V.ref C)] s.heap H := by
    refine ⟨rfl, fun y c z => ?_, fun x y c h1 h2 => ?_, fun i y z => ?_⟩
    · have e1 : c = cc := by
        unfold List.lookup at z
        split at z
        · exact (Option.some.inj z).symm
        · cases z
      rw [e1]
      exact ⟨nop _ _ hcell, _, hcl KX⟩
    · have k : ∀ x : Str, List.lookup x [(("__class__" : Str), cc)] = some c → x = "__class__" := fun x h => by
        unfold List.lookup at h
        split at h
        · rename_i q
          exact eq_of_beq q
        · cases h
      rw [k x h1, k y h2]
    · cases i with
      | zero =>
        have e1 : y = "__class__" := (Option.some.inj z).symm
        rw [e1]
        refine ⟨cc, by rfl, fun v hv => ⟨.ref C, ?_, hcl KX⟩⟩
        have e2 : v = V.ref C := (Option.some.inj (Option.some.inj hv)).symm
        rw [e2]
        rfl
      | succ i => cases z
  have I0 := inv_startN (CX := CX) (N := N) (F := supNF2 name qual params scope p0 p1 ap pos epos st0 e es rest cc cda) (f := f) (E := E) (tk := s.toks + (ps.zip us).length) S hr.hd e0 hl r cells hns kp
  obtain ⟨nm, qn, Nn, bs, bm, sn, sub, ab, col, dd, k0, k1, k2, k3, k5, hC, hbm⟩ := T.cls
  have hint : interactive (PySem.W.ksEnv qual scope s.heap.objs.size f (.ref cda) cc) = false := by
    unfold interactive
    rw [show (PySem.W.ksEnv qual scope s.heap.objs.size f (.ref cda) cc).scope.kind = .function from S.kind]
    rfl
  refine PySem.ks_wpAt_execs_cons (PySem.wpAt_of_wpAny (wpAny_mono (hP.run [] _ (startF N vs [some (.ref C)]) H _ I0 hq) (fun fl s1 hs => ?_) fun e s' hs => hs))
  have hs : ∃ σ1 H1, Inv (ncx CX P w K mg base N (supNF2 name qual params scope p0 p1 ap pos epos st0 e es rest cc cda) f A outer s H E) [] σ1 H1 s1 ∧ fl = .next ∧ σ1[0]? = some (some (V.ref a)) ∧ H1 a = some (exo a C none) ∧ ta σ1 H1 fun ws H2 => ws.length ≤ 1000 ∧ H2 a = some (exo a C none) ∧ t { nx := fun _ H' => Q .non H', rt := Q } σ1 H2 := by
    match fl, hs with
    | .ret u, ⟨_, _, _, _, _, z⟩ => exact z.elim
    | .brk, ⟨_, _, _, z⟩ => exact z.elim
    | .cont, ⟨_, _, _, z⟩ => exact z.elim
    | .next, ⟨σ1, H1, J, z⟩ => exact ⟨σ1, H1, J, rfl, z⟩
  obtain ⟨σ1, Hq, J0, efl, hself, ea, hq⟩ := hs
  subst efl
  obtain ⟨hpq, gq, dq, tq, oq⟩ := s1
  have X0 := J0.kIn
  obtain ⟨t1, hx⟩ := exo_at J0.hok ea
  have nopq : ∀ b o, K.lookup b = some o → Hq b = none := fun b o z => (J0.bs b o (e0.mod.kin _ _ z)).2
  obtain ⟨mloc, hnsq, hlook⟩ := J0.loc
  have hN0 : N[0]? = some ar.arg := by
    have z := congrArg (fun l => l[0]?) S.pre
    rw [List.getElem?_take_of_lt (by rw [List.length_singleton]; omega), List.getElem?_append_left (by exact (List.getElem?_eq_some_iff.mp hps).1), hps] at z
    exact z
  show PySem.wpAt _ _ _ (execs (.Expr (supE p0 p1 ap pos e es) epos :: rest) _) _ _ _
  refine PySem.ks_wpAt_execs_cons (PySem.ks_wpAt_Expr_any (PySem.ks_wpAt_MethodCall (pl := pl) ?_ (he _)) hint (hsw _))
  have hkc : scope.names.lookup ("__class__" : Str) = some .free := S.frk _ (List.mem_singleton.mpr rfl)
  have hka : scope.names.lookup ar.arg = some .local := S.par _ (List.mem_of_getElem? hps)
  obtain ⟨mb, hb1, hb2⟩ := J0.mod.blt
  refine PySem.ks_wpAt_super_base (env := PySem.W.ksEnv qual scope s.heap.objs.size f (.ref cda) cc) hks hkc (by decide) rfl (X0 _ _ lk) rfl hp rfl (X0 _ _ hcode) rfl hvs hfile htop ?_
  refine PySem.W.ks_loadName_global S.kind hks (Calls.loadGlobal_builtin (env := PySem.W.ksEnv qual scope s.heap.objs.size f (.ref cda) cc) (J0.mod.glob.keeps J0.bk) hsup (hb1.keeps J0.bk) ((hb2 "super" (by decide)).trans (by decide +kernel)) ⟨rfl, ?_⟩)
  refine wpAny_loadName_free S.kind hkc rfl (hcl X0) ?_
  obtain ⟨uq, ruq, lkq⟩ := hlook 0 ar.arg (.ref a) hN0 hself (.inl hka)
  obtain rfl : uq = Value.ref a := ruq
  have mq : mloc ar.arg = some (.ref a) := by
    rcases lkq with ⟨_, z⟩ | ⟨z, _⟩
    · exact z
    · have z : scope.names.lookup ar.arg = some .cell ∨ scope.names.lookup ar.arg = some .free := z
      rw [hka] at z
      rcases z with z | z <;> cases z
  refine wpAny_loadName_local S.kind hka hnsq mq ?_
  refine ks_wpAny_isType_cls (X0 _ _ hC) rfl ⟨rfl, ?_⟩
  refine ks_wpAny_call_super (X0 _ _ hC) rfl hx rfl (fun c z => by cases z) (PySem.W.looks_mroIn X0 hmro) (fun h1 hso k1 => ?_)
  have I1 : Inv (ncx CX P w K mg base N (supNF2 name qual params scope p0 p1 ap pos epos st0 e es rest cc cda) f A outer s H E) [] σ1 Hq ⟨h1, gq, dq, tq, oq⟩ := J0.kept (t' := tq) k1
  have X1 := I1.kIn
  have hcC : PySem.W.clsIn K C = some { name := nm, bases := bs, mro := .ref C :: bm, ns := Nn, qualname := qn, hasDict := true, slotNames := sn, subclasses := sub, abstract := ab, collection := col, hasDel := false } := by unfold PySem.W.clsIn; rw [hC] <;> rfl
  unfold PySem.W.ks_superIn at hm
  rw [hcC] at hm
  have ia : PySem.W.InstAt h1 a { cls := .ref C, dict := none, data := .fields #[.ref t1, .none, .none, .none, .bool false, .none] } C none := ⟨k1 _ _ hx, rfl, rfl, trivial⟩
  have aC : a ≠ C := fun z => by
    rw [z, nopq _ _ hC] at ea
    cases ea
  refine PySem.W.kxs_getMethod PySem.W.kxs_ValueError hso (PySem.W.looks_opaque X1 ho) (fun A Q E s k q => wpAny_bind ((PySem.W.looks_clsIn X1 hcC) A _ E s k (wpAny_pure q))) rfl X1 hm (ia.type.andThen (PySem.W.looks_subIn X1 hB)) aC (by decide) ?_
  have hu : (h1.push (PySem.W.kxs_mw "ValueError.__init__" a)).get? h1.objs.size = some (PySem.W.kxs_mw "ValueError.__init__" a) := Heap.get?_push_size h1 rfl
  have I2 : Inv (ncx CX P w K mg base N (supNF2 name qual params scope p0 p1 ap pos epos st0 e es rest cc cda) f A outer s H E) [(h1.objs.size, PySem.W.kxs_mw "ValueError.__init__" a)] σ1 Hq ⟨h1.push (PySem.W.kxs_mw "ValueError.__init__" a), gq, dq, tq + 1, oq⟩ := by
    refine (I1.kept (t' := tq + 1) fun b o z => Heap.get?_push_of_some _ z).pins_of fun p hp => ?_
    have e1 : p = (h1.objs.size, PySem.W.kxs_mw "ValueError.__init__" a) := List.mem_singleton.mp hp
    rw [e1]
    exact ⟨hu, I1.hok.fresh (Nat.le_refl _), Nat.ne_of_gt I1.lt, I1.nofs (Nat.le_refl _), fun v z => by cases z⟩
  have key : ∀ {A' : Around} {Q' : Value → Shared → Prop} {E' : Value → Shared → Prop} {s' : Shared}, wpAny (model P w) A' (spliced (backTo pos (starEach (e :: es) (PySem.W.ksEnv qual scope s.heap.objs.size f (.ref cda) cc)))) (fun vs s₁ => PySem.W.KxsAt "ValueError.__init__" h1.objs.size a s₁.heap ∧ wpAny (model P w) A' (call (.ref h1.objs.size) vs) Q' E' s₁) E' s' →
      wpAny (model P w) A' (callWith pos (.ref h1.objs.size) [] (backTo pos (starEach (e :: es) (PySem.W.ksEnv qual scope s.heap.objs.size f (.ref cda) cc))) []) Q' E' s' := by
    intro A' Q' E' s' h
    rw [hst] at h ⊢
    refine PySem.W.kxs_callWith (i := "ValueError.__init__") (x := a) (by show (false || (backTo pos (starEach es _)).any (·.1)) = false; rw [hpl]; rfl) ?_
    exact Calls.evalArgs_plain h
  refine key (thn (hA.run pos _ _ _ _ _ I2 hq) fun us2 s2 hv => ?_)
  obtain ⟨ws, H1, I3, rws, hz, ea1, hq1⟩ := hv
  have hu3 : s2.heap.get? h1.objs.size = some (PySem.W.kxs_mw "ValueError.__init__" a) := (I3.pin (h1.objs.size, PySem.W.kxs_mw "ValueError.__init__" a) (List.mem_append_right _ List.mem_cons_self)).1
  refine ⟨hu3, ?_⟩
  have I4 : Inv (ncx CX P w K mg base N (supNF2 name qual params scope p0 p1 ap pos epos st0 e es rest cc cda) f A outer s H E) [] σ1 H1 s2 := I3.pins_of fun p hp => by cases hp
  obtain ⟨t2, hx2⟩ := exo_at I4.hok ea1
  have hC2 := I4.kIn _ _ hC
  have hus2 : us2.length ≤ sizeLine := by
    rw [← rws.length, sizeLine_eq]
    omega
  obtain ⟨hp2, g2, d2, tk2, os2⟩ := s2
  refine wpAny_call (codeAny_of_tree ?_)
  show wpAny _ _ (callAny (.ref h1.objs.size) ⟨us2, []⟩) _ _ _
  simp only [callAny]
  refine wpAny_bind (wpAny_load hu3 ?_)
  simp only [PySem.W.kxs_mw, show (Value.type "method-wrapper" == Value.type "method" || Value.type "method-wrapper" == Value.type "builtin_function_or_method" || Value.type "method-wrapper" == Value.type "method-wrapper") = true by decide, if_true]
  refine PySem.W.KFB.if_so (by decide) ?_
  refine wpAny_bind (PySem.W.check_bound_init PySem.F.excBase_ValueError.toExcCallFacts hC2 hx2 rfl ?_)
  refine wpAny_bind (wpAny_pure (wpAny_pure ?_))
  refine ⟨plainId_quiet PySem.F.excBase_ValueError.init.plain _, codeAny_builtin PySem.F.excBase_ValueError.initEntry ?_⟩
  refine PySem.W.exc_init_tree (cls := .ref C) (t0 := t2) (dv := none) (c2 := .none) (c3 := .none) (b4 := .bool false) hx2 hus2 (fun h' kh hxn _ => ?_)
  have J := I4.write (t' := tk2) (x := a) (e := a) (o := exo a C none) (by rw [ea1]; exact True.intro) (.inl rfl) kh ⟨_, hxn⟩ (exo_ok hxn)
  have eu : upd H1 a (exo a C none) = H1 := by
    funext b
    by_cases hb : b = a
    · rw [hb, upd_same, ea1]
    · rw [upd_ne hb]
  rw [eu] at J
  show PySem.wpAt _ _ _ _ _ _ _
  refine PySem.wpAt_of_wpAny (wpAny_mono (hR.run [] _ σ1 H1 _ J hq1) (fun fl s' hs => ?_) fun e s' hs => hs)
  match fl, hs with
  | .ret u, ⟨v, σ', H', J, rv, q⟩ => exact ⟨v, H', J.os, J.bare, J.base, J.hok, rv, q⟩
  | .next, ⟨σ', H', J, q⟩ => exact ⟨V.non, H', J.os, J.bare, J.base, J.hok, rfl, q⟩
  | .brk, ⟨_, _, _, q⟩ => exact q.elim
  | .cont, ⟨_, _, _, q⟩ => exact q.elim
end GrEx
/-! An own exception's __init__ that begins with super().__init__(..): its promise. -/
namespace GrEx
open PySem PySem.Spec PyProof.Rows L2 NdefX
theorem fn_supR {P : Program} {w : World} {K : PySem.W.Frag} {mg : Str → Option Value} {base : Heap} {CX : CXT} {N ps : List Str} {name qual : Str} {params : Arguments} {scope : Scope} {rest : List Stmt} {e : Expr} {es : List Expr} {p0 p1 ap pos epos : Pos}
    {f C cc cda : Addr} {oc ccl cl kV doc pm ct : Value} {od an cdd cld : Option Addr} {osl ccs csl : Array (Option Value)} {vs0 : Array Value} {file : Str} {tf : Tok} {ar : Arg} {k : Nat} {sp : Sp} {pl : Sem Bool}
    (T : OexC K C) (S : NScope N ps ["__class__"] scope)
    (lk : K.lookup f = some ⟨oc, od, .func (PySem.W.ksFn name qual params (.Expr (supE p0 p1 ap pos e es) epos :: rest) scope .none kV doc pm an (.ref cda) ct cc), osl⟩)
    (hcd : PySem.W.codeIn K (.ref cda) qual = true) (hcode : K.lookup cda = some ⟨ccl, cdd, .fields vs0, ccs⟩) (hvs : vs0[2]? = some (.str file tf)) (hfile : ((P.main.file : Str) == file) = true)
    (hcell : K.lookup cc = some ⟨cl, cld, .cell (some (.ref C)), csl⟩) (hsup : mg "super" = none) (htop : (P.main.scope.names.lookup ("super" : Str)).isSome = false)
    (hks : scope.names.lookup ("super" : Str) = some .globalImplicit) (hp : (params.posonlyargs ++ params.args).head? = some ar) (hps : ps[0]? = some ar.arg)
    (ho : PySem.W.nsIn K cStatics "thirdparty.any" = some none) (hm : PySem.W.ks_superIn K C C "__init__" = some (some (.builtin "ValueError.__init__"))) (hB : PySem.W.subIn K (.ref C) (.type "ValueError") = some true)
    (hmro : PySem.W.mroIn K C (.ref C) = some true)
    (he : ∀ L : Addr, eval (supE p0 p1 ap pos e es) (PySem.W.ksEnv qual scope L f (.ref cda) cc) = (do
      let ov ← attributeBase (.Call (.Name "super" p0) [] [] p1) "__init__" (PySem.W.ksEnv qual scope L f (.ref cda) cc) (eval (.Call (.Name "super" p0) [] [] p1) (PySem.W.ksEnv qual scope L f (.ref cda) cc))
      standAt ap.atName
      let (g, first) ← holding [ov] (getMethod ov "__init__" pl)
      callWith pos g first (backTo pos (starEach (e :: es) (PySem.W.ksEnv qual scope L f (.ref cda) cc))) []))
    (hsw : ∀ L : Addr, swapsWith (supE p0 p1 ap pos e es) none epos.line (PySem.W.ksEnv qual scope L f (.ref cda) cc) = pure false)
    (hst : ∀ L : Addr, starEach (e :: es) (PySem.W.ksEnv qual scope L f (.ref cda) cc) = (false, eval e (PySem.W.ksEnv qual scope L f (.ref cda) cc)) :: starEach es (PySem.W.ksEnv qual scope L f (.ref cda) cc))
    (hpl : ∀ L : Addr, (backTo pos (starEach es (PySem.W.ksEnv qual scope L f (.ref cda) cc))).any (·.1) = false)
    (len : ∀ vs H Q E, sp vs H Q E → vs.length = ps.length)
    (body : ∀ (A : Around) (outer : List Env) (s : Shared) (H : Hp) (vs : List V) (Q : VK) (E : XK), Room (k + 1) A → sp vs H Q E → ∃ a ta t, vs[0]? = some (.ref a) ∧ H a = some (exo a C none) ∧
      PA (ncx CX P w K mg base N (supNF name qual params scope p0 p1 ap pos epos e es rest cc cda) f A outer s H E) (e :: es) ta ∧
      PSs (ncx CX P w K mg base N (supNF name qual params scope p0 p1 ap pos epos e es rest cc cda) f A outer s H E) rest t ∧
      ta (startF N vs [some (.ref C)]) H fun ws H1 => ws.length ≤ 1000 ∧ H1 a = some (exo a C none) ∧ t { nx := fun _ H' => Q .non H', rt := Q } (startF N vs [some (.ref C)]) H1) :
    FnOk P w K mg base CX (k + 1) f (PySem.W.ksFn name qual params (.Expr (supE p0 p1 ap pos e es) epos :: rest) scope .none kV doc pm an (.ref cda) ct cc) ps sp := by
  refine ⟨len, fun A outer s H args us vs Q E hr e0 hb r q => ?_⟩
  have hl := len _ _ _ _ q
  have kb : ∀ b o, base.get? b = some o → s.heap.get? b = some o := fun b o z => (e0.bs b o z).1
  have KX : K.In s.heap := e0.mod.kin.keeps kb
  have lim : s.heap.NoLimit := e0.mod.nolimit.keeps kb
  obtain ⟨a, ta, t, ha0, ea, hA, hR, hq⟩ := body A outer s H vs Q E hr q
  refine PySem.ks_codeAny_call_defAt hr.depth (KX _ _ lk) rfl lim (PySem.W.codeRec_of KX hcd) rfl hb S.nocell (fun y hy => S.par y.1 (List.of_mem_zip hy).1) (fun h₀ hns kp => ?_) S.co S.gen S.kind
  have nop : ∀ b o, K.lookup b = some o → H b = none := fun b o z => (e0.bs b o (e0.mod.kin _ _ z)).2
  have hcl : ∀ {h : Heap}, K.In h → h.IsCell cc (some (.ref C)) := fun {h} X => ⟨_, X _ _ hcell, rfl⟩
  have cells : CellsAt [(("__class__" : Str), cc)] ["__class__"] [some (V.ref C)] s.heap H := by
    refine ⟨rfl, fun y c z => ?_, fun x y c h1 h2 => ?_, fun i y z => ?_⟩
    · have e1 : c = cc := by
        unfold List.lookup at z
        split at z
        · exact (Option.some.inj z).symm
        · cases z
      rw [e1]
      exact ⟨nop _ _ hcell, _, hcl KX⟩
    · have k : ∀ x : Str, List.lookup x [(("__class__" : Str), cc)] = some c → x = "__class__" := fun x h => by
        unfold List.lookup at h
        split at h
        · rename_i q
          exact eq_of_beq q
        · cases h
      rw [k x h1, k y h2]
    · cases i with
      | zero =>
        have e1 : y = "__class__" := (Option.some.inj z).symm
        rw [e1]
        refine ⟨cc, by rfl, fun v hv => ⟨.ref C, ?_, hcl KX⟩⟩
        have e2 : v = V.ref C := (Option.some.inj (Option.some.inj hv)).symm
        rw [e2]
        rfl
      | succ i => cases z
  have I0 := inv_startN (CX := CX) (N := N) (F := supNF name qual params scope p0 p1 ap pos epos e es rest cc cda) (f := f) (E := E) (tk := s.toks + (ps.zip us).length) S hr.hd e0 hl r cells hns kp
  have X0 := I0.kIn
  obtain ⟨nm, qn, Nn, bs, bm, sn, sub, ab, col, dd, k0, k1, k2, k3, k5, hC, hbm⟩ := T.cls
  obtain ⟨t1, hx⟩ := exo_at I0.hok ea
  have hus0 : us[0]? = some (Value.ref a) := by
    obtain ⟨u, h1, h2⟩ := r.get ha0
    rw [h1]
    exact congrArg some h2
  have ndP : ps.Nodup := by
    have z := S.nd.sublist (List.take_sublist (ps.length + ([("__class__" : Str)] : List Str).length) N)
    rw [S.pre] at z
    exact (List.nodup_append.mp z).1
  have hint : interactive (PySem.W.ksEnv qual scope s.heap.objs.size f (.ref cda) cc) = false := by
    unfold interactive
    rw [show (PySem.W.ksEnv qual scope s.heap.objs.size f (.ref cda) cc).scope.kind = .function from S.kind]
    rfl
  refine PySem.ks_wpAt_execs_cons (PySem.ks_wpAt_Expr_any (PySem.ks_wpAt_MethodCall (pl := pl) ?_ (he _)) hint (hsw _))
  have hkc : scope.names.lookup ("__class__" : Str) = some .free := S.frk _ (List.mem_singleton.mpr rfl)
  have hka : scope.names.lookup ar.arg = some .local := S.par _ (List.mem_of_getElem? hps)
  obtain ⟨mb, hb1, hb2⟩ := I0.mod.blt
  refine PySem.ks_wpAt_super_base (env := PySem.W.ksEnv qual scope s.heap.objs.size f (.ref cda) cc) hks hkc (by decide) rfl (X0 _ _ lk) rfl hp rfl (X0 _ _ hcode) rfl hvs hfile htop ?_
  refine PySem.W.ks_loadName_global S.kind hks (Calls.loadGlobal_builtin (env := PySem.W.ksEnv qual scope s.heap.objs.size f (.ref cda) cc) (I0.mod.glob.keeps I0.bk) hsup (hb1.keeps I0.bk) ((hb2 "super" (by decide)).trans (by decide +kernel)) ⟨rfl, ?_⟩)
  refine wpAny_loadName_free S.kind hkc rfl (hcl X0) ?_
  refine wpAny_loadName_local S.kind hka hns (zip_look ndP hps hus0) ?_
  refine ks_wpAny_isType_cls (X0 _ _ hC) rfl ⟨rfl, ?_⟩
  refine ks_wpAny_call_super (X0 _ _ hC) rfl hx rfl (fun c z => by cases z) (PySem.W.looks_mroIn X0 hmro) (fun h1 hso k1 => ?_)
  have I1 : Inv (ncx CX P w K mg base N (supNF name qual params scope p0 p1 ap pos epos e es rest cc cda) f A outer s H E) [] (startF N vs [some (.ref C)]) H ⟨h1, s.gens, s.drawn, s.toks + (ps.zip us).length, s.os⟩ := I0.kept (t' := s.toks + (ps.zip us).length) k1
  have X1 := I1.kIn
  have hcC : PySem.W.clsIn K C = some { name := nm, bases := bs, mro := .ref C :: bm, ns := Nn, qualname := qn, hasDict := true, slotNames := sn, subclasses := sub, abstract := ab, collection := col, hasDel := false } := by unfold PySem.W.clsIn; rw [hC] <;> rfl
  unfold PySem.W.ks_superIn at hm
  rw [hcC] at hm
  have ia : PySem.W.InstAt h1 a { cls := .ref C, dict := none, data := .fields #[.ref t1, .none, .none, .none, .bool false, .none] } C none := ⟨k1 _ _ hx, rfl, rfl, trivial⟩
  have aC : a ≠ C := fun z => by
    rw [z, nop _ _ hC] at ea
    cases ea
  refine PySem.W.kxs_getMethod PySem.W.kxs_ValueError hso (PySem.W.looks_opaque X1 ho) (fun A Q E s k q => wpAny_bind ((PySem.W.looks_clsIn X1 hcC) A _ E s k (wpAny_pure q))) rfl X1 hm (ia.type.andThen (PySem.W.looks_subIn X1 hB)) aC (by decide) ?_
  have hu : (h1.push (PySem.W.kxs_mw "ValueError.__init__" a)).get? h1.objs.size = some (PySem.W.kxs_mw "ValueError.__init__" a) := Heap.get?_push_size h1 rfl
  have I2 : Inv (ncx CX P w K mg base N (supNF name qual params scope p0 p1 ap pos epos e es rest cc cda) f A outer s H E) [(h1.objs.size, PySem.W.kxs_mw "ValueError.__init__" a)] (startF N vs [some (.ref C)]) H ⟨h1.push (PySem.W.kxs_mw "ValueError.__init__" a), s.gens, s.drawn, s.toks + (ps.zip us).length + 1, s.os⟩ := by
    refine (I1.kept (t' := s.toks + (ps.zip us).length + 1) fun b o z => Heap.get?_push_of_some _ z).pins_of fun p hp => ?_
    have e1 : p = (h1.objs.size, PySem.W.kxs_mw "ValueError.__init__" a) := List.mem_singleton.mp hp
    rw [e1]
    exact ⟨hu, I1.hok.fresh (Nat.le_refl _), Nat.ne_of_gt I1.lt, I1.nofs (Nat.le_refl _), fun v z => by cases z⟩
  have key : ∀ {A' : Around} {Q' : Value → Shared → Prop} {E' : Value → Shared → Prop} {s' : Shared}, wpAny (model P w) A' (spliced (backTo pos (starEach (e :: es) (PySem.W.ksEnv qual scope s.heap.objs.size f (.ref cda) cc)))) (fun vs s₁ => PySem.W.KxsAt "ValueError.__init__" h1.objs.size a s₁.heap ∧ wpAny (model P w) A' (call (.ref h1.objs.size) vs) Q' E' s₁) E' s' →
      wpAny (model P w) A' (callWith pos (.ref h1.objs.size) [] (backTo pos (starEach (e :: es) (PySem.W.ksEnv qual scope s.heap.objs.size f (.ref cda) cc))) []) Q' E' s' := by
    intro A' Q' E' s' h
    rw [hst] at h ⊢
    refine PySem.W.kxs_callWith (i := "ValueError.__init__") (x := a) (by show (false || (backTo pos (starEach es _)).any (·.1)) = false; rw [hpl]; rfl) ?_
    exact Calls.evalArgs_plain h
  refine key (thn (hA.run pos _ _ _ _ _ I2 hq) fun us2 s2 hv => ?_)
  obtain ⟨ws, H1, I3, rws, hz, ea1, hq1⟩ := hv
  have hu3 : s2.heap.get? h1.objs.size = some (PySem.W.kxs_mw "ValueError.__init__" a) := (I3.pin (h1.objs.size, PySem.W.kxs_mw "ValueError.__init__" a) (List.mem_append_right _ List.mem_cons_self)).1
  refine ⟨hu3, ?_⟩
  have I4 : Inv (ncx CX P w K mg base N (supNF name qual params scope p0 p1 ap pos epos e es rest cc cda) f A outer s H E) [] (startF N vs [some (.ref C)]) H1 s2 := I3.pins_of fun p hp => by cases hp
  obtain ⟨t2, hx2⟩ := exo_at I4.hok ea1
  have hC2 := I4.kIn _ _ hC
  have hus2 : us2.length ≤ sizeLine := by
    rw [← rws.length, sizeLine_eq]
    omega
  obtain ⟨hp2, g2, d2, tk2, os2⟩ := s2
  refine wpAny_call (codeAny_of_tree ?_)
  show wpAny _ _ (callAny (.ref h1.objs.size) ⟨us2, []⟩) _ _ _
  simp only [callAny]
  refine wpAny_bind (wpAny_load hu3 ?_)
  simp only [PySem.W.kxs_mw, show (Value.type "method-wrapper" == Value.type "method" || Value.type "method-wrapper" == Value.type "builtin_function_or_method" || Value.type "method-wrapper" == Value.type "method-wrapper") = true by decide, if_true]
  refine PySem.W.KFB.if_so (by decide) ?_
  refine wpAny_bind (PySem.W.check_bound_init PySem.F.excBase_ValueError.toExcCallFacts hC2 hx2 rfl ?_)
  refine wpAny_bind (wpAny_pure (wpAny_pure ?_))
  refine ⟨plainId_quiet PySem.F.excBase_ValueError.init.plain _, codeAny_builtin PySem.F.excBase_ValueError.initEntry ?_⟩
  refine PySem.W.exc_init_tree (cls := .ref C) (t0 := t2) (dv := none) (c2 := .none) (c3 := .none) (b4 := .bool false) hx2 hus2 (fun h' kh hxn _ => ?_)
  have J := I4.write (t' := tk2) (x := a) (e := a) (o := exo a C none) (by rw [ea1]; exact True.intro) (.inl rfl) kh ⟨_, hxn⟩ (exo_ok hxn)
  have eu : upd H1 a (exo a C none) = H1 := by
    funext b
    by_cases hb : b = a
    · rw [hb, upd_same, ea1]
    · rw [upd_ne hb]
  rw [eu] at J
  show PySem.wpAt _ _ _ _ _ _ _
  refine PySem.wpAt_of_wpAny (wpAny_mono (hR.run [] _ (startF N vs [some (.ref C)]) H1 _ J hq1) (fun fl s' hs => ?_) fun e s' hs => hs)
  match fl, hs with
  | .ret u, ⟨v, σ', H', J, rv, q⟩ => exact ⟨v, H', J.os, J.bare, J.base, J.hok, rv, q⟩
  | .next, ⟨σ', H', J, q⟩ => exact ⟨V.non, H', J.os, J.bare, J.base, J.hok, rfl, q⟩
  | .brk, ⟨_, _, _, q⟩ => exact q.elim
  | .cont, ⟨_, _, _, q⟩ => exact q.elim
end GrEx
/-! Texts of which only a bound is told; what the errors' __init__ promise. -/
namespace Hp18
open PySem PySem.Spec PyProof.Rows L2 HotX L2H GrT Lw
/-! ### texts with a bound -/
/-- a short text, the heap left alone -/
def AT (σ : L2.St) (H : Hp) (t : TE) : Prop := ∀ Q : VK, (∀ y : Str, y.length ≤ 1200 → Q (.str y) H) → t σ H Q
inductive AllT (σ : L2.St) (H : Hp) : List TE → Prop
  | nil : AllT σ H []
  | cons {t : TE} {ts : List TE} : AT σ H t → AllT σ H ts → AllT σ H (t :: ts)
theorem tJs_all {σ : L2.St} {H : Hp} : ∀ {ts : List TE} (acc : Str) {Q : Str → Hp → Prop}, AllT σ H ts → acc.length + 1200 * ts.length ≤ 100000 → (∀ out : Str, Q out H) → tJs ts acc σ H Q
  | [], acc, Q, _, _, h => h acc
  | t :: ts, acc, Q, .cons h1 h2, hz, h => h1 _ fun y hy => ⟨y, rfl, line_big (by rw [cat_len]; rw [List.length_cons] at hz; omega), tJs_all (acc ++ y) h2 (by rw [cat_len]; rw [List.length_cons] at hz; omega) h⟩
/-- a text of the law -/
structure TxE (x : Str) : Prop where
  ln : x.length ≤ 100
  cps : ∀ c ∈ x.cps.toList, c < 0x110000
def IntE (i : Int) : Prop := 0 ≤ i ∧ i < 2 ^ 100
structure IntsE (l : List Int) : Prop where
  ln : l.length ≤ 10
  all : ∀ i ∈ l, IntE i
theorem Az.txE {x : Str} (h : x.length ≤ 100) (a : Az x) : TxE x := ⟨h, fun c hc => by
  have z := (a c hc).2
  exact Nat.lt_of_le_of_lt z (by decide)⟩
theorem IntE.abs {i : Int} (h : IntE i) : i.natAbs < 10 ^ 31 := by
  have e : (2 : Int) ^ 100 ≤ 10 ^ 31 := by decide
  obtain ⟨h1, h2⟩ := h
  omega
theorem IntE.log {i : Int} (h : IntE i) : i.natAbs.log2 < 1920 := by
  by_cases h0 : i.natAbs = 0
  · rw [h0]
    decide
  · rw [Nat.log2_lt h0]
    exact Nat.lt_of_lt_of_le (Int.ofNat_lt.mp (by have := h.2; have e := h.1; rw [Int.ofNat_natAbs_of_nonneg e]; exact this) : i.natAbs < 2 ^ 100) (Nat.pow_le_pow_right (by decide) (by decide))
theorem IntE.len {i : Int} (h : IntE i) : ((toString i : String) : Str).length ≤ 32 := by
  have z := int_text_length_le10 (a := i) (k := 31) (by decide) h.abs
  rw [PySem.ofString_length]
  exact z
section
variable {σ : L2.St} {H : Hp} {i : Nat}
theorem at_c {x : Str} (h : x.length ≤ 100) : AT σ H (tC (.str x)) := fun Q q => q x (by omega)
theorem at_r {x : Str} (e : σ[i]? = some (some (.str x))) (h : TxE x) : AT σ H (tFmtR (tVar i)) := fun Q q => by
  have rl := PySem.StrLaws.reprText_len x fun c hc => Nat.lt_of_lt_of_le (h.cps c hc) (by decide)
  have := h.ln
  exact ⟨_, e, .inl ⟨x, rfl, line_big (by omega), q _ (by omega)⟩⟩
theorem at_s {x : Str} (e : σ[i]? = some (some (.str x))) (h : TxE x) : AT σ H (tFmt (tVar i)) := fun Q q => by
  have := h.ln
  exact ⟨_, e, .inl ⟨x, rfl, line_big (by omega), q _ (by omega)⟩⟩
theorem at_i {j : Int} (e : σ[i]? = some (some (.int j))) (h : IntE j) : AT σ H (tFmt (tVar i)) := fun Q q => ⟨_, e, .inr ⟨j, rfl, h.log, q _ (Nat.le_trans h.len (by decide))⟩⟩
end
/-- {x}, x a text or None -/
def tFmtN (te : TE) : TE := fun σ H Q => te σ H fun x H1 => (∃ y : Str, x = .str y ∧ y.length ≤ sizeLine ∧ Q (.str y) H1) ∨ (x = .non ∧ Q (.str "None") H1)
theorem pe_fmtN {X : Cx} {e : Expr} {te : TE} {pos : Pos} (he : PE X e te) : PE X (.FormattedValue e (-1) none pos) (tFmtN te) := by
  refine ⟨fun pins s σ H Q I h => ?_⟩
  refine wpAny_FormattedValue_plain (thn (he.run pins s σ H _ I h) fun v s1 hv => ?_)
  obtain ⟨x, H1, I1, r1, q⟩ := hv
  rcases q with ⟨y, rfl, hz, q⟩ | ⟨rfl, q⟩
  · obtain ⟨t, rfl⟩ := r1
    exact wpAny_formatField_str ⟨.str y, H1, I1, ⟨t, rfl⟩, q⟩ ⟨.str y, H1, I1.tok _, ⟨_, rfl⟩, q⟩ hz
  · obtain rfl : v = Value.none := r1
    exact wpAny_formatField_none ⟨.str "None", H1, I1.tok _, ⟨_, rfl⟩, q⟩
theorem at_n {σ : L2.St} {H : Hp} {i : Nat} {v : V} (e : σ[i]? = some (some v)) (h : v = .non ∨ ∃ x, v = .str x ∧ TxE x) : AT σ H (tFmtN (tVar i)) := fun Q q => by
  rcases h with rfl | ⟨x, rfl, h⟩
  · exact ⟨_, e, .inr ⟨rfl, q _ (by decide +kernel)⟩⟩
  · have := h.ln
    exact ⟨_, e, .inl ⟨x, rfl, line_big (by omega), q _ (by omega)⟩⟩
/-- {t}, t a tuple of ints: some text -/
def tFmtI (K : PySem.W.Frag) (te : TE) : TE := fun σ H Q => te σ H fun x H1 => ∃ (a : Addr) (l : List Int), x = .ref a ∧ SqT K H1 a (l.map V.int) ∧ IntsE l ∧ ∀ m : Str, m.length ≤ 1000 → Q (.str m) H1
theorem repr_allI {prog : Program} {w : World} : ∀ {l : List Int} {its : List Value}, Vals (l.map V.int) its → (∀ i ∈ l, IntE i) → ReprAll prog w its (l.map fun i => ((toString i : String) : Str))
  | [], _, r, _ => by
    cases r
    exact .nil
  | y :: l, _, r, h => by
    cases r with
    | cons r1 r2 =>
      obtain ⟨t, rfl⟩ := r1
      exact .cons (ReprIs.int t (h y List.mem_cons_self).log) (repr_allI r2 fun z hz => h z (List.mem_cons_of_mem _ hz))
theorem piled_ints : ∀ {l : List Int}, (∀ i ∈ l, IntE i) → piled (l.map fun i => ((toString i : String) : Str)) ≤ 34 * l.length
  | [], _ => by decide
  | i :: l, h => by
    have h1 := (h i List.mem_cons_self).len
    have h2 := piled_ints fun z hz => h z (List.mem_cons_of_mem _ hz)
    rw [List.map_cons, piled_cons, List.length_cons]
    omega
theorem pe_fmtI {X : Cx} {e : Expr} {te : TE} {pos : Pos} {k : Nat} (hr : Room k X.A) (he : PE X e te) : PE X (.FormattedValue e (-1) none pos) (tFmtI X.K te) := by
  refine ⟨fun pins s σ H Q I h => ?_⟩
  refine wpAny_FormattedValue_plain (thn (he.run pins s σ H _ I h) fun v s1 hv => ?_)
  obtain ⟨x, H1, I1, r1, a, l, rfl, ht, hl, q⟩ := hv
  cases r1
  obtain ⟨its, rv, ⟨o, ho, hcl, n, hd⟩, _⟩ := I1.tuple ht
  have hp := piled_ints hl.all
  have htx := fmt_text (l.map fun i => ((toString i : String) : Str))
  have hln := hl.ln
  have hu := hr.units
  exact fmt_tuple (ts := l.map fun i => ((toString i : String) : Str)) (by omega) ho hcl hd (repr_allI rv hl.all) (line_big (by omega)) fun m u tk hm => ⟨.str m, H1, I1.tok _, ⟨u, rfl⟩, q m (by omega)⟩
theorem at_t {K : PySem.W.Frag} {σ : L2.St} {H : Hp} {i : Nat} {a : Addr} {l : List Int} (e : σ[i]? = some (some (.ref a))) (h : SqT K H a (l.map V.int)) (hl : IntsE l) : AT σ H (tFmtI K (tVar i)) := fun Q q => ⟨_, e, a, l, rfl, h, hl, fun m hm => q m (by omega)⟩
/-! ### what the errors' __init__ promise -/
/-- the end: d the dict with the fields fs -/
def Prm (C a : Addr) (fs : List (Str × V)) (H : Hp) (Q : VK) : Prop := ∀ (d : Addr) (H2 : Hp), H d = none → d ≠ a → H2 a = some (exo a C (some d)) → H2 d = some (exd d fs) → (∀ b o, b ≠ a → H b = some o → H2 b = some o) → Q .non H2
def spN (C : Addr) : Sp := fun vs H Q _ => ∃ (a : Addr) (x : Str), vs = [.ref a, .str x] ∧ TxE x ∧ H a = some (exo a C none) ∧ Prm C a [("name", .str x)] H Q
def spNA (C : Addr) : Sp := fun vs H Q _ => ∃ (a : Addr) (x : Str) (i : Int), vs = [.ref a, .str x, .int i] ∧ TxE x ∧ IntE i ∧ H a = some (exo a C none) ∧ Prm C a [("at", .int i), ("name", .str x)] H Q
def spA (C : Addr) : Sp := fun vs H Q _ => ∃ (a : Addr) (i : Int), vs = [.ref a, .int i] ∧ IntE i ∧ H a = some (exo a C none) ∧ Prm C a [("at", .int i)] H Q
def spZ (C : Addr) : Sp := fun vs H Q _ => ∃ (a : Addr), vs = [.ref a] ∧ H a = some (exo a C none) ∧ Q .non H
def spG (K : PySem.W.Frag) (C : Addr) : Sp := fun vs H Q _ => ∃ (a b : Addr) (l : List Int), vs = [.ref a, .ref b] ∧ SqT K H b (l.map V.int) ∧ IntsE l ∧ H a = some (exo a C none) ∧ Prm C a [("arguments", .ref b)] H Q
def spF (K : PySem.W.Frag) (C : Addr) : Sp := fun vs H Q _ => ∃ (a b : Addr) (x : Str) (i : Int) (l : List Int) (v : V), vs = [.ref a, .str x, .int i, .ref b, v] ∧ TxE x ∧ IntE i ∧ SqT K H b (l.map V.int) ∧ IntsE l ∧ (v = .non ∨ ∃ y, v = .str y ∧ TxE y) ∧ H a = some (exo a C none) ∧
  Prm C a [("name", v), ("calls", .ref b), ("at", .int i), ("kind", .str x)] H Q
/-- what all of them ask of the top -/
structure EgK (P : Program) (K : PySem.W.Frag) (mg : Str → Option Value) : Prop where
  sup : mg "super" = none
  top : (P.main.scope.names.lookup ("super" : Str)).isSome = false
  ho : PySem.W.nsIn K cStatics "thirdparty.any" = some none
/-- what the top says of one; st: the text of its __init__ -/
structure EcI (P : Program) (K : PySem.W.Frag) (mg : Str → Option Value) (x q : Str) (st : Stmt) (ps : List Str) (C : Addr) : Prop where
  T : OexC K C
  ex : ∃ (f cc cda : Addr) (oc ccl cl kV doc pm ct : Value) (od an cdd cld : Option Addr) (osl ccs csl : Array (Option Value)) (vs0 : Array Value) (file : Str) (tf : Tok),
    PySem.W.findIn K (.ref C) "__init__" = some (some (.ref f)) ∧ PySem.W.typeIn K (.ref f) = some (.type "function") ∧
    K.lookup f = some ⟨oc, od, .func (PySem.W.ksFn "__init__" q (defArgs st) (defBody st) (defScope st) .none kV doc pm an (.ref cda) ct cc), osl⟩ ∧ PySem.W.codeIn K (.ref cda) q = true ∧
    K.lookup cda = some ⟨ccl, cdd, .fields vs0, ccs⟩ ∧ vs0[2]? = some (.str file tf) ∧ ((P.main.file : Str) == file) = true ∧ K.lookup cc = some ⟨cl, cld, .cell (some (.ref C)), csl⟩ ∧
    Binds K (PySem.W.ksFn "__init__" q (defArgs st) (defBody st) (defScope st) .none kV doc pm an (.ref cda) ct cc) ps []
  mgC : mg x = some (.ref C)
  hm : PySem.W.ks_superIn K C C "__init__" = some (some (.builtin "ValueError.__init__"))
  hB : PySem.W.subIn K (.ref C) (.type "ValueError") = some true
  mro : PySem.W.mroIn K C (.ref C) = some true
/-- a class's __init__ keeps sp -/
def IniOk (P : Program) (w : World) (K : PySem.W.Frag) (mg : Str → Option Value) (base : Heap) (C : Addr) (ps : List Str) (sp : Sp) : Prop :=
  ∃ (f : Addr) (fd : FuncData), PySem.W.findIn K (.ref C) "__init__" = some (some (.ref f)) ∧ PySem.W.typeIn K (.ref f) = some (.type "function") ∧ FnOk P w K mg base CX0 2 f fd ps sp ∧ Binds K fd ps []
/-- the fields set one behind the other -/
def putX (H : Hp) (C a d : Addr) (f : Str) (y : V) : Hp := upd (upd H d (exd d [(f, y)])) a (exo a C (some d))
theorem putX_d {H : Hp} {C a d : Addr} {f : Str} {y : V} (h : d ≠ a) : putX H C a d f y d = some (exd d [(f, y)]) := by
  unfold putX
  rw [upd_ne h]
  exact upd_same
theorem putX_k {H : Hp} {C a d : Addr} {f : Str} {y : V} (hd : H d = none) {b : Addr} {o : HO} (h : b ≠ a) (e : H b = some o) : putX H C a d f y b = some o := by
  unfold putX
  rw [upd_ne h, upd_ne (ne_of_none e hd)]
  exact e
end Hp18
/-! The errors' __init__. -/
namespace Hp18
open PySem PySem.Spec PyProof.Rows L2 HotX L2H GrT Lw
abbrev sI0 : Stmt := inClass (top 2) 0
abbrev sI1 : Stmt := inClass (top 3) 0
abbrev sI2 : Stmt := inClass (top 4) 0
abbrev sI3 : Stmt := inClass (top 5) 0
abbrev sI4 : Stmt := inClass (top 11) 0
abbrev sI5 : Stmt := inClass (top 12) 0
abbrev sI6 : Stmt := inClass (top 13) 0
abbrev sI7 : Stmt := inClass (top 8) 0
abbrev sI8 : Stmt := inClass (top 9) 0
abbrev sI9 : Stmt := inClass (top 10) 0
abbrev sI10 : Stmt := inClass (top 6) 0
abbrev sI11 : Stmt := inClass (top 7) 0
abbrev sI12 : Stmt := inClass (top 15) 0
abbrev sI13 : Stmt := inClass (top 16) 0
abbrev sI14 : Stmt := inClass (top 17) 0
abbrev sI15 : Stmt := inClass (top 14) 0
section
variable {P : Program} {w : World} {K : PySem.W.Frag} {mg : Str → Option Value} {base : Heap} {C : Addr}
theorem scI0 : NdefX.NScope ["self", "name", "__class__"] ["self", "name"] ["__class__"] (defScope sI0) := NdefX.nscope_by (by decide +kernel)
theorem fn_i0 (G : EgK P K mg) (Z : EcI P K mg "BadName" "BadName.__init__" sI0 ["self", "name"] C) (no : ∀ n, n ∈ (["name", "at", "kind", "calls", "arguments"] : List Str) → PySem.W.findIn K (.ref C) n = some none) : IniOk P w K mg base C ["self", "name"] (spN C) := by
  obtain ⟨f, cc, cda, oc, ccl, cl, kV, doc, pm, ct, od, an, cdd, cld, osl, ccs, csl, vs0, file, tf, h1, h2, lk, hcd, hcode, hvs, hfile, hcell, hb⟩ := Z.ex
  refine ⟨f, _, h1, h2, ?_, hb⟩
  refine GrEx.fn_sup (k := 1) (N := ["self", "name", "__class__"]) (ar := { arg := "self", annotation := none, pos := ⟨6, 17, 6, 21⟩ }) Z.T scI0 lk hcd hcode hvs hfile hcell G.sup G.top (by rfl) (by rfl) (by rfl) G.ho Z.hm Z.hB Z.mro (fun L => by rfl) (fun L => by rfl) (fun L => by rfl) (fun L => by rfl) (fun vs H Q E h => ?_) (fun A outer s H vs Q E h => ?_)
  · obtain ⟨a, x, rfl, tx, ea, q⟩ := h
    rfl
  · obtain ⟨a, x, rfl, tx, ea, q⟩ := h
    refine ⟨a, _, _, rfl, ea, pa_cons (pe_joined (PJ.cons pe_str (PJ.cons (pe_fmtR (pv 1)) PJ.nil))) pa_nil, pss_one (ps_ost (pv 0) (pv 1)), ?_⟩
    refine tJs_all Str.empty (AllT.cons (at_c (by decide +kernel)) (AllT.cons (at_r rfl tx) AllT.nil)) (by decide +kernel) fun out => ⟨by show 1 ≤ 1000; decide, ea, ?_⟩
    refine ⟨_, rfl, _, rfl, a, C, rfl, Z.T, no _ (by decide +kernel), .inl ⟨ea, fun d h1 h2 => ?_⟩⟩
    exact q d _ h1 h2 upd_same (putX_d h2) fun b o n e => putX_k h1 n e
theorem scI1 : NdefX.NScope ["self", "name", "__class__"] ["self", "name"] ["__class__"] (defScope sI1) := NdefX.nscope_by (by decide +kernel)
theorem fn_i1 (G : EgK P K mg) (Z : EcI P K mg "NoField" "NoField.__init__" sI1 ["self", "name"] C) (no : ∀ n, n ∈ (["name", "at", "kind", "calls", "arguments"] : List Str) → PySem.W.findIn K (.ref C) n = some none) : IniOk P w K mg base C ["self", "name"] (spN C) := by
  obtain ⟨f, cc, cda, oc, ccl, cl, kV, doc, pm, ct, od, an, cdd, cld, osl, ccs, csl, vs0, file, tf, h1, h2, lk, hcd, hcode, hvs, hfile, hcell, hb⟩ := Z.ex
  refine ⟨f, _, h1, h2, ?_, hb⟩
  refine GrEx.fn_sup (k := 1) (N := ["self", "name", "__class__"]) (ar := { arg := "self", annotation := none, pos := ⟨11, 17, 11, 21⟩ }) Z.T scI1 lk hcd hcode hvs hfile hcell G.sup G.top (by rfl) (by rfl) (by rfl) G.ho Z.hm Z.hB Z.mro (fun L => by rfl) (fun L => by rfl) (fun L => by rfl) (fun L => by rfl) (fun vs H Q E h => ?_) (fun A outer s H vs Q E h => ?_)
  · obtain ⟨a, x, rfl, tx, ea, q⟩ := h
    rfl
  · obtain ⟨a, x, rfl, tx, ea, q⟩ := h
    refine ⟨a, _, _, rfl, ea, pa_cons (pe_joined (PJ.cons pe_str (PJ.cons (pe_fmtR (pv 1)) PJ.nil))) pa_nil, pss_one (ps_ost (pv 0) (pv 1)), ?_⟩
    refine tJs_all Str.empty (AllT.cons (at_c (by decide +kernel)) (AllT.cons (at_r rfl tx) AllT.nil)) (by decide +kernel) fun out => ⟨by show 1 ≤ 1000; decide, ea, ?_⟩
    refine ⟨_, rfl, _, rfl, a, C, rfl, Z.T, no _ (by decide +kernel), .inl ⟨ea, fun d h1 h2 => ?_⟩⟩
    exact q d _ h1 h2 upd_same (putX_d h2) fun b o n e => putX_k h1 n e
theorem scI2 : NdefX.NScope ["self", "name", "__class__"] ["self", "name"] ["__class__"] (defScope sI2) := NdefX.nscope_by (by decide +kernel)
theorem fn_i2 (G : EgK P K mg) (Z : EcI P K mg "FieldThere" "FieldThere.__init__" sI2 ["self", "name"] C) (no : ∀ n, n ∈ (["name", "at", "kind", "calls", "arguments"] : List Str) → PySem.W.findIn K (.ref C) n = some none) : IniOk P w K mg base C ["self", "name"] (spN C) := by
  obtain ⟨f, cc, cda, oc, ccl, cl, kV, doc, pm, ct, od, an, cdd, cld, osl, ccs, csl, vs0, file, tf, h1, h2, lk, hcd, hcode, hvs, hfile, hcell, hb⟩ := Z.ex
  refine ⟨f, _, h1, h2, ?_, hb⟩
  refine GrEx.fn_sup (k := 1) (N := ["self", "name", "__class__"]) (ar := { arg := "self", annotation := none, pos := ⟨16, 17, 16, 21⟩ }) Z.T scI2 lk hcd hcode hvs hfile hcell G.sup G.top (by rfl) (by rfl) (by rfl) G.ho Z.hm Z.hB Z.mro (fun L => by rfl) (fun L => by rfl) (fun L => by rfl) (fun L => by rfl) (fun vs H Q E h => ?_) (fun A outer s H vs Q E h => ?_)
  · obtain ⟨a, x, rfl, tx, ea, q⟩ := h
    rfl
  · obtain ⟨a, x, rfl, tx, ea, q⟩ := h
    refine ⟨a, _, _, rfl, ea, pa_cons (pe_joined (PJ.cons pe_str (PJ.cons (pe_fmtR (pv 1)) (PJ.cons pe_str PJ.nil)))) pa_nil, pss_one (ps_ost (pv 0) (pv 1)), ?_⟩
    refine tJs_all Str.empty (AllT.cons (at_c (by decide +kernel)) (AllT.cons (at_r rfl tx) (AllT.cons (at_c (by decide +kernel)) AllT.nil))) (by decide +kernel) fun out => ⟨by show 1 ≤ 1000; decide, ea, ?_⟩
    refine ⟨_, rfl, _, rfl, a, C, rfl, Z.T, no _ (by decide +kernel), .inl ⟨ea, fun d h1 h2 => ?_⟩⟩
    exact q d _ h1 h2 upd_same (putX_d h2) fun b o n e => putX_k h1 n e
theorem scI3 : NdefX.NScope ["self", "name", "__class__"] ["self", "name"] ["__class__"] (defScope sI3) := NdefX.nscope_by (by decide +kernel)
theorem fn_i3 (G : EgK P K mg) (Z : EcI P K mg "Shared" "Shared.__init__" sI3 ["self", "name"] C) (no : ∀ n, n ∈ (["name", "at", "kind", "calls", "arguments"] : List Str) → PySem.W.findIn K (.ref C) n = some none) : IniOk P w K mg base C ["self", "name"] (spN C) := by
  obtain ⟨f, cc, cda, oc, ccl, cl, kV, doc, pm, ct, od, an, cdd, cld, osl, ccs, csl, vs0, file, tf, h1, h2, lk, hcd, hcode, hvs, hfile, hcell, hb⟩ := Z.ex
  refine ⟨f, _, h1, h2, ?_, hb⟩
  refine GrEx.fn_sup (k := 1) (N := ["self", "name", "__class__"]) (ar := { arg := "self", annotation := none, pos := ⟨21, 17, 21, 21⟩ }) Z.T scI3 lk hcd hcode hvs hfile hcell G.sup G.top (by rfl) (by rfl) (by rfl) G.ho Z.hm Z.hB Z.mro (fun L => by rfl) (fun L => by rfl) (fun L => by rfl) (fun L => by rfl) (fun vs H Q E h => ?_) (fun A outer s H vs Q E h => ?_)
  · obtain ⟨a, x, rfl, tx, ea, q⟩ := h
    rfl
  · obtain ⟨a, x, rfl, tx, ea, q⟩ := h
    refine ⟨a, _, _, rfl, ea, pa_cons (pe_joined (PJ.cons pe_str (PJ.cons (pe_fmtR (pv 1)) PJ.nil))) pa_nil, pss_one (ps_ost (pv 0) (pv 1)), ?_⟩
    refine tJs_all Str.empty (AllT.cons (at_c (by decide +kernel)) (AllT.cons (at_r rfl tx) AllT.nil)) (by decide +kernel) fun out => ⟨by show 1 ≤ 1000; decide, ea, ?_⟩
    refine ⟨_, rfl, _, rfl, a, C, rfl, Z.T, no _ (by decide +kernel), .inl ⟨ea, fun d h1 h2 => ?_⟩⟩
    exact q d _ h1 h2 upd_same (putX_d h2) fun b o n e => putX_k h1 n e
theorem scI4 : NdefX.NScope ["self", "name", "__class__"] ["self", "name"] ["__class__"] (defScope sI4) := NdefX.nscope_by (by decide +kernel)
theorem fn_i4 (G : EgK P K mg) (Z : EcI P K mg "TooLarge" "TooLarge.__init__" sI4 ["self", "name"] C) (no : ∀ n, n ∈ (["name", "at", "kind", "calls", "arguments"] : List Str) → PySem.W.findIn K (.ref C) n = some none) : IniOk P w K mg base C ["self", "name"] (spN C) := by
  obtain ⟨f, cc, cda, oc, ccl, cl, kV, doc, pm, ct, od, an, cdd, cld, osl, ccs, csl, vs0, file, tf, h1, h2, lk, hcd, hcode, hvs, hfile, hcell, hb⟩ := Z.ex
  refine ⟨f, _, h1, h2, ?_, hb⟩
  refine GrEx.fn_sup (k := 1) (N := ["self", "name", "__class__"]) (ar := { arg := "self", annotation := none, pos := ⟨54, 17, 54, 21⟩ }) Z.T scI4 lk hcd hcode hvs hfile hcell G.sup G.top (by rfl) (by rfl) (by rfl) G.ho Z.hm Z.hB Z.mro (fun L => by rfl) (fun L => by rfl) (fun L => by rfl) (fun L => by rfl) (fun vs H Q E h => ?_) (fun A outer s H vs Q E h => ?_)
  · obtain ⟨a, x, rfl, tx, ea, q⟩ := h
    rfl
  · obtain ⟨a, x, rfl, tx, ea, q⟩ := h
    refine ⟨a, _, _, rfl, ea, pa_cons (pe_joined (PJ.cons pe_str (PJ.cons (pe_fmt (pv 1)) (PJ.cons pe_str PJ.nil)))) pa_nil, pss_one (ps_ost (pv 0) (pv 1)), ?_⟩
    refine tJs_all Str.empty (AllT.cons (at_c (by decide +kernel)) (AllT.cons (at_s rfl tx) (AllT.cons (at_c (by decide +kernel)) AllT.nil))) (by decide +kernel) fun out => ⟨by show 1 ≤ 1000; decide, ea, ?_⟩
    refine ⟨_, rfl, _, rfl, a, C, rfl, Z.T, no _ (by decide +kernel), .inl ⟨ea, fun d h1 h2 => ?_⟩⟩
    exact q d _ h1 h2 upd_same (putX_d h2) fun b o n e => putX_k h1 n e
theorem scI5 : NdefX.NScope ["self", "name", "__class__"] ["self", "name"] ["__class__"] (defScope sI5) := NdefX.nscope_by (by decide +kernel)
theorem fn_i5 (G : EgK P K mg) (Z : EcI P K mg "UnknownFunction" "UnknownFunction.__init__" sI5 ["self", "name"] C) (no : ∀ n, n ∈ (["name", "at", "kind", "calls", "arguments"] : List Str) → PySem.W.findIn K (.ref C) n = some none) : IniOk P w K mg base C ["self", "name"] (spN C) := by
  obtain ⟨f, cc, cda, oc, ccl, cl, kV, doc, pm, ct, od, an, cdd, cld, osl, ccs, csl, vs0, file, tf, h1, h2, lk, hcd, hcode, hvs, hfile, hcell, hb⟩ := Z.ex
  refine ⟨f, _, h1, h2, ?_, hb⟩
  refine GrEx.fn_sup (k := 1) (N := ["self", "name", "__class__"]) (ar := { arg := "self", annotation := none, pos := ⟨59, 17, 59, 21⟩ }) Z.T scI5 lk hcd hcode hvs hfile hcell G.sup G.top (by rfl) (by rfl) (by rfl) G.ho Z.hm Z.hB Z.mro (fun L => by rfl) (fun L => by rfl) (fun L => by rfl) (fun L => by rfl) (fun vs H Q E h => ?_) (fun A outer s H vs Q E h => ?_)
  · obtain ⟨a, x, rfl, tx, ea, q⟩ := h
    rfl
  · obtain ⟨a, x, rfl, tx, ea, q⟩ := h
    refine ⟨a, _, _, rfl, ea, pa_cons (pe_joined (PJ.cons pe_str (PJ.cons (pe_fmtR (pv 1)) PJ.nil))) pa_nil, pss_one (ps_ost (pv 0) (pv 1)), ?_⟩
    refine tJs_all Str.empty (AllT.cons (at_c (by decide +kernel)) (AllT.cons (at_r rfl tx) AllT.nil)) (by decide +kernel) fun out => ⟨by show 1 ≤ 1000; decide, ea, ?_⟩
    refine ⟨_, rfl, _, rfl, a, C, rfl, Z.T, no _ (by decide +kernel), .inl ⟨ea, fun d h1 h2 => ?_⟩⟩
    exact q d _ h1 h2 upd_same (putX_d h2) fun b o n e => putX_k h1 n e
theorem scI6 : NdefX.NScope ["self", "name", "__class__"] ["self", "name"] ["__class__"] (defScope sI6) := NdefX.nscope_by (by decide +kernel)
theorem fn_i6 (G : EgK P K mg) (Z : EcI P K mg "WrongArguments" "WrongArguments.__init__" sI6 ["self", "name"] C) (no : ∀ n, n ∈ (["name", "at", "kind", "calls", "arguments"] : List Str) → PySem.W.findIn K (.ref C) n = some none) : IniOk P w K mg base C ["self", "name"] (spN C) := by
  obtain ⟨f, cc, cda, oc, ccl, cl, kV, doc, pm, ct, od, an, cdd, cld, osl, ccs, csl, vs0, file, tf, h1, h2, lk, hcd, hcode, hvs, hfile, hcell, hb⟩ := Z.ex
  refine ⟨f, _, h1, h2, ?_, hb⟩
  refine GrEx.fn_sup (k := 1) (N := ["self", "name", "__class__"]) (ar := { arg := "self", annotation := none, pos := ⟨64, 17, 64, 21⟩ }) Z.T scI6 lk hcd hcode hvs hfile hcell G.sup G.top (by rfl) (by rfl) (by rfl) G.ho Z.hm Z.hB Z.mro (fun L => by rfl) (fun L => by rfl) (fun L => by rfl) (fun L => by rfl) (fun vs H Q E h => ?_) (fun A outer s H vs Q E h => ?_)
  · obtain ⟨a, x, rfl, tx, ea, q⟩ := h
    rfl
  · obtain ⟨a, x, rfl, tx, ea, q⟩ := h
    refine ⟨a, _, _, rfl, ea, pa_cons (pe_joined (PJ.cons pe_str (PJ.cons (pe_fmt (pv 1)) PJ.nil))) pa_nil, pss_one (ps_ost (pv 0) (pv 1)), ?_⟩
    refine tJs_all Str.empty (AllT.cons (at_c (by decide +kernel)) (AllT.cons (at_s rfl tx) AllT.nil)) (by decide +kernel) fun out => ⟨by show 1 ≤ 1000; decide, ea, ?_⟩
    refine ⟨_, rfl, _, rfl, a, C, rfl, Z.T, no _ (by decide +kernel), .inl ⟨ea, fun d h1 h2 => ?_⟩⟩
    exact q d _ h1 h2 upd_same (putX_d h2) fun b o n e => putX_k h1 n e
theorem scI7 : NdefX.NScope ["self", "name", "at", "__class__"] ["self", "name", "at"] ["__class__"] (defScope sI7) := NdefX.nscope_by (by decide +kernel)
theorem fn_i7 (G : EgK P K mg) (Z : EcI P K mg "DoubleName" "DoubleName.__init__" sI7 ["self", "name", "at"] C) (no : ∀ n, n ∈ (["name", "at", "kind", "calls", "arguments"] : List Str) → PySem.W.findIn K (.ref C) n = some none) : IniOk P w K mg base C ["self", "name", "at"] (spNA C) := by
  obtain ⟨f, cc, cda, oc, ccl, cl, kV, doc, pm, ct, od, an, cdd, cld, osl, ccs, csl, vs0, file, tf, h1, h2, lk, hcd, hcode, hvs, hfile, hcell, hb⟩ := Z.ex
  refine ⟨f, _, h1, h2, ?_, hb⟩
  refine GrEx.fn_sup (k := 1) (N := ["self", "name", "at", "__class__"]) (ar := { arg := "self", annotation := none, pos := ⟨36, 17, 36, 21⟩ }) Z.T scI7 lk hcd hcode hvs hfile hcell G.sup G.top (by rfl) (by rfl) (by rfl) G.ho Z.hm Z.hB Z.mro (fun L => by rfl) (fun L => by rfl) (fun L => by rfl) (fun L => by rfl) (fun vs H Q E h => ?_) (fun A outer s H vs Q E h => ?_)
  · obtain ⟨a, x, i, rfl, tx, ti, ea, q⟩ := h
    rfl
  · obtain ⟨a, x, i, rfl, tx, ti, ea, q⟩ := h
    refine ⟨a, _, _, rfl, ea, pa_cons (pe_joined (PJ.cons (pe_fmt (pv 1)) (PJ.cons pe_str (PJ.cons (pe_fmt (pv 2)) PJ.nil)))) pa_nil, pss_cons (ps_ost (pv 0) (pv 1)) (pss_one (ps_ost (pv 0) (pv 2))), ?_⟩
    refine tJs_all Str.empty (AllT.cons (at_s rfl tx) (AllT.cons (at_c (by decide +kernel)) (AllT.cons (at_i rfl ti) AllT.nil))) (by decide +kernel) fun out => ⟨by show 1 ≤ 1000; decide, ea, ?_⟩
    refine ⟨_, rfl, _, rfl, a, C, rfl, Z.T, no _ (by decide +kernel), .inl ⟨ea, fun d h1 h2 => ?_⟩⟩
    refine ⟨_, rfl, _, rfl, a, C, rfl, Z.T, no _ (by decide +kernel), .inr ⟨d, _, upd_same, putX_d h2, by show 1 ≤ 900; decide, ?_⟩⟩
    refine q d _ h1 h2 (by rw [upd_ne (Ne.symm h2)]; exact upd_same) upd_same fun b o n e => ?_
    rw [upd_ne (ne_of_none e h1)]
    exact putX_k h1 n e
theorem scI8 : NdefX.NScope ["self", "name", "at", "__class__"] ["self", "name", "at"] ["__class__"] (defScope sI8) := NdefX.nscope_by (by decide +kernel)
theorem fn_i8 (G : EgK P K mg) (Z : EcI P K mg "UnknownName" "UnknownName.__init__" sI8 ["self", "name", "at"] C) (no : ∀ n, n ∈ (["name", "at", "kind", "calls", "arguments"] : List Str) → PySem.W.findIn K (.ref C) n = some none) : IniOk P w K mg base C ["self", "name", "at"] (spNA C) := by
  obtain ⟨f, cc, cda, oc, ccl, cl, kV, doc, pm, ct, od, an, cdd, cld, osl, ccs, csl, vs0, file, tf, h1, h2, lk, hcd, hcode, hvs, hfile, hcell, hb⟩ := Z.ex
  refine ⟨f, _, h1, h2, ?_, hb⟩
  refine GrEx.fn_sup (k := 1) (N := ["self", "name", "at", "__class__"]) (ar := { arg := "self", annotation := none, pos := ⟨42, 17, 42, 21⟩ }) Z.T scI8 lk hcd hcode hvs hfile hcell G.sup G.top (by rfl) (by rfl) (by rfl) G.ho Z.hm Z.hB Z.mro (fun L => by rfl) (fun L => by rfl) (fun L => by rfl) (fun L => by rfl) (fun vs H Q E h => ?_) (fun A outer s H vs Q E h => ?_)
  · obtain ⟨a, x, i, rfl, tx, ti, ea, q⟩ := h
    rfl
  · obtain ⟨a, x, i, rfl, tx, ti, ea, q⟩ := h
    refine ⟨a, _, _, rfl, ea, pa_cons (pe_joined (PJ.cons (pe_fmt (pv 1)) (PJ.cons pe_str (PJ.cons (pe_fmt (pv 2)) PJ.nil)))) pa_nil, pss_cons (ps_ost (pv 0) (pv 1)) (pss_one (ps_ost (pv 0) (pv 2))), ?_⟩
    refine tJs_all Str.empty (AllT.cons (at_s rfl tx) (AllT.cons (at_c (by decide +kernel)) (AllT.cons (at_i rfl ti) AllT.nil))) (by decide +kernel) fun out => ⟨by show 1 ≤ 1000; decide, ea, ?_⟩
    refine ⟨_, rfl, _, rfl, a, C, rfl, Z.T, no _ (by decide +kernel), .inl ⟨ea, fun d h1 h2 => ?_⟩⟩
    refine ⟨_, rfl, _, rfl, a, C, rfl, Z.T, no _ (by decide +kernel), .inr ⟨d, _, upd_same, putX_d h2, by show 1 ≤ 900; decide, ?_⟩⟩
    refine q d _ h1 h2 (by rw [upd_ne (Ne.symm h2)]; exact upd_same) upd_same fun b o n e => ?_
    rw [upd_ne (ne_of_none e h1)]
    exact putX_k h1 n e
theorem scI9 : NdefX.NScope ["self", "name", "at", "__class__"] ["self", "name", "at"] ["__class__"] (defScope sI9) := NdefX.nscope_by (by decide +kernel)
theorem fn_i9 (G : EgK P K mg) (Z : EcI P K mg "WrongCount" "WrongCount.__init__" sI9 ["self", "name", "at"] C) (no : ∀ n, n ∈ (["name", "at", "kind", "calls", "arguments"] : List Str) → PySem.W.findIn K (.ref C) n = some none) : IniOk P w K mg base C ["self", "name", "at"] (spNA C) := by
  obtain ⟨f, cc, cda, oc, ccl, cl, kV, doc, pm, ct, od, an, cdd, cld, osl, ccs, csl, vs0, file, tf, h1, h2, lk, hcd, hcode, hvs, hfile, hcell, hb⟩ := Z.ex
  refine ⟨f, _, h1, h2, ?_, hb⟩
  refine GrEx.fn_sup (k := 1) (N := ["self", "name", "at", "__class__"]) (ar := { arg := "self", annotation := none, pos := ⟨48, 17, 48, 21⟩ }) Z.T scI9 lk hcd hcode hvs hfile hcell G.sup G.top (by rfl) (by rfl) (by rfl) G.ho Z.hm Z.hB Z.mro (fun L => by rfl) (fun L => by rfl) (fun L => by rfl) (fun L => by rfl) (fun vs H Q E h => ?_) (fun A outer s H vs Q E h => ?_)
  · obtain ⟨a, x, i, rfl, tx, ti, ea, q⟩ := h
    rfl
  · obtain ⟨a, x, i, rfl, tx, ti, ea, q⟩ := h
    refine ⟨a, _, _, rfl, ea, pa_cons (pe_joined (PJ.cons pe_str (PJ.cons (pe_fmt (pv 1)) (PJ.cons pe_str (PJ.cons (pe_fmt (pv 2)) PJ.nil))))) pa_nil, pss_cons (ps_ost (pv 0) (pv 1)) (pss_one (ps_ost (pv 0) (pv 2))), ?_⟩
    refine tJs_all Str.empty (AllT.cons (at_c (by decide +kernel)) (AllT.cons (at_s rfl tx) (AllT.cons (at_c (by decide +kernel)) (AllT.cons (at_i rfl ti) AllT.nil)))) (by decide +kernel) fun out => ⟨by show 1 ≤ 1000; decide, ea, ?_⟩
    refine ⟨_, rfl, _, rfl, a, C, rfl, Z.T, no _ (by decide +kernel), .inl ⟨ea, fun d h1 h2 => ?_⟩⟩
    refine ⟨_, rfl, _, rfl, a, C, rfl, Z.T, no _ (by decide +kernel), .inr ⟨d, _, upd_same, putX_d h2, by show 1 ≤ 900; decide, ?_⟩⟩
    refine q d _ h1 h2 (by rw [upd_ne (Ne.symm h2)]; exact upd_same) upd_same fun b o n e => ?_
    rw [upd_ne (ne_of_none e h1)]
    exact putX_k h1 n e
theorem scI10 : NdefX.NScope ["self", "at", "__class__"] ["self", "at"] ["__class__"] (defScope sI10) := NdefX.nscope_by (by decide +kernel)
theorem fn_i10 (G : EgK P K mg) (Z : EcI P K mg "BadText" "BadText.__init__" sI10 ["self", "at"] C) (no : ∀ n, n ∈ (["name", "at", "kind", "calls", "arguments"] : List Str) → PySem.W.findIn K (.ref C) n = some none) : IniOk P w K mg base C ["self", "at"] (spA C) := by
  obtain ⟨f, cc, cda, oc, ccl, cl, kV, doc, pm, ct, od, an, cdd, cld, osl, ccs, csl, vs0, file, tf, h1, h2, lk, hcd, hcode, hvs, hfile, hcell, hb⟩ := Z.ex
  refine ⟨f, _, h1, h2, ?_, hb⟩
  refine GrEx.fn_sup (k := 1) (N := ["self", "at", "__class__"]) (ar := { arg := "self", annotation := none, pos := ⟨26, 17, 26, 21⟩ }) Z.T scI10 lk hcd hcode hvs hfile hcell G.sup G.top (by rfl) (by rfl) (by rfl) G.ho Z.hm Z.hB Z.mro (fun L => by rfl) (fun L => by rfl) (fun L => by rfl) (fun L => by rfl) (fun vs H Q E h => ?_) (fun A outer s H vs Q E h => ?_)
  · obtain ⟨a, i, rfl, ti, ea, q⟩ := h
    rfl
  · obtain ⟨a, i, rfl, ti, ea, q⟩ := h
    refine ⟨a, _, _, rfl, ea, pa_cons (pe_joined (PJ.cons pe_str (PJ.cons (pe_fmt (pv 1)) PJ.nil))) pa_nil, pss_one (ps_ost (pv 0) (pv 1)), ?_⟩
    refine tJs_all Str.empty (AllT.cons (at_c (by decide +kernel)) (AllT.cons (at_i rfl ti) AllT.nil)) (by decide +kernel) fun out => ⟨by show 1 ≤ 1000; decide, ea, ?_⟩
    refine ⟨_, rfl, _, rfl, a, C, rfl, Z.T, no _ (by decide +kernel), .inl ⟨ea, fun d h1 h2 => ?_⟩⟩
    exact q d _ h1 h2 upd_same (putX_d h2) fun b o n e => putX_k h1 n e
theorem scI11 : NdefX.NScope ["self", "at", "__class__"] ["self", "at"] ["__class__"] (defScope sI11) := NdefX.nscope_by (by decide +kernel)
theorem fn_i11 (G : EgK P K mg) (Z : EcI P K mg "TooDeep" "TooDeep.__init__" sI11 ["self", "at"] C) (no : ∀ n, n ∈ (["name", "at", "kind", "calls", "arguments"] : List Str) → PySem.W.findIn K (.ref C) n = some none) : IniOk P w K mg base C ["self", "at"] (spA C) := by
  obtain ⟨f, cc, cda, oc, ccl, cl, kV, doc, pm, ct, od, an, cdd, cld, osl, ccs, csl, vs0, file, tf, h1, h2, lk, hcd, hcode, hvs, hfile, hcell, hb⟩ := Z.ex
  refine ⟨f, _, h1, h2, ?_, hb⟩
  refine GrEx.fn_sup (k := 1) (N := ["self", "at", "__class__"]) (ar := { arg := "self", annotation := none, pos := ⟨31, 17, 31, 21⟩ }) Z.T scI11 lk hcd hcode hvs hfile hcell G.sup G.top (by rfl) (by rfl) (by rfl) G.ho Z.hm Z.hB Z.mro (fun L => by rfl) (fun L => by rfl) (fun L => by rfl) (fun L => by rfl) (fun vs H Q E h => ?_) (fun A outer s H vs Q E h => ?_)
  · obtain ⟨a, i, rfl, ti, ea, q⟩ := h
    rfl
  · obtain ⟨a, i, rfl, ti, ea, q⟩ := h
    refine ⟨a, _, _, rfl, ea, pa_cons (pe_joined (PJ.cons pe_str (PJ.cons (pe_fmt (pv 1)) PJ.nil))) pa_nil, pss_one (ps_ost (pv 0) (pv 1)), ?_⟩
    refine tJs_all Str.empty (AllT.cons (at_c (by decide +kernel)) (AllT.cons (at_i rfl ti) AllT.nil)) (by decide +kernel) fun out => ⟨by show 1 ≤ 1000; decide, ea, ?_⟩
    refine ⟨_, rfl, _, rfl, a, C, rfl, Z.T, no _ (by decide +kernel), .inl ⟨ea, fun d h1 h2 => ?_⟩⟩
    exact q d _ h1 h2 upd_same (putX_d h2) fun b o n e => putX_k h1 n e
theorem scI12 : NdefX.NScope ["self", "at", "__class__"] ["self", "at"] ["__class__"] (defScope sI12) := NdefX.nscope_by (by decide +kernel)
theorem fn_i12 (G : EgK P K mg) (Z : EcI P K mg "NoBranch" "NoBranch.__init__" sI12 ["self", "at"] C) (no : ∀ n, n ∈ (["name", "at", "kind", "calls", "arguments"] : List Str) → PySem.W.findIn K (.ref C) n = some none) : IniOk P w K mg base C ["self", "at"] (spA C) := by
  obtain ⟨f, cc, cda, oc, ccl, cl, kV, doc, pm, ct, od, an, cdd, cld, osl, ccs, csl, vs0, file, tf, h1, h2, lk, hcd, hcode, hvs, hfile, hcell, hb⟩ := Z.ex
  refine ⟨f, _, h1, h2, ?_, hb⟩
  refine GrEx.fn_sup (k := 1) (N := ["self", "at", "__class__"]) (ar := { arg := "self", annotation := none, pos := ⟨77, 17, 77, 21⟩ }) Z.T scI12 lk hcd hcode hvs hfile hcell G.sup G.top (by rfl) (by rfl) (by rfl) G.ho Z.hm Z.hB Z.mro (fun L => by rfl) (fun L => by rfl) (fun L => by rfl) (fun L => by rfl) (fun vs H Q E h => ?_) (fun A outer s H vs Q E h => ?_)
  · obtain ⟨a, i, rfl, ti, ea, q⟩ := h
    rfl
  · obtain ⟨a, i, rfl, ti, ea, q⟩ := h
    refine ⟨a, _, _, rfl, ea, pa_cons (pe_joined (PJ.cons pe_str (PJ.cons (pe_fmt (pv 1)) PJ.nil))) pa_nil, pss_one (ps_ost (pv 0) (pv 1)), ?_⟩
    refine tJs_all Str.empty (AllT.cons (at_c (by decide +kernel)) (AllT.cons (at_i rfl ti) AllT.nil)) (by decide +kernel) fun out => ⟨by show 1 ≤ 1000; decide, ea, ?_⟩
    refine ⟨_, rfl, _, rfl, a, C, rfl, Z.T, no _ (by decide +kernel), .inl ⟨ea, fun d h1 h2 => ?_⟩⟩
    exact q d _ h1 h2 upd_same (putX_d h2) fun b o n e => putX_k h1 n e
theorem scI13 : NdefX.NScope ["self", "__class__"] ["self"] ["__class__"] (defScope sI13) := NdefX.nscope_by (by decide +kernel)
theorem fn_i13 (G : EgK P K mg) (Z : EcI P K mg "Mismatch" "Mismatch.__init__" sI13 ["self"] C) : IniOk P w K mg base C ["self"] (spZ C) := by
  obtain ⟨f, cc, cda, oc, ccl, cl, kV, doc, pm, ct, od, an, cdd, cld, osl, ccs, csl, vs0, file, tf, h1, h2, lk, hcd, hcode, hvs, hfile, hcell, hb⟩ := Z.ex
  refine ⟨f, _, h1, h2, ?_, hb⟩
  refine GrEx.fn_sup (k := 1) (N := ["self", "__class__"]) (ar := { arg := "self", annotation := none, pos := ⟨82, 17, 82, 21⟩ }) Z.T scI13 lk hcd hcode hvs hfile hcell G.sup G.top (by rfl) (by rfl) (by rfl) G.ho Z.hm Z.hB Z.mro (fun L => by rfl) (fun L => by rfl) (fun L => by rfl) (fun L => by rfl) (fun vs H Q E h => ?_) (fun A outer s H vs Q E h => ?_)
  · obtain ⟨a, rfl, ea, q⟩ := h
    rfl
  · obtain ⟨a, rfl, ea, q⟩ := h
    exact ⟨a, _, _, rfl, ea, pa_cons pe_str pa_nil, pss_nil, by show 1 ≤ 1000; decide, ea, q⟩
theorem scI15 : NdefX.NScope ["self", "kind", "at", "calls", "name", "__class__"] ["self", "kind", "at", "calls", "name"] ["__class__"] (defScope sI15) := NdefX.nscope_by (by decide +kernel)
theorem fn_i15 (G : EgK P K mg) (Z : EcI P K mg "Failure" "Failure.__init__" sI15 ["self", "kind", "at", "calls", "name"] C) (no : ∀ n, n ∈ (["name", "at", "kind", "calls", "arguments"] : List Str) → PySem.W.findIn K (.ref C) n = some none) : IniOk P w K mg base C ["self", "kind", "at", "calls", "name"] (spF K C) := by
  obtain ⟨f, cc, cda, oc, ccl, cl, kV, doc, pm, ct, od, an, cdd, cld, osl, ccs, csl, vs0, file, tf, h1, h2, lk, hcd, hcode, hvs, hfile, hcell, hb⟩ := Z.ex
  refine ⟨f, _, h1, h2, ?_, hb⟩
  refine GrEx.fn_supR (k := 1) (N := ["self", "kind", "at", "calls", "name", "__class__"]) (ar := { arg := "self", annotation := none, pos := ⟨69, 17, 69, 21⟩ }) Z.T scI15 lk hcd hcode hvs hfile hcell G.sup G.top (by rfl) (by rfl) (by rfl) G.ho Z.hm Z.hB Z.mro (fun L => by rfl) (fun L => by rfl) (fun L => by rfl) (fun L => by rfl) (fun vs H Q E h => ?_) (fun A outer s H vs Q E hr h => ?_)
  · obtain ⟨a, b, x, i, l, v, rfl, tx, ti, tb, tl, tv, ea, q⟩ := h
    rfl
  · obtain ⟨a, b, x, i, l, v, rfl, tx, ti, tb, tl, tv, ea, q⟩ := h
    refine ⟨a, _, _, rfl, ea, pa_cons (pe_joined (PJ.cons pe_str (PJ.cons (pe_fmtR (pv 1)) (PJ.cons pe_str (PJ.cons (pe_fmt (pv 2)) (PJ.cons pe_str (PJ.cons (pe_fmtI (k := 1) (hr.deeper _) (pv 3)) (PJ.cons pe_str (PJ.cons (pe_fmtN (pv 4)) PJ.nil))))))))) pa_nil, pss_cons (ps_ost (pv 0) (pv 1)) (pss_cons (ps_ost (pv 0) (pv 2)) (pss_cons (ps_ost (pv 0) (pv 3)) (pss_one (ps_ost (pv 0) (pv 4))))), ?_⟩
    refine tJs_all Str.empty (AllT.cons (at_c (by decide +kernel)) (AllT.cons (at_r rfl tx) (AllT.cons (at_c (by decide +kernel)) (AllT.cons (at_i rfl ti) (AllT.cons (at_c (by decide +kernel)) (AllT.cons (at_t rfl tb tl) (AllT.cons (at_c (by decide +kernel)) (AllT.cons (at_n rfl tv) AllT.nil)))))))) (by show 0 + 1200 * 8 ≤ 100000; decide) fun out => ⟨by show 1 ≤ 1000; decide, ea, ?_⟩
    refine ⟨_, rfl, _, rfl, a, C, rfl, Z.T, no _ (by decide +kernel), .inl ⟨ea, fun d h1 h2 => ?_⟩⟩
    refine ⟨_, rfl, _, rfl, a, C, rfl, Z.T, no _ (by decide +kernel), .inr ⟨d, _, upd_same, putX_d h2, by show 1 ≤ 900; decide, ?_⟩⟩
    refine ⟨_, rfl, _, rfl, a, C, rfl, Z.T, no _ (by decide +kernel), .inr ⟨d, _, by rw [upd_ne (Ne.symm h2)]; exact upd_same, upd_same, by show 2 ≤ 900; decide, ?_⟩⟩
    refine ⟨_, rfl, _, rfl, a, C, rfl, Z.T, no _ (by decide +kernel), .inr ⟨d, _, by rw [upd_ne (Ne.symm h2), upd_ne (Ne.symm h2)]; exact upd_same, upd_same, by show 3 ≤ 900; decide, ?_⟩⟩
    refine q d _ h1 h2 (by rw [upd_ne (Ne.symm h2), upd_ne (Ne.symm h2), upd_ne (Ne.symm h2)]; exact upd_same) upd_same fun b o n e => ?_
    rw [upd_ne (ne_of_none e h1), upd_ne (ne_of_none e h1), upd_ne (ne_of_none e h1)]
    exact putX_k h1 n e
end
end Hp18
/-! NotRefined's __init__: a comprehension ahead of super().__init__(..). -/
namespace Hp18
open PySem PySem.Spec PyProof.Rows L2 HotX L2H GrT Lw
theorem bo_strS : bootBuiltins "str" = some (.type "str") := by decide +kernel
theorem sum_le {B : Nat} : ∀ {zs : List Str}, (∀ z ∈ zs, z.length ≤ B) → (zs.map (·.length)).sum ≤ zs.length * B
  | [], _ => by simp
  | z :: zs, h => by
    have h1 := h z List.mem_cons_self
    have h2 := sum_le fun y hy => h y (List.mem_cons_of_mem _ hy)
    rw [List.map_cons, List.sum_cons, List.length_cons, Nat.add_mul, Nat.one_mul]
    omega
theorem join_le {B : Nat} {zs : List Str} (h : ∀ z ∈ zs, z.length ≤ B) : (Txt.join (", " : Str) zs).length ≤ zs.length * B + zs.length * 2 := by
  rw [TL.join_eq]
  have h1 := StrLaws.join_length_le (", " : Str) zs
  have h2 := sum_le h
  have h3 : (", " : Str).length = 2 := rfl
  rw [h3] at h1
  omega
theorem same_new {H H1 : Hp} {a : Addr} {o : HO} (x : Same H H1) (n : H1 a = none) : Same H (upd H1 a o) := fun b u e => by
  have q := x b u e
  rw [upd_ne (ne_of_none q n)]
  exact q
theorem sqT_same {K : PySem.W.Frag} {H H' : Hp} {a : Addr} {xs : List V} (e : Same H H') (h : SqT K H a xs) : SqT K H' a xs := by
  rcases h with (h | ⟨o, h⟩) | h
  · exact .inl (.inl (e _ _ h))
  · exact .inl (.inr ⟨o, e _ _ h⟩)
  · exact .inr h
section
variable {P : Program} {w : World} {K : PySem.W.Frag} {mg : Str → Option Value} {base : Heap} {C : Addr}
theorem scI14 : NdefX.NScope ["self", "arguments", "__class__", "told", "value"] ["self", "arguments"] ["__class__"] (defScope sI14) := NdefX.nscope_by (by decide +kernel)
theorem fn_i14 (bS : mg "str" = none) (G : EgK P K mg) (Z : EcI P K mg "NotRefined" "NotRefined.__init__" sI14 ["self", "arguments"] C) (no : ∀ n, n ∈ (["name", "at", "kind", "calls", "arguments"] : List Str) → PySem.W.findIn K (.ref C) n = some none) :
    IniOk P w K mg base C ["self", "arguments"] (spG K C) := by
  obtain ⟨f, cc, cda, oc, ccl, cl, kV, doc, pm, ct, od, an, cdd, cld, osl, ccs, csl, vs0, file, tf, h1, h2, lk, hcd, hcode, hvs, hfile, hcell, hb⟩ := Z.ex
  refine ⟨f, _, h1, h2, ?_, hb⟩
  refine GrEx.fn_sup2 (k := 1) (N := ["self", "arguments", "__class__", "told", "value"]) (ar := { arg := "self", annotation := none, pos := ⟨86, 17, 86, 21⟩ }) Z.T scI14 lk hcd hcode hvs hfile hcell G.sup G.top (by rfl) (by rfl) (by rfl) G.ho Z.hm Z.hB Z.mro (fun L => by rfl) (fun L => by rfl) (fun L => by rfl) (fun L => by rfl) (fun vs H Q E h => ?_) (fun A outer s H vs Q E h => ?_)
  · obtain ⟨a, b, l, rfl, _⟩ := h
    rfl
  · obtain ⟨a, b, l, rfl, tb, tl, ea, q⟩ := h
    have hln := tl.ln
    refine ⟨a, _, _, _, rfl, ps_set (i := 3) scI14.nd rfl (Or.inl rfl) (pe_join pe_str (pe_lc (own := [("value", 4)]) (g := gName 4) (tt := tYes) rfl scI14.nd (pi_tup (pv 1)) (blkOk_by (own := [("value", 4)]) (N := ["self", "arguments", "__class__", "told", "value"]) (sc := defScope sI14) (by decide +kernel))
      (fun _ _ _ _ _ => pg_name (i := 4) scI14.nd rfl (Or.inl rfl)) (fun _ _ _ _ _ => pts_nil) (fun _ _ _ _ _ => pe_callTy call_str_int (by rfl) bS bo_strS (pa_cons (pv 4) pa_nil)))),
      pa_cons (pe_joined (PJ.cons pe_str (PJ.cons (pe_fmt (pv 3)) (PJ.cons pe_str PJ.nil)))) pa_nil, pss_one (ps_ost (pv 0) (pv 1)), ?_⟩
    refine ⟨⟨_, rfl⟩, _, rfl, b, rfl, ⟨_, tb⟩, fun D hD => lc_tup (xs := l.map V.int) (fun i H5 => ∃ zs : List Str, H5 D = some (.lst (zs.map V.str)) ∧ zs.length = i ∧ (∀ z ∈ zs, z.length ≤ 32) ∧ Same H H5)
      ⟨[], upd_same, rfl, (fun z hz => by cases hz), same_new (Same.refl _) hD⟩ (fun i H5 _ h => ?_) ?_ ?_⟩
    · obtain ⟨_, _, _, _, sm⟩ := h
      exact sqT_same sm tb
    · rintro i y H5 hy ⟨zs, eZ, zl, zb, sm⟩
      obtain ⟨j, hj, rfl⟩ : ∃ j, j ∈ l ∧ y = V.int j := by
        obtain ⟨j, hj, e⟩ := List.mem_map.mp (List.mem_of_getElem? hy)
        exact ⟨j, hj, e.symm⟩
      have ij := tl.all j hj
      have hi : i < l.length := by
        have := (List.getElem?_eq_some_iff.mp hy).1
        rwa [List.length_map] at this
      refine ⟨rfl, iteT (A := _) (B := True) ⟨_, rfl, j, rfl, ij.log, _, eZ, line_big (by rw [List.length_map]; omega), zs ++ [_], by rw [upd_same, List.map_append]; rfl, by rw [List.length_append, zl]; rfl, fun z hz => ?_, fun c o e => by rw [upd_ne (ne_of_none e hD)]; exact sm _ _ e⟩⟩
      rcases List.mem_append.mp hz with h | h
      · exact zb z h
      · rw [List.mem_singleton.mp h]
        exact ij.len
    · rintro H5 ⟨zs, eZ, zl, zb, sm⟩
      rw [List.length_map] at zl
      have b1 := join_le zb
      have b2 := sum_le zb
      refine ⟨_, D, zs, rfl, rfl, .inl (SqL.of eZ), ?_, rfl, sm _ _ ea, ?_⟩
      · show _ + _ * 2 ≤ _
        omega
      · refine tJs_all Str.empty (AllT.cons (at_c (by decide +kernel)) (AllT.cons (fun Q q => ?_) (AllT.cons (at_c (by decide +kernel)) AllT.nil))) (by show 0 + 1200 * 3 ≤ 100000; decide) fun out => ⟨by show 1 ≤ 1000; decide, sm _ _ ea, ?_⟩
        · exact ⟨_, rfl, .inl ⟨_, rfl, line_big (by omega), q _ (by omega)⟩⟩
        · refine ⟨_, rfl, _, rfl, a, C, rfl, Z.T, no _ (by decide +kernel), .inl ⟨sm _ _ ea, fun d h1 h2 => ?_⟩⟩
          have h0 : H d = none := by
            cases e : H d with
            | none => rfl
            | some o =>
              rw [sm _ _ e] at h1
              cases h1
          exact q d _ h0 h2 upd_same (putX_d h2) fun c o n e => putX_k h1 n (sm _ _ e)
end
end Hp18
/-! The defs that raise. -/
namespace Hp18
open PySem PySem.Spec PyProof.Rows L2 HotX L2H GrT Lw
abbrev sRN : Stmt := top 27
abbrev sRO : Stmt := top 28
abbrev fNames : List Str := ["name", "at", "kind", "calls", "arguments"]
/-- what the top says of the sixteen classes -/
structure Er (P : Program) (K : PySem.W.Frag) (mg : Str → Option Value) (c : Nat → Addr) (RE : Addr) : Prop where
  I0 : EcI P K mg "BadName" "BadName.__init__" sI0 ["self", "name"] (c 0)
  I1 : EcI P K mg "NoField" "NoField.__init__" sI1 ["self", "name"] (c 1)
  I2 : EcI P K mg "FieldThere" "FieldThere.__init__" sI2 ["self", "name"] (c 2)
  I3 : EcI P K mg "Shared" "Shared.__init__" sI3 ["self", "name"] (c 3)
  I4 : EcI P K mg "TooLarge" "TooLarge.__init__" sI4 ["self", "name"] (c 4)
  I5 : EcI P K mg "UnknownFunction" "UnknownFunction.__init__" sI5 ["self", "name"] (c 5)
  I6 : EcI P K mg "WrongArguments" "WrongArguments.__init__" sI6 ["self", "name"] (c 6)
  I7 : EcI P K mg "DoubleName" "DoubleName.__init__" sI7 ["self", "name", "at"] (c 7)
  I8 : EcI P K mg "UnknownName" "UnknownName.__init__" sI8 ["self", "name", "at"] (c 8)
  I9 : EcI P K mg "WrongCount" "WrongCount.__init__" sI9 ["self", "name", "at"] (c 9)
  I10 : EcI P K mg "BadText" "BadText.__init__" sI10 ["self", "at"] (c 10)
  I11 : EcI P K mg "TooDeep" "TooDeep.__init__" sI11 ["self", "at"] (c 11)
  I12 : EcI P K mg "NoBranch" "NoBranch.__init__" sI12 ["self", "at"] (c 12)
  I13 : EcI P K mg "Mismatch" "Mismatch.__init__" sI13 ["self"] (c 13)
  I14 : EcI P K mg "NotRefined" "NotRefined.__init__" sI14 ["self", "arguments"] (c 14)
  I15 : EcI P K mg "Failure" "Failure.__init__" sI15 ["self", "kind", "at", "calls", "name"] (c 15)
  no : ∀ k, k < 16 → ∀ n, n ∈ fNames → PySem.W.findIn K (.ref (c k)) n = some none
  xf : ∀ k, k < 16 → XfC K (c k)
  ex : ∀ k, k < 16 → ExcC K (c k)
  te : ∀ k, k < 16 → PySem.W.exmOne K (.ref (c k)) (.ref RE) = some true
  kV : ∀ k, k < 16 → PySem.W.kitOne K (.ref (c k)) (.type "ValueError") = some true
  kk : ∀ k j, k < 16 → j < 16 → PySem.W.kitOne K (.ref (c k)) (.ref (c j)) = some (decide (j = k))
  G : EgK P K mg
  bS : mg "str" = none
  bV : mg "ValueError" = none
  mR : mg "RecordsError" = some (.ref RE)
/-- the attributes, the later first -/
def flR (k : Nat) (x i t v : V) : List (Str × V) :=
  if k < 7 then [("name", v)] else if k < 10 then [("at", i), ("name", v)] else if k < 13 then [("at", i)] else if k = 13 then [] else if k = 14 then [("arguments", t)] else [("name", v), ("calls", t), ("at", i), ("kind", x)]
theorem prm_end {C a : Addr} {fs : List (Str × V)} {H : Hp} {QX : XK} (ha : H a = none) (q : ∀ d H', DctE H' d fs → Same H H' → QX (.ref C) d H') :
    Prm C a fs (upd H a (exo a C none)) (fun v H2 => v = .non ∧ ((∃ (d : Addr) (fs : List (Str × V)), H2 a = some (exo a C (some d)) ∧ H2 d = some (exd d fs) ∧ H d = none ∧ QX (.ref C) (some d) (upd (del H2 a) d (.xd fs))) ∨ (H2 a = some (exo a C none) ∧ QX (.ref C) none (del H2 a)))) := fun d H2 hd da e1 e2 kp => by
  rw [upd_ne da] at hd
  refine ⟨rfl, .inl ⟨d, fs, e1, e2, hd, q _ _ (.inr ⟨d, rfl, upd_same⟩) fun b o e => ?_⟩⟩
  have n1 : b ≠ a := ne_of_none e ha
  rw [upd_ne (ne_of_none e hd), del_ne n1]
  exact kp b o n1 (by rw [upd_ne n1]; exact e)
def spRN (c : Nat → Addr) : Sp := fun vs H Q E => ∃ (k : Nat) (x : Str) (i : Int), vs = [.int k, .str x, .int i] ∧ k < 10 ∧ TxE x ∧ IntE i ∧ ∀ d H' y t, DctE H' d (flR k y (.int i) t (.str x)) → Same H H' → E (.ref (c k)) d H'
def spRO (K : PySem.W.Frag) (c : Nat → Addr) : Sp := fun vs H Q E => ∃ (k : Nat) (x : Str) (i : Int) (b : Addr) (l : List Int) (v : V), vs = [.int k, .str x, .int i, .ref b, v] ∧ 10 ≤ k ∧ k < 16 ∧ TxE x ∧ IntE i ∧ SqT K H b (l.map V.int) ∧ IntsE l ∧ (v = .non ∨ ∃ y, v = .str y ∧ TxE y) ∧
  ∀ d H', DctE H' d (flR k (.str x) (.int i) (.ref b) v) → Same H H' → E (.ref (c k)) d H'
section
variable {P : Program} {w : World} {K : PySem.W.Frag} {mg : Str → Option Value} {base : Heap} {c : Nat → Addr} {RE : Addr}
theorem okN {x : Str} {st : Stmt} {N ps : List Str} {k : Nat} {sp : Sp} (D : Dfn K mg x st ps) (S : FnScope N ps (defScope st)) (len : ∀ vs H Q E, sp vs H Q E → vs.length = ps.length)
    (body : ∀ (f : Addr) (cdv : Value) (A : Around) (outer : List Env) (s : Shared) (H : Hp) (vs : List V) (Q : VK) (E : XK), Room k (A.deeper (envOfC x (defScope st) s.heap.objs.size f cdv)) → sp vs H Q E →
      ∃ t, PSs (cxOf (L2N.CX P w) P w K mg base N x (defScope st) f cdv A outer s H E) (defBody st) t ∧ t { nx := fun _ H' => Q .non H', rt := Q } (start N vs) H) :
    ∃ (f : Addr) (fd : FuncData), FnOk P w K mg base (L2N.CX P w) (k + 1) f fd ps sp ∧ mg x = some (.ref f) ∧ PySem.W.keepIn K (.ref f) = true ∧ Binds K fd ps [] := by
  obtain ⟨f, fd, hm, F, b⟩ := D.ex
  obtain ⟨oc, od, kV, doc, pm, an, cdv, ct, osl, rfl, lk, hcd⟩ := F.ex
  exact ⟨f, _, fn_of lk hcd S len fun A outer s H vs Q E hr hsp => body f cdv A outer s H vs Q E hr hsp, hm, F.kp, b⟩
theorem scRN : FnScope ["k", "name", "at"] ["k", "name", "at"] (defScope sRN) := ⟨rfl, rfl, rfl, by decide +kernel, rfl, by decide +kernel, by decide +kernel⟩
theorem c_rn (Y : Er P K mg c RE) (D : Dfn K mg "_law_raise_named" sRN ["k", "name", "at"]) :
    ∃ (f : Addr) (fd : FuncData), FnOk P w K mg base (L2N.CX P w) 4 f fd ["k", "name", "at"] (spRN c) ∧ mg "_law_raise_named" = some (.ref f) ∧ PySem.W.keepIn K (.ref f) = true ∧ Binds K fd ["k", "name", "at"] [] := by
  obtain ⟨f0, fd0, i0, t0, F0, b0⟩ := fn_i0 (w := w) (base := base) Y.G Y.I0 (Y.no 0 (by decide))
  obtain ⟨f1, fd1, i1, t1, F1, b1⟩ := fn_i1 (w := w) (base := base) Y.G Y.I1 (Y.no 1 (by decide))
  obtain ⟨f2, fd2, i2, t2, F2, b2⟩ := fn_i2 (w := w) (base := base) Y.G Y.I2 (Y.no 2 (by decide))
  obtain ⟨f3, fd3, i3, t3, F3, b3⟩ := fn_i3 (w := w) (base := base) Y.G Y.I3 (Y.no 3 (by decide))
  obtain ⟨f4, fd4, i4, t4, F4, b4⟩ := fn_i4 (w := w) (base := base) Y.G Y.I4 (Y.no 4 (by decide))
  obtain ⟨f5, fd5, i5, t5, F5, b5⟩ := fn_i5 (w := w) (base := base) Y.G Y.I5 (Y.no 5 (by decide))
  obtain ⟨f6, fd6, i6, t6, F6, b6⟩ := fn_i6 (w := w) (base := base) Y.G Y.I6 (Y.no 6 (by decide))
  obtain ⟨f7, fd7, i7, t7, F7, b7⟩ := fn_i7 (w := w) (base := base) Y.G Y.I7 (Y.no 7 (by decide))
  obtain ⟨f8, fd8, i8, t8, F8, b8⟩ := fn_i8 (w := w) (base := base) Y.G Y.I8 (Y.no 8 (by decide))
  obtain ⟨f9, fd9, i9, t9, F9, b9⟩ := fn_i9 (w := w) (base := base) Y.G Y.I9 (Y.no 9 (by decide))
  refine okN D scRN (fun vs H Q E h => ?_) (fun f cdv A outer s H vs Q E hr h => ?_)
  · obtain ⟨k, x, i, rfl, _⟩ := h
    rfl
  · obtain ⟨k, x, i, rfl, hk, tx, ti, q⟩ := h
    refine ⟨_, (pss_cons (ps_if (pt_cmpR op_eq (pv 0) pe_int (nomark _)) (pss_one (L2N.ps_raise rfl (L2N.takes_of rfl rfl rfl rfl) (pmkN Y.I0.T i0 t0 F0 hr b0 pass0 (by rfl) Y.I0.mgC (pa_cons (pv 1) pa_nil)))) pss_nil)
      (pss_cons (ps_if (pt_cmpR op_eq (pv 0) pe_int (nomark _)) (pss_one (L2N.ps_raise rfl (L2N.takes_of rfl rfl rfl rfl) (pmkN Y.I1.T i1 t1 F1 hr b1 pass0 (by rfl) Y.I1.mgC (pa_cons (pv 1) pa_nil)))) pss_nil)
      (pss_cons (ps_if (pt_cmpR op_eq (pv 0) pe_int (nomark _)) (pss_one (L2N.ps_raise rfl (L2N.takes_of rfl rfl rfl rfl) (pmkN Y.I2.T i2 t2 F2 hr b2 pass0 (by rfl) Y.I2.mgC (pa_cons (pv 1) pa_nil)))) pss_nil)
      (pss_cons (ps_if (pt_cmpR op_eq (pv 0) pe_int (nomark _)) (pss_one (L2N.ps_raise rfl (L2N.takes_of rfl rfl rfl rfl) (pmkN Y.I3.T i3 t3 F3 hr b3 pass0 (by rfl) Y.I3.mgC (pa_cons (pv 1) pa_nil)))) pss_nil)
      (pss_cons (ps_if (pt_cmpR op_eq (pv 0) pe_int (nomark _)) (pss_one (L2N.ps_raise rfl (L2N.takes_of rfl rfl rfl rfl) (pmkN Y.I4.T i4 t4 F4 hr b4 pass0 (by rfl) Y.I4.mgC (pa_cons (pv 1) pa_nil)))) pss_nil)
      (pss_cons (ps_if (pt_cmpR op_eq (pv 0) pe_int (nomark _)) (pss_one (L2N.ps_raise rfl (L2N.takes_of rfl rfl rfl rfl) (pmkN Y.I5.T i5 t5 F5 hr b5 pass0 (by rfl) Y.I5.mgC (pa_cons (pv 1) pa_nil)))) pss_nil)
      (pss_cons (ps_if (pt_cmpR op_eq (pv 0) pe_int (nomark _)) (pss_one (L2N.ps_raise rfl (L2N.takes_of rfl rfl rfl rfl) (pmkN Y.I6.T i6 t6 F6 hr b6 pass0 (by rfl) Y.I6.mgC (pa_cons (pv 1) pa_nil)))) pss_nil)
      (pss_cons (ps_if (pt_cmpR op_eq (pv 0) pe_int (nomark _)) (pss_one (L2N.ps_raise rfl (L2N.takes_of rfl rfl rfl rfl) (pmkN Y.I7.T i7 t7 F7 hr b7 pass0 (by rfl) Y.I7.mgC (pa_cons (pv 1) (pa_cons (pv 2) pa_nil))))) pss_nil)
      (pss_cons (ps_if (pt_cmpR op_eq (pv 0) pe_int (nomark _)) (pss_one (L2N.ps_raise rfl (L2N.takes_of rfl rfl rfl rfl) (pmkN Y.I8.T i8 t8 F8 hr b8 pass0 (by rfl) Y.I8.mgC (pa_cons (pv 1) (pa_cons (pv 2) pa_nil))))) pss_nil)
      (pss_one (L2N.ps_raise rfl (L2N.takes_of rfl rfl rfl rfl) (pmkN Y.I9.T i9 t9 F9 hr b9 pass0 (by rfl) Y.I9.mgC (pa_cons (pv 1) (pa_cons (pv 2) pa_nil)))))))))))))), ?_⟩
    match k, hk, q with
    | 0, _, q => exact ⟨_, rfl, rfl, _, rfl, iteT ⟨_, rfl, by show 1 ≤ 1000; decide, fun a ha => ⟨a, x, rfl, tx, upd_same, prm_end ha fun d H' h s => q d H' .non .non h s⟩⟩⟩
    | 1, _, q => exact ⟨_, rfl, rfl, _, rfl, iteF ⟨_, rfl, rfl, _, rfl, iteT ⟨_, rfl, by show 1 ≤ 1000; decide, fun a ha => ⟨a, x, rfl, tx, upd_same, prm_end ha fun d H' h s => q d H' .non .non h s⟩⟩⟩⟩
    | 2, _, q => exact ⟨_, rfl, rfl, _, rfl, iteF ⟨_, rfl, rfl, _, rfl, iteF ⟨_, rfl, rfl, _, rfl, iteT ⟨_, rfl, by show 1 ≤ 1000; decide, fun a ha => ⟨a, x, rfl, tx, upd_same, prm_end ha fun d H' h s => q d H' .non .non h s⟩⟩⟩⟩⟩
    | 3, _, q => exact ⟨_, rfl, rfl, _, rfl, iteF ⟨_, rfl, rfl, _, rfl, iteF ⟨_, rfl, rfl, _, rfl, iteF ⟨_, rfl, rfl, _, rfl, iteT ⟨_, rfl, by show 1 ≤ 1000; decide, fun a ha => ⟨a, x, rfl, tx, upd_same, prm_end ha fun d H' h s => q d H' .non .non h s⟩⟩⟩⟩⟩⟩
    | 4, _, q => exact ⟨_, rfl, rfl, _, rfl, iteF ⟨_, rfl, rfl, _, rfl, iteF ⟨_, rfl, rfl, _, rfl, iteF ⟨_, rfl, rfl, _, rfl, iteF ⟨_, rfl, rfl, _, rfl, iteT ⟨_, rfl, by show 1 ≤ 1000; decide, fun a ha => ⟨a, x, rfl, tx, upd_same, prm_end ha fun d H' h s => q d H' .non .non h s⟩⟩⟩⟩⟩⟩⟩
    | 5, _, q => exact ⟨_, rfl, rfl, _, rfl, iteF ⟨_, rfl, rfl, _, rfl, iteF ⟨_, rfl, rfl, _, rfl, iteF ⟨_, rfl, rfl, _, rfl, iteF ⟨_, rfl, rfl, _, rfl, iteF ⟨_, rfl, rfl, _, rfl, iteT ⟨_, rfl, by show 1 ≤ 1000; decide, fun a ha => ⟨a, x, rfl, tx, upd_same, prm_end ha fun d H' h s => q d H' .non .non h s⟩⟩⟩⟩⟩⟩⟩⟩
    | 6, _, q => exact ⟨_, rfl, rfl, _, rfl, iteF ⟨_, rfl, rfl, _, rfl, iteF ⟨_, rfl, rfl, _, rfl, iteF ⟨_, rfl, rfl, _, rfl, iteF ⟨_, rfl, rfl, _, rfl, iteF ⟨_, rfl, rfl, _, rfl, iteF ⟨_, rfl, rfl, _, rfl, iteT ⟨_, rfl, by show 1 ≤ 1000; decide, fun a ha => ⟨a, x, rfl, tx, upd_same, prm_end ha fun d H' h s => q d H' .non .non h s⟩⟩⟩⟩⟩⟩⟩⟩⟩
    | 7, _, q => exact ⟨_, rfl, rfl, _, rfl, iteF ⟨_, rfl, rfl, _, rfl, iteF ⟨_, rfl, rfl, _, rfl, iteF ⟨_, rfl, rfl, _, rfl, iteF ⟨_, rfl, rfl, _, rfl, iteF ⟨_, rfl, rfl, _, rfl, iteF ⟨_, rfl, rfl, _, rfl, iteF ⟨_, rfl, rfl, _, rfl, iteT ⟨_, rfl, _, rfl, by show 2 ≤ 1000; decide, fun a ha => ⟨a, x, i, rfl, tx, ti, upd_same, prm_end ha fun d H' h s => q d H' .non .non h s⟩⟩⟩⟩⟩⟩⟩⟩⟩⟩
    | 8, _, q => exact ⟨_, rfl, rfl, _, rfl, iteF ⟨_, rfl, rfl, _, rfl, iteF ⟨_, rfl, rfl, _, rfl, iteF ⟨_, rfl, rfl, _, rfl, iteF ⟨_, rfl, rfl, _, rfl, iteF ⟨_, rfl, rfl, _, rfl, iteF ⟨_, rfl, rfl, _, rfl, iteF ⟨_, rfl, rfl, _, rfl, iteF ⟨_, rfl, rfl, _, rfl, iteT ⟨_, rfl, _, rfl, by show 2 ≤ 1000; decide, fun a ha => ⟨a, x, i, rfl, tx, ti, upd_same, prm_end ha fun d H' h s => q d H' .non .non h s⟩⟩⟩⟩⟩⟩⟩⟩⟩⟩⟩
    | 9, _, q => exact ⟨_, rfl, rfl, _, rfl, iteF ⟨_, rfl, rfl, _, rfl, iteF ⟨_, rfl, rfl, _, rfl, iteF ⟨_, rfl, rfl, _, rfl, iteF ⟨_, rfl, rfl, _, rfl, iteF ⟨_, rfl, rfl, _, rfl, iteF ⟨_, rfl, rfl, _, rfl, iteF ⟨_, rfl, rfl, _, rfl, iteF ⟨_, rfl, rfl, _, rfl, iteF ⟨_, rfl, _, rfl, by show 2 ≤ 1000; decide, fun a ha => ⟨a, x, i, rfl, tx, ti, upd_same, prm_end ha fun d H' h s => q d H' .non .non h s⟩⟩⟩⟩⟩⟩⟩⟩⟩⟩⟩
    | k + 10, hk, _ => omega
theorem scRO : FnScope ["k", "kind", "at", "calls", "name"] ["k", "kind", "at", "calls", "name"] (defScope sRO) := ⟨rfl, rfl, rfl, by decide +kernel, rfl, by decide +kernel, by decide +kernel⟩
theorem c_ro (Y : Er P K mg c RE) (D : Dfn K mg "_law_raise_other" sRO ["k", "kind", "at", "calls", "name"]) :
    ∃ (f : Addr) (fd : FuncData), FnOk P w K mg base (L2N.CX P w) 4 f fd ["k", "kind", "at", "calls", "name"] (spRO K c) ∧ mg "_law_raise_other" = some (.ref f) ∧ PySem.W.keepIn K (.ref f) = true ∧ Binds K fd ["k", "kind", "at", "calls", "name"] [] := by
  obtain ⟨f10, fd10, i10, t10, F10, b10⟩ := fn_i10 (w := w) (base := base) Y.G Y.I10 (Y.no 10 (by decide))
  obtain ⟨f11, fd11, i11, t11, F11, b11⟩ := fn_i11 (w := w) (base := base) Y.G Y.I11 (Y.no 11 (by decide))
  obtain ⟨f12, fd12, i12, t12, F12, b12⟩ := fn_i12 (w := w) (base := base) Y.G Y.I12 (Y.no 12 (by decide))
  obtain ⟨f13, fd13, i13, t13, F13, b13⟩ := fn_i13 (w := w) (base := base) Y.G Y.I13
  obtain ⟨f14, fd14, i14, t14, F14, b14⟩ := fn_i14 (w := w) (base := base) Y.bS Y.G Y.I14 (Y.no 14 (by decide))
  obtain ⟨f15, fd15, i15, t15, F15, b15⟩ := fn_i15 (w := w) (base := base) Y.G Y.I15 (Y.no 15 (by decide))
  refine okN D scRO (fun vs H Q E h => ?_) (fun f cdv A outer s H vs Q E hr h => ?_)
  · obtain ⟨k, x, i, b, l, v, rfl, _⟩ := h
    rfl
  · obtain ⟨k, x, i, b, l, v, rfl, h10, hk, tx, ti, tb, tl, tv, q⟩ := h
    refine ⟨_, (pss_cons (ps_if (pt_cmpR op_eq (pv 0) pe_int (nomark _)) (pss_one (L2N.ps_raise rfl (L2N.takes_of rfl rfl rfl rfl) (pmkN Y.I10.T i10 t10 F10 hr b10 pass0 (by rfl) Y.I10.mgC (pa_cons (pv 2) pa_nil)))) pss_nil)
      (pss_cons (ps_if (pt_cmpR op_eq (pv 0) pe_int (nomark _)) (pss_one (L2N.ps_raise rfl (L2N.takes_of rfl rfl rfl rfl) (pmkN Y.I11.T i11 t11 F11 hr b11 pass0 (by rfl) Y.I11.mgC (pa_cons (pv 2) pa_nil)))) pss_nil)
      (pss_cons (ps_if (pt_cmpR op_eq (pv 0) pe_int (nomark _)) (pss_one (L2N.ps_raise rfl (L2N.takes_of rfl rfl rfl rfl) (pmkN Y.I12.T i12 t12 F12 hr b12 pass0 (by rfl) Y.I12.mgC (pa_cons (pv 2) pa_nil)))) pss_nil)
      (pss_cons (ps_if (pt_cmpR op_eq (pv 0) pe_int (nomark _)) (pss_one (L2N.ps_raise rfl (L2N.takes_of rfl rfl rfl rfl) (pmkN0 Y.I13.T i13 t13 F13 hr b13 pass0 (by rfl) Y.I13.mgC))) pss_nil)
      (pss_cons (ps_if (pt_cmpR op_eq (pv 0) pe_int (nomark _)) (pss_one (L2N.ps_raise rfl (L2N.takes_of rfl rfl rfl rfl) (pmkN Y.I14.T i14 t14 F14 hr b14 pass0 (by rfl) Y.I14.mgC (pa_cons (pv 3) pa_nil)))) pss_nil)
      (pss_one (L2N.ps_raise rfl (L2N.takes_of rfl rfl rfl rfl) (pmkN Y.I15.T i15 t15 F15 hr b15 pass0 (by rfl) Y.I15.mgC (pa_cons (pv 1) (pa_cons (pv 2) (pa_cons (pv 3) (pa_cons (pv 4) pa_nil)))))))))))), ?_⟩
    obtain ⟨j, rfl⟩ : ∃ j, k = j + 10 := ⟨k - 10, by omega⟩
    have up : ∀ {a : Addr} {o : HO}, H a = none → SqT K (upd H a o) b (l.map V.int) := fun n => sqT_same (same_new (Same.refl _) n) tb
    match j, hk, q with
    | 0, _, q => exact ⟨_, rfl, rfl, _, rfl, iteT ⟨_, rfl, by show 1 ≤ 1000; decide, fun a ha => ⟨a, i, rfl, ti, upd_same, prm_end ha q⟩⟩⟩
    | 1, _, q => exact ⟨_, rfl, rfl, _, rfl, iteF ⟨_, rfl, rfl, _, rfl, iteT ⟨_, rfl, by show 1 ≤ 1000; decide, fun a ha => ⟨a, i, rfl, ti, upd_same, prm_end ha q⟩⟩⟩⟩
    | 2, _, q => exact ⟨_, rfl, rfl, _, rfl, iteF ⟨_, rfl, rfl, _, rfl, iteF ⟨_, rfl, rfl, _, rfl, iteT ⟨_, rfl, by show 1 ≤ 1000; decide, fun a ha => ⟨a, i, rfl, ti, upd_same, prm_end ha q⟩⟩⟩⟩⟩
    | 3, _, q => exact ⟨_, rfl, rfl, _, rfl, iteF ⟨_, rfl, rfl, _, rfl, iteF ⟨_, rfl, rfl, _, rfl, iteF ⟨_, rfl, rfl, _, rfl, iteT ⟨by show 0 ≤ 1000; decide, fun a ha => ⟨a, rfl, upd_same, rfl, .inr ⟨upd_same, q none _ (.inl ⟨rfl, rfl⟩) fun b o e => by rw [del_ne (ne_of_none e ha), upd_ne (ne_of_none e ha)]; exact e⟩⟩⟩⟩⟩⟩⟩
    | 4, _, q => exact ⟨_, rfl, rfl, _, rfl, iteF ⟨_, rfl, rfl, _, rfl, iteF ⟨_, rfl, rfl, _, rfl, iteF ⟨_, rfl, rfl, _, rfl, iteF ⟨_, rfl, rfl, _, rfl, iteT ⟨_, rfl, by show 1 ≤ 1000; decide, fun a ha => ⟨a, b, l, rfl, up ha, tl, upd_same, prm_end ha q⟩⟩⟩⟩⟩⟩⟩
    | 5, _, q => exact ⟨_, rfl, rfl, _, rfl, iteF ⟨_, rfl, rfl, _, rfl, iteF ⟨_, rfl, rfl, _, rfl, iteF ⟨_, rfl, rfl, _, rfl, iteF ⟨_, rfl, rfl, _, rfl, iteF ⟨_, rfl, _, rfl, _, rfl, _, rfl, by show 4 ≤ 1000; decide, fun a ha => ⟨a, b, x, i, l, v, rfl, tx, ti, up ha, tl, tv, upd_same, prm_end ha q⟩⟩⟩⟩⟩⟩⟩
    | j + 6, hk, _ => omega
end
end Hp18
/-! The defs that are called within the except suite. -/
namespace Hp18
open PySem PySem.Spec PyProof.Rows L2 HotX L2H GrT Lw
theorem bo_isinstanceH : bootBuiltins "isinstance" = some (.builtin "isinstance") := by decide +kernel
abbrev sCls : Stmt := top 29
abbrev sAtt : Stmt := top 30
abbrev sDue : Stmt := top 31
theorem DctE.same {H H' : Hp} {d : Option Addr} {fs : List (Str × V)} (h : DctE H d fs) (s : Same H H') : DctE H' d fs := h.imp id fun ⟨dd, e, z⟩ => ⟨dd, e, s _ _ z⟩
/-- the exception in hand is of the class at C -/
def InH (C : Addr) (d : Option Addr) (o : Obj) : Prop := Zc (.ref C) d o ∧ ∃ vs, o.data = .fields vs
/-- what is due -/
def dueR (k : Nat) (x i t v : V) : List V := if k < 7 then [v] else if k < 10 then [v, i] else if k < 13 then [i] else if k = 13 then [] else if k = 14 then [t] else [x, i, t, v]
def spCls (c : Nat → Addr) : SpP := fun a o vs H Q _ => ∃ (k : Nat) (d : Option Addr) (fs : List (Str × V)), k < 16 ∧ vs = [.ref a] ∧ InH (c k) d o ∧ DctE H d fs ∧
  ∀ R H', H' R = some (.lst ((List.range 16).map fun j => V.bl (decide (j = k)))) → Same H H' → Q (.ref R) H'
def spAtt (c : Nat → Addr) : SpP := fun a o vs H Q _ => ∃ (k : Nat) (d : Option Addr) (x i t v : V), k < 16 ∧ vs = [.ref a, .int k] ∧ InH (c k) d o ∧ DctE H d (flR k x i t v) ∧
  ∀ R H', H' R = some (.lst (dueR k x i t v)) → Same H H' → Q (.ref R) H'
def spDue : SpP := fun _ _ vs H Q _ => ∃ (k : Nat) (x i t v : V), k < 16 ∧ vs = [.int k, x, i, t, v] ∧ ∀ R H', H' R = some (.lst (dueR k x i t v)) → Same H H' → Q (.ref R) H'
/-- a def called there, by its name -/
structure CalH (P : Program) (w : World) (K : PySem.W.Frag) (mg : Str → Option Value) (base : Heap) (k : Nat) (x : Str) (sp : SpP) : Prop where
  ex : ∃ (f : Addr) (fd : FuncData) (ps : List Str), FnHP P w K mg base CX0 k f fd ps sp ∧ mg x = some (.ref f) ∧ PySem.W.keepIn K (.ref f) = true ∧ Binds K fd ps []
theorem pe_ch {X : Cx} {k : Nat} {x : Str} {sp : SpP} {p : Addr × Obj} {q pos : Pos} {e : Expr} {es : List Expr} {t : TA} (c : CalH X.prog X.w X.K X.mg X.base k x sp) (hr : RoomH k X.A) (hot : Hot1 X.A p) (hp : p ∈ X.pn) (hg : Gl X x) (ha : PA X (e :: es) t)
    (hdb : (x == ("__debug__" : Str)) = false := by decide) (he : starEach (e :: es) X.env = (false, eval e X.env) :: starEach es X.env := by rfl) (hpl : (backTo pos (starEach es X.env)).any (·.1) = false := by rfl) :
    PE X (.Call (.Name x q) (e :: es) [] pos) (tCallS (sp p.1 p.2) (fun _ => E0) t) := by
  obtain ⟨f, fd, ps, F, hm, kp, b⟩ := c.ex
  exact pe_callHP F hr hot hp hg hm kp b (fun _ _ _ _ _ _ _ h => h.elim) ha hdb he hpl
section
variable {P : Program} {w : World} {K : PySem.W.Frag} {mg : Str → Option Value} {base : Heap} {c : Nat → Addr} {RE : Addr}
theorem calH {x : Str} {st : Stmt} {N ps : List Str} {k : Nat} {sp : SpP} (D : Dfn K mg x st ps) (S : FnScope N ps (defScope st)) (len : ∀ a o vs H Q E, sp a o vs H Q E → vs.length = ps.length)
    (body : ∀ (f : Addr) (cdv : Value) (A : Around) (outer : List Env) (s : Shared) (H : Hp) (vs : List V) (Q : VK) (E : XK) (p : Addr × Obj), Hot1 A p → RoomH k (A.deeper (envOfC x (defScope st) s.heap.objs.size f cdv)) → sp p.1 p.2 vs H Q E →
      ∃ t, PSs (cxH CX0 P w K mg base N x (defScope st) f cdv A outer s H E p) (defBody st) t ∧ t { nx := fun _ H' => Q .non H', rt := Q } (start N vs) H) : CalH P w K mg base (k + 1) x sp := by
  obtain ⟨f, fd, hm, F, b⟩ := D.ex
  obtain ⟨oc, od, kV, doc, pm, an, cdv, ct, osl, rfl, lk, hcd⟩ := F.ex
  exact ⟨f, _, ps, fnHP_of lk hcd S len fun A outer s H vs Q E p hot hr hsp => body f cdv A outer s H vs Q E p hot hr hsp, hm, F.kp, b⟩
theorem scCls : FnScope ["e", "found"] ["e"] (defScope sCls) := ⟨rfl, rfl, rfl, by decide +kernel, rfl, by decide +kernel, by decide +kernel⟩
theorem c_cls (bI : mg "isinstance" = none) (Y : Er P K mg c RE) (D : Dfn K mg "_law_classes" sCls ["e"]) : CalH P w K mg base 1 "_law_classes" (spCls c) := by
  refine calH D scCls (fun a o vs H Q E h => ?_) (fun f cdv A outer s H vs Q E p hot hr h => ?_)
  · obtain ⟨k, d, fs, _, rfl, _⟩ := h
    rfl
  · obtain ⟨a, o⟩ := p
    obtain ⟨k, d, fs, hk, rfl, ⟨hz, hf⟩, hd, q⟩ := h
    have pn : (a, o) ∈ (cxH CX0 P w K mg base ["e", "found"] "_law_classes" (defScope sCls) f cdv A outer s H E (a, o)).pn := List.mem_singleton.mpr rfl
    have ci := call_isP pn (Y.ex k hk) hz hf
    refine ⟨_, (pss_cons (ps_set (i := 1) scCls.nd rfl (Or.inl rfl) (pe_lst (pa_cons (pe_callB ci (by rfl) bI bo_isinstanceH (pa_cons (pv 0) (pa_cons (pe_glob (by rfl) Y.I0.mgC (v := .ref (c 0)) rfl) pa_nil))) (pa_cons (pe_callB ci (by rfl) bI bo_isinstanceH (pa_cons (pv 0) (pa_cons (pe_glob (by rfl) Y.I1.mgC (v := .ref (c 1)) rfl) pa_nil))) (pa_cons (pe_callB ci (by rfl) bI bo_isinstanceH (pa_cons (pv 0) (pa_cons (pe_glob (by rfl) Y.I2.mgC (v := .ref (c 2)) rfl) pa_nil))) (pa_cons (pe_callB ci (by rfl) bI bo_isinstanceH (pa_cons (pv 0) (pa_cons (pe_glob (by rfl) Y.I3.mgC (v := .ref (c 3)) rfl) pa_nil))) pa_nil))))))
      (pss_cons (ps_set (i := 1) scCls.nd rfl (Or.inl rfl) (pe_op op_cat (pv 1) (pe_lst (pa_cons (pe_callB ci (by rfl) bI bo_isinstanceH (pa_cons (pv 0) (pa_cons (pe_glob (by rfl) Y.I4.mgC (v := .ref (c 4)) rfl) pa_nil))) (pa_cons (pe_callB ci (by rfl) bI bo_isinstanceH (pa_cons (pv 0) (pa_cons (pe_glob (by rfl) Y.I5.mgC (v := .ref (c 5)) rfl) pa_nil))) (pa_cons (pe_callB ci (by rfl) bI bo_isinstanceH (pa_cons (pv 0) (pa_cons (pe_glob (by rfl) Y.I6.mgC (v := .ref (c 6)) rfl) pa_nil))) pa_nil))))))
      (pss_cons (ps_set (i := 1) scCls.nd rfl (Or.inl rfl) (pe_op op_cat (pv 1) (pe_lst (pa_cons (pe_callB ci (by rfl) bI bo_isinstanceH (pa_cons (pv 0) (pa_cons (pe_glob (by rfl) Y.I7.mgC (v := .ref (c 7)) rfl) pa_nil))) (pa_cons (pe_callB ci (by rfl) bI bo_isinstanceH (pa_cons (pv 0) (pa_cons (pe_glob (by rfl) Y.I8.mgC (v := .ref (c 8)) rfl) pa_nil))) (pa_cons (pe_callB ci (by rfl) bI bo_isinstanceH (pa_cons (pv 0) (pa_cons (pe_glob (by rfl) Y.I9.mgC (v := .ref (c 9)) rfl) pa_nil))) pa_nil))))))
      (pss_cons (ps_set (i := 1) scCls.nd rfl (Or.inl rfl) (pe_op op_cat (pv 1) (pe_lst (pa_cons (pe_callB ci (by rfl) bI bo_isinstanceH (pa_cons (pv 0) (pa_cons (pe_glob (by rfl) Y.I10.mgC (v := .ref (c 10)) rfl) pa_nil))) (pa_cons (pe_callB ci (by rfl) bI bo_isinstanceH (pa_cons (pv 0) (pa_cons (pe_glob (by rfl) Y.I11.mgC (v := .ref (c 11)) rfl) pa_nil))) (pa_cons (pe_callB ci (by rfl) bI bo_isinstanceH (pa_cons (pv 0) (pa_cons (pe_glob (by rfl) Y.I12.mgC (v := .ref (c 12)) rfl) pa_nil))) pa_nil))))))
      (pss_one (ps_ret (pe_op op_cat (pv 1) (pe_lst (pa_cons (pe_callB ci (by rfl) bI bo_isinstanceH (pa_cons (pv 0) (pa_cons (pe_glob (by rfl) Y.I13.mgC (v := .ref (c 13)) rfl) pa_nil))) (pa_cons (pe_callB ci (by rfl) bI bo_isinstanceH (pa_cons (pv 0) (pa_cons (pe_glob (by rfl) Y.I14.mgC (v := .ref (c 14)) rfl) pa_nil))) (pa_cons (pe_callB ci (by rfl) bI bo_isinstanceH (pa_cons (pv 0) (pa_cons (pe_glob (by rfl) Y.I15.mgC (v := .ref (c 15)) rfl) pa_nil))) pa_nil))))))))))), ?_⟩
    have s0 := Same.refl H
    refine ⟨_, rfl, _, _, _, fs, rfl, .own (c 0), hd, Y.kk k 0 hk (by decide), _, rfl, _, _, _, fs, rfl, .own (c 1), hd, Y.kk k 1 hk (by decide), _, rfl, _, _, _, fs, rfl, .own (c 2), hd, Y.kk k 2 hk (by decide), _, rfl, _, _, _, fs, rfl, .own (c 3), hd, Y.kk k 3 hk (by decide), line_big (by show 4 ≤ 100000; decide), fun R0 hR0 => ?_⟩
    have e0 : (upd H R0 (.lst [V.bl (decide (0 = k)), V.bl (decide (1 = k)), V.bl (decide (2 = k)), V.bl (decide (3 = k))])) R0 = some (.lst ((List.range 4).map fun j => V.bl (decide (j = k)))) := upd_same
    have s0 : Same H (upd H R0 (.lst [V.bl (decide (0 = k)), V.bl (decide (1 = k)), V.bl (decide (2 = k)), V.bl (decide (3 = k))])) := same_new (Same.refl H) hR0
    generalize upd H R0 (.lst [V.bl (decide (0 = k)), V.bl (decide (1 = k)), V.bl (decide (2 = k)), V.bl (decide (3 = k))]) = H0 at e0 s0 ⊢
    refine ⟨_, rfl, _, rfl, _, _, _, fs, rfl, .own (c 4), (hd.same s0), Y.kk k 4 hk (by decide), _, rfl, _, _, _, fs, rfl, .own (c 5), (hd.same s0), Y.kk k 5 hk (by decide), _, rfl, _, _, _, fs, rfl, .own (c 6), (hd.same s0), Y.kk k 6 hk (by decide), line_big (by show 3 ≤ 100000; decide), fun T0 hT0 => ⟨R0, T0, _, _, rfl, rfl, (by rw [upd_ne (ne_of_none e0 hT0)]; exact e0), upd_same, line_big (by show 4 + 3 ≤ 100000; decide), fun R1 hR1 => ?_⟩⟩
    have u0 : Same H (upd H0 T0 (.lst [V.bl (decide (4 = k)), V.bl (decide (5 = k)), V.bl (decide (6 = k))])) := same_new s0 hT0
    have e1 : (upd (upd H0 T0 (.lst [V.bl (decide (4 = k)), V.bl (decide (5 = k)), V.bl (decide (6 = k))])) R1 (.lst (((List.range 4).map fun j => V.bl (decide (j = k))) ++ [V.bl (decide (4 = k)), V.bl (decide (5 = k)), V.bl (decide (6 = k))]))) R1 = some (.lst ((List.range 7).map fun j => V.bl (decide (j = k)))) := upd_same
    have s1 : Same H (upd (upd H0 T0 (.lst [V.bl (decide (4 = k)), V.bl (decide (5 = k)), V.bl (decide (6 = k))])) R1 (.lst (((List.range 4).map fun j => V.bl (decide (j = k))) ++ [V.bl (decide (4 = k)), V.bl (decide (5 = k)), V.bl (decide (6 = k))]))) := same_new u0 hR1
    generalize upd (upd H0 T0 (.lst [V.bl (decide (4 = k)), V.bl (decide (5 = k)), V.bl (decide (6 = k))])) R1 (.lst (((List.range 4).map fun j => V.bl (decide (j = k))) ++ [V.bl (decide (4 = k)), V.bl (decide (5 = k)), V.bl (decide (6 = k))])) = H1 at e1 s1 ⊢
    refine ⟨_, rfl, _, rfl, _, _, _, fs, rfl, .own (c 7), (hd.same s1), Y.kk k 7 hk (by decide), _, rfl, _, _, _, fs, rfl, .own (c 8), (hd.same s1), Y.kk k 8 hk (by decide), _, rfl, _, _, _, fs, rfl, .own (c 9), (hd.same s1), Y.kk k 9 hk (by decide), line_big (by show 3 ≤ 100000; decide), fun T1 hT1 => ⟨R1, T1, _, _, rfl, rfl, (by rw [upd_ne (ne_of_none e1 hT1)]; exact e1), upd_same, line_big (by show 7 + 3 ≤ 100000; decide), fun R2 hR2 => ?_⟩⟩
    have u1 : Same H (upd H1 T1 (.lst [V.bl (decide (7 = k)), V.bl (decide (8 = k)), V.bl (decide (9 = k))])) := same_new s1 hT1
    have e2 : (upd (upd H1 T1 (.lst [V.bl (decide (7 = k)), V.bl (decide (8 = k)), V.bl (decide (9 = k))])) R2 (.lst (((List.range 7).map fun j => V.bl (decide (j = k))) ++ [V.bl (decide (7 = k)), V.bl (decide (8 = k)), V.bl (decide (9 = k))]))) R2 = some (.lst ((List.range 10).map fun j => V.bl (decide (j = k)))) := upd_same
    have s2 : Same H (upd (upd H1 T1 (.lst [V.bl (decide (7 = k)), V.bl (decide (8 = k)), V.bl (decide (9 = k))])) R2 (.lst (((List.range 7).map fun j => V.bl (decide (j = k))) ++ [V.bl (decide (7 = k)), V.bl (decide (8 = k)), V.bl (decide (9 = k))]))) := same_new u1 hR2
    generalize upd (upd H1 T1 (.lst [V.bl (decide (7 = k)), V.bl (decide (8 = k)), V.bl (decide (9 = k))])) R2 (.lst (((List.range 7).map fun j => V.bl (decide (j = k))) ++ [V.bl (decide (7 = k)), V.bl (decide (8 = k)), V.bl (decide (9 = k))])) = H2 at e2 s2 ⊢
    refine ⟨_, rfl, _, rfl, _, _, _, fs, rfl, .own (c 10), (hd.same s2), Y.kk k 10 hk (by decide), _, rfl, _, _, _, fs, rfl, .own (c 11), (hd.same s2), Y.kk k 11 hk (by decide), _, rfl, _, _, _, fs, rfl, .own (c 12), (hd.same s2), Y.kk k 12 hk (by decide), line_big (by show 3 ≤ 100000; decide), fun T2 hT2 => ⟨R2, T2, _, _, rfl, rfl, (by rw [upd_ne (ne_of_none e2 hT2)]; exact e2), upd_same, line_big (by show 10 + 3 ≤ 100000; decide), fun R3 hR3 => ?_⟩⟩
    have u2 : Same H (upd H2 T2 (.lst [V.bl (decide (10 = k)), V.bl (decide (11 = k)), V.bl (decide (12 = k))])) := same_new s2 hT2
    have e3 : (upd (upd H2 T2 (.lst [V.bl (decide (10 = k)), V.bl (decide (11 = k)), V.bl (decide (12 = k))])) R3 (.lst (((List.range 10).map fun j => V.bl (decide (j = k))) ++ [V.bl (decide (10 = k)), V.bl (decide (11 = k)), V.bl (decide (12 = k))]))) R3 = some (.lst ((List.range 13).map fun j => V.bl (decide (j = k)))) := upd_same
    have s3 : Same H (upd (upd H2 T2 (.lst [V.bl (decide (10 = k)), V.bl (decide (11 = k)), V.bl (decide (12 = k))])) R3 (.lst (((List.range 10).map fun j => V.bl (decide (j = k))) ++ [V.bl (decide (10 = k)), V.bl (decide (11 = k)), V.bl (decide (12 = k))]))) := same_new u2 hR3
    generalize upd (upd H2 T2 (.lst [V.bl (decide (10 = k)), V.bl (decide (11 = k)), V.bl (decide (12 = k))])) R3 (.lst (((List.range 10).map fun j => V.bl (decide (j = k))) ++ [V.bl (decide (10 = k)), V.bl (decide (11 = k)), V.bl (decide (12 = k))])) = H3 at e3 s3 ⊢
    refine ⟨_, rfl, _, rfl, _, _, _, fs, rfl, .own (c 13), (hd.same s3), Y.kk k 13 hk (by decide), _, rfl, _, _, _, fs, rfl, .own (c 14), (hd.same s3), Y.kk k 14 hk (by decide), _, rfl, _, _, _, fs, rfl, .own (c 15), (hd.same s3), Y.kk k 15 hk (by decide), line_big (by show 3 ≤ 100000; decide), fun T3 hT3 => ⟨R3, T3, _, _, rfl, rfl, (by rw [upd_ne (ne_of_none e3 hT3)]; exact e3), upd_same, line_big (by show 13 + 3 ≤ 100000; decide), fun R4 hR4 => ?_⟩⟩
    have u3 : Same H (upd H3 T3 (.lst [V.bl (decide (13 = k)), V.bl (decide (14 = k)), V.bl (decide (15 = k))])) := same_new s3 hT3
    have e4 : (upd (upd H3 T3 (.lst [V.bl (decide (13 = k)), V.bl (decide (14 = k)), V.bl (decide (15 = k))])) R4 (.lst (((List.range 13).map fun j => V.bl (decide (j = k))) ++ [V.bl (decide (13 = k)), V.bl (decide (14 = k)), V.bl (decide (15 = k))]))) R4 = some (.lst ((List.range 16).map fun j => V.bl (decide (j = k)))) := upd_same
    have s4 : Same H (upd (upd H3 T3 (.lst [V.bl (decide (13 = k)), V.bl (decide (14 = k)), V.bl (decide (15 = k))])) R4 (.lst (((List.range 13).map fun j => V.bl (decide (j = k))) ++ [V.bl (decide (13 = k)), V.bl (decide (14 = k)), V.bl (decide (15 = k))]))) := same_new u3 hR4
    exact q R4 _ e4 s4
theorem scAtt : FnScope ["e", "k"] ["e", "k"] (defScope sAtt) := ⟨rfl, rfl, rfl, by decide +kernel, rfl, by decide +kernel, by decide +kernel⟩
theorem c_att (Y : Er P K mg c RE) (D : Dfn K mg "_law_attributes" sAtt ["e", "k"]) : CalH P w K mg base 1 "_law_attributes" (spAtt c) := by
  refine calH D scAtt (fun a o vs H Q E h => ?_) (fun f cdv A outer s H vs Q E p hot hr h => ?_)
  · obtain ⟨k, d, x, i, t, v, _, rfl, _⟩ := h
    rfl
  · obtain ⟨a, o⟩ := p
    obtain ⟨k, d, x, i, t, v, hk, rfl, ⟨hz, hf⟩, hd, q⟩ := h
    have pn : (a, o) ∈ (cxH CX0 P w K mg base ["e", "k"] "_law_attributes" (defScope sAtt) f cdv A outer s H E (a, o)).pn := List.mem_singleton.mpr rfl
    refine ⟨_, (pss_cons (ps_if (pt_cmpR op_lt (pv 1) pe_int (nomark _)) (pss_one (ps_ret (pe_lst (pa_cons (pe_xp pn (Y.xf k hk) (Y.no k hk "name" (by decide +kernel)) hz hf (pv 0)) pa_nil)))) pss_nil)
      (pss_cons (ps_if (pt_cmpR op_lt (pv 1) pe_int (nomark _)) (pss_one (ps_ret (pe_lst (pa_cons (pe_xp pn (Y.xf k hk) (Y.no k hk "name" (by decide +kernel)) hz hf (pv 0)) (pa_cons (pe_xp pn (Y.xf k hk) (Y.no k hk "at" (by decide +kernel)) hz hf (pv 0)) pa_nil))))) pss_nil)
      (pss_cons (ps_if (pt_cmpR op_lt (pv 1) pe_int (nomark _)) (pss_one (ps_ret (pe_lst (pa_cons (pe_xp pn (Y.xf k hk) (Y.no k hk "at" (by decide +kernel)) hz hf (pv 0)) pa_nil)))) pss_nil)
      (pss_cons (ps_if (pt_cmpR op_eq (pv 1) pe_int (nomark _)) (pss_one (ps_ret (pe_lst pa_nil))) pss_nil)
      (pss_cons (ps_if (pt_cmpR op_eq (pv 1) pe_int (nomark _)) (pss_one (ps_ret (pe_lst (pa_cons (pe_xp pn (Y.xf k hk) (Y.no k hk "arguments" (by decide +kernel)) hz hf (pv 0)) pa_nil)))) pss_nil)
      (pss_one (ps_ret (pe_lst (pa_cons (pe_xp pn (Y.xf k hk) (Y.no k hk "kind" (by decide +kernel)) hz hf (pv 0)) (pa_cons (pe_xp pn (Y.xf k hk) (Y.no k hk "at" (by decide +kernel)) hz hf (pv 0)) (pa_cons (pe_xp pn (Y.xf k hk) (Y.no k hk "calls" (by decide +kernel)) hz hf (pv 0)) (pa_cons (pe_xp pn (Y.xf k hk) (Y.no k hk "name" (by decide +kernel)) hz hf (pv 0)) pa_nil)))))))))))), ?_⟩
    have fin : ∀ xs : List V, xs = dueR k x i t v → xs.length ≤ sizeLine ∧ ∀ R, H R = none → Q (.ref R) (upd H R (.lst xs)) := fun xs e => ⟨line_big (by
      have : xs.length ≤ 4 := by
        rw [e]
        unfold dueR
        repeat' split
        all_goals (simp <;> done)
      omega), fun R hR => q R _ (by rw [e]; exact upd_same) (same_new (Same.refl _) hR)⟩
    have hdd : ∀ fs, flR k x i t v = fs → fs ≠ [] → ∃ dd, d = some dd ∧ H dd = some (.xd fs) := fun fs e n => by
      rw [e] at hd
      rcases hd with ⟨_, z⟩ | z
      · exact absurd z n
      · exact z
    by_cases h7 : k < 7
    · obtain ⟨dd, rfl, ed⟩ := hdd [("name", v)] (by unfold flR; rw [if_pos h7]) (by simp)
      exact ⟨_, rfl, _, _, rfl, rfl, _, rfl, ite2 (fun _ => ⟨_, rfl, rfl, dd, _, v, rfl, ed, by rfl, fin [v] (by unfold dueR; rw [if_pos h7])⟩) fun z => absurd (decide_eq_true (by omega : (k : Int) < 7)) z⟩
    refine ⟨_, rfl, _, _, rfl, rfl, _, rfl, ite2 (fun z => absurd (of_decide_eq_true z) (by omega)) fun _ => ?_⟩
    by_cases h10 : k < 10
    · obtain ⟨dd, rfl, ed⟩ := hdd [("at", i), ("name", v)] (by unfold flR; rw [if_neg h7, if_pos h10]) (by simp)
      exact ⟨_, rfl, _, _, rfl, rfl, _, rfl, ite2 (fun _ => ⟨_, rfl, rfl, dd, _, v, rfl, ed, by rfl, _, rfl, rfl, dd, _, i, rfl, ed, by rfl, fin [v, i] (by unfold dueR; rw [if_neg h7, if_pos h10])⟩) fun z => absurd (decide_eq_true (by omega : (k : Int) < 10)) z⟩
    refine ⟨_, rfl, _, _, rfl, rfl, _, rfl, ite2 (fun z => absurd (of_decide_eq_true z) (by omega)) fun _ => ?_⟩
    by_cases h13 : k < 13
    · obtain ⟨dd, rfl, ed⟩ := hdd [("at", i)] (by unfold flR; rw [if_neg h7, if_neg h10, if_pos h13]) (by simp)
      exact ⟨_, rfl, _, _, rfl, rfl, _, rfl, ite2 (fun _ => ⟨_, rfl, rfl, dd, _, i, rfl, ed, by rfl, fin [i] (by unfold dueR; rw [if_neg h7, if_neg h10, if_pos h13])⟩) fun z => absurd (decide_eq_true (by omega : (k : Int) < 13)) z⟩
    refine ⟨_, rfl, _, _, rfl, rfl, _, rfl, ite2 (fun z => absurd (of_decide_eq_true z) (by omega)) fun _ => ?_⟩
    obtain ⟨j, rfl⟩ : ∃ j, k = j + 13 := ⟨k - 13, by omega⟩
    match j, hk with
    | 0, _ => exact ⟨_, rfl, rfl, _, rfl, iteT (fin [] (by rfl))⟩
    | 1, _ =>
      obtain ⟨dd, rfl, ed⟩ := hdd [("arguments", t)] (by rfl) (by simp)
      exact ⟨_, rfl, rfl, _, rfl, iteF ⟨_, rfl, rfl, _, rfl, iteT ⟨_, rfl, rfl, dd, _, t, rfl, ed, by rfl, fin [t] (by rfl)⟩⟩⟩
    | 2, _ =>
      obtain ⟨dd, rfl, ed⟩ := hdd [("name", v), ("calls", t), ("at", i), ("kind", x)] (by rfl) (by simp)
      exact ⟨_, rfl, rfl, _, rfl, iteF ⟨_, rfl, rfl, _, rfl, iteF ⟨_, rfl, rfl, dd, _, x, rfl, ed, by rfl, _, rfl, rfl, dd, _, i, rfl, ed, by rfl, _, rfl, rfl, dd, _, t, rfl, ed, by rfl, _, rfl, rfl, dd, _, v, rfl, ed, by rfl, fin [x, i, t, v] (by rfl)⟩⟩⟩
    | j + 3, h => exact absurd h (by omega)
theorem scDue : FnScope ["k", "kind", "at", "calls", "name"] ["k", "kind", "at", "calls", "name"] (defScope sDue) := ⟨rfl, rfl, rfl, by decide +kernel, rfl, by decide +kernel, by decide +kernel⟩
theorem c_due (D : Dfn K mg "_law_due" sDue ["k", "kind", "at", "calls", "name"]) : CalH P w K mg base 1 "_law_due" spDue := by
  refine calH D scDue (fun a o vs H Q E h => ?_) (fun f cdv A outer s H vs Q E p hot hr h => ?_)
  · obtain ⟨k, x, i, t, v, _, rfl, _⟩ := h
    rfl
  · obtain ⟨k, x, i, t, v, hk, rfl, q⟩ := h
    refine ⟨_, (pss_cons (ps_if (pt_cmpR op_lt (pv 0) pe_int (nomark _)) (pss_one (ps_ret (pe_lst (pa_cons (pv 4) pa_nil)))) pss_nil)
      (pss_cons (ps_if (pt_cmpR op_lt (pv 0) pe_int (nomark _)) (pss_one (ps_ret (pe_lst (pa_cons (pv 4) (pa_cons (pv 2) pa_nil))))) pss_nil)
      (pss_cons (ps_if (pt_cmpR op_lt (pv 0) pe_int (nomark _)) (pss_one (ps_ret (pe_lst (pa_cons (pv 2) pa_nil)))) pss_nil)
      (pss_cons (ps_if (pt_cmpR op_eq (pv 0) pe_int (nomark _)) (pss_one (ps_ret (pe_lst pa_nil))) pss_nil)
      (pss_one (ps_ret (pe_ifExp (pt_cmpR op_eq (pv 0) pe_int (nomark _)) (pe_lst (pa_cons (pv 3) pa_nil)) (pe_lst (pa_cons (pv 1) (pa_cons (pv 2) (pa_cons (pv 3) (pa_cons (pv 4) pa_nil)))))))))))), ?_⟩
    have fin : ∀ xs : List V, xs = dueR k x i t v → xs.length ≤ sizeLine ∧ ∀ R, H R = none → Q (.ref R) (upd H R (.lst xs)) := fun xs e => ⟨line_big (by
      have : xs.length ≤ 4 := by
        rw [e]
        unfold dueR
        repeat' split
        all_goals (simp <;> done)
      omega), fun R hR => q R _ (by rw [e]; exact upd_same) (same_new (Same.refl _) hR)⟩
    by_cases h7 : k < 7
    · exact ⟨_, rfl, _, _, rfl, rfl, _, rfl, ite2 (fun _ => ⟨_, rfl, fin [v] (by unfold dueR; rw [if_pos h7])⟩) fun z => absurd (decide_eq_true (by omega : (k : Int) < 7)) z⟩
    refine ⟨_, rfl, _, _, rfl, rfl, _, rfl, ite2 (fun z => absurd (of_decide_eq_true z) (by omega)) fun _ => ?_⟩
    by_cases h10 : k < 10
    · exact ⟨_, rfl, _, _, rfl, rfl, _, rfl, ite2 (fun _ => ⟨_, rfl, _, rfl, fin [v, i] (by unfold dueR; rw [if_neg h7, if_pos h10])⟩) fun z => absurd (decide_eq_true (by omega : (k : Int) < 10)) z⟩
    refine ⟨_, rfl, _, _, rfl, rfl, _, rfl, ite2 (fun z => absurd (of_decide_eq_true z) (by omega)) fun _ => ?_⟩
    by_cases h13 : k < 13
    · exact ⟨_, rfl, _, _, rfl, rfl, _, rfl, ite2 (fun _ => ⟨_, rfl, fin [i] (by unfold dueR; rw [if_neg h7, if_neg h10, if_pos h13])⟩) fun z => absurd (decide_eq_true (by omega : (k : Int) < 13)) z⟩
    refine ⟨_, rfl, _, _, rfl, rfl, _, rfl, ite2 (fun z => absurd (of_decide_eq_true z) (by omega)) fun _ => ?_⟩
    obtain ⟨j, rfl⟩ : ∃ j, k = j + 13 := ⟨k - 13, by omega⟩
    match j, hk with
    | 0, _ => exact ⟨_, rfl, rfl, _, rfl, iteT (fin [] (by rfl))⟩
    | 1, _ => exact ⟨_, rfl, rfl, _, rfl, iteF ⟨_, rfl, rfl, _, rfl, iteT ⟨_, rfl, fin [t] (by rfl)⟩⟩⟩
    | 2, _ => exact ⟨_, rfl, rfl, _, rfl, iteF ⟨_, rfl, rfl, _, rfl, iteF ⟨_, rfl, _, rfl, _, rfl, _, rfl, fin [x, i, t, v] (by rfl)⟩⟩⟩
    | j + 3, h => exact absurd h (by omega)
end
end Hp18
/-! _law_caught. -/
namespace Hp18
open PySem PySem.Spec PyProof.Rows L2 HotX L2H GrT Lw
/-! ### data that are alike -/
def DpOk (K : PySem.W.Frag) (H : Hp) (v : V) : Prop := ∃ d, Dp K H v d ∧ d.canLay0 = true ∧ d.depth ≤ 2
theorem dpOk_all {K : PySem.W.Frag} {H : Hp} : ∀ {xs : List V}, (∀ v ∈ xs, DpOk K H v) → ∃ ds, DpAll K H xs ds ∧ PyData.canLayAll0 ds = true ∧ PyData.depthAll ds ≤ 2
  | [], _ => ⟨[], .nil, rfl, by simp [PyData.depthAll]⟩
  | v :: xs, h => by
    obtain ⟨d, h1, h2, h3⟩ := h v List.mem_cons_self
    obtain ⟨ds, g1, g2, g3⟩ := dpOk_all fun z hz => h z (List.mem_cons_of_mem _ hz)
    exact ⟨d :: ds, .cons h1 g1, by rw [PyData.canLayAll0, h2, g2]; rfl, by rw [PyData.depthAll]; omega⟩
theorem dp_bl {K : PySem.W.Frag} {H : Hp} (b : Bool) : DpOk K H (.bl b) := ⟨_, .bl b, rfl, by simp [PyData.depth]⟩
theorem dp_int {K : PySem.W.Frag} {H : Hp} (i : Int) : DpOk K H (.int i) := ⟨_, .int i, rfl, by simp [PyData.depth]⟩
theorem dp_non {K : PySem.W.Frag} {H : Hp} : DpOk K H .non := ⟨_, .non, rfl, by simp [PyData.depth]⟩
theorem dp_str {K : PySem.W.Frag} {H : Hp} {x : Str} (h : TxE x) : DpOk K H (.str x) := ⟨_, .str x, by
  rw [PyData.canLay0]
  show x.cps.all (fun c => decide (c < 0x110000)) = true
  rw [← Array.all_toList, List.all_eq_true]
  exact fun c hc => decide_eq_true (h.cps c hc), by simp [PyData.depth]⟩
theorem dp_ints {K : PySem.W.Frag} {H : Hp} : ∀ (l : List Int), ∃ ds, DpAll K H (l.map V.int) ds ∧ PyData.canLayAll0 ds = true ∧ PyData.depthAll ds ≤ 0
  | [] => ⟨[], .nil, rfl, by simp [PyData.depthAll]⟩
  | i :: l => by
    obtain ⟨ds, g1, g2, g3⟩ := dp_ints l
    exact ⟨_, .cons (.int i) g1, by rw [PyData.canLayAll0, g2]; rfl, by simp only [PyData.depthAll, PyData.depth]; omega⟩
theorem dp_tup {K : PySem.W.Frag} {H : Hp} {b : Addr} {l : List Int} (h : SqT K H b (l.map V.int)) : DpOk K H (.ref b) := by
  obtain ⟨ds, g1, g2, g3⟩ := dp_ints l
  exact ⟨_, .tup h g1, by rw [PyData.canLay0]; exact g2, by rw [PyData.depth]; omega⟩
/-- two lists of the same -/
theorem two_lists {K : PySem.W.Frag} {H : Hp} {R S : Addr} {xs : List V} (h1 : H R = some (.lst xs)) (h2 : H S = some (.lst xs)) (h : ∀ v ∈ xs, DpOk K H v) :
    ∃ d, Dp K H (.ref R) d ∧ Dp K H (.ref S) d ∧ SeqAt.shaped d = true ∧ PyData.eqv d d = true := by
  obtain ⟨ds, g1, g2, g3⟩ := dpOk_all h
  have hl : PyData.canLay0 (.list ds) = true := by rw [PyData.canLay0]; exact g2
  refine ⟨.list ds, .lst (SqL.of h1) g1, .lst (SqL.of h2) g1, ?_, SeqAt.eqv_refl _ hl⟩
  unfold SeqAt.shaped
  rw [hl, Bool.true_and]
  exact decide_eq_true (by rw [PyData.depth]; omega)
/-! ### in the suite -/
section
variable {X : Cx} {a : Addr} {oe : Obj} {cls : Value} {d : Option Addr} {pn : List (Addr × Obj)}
/-- a call there: what the exception's object is, is told later -/
def tCallO (sp : SpP) (a : Addr) (cls : Value) (d : Option Addr) (t : TA) : TE := fun σ H Q => t σ H fun vs H1 => ∀ o, L2N.Zn cls d o → (∃ vs, o.data = .fields vs) → sp a o vs H1 Q E0
theorem pe_chO {k j : Nat} {x : Str} {sp : SpP} {q pos : Pos} {e : Expr} {es : List Expr} {t : TA} (c : CalH X.prog X.w X.K X.mg X.base k x sp) (hr : Room j X.A) (hk : k ≤ j) (hz : L2N.Zn cls d oe) (hf : ∃ vs, oe.data = .fields vs) (hg : Gl X x)
    (ha : PA (X.suite a ((a, oe) :: pn)) (e :: es) t) (hdb : (x == ("__debug__" : Str)) = false := by decide) (he : starEach (e :: es) X.env = (false, eval e X.env) :: starEach es X.env := by rfl) (hpl : (backTo pos (starEach es X.env)).any (·.1) = false := by rfl) :
    PE (X.suite a ((a, oe) :: pn)) (.Call (.Name x q) (e :: es) [] pos) (tCallO sp a cls d t) := by
  obtain ⟨f, fd, ps, F, hm, kp, b⟩ := c.ex
  obtain ⟨vs0, hv0⟩ := hf
  have hot : Hot1 (X.suite a ((a, oe) :: pn)).A (a, oe) := ⟨rfl, vs0, hv0, hz.2.2 vs0 hv0⟩
  refine ⟨fun pins s σ H Q I h => ?_⟩
  refine wpAny_Call_Name_kw (ld_glob I hg hm ?_ hdb)
  refine PySem.W.callWith_K (h₀ := X.base) I.ok.mod.kin kp (thn (ha.run pos pins s σ H _ I h) fun us s1 ⟨vs, H1, I1, r, z⟩ => ⟨I1.kIn, ?_⟩) he hpl
  have z := z oe hz ⟨vs0, hv0⟩
  have hl : us.length = ps.length := by rw [← r.length]; exact F.len _ _ _ _ _ _ z
  have b := b s1 us I1.kIn (by rw [List.append_nil]; exact hl)
  rw [List.append_nil] at b
  have P1 := I1.pin (a, oe) (List.mem_append_left _ List.mem_cons_self)
  have hpin : PinOk X.stack H1 s1 (a, oe) := ⟨P1.1, P1.2.1, fun hm => (List.mem_cons.mp (I1.stkSub a hm)).elim P1.2.2.1 P1.2.2.2.1, P1.2.2.2.2⟩
  refine wpAny_call (codeAny_mono (F.run (X.suite a ((a, oe) :: pn)).A X.stack s1 H1 ⟨us, []⟩ us vs Q E0 (a, oe) (roomH_mark (hr.mono hk) _) hot hpin I1.env0 b r z) fun r s' hq => ?_)
  match r, hq with
  | .error e, hq => exact hq.elim
  | .ok (.ret u), hq => exact I1.after hq
/-- isinstance there -/
def rIsO (K : PySem.W.Frag) (D a : Addr) (cls : Value) (d : Option Addr) : List V → Hp → VK → Prop := fun xs H Q => cls = .ref D ∧ rIsP K D a d xs H Q
theorem call_isO {D : Addr} (C : ExcC X.K D) (hz : L2N.Zn cls d oe) (hf : ∃ vs, oe.data = .fields vs) : CallR (X.suite a ((a, oe) :: pn)) (.builtin "isinstance") (rIsO X.K D a cls d) := by
  intro pins s σ H xs us Q I r h
  obtain ⟨rfl, h⟩ := h
  exact call_isP (X := X.suite a ((a, oe) :: pn)) List.mem_cons_self C hz.zc hf pins s σ H xs us Q I r h
end
theorem takesN0 {X : Cx} : L2N.Takes X (fun _ _ _ _ => False) := fun _ _ x => by
  obtain ⟨_, _, _, _, _, _, _, _, _, _, _, _, _, _, _, _, z⟩ := x
  exact z.elim
theorem bo_rangeH : bootBuiltins "range" = some (.type "range") := by decide +kernel
theorem bo_VEH : bootBuiltins "ValueError" = some (.type "ValueError") := by decide +kernel
abbrev sCaught : Stmt := top 32
def tbC (K : PySem.W.Frag) (c : Nat → Addr) : WX → TS := fun W => tIfS (tTest (tOp (rI0 fun i j => .bl (decide (i < j))) (tVar 0) (tC (.int 10)))) (tDrop (tCallS (spRN c) (WE W) (tCons (tVar 0) (tCons (tVar 4) (tCons (tVar 2) tNil)))))
  (tDrop (tCallS (spRO K c) (WE W) (tCons (tVar 0) (tCons (tVar 1) (tCons (tVar 2) (tCons (tVar 3) (tCons (tVar 4) tNil)))))))
def tsC (K : PySem.W.Frag) (c : Nat → Addr) (D : Addr) : Addr → Value → Option Addr → TS := fun a cls d =>
  tSeq (tIfS (tOr (tNot (tB (tCB (rIsO K D a cls d) (tCons (tVar 5) (tCons (tC (.ty "ValueError")) tNil))))) (tTest (tOp (rNeD K) (tCallO (spCls c) a cls d (tCons (tVar 5) tNil)) (tLc (iRng1 (tCons (tC (.int 16)) tNil)) (gName 6) tYes (tOp rEq (tVar 6) (tVar 0)) [6])))) (tRet (tC (.bl false))) tNext)
    (tRet (tOp (rEqD K) (tCallO (spAtt c) a cls d (tCons (tVar 5) (tCons (tVar 0) tNil))) (tCallO spDue a cls d (tCons (tVar 0) (tCons (tVar 1) (tCons (tVar 2) (tCons (tVar 3) (tCons (tVar 4) tNil))))))))
abbrev N7 : List Str := ["k", "kind", "at", "calls", "name", "e", "j"]
def spCaught (K : PySem.W.Frag) : Sp := fun vs H Q _ => ∃ (k : Nat) (x y : Str) (i : Int) (b : Addr) (l : List Int) (v : V), vs = [.int k, .str x, .int i, .ref b, v] ∧ k < 16 ∧ TxE x ∧ IntE i ∧ SqT K H b (l.map V.int) ∧ IntsE l ∧
  ((∃ y, v = .str y ∧ TxE y) ∨ (k = 15 ∧ v = .non)) ∧ ∀ H', Same H H' → Q (.bl true) H'
section
variable {P : Program} {w : World} {K : PySem.W.Frag} {mg : Str → Option Value} {base : Heap} {c : Nat → Addr} {RE : Addr}
theorem scCaught : FnScope N7 ["k", "kind", "at", "calls", "name"] (defScope sCaught) := ⟨rfl, rfl, rfl, by decide +kernel, rfl, by decide +kernel, by decide +kernel⟩
theorem due_ok {H : Hp} {k : Nat} {x i t v : V} (hx : DpOk K H x) (hi : DpOk K H i) (ht : DpOk K H t) (hv : DpOk K H v) : ∀ z ∈ dueR k x i t v, DpOk K H z := by
  unfold dueR
  intro z hz
  repeat' split at hz
  all_goals (simp only [List.mem_cons, List.not_mem_nil, or_false] at hz)
  all_goals (first | exact hz.elim | (rcases hz with rfl | rfl | rfl | rfl <;> assumption) | (rcases hz with rfl | rfl <;> assumption) | (subst hz; assumption))
theorem c_caught (bI : mg "isinstance" = none) (bR : mg "range" = none) (Y : Er P K mg c RE)
    (rn : ∃ (f : Addr) (fd : FuncData), FnOk P w K mg base (L2N.CX P w) 4 f fd ["k", "name", "at"] (spRN c) ∧ mg "_law_raise_named" = some (.ref f) ∧ PySem.W.keepIn K (.ref f) = true ∧ Binds K fd ["k", "name", "at"] [])
    (ro : ∃ (f : Addr) (fd : FuncData), FnOk P w K mg base (L2N.CX P w) 4 f fd ["k", "kind", "at", "calls", "name"] (spRO K c) ∧ mg "_law_raise_other" = some (.ref f) ∧ PySem.W.keepIn K (.ref f) = true ∧ Binds K fd ["k", "kind", "at", "calls", "name"] [])
    (cc : CalH P w K mg base 1 "_law_classes" (spCls c)) (ca : CalH P w K mg base 1 "_law_attributes" (spAtt c)) (cd : CalH P w K mg base 1 "_law_due" spDue)
    (D : Dfn K mg "_law_caught" sCaught ["k", "kind", "at", "calls", "name"]) : Cal P w K mg base 5 "_law_caught" (spCaught K) := by
  obtain ⟨f1, fd1, F1, m1, k1, b1⟩ := rn
  obtain ⟨f2, fd2, F2, m2, k2, b2⟩ := ro
  refine D.cal scCaught (fun vs H Q E h => ?_) (fun f cdv A outer s H vs Q E hr h => ?_)
  · obtain ⟨k, x, y, i, b, l, v, rfl, _⟩ := h
    rfl
  · obtain ⟨k, x, y, i, b, l, v, rfl, hk, tx, ti, tb, tl, tv, q⟩ := h
    have hu := hr.units
    refine ⟨_, (pss_cons (L2N.ps_try_as (i := 5) (tb := tbC K c) (ts := tsC K c (c k)) (Wout := fun _ _ _ _ => False) rfl rfl scCaught.nd rfl rfl ⟨rfl, by decide, Or.inl Y.mR⟩ takesN0
      (fun W pn xe tk _ => pss_one (ps_if (pt_cmpR op_lt (pv 0) pe_int (nomark _)) (pss_one (ps_expr (pe_callS F1 hr (by rfl) m1 k1 b1 (fun σ => L2N.passAt tk σ) (pa_cons (pv 0) (pa_cons (pv 4) (pa_cons (pv 2) pa_nil)))))) (pss_one (ps_expr (pe_callS F2 hr (by rfl) m2 k2 b2 (fun σ => L2N.passAt tk σ) (pa_cons (pv 0) (pa_cons (pv 1) (pa_cons (pv 2) (pa_cons (pv 3) (pa_cons (pv 4) pa_nil))))))))))
      (fun a oe cls d pn hz hf => ?_)) (pss_one (ps_ret pe_bl))), ?_⟩
    · have hf2 := hf
      obtain ⟨vs0, hv0⟩ := hf2
      have hot : Hot1 ((cxOf CX0 P w K mg base N7 "_law_caught" (defScope sCaught) f cdv A outer s H E).nox.A.mark (some (.ref a))) (a, oe) := ⟨rfl, vs0, hv0, hz.2.2 vs0 hv0⟩
      exact pss_cons (ps_if (PW.pt (pw_or (pt_not (pt_val (pe_callB (call_isO (Y.ex k hk) hz hf) (by rfl) bI bo_isinstanceH (pa_cons (pv 5) (pa_cons (pe_bltn (by rfl) Y.bV bo_VEH (v := .ty "ValueError") rfl) pa_nil)))))
        (pw_or1 (pt_cmpR (op_neD hu) (pe_chO cc hr (by decide) hz hf (by rfl) (pa_cons (pv 5) pa_nil)) (pe_lcH (own := [("j", 6)]) (g := gName 6) hot List.mem_cons_self scCaught.nd (pi_range1H (by rfl) bR (pa_cons pe_int pa_nil)) (blkOk_by (own := [("j", 6)]) (N := N7) (sc := defScope sCaught) (by decide +kernel))
          (fun _ _ _ _ _ => pg_name (i := 6) scCaught.nd rfl (Or.inl rfl)) (fun _ _ _ _ _ => pe_cmpR op_eq (pv 6) (pv 0) (nomark _))) (nomark _))))) (pss_one (ps_ret pe_bl)) pss_nil)
        (pss_one (ps_ret (pe_cmpR (op_eqD hu) (pe_chO ca hr (by decide) hz hf (by rfl) (pa_cons (pv 5) (pa_cons (pv 0) pa_nil))) (pe_chO cd hr (by decide) hz hf (by rfl) (pa_cons (pv 0) (pa_cons (pv 1) (pa_cons (pv 2) (pa_cons (pv 3) (pa_cons (pv 4) pa_nil)))))) (nomark _))))
    · have dx : ∀ {H'}, DpOk K H' (.str x) := dp_str tx
      have dv : ∀ {H'}, DpOk K H' v := by
        intro H'
        rcases tv with ⟨z, rfl, hz⟩ | ⟨_, rfl⟩
        · exact dp_str hz
        · exact dp_non
      have suite : ∀ (d : Option Addr) (H' : Hp) (D : Ends), D.rt = Q → DctE H' d (flR k (.str x) (.int i) (.ref b) v) → Same H H' → ∀ a, H' a = none →
          tsC K c (c k) a (.ref (c k)) d D ((start N7 [.int k, .str x, .int i, .ref b, v]).set 5 (some (.ref a))) H' := by
        intro d H' D hD hd s a ha
        refine ⟨_, rfl, rfl, _, _, true, _, rfl, .ty _, hd, Y.kV k hk, _, rfl, iteF ?_⟩
        refine ⟨_, rfl, fun o hz ho => ⟨k, d, _, hk, rfl, ⟨hz.zc, ho⟩, hd, fun R H1 eR s1 => ?_⟩⟩
        refine ⟨16, rfl, by decide, by decide, fun Z hZ => lc_range (lo := 0) (n := 16) (fun m H5 => H5 Z = some (.lst ((List.range m).map fun j => V.bl (decide (j = k)))) ∧ Same H1 H5) ⟨upd_same, same_new (Same.refl _) hZ⟩ ?_ ?_⟩
        · rintro m H5 hm ⟨eZ, sm⟩
          have ev : decide (V.int (0 + (m : Int)) = V.int (k : Int)) = decide (m = k) := by
            by_cases h : m = k
            · subst h
              rw [decide_eq_true rfl, decide_eq_true (by rw [Int.zero_add])]
            · rw [decide_eq_false h, decide_eq_false fun z => h (by
                have z2 : (0 : Int) + m = k := V.int.inj z
                omega)]
          refine ⟨rfl, iteT (A := _) (B := True) ⟨_, rfl, _, rfl, rfl, _, eZ, line_big (by rw [List.length_map, List.length_range]; omega), ?_, fun q o e => by rw [upd_ne (ne_of_none e hZ)]; exact sm _ _ e⟩⟩
          rw [upd_same, List.range_succ, List.map_append, ev]
          rfl
        · rintro H5 ⟨eZ, sm⟩
          obtain ⟨dd, d1, d2, sh, ev⟩ := two_lists (K := K) (sm _ _ eR) eZ fun z hz => by
            obtain ⟨j, _, rfl⟩ := List.mem_map.mp hz
            exact dp_bl _
          refine ⟨dd, dd, d1, d2, sh, sh, _, rfl, ?_⟩
          rw [ev]
          refine iteF ?_
          have s5 : Same H' H5 := s1.trans sm
          refine ⟨_, rfl, _, rfl, fun o hz ho => ⟨k, d, .str x, .int i, .ref b, v, hk, rfl, ⟨hz.zc, ho⟩, hd.same s5, fun R2 H6 e6 s6 => ?_⟩⟩
          refine ⟨_, rfl, _, rfl, _, rfl, _, rfl, _, rfl, fun o2 _ _ => ⟨k, .str x, .int i, .ref b, v, hk, rfl, fun R3 H7 e7 s7 => ?_⟩⟩
          obtain ⟨ee, g1, g2, sh2, ev2⟩ := two_lists (K := K) (s7 _ _ e6) e7 (due_ok dx (dp_int i) (dp_tup (sqT_same (((s.trans s5).trans s6).trans s7) tb)) dv)
          refine ⟨ee, ee, g1, g2, sh2, sh2, ?_⟩
          rw [ev2, hD]
          exact q H7 (((s.trans s5).trans s6).trans s7)
      refine ⟨_, rfl, _, _, rfl, rfl, _, rfl, ite2 (fun h => ?_) (fun h => ?_)⟩
      · have h10 : k < 10 := by
          have := of_decide_eq_true h
          omega
        obtain ⟨z, rfl, hz⟩ : ∃ z, v = .str z ∧ TxE z := by
          rcases tv with z | ⟨e, _⟩
          · exact z
          · omega
        refine ⟨_, rfl, _, rfl, _, rfl, k, z, i, rfl, h10, hz, ti, fun d H' y' t' hd s => ⟨true, Y.te k hk, fun _ a ha => suite d H' _ rfl ?_ s a ha, fun z => by cases z⟩⟩
        have e : flR k y' (.int i) t' (.str z) = flR k (.str x) (.int i) (.ref b) (.str z) := by
          unfold flR
          by_cases h7 : k < 7
          · rw [if_pos h7, if_pos h7]
          · rw [if_neg h7, if_neg h7, if_pos h10, if_pos h10]
        rw [← e]
        exact hd
      · have h10 : 10 ≤ k := by
          have := of_decide_eq_false (Bool.eq_false_iff.mpr h)
          omega
        refine ⟨_, rfl, _, rfl, _, rfl, _, rfl, _, rfl, k, x, i, b, l, v, rfl, h10, hk, tx, ti, tb, tl, ?_, fun d H' hd s => ⟨true, Y.te k hk, fun _ a ha => suite d H' _ rfl hd s a ha, fun z => by cases z⟩⟩
        rcases tv with z | ⟨_, z⟩
        · exact .inr z
        · exact .inl z
end
end Hp18
/-! The law. -/
namespace Hp18
open PySem PySem.Spec PyProof.Rows L2 HotX L2H GrT Lw
theorem bo_tupleH : bootBuiltins "tuple" = some (.type "tuple") := by decide +kernel
abbrev sLawS : Stmt := top 33
abbrev NL : List Str := ["script", "k", "tape", "at", "calls", "name", "j"]
theorem same_fx {p : Addr} {H0 H H' : Hp} (s : Same H0 H) (x : Fx p H H') (n : H0 p = none) : Same H0 H' := fun b o e => x b o (ne_of_none e n) (s b o e)
theorem tape_ne {H : Hp} {p a : Addr} (t : Tape H p) (h : H a = none) : a ≠ p := fun e => by
  obtain ⟨ns, q, _⟩ := t
  rw [e, q] at h
  cases h
def spLaw (K : PySem.W.Frag) : Sp := fun vs H Q _ => ∃ (a : Addr) (ns : List Int), vs = [.ref a] ∧ SqL K H a (ns.map V.int) ∧ ns.length ≤ 63 ∧ ∀ H', Q (.bl true) H'
section
variable {P : Program} {w : World} {K : PySem.W.Frag} {mg : Str → Option Value} {base : Heap}
theorem scLaw : FnScope NL ["script"] (defScope sLawS) := ⟨rfl, rfl, rfl, by decide +kernel, rfl, by decide +kernel, by decide +kernel⟩
theorem fn_law (bR : mg "range" = none) (bT : mg "tuple" = none) (c_law_cell : Cal P w K mg base 1 "_law_cell" (Lw.spCell K)) (c_law_tape : Cal P w K mg base 2 "_law_tape" spTape) (c_law_take : Cal P w K mg base 1 "_law_take" spTake)
    (c_law_number : Cal P w K mg base 2 "_law_number" spNumber) (c_law_word : Cal P w K mg base 2 "_law_word" spWord) (c_law_caught : Cal P w K mg base 5 "_law_caught" (spCaught K))
    {f : Addr} {fd : FuncData} (F : L2.Fun K "law" "law" sLawS f fd) : FnOk P w K mg base CX0 6 f fd ["script"] (spLaw K) := by
  refine F.ok scLaw (fun vs H Q E h => ?_) (fun cdv A outer s H vs Q E hr h => ?_)
  · obtain ⟨a, ns, rfl, _⟩ := h
    rfl
  · obtain ⟨a, ns, rfl, hS, hl, q⟩ := h
    refine ⟨_, (pss_cons (ps_for PassesOwn.never rfl (pi_range1 (by rfl) bR (pa_cons pe_int pa_nil)) (pg_name (i := 1) scLaw.nd rfl (Or.inl rfl))
      (pss_cons (ps_set (i := 2) scLaw.nd rfl (Or.inr rfl) (pe_c c_law_tape hr (by decide) rfl (pa_cons (pe_c c_law_cell hr (by decide) rfl (pa_cons (pv 0) (pa_cons (pv 1) pa_nil))) (pa_cons (pe_c c_law_cell hr (by decide) rfl (pa_cons (pv 0) (pa_cons (pe_op op_add (pv 1) pe_int) pa_nil))) (pa_cons pe_int pa_nil)))))
      (pss_cons (ps_set (i := 3) scLaw.nd rfl (Or.inl rfl) (pe_c c_law_number hr (by decide) rfl (pa_cons (pv 2) pa_nil)))
      (pss_cons (ps_set (i := 4) scLaw.nd rfl (Or.inl rfl) (pe_callTy call_tuple_of (by rfl) bT bo_tupleH (pa_cons (pe_lc (own := [("j", 6)]) (g := gName 6) (tt := tYes) rfl scLaw.nd (pi_range1 (by rfl) bR (pa_cons (pe_c c_law_take hr (by decide) rfl (pa_cons (pv 2) (pa_cons pe_int pa_nil))) pa_nil)) (blkOk_by (own := [("j", 6)]) (N := NL) (sc := defScope sLawS) (by decide +kernel))
        (fun _ _ _ _ _ => pg_name (i := 6) scLaw.nd rfl (Or.inl rfl)) (fun _ _ _ _ _ => pts_nil) (fun _ _ _ _ _ => pe_c c_law_number hr (by decide) rfl (pa_cons (pv 2) pa_nil))) pa_nil)))
      (pss_cons (ps_set (i := 5) scLaw.nd rfl (Or.inl rfl) (pe_c c_law_word hr (by decide) rfl (pa_cons (pv 2) (pa_cons pe_int pa_nil))))
      (pss_cons (ps_if (PW.pt (pw_and (pt_cmpR op_eq (pv 1) pe_int (nomark _)) (pw_and1 (pt_cmpR op_eq (pe_c c_law_take hr (by decide) rfl (pa_cons (pv 2) (pa_cons pe_int pa_nil))) pe_int (nomark _))))) (pss_one (ps_set (i := 5) scLaw.nd rfl (Or.inl rfl) pe_non)) pss_nil)
      (pss_one (ps_if (pt_not (pt_val (pe_c c_law_caught hr (by decide) rfl (pa_cons (pv 1) (pa_cons (pe_c c_law_word hr (by decide) rfl (pa_cons (pv 2) (pa_cons pe_int pa_nil))) (pa_cons (pv 3) (pa_cons (pv 4) (pa_cons (pv 5) pa_nil)))))))) (pss_one (ps_ret pe_bl)) pss_nil))))))))
      (pss_one (ps_ret pe_bl))), ?_⟩
    refine ⟨16, rfl, by decide, by decide, for_range (lo := 0) (n := 16) (fun i σ H' => ∃ (kv tv av cv nv jv : Option V), σ = [some (.ref a), kv, tv, av, cv, nv, jv] ∧ SqL K H' a (ns.map V.int)) ⟨none, none, none, none, none, none, rfl, hS⟩ ?_ ?_⟩
    · rintro k σ H0 hk ⟨kv, tv, av, cv, nv, jv, rfl, hS⟩
      simp only [Int.zero_add]
      refine ⟨_, rfl, _, rfl, a, ns, k, rfl, hS, by omega, fun g => ?_⟩
      refine ⟨_, rfl, _, rfl, _, _, rfl, rfl, a, ns, (k : Int) + 16, rfl, hS, by omega, fun g2 => ?_⟩
      refine ⟨g, g2, 30, rfl, by decide, by decide, fun p H1 hp tp1 s1 => ?_⟩
      refine ⟨_, rfl, p, rfl, tp1, fun at' H2 a0 a1 x2 t2 => ?_⟩
      have s2 := same_fx s1 x2 hp
      refine ⟨_, rfl, p, 3, rfl, t2, by decide, fun m H3 m0 m1 x3 t3 => ⟨m, rfl, by omega, by omega, fun Z hZ => ?_⟩⟩
      have s3 := same_fx s2 x3 hp
      have Zp : Z ≠ p := tape_ne t3 hZ
      refine lc_range (lo := 0) (n := m.toNat) (fun i H5 => ∃ l : List Int, H5 Z = some (.lst (l.map V.int)) ∧ l.length = i ∧ (∀ j ∈ l, IntE j) ∧ Same H0 H5 ∧ Tape H5 p)
        ⟨[], upd_same, rfl, (fun j hj => by cases hj), same_new s3 hZ, t3.new hZ⟩ ?_ ?_
      · rintro i H5 hi ⟨l, eZ, ll, li, s5, t5⟩
        refine ⟨rfl, iteT (A := _) (B := True) ⟨_, rfl, p, rfl, t5, fun j H6 j0 j1 x6 t6 => ⟨_, x6 _ _ Zp eZ, line_big (by rw [List.length_map]; omega), l ++ [j], by rw [upd_same, List.map_append]; rfl, by rw [List.length_append, ll]; rfl, fun z hz => ?_, fun b o e => ?_, t6.put Zp⟩⟩⟩
        · rcases List.mem_append.mp hz with h | h
          · exact li z h
          · rw [List.mem_singleton.mp h]
            exact ⟨j0, j1⟩
        · have e6 := same_fx s5 x6 hp b o e
          have hZ0 : H0 Z = none := by
            cases z : H0 Z with
            | none => rfl
            | some u =>
              rw [s3 _ _ z] at hZ
              cases hZ
          rw [upd_ne (ne_of_none e hZ0)]
          exact e6
      · rintro H5 ⟨l, eZ, ll, li, s5, t5⟩
        refine ⟨Z, _, rfl, .inl ⟨SqL.of eZ, fun b hb => ?_⟩⟩
        have tb : SqT K (upd H5 b (.tup (l.map V.int))) b (l.map V.int) := SqT.of upd_same
        have s6 : Same H0 (upd H5 b (.tup (l.map V.int))) := same_new s5 hb
        have t6 : Tape (upd H5 b (.tup (l.map V.int))) p := t5.new hb
        have bp : b ≠ p := tape_ne t5 hb
        have b0 : H0 b = none := by
          cases z : H0 b with
          | none => rfl
          | some u =>
            rw [s5 _ _ z] at hb
            cases hb
        have tl : IntsE l := ⟨by omega, li⟩
        have eb : (upd H5 b (.tup (l.map V.int))) b = some (.tup (l.map V.int)) := upd_same
        generalize upd H5 b (.tup (l.map V.int)) = H6 at tb s6 t6 eb ⊢
        refine ⟨_, rfl, p, 8, rfl, t6, by decide, by decide, fun nm H7 n1 n8 naz x7 t7 => ?_⟩
        have tn : TxE nm := Az.txE (by omega) naz
        have s7 := same_fx s6 x7 hp
        have e7 := x7 _ _ bp eb
        by_cases h15 : k = 15
        · refine ⟨_, rfl, rfl, _, rfl, ite2 (fun _ => ?_) (fun z => absurd (decide_eq_true (by rw [h15]; rfl)) z)⟩
          refine ⟨_, rfl, p, 3, rfl, t7, by decide, fun u H8 u0 u1 x8 t8 => ⟨rfl, _, rfl, ite2 (fun _ => ?_) (fun _ => ?_)⟩⟩
          · refine ⟨_, rfl, _, rfl, p, 8, rfl, t8, by decide, by decide, fun kd H9 kd1 kd8 kdaz x9 t9 => ⟨_, rfl, _, rfl, _, rfl, k, kd, kd, at', b, l, .non, rfl, hk, Az.txE (by omega) kdaz, ⟨a0, a1⟩, SqT.of (x9 _ _ bp (x8 _ _ bp e7)), tl, (.inr ⟨h15, rfl⟩), fun H10 s10 => ⟨_, rfl, iteF ?_⟩⟩⟩
            exact ⟨_, _, _, _, _, _, rfl, Same.seq ((same_fx (same_fx s7 x8 hp) x9 hp).trans s10) hS⟩
          · refine ⟨_, rfl, _, rfl, p, 8, rfl, t8, by decide, by decide, fun kd H9 kd1 kd8 kdaz x9 t9 => ⟨_, rfl, _, rfl, _, rfl, k, kd, kd, at', b, l, (.str nm), rfl, hk, Az.txE (by omega) kdaz, ⟨a0, a1⟩, SqT.of (x9 _ _ bp (x8 _ _ bp e7)), tl, (.inl ⟨nm, rfl, tn⟩), fun H10 s10 => ⟨_, rfl, iteF ?_⟩⟩⟩
            exact ⟨_, _, _, _, _, _, rfl, Same.seq ((same_fx (same_fx s7 x8 hp) x9 hp).trans s10) hS⟩
        · refine ⟨_, rfl, rfl, _, rfl, ite2 (fun z => absurd (of_decide_eq_true z) fun e => h15 (by
            have e2 : ((k : Nat) : Int) = 15 := V.int.inj e
            omega)) (fun _ => iteF ?_)⟩
          refine ⟨_, rfl, _, rfl, p, 8, rfl, t7, by decide, by decide, fun kd H9 kd1 kd8 kdaz x9 t9 => ⟨_, rfl, _, rfl, _, rfl, k, kd, kd, at', b, l, (.str nm), rfl, hk, Az.txE (by omega) kdaz, ⟨a0, a1⟩, SqT.of (x9 _ _ bp e7), tl, (.inl ⟨nm, rfl, tn⟩), fun H10 s10 => ⟨_, rfl, iteF ?_⟩⟩⟩
          exact ⟨_, _, _, _, _, _, rfl, Same.seq ((same_fx s7 x9 hp).trans s10) hS⟩
    · rintro σ H' ⟨kv, tv, av, cv, nv, jv, rfl, hS⟩
      exact q H'
end
end Hp18
namespace Hp18
open PySem PySem.Spec PyProof.Rows L2 HotX L2H GrT Lw
/-- what the top says of one class -/
structure ClF (P : Program) (K : PySem.W.Frag) (q : Str) (st : Stmt) (ps : List Str) (C RE : Addr) : Prop where
  T : OexC K C
  ex : ∃ (f cc cda : Addr) (oc ccl cl kV doc pm ct : Value) (od an cdd cld : Option Addr) (osl ccs csl : Array (Option Value)) (vs0 : Array Value) (file : Str) (tf : Tok),
    PySem.W.findIn K (.ref C) "__init__" = some (some (.ref f)) ∧ PySem.W.typeIn K (.ref f) = some (.type "function") ∧
    K.lookup f = some ⟨oc, od, .func (PySem.W.ksFn "__init__" q (defArgs st) (defBody st) (defScope st) .none kV doc pm an (.ref cda) ct cc), osl⟩ ∧ PySem.W.codeIn K (.ref cda) q = true ∧
    K.lookup cda = some ⟨ccl, cdd, .fields vs0, ccs⟩ ∧ vs0[2]? = some (.str file tf) ∧ ((P.main.file : Str) == file) = true ∧ K.lookup cc = some ⟨cl, cld, .cell (some (.ref C)), csl⟩
  hm : PySem.W.ks_superIn K C C "__init__" = some (some (.builtin "ValueError.__init__"))
  hB : PySem.W.subIn K (.ref C) (.type "ValueError") = some true
  mro : PySem.W.mroIn K C (.ref C) = some true
  no : ∀ n, n ∈ fNames → PySem.W.findIn K (.ref C) n = some none
  hd : PySem.W.hasDictIn K C = true
  ga : PySem.W.findIn K (.ref C) "__getattribute__" = some (some (.builtin "BaseException.__getattribute__"))
  gg : PySem.W.findIn K (.ref C) "__getattr__" = some none
  ha : PySem.W.findIn K (.ref C) "__class__" = some (some (.builtin "object.__class__"))
  mo : PySem.W.mroIn K C (.type "object") = some true
  r : PySem.W.subIn K (.ref C) (.ref RE) = some true
  cs : (PySem.W.clsIn K C).isSome = true
theorem cl_mk {P : Program} {K : PySem.W.Frag} {nm qn q : Str} {st : Stmt} {ps : List Str} {C RE f cc cda NN : Addr} {bs bm sub : List Value} {sn : List Str} {ab : Bool} {col : Option Bool} {dd od an cdd cld : Option Addr} {k0 k1 k2 k3 k5 : Option Value} {oc ccl cl kV doc pm ct : Value} {osl ccs csl : Array (Option Value)} {vs0 : Array Value} {file : Str} {tf : Tok}
    (c : K.lookup C = some (excClassObj nm qn C NN bs bm true sn sub ab col dd k0 k1 k2 k3 k5 "ValueError.__new__"))
    (v : PySem.HandSPX.refsVE bm = true)
    (z : PySem.W.findIn K (.ref C) "__setattr__" = some (some (.builtin "object.__setattr__")))
    (b : PySem.W.subIn K (.ref C) (.type "BaseException") = some true)
    (t : PySem.W.typeIn K (.ref C) = some (.type "type"))
    (k : PySem.W.keepIn K (.ref C) = true)
    (i : PySem.W.findIn K (.ref C) "__init__" = some (some (.ref f)))
    (y : PySem.W.typeIn K (.ref f) = some (.type "function"))
    (l : K.lookup f = some ⟨oc, od, .func (PySem.W.ksFn "__init__" q (defArgs st) (defBody st) (defScope st) .none kV doc pm an (.ref cda) ct cc), osl⟩)
    (d : PySem.W.codeIn K (.ref cda) q = true)
    (e : K.lookup cda = some ⟨ccl, cdd, .fields vs0, ccs⟩)
    (w : vs0[2]? = some (.str file tf))
    (x : ((P.main.file : Str) == file) = true)
    (o : K.lookup cc = some ⟨cl, cld, .cell (some (.ref C)), csl⟩)
    (hm : PySem.W.ks_superIn K C C "__init__" = some (some (.builtin "ValueError.__init__")))
    (hB : PySem.W.subIn K (.ref C) (.type "ValueError") = some true)
    (m : PySem.W.mroIn K C (.ref C) = some true)
    (n0 : PySem.W.findIn K (.ref C) "name" = some none)
    (n1 : PySem.W.findIn K (.ref C) "at" = some none)
    (n2 : PySem.W.findIn K (.ref C) "kind" = some none)
    (n3 : PySem.W.findIn K (.ref C) "calls" = some none)
    (n4 : PySem.W.findIn K (.ref C) "arguments" = some none)
    (hd : PySem.W.hasDictIn K C = true)
    (ga : PySem.W.findIn K (.ref C) "__getattribute__" = some (some (.builtin "BaseException.__getattribute__")))
    (gg : PySem.W.findIn K (.ref C) "__getattr__" = some none)
    (ha : PySem.W.findIn K (.ref C) "__class__" = some (some (.builtin "object.__class__")))
    (mo : PySem.W.mroIn K C (.type "object") = some true)
    (r : PySem.W.subIn K (.ref C) (.ref RE) = some true) : ClF P K q st ps C RE :=
  ⟨⟨⟨_, _, _, _, _, _, _, _, _, _, _, _, _, _, _, c, v⟩, z, b, t, k⟩, ⟨f, cc, cda, _, _, _, _, _, _, _, _, _, _, _, _, _, _, _, _, _, i, y, l, d, e, w, x, o⟩, hm, hB, m, fun n hn => by
    simp only [fNames, List.mem_cons, List.not_mem_nil, or_false] at hn
    rcases hn with rfl | rfl | rfl | rfl | rfl <;> assumption, hd, ga, gg, ha, mo, r, by unfold PySem.W.clsIn; rw [c] <;> rfl⟩
/-- which of the classes takes which -/
def KkF (K : PySem.W.Frag) (k : Nat) (C : Addr) (l : List Addr) : Prop := ∀ j c, l[j]? = some c → PySem.W.subIn K (.ref C) (.ref c) = some (decide (j = k))
theorem kkF_nil {K : PySem.W.Frag} {C : Addr} {n k : Nat} : ∀ j c, ([] : List Addr)[j]? = some c → PySem.W.subIn K (.ref C) (.ref c) = some (decide (j + n = k)) := fun j c h => by cases h
theorem kkF_cons {K : PySem.W.Frag} {C c0 : Addr} {l : List Addr} {n k : Nat} {b : Bool} (h : PySem.W.subIn K (.ref C) (.ref c0) = some b) (e : b = decide (n = k)) (r : ∀ j c, l[j]? = some c → PySem.W.subIn K (.ref C) (.ref c) = some (decide (j + (n + 1) = k))) :
    ∀ j c, (c0 :: l)[j]? = some c → PySem.W.subIn K (.ref C) (.ref c) = some (decide (j + n = k)) := fun j c hj => by
  cases j with
  | zero =>
    cases hj
    rw [h, e, Nat.zero_add]
  | succ j =>
    rw [r j c hj]
    have e2 : j + (n + 1) = j + 1 + n := by omega
    rw [e2]
theorem kk_mk {K : PySem.W.Frag} {k : Nat} {C c0 c1 c2 c3 c4 c5 c6 c7 c8 c9 c10 c11 c12 c13 c14 c15 : Addr} {b0 b1 b2 b3 b4 b5 b6 b7 b8 b9 b10 b11 b12 b13 b14 b15 : Bool} (h0 : PySem.W.subIn K (.ref C) (.ref c0) = some b0) (h1 : PySem.W.subIn K (.ref C) (.ref c1) = some b1) (h2 : PySem.W.subIn K (.ref C) (.ref c2) = some b2) (h3 : PySem.W.subIn K (.ref C) (.ref c3) = some b3) (h4 : PySem.W.subIn K (.ref C) (.ref c4) = some b4) (h5 : PySem.W.subIn K (.ref C) (.ref c5) = some b5) (h6 : PySem.W.subIn K (.ref C) (.ref c6) = some b6) (h7 : PySem.W.subIn K (.ref C) (.ref c7) = some b7) (h8 : PySem.W.subIn K (.ref C) (.ref c8) = some b8) (h9 : PySem.W.subIn K (.ref C) (.ref c9) = some b9) (h10 : PySem.W.subIn K (.ref C) (.ref c10) = some b10) (h11 : PySem.W.subIn K (.ref C) (.ref c11) = some b11) (h12 : PySem.W.subIn K (.ref C) (.ref c12) = some b12) (h13 : PySem.W.subIn K (.ref C) (.ref c13) = some b13) (h14 : PySem.W.subIn K (.ref C) (.ref c14) = some b14) (h15 : PySem.W.subIn K (.ref C) (.ref c15) = some b15)
    (e0 : b0 = decide (0 = k)) (e1 : b1 = decide (1 = k)) (e2 : b2 = decide (2 = k)) (e3 : b3 = decide (3 = k)) (e4 : b4 = decide (4 = k)) (e5 : b5 = decide (5 = k)) (e6 : b6 = decide (6 = k)) (e7 : b7 = decide (7 = k)) (e8 : b8 = decide (8 = k)) (e9 : b9 = decide (9 = k)) (e10 : b10 = decide (10 = k)) (e11 : b11 = decide (11 = k)) (e12 : b12 = decide (12 = k)) (e13 : b13 = decide (13 = k)) (e14 : b14 = decide (14 = k)) (e15 : b15 = decide (15 = k)) : KkF K k C [c0, c1, c2, c3, c4, c5, c6, c7, c8, c9, c10, c11, c12, c13, c14, c15] := fun j c h => by
  have z := (kkF_cons (n := 0) h0 e0 (kkF_cons (n := 1) h1 e1 (kkF_cons (n := 2) h2 e2 (kkF_cons (n := 3) h3 e3 (kkF_cons (n := 4) h4 e4 (kkF_cons (n := 5) h5 e5 (kkF_cons (n := 6) h6 e6 (kkF_cons (n := 7) h7 e7 (kkF_cons (n := 8) h8 e8 (kkF_cons (n := 9) h9 e9 (kkF_cons (n := 10) h10 e10 (kkF_cons (n := 11) h11 e11 (kkF_cons (n := 12) h12 e12 (kkF_cons (n := 13) h13 e13 (kkF_cons (n := 14) h14 e14 (kkF_cons (n := 15) h15 e15 kkF_nil)))))))))))))))) j c h
  rwa [Nat.add_zero] at z
end Hp18
namespace Lw
open PySem PySem.Spec PyProof.Rows L2 GrT HotX L2H Hp18
theorem all_mk {l : PySem.W.OpenLaw} {w : World} {K : PySem.W.Frag} {h : Heap} {mg : Str → Option Value} {fa RE C0 C1 C2 C3 C4 C5 C6 C7 C8 C9 C10 C11 C12 C13 C14 C15 f1 f2 f3 f4 f5 f6 f7 f8 f9 f10 f11 f12 f13 : Addr}  (X : K.In h) (G : h.Ns mainGlobals mg) (hfa : mg "law" = some (.ref fa))
    {od1 an1 od2 an2 od3 an3 od4 an4 od5 an5 od6 an6 od7 an7 od8 an8 od9 an9 od10 an10 od11 an11 od12 an12 od13 an13 : Option Addr} {sl1 sl2 sl3 sl4 sl5 sl6 sl7 sl8 sl9 sl10 sl11 sl12 sl13 : Array (Option Value)} {oc1 kV1 dc1 pm1 cd1 ct1 oc2 kV2 dc2 pm2 cd2 ct2 oc3 kV3 dc3 pm3 cd3 ct3 oc4 kV4 dc4 pm4 cd4 ct4 oc5 kV5 dc5 pm5 cd5 ct5 oc6 kV6 dc6 pm6 cd6 ct6 oc7 kV7 dc7 pm7 cd7 ct7 oc8 kV8 dc8 pm8 cd8 ct8 oc9 kV9 dc9 pm9 cd9 ct9 oc10 kV10 dc10 pm10 cd10 ct10 oc11 kV11 dc11 pm11 cd11 ct11 oc12 kV12 dc12 pm12 cd12 ct12 oc13 kV13 dc13 pm13 cd13 ct13 : Value}
    (aR : PySem.W.nsIn K mainGlobals "RecordsError" = some (some (.ref RE)))
    (tR : PySem.W.typeIn K (.ref RE) = some (.type "type"))
    (bR : PySem.W.subIn K (.ref RE) (.type "BaseException") = some true)
    (hR : PySem.W.hasDictIn K RE = true)
    (hoS : PySem.W.nsIn K cStatics "thirdparty.any" = some none)
    (tpS : (l.prog.main.scope.names.lookup ("super" : Str)).isSome = false)
    (hn : PySem.W.specialIn K (.builtin "object.__class__") "__get__" = some (some (.builtin "getset_descriptor.__get__")))
    (htk : PySem.W.takesIn K (.builtin "object.__class__") = some true)
    (aC0 : PySem.W.nsIn K mainGlobals "BadName" = some (some (.ref C0)))
    (aC1 : PySem.W.nsIn K mainGlobals "NoField" = some (some (.ref C1)))
    (aC2 : PySem.W.nsIn K mainGlobals "FieldThere" = some (some (.ref C2)))
    (aC3 : PySem.W.nsIn K mainGlobals "Shared" = some (some (.ref C3)))
    (aC4 : PySem.W.nsIn K mainGlobals "TooLarge" = some (some (.ref C4)))
    (aC5 : PySem.W.nsIn K mainGlobals "UnknownFunction" = some (some (.ref C5)))
    (aC6 : PySem.W.nsIn K mainGlobals "WrongArguments" = some (some (.ref C6)))
    (aC7 : PySem.W.nsIn K mainGlobals "DoubleName" = some (some (.ref C7)))
    (aC8 : PySem.W.nsIn K mainGlobals "UnknownName" = some (some (.ref C8)))
    (aC9 : PySem.W.nsIn K mainGlobals "WrongCount" = some (some (.ref C9)))
    (aC10 : PySem.W.nsIn K mainGlobals "BadText" = some (some (.ref C10)))
    (aC11 : PySem.W.nsIn K mainGlobals "TooDeep" = some (some (.ref C11)))
    (aC12 : PySem.W.nsIn K mainGlobals "NoBranch" = some (some (.ref C12)))
    (aC13 : PySem.W.nsIn K mainGlobals "Mismatch" = some (some (.ref C13)))
    (aC14 : PySem.W.nsIn K mainGlobals "NotRefined" = some (some (.ref C14)))
    (aC15 : PySem.W.nsIn K mainGlobals "Failure" = some (some (.ref C15)))
    (cl0 : ClF l.prog K "BadName.__init__" sI0 ["self", "name"] C0 RE)
    (cl1 : ClF l.prog K "NoField.__init__" sI1 ["self", "name"] C1 RE)
    (cl2 : ClF l.prog K "FieldThere.__init__" sI2 ["self", "name"] C2 RE)
    (cl3 : ClF l.prog K "Shared.__init__" sI3 ["self", "name"] C3 RE)
    (cl4 : ClF l.prog K "TooLarge.__init__" sI4 ["self", "name"] C4 RE)
    (cl5 : ClF l.prog K "UnknownFunction.__init__" sI5 ["self", "name"] C5 RE)
    (cl6 : ClF l.prog K "WrongArguments.__init__" sI6 ["self", "name"] C6 RE)
    (cl7 : ClF l.prog K "DoubleName.__init__" sI7 ["self", "name", "at"] C7 RE)
    (cl8 : ClF l.prog K "UnknownName.__init__" sI8 ["self", "name", "at"] C8 RE)
    (cl9 : ClF l.prog K "WrongCount.__init__" sI9 ["self", "name", "at"] C9 RE)
    (cl10 : ClF l.prog K "BadText.__init__" sI10 ["self", "at"] C10 RE)
    (cl11 : ClF l.prog K "TooDeep.__init__" sI11 ["self", "at"] C11 RE)
    (cl12 : ClF l.prog K "NoBranch.__init__" sI12 ["self", "at"] C12 RE)
    (cl13 : ClF l.prog K "Mismatch.__init__" sI13 ["self"] C13 RE)
    (cl14 : ClF l.prog K "NotRefined.__init__" sI14 ["self", "arguments"] C14 RE)
    (cl15 : ClF l.prog K "Failure.__init__" sI15 ["self", "kind", "at", "calls", "name"] C15 RE)
    (kk0 : KkF K 0 C0 [C0, C1, C2, C3, C4, C5, C6, C7, C8, C9, C10, C11, C12, C13, C14, C15])
    (kk1 : KkF K 1 C1 [C0, C1, C2, C3, C4, C5, C6, C7, C8, C9, C10, C11, C12, C13, C14, C15])
    (kk2 : KkF K 2 C2 [C0, C1, C2, C3, C4, C5, C6, C7, C8, C9, C10, C11, C12, C13, C14, C15])
    (kk3 : KkF K 3 C3 [C0, C1, C2, C3, C4, C5, C6, C7, C8, C9, C10, C11, C12, C13, C14, C15])
    (kk4 : KkF K 4 C4 [C0, C1, C2, C3, C4, C5, C6, C7, C8, C9, C10, C11, C12, C13, C14, C15])
    (kk5 : KkF K 5 C5 [C0, C1, C2, C3, C4, C5, C6, C7, C8, C9, C10, C11, C12, C13, C14, C15])
    (kk6 : KkF K 6 C6 [C0, C1, C2, C3, C4, C5, C6, C7, C8, C9, C10, C11, C12, C13, C14, C15])
    (kk7 : KkF K 7 C7 [C0, C1, C2, C3, C4, C5, C6, C7, C8, C9, C10, C11, C12, C13, C14, C15])
    (kk8 : KkF K 8 C8 [C0, C1, C2, C3, C4, C5, C6, C7, C8, C9, C10, C11, C12, C13, C14, C15])
    (kk9 : KkF K 9 C9 [C0, C1, C2, C3, C4, C5, C6, C7, C8, C9, C10, C11, C12, C13, C14, C15])
    (kk10 : KkF K 10 C10 [C0, C1, C2, C3, C4, C5, C6, C7, C8, C9, C10, C11, C12, C13, C14, C15])
    (kk11 : KkF K 11 C11 [C0, C1, C2, C3, C4, C5, C6, C7, C8, C9, C10, C11, C12, C13, C14, C15])
    (kk12 : KkF K 12 C12 [C0, C1, C2, C3, C4, C5, C6, C7, C8, C9, C10, C11, C12, C13, C14, C15])
    (kk13 : KkF K 13 C13 [C0, C1, C2, C3, C4, C5, C6, C7, C8, C9, C10, C11, C12, C13, C14, C15])
    (kk14 : KkF K 14 C14 [C0, C1, C2, C3, C4, C5, C6, C7, C8, C9, C10, C11, C12, C13, C14, C15])
    (kk15 : KkF K 15 C15 [C0, C1, C2, C3, C4, C5, C6, C7, C8, C9, C10, C11, C12, C13, C14, C15])
    (a1 : PySem.W.nsIn K mainGlobals "_law_cell" = some (some (.ref f1)))
    (l1 : K.lookup f1 = some ⟨oc1, od1, .func (PySem.W.fnOf "_law_cell" "_law_cell" (defArgs sCell) (defBody sCell) (defScope sCell) .none kV1 dc1 pm1 an1 cd1 ct1), sl1⟩)
    (c1 : PySem.W.codeIn K cd1 "_law_cell" = true)
    (k1 : PySem.W.keepIn K (.ref f1) = true)
    (a2 : PySem.W.nsIn K mainGlobals "_law_mixed" = some (some (.ref f2)))
    (l2 : K.lookup f2 = some ⟨oc2, od2, .func (PySem.W.fnOf "_law_mixed" "_law_mixed" (defArgs sMixed) (defBody sMixed) (defScope sMixed) .none kV2 dc2 pm2 an2 cd2 ct2), sl2⟩)
    (c2 : PySem.W.codeIn K cd2 "_law_mixed" = true)
    (k2 : PySem.W.keepIn K (.ref f2) = true)
    (a3 : PySem.W.nsIn K mainGlobals "_law_tape" = some (some (.ref f3)))
    (l3 : K.lookup f3 = some ⟨oc3, od3, .func (PySem.W.fnOf "_law_tape" "_law_tape" (defArgs sTape) (defBody sTape) (defScope sTape) .none kV3 dc3 pm3 an3 cd3 ct3), sl3⟩)
    (c3 : PySem.W.codeIn K cd3 "_law_tape" = true)
    (k3 : PySem.W.keepIn K (.ref f3) = true)
    (a4 : PySem.W.nsIn K mainGlobals "_law_take" = some (some (.ref f4)))
    (l4 : K.lookup f4 = some ⟨oc4, od4, .func (PySem.W.fnOf "_law_take" "_law_take" (defArgs sTake) (defBody sTake) (defScope sTake) .none kV4 dc4 pm4 an4 cd4 ct4), sl4⟩)
    (c4 : PySem.W.codeIn K cd4 "_law_take" = true)
    (k4 : PySem.W.keepIn K (.ref f4) = true)
    (a5 : PySem.W.nsIn K mainGlobals "_law_number" = some (some (.ref f5)))
    (l5 : K.lookup f5 = some ⟨oc5, od5, .func (PySem.W.fnOf "_law_number" "_law_number" (defArgs sNumber) (defBody sNumber) (defScope sNumber) .none kV5 dc5 pm5 an5 cd5 ct5), sl5⟩)
    (c5 : PySem.W.codeIn K cd5 "_law_number" = true)
    (k5 : PySem.W.keepIn K (.ref f5) = true)
    (a6 : PySem.W.nsIn K mainGlobals "_law_word" = some (some (.ref f6)))
    (l6 : K.lookup f6 = some ⟨oc6, od6, .func (PySem.W.fnOf "_law_word" "_law_word" (defArgs sWord) (defBody sWord) (defScope sWord) .none kV6 dc6 pm6 an6 cd6 ct6), sl6⟩)
    (c6 : PySem.W.codeIn K cd6 "_law_word" = true)
    (k6 : PySem.W.keepIn K (.ref f6) = true)
    (a7 : PySem.W.nsIn K mainGlobals "_law_raise_named" = some (some (.ref f7)))
    (l7 : K.lookup f7 = some ⟨oc7, od7, .func (PySem.W.fnOf "_law_raise_named" "_law_raise_named" (defArgs sRN) (defBody sRN) (defScope sRN) .none kV7 dc7 pm7 an7 cd7 ct7), sl7⟩)
    (c7 : PySem.W.codeIn K cd7 "_law_raise_named" = true)
    (k7 : PySem.W.keepIn K (.ref f7) = true)
    (a8 : PySem.W.nsIn K mainGlobals "_law_raise_other" = some (some (.ref f8)))
    (l8 : K.lookup f8 = some ⟨oc8, od8, .func (PySem.W.fnOf "_law_raise_other" "_law_raise_other" (defArgs sRO) (defBody sRO) (defScope sRO) .none kV8 dc8 pm8 an8 cd8 ct8), sl8⟩)
    (c8 : PySem.W.codeIn K cd8 "_law_raise_other" = true)
    (k8 : PySem.W.keepIn K (.ref f8) = true)
    (a9 : PySem.W.nsIn K mainGlobals "_law_classes" = some (some (.ref f9)))
    (l9 : K.lookup f9 = some ⟨oc9, od9, .func (PySem.W.fnOf "_law_classes" "_law_classes" (defArgs sCls) (defBody sCls) (defScope sCls) .none kV9 dc9 pm9 an9 cd9 ct9), sl9⟩)
    (c9 : PySem.W.codeIn K cd9 "_law_classes" = true)
    (k9 : PySem.W.keepIn K (.ref f9) = true)
    (a10 : PySem.W.nsIn K mainGlobals "_law_attributes" = some (some (.ref f10)))
    (l10 : K.lookup f10 = some ⟨oc10, od10, .func (PySem.W.fnOf "_law_attributes" "_law_attributes" (defArgs sAtt) (defBody sAtt) (defScope sAtt) .none kV10 dc10 pm10 an10 cd10 ct10), sl10⟩)
    (c10 : PySem.W.codeIn K cd10 "_law_attributes" = true)
    (k10 : PySem.W.keepIn K (.ref f10) = true)
    (a11 : PySem.W.nsIn K mainGlobals "_law_due" = some (some (.ref f11)))
    (l11 : K.lookup f11 = some ⟨oc11, od11, .func (PySem.W.fnOf "_law_due" "_law_due" (defArgs sDue) (defBody sDue) (defScope sDue) .none kV11 dc11 pm11 an11 cd11 ct11), sl11⟩)
    (c11 : PySem.W.codeIn K cd11 "_law_due" = true)
    (k11 : PySem.W.keepIn K (.ref f11) = true)
    (a12 : PySem.W.nsIn K mainGlobals "_law_caught" = some (some (.ref f12)))
    (l12 : K.lookup f12 = some ⟨oc12, od12, .func (PySem.W.fnOf "_law_caught" "_law_caught" (defArgs sCaught) (defBody sCaught) (defScope sCaught) .none kV12 dc12 pm12 an12 cd12 ct12), sl12⟩)
    (c12 : PySem.W.codeIn K cd12 "_law_caught" = true)
    (k12 : PySem.W.keepIn K (.ref f12) = true)
    (a13 : PySem.W.nsIn K mainGlobals "law" = some (some (.ref f13)))
    (l13 : K.lookup f13 = some ⟨oc13, od13, .func (PySem.W.fnOf "law" "law" (defArgs sLawS) (defBody sLawS) (defScope sLawS) .none kV13 dc13 pm13 an13 cd13 ct13), sl13⟩)
    (c13 : PySem.W.codeIn K cd13 "law" = true)
    (k13 : PySem.W.keepIn K (.ref f13) = true)
    (z_len : PySem.W.nsIn K mainGlobals "len" = some none)
    (z_int : PySem.W.nsIn K mainGlobals "int" = some none)
    (z_range : PySem.W.nsIn K mainGlobals "range" = some none)
    (z_isinstance : PySem.W.nsIn K mainGlobals "isinstance" = some none)
    (z_tuple : PySem.W.nsIn K mainGlobals "tuple" = some none)
    (z_str : PySem.W.nsIn K mainGlobals "str" = some none)
    (z_super : PySem.W.nsIn K mainGlobals "super" = some none)
    (z_ValueError : PySem.W.nsIn K mainGlobals "ValueError" = some none) :
    ∃ fd : FuncData, (∀ (s : Shared) (v : Value), BindsTo s fd ⟨[v], []⟩ [("script", v)]) ∧ ∀ base : Heap, K.In base → base.Ns mainGlobals mg → FnOk l.prog w K mg base CX0 6 fa fd ["script"] (spLaw K) := by
  have F1 := fun_mk (st := sCell) l1 c1 k1
  have b1 := F1.binds (ps := ["script", "k"]) fun _ _ _ _ _ _ us hl => match us, hl with | [_, _], _ => rfl
  have D1 : Dfn K mg "_law_cell" sCell ["script", "k"] := ⟨_, _, PySem.W.mg_of X G a1, F1, b1⟩
  have F2 := fun_mk (st := sMixed) l2 c2 k2
  have b2 := F2.binds (ps := ["cell", "k"]) fun _ _ _ _ _ _ us hl => match us, hl with | [_, _], _ => rfl
  have D2 : Dfn K mg "_law_mixed" sMixed ["cell", "k"] := ⟨_, _, PySem.W.mg_of X G a2, F2, b2⟩
  have F3 := fun_mk (st := sTape) l3 c3 k3
  have b3 := F3.binds (ps := ["great", "lesser", "count"]) fun _ _ _ _ _ _ us hl => match us, hl with | [_, _, _], _ => rfl
  have D3 : Dfn K mg "_law_tape" sTape ["great", "lesser", "count"] := ⟨_, _, PySem.W.mg_of X G a3, F3, b3⟩
  have F4 := fun_mk (st := sTake) l4 c4 k4
  have b4 := F4.binds (ps := ["tape", "many"]) fun _ _ _ _ _ _ us hl => match us, hl with | [_, _], _ => rfl
  have D4 : Dfn K mg "_law_take" sTake ["tape", "many"] := ⟨_, _, PySem.W.mg_of X G a4, F4, b4⟩
  have F5 := fun_mk (st := sNumber) l5 c5 k5
  have b5 := F5.binds (ps := ["tape"]) fun _ _ _ _ _ _ us hl => match us, hl with | [_], _ => rfl
  have D5 : Dfn K mg "_law_number" sNumber ["tape"] := ⟨_, _, PySem.W.mg_of X G a5, F5, b5⟩
  have F6 := fun_mk (st := sWord) l6 c6 k6
  have b6 := F6.binds (ps := ["tape", "longest"]) fun _ _ _ _ _ _ us hl => match us, hl with | [_, _], _ => rfl
  have D6 : Dfn K mg "_law_word" sWord ["tape", "longest"] := ⟨_, _, PySem.W.mg_of X G a6, F6, b6⟩
  have F7 := fun_mk (st := sRN) l7 c7 k7
  have b7 := F7.binds (ps := ["k", "name", "at"]) fun _ _ _ _ _ _ us hl => match us, hl with | [_, _, _], _ => rfl
  have D7 : Dfn K mg "_law_raise_named" sRN ["k", "name", "at"] := ⟨_, _, PySem.W.mg_of X G a7, F7, b7⟩
  have F8 := fun_mk (st := sRO) l8 c8 k8
  have b8 := F8.binds (ps := ["k", "kind", "at", "calls", "name"]) fun _ _ _ _ _ _ us hl => match us, hl with | [_, _, _, _, _], _ => rfl
  have D8 : Dfn K mg "_law_raise_other" sRO ["k", "kind", "at", "calls", "name"] := ⟨_, _, PySem.W.mg_of X G a8, F8, b8⟩
  have F9 := fun_mk (st := sCls) l9 c9 k9
  have b9 := F9.binds (ps := ["e"]) fun _ _ _ _ _ _ us hl => match us, hl with | [_], _ => rfl
  have D9 : Dfn K mg "_law_classes" sCls ["e"] := ⟨_, _, PySem.W.mg_of X G a9, F9, b9⟩
  have F10 := fun_mk (st := sAtt) l10 c10 k10
  have b10 := F10.binds (ps := ["e", "k"]) fun _ _ _ _ _ _ us hl => match us, hl with | [_, _], _ => rfl
  have D10 : Dfn K mg "_law_attributes" sAtt ["e", "k"] := ⟨_, _, PySem.W.mg_of X G a10, F10, b10⟩
  have F11 := fun_mk (st := sDue) l11 c11 k11
  have b11 := F11.binds (ps := ["k", "kind", "at", "calls", "name"]) fun _ _ _ _ _ _ us hl => match us, hl with | [_, _, _, _, _], _ => rfl
  have D11 : Dfn K mg "_law_due" sDue ["k", "kind", "at", "calls", "name"] := ⟨_, _, PySem.W.mg_of X G a11, F11, b11⟩
  have F12 := fun_mk (st := sCaught) l12 c12 k12
  have b12 := F12.binds (ps := ["k", "kind", "at", "calls", "name"]) fun _ _ _ _ _ _ us hl => match us, hl with | [_, _, _, _, _], _ => rfl
  have D12 : Dfn K mg "_law_caught" sCaught ["k", "kind", "at", "calls", "name"] := ⟨_, _, PySem.W.mg_of X G a12, F12, b12⟩
  have F13 := fun_mk (st := sLawS) l13 c13 k13
  have b13 := F13.binds (ps := ["script"]) fun _ _ _ _ _ _ us hl => match us, hl with | [_], _ => rfl
  have T : Bt mg := ⟨(PySem.W.mg_none_of X G z_len), (PySem.W.mg_none_of X G z_int), (PySem.W.mg_none_of X G z_range)⟩
  have G0 : EgK l.prog K mg := ⟨(PySem.W.mg_none_of X G z_super), tpS, hoS⟩
  have I0 : EcI l.prog K mg "BadName" "BadName.__init__" sI0 ["self", "name"] C0 := by
    obtain ⟨f, cc, cda, oc, ccl, cl, kV, doc, pm, ct, od, an, cdd, cld, osl, ccs, csl, vs0, file, tf, h1, h2, lk, hcd, hcode, hvs, hfile, hcell⟩ := cl0.ex
    exact ⟨cl0.T, ⟨f, cc, cda, oc, ccl, cl, kV, doc, pm, ct, od, an, cdd, cld, osl, ccs, csl, vs0, file, tf, h1, h2, lk, hcd, hcode, hvs, hfile, hcell, Binds.all fun us hl => match us, hl with | [_, _], _ => rfl⟩, PySem.W.mg_of X G aC0, cl0.hm, cl0.hB, cl0.mro⟩
  have I1 : EcI l.prog K mg "NoField" "NoField.__init__" sI1 ["self", "name"] C1 := by
    obtain ⟨f, cc, cda, oc, ccl, cl, kV, doc, pm, ct, od, an, cdd, cld, osl, ccs, csl, vs0, file, tf, h1, h2, lk, hcd, hcode, hvs, hfile, hcell⟩ := cl1.ex
    exact ⟨cl1.T, ⟨f, cc, cda, oc, ccl, cl, kV, doc, pm, ct, od, an, cdd, cld, osl, ccs, csl, vs0, file, tf, h1, h2, lk, hcd, hcode, hvs, hfile, hcell, Binds.all fun us hl => match us, hl with | [_, _], _ => rfl⟩, PySem.W.mg_of X G aC1, cl1.hm, cl1.hB, cl1.mro⟩
  have I2 : EcI l.prog K mg "FieldThere" "FieldThere.__init__" sI2 ["self", "name"] C2 := by
    obtain ⟨f, cc, cda, oc, ccl, cl, kV, doc, pm, ct, od, an, cdd, cld, osl, ccs, csl, vs0, file, tf, h1, h2, lk, hcd, hcode, hvs, hfile, hcell⟩ := cl2.ex
    exact ⟨cl2.T, ⟨f, cc, cda, oc, ccl, cl, kV, doc, pm, ct, od, an, cdd, cld, osl, ccs, csl, vs0, file, tf, h1, h2, lk, hcd, hcode, hvs, hfile, hcell, Binds.all fun us hl => match us, hl with | [_, _], _ => rfl⟩, PySem.W.mg_of X G aC2, cl2.hm, cl2.hB, cl2.mro⟩
  have I3 : EcI l.prog K mg "Shared" "Shared.__init__" sI3 ["self", "name"] C3 := by
    obtain ⟨f, cc, cda, oc, ccl, cl, kV, doc, pm, ct, od, an, cdd, cld, osl, ccs, csl, vs0, file, tf, h1, h2, lk, hcd, hcode, hvs, hfile, hcell⟩ := cl3.ex
    exact ⟨cl3.T, ⟨f, cc, cda, oc, ccl, cl, kV, doc, pm, ct, od, an, cdd, cld, osl, ccs, csl, vs0, file, tf, h1, h2, lk, hcd, hcode, hvs, hfile, hcell, Binds.all fun us hl => match us, hl with | [_, _], _ => rfl⟩, PySem.W.mg_of X G aC3, cl3.hm, cl3.hB, cl3.mro⟩
  have I4 : EcI l.prog K mg "TooLarge" "TooLarge.__init__" sI4 ["self", "name"] C4 := by
    obtain ⟨f, cc, cda, oc, ccl, cl, kV, doc, pm, ct, od, an, cdd, cld, osl, ccs, csl, vs0, file, tf, h1, h2, lk, hcd, hcode, hvs, hfile, hcell⟩ := cl4.ex
    exact ⟨cl4.T, ⟨f, cc, cda, oc, ccl, cl, kV, doc, pm, ct, od, an, cdd, cld, osl, ccs, csl, vs0, file, tf, h1, h2, lk, hcd, hcode, hvs, hfile, hcell, Binds.all fun us hl => match us, hl with | [_, _], _ => rfl⟩, PySem.W.mg_of X G aC4, cl4.hm, cl4.hB, cl4.mro⟩
  have I5 : EcI l.prog K mg "UnknownFunction" "UnknownFunction.__init__" sI5 ["self", "name"] C5 := by
    obtain ⟨f, cc, cda, oc, ccl, cl, kV, doc, pm, ct, od, an, cdd, cld, osl, ccs, csl, vs0, file, tf, h1, h2, lk, hcd, hcode, hvs, hfile, hcell⟩ := cl5.ex
    exact ⟨cl5.T, ⟨f, cc, cda, oc, ccl, cl, kV, doc, pm, ct, od, an, cdd, cld, osl, ccs, csl, vs0, file, tf, h1, h2, lk, hcd, hcode, hvs, hfile, hcell, Binds.all fun us hl => match us, hl with | [_, _], _ => rfl⟩, PySem.W.mg_of X G aC5, cl5.hm, cl5.hB, cl5.mro⟩
  have I6 : EcI l.prog K mg "WrongArguments" "WrongArguments.__init__" sI6 ["self", "name"] C6 := by
    obtain ⟨f, cc, cda, oc, ccl, cl, kV, doc, pm, ct, od, an, cdd, cld, osl, ccs, csl, vs0, file, tf, h1, h2, lk, hcd, hcode, hvs, hfile, hcell⟩ := cl6.ex
    exact ⟨cl6.T, ⟨f, cc, cda, oc, ccl, cl, kV, doc, pm, ct, od, an, cdd, cld, osl, ccs, csl, vs0, file, tf, h1, h2, lk, hcd, hcode, hvs, hfile, hcell, Binds.all fun us hl => match us, hl with | [_, _], _ => rfl⟩, PySem.W.mg_of X G aC6, cl6.hm, cl6.hB, cl6.mro⟩
  have I7 : EcI l.prog K mg "DoubleName" "DoubleName.__init__" sI7 ["self", "name", "at"] C7 := by
    obtain ⟨f, cc, cda, oc, ccl, cl, kV, doc, pm, ct, od, an, cdd, cld, osl, ccs, csl, vs0, file, tf, h1, h2, lk, hcd, hcode, hvs, hfile, hcell⟩ := cl7.ex
    exact ⟨cl7.T, ⟨f, cc, cda, oc, ccl, cl, kV, doc, pm, ct, od, an, cdd, cld, osl, ccs, csl, vs0, file, tf, h1, h2, lk, hcd, hcode, hvs, hfile, hcell, Binds.all fun us hl => match us, hl with | [_, _, _], _ => rfl⟩, PySem.W.mg_of X G aC7, cl7.hm, cl7.hB, cl7.mro⟩
  have I8 : EcI l.prog K mg "UnknownName" "UnknownName.__init__" sI8 ["self", "name", "at"] C8 := by
    obtain ⟨f, cc, cda, oc, ccl, cl, kV, doc, pm, ct, od, an, cdd, cld, osl, ccs, csl, vs0, file, tf, h1, h2, lk, hcd, hcode, hvs, hfile, hcell⟩ := cl8.ex
    exact ⟨cl8.T, ⟨f, cc, cda, oc, ccl, cl, kV, doc, pm, ct, od, an, cdd, cld, osl, ccs, csl, vs0, file, tf, h1, h2, lk, hcd, hcode, hvs, hfile, hcell, Binds.all fun us hl => match us, hl with | [_, _, _], _ => rfl⟩, PySem.W.mg_of X G aC8, cl8.hm, cl8.hB, cl8.mro⟩
  have I9 : EcI l.prog K mg "WrongCount" "WrongCount.__init__" sI9 ["self", "name", "at"] C9 := by
    obtain ⟨f, cc, cda, oc, ccl, cl, kV, doc, pm, ct, od, an, cdd, cld, osl, ccs, csl, vs0, file, tf, h1, h2, lk, hcd, hcode, hvs, hfile, hcell⟩ := cl9.ex
    exact ⟨cl9.T, ⟨f, cc, cda, oc, ccl, cl, kV, doc, pm, ct, od, an, cdd, cld, osl, ccs, csl, vs0, file, tf, h1, h2, lk, hcd, hcode, hvs, hfile, hcell, Binds.all fun us hl => match us, hl with | [_, _, _], _ => rfl⟩, PySem.W.mg_of X G aC9, cl9.hm, cl9.hB, cl9.mro⟩
  have I10 : EcI l.prog K mg "BadText" "BadText.__init__" sI10 ["self", "at"] C10 := by
    obtain ⟨f, cc, cda, oc, ccl, cl, kV, doc, pm, ct, od, an, cdd, cld, osl, ccs, csl, vs0, file, tf, h1, h2, lk, hcd, hcode, hvs, hfile, hcell⟩ := cl10.ex
    exact ⟨cl10.T, ⟨f, cc, cda, oc, ccl, cl, kV, doc, pm, ct, od, an, cdd, cld, osl, ccs, csl, vs0, file, tf, h1, h2, lk, hcd, hcode, hvs, hfile, hcell, Binds.all fun us hl => match us, hl with | [_, _], _ => rfl⟩, PySem.W.mg_of X G aC10, cl10.hm, cl10.hB, cl10.mro⟩
  have I11 : EcI l.prog K mg "TooDeep" "TooDeep.__init__" sI11 ["self", "at"] C11 := by
    obtain ⟨f, cc, cda, oc, ccl, cl, kV, doc, pm, ct, od, an, cdd, cld, osl, ccs, csl, vs0, file, tf, h1, h2, lk, hcd, hcode, hvs, hfile, hcell⟩ := cl11.ex
    exact ⟨cl11.T, ⟨f, cc, cda, oc, ccl, cl, kV, doc, pm, ct, od, an, cdd, cld, osl, ccs, csl, vs0, file, tf, h1, h2, lk, hcd, hcode, hvs, hfile, hcell, Binds.all fun us hl => match us, hl with | [_, _], _ => rfl⟩, PySem.W.mg_of X G aC11, cl11.hm, cl11.hB, cl11.mro⟩
  have I12 : EcI l.prog K mg "NoBranch" "NoBranch.__init__" sI12 ["self", "at"] C12 := by
    obtain ⟨f, cc, cda, oc, ccl, cl, kV, doc, pm, ct, od, an, cdd, cld, osl, ccs, csl, vs0, file, tf, h1, h2, lk, hcd, hcode, hvs, hfile, hcell⟩ := cl12.ex
    exact ⟨cl12.T, ⟨f, cc, cda, oc, ccl, cl, kV, doc, pm, ct, od, an, cdd, cld, osl, ccs, csl, vs0, file, tf, h1, h2, lk, hcd, hcode, hvs, hfile, hcell, Binds.all fun us hl => match us, hl with | [_, _], _ => rfl⟩, PySem.W.mg_of X G aC12, cl12.hm, cl12.hB, cl12.mro⟩
  have I13 : EcI l.prog K mg "Mismatch" "Mismatch.__init__" sI13 ["self"] C13 := by
    obtain ⟨f, cc, cda, oc, ccl, cl, kV, doc, pm, ct, od, an, cdd, cld, osl, ccs, csl, vs0, file, tf, h1, h2, lk, hcd, hcode, hvs, hfile, hcell⟩ := cl13.ex
    exact ⟨cl13.T, ⟨f, cc, cda, oc, ccl, cl, kV, doc, pm, ct, od, an, cdd, cld, osl, ccs, csl, vs0, file, tf, h1, h2, lk, hcd, hcode, hvs, hfile, hcell, Binds.all fun us hl => match us, hl with | [_], _ => rfl⟩, PySem.W.mg_of X G aC13, cl13.hm, cl13.hB, cl13.mro⟩
  have I14 : EcI l.prog K mg "NotRefined" "NotRefined.__init__" sI14 ["self", "arguments"] C14 := by
    obtain ⟨f, cc, cda, oc, ccl, cl, kV, doc, pm, ct, od, an, cdd, cld, osl, ccs, csl, vs0, file, tf, h1, h2, lk, hcd, hcode, hvs, hfile, hcell⟩ := cl14.ex
    exact ⟨cl14.T, ⟨f, cc, cda, oc, ccl, cl, kV, doc, pm, ct, od, an, cdd, cld, osl, ccs, csl, vs0, file, tf, h1, h2, lk, hcd, hcode, hvs, hfile, hcell, Binds.all fun us hl => match us, hl with | [_, _], _ => rfl⟩, PySem.W.mg_of X G aC14, cl14.hm, cl14.hB, cl14.mro⟩
  have I15 : EcI l.prog K mg "Failure" "Failure.__init__" sI15 ["self", "kind", "at", "calls", "name"] C15 := by
    obtain ⟨f, cc, cda, oc, ccl, cl, kV, doc, pm, ct, od, an, cdd, cld, osl, ccs, csl, vs0, file, tf, h1, h2, lk, hcd, hcode, hvs, hfile, hcell⟩ := cl15.ex
    exact ⟨cl15.T, ⟨f, cc, cda, oc, ccl, cl, kV, doc, pm, ct, od, an, cdd, cld, osl, ccs, csl, vs0, file, tf, h1, h2, lk, hcd, hcode, hvs, hfile, hcell, Binds.all fun us hl => match us, hl with | [_, _, _, _, _], _ => rfl⟩, PySem.W.mg_of X G aC15, cl15.hm, cl15.hB, cl15.mro⟩
  have all16 : ∀ (Pr : Nat → Addr → Prop), Pr 0 C0 → Pr 1 C1 → Pr 2 C2 → Pr 3 C3 → Pr 4 C4 → Pr 5 C5 → Pr 6 C6 → Pr 7 C7 → Pr 8 C8 → Pr 9 C9 → Pr 10 C10 → Pr 11 C11 → Pr 12 C12 → Pr 13 C13 → Pr 14 C14 → Pr 15 C15 → ∀ k, k < 16 → Pr k ([C0, C1, C2, C3, C4, C5, C6, C7, C8, C9, C10, C11, C12, C13, C14, C15].getD k 0) := fun Pr p0 p1 p2 p3 p4 p5 p6 p7 p8 p9 p10 p11 p12 p13 p14 p15 k hk => by
    match k, hk with
    | 0, _ => exact p0
    | 1, _ => exact p1
    | 2, _ => exact p2
    | 3, _ => exact p3
    | 4, _ => exact p4
    | 5, _ => exact p5
    | 6, _ => exact p6
    | 7, _ => exact p7
    | 8, _ => exact p8
    | 9, _ => exact p9
    | 10, _ => exact p10
    | 11, _ => exact p11
    | 12, _ => exact p12
    | 13, _ => exact p13
    | 14, _ => exact p14
    | 15, _ => exact p15
    | k + 16, h => exact absurd h (by omega)
  have cls16 : ∀ k, k < 16 → (PySem.W.clsIn K ([C0, C1, C2, C3, C4, C5, C6, C7, C8, C9, C10, C11, C12, C13, C14, C15].getD k 0)).isSome = true := all16 (fun k C => (PySem.W.clsIn K C).isSome = true) (cl0.cs) (cl1.cs) (cl2.cs) (cl3.cs) (cl4.cs) (cl5.cs) (cl6.cs) (cl7.cs) (cl8.cs) (cl9.cs) (cl10.cs) (cl11.cs) (cl12.cs) (cl13.cs) (cl14.cs) (cl15.cs)
  have ty16 : ∀ k, k < 16 → PySem.W.typeIn K (.ref ([C0, C1, C2, C3, C4, C5, C6, C7, C8, C9, C10, C11, C12, C13, C14, C15].getD k 0)) = some (.type "type") := all16 (fun k C => PySem.W.typeIn K (.ref C) = some (.type "type")) (cl0.T.tyC) (cl1.T.tyC) (cl2.T.tyC) (cl3.T.tyC) (cl4.T.tyC) (cl5.T.tyC) (cl6.T.tyC) (cl7.T.tyC) (cl8.T.tyC) (cl9.T.tyC) (cl10.T.tyC) (cl11.T.tyC) (cl12.T.tyC) (cl13.T.tyC) (cl14.T.tyC) (cl15.T.tyC)
  have kk16 : ∀ k, k < 16 → KkF K k ([C0, C1, C2, C3, C4, C5, C6, C7, C8, C9, C10, C11, C12, C13, C14, C15].getD k 0) [C0, C1, C2, C3, C4, C5, C6, C7, C8, C9, C10, C11, C12, C13, C14, C15] := all16 (fun k C => KkF K k C [C0, C1, C2, C3, C4, C5, C6, C7, C8, C9, C10, C11, C12, C13, C14, C15]) (kk0) (kk1) (kk2) (kk3) (kk4) (kk5) (kk6) (kk7) (kk8) (kk9) (kk10) (kk11) (kk12) (kk13) (kk14) (kk15)
  have at16 : ∀ j, j < 16 → ([C0, C1, C2, C3, C4, C5, C6, C7, C8, C9, C10, C11, C12, C13, C14, C15] : List Addr)[j]? = some ([C0, C1, C2, C3, C4, C5, C6, C7, C8, C9, C10, C11, C12, C13, C14, C15].getD j 0) := fun j hj => by
    match j, hj with
    | 0, _ => rfl
    | 1, _ => rfl
    | 2, _ => rfl
    | 3, _ => rfl
    | 4, _ => rfl
    | 5, _ => rfl
    | 6, _ => rfl
    | 7, _ => rfl
    | 8, _ => rfl
    | 9, _ => rfl
    | 10, _ => rfl
    | 11, _ => rfl
    | 12, _ => rfl
    | 13, _ => rfl
    | 14, _ => rfl
    | 15, _ => rfl
    | j + 16, h => exact absurd h (by omega)
  have kit16 : ∀ k j, k < 16 → j < 16 → PySem.W.kitOne K (.ref ([C0, C1, C2, C3, C4, C5, C6, C7, C8, C9, C10, C11, C12, C13, C14, C15].getD k 0)) (.ref ([C0, C1, C2, C3, C4, C5, C6, C7, C8, C9, C10, C11, C12, C13, C14, C15].getD j 0)) = some (decide (j = k)) := fun k j hk hj => by
    have hs := kk16 k hk j _ (at16 j hj)
    have self := kk16 j hj j _ (at16 j hj)
    unfold PySem.W.kitOne
    split
    · rename_i h
      have e : (Value.ref ([C0, C1, C2, C3, C4, C5, C6, C7, C8, C9, C10, C11, C12, C13, C14, C15].getD k 0)) = Value.ref ([C0, C1, C2, C3, C4, C5, C6, C7, C8, C9, C10, C11, C12, C13, C14, C15].getD j 0) := by simpa using h
      rw [e, self] at hs
      rw [← hs]
      simp
    · show (if ((PySem.W.clsIn K ([C0, C1, C2, C3, C4, C5, C6, C7, C8, C9, C10, C11, C12, C13, C14, C15].getD j 0)).isSome && PySem.W.typeIn K (.ref ([C0, C1, C2, C3, C4, C5, C6, C7, C8, C9, C10, C11, C12, C13, C14, C15].getD j 0)) == some (.type "type")) = true then PySem.W.subIn K (.ref ([C0, C1, C2, C3, C4, C5, C6, C7, C8, C9, C10, C11, C12, C13, C14, C15].getD k 0)) (.ref ([C0, C1, C2, C3, C4, C5, C6, C7, C8, C9, C10, C11, C12, C13, C14, C15].getD j 0)) else none) = _
      rw [cls16 j hj, ty16 j hj, if_pos (by simp)]
      exact hs
  have kv16 : ∀ C : Addr, PySem.W.subIn K (.ref C) (.type "ValueError") = some true → PySem.W.kitOne K (.ref C) (.type "ValueError") = some true := fun C h => by
    unfold PySem.W.kitOne
    rw [if_neg (by simp)]
    show (if PySem.W.kitMeta "ValueError" = true then PySem.W.subIn K (.ref C) (.type "ValueError") else none) = some true
    rw [if_pos (by decide +kernel)]
    exact h
  have Y : Er l.prog K mg (fun k => [C0, C1, C2, C3, C4, C5, C6, C7, C8, C9, C10, C11, C12, C13, C14, C15].getD k 0) RE := ⟨I0, I1, I2, I3, I4, I5, I6, I7, I8, I9, I10, I11, I12, I13, I14, I15,
    all16 (fun k C => ∀ n, n ∈ fNames → PySem.W.findIn K (.ref C) n = some none) (cl0.no) (cl1.no) (cl2.no) (cl3.no) (cl4.no) (cl5.no) (cl6.no) (cl7.no) (cl8.no) (cl9.no) (cl10.no) (cl11.no) (cl12.no) (cl13.no) (cl14.no) (cl15.no),
    all16 (fun k C => XfC K C) (⟨cl0.ga, cl0.gg, cl0.T.exC, cl0.hd⟩) (⟨cl1.ga, cl1.gg, cl1.T.exC, cl1.hd⟩) (⟨cl2.ga, cl2.gg, cl2.T.exC, cl2.hd⟩) (⟨cl3.ga, cl3.gg, cl3.T.exC, cl3.hd⟩) (⟨cl4.ga, cl4.gg, cl4.T.exC, cl4.hd⟩) (⟨cl5.ga, cl5.gg, cl5.T.exC, cl5.hd⟩) (⟨cl6.ga, cl6.gg, cl6.T.exC, cl6.hd⟩) (⟨cl7.ga, cl7.gg, cl7.T.exC, cl7.hd⟩) (⟨cl8.ga, cl8.gg, cl8.T.exC, cl8.hd⟩) (⟨cl9.ga, cl9.gg, cl9.T.exC, cl9.hd⟩) (⟨cl10.ga, cl10.gg, cl10.T.exC, cl10.hd⟩) (⟨cl11.ga, cl11.gg, cl11.T.exC, cl11.hd⟩) (⟨cl12.ga, cl12.gg, cl12.T.exC, cl12.hd⟩) (⟨cl13.ga, cl13.gg, cl13.T.exC, cl13.hd⟩) (⟨cl14.ga, cl14.gg, cl14.T.exC, cl14.hd⟩) (⟨cl15.ga, cl15.gg, cl15.T.exC, cl15.hd⟩),
    all16 (fun k C => ExcC K C) (⟨cl0.ga, cl0.gg, cl0.T.exC, cl0.hd, cl0.ha, hn, htk, cl0.mo⟩) (⟨cl1.ga, cl1.gg, cl1.T.exC, cl1.hd, cl1.ha, hn, htk, cl1.mo⟩) (⟨cl2.ga, cl2.gg, cl2.T.exC, cl2.hd, cl2.ha, hn, htk, cl2.mo⟩) (⟨cl3.ga, cl3.gg, cl3.T.exC, cl3.hd, cl3.ha, hn, htk, cl3.mo⟩) (⟨cl4.ga, cl4.gg, cl4.T.exC, cl4.hd, cl4.ha, hn, htk, cl4.mo⟩) (⟨cl5.ga, cl5.gg, cl5.T.exC, cl5.hd, cl5.ha, hn, htk, cl5.mo⟩) (⟨cl6.ga, cl6.gg, cl6.T.exC, cl6.hd, cl6.ha, hn, htk, cl6.mo⟩) (⟨cl7.ga, cl7.gg, cl7.T.exC, cl7.hd, cl7.ha, hn, htk, cl7.mo⟩) (⟨cl8.ga, cl8.gg, cl8.T.exC, cl8.hd, cl8.ha, hn, htk, cl8.mo⟩) (⟨cl9.ga, cl9.gg, cl9.T.exC, cl9.hd, cl9.ha, hn, htk, cl9.mo⟩) (⟨cl10.ga, cl10.gg, cl10.T.exC, cl10.hd, cl10.ha, hn, htk, cl10.mo⟩) (⟨cl11.ga, cl11.gg, cl11.T.exC, cl11.hd, cl11.ha, hn, htk, cl11.mo⟩) (⟨cl12.ga, cl12.gg, cl12.T.exC, cl12.hd, cl12.ha, hn, htk, cl12.mo⟩) (⟨cl13.ga, cl13.gg, cl13.T.exC, cl13.hd, cl13.ha, hn, htk, cl13.mo⟩) (⟨cl14.ga, cl14.gg, cl14.T.exC, cl14.hd, cl14.ha, hn, htk, cl14.mo⟩) (⟨cl15.ga, cl15.gg, cl15.T.exC, cl15.hd, cl15.ha, hn, htk, cl15.mo⟩),
    all16 (fun k C => PySem.W.exmOne K (.ref C) (.ref RE) = some true) (PySem.W.exm_ref bR hR tR cl0.r) (PySem.W.exm_ref bR hR tR cl1.r) (PySem.W.exm_ref bR hR tR cl2.r) (PySem.W.exm_ref bR hR tR cl3.r) (PySem.W.exm_ref bR hR tR cl4.r) (PySem.W.exm_ref bR hR tR cl5.r) (PySem.W.exm_ref bR hR tR cl6.r) (PySem.W.exm_ref bR hR tR cl7.r) (PySem.W.exm_ref bR hR tR cl8.r) (PySem.W.exm_ref bR hR tR cl9.r) (PySem.W.exm_ref bR hR tR cl10.r) (PySem.W.exm_ref bR hR tR cl11.r) (PySem.W.exm_ref bR hR tR cl12.r) (PySem.W.exm_ref bR hR tR cl13.r) (PySem.W.exm_ref bR hR tR cl14.r) (PySem.W.exm_ref bR hR tR cl15.r),
    all16 (fun k C => PySem.W.kitOne K (.ref C) (.type "ValueError") = some true) (kv16 _ cl0.hB) (kv16 _ cl1.hB) (kv16 _ cl2.hB) (kv16 _ cl3.hB) (kv16 _ cl4.hB) (kv16 _ cl5.hB) (kv16 _ cl6.hB) (kv16 _ cl7.hB) (kv16 _ cl8.hB) (kv16 _ cl9.hB) (kv16 _ cl10.hB) (kv16 _ cl11.hB) (kv16 _ cl12.hB) (kv16 _ cl13.hB) (kv16 _ cl14.hB) (kv16 _ cl15.hB),
    kit16, G0, (PySem.W.mg_none_of X G z_str), (PySem.W.mg_none_of X G z_ValueError), PySem.W.mg_of X G aR⟩
  refine ⟨PySem.W.fnOf "law" "law" (defArgs sLawS) (defBody sLawS) (defScope sLawS) .none kV13 dc13 pm13 an13 cd13 ct13, fun s v => .of_eq rfl, fun base _ _ => ?_⟩
  have p_cell := c_cell (P := l.prog) (w := w) (base := base) T D1
  have p_mixed := c_mixed (P := l.prog) (w := w) (base := base) T D2
  have p_tape := c_tape T D3 p_mixed
  have p_take := c_take (P := l.prog) (w := w) (base := base) T D4
  have p_number := c_number T D5 p_take
  have p_word := c_word T D6 p_take
  have p_rn := c_rn (w := w) (base := base) Y D7
  have p_ro := c_ro (w := w) (base := base) Y D8
  have p_cls := c_cls (w := w) (base := base) (PySem.W.mg_none_of X G z_isinstance) Y D9
  have p_att := c_att (w := w) (base := base) Y D10
  have p_due := c_due (P := l.prog) (w := w) (base := base) D11
  have p_caught := c_caught (PySem.W.mg_none_of X G z_isinstance) (PySem.W.mg_none_of X G z_range) Y p_rn p_ro p_cls p_att p_due D12
  have hf := hfa.symm.trans (PySem.W.mg_of X G a13)
  cases hf
  exact Hp18.fn_law (PySem.W.mg_none_of X G z_range) (PySem.W.mg_none_of X G z_tuple) p_cell p_tape p_take p_number p_word p_caught F13
theorem walk {l : PySem.W.OpenLaw} {q : Program} {loose : List Str} {XP : (Str → Option Value) → Heap → Prop} {YP : World → Heap → Prop} {d : DefRec} {K : Params → PySem.W.Frag} (hn : l.most = some 63) (hdf : d.params.defaults = [])
    (hY : ∀ (w : World) (h : Heap), YP w h → (K w.params).In h)
    (F : ∀ (w : World) (mg : Str → Option Value) (fa : Addr) (h : Heap), (K w.params).In h → h.Ns mainGlobals mg → mg d.name = some (.ref fa) →
      ∃ fd : FuncData, (∀ (s : Shared) (u : Value), BindsTo s fd ⟨[u], []⟩ [("script", u)]) ∧ ∀ base : Heap, (K w.params).In base → base.Ns mainGlobals mg → FnOk l.prog w (K w.params) mg base CX0 6 fa fd ["script"] (spLaw (K w.params))) :
    PySem.W.WalkO q loose XP YP l.row.toRowW d [] (fun f vs => PySem.call f vs) :=
  L2.walk_of (n := 63) (k := 6) (x := "script") (CX := fun _ => CX0) (sp := fun w => spLaw (K w.params)) hn (by decide) hdf ⟨rfl, by decide, by decide⟩ hY F (fun _ _ a ns hl _ hS => ⟨a, ns, rfl, hS, hl, fun _ => rfl⟩) fun _ _ _ _ _ z => z
end Lw
open PySem PySem.W PyProof.Rows
set_option maxRecDepth 100000 in
set_option maxHeartbeats 0 in
theorem PySem.Challenge.cw_growingrecords_k18_errors_made_holds : PySem.Challenge.rw_growingrecords_k18_errors_made.Holds := by
  w_on; o_law; k_head; (case hw => w_witness2)
  k_fill
  refine Lw.walk (l := PySem.Challenge.rw_growingrecords_k18_errors_made) rfl rfl (fun w h Y => PySem.W.kIn_of Y) ?F
  case F =>
    intro w mg fa h KX G hmg
    refine' Lw.all_mk KX G hmg ?aR ?tR ?bR ?hR ?hoS ?tpS ?hn ?htk ?aC0 ?aC1 ?aC2 ?aC3 ?aC4 ?aC5 ?aC6 ?aC7 ?aC8 ?aC9 ?aC10 ?aC11 ?aC12 ?aC13 ?aC14 ?aC15 ?cl0 ?cl1 ?cl2 ?cl3 ?cl4 ?cl5 ?cl6 ?cl7 ?cl8 ?cl9 ?cl10 ?cl11 ?cl12 ?cl13 ?cl14 ?cl15 ?kk0 ?kk1 ?kk2 ?kk3 ?kk4 ?kk5 ?kk6 ?kk7 ?kk8 ?kk9 ?kk10 ?kk11 ?kk12 ?kk13 ?kk14 ?kk15 ?a1 ?l1 ?c1 ?k1 ?a2 ?l2 ?c2 ?k2 ?a3 ?l3 ?c3 ?k3 ?a4 ?l4 ?c4 ?k4 ?a5 ?l5 ?c5 ?k5 ?a6 ?l6 ?c6 ?k6 ?a7 ?l7 ?c7 ?k7 ?a8 ?l8 ?c8 ?k8 ?a9 ?l9 ?c9 ?k9 ?a10 ?l10 ?c10 ?k10 ?a11 ?l11 ?c11 ?k11 ?a12 ?l12 ?c12 ?k12 ?a13 ?l13 ?c13 ?k13 ?z_len ?z_int ?z_range ?z_isinstance ?z_tuple ?z_str ?z_super ?z_ValueError
    (case aR => k_is)
    (case tR => k_is)
    (case bR => k_is)
    (case hR => k_is)
    (case hoS => k_is)
    (case tpS => first | rfl | decide +kernel)
    (case hn => k_is)
    (case htk => k_is)
    (case aC0 => k_is)
    (case aC1 => k_is)
    (case aC2 => k_is)
    (case aC3 => k_is)
    (case aC4 => k_is)
    (case aC5 => k_is)
    (case aC6 => k_is)
    (case aC7 => k_is)
    (case aC8 => k_is)
    (case aC9 => k_is)
    (case aC10 => k_is)
    (case aC11 => k_is)
    (case aC12 => k_is)
    (case aC13 => k_is)
    (case aC14 => k_is)
    (case aC15 => k_is)
    (case cl0 => refine' Hp18.cl_mk ?c ?v ?z ?b ?t ?k ?i ?y ?l ?d ?e ?w ?x ?o ?hm ?hB ?m ?n0 ?n1 ?n2 ?n3 ?n4 ?hd ?ga ?gg ?ha ?mo ?r; (case c => k_is); (case v => first | rfl | decide +kernel); (case z => k_is); (case b => k_is); (case t => k_is); (case k => k_is); (case i => k_is); (case y => k_is); (case l => k_is); (case d => k_is); (case e => k_is); (case w => rfl); (case x => first | rfl | decide +kernel); (case o => k_is); (case hm => first | ks_is | k_is | rfl); (case hB => k_is); (case m => k_is); (case n0 => k_is); (case n1 => k_is); (case n2 => k_is); (case n3 => k_is); (case n4 => k_is); (case hd => k_is); (case ga => k_is); (case gg => k_is); (case ha => k_is); (case mo => k_is); (case r => k_is))
    (case cl1 => refine' Hp18.cl_mk ?c ?v ?z ?b ?t ?k ?i ?y ?l ?d ?e ?w ?x ?o ?hm ?hB ?m ?n0 ?n1 ?n2 ?n3 ?n4 ?hd ?ga ?gg ?ha ?mo ?r; (case c => k_is); (case v => first | rfl | decide +kernel); (case z => k_is); (case b => k_is); (case t => k_is); (case k => k_is); (case i => k_is); (case y => k_is); (case l => k_is); (case d => k_is); (case e => k_is); (case w => rfl); (case x => first | rfl | decide +kernel); (case o => k_is); (case hm => first | ks_is | k_is | rfl); (case hB => k_is); (case m => k_is); (case n0 => k_is); (case n1 => k_is); (case n2 => k_is); (case n3 => k_is); (case n4 => k_is); (case hd => k_is); (case ga => k_is); (case gg => k_is); (case ha => k_is); (case mo => k_is); (case r => k_is))
    (case cl2 => refine' Hp18.cl_mk ?c ?v ?z ?b ?t ?k ?i ?y ?l ?d ?e ?w ?x ?o ?hm ?hB ?m ?n0 ?n1 ?n2 ?n3 ?n4 ?hd ?ga ?gg ?ha ?mo ?r; (case c => k_is); (case v => first | rfl | decide +kernel); (case z => k_is); (case b => k_is); (case t => k_is); (case k => k_is); (case i => k_is); (case y => k_is); (case l => k_is); (case d => k_is); (case e => k_is); (case w => rfl); (case x => first | rfl | decide +kernel); (case o => k_is); (case hm => first | ks_is | k_is | rfl); (case hB => k_is); (case m => k_is); (case n0 => k_is); (case n1 => k_is); (case n2 => k_is); (case n3 => k_is); (case n4 => k_is); (case hd => k_is); (case ga => k_is); (case gg => k_is); (case ha => k_is); (case mo => k_is); (case r => k_is))
    (case cl3 => refine' Hp18.cl_mk ?c ?v ?z ?b ?t ?k ?i ?y ?l ?d ?e ?w ?x ?o ?hm ?hB ?m ?n0 ?n1 ?n2 ?n3 ?n4 ?hd ?ga ?gg ?ha ?mo ?r; (case c => k_is); (case v => first | rfl | decide +kernel); (case z => k_is); (case b => k_is); (case t => k_is); (case k => k_is); (case i => k_is); (case y => k_is); (case l => k_is); (case d => k_is); (case e => k_is); (case w => rfl); (case x => first | rfl | decide +kernel); (case o => k_is); (case hm => first | ks_is | k_is | rfl); (case hB => k_is); (case m => k_is); (case n0 => k_is); (case n1 => k_is); (case n2 => k_is); (case n3 => k_is); (case n4 => k_is); (case hd => k_is); (case ga => k_is); (case gg => k_is); (case ha => k_is); (case mo => k_is); (case r => k_is))
    (case cl4 => refine' Hp18.cl_mk ?c ?v ?z ?b ?t ?k ?i ?y ?l ?d ?e ?w ?x ?o ?hm ?hB ?m ?n0 ?n1 ?n2 ?n3 ?n4 ?hd ?ga ?gg ?ha ?mo ?r; (case c => k_is); (case v => first | rfl | decide +kernel); (case z => k_is); (case b => k_is); (case t => k_is); (case k => k_is); (case i => k_is); (case y => k_is); (case l => k_is); (case d => k_is); (case e => k_is); (case w => rfl); (case x => first | rfl | decide +kernel); (case o => k_is); (case hm => first | ks_is | k_is | rfl); (case hB => k_is); (case m => k_is); (case n0 => k_is); (case n1 => k_is); (case n2 => k_is); (case n3 => k_is); (case n4 => k_is); (case hd => k_is); (case ga => k_is); (case gg => k_is); (case ha => k_is); (case mo => k_is); (case r => k_is))
    (case cl5 => refine' Hp18.cl_mk ?c ?v ?z ?b ?t ?k ?i ?y ?l ?d ?e ?w ?x ?o ?hm ?hB ?m ?n0 ?n1 ?n2 ?n3 ?n4 ?hd ?ga ?gg ?ha ?mo ?r; (case c => k_is); (case v => first | rfl | decide +kernel); (case z => k_is); (case b => k_is); (case t => k_is); (case k => k_is); (case i => k_is); (case y => k_is); (case l => k_is); (case d => k_is); (case e => k_is); (case w => rfl); (case x => first | rfl | decide +kernel); (case o => k_is); (case hm => first | ks_is | k_is | rfl); (case hB => k_is); (case m => k_is); (case n0 => k_is); (case n1 => k_is); (case n2 => k_is); (case n3 => k_is); (case n4 => k_is); (case hd => k_is); (case ga => k_is); (case gg => k_is); (case ha => k_is); (case mo => k_is); (case r => k_is))
    (case cl6 => refine' Hp18.cl_mk ?c ?v ?z ?b ?t ?k ?i ?y ?l ?d ?e ?w ?x ?o ?hm ?hB ?m ?n0 ?n1 ?n2 ?n3 ?n4 ?hd ?ga ?gg ?ha ?mo ?r; (case c => k_is); (case v => first | rfl | decide +kernel); (case z => k_is); (case b => k_is); (case t => k_is); (case k => k_is); (case i => k_is); (case y => k_is); (case l => k_is); (case d => k_is); (case e => k_is); (case w => rfl); (case x => first | rfl | decide +kernel); (case o => k_is); (case hm => first | ks_is | k_is | rfl); (case hB => k_is); (case m => k_is); (case n0 => k_is); (case n1 => k_is); (case n2 => k_is); (case n3 => k_is); (case n4 => k_is); (case hd => k_is); (case ga => k_is); (case gg => k_is); (case ha => k_is); (case mo => k_is); (case r => k_is))
    (case cl7 => refine' Hp18.cl_mk ?c ?v ?z ?b ?t ?k ?i ?y ?l ?d ?e ?w ?x ?o ?hm ?hB ?m ?n0 ?n1 ?n2 ?n3 ?n4 ?hd ?ga ?gg ?ha ?mo ?r; (case c => k_is); (case v => first | rfl | decide +kernel); (case z => k_is); (case b => k_is); (case t => k_is); (case k => k_is); (case i => k_is); (case y => k_is); (case l => k_is); (case d => k_is); (case e => k_is); (case w => rfl); (case x => first | rfl | decide +kernel); (case o => k_is); (case hm => first | ks_is | k_is | rfl); (case hB => k_is); (case m => k_is); (case n0 => k_is); (case n1 => k_is); (case n2 => k_is); (case n3 => k_is); (case n4 => k_is); (case hd => k_is); (case ga => k_is); (case gg => k_is); (case ha => k_is); (case mo => k_is); (case r => k_is))
    (case cl8 => refine' Hp18.cl_mk ?c ?v ?z ?b ?t ?k ?i ?y ?l ?d ?e ?w ?x ?o ?hm ?hB ?m ?n0 ?n1 ?n2 ?n3 ?n4 ?hd ?ga ?gg ?ha ?mo ?r; (case c => k_is); (case v => first | rfl | decide +kernel); (case z => k_is); (case b => k_is); (case t => k_is); (case k => k_is); (case i => k_is); (case y => k_is); (case l => k_is); (case d => k_is); (case e => k_is); (case w => rfl); (case x => first | rfl | decide +kernel); (case o => k_is); (case hm => first | ks_is | k_is | rfl); (case hB => k_is); (case m => k_is); (case n0 => k_is); (case n1 => k_is); (case n2 => k_is); (case n3 => k_is); (case n4 => k_is); (case hd => k_is); (case ga => k_is); (case gg => k_is); (case ha => k_is); (case mo => k_is); (case r => k_is))
    (case cl9 => refine' Hp18.cl_mk ?c ?v ?z ?b ?t ?k ?i ?y ?l ?d ?e ?w ?x ?o ?hm ?hB ?m ?n0 ?n1 ?n2 ?n3 ?n4 ?hd ?ga ?gg ?ha ?mo ?r; (case c => k_is); (case v => first | rfl | decide +kernel); (case z => k_is); (case b => k_is); (case t => k_is); (case k => k_is); (case i => k_is); (case y => k_is); (case l => k_is); (case d => k_is); (case e => k_is); (case w => rfl); (case x => first | rfl | decide +kernel); (case o => k_is); (case hm => first | ks_is | k_is | rfl); (case hB => k_is); (case m => k_is); (case n0 => k_is); (case n1 => k_is); (case n2 => k_is); (case n3 => k_is); (case n4 => k_is); (case hd => k_is); (case ga => k_is); (case gg => k_is); (case ha => k_is); (case mo => k_is); (case r => k_is))
    (case cl10 => refine' Hp18.cl_mk ?c ?v ?z ?b ?t ?k ?i ?y ?l ?d ?e ?w ?x ?o ?hm ?hB ?m ?n0 ?n1 ?n2 ?n3 ?n4 ?hd ?ga ?gg ?ha ?mo ?r; (case c => k_is); (case v => first | rfl | decide +kernel); (case z => k_is); (case b => k_is); (case t => k_is); (case k => k_is); (case i => k_is); (case y => k_is); (case l => k_is); (case d => k_is); (case e => k_is); (case w => rfl); (case x => first | rfl | decide +kernel); (case o => k_is); (case hm => first | ks_is | k_is | rfl); (case hB => k_is); (case m => k_is); (case n0 => k_is); (case n1 => k_is); (case n2 => k_is); (case n3 => k_is); (case n4 => k_is); (case hd => k_is); (case ga => k_is); (case gg => k_is); (case ha => k_is); (case mo => k_is); (case r => k_is))
    (case cl11 => refine' Hp18.cl_mk ?c ?v ?z ?b ?t ?k ?i ?y ?l ?d ?e ?w ?x ?o ?hm ?hB ?m ?n0 ?n1 ?n2 ?n3 ?n4 ?hd ?ga ?gg ?ha ?mo ?r; (case c => k_is); (case v => first | rfl | decide +kernel); (case z => k_is); (case b => k_is); (case t => k_is); (case k => k_is); (case i => k_is); (case y => k_is); (case l => k_is); (case d => k_is); (case e => k_is); (case w => rfl); (case x => first | rfl | decide +kernel); (case o => k_is); (case hm => first | ks_is | k_is | rfl); (case hB => k_is); (case m => k_is); (case n0 => k_is); (case n1 => k_is); (case n2 => k_is); (case n3 => k_is); (case n4 => k_is); (case hd => k_is); (case ga => k_is); (case gg => k_is); (case ha => k_is); (case mo => k_is); (case r => k_is))
    (case cl12 => refine' Hp18.cl_mk ?c ?v ?z ?b ?t ?k ?i ?y ?l ?d ?e ?w ?x ?o ?hm ?hB ?m ?n0 ?n1 ?n2 ?n3 ?n4 ?hd ?ga ?gg ?ha ?mo ?r; (case c => k_is); (case v => first | rfl | decide +kernel); (case z => k_is); (case b => k_is); (case t => k_is); (case k => k_is); (case i => k_is); (case y => k_is); (case l => k_is); (case d => k_is); (case e => k_is); (case w => rfl); (case x => first | rfl | decide +kernel); (case o => k_is); (case hm => first | ks_is | k_is | rfl); (case hB => k_is); (case m => k_is); (case n0 => k_is); (case n1 => k_is); (case n2 => k_is); (case n3 => k_is); (case n4 => k_is); (case hd => k_is); (case ga => k_is); (case gg => k_is); (case ha => k_is); (case mo => k_is); (case r => k_is))
    (case cl13 => refine' Hp18.cl_mk ?c ?v ?z ?b ?t ?k ?i ?y ?l ?d ?e ?w ?x ?o ?hm ?hB ?m ?n0 ?n1 ?n2 ?n3 ?n4 ?hd ?ga ?gg ?ha ?mo ?r; (case c => k_is); (case v => first | rfl | decide +kernel); (case z => k_is); (case b => k_is); (case t => k_is); (case k => k_is); (case i => k_is); (case y => k_is); (case l => k_is); (case d => k_is); (case e => k_is); (case w => rfl); (case x => first | rfl | decide +kernel); (case o => k_is); (case hm => first | ks_is | k_is | rfl); (case hB => k_is); (case m => k_is); (case n0 => k_is); (case n1 => k_is); (case n2 => k_is); (case n3 => k_is); (case n4 => k_is); (case hd => k_is); (case ga => k_is); (case gg => k_is); (case ha => k_is); (case mo => k_is); (case r => k_is))
    (case cl14 => refine' Hp18.cl_mk ?c ?v ?z ?b ?t ?k ?i ?y ?l ?d ?e ?w ?x ?o ?hm ?hB ?m ?n0 ?n1 ?n2 ?n3 ?n4 ?hd ?ga ?gg ?ha ?mo ?r; (case c => k_is); (case v => first | rfl | decide +kernel); (case z => k_is); (case b => k_is); (case t => k_is); (case k => k_is); (case i => k_is); (case y => k_is); (case l => k_is); (case d => k_is); (case e => k_is); (case w => rfl); (case x => first | rfl | decide +kernel); (case o => k_is); (case hm => first | ks_is | k_is | rfl); (case hB => k_is); (case m => k_is); (case n0 => k_is); (case n1 => k_is); (case n2 => k_is); (case n3 => k_is); (case n4 => k_is); (case hd => k_is); (case ga => k_is); (case gg => k_is); (case ha => k_is); (case mo => k_is); (case r => k_is))
    (case cl15 => refine' Hp18.cl_mk ?c ?v ?z ?b ?t ?k ?i ?y ?l ?d ?e ?w ?x ?o ?hm ?hB ?m ?n0 ?n1 ?n2 ?n3 ?n4 ?hd ?ga ?gg ?ha ?mo ?r; (case c => k_is); (case v => first | rfl | decide +kernel); (case z => k_is); (case b => k_is); (case t => k_is); (case k => k_is); (case i => k_is); (case y => k_is); (case l => k_is); (case d => k_is); (case e => k_is); (case w => rfl); (case x => first | rfl | decide +kernel); (case o => k_is); (case hm => first | ks_is | k_is | rfl); (case hB => k_is); (case m => k_is); (case n0 => k_is); (case n1 => k_is); (case n2 => k_is); (case n3 => k_is); (case n4 => k_is); (case hd => k_is); (case ga => k_is); (case gg => k_is); (case ha => k_is); (case mo => k_is); (case r => k_is))
    (case kk0 => refine' Hp18.kk_mk ?h0 ?h1 ?h2 ?h3 ?h4 ?h5 ?h6 ?h7 ?h8 ?h9 ?h10 ?h11 ?h12 ?h13 ?h14 ?h15 ?e0 ?e1 ?e2 ?e3 ?e4 ?e5 ?e6 ?e7 ?e8 ?e9 ?e10 ?e11 ?e12 ?e13 ?e14 ?e15; (case h0 => k_is); (case h1 => k_is); (case h2 => k_is); (case h3 => k_is); (case h4 => k_is); (case h5 => k_is); (case h6 => k_is); (case h7 => k_is); (case h8 => k_is); (case h9 => k_is); (case h10 => k_is); (case h11 => k_is); (case h12 => k_is); (case h13 => k_is); (case h14 => k_is); (case h15 => k_is); (case e0 => rfl); (case e1 => rfl); (case e2 => rfl); (case e3 => rfl); (case e4 => rfl); (case e5 => rfl); (case e6 => rfl); (case e7 => rfl); (case e8 => rfl); (case e9 => rfl); (case e10 => rfl); (case e11 => rfl); (case e12 => rfl); (case e13 => rfl); (case e14 => rfl); (case e15 => rfl))
    (case kk1 => refine' Hp18.kk_mk ?h0 ?h1 ?h2 ?h3 ?h4 ?h5 ?h6 ?h7 ?h8 ?h9 ?h10 ?h11 ?h12 ?h13 ?h14 ?h15 ?e0 ?e1 ?e2 ?e3 ?e4 ?e5 ?e6 ?e7 ?e8 ?e9 ?e10 ?e11 ?e12 ?e13 ?e14 ?e15; (case h0 => k_is); (case h1 => k_is); (case h2 => k_is); (case h3 => k_is); (case h4 => k_is); (case h5 => k_is); (case h6 => k_is); (case h7 => k_is); (case h8 => k_is); (case h9 => k_is); (case h10 => k_is); (case h11 => k_is); (case h12 => k_is); (case h13 => k_is); (case h14 => k_is); (case h15 => k_is); (case e0 => rfl); (case e1 => rfl); (case e2 => rfl); (case e3 => rfl); (case e4 => rfl); (case e5 => rfl); (case e6 => rfl); (case e7 => rfl); (case e8 => rfl); (case e9 => rfl); (case e10 => rfl); (case e11 => rfl); (case e12 => rfl); (case e13 => rfl); (case e14 => rfl); (case e15 => rfl))
    (case kk2 => refine' Hp18.kk_mk ?h0 ?h1 ?h2 ?h3 ?h4 ?h5 ?h6 ?h7 ?h8 ?h9 ?h10 ?h11 ?h12 ?h13 ?h14 ?h15 ?e0 ?e1 ?e2 ?e3 ?e4 ?e5 ?e6 ?e7 ?e8 ?e9 ?e10 ?e11 ?e12 ?e13 ?e14 ?e15; (case h0 => k_is); (case h1 => k_is); (case h2 => k_is); (case h3 => k_is); (case h4 => k_is); (case h5 => k_is); (case h6 => k_is); (case h7 => k_is); (case h8 => k_is); (case h9 => k_is); (case h10 => k_is); (case h11 => k_is); (case h12 => k_is); (case h13 => k_is); (case h14 => k_is); (case h15 => k_is); (case e0 => rfl); (case e1 => rfl); (case e2 => rfl); (case e3 => rfl); (case e4 => rfl); (case e5 => rfl); (case e6 => rfl); (case e7 => rfl); (case e8 => rfl); (case e9 => rfl); (case e10 => rfl); (case e11 => rfl); (case e12 => rfl); (case e13 => rfl); (case e14 => rfl); (case e15 => rfl))
    (case kk3 => refine' Hp18.kk_mk ?h0 ?h1 ?h2 ?h3 ?h4 ?h5 ?h6 ?h7 ?h8 ?h9 ?h10 ?h11 ?h12 ?h13 ?h14 ?h15 ?e0 ?e1 ?e2 ?e3 ?e4 ?e5 ?e6 ?e7 ?e8 ?e9 ?e10 ?e11 ?e12 ?e13 ?e14 ?e15; (case h0 => k_is); (case h1 => k_is); (case h2 => k_is); (case h3 => k_is); (case h4 => k_is); (case h5 => k_is); (case h6 => k_is); (case h7 => k_is); (case h8 => k_is); (case h9 => k_is); (case h10 => k_is); (case h11 => k_is); (case h12 => k_is); (case h13 => k_is); (case h14 => k_is); (case h15 => k_is); (case e0 => rfl); (case e1 => rfl); (case e2 => rfl); (case e3 => rfl); (case e4 => rfl); (case e5 => rfl); (case e6 => rfl); (case e7 => rfl); (case e8 => rfl); (case e9 => rfl); (case e10 => rfl); (case e11 => rfl); (case e12 => rfl); (case e13 => rfl); (case e14 => rfl); (case e15 => rfl))
    (case kk4 => refine' Hp18.kk_mk ?h0 ?h1 ?h2 ?h3 ?h4 ?h5 ?h6 ?h7 ?h8 ?h9 ?h10 ?h11 ?h12 ?h13 ?h14 ?h15 ?e0 ?e1 ?e2 ?e3 ?e4 ?e5 ?e6 ?e7 ?e8 ?e9 ?e10 ?e11 ?e12 ?e13 ?e14 ?e15; (case h0 => k_is); (case h1 => k_is); (case h2 => k_is); (case h3 => k_is); (case h4 => k_is); (case h5 => k_is); (case h6 => k_is); (case h7 => k_is); (case h8 => k_is); (case h9 => k_is); (case h10 => k_is); (case h11 => k_is); (case h12 => k_is); (case h13 => k_is); (case h14 => k_is); (case h15 => k_is); (case e0 => rfl); (case e1 => rfl); (case e2 => rfl); (case e3 => rfl); (case e4 => rfl); (case e5 => rfl); (case e6 => rfl); (case e7 => rfl); (case e8 => rfl); (case e9 => rfl); (case e10 => rfl); (case e11 => rfl); (case e12 => rfl); (case e13 => rfl); (case e14 => rfl); (case e15 => rfl))
    (case kk5 => refine' Hp18.kk_mk ?h0 ?h1 ?h2 ?h3 ?h4 ?h5 ?h6 ?h7 ?h8 ?h9 ?h10 ?h11 ?h12 ?h13 ?h14 ?h15 ?e0 ?e1 ?e2 ?e3 ?e4 ?e5 ?e6 ?e7 ?e8 ?e9 ?e10 ?e11 ?e12 ?e13 ?e14 ?e15; (case h0 => k_is); (case h1 => k_is); (case h2 => k_is); (case h3 => k_is); (case h4 => k_is); (case h5 => k_is); (case h6 => k_is); (case h7 => k_is); (case h8 => k_is); (case h9 => k_is); (case h10 => k_is); (case h11 => k_is); (case h12 => k_is); (case h13 => k_is); (case h14 => k_is); (case h15 => k_is); (case e0 => rfl); (case e1 => rfl); (case e2 => rfl); (case e3 => rfl); (case e4 => rfl); (case e5 => rfl); (case e6 => rfl); (case e7 => rfl); (case e8 => rfl); (case e9 => rfl); (case e10 => rfl); (case e11 => rfl); (case e12 => rfl); (case e13 => rfl); (case e14 => rfl); (case e15 => rfl))
    (case kk6 => refine' Hp18.kk_mk ?h0 ?h1 ?h2 ?h3 ?h4 ?h5 ?h6 ?h7 ?h8 ?h9 ?h10 ?h11 ?h12 ?h13 ?h14 ?h15 ?e0 ?e1 ?e2 ?e3 ?e4 ?e5 ?e6 ?e7 ?e8 ?e9 ?e10 ?e11 ?e12 ?e13 ?e14 ?e15; (case h0 => k_is); (case h1 => k_is); (case h2 => k_is); (case h3 => k_is); (case h4 => k_is); (case h5 => k_is); (case h6 => k_is); (case h7 => k_is); (case h8 => k_is); (case h9 => k_is); (case h10 => k_is); (case h11 => k_is); (case h12 => k_is); (case h13 => k_is); (case h14 => k_is); (case h15 => k_is); (case e0 => rfl); (case e1 => rfl); (case e2 => rfl); (case e3 => rfl); (case e4 => rfl); (case e5 => rfl); (case e6 => rfl); (case e7 => rfl); (case e8 => rfl); (case e9 => rfl); (case e10 => rfl); (case e11 => rfl); (case e12 => rfl); (case e13 => rfl); (case e14 => rfl); (case e15 => rfl))
    (case kk7 => refine' Hp18.kk_mk ?h0 ?h1 ?h2 ?h3 ?h4 ?h5 ?h6 ?h7 ?h8 ?h9 ?h10 ?h11 ?h12 ?h13 ?h14 ?h15 ?e0 ?e1 ?e2 ?e3 ?e4 ?e5 ?e6 ?e7 ?e8 ?e9 ?e10 ?e11 ?e12 ?e13 ?e14 ?e15; (case h0 => k_is); (case h1 => k_is); (case h2 => k_is); (case h3 => k_is); (case h4 => k_is); (case h5 => k_is); (case h6 => k_is); (case h7 => k_is); (case h8 => k_is); (case h9 => k_is); (case h10 => k_is); (case h11 => k_is); (case h12 => k_is); (case h13 => k_is); (case h14 => k_is); (case h15 => k_is); (case e0 => rfl); (case e1 => rfl); (case e2 => rfl); (case e3 => rfl); (case e4 => rfl); (case e5 => rfl); (case e6 => rfl); (case e7 => rfl); (case e8 => rfl); (case e9 => rfl); (case e10 => rfl); (case e11 => rfl); (case e12 => rfl); (case e13 => rfl); (case e14 => rfl); (case e15 => rfl))
    (case kk8 => refine' Hp18.kk_mk ?h0 ?h1 ?h2 ?h3 ?h4 ?h5 ?h6 ?h7 ?h8 ?h9 ?h10 ?h11 ?h12 ?h13 ?h14 ?h15 ?e0 ?e1 ?e2 ?e3 ?e4 ?e5 ?e6 ?e7 ?e8 ?e9 ?e10 ?e11 ?e12 ?e13 ?e14 ?e15; (case h0 => k_is); (case h1 => k_is); (case h2 => k_is); (case h3 => k_is); (case h4 => k_is); (case h5 => k_is); (case h6 => k_is); (case h7 => k_is); (case h8 => k_is); (case h9 => k_is); (case h10 => k_is); (case h11 => k_is); (case h12 => k_is); (case h13 => k_is); (case h14 => k_is); (case h15 => k_is); (case e0 => rfl); (case e1 => rfl); (case e2 => rfl); (case e3 => rfl); (case e4 => rfl); (case e5 => rfl); (case e6 => rfl); (case e7 => rfl); (case e8 => rfl); (case e9 => rfl); (case e10 => rfl); (case e11 => rfl); (case e12 => rfl); (case e13 => rfl); (case e14 => rfl); (case e15 => rfl))
    (case kk9 => refine' Hp18.kk_mk ?h0 ?h1 ?h2 ?h3 ?h4 ?h5 ?h6 ?h7 ?h8 ?h9 ?h10 ?h11 ?h12 ?h13 ?h14 ?h15 ?e0 ?e1 ?e2 ?e3 ?e4 ?e5 ?e6 ?e7 ?e8 ?e9 ?e10 ?e11 ?e12 ?e13 ?e14 ?e15; (case h0 => k_is); (case h1 => k_is); (case h2 => k_is); (case h3 => k_is); (case h4 => k_is); (case h5 => k_is); (case h6 => k_is); (case h7 => k_is); (case h8 => k_is); (case h9 => k_is); (case h10 => k_is); (case h11 => k_is); (case h12 => k_is); (case h13 => k_is); (case h14 => k_is); (case h15 => k_is); (case e0 => rfl); (case e1 => rfl); (case e2 => rfl); (case e3 => rfl); (case e4 => rfl); (case e5 => rfl); (case e6 => rfl); (case e7 => rfl); (case e8 => rfl); (case e9 => rfl); (case e10 => rfl); (case e11 => rfl); (case e12 => rfl); (case e13 => rfl); (case e14 => rfl); (case e15 => rfl))
    (case kk10 => refine' Hp18.kk_mk ?h0 ?h1 ?h2 ?h3 ?h4 ?h5 ?h6 ?h7 ?h8 ?h9 ?h10 ?h11 ?h12 ?h13 ?h14 ?h15 ?e0 ?e1 ?e2 ?e3 ?e4 ?e5 ?e6 ?e7 ?e8 ?e9 ?e10 ?e11 ?e12 ?e13 ?e14 ?e15; (case h0 => k_is); (case h1 => k_is); (case h2 => k_is); (case h3 => k_is); (case h4 => k_is); (case h5 => k_is); (case h6 => k_is); (case h7 => k_is); (case h8 => k_is); (case h9 => k_is); (case h10 => k_is); (case h11 => k_is); (case h12 => k_is); (case h13 => k_is); (case h14 => k_is); (case h15 => k_is); (case e0 => rfl); (case e1 => rfl); (case e2 => rfl); (case e3 => rfl); (case e4 => rfl); (case e5 => rfl); (case e6 => rfl); (case e7 => rfl); (case e8 => rfl); (case e9 => rfl); (case e10 => rfl); (case e11 => rfl); (case e12 => rfl); (case e13 => rfl); (case e14 => rfl); (case e15 => rfl))
    (case kk11 => refine' Hp18.kk_mk ?h0 ?h1 ?h2 ?h3 ?h4 ?h5 ?h6 ?h7 ?h8 ?h9 ?h10 ?h11 ?h12 ?h13 ?h14 ?h15 ?e0 ?e1 ?e2 ?e3 ?e4 ?e5 ?e6 ?e7 ?e8 ?e9 ?e10 ?e11 ?e12 ?e13 ?e14 ?e15; (case h0 => k_is); (case h1 => k_is); (case h2 => k_is); (case h3 => k_is); (case h4 => k_is); (case h5 => k_is); (case h6 => k_is); (case h7 => k_is); (case h8 => k_is); (case h9 => k_is); (case h10 => k_is); (case h11 => k_is); (case h12 => k_is); (case h13 => k_is); (case h14 => k_is); (case h15 => k_is); (case e0 => rfl); (case e1 => rfl); (case e2 => rfl); (case e3 => rfl); (case e4 => rfl); (case e5 => rfl); (case e6 => rfl); (case e7 => rfl); (case e8 => rfl); (case e9 => rfl); (case e10 => rfl); (case e11 => rfl); (case e12 => rfl); (case e13 => rfl); (case e14 => rfl); (case e15 => rfl))
    (case kk12 => refine' Hp18.kk_mk ?h0 ?h1 ?h2 ?h3 ?h4 ?h5 ?h6 ?h7 ?h8 ?h9 ?h10 ?h11 ?h12 ?h13 ?h14 ?h15 ?e0 ?e1 ?e2 ?e3 ?e4 ?e5 ?e6 ?e7 ?e8 ?e9 ?e10 ?e11 ?e12 ?e13 ?e14 ?e15; (case h0 => k_is); (case h1 => k_is); (case h2 => k_is); (case h3 => k_is); (case h4 => k_is); (case h5 => k_is); (case h6 => k_is); (case h7 => k_is); (case h8 => k_is); (case h9 => k_is); (case h10 => k_is); (case h11 => k_is); (case h12 => k_is); (case h13 => k_is); (case h14 => k_is); (case h15 => k_is); (case e0 => rfl); (case e1 => rfl); (case e2 => rfl); (case e3 => rfl); (case e4 => rfl); (case e5 => rfl); (case e6 => rfl); (case e7 => rfl); (case e8 => rfl); (case e9 => rfl); (case e10 => rfl); (case e11 => rfl); (case e12 => rfl); (case e13 => rfl); (case e14 => rfl); (case e15 => rfl))
    (case kk13 => refine' Hp18.kk_mk ?h0 ?h1 ?h2 ?h3 ?h4 ?h5 ?h6 ?h7 ?h8 ?h9 ?h10 ?h11 ?h12 ?h13 ?h14 ?h15 ?e0 ?e1 ?e2 ?e3 ?e4 ?e5 ?e6 ?e7 ?e8 ?e9 ?e10 ?e11 ?e12 ?e13 ?e14 ?e15; (case h0 => k_is); (case h1 => k_is); (case h2 => k_is); (case h3 => k_is); (case h4 => k_is); (case h5 => k_is); (case h6 => k_is); (case h7 => k_is); (case h8 => k_is); (case h9 => k_is); (case h10 => k_is); (case h11 => k_is); (case h12 => k_is); (case h13 => k_is); (case h14 => k_is); (case h15 => k_is); (case e0 => rfl); (case e1 => rfl); (case e2 => rfl); (case e3 => rfl); (case e4 => rfl); (case e5 => rfl); (case e6 => rfl); (case e7 => rfl); (case e8 => rfl); (case e9 => rfl); (case e10 => rfl); (case e11 => rfl); (case e12 => rfl); (case e13 => rfl); (case e14 => rfl); (case e15 => rfl))
    (case kk14 => refine' Hp18.kk_mk ?h0 ?h1 ?h2 ?h3 ?h4 ?h5 ?h6 ?h7 ?h8 ?h9 ?h10 ?h11 ?h12 ?h13 ?h14 ?h15 ?e0 ?e1 ?e2 ?e3 ?e4 ?e5 ?e6 ?e7 ?e8 ?e9 ?e10 ?e11 ?e12 ?e13 ?e14 ?e15; (case h0 => k_is); (case h1 => k_is); (case h2 => k_is); (case h3 => k_is); (case h4 => k_is); (case h5 => k_is); (case h6 => k_is); (case h7 => k_is); (case h8 => k_is); (case h9 => k_is); (case h10 => k_is); (case h11 => k_is); (case h12 => k_is); (case h13 => k_is); (case h14 => k_is); (case h15 => k_is); (case e0 => rfl); (case e1 => rfl); (case e2 => rfl); (case e3 => rfl); (case e4 => rfl); (case e5 => rfl); (case e6 => rfl); (case e7 => rfl); (case e8 => rfl); (case e9 => rfl); (case e10 => rfl); (case e11 => rfl); (case e12 => rfl); (case e13 => rfl); (case e14 => rfl); (case e15 => rfl))
    (case kk15 => refine' Hp18.kk_mk ?h0 ?h1 ?h2 ?h3 ?h4 ?h5 ?h6 ?h7 ?h8 ?h9 ?h10 ?h11 ?h12 ?h13 ?h14 ?h15 ?e0 ?e1 ?e2 ?e3 ?e4 ?e5 ?e6 ?e7 ?e8 ?e9 ?e10 ?e11 ?e12 ?e13 ?e14 ?e15; (case h0 => k_is); (case h1 => k_is); (case h2 => k_is); (case h3 => k_is); (case h4 => k_is); (case h5 => k_is); (case h6 => k_is); (case h7 => k_is); (case h8 => k_is); (case h9 => k_is); (case h10 => k_is); (case h11 => k_is); (case h12 => k_is); (case h13 => k_is); (case h14 => k_is); (case h15 => k_is); (case e0 => rfl); (case e1 => rfl); (case e2 => rfl); (case e3 => rfl); (case e4 => rfl); (case e5 => rfl); (case e6 => rfl); (case e7 => rfl); (case e8 => rfl); (case e9 => rfl); (case e10 => rfl); (case e11 => rfl); (case e12 => rfl); (case e13 => rfl); (case e14 => rfl); (case e15 => rfl))
    (case a1 => k_is)
    (case l1 => k_is)
    (case c1 => k_is)
    (case k1 => k_is)
    (case a2 => k_is)
    (case l2 => k_is)
    (case c2 => k_is)
    (case k2 => k_is)
    (case a3 => k_is)
    (case l3 => k_is)
    (case c3 => k_is)
    (case k3 => k_is)
    (case a4 => k_is)
    (case l4 => k_is)
    (case c4 => k_is)
    (case k4 => k_is)
    (case a5 => k_is)
    (case l5 => k_is)
    (case c5 => k_is)
    (case k5 => k_is)
    (case a6 => k_is)
    (case l6 => k_is)
    (case c6 => k_is)
    (case k6 => k_is)
    (case a7 => k_is)
    (case l7 => k_is)
    (case c7 => k_is)
    (case k7 => k_is)
    (case a8 => k_is)
    (case l8 => k_is)
    (case c8 => k_is)
    (case k8 => k_is)
    (case a9 => k_is)
    (case l9 => k_is)
    (case c9 => k_is)
    (case k9 => k_is)
    (case a10 => k_is)
    (case l10 => k_is)
    (case c10 => k_is)
    (case k10 => k_is)
    (case a11 => k_is)
    (case l11 => k_is)
    (case c11 => k_is)
    (case k11 => k_is)
    (case a12 => k_is)
    (case l12 => k_is)
    (case c12 => k_is)
    (case k12 => k_is)
    (case a13 => k_is)
    (case l13 => k_is)
    (case c13 => k_is)
    (case k13 => k_is)
    (case z_len => k_is)
    (case z_int => k_is)
    (case z_range => k_is)
    (case z_isinstance => k_is)
    (case z_tuple => k_is)
    (case z_str => k_is)
    (case z_super => k_is)
    (case z_ValueError => k_is)
