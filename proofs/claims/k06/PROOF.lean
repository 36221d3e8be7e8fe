import PyProof.Rows.All
import Wide.All
import OpenK.AllK
import Wide.FinOn
import HandS.GenBody
import HandS.GenYield
import HandS.GenCall
import HandS.GenList
import HandS.Words
import HandS.ForMost
import HandS.OwnEq
import HandS.IterVal
import HandS.ClsMeth
import HandS.IsInst
import HandS.Codes
import HandS.Walk
import HandS.Iter
import HandS.RaiseMore
import HandS.DictComp
import HandS.Property
import HandS.WordsDict
import HandS.IterNext
import HandS.Star
import PyProof.ZipIter
import PyProof.Rows.ListAppend
import KE.KDictZip
import HandS.Text
import HandS.More
import PyProof.EqAt
import HandS.TupAny
import PyProof.Rows.Range3
import PySem.Challenge.RW_growingrecords_k06_paths
set_option Elab.async false
set_option linter.all false
set_option maxRecDepth 100000
set_option maxHeartbeats 4000000
/-! A generator's run from one point to the next: what holds of its end; for and yield; the next of a generator. -/
namespace Gn
open PySem PySem.Spec PyProof.Rows L2 GenW
/-- the code c with the term t comes to an end of which Φ holds -/
def Sg (M : Model) (A : Around) (Φ : End → Shared → Prop) (c : Code) (t : Sem PySem.Fin) (fs : List Frame) (s : Shared) : Prop :=
  ∀ Γ p, Γ.code = c → Γ.Woken A → ∃ e s', Runs M Γ p t fs s e s' ∧ Φ e s'
section
variable {M : Model} {A : Around} {Φ : End → Shared → Prop} {c : Code} {fs : List Frame} {s : Shared} {gd : Bool → Bool} {lv : List Value → List Value}
theorem sg_wrap {α : Type} {m : Sem α} {K : α → Sem PySem.Fin} {H : Value → Sem PySem.Fin} (h : wpAny M (A.over c fs) m (fun a s' => Sg M A Φ c (K a) fs s') (fun x s' => Sg M A Φ c (H x) fs s') s) : Sg M A Φ c (m.wrap K H gd lv) fs s := by
  rintro Γ p rfl hΓ
  exact runs_wrap_of_wp K H gd lv m (h (Γ.over fs) p (hΓ.over fs)) (fun a p' s' h' => h' Γ p' rfl hΓ) (fun x p' s' h' => h' Γ p' rfl hΓ)
theorem sg_bind {α : Type} {m : Sem α} {K : α → Sem PySem.Fin} (h : wpAny M (A.over c fs) m (fun a s' => Sg M A Φ c (K a) fs s') (fun x s' => Sg M A Φ c (.raise x) fs s') s) : Sg M A Φ c (m >>= K) fs s := by
  rw [Sem.bind_eq_wrap']
  exact sg_wrap h
theorem sg_bind_wrap {α β : Type} {m : Sem α} {K : α → Sem β} {K' : β → Sem PySem.Fin} {H' : Value → Sem PySem.Fin} (h : wpAny M (A.over c fs) m (fun a s' => Sg M A Φ c ((K a).wrap K' H' gd lv) fs s') (fun x s' => Sg M A Φ c (H' x) fs s') s) :
    Sg M A Φ c ((m >>= K).wrap K' H' gd lv) fs s := by
  rw [Sem.bind_eq_wrap', Sem.wrap_wrap]
  exact sg_wrap h
theorem sg_at {p' : Pos} {k : Unit → Sem PySem.Fin} (h : Sg M A Φ c (k ()) fs s) : Sg M A Φ c (.at p' k) fs s :=
  sg_wrap (m := standAt p') (K := k) (H := .raise) (gd := id) (lv := id) (wpAny_standAt h)
theorem sg_point {l : List Value} {k : Unit → Sem PySem.Fin} (h : Sg M A Φ c (k ()) fs s) : Sg M A Φ c (.point l k) fs s :=
  sg_wrap (m := point) (K := k) (H := .raise) (gd := id) (lv := fun _ => l) (wpAny_point h)
theorem sg_call {c' : Code} {h g l} {k : Result → Sem PySem.Fin} (hc : ∀ p, Sg M A Φ c' (M.den c') (.ret k h g l c p [] :: fs) s) : Sg M A Φ c (.call c' h g l k) fs s := by
  rintro Γ p rfl hΓ
  obtain ⟨e, s', hr, he⟩ := hc p (Γ.goto c') p rfl (hΓ.goto c')
  exact ⟨e, s', runs_call_seg hr, he⟩
theorem sg_leaf {k h g l c₁ p₁ kp} (r : Result) (hk : Sg M A Φ c₁ (k r) fs s) : Sg M A Φ c (leafOf r) (.ret k h g l c₁ p₁ kp :: fs) s := by
  rintro Γ p rfl hΓ
  obtain ⟨e, s', hr, he⟩ := hk (Γ.goto c₁) p₁ rfl (hΓ.goto c₁)
  exact ⟨e, s', Runs.pop r hr, he⟩
theorem sg_again {c' : Code} (hq : c'.quiet = true) (hc : Sg M A Φ c' (M.den c') fs s) : Sg M A Φ c (.pure (.again c')) fs s := by
  rintro Γ p rfl hΓ
  obtain ⟨e, s', hr, he⟩ := hc (Γ.goto c') p rfl (hΓ.goto c')
  exact ⟨e, s', Runs.head (c₁ := c') (fun _ _ x => .again hq x) hr, he⟩
theorem sg_end (r : Result) (h : Φ (.ret r) s) : Sg M A Φ c (leafOf r) [] s := by
  rintro Γ p rfl _
  exact ⟨.ret r, s, Runs.leaf r, h⟩
theorem sg_yield {v g l} {k : Resume → Sem PySem.Fin} (hfs : splitAtGen fs = none) (h : ∀ p, Φ (.susp v g l k c p fs) s) : Sg M A Φ c (.yield v g l k) fs s := by
  rintro Γ p rfl _
  exact ⟨_, s, Runs.yield' fs hfs, h p⟩
variable {env : Env} {K : Flow → Sem PySem.Fin} {J : Value → Sem PySem.Fin}
theorem sg_execs_cons {st : Stmt} {rest : List Stmt} (h : Sg M A Φ c ((exec st env).wrap (fun f => match f with | .next => (execs rest env).wrap K J gd lv | f => K f) J gd lv) fs s) : Sg M A Φ c ((execs (st :: rest) env).wrap K J gd lv) fs s := by
  rw [execs_cons_wrap]
  exact h
end
/-- where the generator's code stands: its around is B -/
structure Gc (B : Around) (A : Around) (c : Code) (fs : List Frame) (gd : Bool → Bool) : Prop where
  over : A.over c fs = B
  split : splitAtGen fs = none
  guard : fs.any Frame.guarded = false
  gd : gd false = false
theorem Gc.loop {B A : Around} {c c' : Code} {fs : List Frame} {gd : Bool → Bool} {k : Result → Sem PySem.Fin} {l kp : List Value} {p : Pos} (g : Gc B A c fs gd) (hw : c'.weight = 0) (hu : c'.cUnits = 0) :
    Gc B A c' (.ret k none (gd false) l c p kp :: fs) id where
  over := (over_loop hw hu).trans g.over
  split := by
    show (splitAtGen fs).map _ = none
    rw [g.split]; rfl
  guard := by
    show (gd false || fs.any Frame.guarded) = false
    rw [g.gd, g.guard]; rfl
  gd := rfl
section
variable {M : Model} {A B : Around} {Φ : End → Shared → Prop} {c : Code} {fs : List Frame} {s : Shared} {gd : Bool → Bool} {lv : List Value → List Value} {env : Env} {K : Flow → Sem PySem.Fin} {J : Value → Sem PySem.Fin}
/-- nothing is raised -/
def NoE : Value → Shared → Prop := fun _ _ => False
theorem sg_wrapN {α : Type} {m : Sem α} {K : α → Sem PySem.Fin} {H : Value → Sem PySem.Fin} (g : Gc B A c fs gd) (h : wpAny M B m (fun a s' => Sg M A Φ c (K a) fs s') NoE s) : Sg M A Φ c (m.wrap K H gd lv) fs s :=
  sg_wrap (by rw [g.over]; exact wpAny_mono h (fun _ _ z => z) fun _ _ z => z.elim)
/-- the generator's state goes on, to an end of which Φ holds -/
def Go (M : Model) (A : Around) (Φ : End → Shared → Prop) (gs : GenState) (s : Shared) : Prop :=
  match gs with
  | .fresh c => Sg M A Φ c (M.den c) [] s
  | .suspended k _ c _ fs _ => Sg M A Φ c (k (.send .none)) fs s
  | _ => False
/-- an end that hands out v; it goes on as cont says -/
structure YEnd (M : Model) (A : Around) (v : Value) (cont : (End → Shared → Prop) → Shared → Prop) (e : End) : Prop where
  res : e.result = .yielded v
  quiet : e.quiet = true
  go : ∀ Φ s, cont Φ s → Go M A Φ e.genState s
/-- yield e, as a statement -/
theorem sg_Yield {e : Expr} {ypos pos : Pos} (g : Gc B A c fs gd) (hco : env.scope.isCoroutine = false) (hi : interactive env = false)
    (h : wpAny M B (eval e env) (fun v s' => ∀ e', YEnd M A v (fun Φ' s'' => Sg M A Φ' c (K .next) fs s'') e' → Φ e' s') NoE s) :
    Sg M A Φ c ((exec (.Expr (.Yield (some e) ypos) pos) env).wrap K J gd lv) fs s := by
  rw [exec_Expr env _ pos hi rfl]
  show Sg M A Φ c (.at pos fun _ => ((eval e env >>= fun v => (standAt ypos >>= fun _ => yieldOut env v)) >>= fun x => dropValue (.Yield (some e) ypos) pos x).wrap K J gd lv) fs s
  have hy : ∀ v, yieldOut env v = yieldValue v := fun v => by simp only [yieldOut, hco, Bool.false_eq_true, if_false]
  simp only [hy]
  refine sg_at ?_
  rw [Sem.bind_eq_wrap', Sem.bind_eq_wrap', Sem.wrap_wrap, Sem.wrap_wrap]
  refine sg_wrapN ⟨g.over, g.split, g.guard, g.gd⟩ (wpAny_mono h (fun v s' h' => ?_) fun _ _ x => x)
  refine sg_at (sg_yield g.split fun p => h' _ ⟨rfl, ?_, fun Φ' s'' hc => ?_⟩)
  · show (!(gd false || fs.any Frame.guarded)) = true
    rw [g.gd, g.guard]
    rfl
  · exact hc
/-- for x in iter: .., as a statement: T what is wanted of its loop -/
theorem sg_For {x : Str} {px : Pos} {iter : Expr} {body : List Stmt} {pos : Pos} (g : Gc B A c fs gd) (hs : ∀ v, foldedSetIterable iter env v = pure v)
    (h : wpAny M B (eval iter env) (fun v s1 => wpAny M B (pyIter v) (fun it s2 => ∀ kk p, (∀ Φ' s', Sg M A Φ' c (K .next) fs s' → Sg M A Φ' c (kk (.ok .next)) fs s') →
      Sg M A Φ (.forLoop (.Name x px) it body [] env) (M.den (.forLoop (.Name x px) it body [] env)) (.ret kk none (gd false) (lv []) c p [] :: fs) s2) NoE s1) NoE s) :
    Sg M A Φ c ((exec (.For (.Name x px) iter body [] pos) env).wrap K J gd lv) fs s := by
  rw [exec_For]
  refine sg_bind_wrap (wpAny_standAt ?_)
  refine sg_bind_wrap ?_
  rw [g.over]
  refine wpAny_mono h (fun v s1 h1 => ?_) fun _ _ z => z.elim
  refine sg_bind_wrap (wpAny_of_eq (hs v) ?_)
  refine sg_bind_wrap (wpAny_standAt ?_)
  refine sg_bind_wrap ?_
  rw [g.over]
  refine wpAny_holding (wpAny_mono h1 (fun it s2 h2 => ?_) fun _ _ z => z.elim)
  exact sg_call fun p => h2 _ p fun Φ' s' z => z
end
section
variable {prog : Program} {w : World} {A B : Around} {Φ : End → Shared → Prop} {c : Code} {fs : List Frame} {s : Shared} {gd : Bool → Bool} {lv : List Value → List Value} {env : Env} {K : Flow → Sem PySem.Fin} {J : Value → Sem PySem.Fin}
/-- one turn of such a loop -/
theorem sg_turn {x : Str} {px : Pos} {it : Value} {body : List Stmt} {kk : Result → Sem PySem.Fin} {g0 : Bool} {l0 kp : List Value} {p : Pos}
    (g : Gc B A (.forLoop (.Name x px) it body [] env) (.ret kk none g0 l0 c p kp :: fs) id)
    (h : wpAny (model prog w) B (pyNext it) (fun r s1 => match r with
      | none => Sg (model prog w) A Φ c (kk (.ok .next)) fs s1
      | some v => wpAny (model prog w) B (letOwnedTupleGo (.Name x px) it v) (fun _ s1' => wpAny (model prog w) B (storeName env x v) (fun _ s2 => ∀ Kb Jb, (∀ Φ' s', Sg (model prog w) A Φ' (.forLoop (.Name x px) it body [] env) ((model prog w).den (.forLoop (.Name x px) it body [] env)) (.ret kk none g0 l0 c p kp :: fs) s' → Sg (model prog w) A Φ' (.forLoop (.Name x px) it body [] env) (Kb .next) (.ret kk none g0 l0 c p kp :: fs) s') →
          Sg (model prog w) A Φ (.forLoop (.Name x px) it body [] env) ((execs body env).wrap Kb Jb id id) (.ret kk none g0 l0 c p kp :: fs) s2) NoE s1') NoE s1) NoE s) :
    Sg (model prog w) A Φ (.forLoop (.Name x px) it body [] env) ((model prog w).den (.forLoop (.Name x px) it body [] env)) (.ret kk none g0 l0 c p kp :: fs) s := by
  show Sg _ A Φ _ ((forTurn (.Name x px) it body [] env).onRaise (fun x => do noteFrame x env; theTreesLotGoes x)) _ s
  unfold forTurn
  rw [Sem.onRaise_eq_wrap]
  refine sg_bind_wrap (wpAny_standAt ?_)
  refine sg_bind_wrap ?_
  rw [g.over]
  refine wpAny_onRaise (wpAny_mono h (fun r s1 h1 => ?_) fun _ _ z => z.elim)
  cases r with
  | none =>
    refine sg_again rfl ?_
    show Sg _ A Φ _ ((execs [] env).onRaise (fun x => do noteFrame x env; theTreesLotGoes x) >>= fun f => (pure (.done f) : Sem PySem.Fin)) _ s1
    exact sg_leaf (.ok .next) h1
  | some v =>
    refine sg_bind_wrap ?_
    rw [g.over]
    refine wpAny_mono h1 (fun _ s1' h1' => ?_) fun _ _ z => z.elim
    refine sg_bind_wrap ?_
    rw [g.over]
    refine wpAny_assign_Name (wpAny_mono h1' (fun _ s2 h2 => ?_) fun _ _ z => z.elim)
    rw [Sem.bind_eq_wrap', Sem.wrap_wrap]
    exact h2 _ _ fun Φ' s' z => sg_again rfl z
end
section
variable {M : Model} {A B : Around} {Φ : End → Shared → Prop} {c : Code} {fs : List Frame} {s : Shared} {gd : Bool → Bool} {lv : List Value → List Value} {env : Env} {K : Flow → Sem PySem.Fin} {J : Value → Sem PySem.Fin}
/-- if -/
theorem sg_If {t : Expr} {a b : List Stmt} {pos : Pos} (g : Gc B A c fs gd)
    (h : wpAny M B (isTrue t env (eval t env)) (fun d s' => if d = true then Sg M A Φ c ((execs a env).wrap K J gd lv) fs s' else Sg M A Φ c ((execs b env).wrap K J gd lv) fs s') NoE s) :
    Sg M A Φ c ((exec (.If t a b pos) env).wrap K J gd lv) fs s := by
  show Sg M A Φ c (((standAt pos >>= fun _ => isTrue t env (eval t env) >>= fun d => if d then execs a env else execs b env) : Sem Flow).wrap K J gd lv) fs s
  refine sg_bind_wrap (wpAny_standAt ?_)
  refine sg_bind_wrap ?_
  rw [g.over]
  refine wpAny_mono h (fun d s' h' => ?_) fun _ _ z => z.elim
  cases d with
  | true => simpa using h'
  | false => simpa using h'
/-- a generator's body -/
theorem sg_func {prog : Program} {w : World} {body : List Stmt} (h : ∀ Kb Jb, (∀ (Φ' : End → Shared → Prop) s', Φ' (.ret (.ok (.ret .none))) s' → Sg (model prog w) A Φ' (.func body env) (Kb .next) [] s') → Sg (model prog w) A Φ (.func body env) ((execs body env).wrap Kb Jb id id) [] s) :
    Sg (model prog w) A Φ (.func body env) ((model prog w).den (.func body env)) [] s := by
  show Sg _ A Φ _ (.point [] fun _ => ((execs body env).onRaise (leaving env)) >>= _) [] s
  refine sg_point ?_
  rw [Sem.onRaise_eq_wrap, Sem.bind_eq_wrap', Sem.wrap_wrap]
  exact h _ _ fun Φ' s' z => sg_end (.ok (.ret .none)) z
/-- a generator is woken -/
theorem resume_go {E : Value → Shared → Prop} {g : Nat} {gs : GenState} {l : List Value} {α : Type} {k : GenResult → Sem α} {Q : α → Shared → Prop} (hg : s.gens[g]? = some gs) (hgo : Go M A Φ gs (s.setGen g .running))
    (hq : ∀ e s₁, Φ e s₁ → e.quiet = true ∧ wpAny M A (k e.result) Q E (s₁.setGen g e.genState)) : wpAny M A (.resume g (.send .none) l k) Q E s := by
  intro Γ p hΓ
  rw [Sem.wp_resume]
  have hB : ∀ c, (Γ.wake c p).Woken A := fun c => hΓ.wake c p
  cases gs with
  | fresh c =>
    obtain ⟨e₁, s₁, hr, he⟩ := hgo (Γ.wake c p) p rfl (hB c)
    obtain ⟨q1, q2⟩ := hq e₁ s₁ he
    exact ⟨_, _, by unfold Wakes; rw [hg]; exact ⟨e₁, s₁, hr, q1, rfl, rfl⟩, q2 Γ p hΓ⟩
  | suspended k₀ l₀ c₀ p₀ fs₀ cl =>
    obtain ⟨e₁, s₁, hr, he⟩ := hgo (Γ.wake c₀ p) p₀ rfl (hB c₀)
    obtain ⟨q1, q2⟩ := hq e₁ s₁ he
    exact ⟨_, _, by unfold Wakes; rw [hg]; exact ⟨e₁, s₁, hr, q1, rfl, rfl⟩, q2 Γ p hΓ⟩
  | running => exact hgo.elim
  | finished => exact hgo.elim
end
section
variable {P : Program} {w : World} {A : Around} {E : Value → Shared → Prop} {s : Shared}
/-- the end of a run that raised nothing -/
theorem next_go {a : Addr} {g : Nat} {gs : GenState} {Φ : End → Shared → Prop} {Q : Option Value → Shared → Prop} (hh : A.handled = none) (hl : s.heap.NoLimit) (hroom : A.depth < recursionLimit) (hg : s.heap.IsGen a g) (hgs : s.gens[g]? = some gs)
    (hgo : Go (model P w) A.in1 Φ gs (s.setGen g .running))
    (hq : ∀ e s₁, Φ e s₁ → (∃ v, e.result = .yielded v ∧ e.quiet = true ∧ Q (some v) (s₁.setGen g e.genState)) ∨
      (e.result = .returned .none ∧ e.quiet = true ∧ ∀ h' : Heap, (∀ b o, s₁.heap.get? b = some o → h'.get? b = some o) → Q none { s₁.setGen g e.genState with heap := h' })) :
    wpAny (model P w) A (pyNext (.ref a)) Q E s := by
  unfold pyNext
  refine wpAny_bind (wpAny_attempt (wpAny_callSpecial?_slot (name := Str.ofString "__next__") hg.typeIs slot_gen_next
    (wpAny_call_entry slot_gen_next hg.typeIs entry_gen_next ?_ (args_gen_next _))))
  show wpAny _ A.in1 (Builtin.Generator.genWake (.ref a) (.send .none)) _ _ s
  unfold Builtin.Generator.genWake
  refine wpAny_bind (wpAny_holding (wpAny_genNumber hg (wpAny_bind (wpAny_genState hgs ?_))))
  cases gs with
  | running => exact hgo.elim
  | finished => exact hgo.elim
  | _ =>
    refine wpAny_bind (wpAny_roomToWake hl hroom ?_)
    show wpAny _ A.in1 (.resume g (.send .none) [] _) _ _ s
    refine resume_go hgs hgo fun e s₁ he => ?_
    rcases hq e s₁ he with ⟨v, hr, hqt, hQ⟩ | ⟨hr, hqt, hQ⟩
    · refine ⟨hqt, ?_⟩
      rw [hr]
      exact wpAny_pure ⟨v, rfl, wpAny_pure hQ⟩
    · refine ⟨hqt, ?_⟩
      rw [hr]
      show wpAny _ A.in1 (newExc (.type "StopIteration") [] >>= _) _ _ _
      refine wpAny_bind ?_
      simp only [newExc, newTuple]
      refine wpAny_bind (wpAny_newObj_type ?_ (by size_fits))
      refine wpAny_bind (m := firstArgMember _ _) (wpAny_of_eq (a := Value.none) (by first | rfl | (simp only [firstArgMember]; rfl)) ?_)
      refine wpAny_newObj_type ?_ (by size_fits)
      simp only [raiseNew]
      refine wpAny_bind (wpAny_bind (wpAny_handled ?_))
      first | rw [show A.in1.handled = none from hh] | rw [hh]
      refine wpAny_throw ?_
      refine wpAny_bind (wpAny_isInstance (T := "StopIteration") (b := true) ⟨_, Heap.get?_push_size _ rfl, rfl⟩ isSubtype_stop ?_)
      exact wpAny_pure (hQ _ fun b o hb => Heap.get?_push_of_some _ (Heap.get?_push_of_some _ hb))
end
end Gn
/-! A generator's context, made anew whenever it is woken; what a stretch of its run keeps. -/
namespace Gn
open PySem PySem.Spec PyProof.Rows L2 GenW
/-- the objects older than n -/
def cutAt (n : Nat) (h : Heap) : Heap := ⟨h.objs.extract 0 n, h.life⟩
theorem cutAt_get {n : Nat} {h : Heap} {b : Addr} (hb : b < n) : (cutAt n h).get? b = h.get? b := by
  have hb2 : @LT.lt Nat _ b n := hb
  have e : (h.objs.extract 0 n)[b]? = h.objs[b]? := by
    rw [Array.getElem?_extract]
    split
    · rw [Nat.zero_add]
    · rename_i hh
      have h2 : h.objs.size ≤ b := by omega
      exact (Array.getElem?_eq_none h2).symm
  unfold cutAt Heap.get?
  rw [e]
theorem cutAt_size {n : Nat} {h : Heap} : (cutAt n h).objs.size ≤ n := by
  show (h.objs.extract 0 n).size ≤ n
  rw [Array.size_extract]
  omega
theorem cutAt_lt {n : Nat} {h : Heap} {b : Addr} {o : Obj} (e : (cutAt n h).get? b = some o) : b < n ∧ h.get? b = some o := by
  have z := Heap.lt_size e
  have z2 : b < n := Nat.lt_of_lt_of_le z cutAt_size
  exact ⟨z2, (cutAt_get z2).symm.trans e⟩
/-- a plain frame: no cells -/
structure Plain (env : Env) : Prop where
  kind : env.scope.kind = .function
  glob : env.globals = mainGlobals
  blt : env.builtins = builtinsNs
  cells : env.cells = []
  loc : ∀ x, env.kindOf x ≠ some .cell ∧ env.kindOf x ≠ some .free
  frame : env.frame = some env.locals
/-- the context of a stretch: woken at s with H -/
abbrev pcx (P : Program) (w : World) (K : PySem.W.Frag) (mg : Str → Option Value) (base : Heap) (N : List Str) (env : Env) (A : Around) (outer : List Env) (s : Shared) (H : Hp) : Cx :=
  { prog := P, w := w, K := K, mg := mg, base := base, A := A.deeper env, N := N, s_0 := { s with heap := cutAt env.locals s.heap }, H_0 := H, env := env, outer := outer, stack := env :: outer, ex := [], fn := fun _ => false, calm := true, pn := [], xe := NoE }
/-- the frame's own object tells its locals -/
def FrOk (N : List Str) (env : Env) (fo : Obj) (σ : L2.St) : Prop := ∀ h : Heap, h.get? env.locals = some fo → ∃ m, h.Ns env.locals m ∧ ∀ (i : Nat) (x : Str) (v : V), N[i]? = some x → σ[i]? = some (some v) → Vis env.scope x → ∃ u, RelV v u ∧ Look env h m x u
/-- woken: ow are the generator's own objects, pk what its consumer wants kept -/
structure Wake (P : Program) (w : World) (K : PySem.W.Frag) (mg : Str → Option Value) (base : Heap) (A : Around) (outer : List Env) (Hc : Hp) (g : Nat) (og : List (Nat × GenState)) (ow pk : List (Addr × Obj)) (s : Shared) (H : Hp) : Prop where
  num : g < s.gens.size
  gens : ∀ q ∈ og, s.gens[q.1]? = some q.2
  e0 : Env0 P w K mg base A outer s H
  ext : Same Hc H
  own : ∀ q ∈ ow, s.heap.get? q.1 = some q.2 ∧ H q.1 = none
  pin : ∀ q ∈ pk, s.heap.get? q.1 = some q.2 ∧ H q.1 = none ∧ q.1 ∉ frs outer ∧ (∀ v, q.2.data ≠ .cell v) ∧ ∀ q' ∈ ow, q.1 ≠ q'.1
/-- what a stretch from s to s1 keeps; lo: the generator's frame -/
structure Ctr (P : Program) (w : World) (outer : List Env) (lo : Addr) (s : Shared) (H H1 : Hp) (pk : List (Addr × Obj)) (s1 : Shared) : Prop where
  os : s1.os = s.os
  bare : AllBare s1.gens
  old : ∀ b o, b < lo → s.heap.get? b = some o → H b = none → b ∉ frs outer → s1.heap.get? b = some o
  slot : ∀ b o, b < lo → s.heap.get? b = some o → H b = none → b ∈ frs outer → ∃ sl, s1.heap.get? b = some { o with slots := sl }
  free : ∀ b o, b < lo → s.heap.get? b = some o → H b = none → H1 b = none
  pin : ∀ q ∈ pk, s1.heap.get? q.1 = some q.2 ∧ H1 q.1 = none
  hok : HOk P w H1 s1.heap
  same : Same H H1
theorem objOk_there {P : Program} {w : World} {H : Hp} {h : Heap} {a : Addr} : ∀ {o : HO}, ObjOk P w H h a o → ∃ u, h.get? a = some u
  | .lst _, ⟨_, _, _, _, e⟩ => ⟨_, e⟩
  | .tup _, ⟨_, _, _, o, e, _⟩ => ⟨o, e⟩
  | .dK _, ⟨_, _, _, _, o, _, _, e, _⟩ => ⟨o, e⟩
  | .dT _, ⟨_, _, _, _, o, _, _, e, _⟩ => ⟨o, e⟩
  | .set _ _, ⟨o, _, _, _, e, _⟩ => ⟨o, e⟩
  | .ins _ _ _, ⟨_, _, _, e, _⟩ => ⟨_, e⟩
  | .own _, h => h
  | .xd _, ⟨_, ⟨o, _, _, e, _⟩, _⟩ => ⟨o, e⟩
  | .rng _ _, ⟨_, _, _, e⟩ => ⟨_, e⟩
  | .frz _ _, ⟨e, _⟩ => ⟨_, e⟩
  | .tbl _, e => ⟨_, e⟩
  | .met _ _, e => ⟨_, e⟩
  | .ext _, ⟨_, e, _⟩ => e
section
variable {P : Program} {w : World} {K : PySem.W.Frag} {mg : Str → Option Value} {base : Heap} {A : Around} {outer : List Env} {N : List Str} {env : Env} {Hc : Hp} {g : Nat} {og : List (Nat × GenState)} {ow pk : List (Addr × Obj)} {s : Shared} {H : Hp}
theorem funFrames_cut {n : Nat} {h base : Heap} : ∀ {l : List Env}, (∀ b ∈ frs l, b < n) → h.FunFrames base l → (cutAt n h).FunFrames base l
  | [], _, _ => trivial
  | env :: rest, hb, hl => by
    obtain ⟨hk, ⟨L, o, hf, hn, ho, hd⟩, hr⟩ := hl
    have hL : L < n := hb L (by
      unfold frs
      rw [List.filterMap_cons, hf]
      exact List.mem_cons_self)
    refine ⟨hk, ⟨L, o, hf, hn, (cutAt_get hL).trans ho, hd⟩, funFrames_cut (fun b z => hb b ?_) hr⟩
    unfold frs at z ⊢
    rw [List.filterMap_cons, hf]
    exact List.mem_cons_of_mem _ z
/-- the context at a waking -/
theorem inv_wake {fo : Obj} {own : List (Addr × Obj)} {σ : L2.St} (pl : Plain env) (hh : A.handled = none) (W : Wake P w K mg base A outer Hc g og ow pk s H) (hfo : (env.locals, fo) ∈ ow) (fr : FrOk N env fo σ) (hb : base.objs.size ≤ env.locals) (ho : ∀ b ∈ frs outer, b < env.locals)
    (hl : σ.length = N.length) (hown : ∀ q ∈ own, q ∈ ow ∧ q.1 ≠ env.locals ∧ q.1 ∉ frs outer ∧ ∀ v, q.2.data ≠ .cell v) : Inv (pcx P w K mg base N env A outer s H) (pk ++ own) σ H s := by
  obtain ⟨_, _, e0, ext, wo, wp⟩ := W
  obtain ⟨hL, hL0⟩ := wo _ hfo
  have nol : ∀ x c, env.cells.lookup x = some c → False := fun x c z => by
    rw [pl.cells] at z
    cases z
  refine ⟨⟨e0.mod, pl.kind, pl.glob, pl.blt, cutAt_size, fun x y c h1 _ => (nol x c h1).elim, fun x hx => ?_, fun x c z _ => Bool.noConfusion z, fun _ => hh, Around.frames_deeper e0.frames, .inr ⟨rfl, pl.frame⟩, fun b z => (by cases z), fun b o e => ⟨?_, (e0.bs b o e).2⟩, ?_, fun b _ _ z => (by cases z), fun b z => (by cases z), ?_, e0.frf⟩,
    rfl, e0.bare, ⟨fun b o e n hf _ => (cutAt_lt e).2, fun b o e n hf _ => ⟨o.slots, (cutAt_lt e).2⟩, fun b o e n _ => n, fun b o e _ => ⟨o, (cutAt_lt e).2⟩, fun _ _ z => z, fun _ _ _ z => z, fun b ps z => ⟨#[], by simpa using z⟩⟩, fr _ hL, fun x c z => (nol x c z).elim, hL0, fun x c z => (nol x c z).elim, fun q hq => ?_, e0.hok, hl⟩
  · rcases hx with z | z
    · exact absurd z (pl.loc x).1
    · exact absurd z (pl.loc x).2
  · show (cutAt env.locals s.heap).get? b = some o
    rw [cutAt_get (Nat.lt_of_lt_of_le (Heap.lt_size e) hb)]
    exact (e0.bs b o e).1
  · show base.objs.size ≤ (s.heap.objs.extract 0 env.locals).size
    have h1 := e0.bsz
    rw [Array.size_extract]
    have h2 : @LE.le Nat _ base.objs.size env.locals := hb
    omega
  · exact funFrames_cut ho e0.funs
  · have hq : q ∈ pk ++ own := hq
    rcases List.mem_append.mp hq with z | z
    · obtain ⟨h1, h2, h3, h4, h5⟩ := wp q z
      exact ⟨h1, h2, h5 _ hfo, h3, h4⟩
    · obtain ⟨h1, h2, h3, h4⟩ := hown q z
      obtain ⟨g1, g2⟩ := wo q h1
      exact ⟨g1, g2, h2, h3, h4⟩
/-- what a stretch kept, from the context's own invariant -/
theorem ctr_of {own : List (Addr × Obj)} {σ : L2.St} {H1 : Hp} {s1 : Shared} (I : Inv (pcx P w K mg base N env A outer s H) (pk ++ own) σ H1 s1) (sm : Same H H1) : Ctr P w outer env.locals s H H1 pk s1 where
  os := I.os
  bare := I.bare
  old := fun b o hb e n hf => I.base.keep b o ((cutAt_get hb).trans e) n hf (fun z => nomatch z)
  slot := fun b o hb e n hf => I.base.slot b o ((cutAt_get hb).trans e) n hf (fun z => nomatch z)
  free := fun b o hb e n => I.base.free b o ((cutAt_get hb).trans e) n (fun z => nomatch z)
  pin := fun q hq => by
    obtain ⟨h1, h2, _⟩ := I.pin q (List.mem_append_right _ (List.mem_append_left _ hq))
    exact ⟨h1, h2⟩
  hok := I.hok
  same := sm
/-- a consumer's invariant behind a stretch -/
theorem inv_ctr {X : Cx} {pins : List (Addr × Obj)} {σ : L2.St} {lo : Addr} {H1 : Hp} {s1 : Shared} (I : Inv X pins σ H s) (hs : X.s_0.heap.objs.size ≤ lo) (hL : X.env.locals < lo) (hc : ∀ x c, X.env.cells.lookup x = some c → c < lo) (hex : ∀ b ∈ X.ex, b < lo)
    (ct : Ctr X.prog X.w X.stack lo s H H1 pk s1) (hp : ∀ p ∈ X.pn ++ pins, p ∈ pk ∨ p.1 < lo) : Inv X pins σ H1 s1 := by
  obtain ⟨c1, c2, c3, c4, c5, c6, c7, c8⟩ := ct
  obtain ⟨h1, g1, d1, t1, o1⟩ := s1
  have c1 : o1 = s.os := c1
  subst c1
  have stk : ∀ b, b ∉ X.fs → b ≠ X.env.locals → b ∉ frs X.stack := fun b h1 h2 hm => (List.mem_cons.mp (I.stkSub b hm)).elim h2 h1
  have young : ∀ {b : Addr} {o : Obj}, s.heap.get? b = some o → H b = none → ¬ b < lo → (∀ p ∈ X.pn ++ pins, p.1 ≠ b) → b ∈ (List.range s.heap.objs.size).filter fun b => decide (lo ≤ b) && ((H b).isNone && !((X.pn ++ pins).map (·.1)).contains b) := fun {b o} e n hb hp => by
    refine List.mem_filter.mpr ⟨List.mem_range.mpr (Heap.lt_size e), ?_⟩
    rw [decide_eq_true (Nat.le_of_not_lt hb), n]
    simp only [Option.isNone_none, Bool.true_and, Bool.not_eq_true', List.contains_eq_any_beq, List.any_eq_false, List.mem_map]
    rintro x ⟨p, hpm, rfl⟩ hx
    exact hp p hpm (beq_iff_eq.mp hx).symm
  generalize hch : (List.range s.heap.objs.size).filter (fun b => decide (lo ≤ b) && ((H b).isNone && !((X.pn ++ pins).map (·.1)).contains b)) = ch at young
  have inch : ∀ b ∈ ch, lo ≤ b ∧ H b = none ∧ ∀ p ∈ X.pn ++ pins, p.1 ≠ b := fun b hb => by
    rw [← hch] at hb
    obtain ⟨_, z⟩ := List.mem_filter.mp hb
    simp only [Bool.and_eq_true, decide_eq_true_eq, Option.isNone_iff_eq_none, Bool.not_eq_true', List.contains_eq_any_beq, List.any_eq_false, List.mem_map] at z
    refine ⟨z.1, z.2.1, fun p hp e => ?_⟩
    exact z.2.2 p.1 ⟨p, hp, rfl⟩ (beq_iff_eq.mpr e.symm)
  -- an untracked object that is not among these is old or pinned
  have one : ∀ {b : Addr} {o : Obj}, s.heap.get? b = some o → H b = none → b ∉ ch → b < lo ∨ ∃ p ∈ pk, p = (b, o) := fun {b o} e n hb => by
    by_cases hlt : b < lo
    · exact .inl hlt
    · by_cases hpin : ∃ p ∈ X.pn ++ pins, p.1 = b
      · obtain ⟨p, hpm, rfl⟩ := hpin
        rcases hp p hpm with z | z
        · refine .inr ⟨p, z, ?_⟩
          have e2 := (I.pin p hpm).1
          rw [e] at e2
          cases e2
          rfl
        · exact absurd z hlt
      · exact absurd (young e n hlt fun p hpm ep => hpin ⟨p, hpm, ep⟩) hb
  obtain ⟨m, ⟨ol, es, ep, hol, rl⟩, hlook⟩ := id I.loc
  refine I.step (g' := g1) (d' := d1) (t' := t1) (ch := ch) (fun b hb => ?_) (fun b o nL nf hb e n => ?_) (fun b o nL hf hb e n => ?_) (fun b o hb e n => ?_) (fun b o hb e => ?_) (fun b xs e => c8 _ _ e) (fun b o u e => c8 _ _ e) (fun b ps e => ⟨#[], by rw [c8 _ _ e]; simp⟩) (fun m' hm => ?_) c7 c2
  · obtain ⟨z1, z2, z3⟩ := inch b hb
    refine ⟨.inr (Nat.le_trans hs z1), fun e => ?_, fun x c hx e => ?_, z3⟩
    · rw [e] at z1
      exact absurd hL (Nat.not_lt_of_le z1)
    · have := hc x c hx
      rw [e] at this
      exact absurd this (Nat.not_lt_of_le z1)
  · rcases one e n hb with z | ⟨p, hpm, rfl⟩
    · exact c3 b o z e n (stk b nf nL)
    · exact (c6 _ hpm).1
  · rcases one e n hb with z | ⟨p, hpm, rfl⟩
    · by_cases hm : b ∈ frs X.stack
      · exact c4 b o z e n hm
      · exact ⟨o.slots, c3 b o z e n hm⟩
    · exact ⟨o.slots, (c6 _ hpm).1⟩
  · rcases one e n hb with z | ⟨p, hpm, rfl⟩
    · exact c5 b o z e n
    · exact (c6 _ hpm).2
  · cases hH : H b with
    | some u => exact objOk_there (c7 b u (c8 _ _ hH))
    | none =>
      rcases one e hH hb with z | ⟨p, hpm, rfl⟩
      · by_cases hm : b ∈ frs X.stack
        · obtain ⟨sl, z2⟩ := c4 b o z e hH hm
          exact ⟨_, z2⟩
        · exact ⟨o, c3 b o z e hH hm⟩
      · exact ⟨_, (c6 _ hpm).1⟩
  · obtain ⟨o', es', ep', ho', r'⟩ := hm
    rw [hol] at ho'
    cases ho'
    by_cases hm : X.env.locals ∈ frs X.stack
    · obtain ⟨sl, z⟩ := c4 _ _ hL hol I.free hm
      exact ⟨_, es', ep', z, r'⟩
    · exact ⟨_, es', ep', c3 _ _ hL hol I.free hm, r'⟩
end
end Gn
/-! An own class's in, [..], len, for, == and static methods, as rules over the layer. -/
namespace GrOwn
open PySem PySem.Spec PyProof.Rows L2
section
variable {X : Cx} {CX : CXT} {k : Nat} {C f : Addr} {fd : FuncData} {ps : List Str} {sp : Sp} {E : XK}
/-- a def runs in any room that bears the same frames -/
theorem run_at {A : Around} {pins : List (Addr × Obj)} {σ : L2.St} {H : Hp} {s : Shared} {Q : VK} {us : List Value} {vs : List V} (F : FnOk X.prog X.w X.K X.mg X.base CX k f fd ps sp)
    (hr : Room k A) (e0 : Env0 X.prog X.w X.K X.mg X.base A X.stack s H) (hb : Binds X.K fd ps []) (hx : Passes CX X E) (I : Inv X pins σ H s) (r : Vals vs us) (h : sp vs H Q E) :
    wpAny (model X.prog X.w) A (call (.ref f) us) (EP X pins σ Q) X.xe s := by
  have hl : (us ++ []).length = ps.length := by
    rw [List.append_nil, ← r.length]
    exact F.len _ _ _ _ h
  have b := hb s us I.kIn hl
  rw [List.append_nil] at b
  refine wpAny_call (codeAny_mono (F.run A X.stack s H ⟨us, []⟩ us vs Q E hr e0 b r h) fun r s' hq => ?_)
  match r, hq with
  | .error e, hq => exact hx pins σ H s e s' I hq
  | .ok (.ret u), hq => exact I.after hq
/-- what the class says of one of its special defs -/
structure Sm (K : PySem.W.Frag) (C : Addr) (n : Str) (f : Addr) : Prop where
  at_ : PySem.W.findIn K (.ref C) n = some (some (.ref f))
  fn : PySem.W.isFn K (.ref f) = true
theorem inst {pins : List (Addr × Obj)} {σ : L2.St} {H : Hp} {s : Shared} {a dx : Addr} {fs : List (Str × V)} (I : Inv X pins σ H s) (e : H a = some (.ins C dx fs)) : ∃ od, PySem.W.InstAt s.heap a (PySem.W.instObj C dx) C (some od) := by
  obtain ⟨mA, J, _⟩ := ins_get I.hok e
  obtain ⟨od, J, _⟩ := J.look
  exact ⟨od, J⟩
/-- x in r -/
def rInO (neg : Bool) (C : Addr) (sp : Sp) (E : XK) : R2 := fun x y H Q => ∃ a dx fs, y = .ref a ∧ H a = some (.ins C dx fs) ∧ sp [.ref a, x] H (fun v H' => ∃ b, v = .bl b ∧ Q (.bl (if neg then !b else b)) H') E
theorem op_inO (m : Sm X.K C "__contains__" f) (F : FnOk X.prog X.w X.K X.mg X.base CX k f fd ps sp) (hr : Room k X.A) (hb : Binds X.K fd ps []) (hx : Passes CX X E) : OpR X (compareOp .In) (rInO false C sp E) := by
  intro pins s σ H x y v u Q I rx ry h
  obtain ⟨a, dx, fs, rfl, ea, q⟩ := h
  cases ry
  obtain ⟨od, J⟩ := inst I ea
  obtain ⟨m0, hF⟩ := I.fr
  refine PySem.W.in_K hF I.ok.mod.kin J m.at_ m.fn (thn (run_at (vs := [V.ref a, x]) F hr I.env0 hb hx I (.cons rfl (.cons rx .nil)) q) fun r s' hq => ?_)
  obtain ⟨z, H', I', rz, b, rfl, qq⟩ := hq
  cases rz
  exact wpAny_truthy_bool ⟨.bl b, H', I', rfl, qq⟩
theorem op_notInO (m : Sm X.K C "__contains__" f) (F : FnOk X.prog X.w X.K X.mg X.base CX k f fd ps sp) (hr : Room k X.A) (hb : Binds X.K fd ps []) (hx : Passes CX X E) : OpR X (compareOp .NotIn) (rInO true C sp E) := by
  intro pins s σ H x y v u Q I rx ry h
  obtain ⟨a, dx, fs, rfl, ea, q⟩ := h
  cases ry
  obtain ⟨od, J⟩ := inst I ea
  obtain ⟨m0, hF⟩ := I.fr
  refine PySem.W.notIn_K hF I.ok.mod.kin J m.at_ m.fn (thn (run_at (vs := [V.ref a, x]) F hr I.env0 hb hx I (.cons rfl (.cons rx .nil)) q) fun r s' hq => ?_)
  obtain ⟨z, H', I', rz, b, rfl, qq⟩ := hq
  cases rz
  exact wpAny_truthy_bool ⟨.bl (!b), H', I', rfl, qq⟩
/-- r[x] -/
def tIxO (C : Addr) (sp : Sp) (E : XK) (ta tb : TE) : TE := fun σ H Q => ta σ H fun x H1 => tb σ H1 fun y H2 => ∃ a dx fs, x = .ref a ∧ H2 a = some (.ins C dx fs) ∧ sp [.ref a, y] H2 Q E
theorem pe_ixO {a b : Expr} {ta tb : TE} {pos : Pos} (m : Sm X.K C "__getitem__" f) (hfn : PySem.W.fnIn X.K f = true) (F : FnOk X.prog X.w X.K X.mg X.base CX k f fd ps sp) (hr : Room (k + 1) X.A) (hb : Binds X.K fd ps []) (hx : Passes CX X E)
    (ha : PE X a ta) (hb' : PE X b tb) (hsl : ∀ (q : Addr) (i : Value), subscripted b true (.ref q) i = runValue (.builtin "lifetime.subscript" ⟨[.ref q, i], []⟩) := by intro _ _; with_unfolding_all rfl) :
    PE X (.Subscript a b pos) (tIxO C sp E ta tb) := by
  refine ⟨fun pins s σ H Q I h => Subscript_ (binT ha hb' I h fun v u s2 x y H2 I2 rx ry q => ?_)⟩
  obtain ⟨p, dx, fs, rfl, ea, q⟩ := q
  cases rx
  obtain ⟨od, J⟩ := inst I2 ea
  obtain ⟨m0, hF⟩ := I2.fr
  exact PySem.W.sub_K hF I2.ok.mod.kin J m.at_ hfn m.fn (run_at (vs := [V.ref p, y]) F hr.in1 I2.env0.in1 hb hx I2 (.cons rfl (.cons ry .nil)) q) (hsl _ _)
/-- len(r) -/
def rLenO (C : Addr) (sp : Sp) (E : XK) : List V → Hp → VK → Prop := fun xs H Q => ∃ a dx fs, xs = [.ref a] ∧ H a = some (.ins C dx fs) ∧ sp [.ref a] H (fun v H' => ∃ n : Int, v = .int n ∧ 0 ≤ n ∧ n < 2 ^ 63 ∧ Q (.int n) H') E
theorem call_lenO (m : Sm X.K C "__len__" f) (F : FnOk X.prog X.w X.K X.mg X.base CX k f fd ps sp) (hr : Room (k + 1) X.A) (hb : Binds X.K fd ps []) (hx : Passes CX X E) : CallR X (.builtin "len") (rLenO C sp E) := by
  intro pins s σ H xs us Q I r h
  obtain ⟨a, dx, fs, rfl, ea, q⟩ := h
  obtain ⟨u, rfl, ru⟩ := vals1 r
  cases ru
  obtain ⟨od, J⟩ := inst I ea
  obtain ⟨m0, hF⟩ := I.fr
  refine PySem.W.len_K hF I.ok.mod.kin J m.at_ m.fn (thn (run_at (vs := [V.ref a]) F hr.in1 I.env0.in1 hb hx I (.cons rfl .nil) q) fun r s' hq => ?_)
  obtain ⟨z, H', I', rz, n, rfl, n0, n1, qq⟩ := hq
  obtain ⟨t, rfl⟩ := rz
  exact ⟨⟨n0, n1⟩, .int n, H', I'.tok _, ⟨_, rfl⟩, qq⟩
end

/-! ### for x in r, where __iter__ hands back a tuple's iterator -/
/-- at it: an iterator over the tuple at t, not yet begun -/
def TiO (t it : Addr) : HO := .ext fun h => h.IsTupleIter it t 0
theorem tiO_ok {P : Program} {w : World} {H : Hp} {h : Heap} {t it : Addr} (e : h.IsTupleIter it t 0) : ObjOk P w H h it (TiO t it) := by
  obtain ⟨o, ho, z⟩ := id e
  exact ⟨e, ⟨o, ho⟩, fun h1 h2 q k => q.at fun o e => k o e⟩
/-- a promise that may speak of the heap's size at the call -/
structure FnS (P : Program) (w : World) (K : PySem.W.Frag) (mg : Str → Option Value) (base : Heap) (CX : CXT) (k : Nat) (f : Addr) (fd : FuncData) (ps : List Str) (sp : Nat → Sp) : Prop where
  len : ∀ n vs H Q E, sp n vs H Q E → vs.length = ps.length
  run : ∀ (A : Around) (outer : List Env) (s : Shared) (H : Hp) (args : Args) (us : List Value) (vs : List V) (Q : VK) (E : XK), Room k A → Env0 P w K mg base A outer s H → BindsTo s fd args (ps.zip us) → Vals vs us → sp s.heap.objs.size vs H Q E →
    codeAny (model P w) A (.call (.ref f) args) (CR CX outer P w H s Q E) s
theorem Fun.okS {P : Program} {w : World} {K : PySem.W.Frag} {mg : Str → Option Value} {base : Heap} {CX : CXT} {x qual : Str} {st : Stmt} {f : Addr} {fd : FuncData} {N ps : List Str} {k : Nat} {sp : Nat → Sp} (F : L2.Fun K x qual st f fd) (S : FnScope N ps (defScope st))
    (len : ∀ n vs H Q E, sp n vs H Q E → vs.length = ps.length)
    (body : ∀ (cdv : Value) (A : Around) (outer : List Env) (s : Shared) (H : Hp) (vs : List V) (Q : VK) (E : XK), Room k (A.deeper (envOfC qual (defScope st) s.heap.objs.size f cdv)) → sp s.heap.objs.size vs H Q E →
      ∃ t, PSs (cxOf CX P w K mg base N qual (defScope st) f cdv A outer s H E) (defBody st) t ∧ t { nx := fun _ H' => Q .non H', rt := Q } (start N vs) H) : FnS P w K mg base CX (k + 1) f fd ps sp := by
  obtain ⟨oc, od, kV, doc, pm, an, cdv, ct, osl, rfl, lk, hcd⟩ := F.ex
  refine ⟨len, fun A outer s H args us vs Q E hr e0 hb r q => ?_⟩
  -- for this one heap the promise is a plain one
  have G : ∀ n : Nat, n = s.heap.objs.size → codeAny (model P w) A (.call (.ref f) args) (CR CX outer P w H s Q E) s := fun n hn => by
    have hl := len _ _ _ _ _ q
    have kb : ∀ b o, base.get? b = some o → s.heap.get? b = some o := fun b o e => (e0.bs b o e).1
    have KX : K.In s.heap := e0.mod.kin.keeps kb
    have lim : s.heap.NoLimit := e0.mod.nolimit.keeps kb
    have hkind : ∀ y ∈ ps.zip us, (defScope st).names.lookup y.1 = some .local ∨ ((defScope st).names.lookup y.1 = some .cell ∧ ((cellsFrom (s.heap.objs.size + 1) (defScope st).names []).lookup y.1).isSome = true) := by
      rintro ⟨n, v⟩ hy
      rcases S.par n (List.of_mem_zip hy).1 with q | q
      · exact .inl q
      · exact .inr ⟨q, PySem.W.cellsFrom_some _ _ _ (.inl q)⟩
    refine codeAny_call_function hr.depth (KX _ _ lk) rfl S.co S.gen rfl (PySem.W.codeRec_of KX hcd) (hb _ _ _ _ ?_)
    refine wpAny_newFunctionEnv_cells S.kind hkind fun env he s1 x => ?_
    subst he
    refine ⟨lim.keeps x.toInCall.keep, codeAny_func ?_⟩
    obtain ⟨t, ht, hq⟩ := body cdv A outer s H vs Q E (hr.deeper _) q
    have I := inv_start (CX := CX) (w := w) (mg := mg) (E := E) S hr.hd e0 hl r x
    refine wpAny_mono (ht.run [] s1 (start N vs) H _ I hq) (fun fl s' hs => ?_) fun e s' hs => hs
    match fl, hs with
    | .ret u, ⟨v, σ', H', J, rv, q⟩ => exact ⟨v, H', J.os, J.bare, J.base, J.hok, rv, q⟩
    | .next, ⟨σ', H', J, q⟩ => exact ⟨V.non, H', J.os, J.bare, J.base, J.hok, rfl, q⟩
    | .brk, ⟨_, _, _, q⟩ => exact q.elim
    | .cont, ⟨_, _, _, q⟩ => exact q.elim
  exact G _ rfl
/-- iter(t), t a tuple -/
def rIterT (K : PySem.W.Frag) (n : Nat) : List V → Hp → VK → Prop := fun xs H Q => ∃ (t : Addr) (zs : List V), xs = [.ref t] ∧ SqT K H t zs ∧ ∀ it, H it = none → n ≤ it → Q (.ref it) (upd H it (TiO t it))
theorem call_iterT {X : Cx} : CallR X (.builtin "iter") (rIterT X.K X.s_0.heap.objs.size) := by
  intro pins s σ H xs us Q I r h
  obtain ⟨t, zs, rfl, hq, q⟩ := h
  obtain ⟨u, rfl, ru⟩ := vals1 r
  cases ru
  obtain ⟨its, rv, p, hz⟩ := I.tuple hq
  refine Calls.call_function_entry (by decide +kernel) (by decide +kernel) PySem.W.kdk_entry_iter (PySem.W.kdk_args_iter _) ?_
  unfold Builtin.«iter»
  refine wpAny_bind (m := someArgs "iter" 1 2 _) (wpAny_of_eq (a := [Value.ref t]) (by first | rfl | kernel_rfl!) ?_)
  refine wpAny_bind (m := pyIter (.ref t)) (wpAny_pyIter_tuple p ?_)
  exact wpAny_pure ⟨_, rfl, .ref s.heap.objs.size, _, I.laid (t' := s.toks) (fun b u e => Heap.get?_push_of_some _ e) (Nat.le_refl _) (tiO_ok ⟨_, Heap.get?_push_size _ rfl, rfl, rfl⟩), rfl, q _ (I.hok.fresh (Nat.le_refl _)) I.sz⟩
/-- what such an __iter__ promises -/
def spIt (K : PySem.W.Frag) (n : Nat) : Sp := fun vs H Q _ => ∃ (a C dx : Addr) (fs : List (Str × V)) (t : Addr) (zs : List V), vs = [.ref a] ∧ H a = some (.ins C dx fs) ∧ Cls K C ∧ NoAttr K C "names" ∧ fs.lookup ("names" : Str) = some (.ref t) ∧ SqT K H t zs ∧
  ∀ it, H it = none → n ≤ it → Q (.ref it) (upd H it (TiO t it))
section
variable {X : Cx} {CX : CXT} {k : Nat} {C f : Addr} {fd : FuncData} {ps : List Str} {E : XK} {tg e : Expr} {te : TE}
def iOwn (K : PySem.W.Frag) (te : TE) (C : Addr) : TI := fun σ H R => te σ H fun x H1 => ∃ (a dx : Addr) (fs : List (Str × V)) (t : Addr) (zs : List V), x = .ref a ∧ H1 a = some (.ins C dx fs) ∧ fs.lookup ("names" : Str) = some (.ref t) ∧ SqT K H1 t zs ∧ R (Itt K t) H1
theorem pi_own (m : Sm X.K C "__iter__" f) (c : Cls X.K C) (na : NoAttr X.K C "names") (F : FnS X.prog X.w X.K X.mg X.base CX k f fd ps (spIt X.K)) (hr : Room k X.A) (hb : Binds X.K fd ps []) (hx : Passes CX X E) (he : PE X e te) : PI X tg e (iOwn X.K te C) := by
  refine ⟨fun pins s σ H R I h => thn (he.run pins s σ H _ I h) fun v s1 hv => ?_⟩
  obtain ⟨x, H1, I1, rx, a, dx, fs, t, zs, rfl, ea, el, hq, q⟩ := hv
  cases rx
  obtain ⟨od, J⟩ := inst I1 ea
  obtain ⟨m0, hF⟩ := I1.fr
  refine PySem.W.owit_iter hF I1.ok.mod.kin J m.at_ m.fn ?_
  have hsp : spIt X.K s1.heap.objs.size [V.ref a] H1 (fun v H2 => ∃ it, v = .ref it ∧ H1 it = none ∧ s1.heap.objs.size ≤ it ∧ H2 = upd H1 it (TiO t it)) E :=
    ⟨a, C, dx, fs, t, zs, rfl, ea, c, na, el, hq, fun it h0 h1 => ⟨it, rfl, h0, h1, rfl⟩⟩
  have hl := F.len _ _ _ _ _ hsp
  have b := hb s1 [Value.ref a] I1.kIn (by simpa using hl)
  rw [List.append_nil] at b
  refine wpAny_call (codeAny_mono (F.run X.A X.stack s1 H1 ⟨[.ref a], []⟩ [.ref a] [.ref a] _ E hr I1.env0 b (.cons rfl .nil) hsp) fun r s' hq' => ?_)
  match r, hq' with
  | .error er, hq' => exact hx pins σ H1 s1 er s' I1 hq'
  | .ok (.ret u), hq' =>
    obtain ⟨z, H2, I2, rz, it, rfl, n0, n1, rfl⟩ := I1.after hq'
    cases rz
    have e2 : (upd H1 it (TiO t it)) it = some (TiO t it) := upd_same
    have ti : s'.heap.IsTupleIter it t 0 := (I2.hok it _ e2).1
    refine wpAny_specialOf ti.typeIs PySem.F.slot_tuple_iterator_next.lookup ?_
    have ed : ItX.dropH (upd H1 it (TiO t it)) it = H1 := ItX.dropH_upd n0
    have I3 := ItX.inv_drop I2 e2
    have fp := ItX.inv_fp I2 e2 (Nat.le_trans I1.sz n1)
    rw [ed] at I3 fp
    refine ⟨it, [it], _, Itt X.K t, H1, rfl, I3, turn_tuple t it, ti, fun b hb => ?_, q⟩
    have eb : b = it := by simpa using hb
    rw [eb]
    exact fp
end

/-! ### C.m(..), m a static method -/
structure SMet (K : PySem.W.Frag) (C : Addr) (mc : Value) (m : Str) (p g : Addr) : Prop where
  rd : ClX.CRead K C mc
  at_ : PySem.W.findCls K (.ref C) mc m = some (.get (.builtin "staticmethod.__get__") (.ref p) .none (.ref C))
  rc : ∃ rest, PySem.W.recIn K p "staticmethod" = some (.ref g :: rest)
  kp : PySem.W.keepIn K (.ref g) = true
def tSMet (C : Addr) (sp : Sp) (E : XK) (ta : TE) (t : TA) : TE := fun σ H Q => ta σ H fun x H1 => x = .ref C ∧ t σ H1 fun vs H2 => sp vs H2 Q E
section
variable {X : Cx} {CX : CXT} {k : Nat} {C p g : Addr} {mc : Value} {fd : FuncData} {ps : List Str} {sp : Sp} {E : XK} {o e : Expr} {es : List Expr} {m : Str} {pos apos : Pos} {ta : TE} {t : TA} {pl : Sem Bool}
theorem pe_sm (he : PE X o ta) (c : SMet X.K C mc m p g) (F : FnOk X.prog X.w X.K X.mg X.base CX k g fd ps sp) (hr : Room k X.A) (hb : Binds X.K fd ps []) (hx : Passes CX X E) (ha : PA X (e :: es) t)
    (hst : starEach (e :: es) X.env = (false, eval e X.env) :: starEach es X.env := by rfl) (hpl : (backTo pos (starEach es X.env)).any (·.1) = false := by rfl)
    (ht : eval (.Call (.Attribute o m apos) (e :: es) [] pos) X.env = (do
      let ov ← eval o X.env
      standAt apos.atName
      let (f, first) ← holding [ov] (getMethod ov m pl)
      callWith pos f first (backTo pos (starEach (e :: es) X.env)) (backToKw pos (keywordEach [] X.env))) := by rfl) :
    PE X (.Call (.Attribute o m apos) (e :: es) [] pos) (tSMet C sp E ta t) := by
  refine ⟨fun pins s σ H Q I h => PySem.W.methodCall_KW (pl := pl) (thn (he.run pins s σ H _ I h) fun u s1 hv => ?_) ht⟩
  obtain ⟨x, H1, I1, rx, rfl, q⟩ := hv
  obtain rfl : u = Value.ref C := rx
  obtain ⟨rest, hp⟩ := c.rc
  refine PySem.W.method_cls I1.kIn c.rd.ga (PySem.W.cls_bind I1.kIn c.rd.rd c.at_ ?_)
  refine wpAny_call (PySem.W.sm_get (s := { s1 with toks := s1.toks + 1 }) I1.kIn hp (PySem.W.handed_on rfl ?_))
  have I2 := I1.tok (s1.toks + 1)
  refine PySem.W.callWith_K (h₀ := X.base) I2.ok.mod.kin c.kp (thn (ha.run pos pins _ σ H1 _ I2 q) fun us s2 h2 => ?_) hst hpl
  obtain ⟨vs, H2, I3, rv, q2⟩ := h2
  exact ⟨I3.kIn, run_at F hr I3.env0 hb hx I3 rv q2⟩
end

/-! ### == where one side is an int and the other one of an own class -/
theorem int_eq_ins {prog : Program} {w : World} {A : Around} {E : Value → Shared → Prop} {s : Shared} {a : Int} {t : Tok} {l : Addr} {ox : Obj} {Q : Value → Shared → Prop} (ho : s.heap.get? l = some ox) (hd : ox.data = .plain) (h : Q .notImplemented s) :
    wpAny (model prog w) A (call (.builtin "int.__eq__") [.int a t, .ref l]) Q E s := by
  refine GQ.call_here PySem.F.slot_int_eq (typeIs_int s a t) PySem.F.entry_int_eq (PySem.F.args_int_eq_2 _ _) ?_
  obtain ⟨hp, g, d, tk, os⟩ := s
  obtain ⟨oc, od, oda, osl⟩ := ox
  dsimp only at hd
  subst hd
  wp_walk
  exact h
section
variable {X : Cx} {CX : CXT} {k : Nat} {C f : Addr} {fd : FuncData} {ps : List Str} {sp : Sp} {E : XK}
/-- r == y, by r's own def -/
def rEqOL (K : PySem.W.Frag) (C : Addr) (sp : Sp) (E : XK) : R2 := fun x y H Q => ∃ a dx fs, x = .ref a ∧ H a = some (.ins C dx fs) ∧
  ((∃ i, y = .int i) ∨ ∃ b dy gs, y = .ref b ∧ H b = some (.ins C dy gs)) ∧ sp [.ref a, y] H (fun v H' => ∃ b, v = .bl b ∧ Q (.bl b) H') E
theorem op_eqOL (m : Sm X.K C "__eq__" f) (hi : PySem.W.subIn X.K (.type "int") (.ref C) = some false) (F : FnOk X.prog X.w X.K X.mg X.base CX k f fd ps sp) (hr : Room k X.A) (hb : Binds X.K fd ps []) (hx : Passes CX X E) :
    OpR X (compareOp .Eq) (rEqOL X.K C sp E) := by
  intro pins s σ H x y v u Q I rx ry h
  obtain ⟨a, dx, fs, rfl, ea, hy, q⟩ := h
  cases rx
  obtain ⟨od, J⟩ := inst I ea
  obtain ⟨m0, hF⟩ := I.fr
  have fin : wpAny (model X.prog X.w) X.A (call (.ref f) [.ref a, u]) (PySem.W.CmpBack (EP X pins σ Q)) X.xe s := by
    refine thn (run_at (vs := [V.ref a, y]) F hr I.env0 hb hx I (.cons rfl (.cons ry .nil)) q) fun r s' hq => ?_
    obtain ⟨z, H', I', rz, b, rfl, qq⟩ := hq
    cases rz
    exact ⟨.bl b, H', I', rfl, qq⟩
  show wpAny _ _ (richCompare .Eq (.ref a) u) _ _ _
  rcases hy with ⟨i, rfl⟩ | ⟨b, dy, gs, rfl, eb⟩
  · obtain ⟨t, rfl⟩ := ry
    refine PySem.W.cmp_K (op := .Eq) (tb := .type "int") hr.units0 hF I.ok.mod.kin J .now ?_ m.at_ m.fn fin
    unfold PySem.W.notFirst
    rw [hi]
    rfl
  · cases ry
    obtain ⟨oe, J2⟩ := inst I eb
    exact PySem.W.cmp_K (op := .Eq) (tb := .ref C) hr.units0 hF I.ok.mod.kin J J2.type (by simp [PySem.W.notFirst]) m.at_ m.fn fin
/-- i == r: int declines, then r's own def is asked -/
def rEqOR (C : Addr) (sp : Sp) (E : XK) : R2 := fun x y H Q => ∃ i a dx fs, x = .int i ∧ y = .ref a ∧ H a = some (.ins C dx fs) ∧ sp [.ref a, .int i] H (fun v H' => ∃ b, v = .bl b ∧ Q (.bl b) H') E
theorem op_eqOR (m : Sm X.K C "__eq__" f) (hi : PySem.W.subIn X.K (.ref C) (.type "int") = some false) (F : FnOk X.prog X.w X.K X.mg X.base CX k f fd ps sp) (hr : Room k X.A) (hb : Binds X.K fd ps []) (hx : Passes CX X E) :
    OpR X (compareOp .Eq) (rEqOR C sp E) := by
  intro pins s σ H x y v u Q I rx ry h
  obtain ⟨i, a, dx, fs, rfl, rfl, ea, q⟩ := h
  cases ry
  obtain ⟨t, rfl⟩ := rx
  obtain ⟨od, J⟩ := inst I ea
  obtain ⟨m0, hF⟩ := I.fr
  have K0 := I.kIn
  have one : wpAny (model X.prog X.w) X.A (tryCompare (.ref a) "__eq__" (.int i t)) (fun r s' => ∃ v, r = some v ∧ EP X pins σ Q v s') X.xe s := by
    unfold tryCompare
    refine wpAny_bind (PySem.W.ifBound_K K0 J m.at_ m.fn (thn (run_at (vs := [V.ref a, V.int i]) F hr I.env0 hb hx I (.cons rfl (.cons ⟨t, rfl⟩ .nil)) q) fun r s' hq => ?_))
    obtain ⟨z, H', I', rz, b, rfl, qq⟩ := hq
    cases rz
    exact wpAny_pure ⟨_, rfl, .bl b, H', I', rfl, qq⟩
  show wpAny _ _ (richCompare .Eq (.int i t) (.ref a)) _ _ _
  have o0 : oneThing? .Eq (.int i t) (.ref a) = none := by first | rfl | decide +kernel
  have ne : (Value.type "int" != Value.ref C) = true := by simp
  unfold richCompare
  simp only [o0]
  refine wpAny_holding (wpAny_bind (wpAny_cRoomFor hr.units0 ?_))
  refine wpAny_bind (wpAny_typeOf (T := "int") (PySem.typeIs_int s i t) (wpAny_bind (J.type.here ?_)))
  simp only [ne, if_true]
  refine wpAny_bind ((PySem.W.looks_subIn K0 hi).here ?_)
  simp only [Bool.false_eq_true, if_false, Bool.not_false, if_true]
  refine wpAny_bind (m := tryCompare (.int i t) _ (.ref a)) (wpAny_tryCompare_declines (PySem.typeIs_int s i t) PySem.F.slot_int_eq (int_eq_ins J.at_ rfl ⟨rfl, ?_⟩))
  refine wpAny_bind (m := tryCompare (.ref a) _ (.int i t)) (wpAny_mono one (fun r s' z => ?_) fun _ _ e => e)
  obtain ⟨v, rfl, hq⟩ := z
  exact wpAny_pure hq
end
end GrOwn
/-! Values of the law as plain data: an int, or fields by name; how dicts and records of the heap bear them. -/
namespace GrT
open PySem L2
/-- a value: an int, or fields in their order -/
inductive T where
  | int (i : Int)
  | fds (fs : List (Str × T))
/-! ### lists by name -/
section
variable {α β : Type}
def look (x : Str) : List (Str × α) → Option α
  | [] => none
  | (z, w) :: r => if z = x then some w else look x r
def put (x : Str) (y : α) : List (Str × α) → List (Str × α)
  | [] => [(x, y)]
  | (z, w) :: r => if z = x then (x, y) :: r else (z, w) :: put x y r
abbrev names (l : List (Str × α)) : List Str := l.map (·.1)
theorem look_mem {x : Str} {w : α} : ∀ {l : List (Str × α)}, look x l = some w → (x, w) ∈ l
  | (z, y) :: r, h => by
    unfold look at h
    split at h
    · rename_i e
      subst e
      cases h
      exact List.mem_cons_self
    · exact List.mem_cons_of_mem _ (look_mem h)
theorem look_none {x : Str} : ∀ {l : List (Str × α)}, look x l = none ↔ x ∉ names l
  | [] => by simp [look, names]
  | (z, y) :: r => by
    unfold look
    by_cases e : z = x
    · subst e
      simp
    · rw [if_neg e, look_none (l := r)]
      simp only [names, List.map_cons, List.mem_cons, not_or]
      exact ⟨fun h => ⟨fun q => e q.symm, h⟩, fun h => h.2⟩
theorem look_some {x : Str} {l : List (Str × α)} (h : x ∈ names l) : ∃ w, look x l = some w := by
  cases e : look x l with
  | some w => exact ⟨w, rfl⟩
  | none => exact absurd h (look_none.mp e)
theorem mem_look {x : Str} {w : α} : ∀ {l : List (Str × α)}, (names l).Nodup → (x, w) ∈ l → look x l = some w
  | (z, y) :: r, nd, h => by
    have nd' := List.nodup_cons.mp nd
    rcases List.mem_cons.mp h with e | e
    · cases e
      unfold look
      rw [if_pos rfl]
    · have hz : z ≠ x := fun q => nd'.1 (by rw [q]; exact List.mem_map.mpr ⟨_, e, rfl⟩)
      unfold look
      rw [if_neg hz]
      exact mem_look nd'.2 e
theorem names_put {x : Str} {y : α} : ∀ {l : List (Str × α)}, names (put x y l) = if x ∈ names l then names l else names l ++ [x]
  | [] => by simp [put, names]
  | (z, w) :: r => by
    unfold put
    by_cases e : z = x
    · subst e
      simp
    · have ih := names_put (x := x) (y := y) (l := r)
      rw [if_neg e]
      have hm : (x ∈ names ((z, w) :: r)) = (x ∈ names r) := by
        simp only [names, List.map_cons, List.mem_cons, eq_iff_iff]
        exact ⟨fun h => h.elim (fun q => absurd q.symm e) id, .inr⟩
      show z :: names (put x y r) = _
      rw [ih]
      simp only [hm]
      split <;> rfl
theorem nodup_put {x : Str} {y : α} {l : List (Str × α)} (h : (names l).Nodup) : (names (put x y l)).Nodup := by
  rw [names_put]
  split
  · exact h
  · rename_i q
    refine List.nodup_append.mpr ⟨h, by simp, fun a ha b hb => ?_⟩
    simp at hb
    subst hb
    exact fun e => q (e ▸ ha)
theorem length_put {x : Str} {y : α} {l : List (Str × α)} : (put x y l).length ≤ l.length + 1 := by
  have e : (names (put x y l)).length = (put x y l).length := List.length_map _
  rw [← e, names_put]
  split
  · simp
  · simp
theorem mem_put {x : Str} {y : α} : ∀ {l : List (Str × α)} {p}, p ∈ put x y l → p = (x, y) ∨ p ∈ l
  | [], p, h => by
    simp [put] at h
    exact .inl h
  | (z, w) :: r, p, h => by
    unfold put at h
    split at h
    · rcases List.mem_cons.mp h with q | q
      · exact .inl q
      · exact .inr (List.mem_cons_of_mem _ q)
    · rcases List.mem_cons.mp h with q | q
      · exact .inr (q ▸ List.mem_cons_self)
      · rcases mem_put q with q | q
        · exact .inl q
        · exact .inr (List.mem_cons_of_mem _ q)
theorem look_put {x z : Str} {y : α} : ∀ {l : List (Str × α)}, look z (put x y l) = if z = x then some y else look z l
  | [] => by
    simp only [put, look]
    by_cases e : z = x
    · subst e
      simp
    · rw [if_neg (fun q => e q.symm), if_neg e]
  | (u, w) :: r => by
    unfold put
    by_cases e : u = x
    · subst e
      rw [if_pos rfl]
      simp only [look]
      by_cases q : u = z
      · subst q
        simp
      · rw [if_neg q, if_neg (fun h => q h.symm), if_neg q]
    · rw [if_neg e]
      simp only [look]
      by_cases q : u = z
      · subst q
        rw [if_pos rfl, if_neg e, if_pos rfl]
      · rw [if_neg q, look_put, if_neg q]
end
/-! ### the dict that bears such a list -/
def dk (l : List (Str × V)) : List (Key × V) := l.map fun p => (Sum.inr p.1, p.2)
theorem dk_len (l : List (Str × V)) : (dk l).length = l.length := List.length_map _
theorem dk_val (x : Str) : ∀ l : List (Str × V), valV (dk l) (Sum.inr x : Key) = look x l
  | [] => rfl
  | (z, w) :: r => by
    show valV ((Sum.inr z, w) :: dk r) (Sum.inr x : Key) = if z = x then some w else look x r
    by_cases e : z = x
    · subst e
      rw [if_pos rfl, valV_pos rfl]
    · rw [if_neg e, valV_neg (fun q => e (Sum.inr.inj q)), dk_val x r]
theorem dk_put (x : Str) (y : V) : ∀ l : List (Str × V), (names l).Nodup → putK (dk l) (Sum.inr x : Key) y = dk (put x y l) := by
  intro l nd
  cases e : look x l with
  | none =>
    have h0 : valV (dk l) (Sum.inr x : Key) = none := by rw [dk_val, e]
    rw [putK_new _ h0]
    have hp : ∀ l : List (Str × V), look x l = none → put x y l = l ++ [(x, y)] := by
      intro l
      induction l with
      | nil => intro _; rfl
      | cons p r ih =>
        obtain ⟨z, w⟩ := p
        intro h
        unfold look at h
        split at h
        · cases h
        · rename_i q
          unfold put
          rw [if_neg q, ih h]
          rfl
    rw [hp l e]
    simp [dk]
  | some w =>
    have h1 : (dk l).any (fun kv => decide (kv.1 = (Sum.inr x : Key))) = true := by rw [valV_any, dk_val, e]; rfl
    unfold putK
    rw [if_pos h1]
    clear h1
    induction l with
    | nil => cases e
    | cons p r ih =>
      obtain ⟨z, u⟩ := p
      have nd' := List.nodup_cons.mp nd
      unfold look at e
      unfold put
      by_cases q : z = x
      · subst q
        rw [if_pos rfl]
        have hr : ∀ r : List (Str × V), z ∉ names r → (dk r).map (fun kv => if kv.1 = (Sum.inr z : Key) then (kv.1, y) else kv) = dk r := by
          intro r
          induction r with
          | nil => intro _; rfl
          | cons p r ih =>
            obtain ⟨a, b⟩ := p
            intro h
            have h' : z ≠ a ∧ z ∉ names r := by simpa [names] using h
            show (if (Sum.inr a : Key) = Sum.inr z then ((Sum.inr a : Key), y) else (Sum.inr a, b)) :: (dk r).map _ = (Sum.inr a, b) :: dk r
            rw [if_neg (fun q => h'.1 (Sum.inr.inj q).symm), ih h'.2]
        show (if (Sum.inr z : Key) = Sum.inr z then ((Sum.inr z : Key), y) else (Sum.inr z, u)) :: (dk r).map _ = (Sum.inr z, y) :: dk r
        rw [if_pos rfl, hr r nd'.1]
      · rw [if_neg q] at e
        rw [if_neg q]
        show (if (Sum.inr z : Key) = Sum.inr x then ((Sum.inr z : Key), y) else (Sum.inr z, u)) :: (dk r).map _ = (Sum.inr z, u) :: dk (put x y r)
        rw [if_neg (fun h => q (Sum.inr.inj h)), ih nd'.2 e]
/-! ### two lists by name, alike by R -/
def Al (R : V → T → Prop) : List (Str × V) → List (Str × T) → Prop := Paired fun p q => p.1 = q.1 ∧ R p.2 q.2
section
variable {R S : V → T → Prop} {l : List (Str × V)} {fs : List (Str × T)}
theorem Al.imp (h : Al R l fs) (f : ∀ p ∈ fs, ∀ v, R v p.2 → S v p.2) : Al S l fs := by
  induction h with
  | nil => exact .nil
  | @cons p q l fs r t ih => exact .cons ⟨r.1, f _ List.mem_cons_self _ r.2⟩ (ih fun p hp => f p (List.mem_cons_of_mem _ hp))
theorem Al.names (h : Al R l fs) : names l = names fs := by
  induction h with
  | nil => rfl
  | @cons p q l fs r t ih =>
    show p.1 :: GrT.names l = q.1 :: GrT.names fs
    rw [r.1, ih]
theorem Al.len (h : Al R l fs) : l.length = fs.length := Paired.length h
theorem Al.get (h : Al R l fs) {x : Str} {t : T} (e : look x fs = some t) : ∃ v, look x l = some v ∧ R v t := by
  induction h with
  | nil => cases e
  | @cons p q l fs r t' ih =>
    obtain ⟨z, v⟩ := p
    obtain ⟨z', u⟩ := q
    obtain ⟨rfl, r⟩ := r
    unfold look at e ⊢
    by_cases hz : z = x
    · rw [if_pos hz] at e ⊢
      cases e
      exact ⟨v, rfl, r⟩
    · rw [if_neg hz] at e ⊢
      exact ih e
theorem Al.get' (h : Al R l fs) {x : Str} {v : V} (e : look x l = some v) : ∃ t, look x fs = some t ∧ R v t := by
  induction h with
  | nil => cases e
  | @cons p q l fs r t' ih =>
    obtain ⟨z, v'⟩ := p
    obtain ⟨z', u⟩ := q
    obtain ⟨rfl, r⟩ := r
    unfold look at e ⊢
    by_cases hz : z = x
    · rw [if_pos hz] at e ⊢
      cases e
      exact ⟨u, rfl, r⟩
    · rw [if_neg hz] at e ⊢
      exact ih e
theorem Al.none (h : Al R l fs) {x : Str} : look x l = none ↔ look x fs = none := by rw [look_none, look_none, h.names]
theorem Al.put (h : Al R l fs) (x : Str) {v : V} {t : T} (r : R v t) : Al R (put x v l) (put x t fs) := by
  induction h with
  | nil => exact .cons ⟨rfl, r⟩ .nil
  | @cons p q l fs r' t' ih =>
    obtain ⟨z, v'⟩ := p
    obtain ⟨z', u⟩ := q
    obtain ⟨rfl, r'⟩ := r'
    unfold GrT.put
    by_cases hz : z = x
    · rw [if_pos hz, if_pos hz]
      exact .cons ⟨rfl, r⟩ t'
    · rw [if_neg hz, if_neg hz]
      exact .cons ⟨rfl, r'⟩ ih
end
/-! ### names, fields -/
def letter (c : Nat) : Prop := 97 ≤ c ∧ c ≤ 122
def Good (x : Str) : Prop := 1 ≤ x.length ∧ x.length ≤ 30 ∧ ∀ c ∈ x.cps.toList, letter c
structure Wf (L : Nat) (fs : List (Str × T)) : Prop where
  nd : (names fs).Nodup
  ln : fs.length ≤ L
  gd : ∀ p ∈ fs, Good p.1
theorem Wf.mono {L M : Nat} {fs : List (Str × T)} (h : Wf L fs) (hl : L ≤ M) : Wf M fs := ⟨h.nd, Nat.le_trans h.ln hl, h.gd⟩
theorem Wf.put {L : Nat} {fs : List (Str × T)} (h : Wf L fs) {x : Str} {t : T} (g : Good x) : Wf (L + 1) (put x t fs) :=
  ⟨nodup_put h.nd, Nat.le_trans length_put (Nat.add_le_add_right h.ln 1), fun p hp => by
    rcases mem_put hp with e | e
    · rw [e]
      exact g
    · exact h.gd p e⟩
theorem Wf.nil {L : Nat} : Wf L [] := ⟨by simp [names], Nat.zero_le _, fun p hp => by cases hp⟩
/-! ### a value as dicts -/
/-- v is t: ints and dicts, at most n deep, at most L fields each, the dicts all within S -/
def Tr (S : Addr → Prop) (H : Hp) (L : Nat) : Nat → V → T → Prop
  | 0, v, t => ∃ i, v = .int i ∧ t = .int i
  | n + 1, v, t => (∃ i, v = .int i ∧ t = .int i) ∨ ∃ a l fs, v = .ref a ∧ t = .fds fs ∧ S a ∧ H a = some (.dK (dk l)) ∧ Wf L fs ∧ Al (Tr S H L n) l fs
section
variable {S S' : Addr → Prop} {H H' : Hp} {L M n m : Nat} {v : V} {t u : T} {a : Addr}
theorem Tr.int (i : Int) : Tr S H L n (.int i) (.int i) := by
  cases n with
  | zero => exact ⟨i, rfl, rfl⟩
  | succ n => exact .inl ⟨i, rfl, rfl⟩
theorem Tr.cases {P : Prop} (h : Tr S H L n v t) (h1 : ∀ i, v = .int i → t = .int i → P)
    (h2 : ∀ k a l fs, n = k + 1 → v = .ref a → t = .fds fs → S a → H a = some (.dK (dk l)) → Wf L fs → Al (Tr S H L k) l fs → P) : P := by
  cases n with
  | zero =>
    obtain ⟨i, e1, e2⟩ := h
    exact h1 i e1 e2
  | succ k =>
    rcases h with ⟨i, e1, e2⟩ | ⟨a, l, fs, e1, e2, es, e3, e4, e5⟩
    · exact h1 i e1 e2
    · exact h2 k a l fs rfl e1 e2 es e3 e4 e5
theorem Tr.keep : ∀ {n : Nat} {v : V} {t : T}, Tr S H L n v t → (∀ b kvs, S b → H b = some (.dK kvs) → H' b = some (.dK kvs)) → Tr S H' L n v t
  | 0, _, _, h, _ => h
  | n + 1, v, t, h, k => by
    rcases h with h | ⟨a, l, fs, e1, e2, es, e3, e4, e5⟩
    · exact .inl h
    · exact .inr ⟨a, l, fs, e1, e2, es, k _ _ es e3, e4, e5.imp fun _ _ _ q => Tr.keep q k⟩
theorem Tr.mono : ∀ {n m L M : Nat} {v : V} {t : T}, Tr S H L n v t → n ≤ m → L ≤ M → Tr S H M m v t
  | 0, m, L, M, v, t, ⟨i, e1, e2⟩, _, _ => by
    rw [e1, e2]
    exact Tr.int i
  | n + 1, 0, _, _, _, _, _, h, _ => absurd h (Nat.not_succ_le_zero _)
  | n + 1, m + 1, L, M, v, t, h, h1, h2 => by
    rcases h with h | ⟨a, l, fs, e1, e2, es, e3, e4, e5⟩
    · exact .inl h
    · exact .inr ⟨a, l, fs, e1, e2, es, e3, e4.mono h2, e5.imp fun _ _ _ q => Tr.mono q (Nat.le_of_succ_le_succ h1) h2⟩
theorem dk_inj : ∀ {l l' : List (Str × V)}, dk l = dk l' → l = l'
  | [], [], _ => rfl
  | [], _ :: _, h => by cases h
  | _ :: _, [], h => by cases h
  | (x, v) :: l, (y, w) :: l', h => by
    have h' : ((Sum.inr x : Key), v) :: dk l = (Sum.inr y, w) :: dk l' := h
    injection h' with h1 h2
    injection h1 with h3 h4
    injection h3 with h3
    rw [h3, h4, dk_inj h2]
theorem al_inj {n m L M : Nat} (ih : ∀ {v : V} {t u : T}, Tr S H L n v t → Tr S' H M m v u → t = u) : ∀ {l : List (Str × V)} {fs gs : List (Str × T)}, Al (Tr S H L n) l fs → Al (Tr S' H M m) l gs → fs = gs
  | [], _, _, .nil, .nil => rfl
  | _ :: _, (x, t) :: fs, (y, u) :: gs, .cons r1 t1, .cons r2 t2 => by
    have e : x = y := r1.1.symm.trans r2.1
    have e2 : t = u := ih r1.2 r2.2
    rw [e, e2, al_inj ih t1 t2]
theorem Tr.inj : ∀ {n m L M : Nat} {v : V} {t u : T}, Tr S H L n v t → Tr S' H M m v u → t = u
  | 0, m, L, M, v, t, u, ⟨i, e1, e2⟩, h => by
    refine h.cases (fun j q1 q2 => ?_) fun k a l fs _ q => ?_
    · rw [e1] at q1
      cases q1
      rw [e2, q2]
    · rw [e1] at q
      cases q
  | n + 1, m, L, M, v, t, u, h0, h => by
    refine h.cases (fun j q1 q2 => ?_) fun k a l fs _ q1 q2 qs q3 q4 q5 => ?_
    · rcases h0 with ⟨i, e1, e2⟩ | ⟨a, l, fs, e1, _⟩
      · rw [e1] at q1
        cases q1
        rw [e2, q2]
      · rw [e1] at q1
        cases q1
    · rcases h0 with ⟨i, e1, e2⟩ | ⟨b, l', gs, e1, e2, es, e3, e4, e5⟩
      · rw [e1] at q1
        cases q1
      · rw [e1] at q1
        cases q1
        rw [e3] at q3
        have z := dk_inj (HO.dK.inj (Option.some.inj q3))
        subst z
        rw [e2, q2, al_inj (fun a b => Tr.inj a b) e5 q5]
theorem size_mem {x : Str} {t : T} {fs : List (Str × T)} (h : (x, t) ∈ fs) : sizeOf t < sizeOf (T.fds fs) := by
  have h1 := List.sizeOf_lt_of_mem h
  have h2 : sizeOf (x, t) = 1 + sizeOf x + sizeOf t := by simp
  have h3 : sizeOf (T.fds fs) = 1 + sizeOf fs := by simp
  omega
/-- what is smaller than the value at a has no place at a -/
theorem Tr.away : ∀ {n : Nat} {v : V} {t : T}, Tr S H L n v t → Tr S' H M m (.ref a) u → sizeOf t < sizeOf u → ∀ o, Tr S (upd H a o) L n v t
  | 0, _, _, h, _, _, _ => h
  | n + 1, v, t, h, q, hs, o => by
    rcases id h with h' | ⟨b, l, fs, e1, e2, es, e3, e4, e5⟩
    · exact .inl h'
    · have hb : b ≠ a := fun z => by
        subst z
        rw [e1] at h
        have := Tr.inj h q
        subst this
        exact absurd hs (Nat.lt_irrefl _)
      refine .inr ⟨b, l, fs, e1, e2, es, by rw [upd_ne hb]; exact e3, e4, e5.imp fun p hp _ z => Tr.away z q (Nat.lt_trans ?_ hs) o⟩
      rw [e2]
      exact size_mem (x := p.1) (t := p.2) hp
/-- the children of the dict at a, while it is locked -/
theorem al_away (es : S a) {l : List (Str × V)} {fs : List (Str × T)} (e : H a = some (.dK (dk l))) (w : Wf L fs) (h : Al (Tr S H L n) l fs) (o : HO) : Al (Tr S (upd H a o) L n) l fs :=
  h.imp fun p hp _ z => z.away (m := n + 1) (M := L) (u := .fds fs) (a := a) (.inr ⟨a, l, fs, rfl, rfl, es, e, w, h⟩) (size_mem (x := p.1) (t := p.2) hp) o
theorem Tr.wid : ∀ {n : Nat} {v : V} {t : T}, Tr S H L n v t → (∀ b, S b → S' b) → Tr S' H L n v t
  | 0, _, _, h, _ => h
  | n + 1, v, t, h, k => by
    rcases h with h | ⟨a, l, fs, e1, e2, es, e3, e4, e5⟩
    · exact .inl h
    · exact .inr ⟨a, l, fs, e1, e2, k _ es, e3, e4, e5.imp fun _ _ _ q => Tr.wid q k⟩
end
end GrT
/-! The law's own helpers: cells, the tape, what is drawn from it. -/
namespace Lw
open PySem PySem.Spec PyProof.Rows L2 GrT
def top (i : Nat) : Stmt := PySem.Challenge.pw_growingrecords_k06_paths.main.body.getD i (.Pass ⟨0, 0, 0, 0⟩)
abbrev sCell : Stmt := top 12
abbrev sMixed : Stmt := top 13
abbrev sTape : Stmt := top 14
abbrev sTake : Stmt := top 15
abbrev sNumber : Stmt := top 16
abbrev sWord : Stmt := top 17
abbrev sWords : Stmt := top 18
/-- a def of the module's top, by its name -/
structure Dfn (K : PySem.W.Frag) (mg : Str → Option Value) (x : Str) (st : Stmt) (ps : List Str) : Prop where
  ex : ∃ f fd, mg x = some (.ref f) ∧ L2.Fun K x x st f fd ∧ Binds K fd ps []
/-- the def called x keeps the promise sp, at level k -/
structure Cal (P : Program) (w : World) (K : PySem.W.Frag) (mg : Str → Option Value) (base : Heap) (k : Nat) (x : Str) (sp : Sp) : Prop where
  ex : ∃ (f : Addr) (fd : FuncData) (ps : List Str), FnOk P w K mg base CX0 k f fd ps sp ∧ mg x = some (.ref f) ∧ PySem.W.keepIn K (.ref f) = true ∧ Binds K fd ps []
theorem pe_c {X : Cx} {k j : Nat} {x : Str} {sp : Sp} {p pos : Pos} {e : Expr} {es : List Expr} {t : TA} (c : Cal X.prog X.w X.K X.mg X.base k x sp) (hr : Room j X.A) (hk : k ≤ j) (hg : Gl X x) (ha : PA X (e :: es) t)
    (hdb : (x == ("__debug__" : Str)) = false := by decide) (he : starEach (e :: es) X.env = (false, eval e X.env) :: starEach es X.env := by rfl) (hpl : (backTo pos (starEach es X.env)).any (·.1) = false := by rfl) :
    PE X (.Call (.Name x p) (e :: es) [] pos) (tCall sp [] E0 t) := by
  obtain ⟨f, fd, ps, F, hm, kp, b⟩ := c.ex
  exact pe_call F (hr.mono hk) hg hm kp b .nil pass0 ha hdb he hpl
/-- what the top leaves of the built-ins that the helpers ask -/
structure Bt (mg : Str → Option Value) : Prop where
  b_len : mg "len" = none
  b_int : mg "int" = none
  b_range : mg "range" = none
section
variable {P : Program} {w : World} {K : PySem.W.Frag} {mg : Str → Option Value} {base : Heap}
theorem Dfn.cal {x : Str} {st : Stmt} {N ps : List Str} {k : Nat} {sp : Sp} (D : Dfn K mg x st ps) (S : FnScope N ps (defScope st)) (len : ∀ vs H Q E, sp vs H Q E → vs.length = ps.length)
    (body : ∀ (f : Addr) (cdv : Value) (A : Around) (outer : List Env) (s : Shared) (H : Hp) (vs : List V) (Q : VK) (E : XK), Room k (A.deeper (envOfC x (defScope st) s.heap.objs.size f cdv)) → sp vs H Q E →
      ∃ t, PSs (cxOf CX0 P w K mg base N x (defScope st) f cdv A outer s H E).nox (defBody st) t ∧ t { nx := fun _ H' => Q .non H', rt := Q } (start N vs) H) : Cal P w K mg base (k + 1) x sp := by
  obtain ⟨f, fd, hm, F, b⟩ := D.ex
  exact ⟨f, fd, ps, F.ok S len (body f), hm, F.kp, b⟩
end
/-! ### what is promised -/
/-- all but the object at T stands -/
def Fx (T : Addr) (H H' : Hp) : Prop := ∀ b o, b ≠ T → H b = some o → H' b = some o
theorem Fx.refl {T : Addr} {H : Hp} : Fx T H H := fun _ _ _ e => e
theorem Fx.trans {T : Addr} {H H1 H2 : Hp} (a : Fx T H H1) (b : Fx T H1 H2) : Fx T H H2 := fun c o n e => b c o n (a c o n e)
theorem Fx.set {T : Addr} {H : Hp} {o : HO} : Fx T H (upd H T o) := fun b u n e => by
  rw [upd_ne n]
  exact e
theorem Fx.same {T : Addr} {H H' : Hp} (s : Same H H') : Fx T H H' := fun b o _ e => s b o e
theorem Fx.new {T a : Addr} {H H1 : Hp} {o : HO} (x : Fx T H H1) (n : H1 a = none) : Fx T H (upd H1 a o) := fun b u ne e => by
  have q := x b u ne e
  rw [upd_ne (ne_of_none q n)]
  exact q
/-- the tape: ints below 720720 -/
def Tape (H : Hp) (T : Addr) : Prop := ∃ ns : List Int, H T = some (.lst (ns.map V.int)) ∧ ns.length ≤ 1000 ∧ ∀ n ∈ ns, 0 ≤ n ∧ n < 720720
theorem Tape.new {H : Hp} {T a : Addr} {o : HO} (t : Tape H T) (n : H a = none) : Tape (upd H a o) T := by
  obtain ⟨ns, e, z⟩ := t
  exact ⟨ns, by rw [upd_ne (ne_of_none e n)]; exact e, z⟩
theorem Tape.ne {H : Hp} {T a : Addr} {o : HO} (t : Tape H T) (e : H a = some o) (d : ∀ xs, o ≠ .lst xs) : a ≠ T := by
  obtain ⟨ns, q, _⟩ := t
  exact ne_of e q (d _)
theorem Tape.put {H : Hp} {T a : Addr} {o : HO} (t : Tape H T) (n : a ≠ T) : Tape (upd H a o) T := by
  obtain ⟨ns, e, z⟩ := t
  exact ⟨ns, by rw [upd_ne n.symm]; exact e, z⟩
def spCell (K : PySem.W.Frag) : Sp := fun vs H Q _ => ∃ (a : Addr) (ns : List Int) (k : Int), vs = [.ref a, .int k] ∧ SqL K H a (ns.map V.int) ∧ 0 ≤ k ∧ ∀ i, Q (.int i) H
def spMixed : Sp := fun vs H Q _ => ∃ c k : Int, vs = [.int c, .int k] ∧ 0 ≤ k ∧ k < 10000 ∧ ∀ i, 0 ≤ i → i < 720720 → Q (.int i) H
def spTape : Sp := fun vs H Q _ => ∃ g l c : Int, vs = [.int g, .int l, .int c] ∧ 0 ≤ c ∧ c ≤ 1000 ∧ ∀ T H', H T = none → Tape H' T → Same H H' → Q (.ref T) H'
def spTake : Sp := fun vs H Q _ => ∃ (T : Addr) (m : Int), vs = [.ref T, .int m] ∧ Tape H T ∧ 0 < m ∧ ∀ i H', 0 ≤ i → i < m → Fx T H H' → Tape H' T → Q (.int i) H'
def spNumber : Sp := fun vs H Q _ => ∃ T : Addr, vs = [.ref T] ∧ Tape H T ∧ ∀ i H', 0 ≤ i → i < 2 ^ 100 → Fx T H H' → Tape H' T → Q (.int i) H'
/-- a text of signs a to z -/
def Az (x : Str) : Prop := ∀ c ∈ x.cps.toList, letter c
def spWord : Sp := fun vs H Q _ => ∃ (T : Addr) (m : Int), vs = [.ref T, .int m] ∧ Tape H T ∧ 0 < m ∧ m ≤ 100 ∧ ∀ (x : Str) H', 1 ≤ x.length → (x.length : Int) ≤ m → Az x → Fx T H H' → Tape H' T → Q (.str x) H'
section
variable {P : Program} {w : World} {K : PySem.W.Frag} {mg : Str → Option Value} {base : Heap}
/-! ### the defs -/
theorem scCell : FnScope ["script", "k"] ["script", "k"] (defScope sCell) := ⟨rfl, rfl, rfl, by decide +kernel, rfl, by decide +kernel, by decide +kernel⟩
theorem c_cell (T : Bt mg) (D : Dfn K mg "_law_cell" sCell ["script", "k"]) : Cal P w K mg base 1 "_law_cell" (spCell K) := by
  refine D.cal scCell (fun vs H Q E h => ?_) (fun f cdv A outer s H vs Q E hr h => ?_)
  · obtain ⟨a, ns, k, rfl, _⟩ := h
    rfl
  · obtain ⟨a, ns, k, rfl, hS, k0, q⟩ := h
    refine ⟨_, (pss_cons (ps_if (pt_cmpR op_lt (pv 1) (pe_callB call_len_seq (by rfl) T.b_len PySem.boot_len (pa_cons (pv 0) pa_nil)) (nomark _))
      (pss_one (ps_ret (pe_ix ix_list (pv 0) (pv 1) (fun _ _ => rfl))))
      pss_nil)
      (pss_one (ps_ret pe_int))), ?_⟩
    refine ⟨_, rfl, _, rfl, a, _, rfl, .inl hS, _, _, rfl, rfl, _, rfl, ?_⟩
    refine ite2 (fun hk => ?_) (fun _ => q 0)
    have hk' := of_decide_eq_true hk
    rw [List.length_map] at hk'
    have e1 : k.toNat < ns.length := by omega
    refine ⟨_, rfl, _, rfl, a, _, _, _, rfl, rfl, hS, ?_, q (ns[k.toNat]'e1)⟩
    obtain ⟨j, rfl⟩ : ∃ j : Nat, k = (j : Int) := ⟨k.toNat, by omega⟩
    refine atI_nat ?_
    rw [List.getElem?_map]
    have e3 : j < ns.length := by omega
    simp [List.getElem?_eq_getElem e3]
theorem scMixed : FnScope ["cell", "k", "first", "second"] ["cell", "k"] (defScope sMixed) := ⟨rfl, rfl, rfl, by decide +kernel, rfl, by decide +kernel, by decide +kernel⟩
theorem c_mixed (T : Bt mg) (D : Dfn K mg "_law_mixed" sMixed ["cell", "k"]) : Cal P w K mg base 1 "_law_mixed" spMixed := by
  refine D.cal scMixed (fun vs H Q E h => ?_) (fun f cdv A outer s H vs Q E hr h => ?_)
  · obtain ⟨c, k, rfl, _⟩ := h
    rfl
  · obtain ⟨c, k, rfl, k0, k1, q⟩ := h
    refine ⟨_, (pss_cons (ps_set (i := 2) scMixed.nd rfl (Or.inl rfl) (pe_op op_mod (pe_callTy call_int1 (by rfl) T.b_int (by decide +kernel) (pa_cons (pe_op op_add (pe_op op_add (pe_op op_mul (pv 0) pe_int) (pe_op op_mul (pv 1) pe_int)) pe_int) pa_nil)) pe_int))
      (pss_cons (ps_set (i := 3) scMixed.nd rfl (Or.inl rfl) (pe_op op_mod (pe_callTy call_int1 (by rfl) T.b_int (by decide +kernel) (pa_cons (pe_op op_add (pe_op op_add (pe_op op_mul (pv 2) (pv 2)) (pe_op op_mul pe_int (pv 2))) (pe_op op_mul (pv 1) pe_int)) pa_nil)) pe_int))
      (pss_one (ps_ret (pe_op op_mod (pe_callTy call_int1 (by rfl) T.b_int (by decide +kernel) (pa_cons (pv 3) pa_nil)) pe_int))))), ?_⟩
    have p31 : (0 : Int) < 2147483647 := by decide
    have f0 : ∀ z : Int, 0 ≤ z % 2147483647 ∧ z % 2147483647 < 2147483647 := fun z => ⟨Int.emod_nonneg z (by decide), Int.emod_lt_of_pos z p31⟩
    refine ⟨_, rfl, _, _, rfl, rfl, .inr ⟨by decide, by decide⟩, _, rfl, _, _, rfl, rfl, .inr ⟨by decide, by decide⟩, _, _, rfl, rfl, _, _, rfl, rfl, .inl ⟨_, rfl, _, _, rfl, rfl, p31, ?_⟩⟩
    generalize hz : (c * 48271 + k * 69621 + 7) % 2147483647 = z
    have hf := f0 (c * 48271 + k * 69621 + 7)
    rw [hz] at hf
    refine ⟨_, rfl, _, rfl, _, _, rfl, rfl, .inl ⟨by omega, by omega⟩, _, rfl, _, _, rfl, rfl, .inl ⟨by decide, by decide⟩, _, _, rfl, rfl, _, rfl, _, _, rfl, rfl, .inr ⟨by decide, by decide⟩, _, _, rfl, rfl, .inl ⟨_, rfl, _, _, rfl, rfl, (by decide : (0 : Int) < 2147483629), ?_⟩⟩
    exact ⟨_, rfl, .inl ⟨_, rfl, _, _, rfl, rfl, (by decide : (0 : Int) < 720720), q _ (Int.emod_nonneg _ (by decide)) (Int.emod_lt_of_pos _ (by decide))⟩⟩
theorem scTape : FnScope ["great", "lesser", "count", "tape", "rest", "k", "drawn"] ["great", "lesser", "count"] (defScope sTape) := ⟨rfl, rfl, rfl, by decide +kernel, rfl, by decide +kernel, by decide +kernel⟩
theorem p72 : (0 : Int) < 720720 := by decide
theorem c_tape (T : Bt mg) (D : Dfn K mg "_law_tape" sTape ["great", "lesser", "count"]) (c_law_mixed : Cal P w K mg base 1 "_law_mixed" spMixed) : Cal P w K mg base 2 "_law_tape" spTape := by
  refine D.cal scTape (fun vs H Q E h => ?_) (fun f cdv A outer s H vs Q E hr h => ?_)
  · obtain ⟨g, l, c, rfl, _⟩ := h
    rfl
  · obtain ⟨g, l, c, rfl, c0, c1, q⟩ := h
    refine ⟨_, (pss_cons (ps_set (i := 3) scTape.nd rfl (Or.inl rfl) (pe_lst pa_nil))
      (pss_cons (ps_set (i := 4) scTape.nd rfl (Or.inl rfl) (pv 0))
      (pss_cons (ps_for PassesOwn.never rfl (pi_range1 (by rfl) T.b_range (pa_cons (pv 2) pa_nil)) (pg_name (i := 5) scTape.nd rfl (Or.inl rfl))
      (pss_cons (ps_set (i := 6) scTape.nd rfl (Or.inl rfl) (pe_c c_law_mixed hr (by decide) rfl (pa_cons (pv 1) (pa_cons (pv 5) pa_nil))))
      (pss_cons (ps_if (pt_cmpR op_ge (pv 0) (pe_op op_pow pe_int pe_int) (nomark _))
      (pss_cons (ps_set (i := 6) scTape.nd rfl (Or.inl rfl) (pe_op op_add (pv 6) (pe_op op_mod (pe_callTy call_int1 (by rfl) T.b_int (by decide +kernel) (pa_cons (pv 4) pa_nil)) pe_int)))
      (pss_one (ps_set (i := 4) scTape.nd rfl (Or.inl rfl) (pe_op op_fdiv (pv 4) pe_int))))
      (pss_one (ps_set (i := 6) scTape.nd rfl (Or.inl rfl) (pe_op op_add (pv 6) (pe_c c_law_mixed hr (by decide) rfl (pa_cons (pv 0) (pa_cons (pe_op op_add (pv 5) pe_int) pa_nil)))))))
      (pss_one (ps_expr (pe_bm PySem.F.plainAttrs_list PySem.F.slot_list_append PySem.F.type_list_append mt_append (pv 3) (pa_cons (pe_op op_mod (pe_callTy call_int1 (by rfl) T.b_int (by decide +kernel) (pa_cons (pv 6) pa_nil)) pe_int) pa_nil)))))))
      (pss_one (ps_ret (pv 3)))))), ?_⟩
    refine ⟨Nat.zero_le _, fun p hp => ?_⟩
    refine ⟨_, rfl, _, rfl, c, rfl, by omega, by omega, for_range (lo := 0) (n := c.toNat) (fun i σ H' => ∃ (r : Int) (kv dv : Option V) (ns : List Int), σ = [some (.int g), some (.int l), some (.int c), some (.ref p), some (.int r), kv, dv] ∧
      H' p = some (.lst (ns.map V.int)) ∧ ns.length = i ∧ (∀ n ∈ ns, 0 ≤ n ∧ n < 720720) ∧ Same H H') ⟨g, none, none, [], rfl, upd_same, rfl, (fun n hn => by cases hn), (fun b o e => by rw [upd_ne (ne_of_none e hp)]; exact e)⟩ ?_ ?_⟩
    · rintro i σ H' hi ⟨r, kv, dv, ns, rfl, hl, hn, hb, hs⟩
      refine ⟨_, rfl, _, rfl, _, _, rfl, by omega, by omega, fun d1 hd1 hd2 => ?_⟩
      refine ⟨_, rfl, _, _, rfl, rfl, ⟨by decide, by decide, by decide⟩, _, _, rfl, rfl, _, rfl, ite2 (fun _ => ?_) (fun _ => ?_)⟩
      · refine ⟨_, rfl, _, rfl, .inl ⟨_, rfl, _, _, rfl, rfl, p72, _, _, rfl, rfl, _, rfl, _, _, rfl, rfl, ⟨by decide, by decide⟩, ?_⟩⟩
        refine ⟨_, rfl, .inl ⟨rfl, _, .inl (.inl hl)⟩, _, rfl, .inl ⟨_, rfl, _, _, rfl, rfl, p72, p, _, _, rfl, rfl, hl, small1000 (by rw [List.length_map]; omega), ?_⟩⟩
        refine ⟨_, _, _, ns ++ [(d1 + r % 720720) % 720720], rfl, ?_, by rw [List.length_append, hn]; rfl, fun n h => ?_, fun b o e => ?_⟩
        · rw [upd_same, List.map_append]
          rfl
        · rcases List.mem_append.mp h with h | h
          · exact hb n h
          · have e := List.mem_singleton.mp h
            rw [e]
            exact ⟨Int.emod_nonneg _ (by decide), Int.emod_lt_of_pos _ p72⟩
        · rw [upd_ne (ne_of_none e hp)]
          exact hs b o e
      · refine ⟨_, rfl, _, rfl, _, rfl, _, _, rfl, rfl, _, _, rfl, by omega, by omega, fun d2 hd3 hd4 => ⟨_, _, rfl, rfl, ?_⟩⟩
        refine ⟨_, rfl, .inl ⟨rfl, _, .inl (.inl hl)⟩, _, rfl, .inl ⟨_, rfl, _, _, rfl, rfl, p72, p, _, _, rfl, rfl, hl, small1000 (by rw [List.length_map]; omega), ?_⟩⟩
        refine ⟨_, _, _, ns ++ [(d1 + d2) % 720720], rfl, ?_, by rw [List.length_append, hn]; rfl, fun n h => ?_, fun b o e => ?_⟩
        · rw [upd_same, List.map_append]
          rfl
        · rcases List.mem_append.mp h with h | h
          · exact hb n h
          · have e := List.mem_singleton.mp h
            rw [e]
            exact ⟨Int.emod_nonneg _ (by decide), Int.emod_lt_of_pos _ p72⟩
        · rw [upd_ne (ne_of_none e hp)]
          exact hs b o e
    · rintro σ H' ⟨r, kv, dv, ns, rfl, hl, hn, hb, hs⟩
      exact ⟨_, rfl, q p H' hp ⟨ns, hl, by omega, hb⟩ hs⟩
theorem scTake : FnScope ["tape", "many"] ["tape", "many"] (defScope sTake) := ⟨rfl, rfl, rfl, by decide +kernel, rfl, by decide +kernel, by decide +kernel⟩
theorem type_pop : typeOf (.builtin "list.pop") = pure (.type "method_descriptor") := by
  show builtinType _ = _
  rw [builtinType_eq_fast]
  kernel_rfl
theorem c_take (T : Bt mg) (D : Dfn K mg "_law_take" sTake ["tape", "many"]) : Cal P w K mg base 1 "_law_take" spTake := by
  refine D.cal scTake (fun vs H Q E h => ?_) (fun f cdv A outer s H vs Q E hr h => ?_)
  · obtain ⟨p, m, rfl, _⟩ := h
    rfl
  · obtain ⟨p, m, rfl, ⟨ns, hl, hn, hb⟩, m0, q⟩ := h
    refine ⟨_, (pss_cons (ps_if (pt_not (pt_truth (pv 0) (by intro _; rfl)))
      (pss_one (ps_ret pe_int))
      pss_nil)
      (pss_one (ps_ret (pe_op op_mod (pe_callTy call_int1 (by rfl) T.b_int (by decide +kernel) (pa_cons (pe_bm PySem.F.plainAttrs_list PySem.F.slot_list_pop type_pop mt_popAt (pv 0) (pa_cons pe_int pa_nil)) pa_nil)) (pv 1))))), ?_⟩
    refine ⟨_, rfl, !(ns.map V.int).isEmpty, .inl ⟨_, SqL.of hl, rfl⟩, ?_⟩
    cases ns with
    | nil => exact iteT (q 0 H (Int.le_refl _) m0 Fx.refl ⟨[], hl, hn, hb⟩)
    | cons n ns =>
      refine iteF ?_
      refine ⟨_, rfl, .inl ⟨rfl, _, .inl (.inl hl)⟩, p, _, 0, 0, .int n, rfl, rfl, hl, by decide, by decide, by simp [seqIndex?], rfl, ?_⟩
      refine .inl ⟨n, rfl, _, rfl, n, m, rfl, rfl, m0, ?_⟩
      refine q _ _ (Int.emod_nonneg _ (by omega)) (Int.emod_lt_of_pos _ m0) Fx.set ⟨ns, upd_same, ?_, fun z hz => hb z (List.mem_cons_of_mem _ hz)⟩
      rw [List.length_cons] at hn
      omega
end
end Lw
namespace Lw
open PySem PySem.Spec PyProof.Rows L2 GrT
section
variable {P : Program} {w : World} {K : PySem.W.Frag} {mg : Str → Option Value} {base : Heap}
theorem scNumber : FnScope ["tape", "number", "k"] ["tape"] (defScope sNumber) := ⟨rfl, rfl, rfl, by decide +kernel, rfl, by decide +kernel, by decide +kernel⟩
theorem pow_step {m d : Int} {i : Nat} (h0 : 0 ≤ m) (h : m < 720720 ^ i) (d0 : 0 ≤ d) (d1 : d < 720720) : 0 ≤ m * 720720 + d ∧ m * 720720 + d < 720720 ^ (i + 1) := by
  have e : (720720 : Int) ^ (i + 1) = 720720 ^ i * 720720 := Int.pow_succ _ _
  rw [e]
  generalize (720720 : Int) ^ i = q at h
  omega
theorem c_number (T : Bt mg) (D : Dfn K mg "_law_number" sNumber ["tape"]) (c_law_take : Cal P w K mg base 1 "_law_take" spTake) : Cal P w K mg base 2 "_law_number" spNumber := by
  refine D.cal scNumber (fun vs H Q E h => ?_) (fun f cdv A outer s H vs Q E hr h => ?_)
  · obtain ⟨p, rfl, _⟩ := h
    rfl
  · obtain ⟨p, rfl, tp, q⟩ := h
    refine ⟨_, (pss_cons (ps_if (pt_cmpR op_lt (pe_c c_law_take hr (by decide) rfl (pa_cons (pv 0) (pa_cons pe_int pa_nil))) pe_int (nomark _))
      (pss_one (ps_ret (pe_c c_law_take hr (by decide) rfl (pa_cons (pv 0) (pa_cons pe_int pa_nil)))))
      pss_nil)
      (pss_cons (ps_set (i := 1) scNumber.nd rfl (Or.inl rfl) pe_int)
      (pss_cons (ps_for PassesOwn.never rfl (pi_range1 (by rfl) T.b_range (pa_cons pe_int pa_nil)) (pg_name (i := 2) scNumber.nd rfl (Or.inl rfl))
      (pss_one (ps_set (i := 1) scNumber.nd rfl (Or.inl rfl) (pe_op op_add (pe_op op_mul (pv 1) pe_int) (pe_c c_law_take hr (by decide) rfl (pa_cons (pv 0) (pa_cons pe_int pa_nil)))))))
      (pss_one (ps_ret (pv 1)))))), ?_⟩
    refine ⟨_, rfl, p, 4, rfl, tp, by decide, fun i H1 i0 i1 x1 t1 => ⟨_, _, rfl, rfl, _, rfl, ite2 (fun _ => ?_) (fun _ => ?_)⟩⟩
    · exact ⟨_, rfl, p, 10, rfl, t1, by decide, fun j H2 j0 j1 x2 t2 => q j H2 j0 (by omega) (x1.trans x2) t2⟩
    · refine ⟨5, rfl, by decide, by decide, for_range (lo := 0) (n := 5) (fun i σ H' => ∃ (m : Int) (kv : Option V), σ = [some (.ref p), some (.int m), kv] ∧ 0 ≤ m ∧ m < 720720 ^ i ∧ Fx p H H' ∧ Tape H' p)
        ⟨0, none, rfl, by decide, by decide, x1, t1⟩ ?_ ?_⟩
      · rintro i σ H' hi ⟨m, kv, rfl, m0, m1, x2, t2⟩
        refine ⟨_, rfl, _, _, rfl, rfl, .inr ⟨by decide, by decide⟩, _, rfl, p, 720720, rfl, t2, p72, fun d H3 d0 d1 x3 t3 => ⟨_, _, rfl, rfl, ?_⟩⟩
        have hp := pow_step m0 m1 d0 d1
        exact ⟨m * 720720 + d, _, rfl, hp.1, hp.2, x2.trans x3, t3⟩
      · rintro σ H' ⟨m, kv, rfl, m0, m1, x2, t2⟩
        have e5 : (720720 : Int) ^ 5 < 2 ^ 100 := by decide
        exact ⟨_, rfl, q m H' m0 (by omega) x2 t2⟩
theorem scWord : FnScope ["tape", "longest", "letters", "size", "word", "drawn", "k"] ["tape", "longest"] (defScope sWord) := ⟨rfl, rfl, rfl, by decide +kernel, rfl, by decide +kernel, by decide +kernel⟩
theorem abc_at : ∀ j : Nat, j < 26 → ((Str.ofString "abcdefghijklmnopqrstuvwxyz").cps.toList)[j]? = some (97 + j) := by decide +kernel
theorem abc_len : (Str.ofString "abcdefghijklmnopqrstuvwxyz").length = 26 := by decide +kernel
theorem abc_mod (d : Int) : ∃ c, letter c ∧ atI (Str.ofString "abcdefghijklmnopqrstuvwxyz").cps.toList (d % 26) = some c := by
  have h0 : 0 ≤ d % 26 := Int.emod_nonneg _ (by decide)
  have h1 : d % 26 < 26 := Int.emod_lt_of_pos _ (by decide)
  obtain ⟨j, hj⟩ : ∃ j : Nat, d % 26 = (j : Int) := ⟨(d % 26).toNat, by omega⟩
  refine ⟨97 + j, ⟨by omega, by omega⟩, ?_⟩
  rw [hj]
  exact atI_nat (abc_at j (by omega))
theorem len_tl (x : Str) : x.length = x.cps.toList.length := by simp [Str.length]
theorem cat_tl (x y : Str) : (x ++ y).cps.toList = x.cps.toList ++ y.cps.toList := SX.S_inj (by rw [SX.S_tl, ← SX.S_cat, SX.S_tl, SX.S_tl])
theorem cat_len (x y : Str) : (x ++ y).length = x.length + y.length := by rw [len_tl, len_tl x, len_tl y, cat_tl, List.length_append]
theorem Az.cat {x y : Str} (a : Az x) (b : Az y) : Az (x ++ y) := fun c hc => by
  rw [cat_tl] at hc
  rcases List.mem_append.mp hc with h | h
  · exact a c h
  · exact b c h
theorem cut_tl (x : Str) {i : Int} (h : 0 ≤ i) : (Txt.slice x none (some i)).cps.toList = x.cps.toList.take i.toNat := by
  have e := SX.slice_to (a := x.cps.toList) h
  rw [SX.S_tl] at e
  rw [e]
theorem Az.cut {x : Str} (a : Az x) {i : Int} (h : 0 ≤ i) : Az (Txt.slice x none (some i)) := fun c hc => by
  rw [cut_tl x h] at hc
  exact a c (List.mem_of_mem_take hc)
theorem cut_len (x : Str) {i : Int} (h : 0 ≤ i) : (Txt.slice x none (some i)).length = min i.toNat x.length := by rw [len_tl, cut_tl x h, List.length_take, len_tl x]
theorem one_len (c : Nat) : (⟨#[c]⟩ : Str).length = 1 := rfl
theorem Az.one {c : Nat} (h : letter c) : Az ⟨#[c]⟩ := fun d hd => by
  have e : d = c := by simpa using hd
  rw [e]
  exact h
theorem line_big {n : Nat} (h : n ≤ 100000) : n ≤ sizeLine := Nat.le_trans h (by rw [sizeLine_eq]; decide)
theorem c_word (T : Bt mg) (D : Dfn K mg "_law_word" sWord ["tape", "longest"]) (c_law_take : Cal P w K mg base 1 "_law_take" spTake) : Cal P w K mg base 2 "_law_word" spWord := by
  refine D.cal scWord (fun vs H Q E h => ?_) (fun f cdv A outer s H vs Q E hr h => ?_)
  · obtain ⟨p, m, rfl, _⟩ := h
    rfl
  · obtain ⟨p, m, rfl, tp, m0, m1, q⟩ := h
    refine ⟨_, (pss_cons (ps_set (i := 2) scWord.nd rfl (Or.inl rfl) pe_str)
      (pss_cons (ps_set (i := 3) scWord.nd rfl (Or.inl rfl) (pe_op op_add pe_int (pe_c c_law_take hr (by decide) rfl (pa_cons (pv 0) (pa_cons (pv 1) pa_nil)))))
      (pss_cons (ps_set (i := 4) scWord.nd rfl (Or.inl rfl) pe_str)
      (pss_cons (ps_while PassesOwn.never (pt_cmpR op_lt (pe_callB call_len_str (by rfl) T.b_len PySem.boot_len (pa_cons (pv 4) pa_nil)) (pv 3) (nomark _))
      (pss_cons (ps_set (i := 5) scWord.nd rfl (Or.inl rfl) (pe_c c_law_take hr (by decide) rfl (pa_cons (pv 0) (pa_cons pe_int pa_nil))))
      (pss_one (ps_for PassesOwn.never rfl (pi_range1 (by rfl) T.b_range (pa_cons pe_int pa_nil)) (pg_name (i := 6) scWord.nd rfl (Or.inl rfl))
      (pss_cons (ps_set (i := 4) scWord.nd rfl (Or.inl rfl) (pe_op op_add_str (pv 4) (pe_ix ix_str (pv 2) (pe_op op_mod (pe_callTy call_int1 (by rfl) T.b_int (by decide +kernel) (pa_cons (pv 5) pa_nil)) pe_int) (fun _ _ => rfl))))
      (pss_one (ps_set (i := 5) scWord.nd rfl (Or.inl rfl) (pe_op op_fdiv (pv 5) pe_int))))))))
      (pss_one (ps_ret (pe_slice C8.sl_txt (pv 4) po_none (po_some (pv 3))))))))), ?_⟩
    refine ⟨_, rfl, _, rfl, p, m, rfl, tp, m0, fun z H1 z0 z1 x1 t1 => ⟨_, _, rfl, rfl, ?_⟩⟩
    refine ⟨fun n σ H' => ∃ (x : Str) (dv kv : Option V), σ = [some (.ref p), some (.int m), some (.str "abcdefghijklmnopqrstuvwxyz"), some (.int (1 + z)), some (.str x), dv, kv] ∧ n = 200 - x.length ∧ x.length ≤ 150 ∧ Az x ∧ Fx p H H' ∧ Tape H' p,
      ⟨_, Str.ofString "", none, none, rfl, rfl, by decide, (fun c hc => by cases hc), x1, t1⟩, ?_⟩
    rintro n σ H' ⟨x, dv, kv, rfl, rfl, xl, xa, x2, t2⟩
    refine ⟨_, rfl, x, rfl, line_big (by omega), _, rfl, _, _, rfl, rfl, _, rfl, ite2 (fun hlt => ?_) (fun hge => ?_)⟩
    · have hlt' := of_decide_eq_true hlt
      refine ⟨fun σ' H2 => ∃ (y : Str) (dv kv : Option V), σ' = [some (.ref p), some (.int m), some (.str "abcdefghijklmnopqrstuvwxyz"), some (.int (1 + z)), some (.str y), dv, kv] ∧ y.length = x.length + 4 ∧ Az y ∧ Fx p H H2 ∧ Tape H2 p,
        fun σ' H2 hN => ?_, ?_⟩
      · obtain ⟨y, dv, kv, rfl, yl, ya, x3, t3⟩ := hN
        exact ⟨200 - y.length, by omega, y, dv, kv, rfl, rfl, by omega, ya, x3, t3⟩
      · refine ⟨_, rfl, p, 720720, rfl, t2, p72, fun d H3 d0 d1 x3 t3 => ?_⟩
        refine ⟨4, rfl, by decide, by decide, for_range (lo := 0) (n := 4) (fun i σ' H2 => ∃ (y : Str) (d : Int) (kv : Option V), σ' = [some (.ref p), some (.int m), some (.str "abcdefghijklmnopqrstuvwxyz"), some (.int (1 + z)), some (.str y), some (.int d), kv] ∧ y.length = x.length + i ∧ Az y ∧ Fx p H H2 ∧ Tape H2 p)
          ⟨x, d, kv, rfl, rfl, xa, x2.trans x3, t3⟩ ?_ ?_⟩
        · rintro i σ' H2 hi ⟨y, d, kv, rfl, yl, ya, x4, t4⟩
          obtain ⟨c, hc, hat⟩ := abc_mod d
          refine ⟨_, rfl, _, rfl, _, rfl, .inl ⟨_, rfl, _, _, rfl, rfl, (by decide : (0 : Int) < 26), ?_⟩⟩
          refine ⟨_, _, c, rfl, rfl, by rw [abc_len]; exact line_big (by decide), hat, _, _, rfl, rfl, ?_, ?_⟩
          · rw [one_len]
            exact line_big (by omega)
          · refine ⟨_, rfl, _, _, rfl, rfl, ⟨by decide, by decide⟩, ?_⟩
            exact ⟨_, _, _, rfl, by rw [cat_len, yl, one_len]; omega, ya.cat (Az.one hc), x4, t4⟩
        · rintro σ' H2 ⟨y, d, kv, rfl, yl, ya, x4, t4⟩
          exact ⟨y, _, _, rfl, yl, ya, x4, t4⟩
    · have hge' : ¬ ((x.length : Int) < 1 + z) := fun c => hge (decide_eq_true c)
      refine ⟨_, rfl, _, rfl, _, rfl, x, rfl, line_big (by omega), ?_⟩
      have h1z : 0 ≤ 1 + z := by omega
      refine q _ H' ?_ ?_ (xa.cut h1z) x2 t2
      · rw [cut_len x h1z]
        omega
      · rw [cut_len x h1z]
        omega
end
end Lw
namespace Lw
open PySem PySem.Spec PyProof.Rows L2 GrT
/-! ### texts in a list, counted -/
theorem inV_str {a : Str} : ∀ {bs : List Str}, inV (.str a) (bs.map V.str) = true ↔ a ∈ bs
  | [] => by simp [inV]
  | b :: bs => by
    have ih := inV_str (a := a) (bs := bs)
    unfold inV at ih ⊢
    rw [List.map_cons, List.any_cons, Bool.or_eq_true, ih, List.mem_cons]
    have e : eqV (.str b) (.str a) = true ↔ a = b := by
      show (b == a) = true ↔ a = b
      rw [beq_iff_eq]
      exact eq_comm
    rw [e]
theorem flat_str (bs : List Str) : (bs.map V.str).all flatV = true := by
  rw [List.all_map, List.all_eq_true]
  intro x _
  rfl
theorem sub_len {α : Type} [DecidableEq α] : ∀ {l m : List α}, l.Nodup → (∀ x ∈ l, x ∈ m) → l.length ≤ m.length
  | [], m, _, _ => Nat.zero_le _
  | a :: l, m, nd, h => by
    have nd' := List.nodup_cons.mp nd
    have hm := h a List.mem_cons_self
    have ih := sub_len (l := l) (m := m.erase a) nd'.2 fun x hx => by
      have ne : x ≠ a := fun e => nd'.1 (e ▸ hx)
      exact (List.mem_erase_of_ne ne).mpr (h x (List.mem_cons_of_mem _ hx))
    rw [List.length_erase_of_mem hm] at ih
    have : 0 < m.length := List.length_pos_of_mem hm
    rw [List.length_cons]
    omega
theorem nodup_map {α β : Type} {f : α → β} : ∀ {l : List α}, l.Nodup → (∀ a ∈ l, ∀ b ∈ l, f a = f b → a = b) → (l.map f).Nodup
  | [], _, _ => List.nodup_nil
  | a :: l, nd, h => by
    have nd' := List.nodup_cons.mp nd
    rw [List.map_cons]
    refine List.nodup_cons.mpr ⟨fun hm => ?_, nodup_map nd'.2 fun x hx y hy => h x (List.mem_cons_of_mem _ hx) y (List.mem_cons_of_mem _ hy)⟩
    obtain ⟨b, hb, e⟩ := List.mem_map.mp hm
    have := h b (List.mem_cons_of_mem _ hb) a List.mem_cons_self e
    exact nd'.1 (this ▸ hb)
/-- a text and one of the twenty-six signs behind it -/
def cand (u : Str) (j : Nat) : Str := u ++ ⟨#[97 + j]⟩
theorem cand_inj {u : Str} {i j : Nat} (h : cand u i = cand u j) : i = j := by
  have e := congrArg (fun x : Str => x.cps.toList) h
  simp only [cand, cat_tl] at e
  have e2 := List.append_cancel_left e
  simp at e2
  exact e2
theorem some_free (u : Str) (bs : List Str) (h : bs.length < 26) : ∃ j, j < 26 ∧ cand u j ∉ bs := by
  by_cases q : ∃ j, j < 26 ∧ cand u j ∉ bs
  · exact q
  · have all : ∀ x ∈ (List.range 26).map (cand u), x ∈ bs := fun x hx => by
      obtain ⟨j, hj, rfl⟩ := List.mem_map.mp hx
      by_cases m : cand u j ∈ bs
      · exact m
      · exact absurd ⟨j, List.mem_range.mp hj, m⟩ q
    have nd : ((List.range 26).map (cand u)).Nodup := nodup_map List.nodup_range fun a _ b _ e => cand_inj e
    have := sub_len nd all
    rw [List.length_map, List.length_range] at this
    omega
/-! ### rules where the written part is named (within a comprehension's block) -/
theorem op_notInK {X : Cx} {K : PySem.W.Frag} (h : X.K = K) : OpR X (compareOp .NotIn) (rIn K true) := h ▸ op_notIn_seq
theorem op_inK {X : Cx} {K : PySem.W.Frag} (h : X.K = K) : OpR X (compareOp .In) (rIn K false) := h ▸ op_in_seq
theorem ix_listK {X : Cx} {K : PySem.W.Frag} (h : X.K = K) : IxR X (rIxL K) := h ▸ ix_list
/-! ### tests of which nothing is told -/
def tU (R : L2.St → Hp → Prop) : TT := fun σ H Q => R σ H ∧ Q true H ∧ Q false H
def quiet (t : TT) : L2.St → Hp → Prop := fun σ H => t σ H fun _ H1 => H1 = H
theorem pt_U {X : Cx} {e : Expr} {t : TT} (h : PT X e t) : PT X e (tU (quiet t)) := ⟨fun pins s σ H Q I q => thn (h.run pins s σ H _ I q.1) fun b s1 hb => by
  obtain ⟨H1, I1, rfl⟩ := hb
  cases b
  · exact ⟨_, I1, q.2.2⟩
  · exact ⟨_, I1, q.2.1⟩⟩
theorem pw_orU1 {X : Cx} {a : Expr} {t : TT} {pos : Pos} (h : PT X a t) : PW X (.BoolOp .Or [a] pos) (tU (quiet t)) := pw_or1 (pt_U h)
theorem pw_orU {X : Cx} {a b : Expr} {rest : List Expr} {t : TT} {R : L2.St → Hp → Prop} {pos : Pos} (ha : PT X a t) (hb : PW X (.BoolOp .Or (b :: rest) pos) (tU R)) : PW X (.BoolOp .Or (a :: b :: rest) pos) (tU fun σ H => quiet t σ H ∧ R σ H) := by
  have z := pw_or (pt_U ha) hb
  refine ⟨fun wh pins s σ H Q I q => z.run wh pins s σ H Q I ?_⟩
  obtain ⟨⟨q1, q2⟩, q3, q4⟩ := q
  exact ⟨q1, iteT q3, iteF ⟨q2, q3, q4⟩⟩
theorem un_ne {H : Hp} {a b : Addr} {o : HO} (h : upd H a o b = none) : b ≠ a := fun e => by
  rw [e, upd_same] at h
  cases h
theorem un {H : Hp} {a b : Addr} {o : HO} (h : upd H a o b = none) : H b = none := by
  exact (upd_ne (o := o) (un_ne h)).symm.trans h
theorem Tape.ne'' {H : Hp} {p a : Addr} (t : Tape H p) (h : H a = none) : a ≠ p := fun e => by
  obtain ⟨ns, q, _⟩ := t
  rw [e, q] at h
  cases h
theorem Tape.ne' {H H' : Hp} {p a : Addr} (_ : Tape H' p) (h : H a = none) (t : Tape H p) : a ≠ p := t.ne'' h
/-- a drawn name -/
structure Nm (x : Str) : Prop where
  one : 1 ≤ x.length
  eight : x.length ≤ 8
  az : Az x
def spWords : Sp := fun vs H Q _ => ∃ (p tk : Addr) (m : Int) (ts : List Str), vs = [.ref p, .int m, .ref tk] ∧ Tape H p ∧ H tk = some (.lst (ts.map V.str)) ∧ tk ≠ p ∧ 0 ≤ m ∧ m + ts.length ≤ 20 ∧
  ∀ (W : Addr) (ws : List Str) H', H W = none → H' W = some (.lst (ws.map V.str)) → (ws.length : Int) = m → (∀ x ∈ ws, Nm x) → Fx p H H' → Tape H' p → Q (.ref W) H'
section
variable {P : Program} {w : World} {K : PySem.W.Frag} {mg : Str → Option Value} {base : Heap}
theorem scWords : FnScope ["tape", "many", "taken", "reserved", "words", "k", "word", "barred", "ends", "letter"] ["tape", "many", "taken"] (defScope sWords) := ⟨rfl, rfl, rfl, by decide +kernel, rfl, by decide +kernel, by decide +kernel⟩
theorem q_one : (Str.ofString "q").cps.toList = [113] := by decide +kernel
theorem q_len : (Str.ofString "q").length = 1 := by decide +kernel
theorem q_az : Az (Str.ofString "q") := fun c hc => by
  rw [q_one] at hc
  have e : c = 113 := by simpa using hc
  rw [e]
  exact ⟨by decide, by decide⟩
theorem words_cut {σ : L2.St} {i : Nat} : True := trivial
theorem c_words (T : Bt mg) (D : Dfn K mg "_law_words" sWords ["tape", "many", "taken"]) (c_law_word : Cal P w K mg base 2 "_law_word" spWord) : Cal P w K mg base 3 "_law_words" spWords := by
  refine D.cal scWords (fun vs H Q E h => ?_) (fun f cdv A outer s H vs Q E hr h => ?_)
  · obtain ⟨p, tk, m, ts, rfl, _⟩ := h
    rfl
  · obtain ⟨p, tk, m, ts, rfl, tp, htk, tkp, m0, m1, q⟩ := h
    refine ⟨_, (pss_cons (ps_set (i := 3) scWords.nd rfl (Or.inl rfl) (pe_lst (pa_cons pe_str (pa_cons pe_str (pa_cons pe_str (pa_cons pe_str (pa_cons pe_str (pa_cons pe_str (pa_cons pe_str (pa_cons pe_str (pa_cons pe_str (pa_cons pe_str (pa_cons pe_str (pa_cons pe_str (pa_cons pe_str (pa_cons pe_str pa_nil))))))))))))))))
      (pss_cons (ps_set (i := 3) scWords.nd rfl (Or.inl rfl) (pe_op op_cat (pv 3) (pe_lst (pa_cons pe_str (pa_cons pe_str (pa_cons pe_str (pa_cons pe_str pa_nil)))))))
      (pss_cons (ps_set (i := 4) scWords.nd rfl (Or.inl rfl) (pe_lst pa_nil))
      (pss_cons (ps_for PassesOwn.never rfl (pi_range1 (by rfl) T.b_range (pa_cons (pv 1) pa_nil)) (pg_name (i := 5) scWords.nd rfl (Or.inl rfl))
      (pss_cons (ps_set (i := 6) scWords.nd rfl (Or.inr rfl) (pe_c c_law_word hr (by decide) rfl (pa_cons (pv 0) (pa_cons pe_int pa_nil))))
      (C8.pss_cut (ps_if (PW.pt (pw_orU (pt_cmpR op_in_seq (pv 6) (pv 3) (by rfl)) (pw_orU (pt_cmpR op_in_seq (pv 6) (pv 4) (by rfl)) (pw_orU1 (pt_cmpR op_in_seq (pv 6) (pv 2) (by rfl))))))
      (pss_cons (ps_set (i := 7) scWords.nd rfl (Or.inr rfl) (pe_op op_cat (pv 4) (pv 2)))
      (pss_cons (ps_setLc (i := 8) (own := [("letter", 9)]) (g := gName 9) rfl scWords.nd rfl rfl (sw_true rfl rfl rfl (by decide +kernel)) (pi_str pe_str) (blkOk_by (own := [("letter", 9)]) (N := ["tape", "many", "taken", "reserved", "words", "k", "word", "barred", "ends", "letter"]) (sc := defScope sWords) (by decide +kernel)) (fun _ _ _ _ _ => pg_name (i := 9) scWords.nd rfl (Or.inl rfl)) (fun _ _ _ _ _ => (by exact (pts_one (pt_cmpR (op_notInK (K := K) rfl) (pe_op op_add_str (pe_op op_add_str (pe_slice C8.sl_txt (pv 6) po_none (po_some pe_int)) pe_str) (pv 9)) (pv 7) (by rfl))))) (fun _ _ _ _ _ => (pv 9)))
      (pss_one (ps_set (i := 6) scWords.nd rfl (Or.inr rfl) (pe_op op_add_str (pe_op op_add_str (pe_slice C8.sl_txt (pv 6) po_none (po_some pe_int)) pe_str) (pe_ix ix_list (pv 8) pe_int (fun _ _ => rfl)))))))
      pss_nil)
      (pss_one (ps_expr (pe_bm PySem.F.plainAttrs_list PySem.F.slot_list_append PySem.F.type_list_append mt_append (pv 4) (pa_cons (pv 6) pa_nil)))))))
      (pss_one (ps_ret (pv 4))))))), ?_⟩
    refine ⟨by rw [sizeLine_eq]; decide, fun r1 hr1 => ?_⟩
    refine ⟨_, rfl, by rw [sizeLine_eq]; decide, fun r2 hr2 => ?_⟩
    have r12 : r1 ≠ r2 := ne_of_none upd_same hr2
    refine ⟨r1, r2, _, _, rfl, rfl, by rw [upd_ne r12]; exact upd_same, upd_same, by rw [sizeLine_eq]; decide, fun R hR => ?_⟩
    refine ⟨Nat.zero_le _, fun W hW => ?_⟩
    have hR0 := un (un hR)
    have hW0 := un (un (un hW))
    have eR : (upd (upd (upd (upd H r1 (.lst [V.str "add", V.str "and", V.str "cut", V.str "def", V.str "drop", V.str "else", V.str "has", V.str "if", V.str "in", V.str "is", V.str "let", V.str "not", V.str "only", V.str "put"])) r2 (.lst [V.str "record", V.str "rename", V.str "then", V.str "to"])) R
      (.lst ([V.str "add", V.str "and", V.str "cut", V.str "def", V.str "drop", V.str "else", V.str "has", V.str "if", V.str "in", V.str "is", V.str "let", V.str "not", V.str "only", V.str "put"] ++ [V.str "record", V.str "rename", V.str "then", V.str "to"]))) W (.lst [])) R = some (.lst ([V.str "add", V.str "and", V.str "cut", V.str "def", V.str "drop", V.str "else", V.str "has", V.str "if", V.str "in", V.str "is", V.str "let", V.str "not", V.str "only", V.str "put"] ++ [V.str "record", V.str "rename", V.str "then", V.str "to"])) := by
      rw [upd_ne (un_ne hW).symm]
      exact upd_same
    generalize hrs : ([V.str "add", V.str "and", V.str "cut", V.str "def", V.str "drop", V.str "else", V.str "has", V.str "if", V.str "in", V.str "is", V.str "let", V.str "not", V.str "only", V.str "put"] ++ [V.str "record", V.str "rename", V.str "then", V.str "to"] : List V) = rs at eR hR hW ⊢
    have hfl : rs.all flatV = true := by
      rw [← hrs]
      rfl
    have x0 := (((((Fx.refl (T := p) (H := H)).new (o := .lst [V.str "add", V.str "and", V.str "cut", V.str "def", V.str "drop", V.str "else", V.str "has", V.str "if", V.str "in", V.str "is", V.str "let", V.str "not", V.str "only", V.str "put"]) hr1).new (o := .lst [V.str "record", V.str "rename", V.str "then", V.str "to"]) hr2).new (o := .lst rs) hR).new (o := .lst []) hW)
    have t0 := ((((tp.new (o := .lst [V.str "add", V.str "and", V.str "cut", V.str "def", V.str "drop", V.str "else", V.str "has", V.str "if", V.str "in", V.str "is", V.str "let", V.str "not", V.str "only", V.str "put"]) hr1).new (o := .lst [V.str "record", V.str "rename", V.str "then", V.str "to"]) hr2).new (o := .lst rs) hR).new (o := .lst []) hW)
    generalize hH0 : upd (upd (upd (upd H r1 (.lst [V.str "add", V.str "and", V.str "cut", V.str "def", V.str "drop", V.str "else", V.str "has", V.str "if", V.str "in", V.str "is", V.str "let", V.str "not", V.str "only", V.str "put"])) r2 (.lst [V.str "record", V.str "rename", V.str "then", V.str "to"])) R (.lst rs)) W (.lst []) = H0 at eR x0 t0 ⊢
    have eW : H0 W = some (.lst []) := by
      rw [← hH0]
      exact upd_same
    have RW : R ≠ W := (un_ne hW).symm
    have Rp : R ≠ p := t0.ne' hR0 tp
    have Wp : W ≠ p := t0.ne' hW0 tp
    have kW : tk ≠ W := ne_of_none htk hW0
    refine ⟨_, rfl, m, rfl, by omega, by omega, for_range (lo := 0) (n := m.toNat) (fun i σ H' => ∃ (kv wv bv ev lv : Option V) (ws : List Str), σ = [some (.ref p), some (.int m), some (.ref tk), some (.ref R), some (.ref W), kv, wv, bv, ev, lv] ∧
      H' R = some (.lst rs) ∧ H' W = some (.lst (ws.map V.str)) ∧ H' tk = some (.lst (ts.map V.str)) ∧ ws.length = i ∧ (∀ x ∈ ws, Nm x) ∧ Fx p H H' ∧ Tape H' p)
      ⟨none, none, none, none, none, [], rfl, eR, eW, x0 _ _ tkp htk, rfl, (fun x hx => by cases hx), x0, t0⟩ ?_ ?_⟩
    · rintro i σ H' hi ⟨kv, wv, bv, ev, lv, ws, rfl, aR, aW, ak, wl, wn, x1, t1⟩
      refine ⟨_, rfl, p, 8, rfl, t1, by decide, by decide, fun x H3 xl1 xl8 xa y3 t3 => ?_⟩
      have bR := y3 _ _ Rp aR
      have bW := y3 _ _ Wp aW
      have bk := y3 _ _ tkp ak
      refine ⟨fun σ' H2 => ∃ (kv bv ev lv : Option V) (y : Str), σ' = [some (.ref p), some (.int m), some (.ref tk), some (.ref R), some (.ref W), kv, some (.str y), bv, ev, lv] ∧ Nm y ∧
        H2 R = some (.lst rs) ∧ H2 W = some (.lst (ws.map V.str)) ∧ H2 tk = some (.lst (ts.map V.str)) ∧ Fx p H H2 ∧ Tape H2 p, ⟨⟨⟨_, rfl, _, rfl, R, rs, rfl, .inl (SqL.of bR), rfl, hfl, _, rfl, rfl⟩, ⟨_, rfl, _, rfl, W, _, rfl, .inl (SqL.of bW), rfl, flat_str _, _, rfl, rfl⟩, ⟨_, rfl, _, rfl, tk, _, rfl, .inl (SqL.of bk), rfl, flat_str _, _, rfl, rfl⟩⟩, iteT ?_, iteF ?_⟩, ?_⟩
      · -- a name that is taken: another end
        refine ⟨_, rfl, _, rfl, W, tk, _, _, rfl, rfl, bW, bk, line_big (by rw [List.length_map, List.length_map]; omega), fun B hB => ?_⟩
        have Bp : B ≠ p := t3.ne'' hB
        have x3 : Fx p H (upd H3 B (.lst (ws.map V.str ++ ts.map V.str))) := (x1.trans y3).new hB
        have t4 : Tape (upd H3 B (.lst (ws.map V.str ++ ts.map V.str))) p := t3.new hB
        have eB : ws.map V.str ++ ts.map V.str = (ws ++ ts).map V.str := by rw [List.map_append]
        rw [eB] at x3 t4 ⊢
        have cR : upd H3 B (.lst ((ws ++ ts).map V.str)) R = some (.lst rs) := by rw [upd_ne (ne_of_none bR hB)]; exact bR
        have cW : upd H3 B (.lst ((ws ++ ts).map V.str)) W = some (.lst (ws.map V.str)) := by rw [upd_ne (ne_of_none bW hB)]; exact bW
        have ck : upd H3 B (.lst ((ws ++ ts).map V.str)) tk = some (.lst (ts.map V.str)) := by rw [upd_ne (ne_of_none bk hB)]; exact bk
        generalize hH4 : upd H3 B (.lst ((ws ++ ts).map V.str)) = H4 at x3 t4 cR cW ck ⊢
        have cB : H4 B = some (.lst ((ws ++ ts).map V.str)) := by
          rw [← hH4]
          exact upd_same
        -- the signs that give a free name
        have ul : (Txt.slice x none (some 6) ++ Str.ofString "q").length ≤ 7 := by
          rw [cat_len, cut_len x (by decide), q_len]
          omega
        have ua : Az (Txt.slice x none (some 6) ++ Str.ofString "q") := (xa.cut (by decide)).cat q_az
        obtain ⟨j0, hj0, free⟩ := some_free (Txt.slice x none (some 6) ++ Str.ofString "q") (ws ++ ts) (by rw [List.length_append]; omega)
        refine ⟨_, rfl, fun Z hZ => lc_it walk_str (fun i H5 => ∃ es : List Nat, H5 Z = some (.lst (es.map fun c => V.str ⟨#[c]⟩)) ∧ es.length ≤ i ∧ (∀ c ∈ es, letter c) ∧ (j0 < i → es ≠ []) ∧ (∀ b o, b ≠ Z → H4 b = some o → H5 b = some o))
          ⟨[], upd_same, Nat.le_refl _, (fun c hc => by cases hc), (fun h => absurd h (Nat.not_lt_zero _)), fun b o hb e => by rw [upd_ne hb]; exact e⟩ (fun _ _ _ _ => True.intro) ?_ ?_⟩
        · rintro i5 y5 H5 H6 hi5 ⟨es, e1, e2, e3, e4, e5⟩ ⟨rfl, c, hc, rfl⟩
          have cc : c = 97 + i5 := by
            have h26 : i5 < 26 := by
              have := (Array.getElem?_eq_some_iff.mp hc).1
              have q := abc_len
              unfold Str.length at q
              omega
            have z := abc_at i5 h26
            rw [Array.getElem?_toList, hc] at z
            exact Option.some.inj z
          subst cc
          have h26 : i5 < 26 := by
            have := (Array.getElem?_eq_some_iff.mp hc).1
            have q := abc_len
            unfold Str.length at q
            omega
          have BZ : B ≠ Z := ne_of_none cB hZ
          refine ⟨rfl, _, rfl, _, rfl, x, rfl, line_big (by omega), _, _, rfl, rfl, line_big (by rw [cut_len x (by decide), q_len]; omega), _, rfl, _, _, rfl, rfl, line_big (by rw [one_len]; omega), _, rfl, B, _, rfl, .inl (SqL.of (e5 _ _ BZ cB)), rfl, flat_str _, _, rfl, ?_⟩
          refine ite2 (fun _ => ?_) (fun hno => ?_)
          · refine ⟨_, rfl, _, e1, line_big (by rw [List.length_map]; omega), es ++ [97 + i5], by rw [upd_same, List.map_append]; rfl, by rw [List.length_append]; simpa using e2, fun c h => ?_, fun _ h => ?_, fun b o nb e => by rw [upd_ne nb]; exact e5 b o nb e⟩
            · rcases List.mem_append.mp h with h | h
              · exact e3 c h
              · rw [List.mem_singleton.mp h]
                exact ⟨by omega, by omega⟩
            · simp at h
          · refine ⟨es, e1, by omega, e3, fun h => ?_, e5⟩
            by_cases hj : j0 < i5
            · exact e4 hj
            · have ej : j0 = i5 := by omega
              refine absurd ?_ hno
              show (!inV (V.str (cand (Txt.slice x none (some 6) ++ Str.ofString "q") i5)) ((ws ++ ts).map V.str)) = true
              rw [← ej, Bool.not_eq_true', ← Bool.not_eq_true]
              exact fun z => free (inV_str.mp z)
        · rintro H5 ⟨es, e1, e2, e3, e4, e5⟩
          have ne : es ≠ [] := e4 (by
            have q := abc_len
            unfold Str.length at q
            omega)
          obtain ⟨c, es, rfl⟩ : ∃ c es', es = c :: es' := by
            cases es with
            | nil => exact absurd rfl ne
            | cons c es => exact ⟨c, es, rfl⟩
          have hc := e3 c List.mem_cons_self
          refine ⟨_, rfl, _, rfl, x, rfl, line_big (by omega), _, _, rfl, rfl, line_big (by rw [cut_len x (by decide), q_len]; omega), _, rfl, Z, _, _, _, rfl, rfl, SqL.of e1, atI_nat (j := 0) rfl, _, _, rfl, rfl, line_big (by rw [one_len]; omega), ?_⟩
          have BZ : B ≠ Z := ne_of_none cB hZ
          refine ⟨_, _, _, _, (Txt.slice x none (some 6) ++ Str.ofString "q") ++ ⟨#[c]⟩, rfl, ⟨?_, ?_, ua.cat (Az.one hc)⟩, e5 _ _ (ne_of_none cR hZ) cR, e5 _ _ (ne_of_none cW hZ) cW, e5 _ _ (ne_of_none ck hZ) ck, ?_, ?_⟩
          · rw [cat_len, one_len]
            omega
          · rw [cat_len, one_len]
            omega
          · exact fun b o nb e => e5 b o (ne_of_none (x3 b o nb e) hZ) (x3 b o nb e)
          · obtain ⟨ns, tl, tz⟩ := t4
            exact ⟨ns, e5 p _ (ne_of_none tl hZ) tl, tz⟩
      · exact ⟨_, _, _, _, x, rfl, ⟨xl1, by omega, xa⟩, bR, bW, bk, x1.trans y3, t3⟩
      · rintro σ' H2 ⟨kv, bv, ev, lv, y, rfl, yn, cR, cW, ck, x4, t4⟩
        refine ⟨_, rfl, .inl ⟨rfl, _, .inl (.inl cW)⟩, _, rfl, W, _, _, rfl, rfl, cW, small1000 (by rw [List.length_map]; omega), ?_⟩
        refine ⟨_, _, _, _, _, ws ++ [y], rfl, ?_, ?_, ?_, by rw [List.length_append, wl]; rfl, fun z hz => ?_, fun b o nb e => ?_, t4.put Wp⟩
        · rw [upd_ne RW]
          exact cR
        · rw [upd_same, List.map_append]
          rfl
        · rw [upd_ne kW]
          exact ck
        · rcases List.mem_append.mp hz with h | h
          · exact wn z h
          · rw [List.mem_singleton.mp h]
            exact yn
        · rw [upd_ne (ne_of_none e hW0)]
          exact x4 b o nb e
    · rintro σ H' ⟨kv, wv, bv, ev, lv, ws, rfl, aR, aW, ak, wl, wn, x1, t1⟩
      exact ⟨_, rfl, q W ws H' hW0 aW (by omega) wn x1 t1⟩
end
end Lw
namespace Lw
open PySem PySem.Spec PyProof.Rows L2 GrT
abbrev sLong : Stmt := top 20
abbrev sPool : Stmt := top 21
abbrev sFields : Stmt := top 22
abbrev sCount : Stmt := top 24
abbrev sSorted : Stmt := top 25
abbrev sIsInt : Stmt := top 26
abbrev sTold : Stmt := top 27
abbrev sLaw : Stmt := top 31
/-! ### a text some times over -/
theorem op_mul_str {X : Cx} : OpR X (binaryOp .Mult) (fun x y H Q => ∃ i n, x = .str i ∧ y = .int n ∧ MulOk i n ∧ Q (.str (PySem.Txt.mul i n)) H) := by
  intro pins s σ H x y v u Q I rx ry h
  obtain ⟨i, n, rfl, rfl, hz, q⟩ := h
  obtain ⟨t, rfl⟩ := rx
  obtain ⟨t', rfl⟩ := ry
  exact PySem.SB.mul hz (fun t' tk => ⟨.str (PySem.Txt.mul i n), H, I.tok _, ⟨_, rfl⟩, q⟩)
theorem fold_tl (a : Array Nat) : ∀ (k : Nat) (acc : Array Nat), ((List.replicate k a).foldl (· ++ ·) acc).toList = acc.toList ++ (List.replicate k a.toList).flatten
  | 0, acc => by simp
  | k + 1, acc => by
    rw [List.replicate_succ, List.foldl_cons, fold_tl a k, List.replicate_succ, List.flatten_cons, Array.toList_append, List.append_assoc]
theorem mul_tl {x : Str} {n : Int} (h1 : 1 < n) (hx : 1 ≤ x.length) : (PySem.Txt.mul x n).cps.toList = (List.replicate n.toNat x.cps.toList).flatten := by
  unfold PySem.Txt.mul
  rw [if_neg (by omega)]
  have e : ¬ ((n == 1 || x.length == 0) = true) := by
    intro h
    rcases Bool.or_eq_true _ _ ▸ h with h | h
    · have := eq_of_beq h
      omega
    · have := eq_of_beq h
      omega
  rw [if_neg e, fold_tl]
  simp
theorem mul_len {x : Str} {n : Int} (h1 : 1 < n) (hx : 1 ≤ x.length) : (PySem.Txt.mul x n).length = n.toNat * x.length := by
  rw [len_tl, mul_tl h1 hx, List.length_flatten, List.map_replicate, List.sum_replicate_nat, len_tl x]
theorem Az.mul {x : Str} {n : Int} (a : Az x) (h1 : 1 < n) (hx : 1 ≤ x.length) : Az (PySem.Txt.mul x n) := fun c hc => by
  rw [mul_tl h1 hx] at hc
  obtain ⟨l, hl, hcl⟩ := List.mem_flatten.mp hc
  rw [List.eq_of_mem_replicate hl] at hcl
  exact a c hcl
theorem Nm.good {x : Str} (h : Nm x) : Good x := ⟨h.one, Nat.le_trans h.eight (by decide), h.az⟩
def spLong : Sp := fun vs H Q _ => ∃ (p : Addr) (x : Str), vs = [.ref p, .str x] ∧ Tape H p ∧ Nm x ∧ ∀ (y : Str) H', Good y → Fx p H H' → Tape H' p → Q (.str y) H'
def spPool : Sp := fun vs H Q _ => ∃ (p : Addr) (m : Int), vs = [.ref p, .int m] ∧ Tape H p ∧ 0 ≤ m ∧ m ≤ 20 ∧
  ∀ (W : Addr) (ws : List Str) H', H W = none → H' W = some (.lst (ws.map V.str)) → (ws.length : Int) = m → (∀ x ∈ ws, Good x) → Fx p H H' → Tape H' p → Q (.ref W) H'
section
variable {P : Program} {w : World} {K : PySem.W.Frag} {mg : Str → Option Value} {base : Heap}
theorem scLong : FnScope ["tape", "word"] ["tape", "word"] (defScope sLong) := ⟨rfl, rfl, rfl, by decide +kernel, rfl, by decide +kernel, by decide +kernel⟩
theorem mulOk30 {x : Str} (h : x.length ≤ 8) : MulOk x 30 := by
  refine ⟨by decide, fun _ _ => ?_, fun _ _ => ?_⟩
  · have : ((2 : Int) ^ 63 - 1) / 30 = 307445734561825860 := by decide
    omega
  · have e : (30 : Int).toNat = 30 := rfl
    rw [e]
    unfold Builtin.Str.tooLong
    have := line_big (n := x.length * 30) (by omega)
    exact decide_eq_false (by omega)
theorem c_long (T : Bt mg) (D : Dfn K mg "_law_long" sLong ["tape", "word"]) (c_law_take : Cal P w K mg base 1 "_law_take" spTake) : Cal P w K mg base 2 "_law_long" spLong := by
  refine D.cal scLong (fun vs H Q E h => ?_) (fun f cdv A outer s H vs Q E hr h => ?_)
  · obtain ⟨p, x, rfl, _⟩ := h
    rfl
  · obtain ⟨p, x, rfl, tp, nx, q⟩ := h
    refine ⟨_, (pss_cons (ps_if (pt_cmpR op_eq (pe_c c_law_take hr (by decide) rfl (pa_cons (pv 0) (pa_cons pe_int pa_nil))) pe_int (nomark _))
      (pss_one (ps_ret (pe_slice C8.sl_txt (pe_op op_mul_str (pv 1) pe_int) po_none (po_some (pe_op op_add pe_int (pe_c c_law_take hr (by decide) rfl (pa_cons (pv 0) (pa_cons pe_int pa_nil))))))))
      pss_nil)
      (pss_one (ps_ret (pv 1)))), ?_⟩
    refine ⟨_, rfl, p, 4, rfl, tp, by decide, fun i H1 i0 i1 x1 t1 => ⟨rfl, _, rfl, ite2 (fun _ => ?_) (fun _ => ?_)⟩⟩
    · have ml := mul_len (x := x) (n := 30) (by decide) nx.one
      have h30 : (30 : Int).toNat = 30 := rfl
      rw [h30] at ml
      have hx1 := nx.one
      have hx2 := nx.eight
      refine ⟨_, rfl, _, _, rfl, rfl, mulOk30 nx.eight, _, rfl, p, 22, rfl, t1, by decide, fun j H2 j0 j1 x2 t2 => ⟨_, _, rfl, rfl, _, rfl, _, rfl, line_big (by omega), ?_⟩⟩
      have h9 : 0 ≤ 9 + j := by omega
      refine q _ H2 ⟨?_, ?_, (nx.az.mul (by decide) nx.one).cut h9⟩ (x1.trans x2) t2
      · rw [cut_len _ h9, ml]
        omega
      · rw [cut_len _ h9, ml]
        omega
    · exact ⟨_, rfl, q _ H1 nx.good x1 t1⟩
theorem scPool : FnScope ["tape", "many", "pool", "word", "long"] ["tape", "many"] (defScope sPool) := ⟨rfl, rfl, rfl, by decide +kernel, rfl, by decide +kernel, by decide +kernel⟩
theorem c_pool (T : Bt mg) (D : Dfn K mg "_law_pool" sPool ["tape", "many"]) (c_law_words : Cal P w K mg base 3 "_law_words" spWords) (c_law_long : Cal P w K mg base 2 "_law_long" spLong) : Cal P w K mg base 4 "_law_pool" spPool := by
  refine D.cal scPool (fun vs H Q E h => ?_) (fun f cdv A outer s H vs Q E hr h => ?_)
  · obtain ⟨p, m, rfl, _⟩ := h
    rfl
  · obtain ⟨p, m, rfl, tp, m0, m1, q⟩ := h
    refine ⟨_, (pss_cons (ps_set (i := 2) scPool.nd rfl (Or.inl rfl) (pe_lst pa_nil))
      (pss_cons (ps_for PassesOwn.never rfl (pi_list (pe_c c_law_words hr (by decide) rfl (pa_cons (pv 0) (pa_cons (pv 1) (pa_cons (pe_lst pa_nil) pa_nil))))) (pg_name (i := 3) scPool.nd rfl (Or.inl rfl))
      (pss_cons (ps_set (i := 4) scPool.nd rfl (Or.inl rfl) (pe_c c_law_long hr (by decide) rfl (pa_cons (pv 0) (pa_cons (pv 3) pa_nil))))
      (C8.pss_cut (ps_if (pt_U (pt_cmpR op_in_seq (pv 4) (pv 2) (by rfl)))
      (pss_one (ps_set (i := 4) scPool.nd rfl (Or.inl rfl) (pv 3)))
      pss_nil)
      (pss_one (ps_expr (pe_bm PySem.F.plainAttrs_list PySem.F.slot_list_append PySem.F.type_list_append mt_append (pv 2) (pa_cons (pv 4) pa_nil)))))))
      (pss_one (ps_ret (pv 2))))), ?_⟩
    refine ⟨Nat.zero_le _, fun R hR => ?_⟩
    refine ⟨_, rfl, _, rfl, Nat.zero_le _, fun k hk => ?_⟩
    have hk0 := un hk
    have t0 := (tp.new (o := .lst []) hR).new (o := .lst []) hk
    have x0 := ((Fx.refl (T := p) (H := H)).new (o := .lst []) hR).new (o := .lst []) hk
    have eR : (upd (upd H R (.lst [])) k (.lst [])) R = some (.lst []) := by
      rw [upd_ne (un_ne hk).symm]
      exact upd_same
    have ek : (upd (upd H R (.lst [])) k (.lst [])) k = some (.lst (([] : List Str).map V.str)) := upd_same
    generalize upd (upd H R (.lst [])) k (.lst []) = H0 at t0 x0 eR ek ⊢
    have Rp : R ≠ p := tp.ne'' hR
    have kp : k ≠ p := tp.ne'' hk0
    refine ⟨p, k, m, [], rfl, t0, ek, kp, m0, by simpa using m1, fun W ws H1 hW eW wl wn x1 t1 => ?_⟩
    have RW : R ≠ W := ne_of_none eR hW
    have Wp : W ≠ p := t0.ne'' hW
    refine ⟨W, rfl, ⟨_, SqL.of eW⟩, for_list (xs := ws.map V.str) (fun i σ H' => ∃ (wv lv : Option V) (ps : List Str), σ = [some (.ref p), some (.int m), some (.ref R), wv, lv] ∧
      H' R = some (.lst (ps.map V.str)) ∧ H' W = some (.lst (ws.map V.str)) ∧ ps.length = i ∧ (∀ x ∈ ps, Good x) ∧ Fx p H H' ∧ Tape H' p)
      ⟨none, none, [], rfl, x1 _ _ Rp eR, eW, rfl, (fun x hx => by cases hx), x0.trans x1, t1⟩ ?_ ?_ ?_⟩
    · rintro i σ H' _ ⟨wv, lv, ps, rfl, _, aW, _⟩
      exact SqL.of aW
    · rintro i x σ H' hx ⟨wv, lv, ps, rfl, aR, aW, pl, pn, x2, t2⟩
      have hi : i < ws.length := by
        have := (List.getElem?_eq_some_iff.mp hx).1
        rwa [List.length_map] at this
      obtain ⟨z, hz, rfl⟩ : ∃ z, z ∈ ws ∧ x = V.str z := by
        obtain ⟨z, hz, e⟩ := List.mem_map.mp (List.mem_of_getElem? hx)
        exact ⟨z, hz, e.symm⟩
      have nz := wn z hz
      refine ⟨_, rfl, _, rfl, p, z, rfl, t2, nz, fun y H2 gy x3 t3 => ?_⟩
      have bR := x3 _ _ Rp aR
      have bW := x3 _ _ Wp aW
      refine ⟨fun σ' H3 => ∃ (y : Str), σ' = [some (.ref p), some (.int m), some (.ref R), some (.str z), some (.str y)] ∧ H3 = H2 ∧ Good y, ⟨⟨_, rfl, _, rfl, R, _, rfl, .inl (SqL.of bR), rfl, flat_str _, _, rfl, rfl⟩, iteT ?_, iteF ?_⟩, ?_⟩
      · exact ⟨_, rfl, z, rfl, rfl, nz.good⟩
      · exact ⟨y, rfl, rfl, gy⟩
      · rintro σ' H3 ⟨y, rfl, rfl, gy⟩
        refine ⟨_, rfl, .inl ⟨rfl, _, .inl (.inl bR)⟩, _, rfl, R, _, _, rfl, rfl, bR, small1000 (by rw [List.length_map]; omega), ?_⟩
        refine ⟨_, _, ps ++ [y], rfl, by rw [upd_same, List.map_append]; rfl, by rw [upd_ne RW.symm]; exact bW, by rw [List.length_append, pl]; rfl, fun v hv => ?_, ?_, t3.put Rp⟩
        · rcases List.mem_append.mp hv with h | h
          · exact pn v h
          · rw [List.mem_singleton.mp h]
            exact gy
        · intro b o nb e
          rw [upd_ne (ne_of_none e hR)]
          exact (x2.trans x3) b o nb e
    · rintro σ H' ⟨wv, lv, ps, rfl, aR, aW, pl, pn, x2, t2⟩
      rw [List.length_map] at pl
      exact ⟨_, rfl, q R ps H' hR aR (by omega) pn x2 t2⟩
end
end Lw
namespace Lw
open PySem PySem.Spec PyProof.Rows L2 GrT
/-- a promise that nobody asks -/
def spNo : Sp := fun _ _ _ _ => False
theorem Fx.back {p b : Addr} {H H' : Hp} (x : Fx p H H') (t : Tape H' p) (h : H' b = none) : H b = none := by
  cases e : H b with
  | none => rfl
  | some o =>
    by_cases q : b = p
    · obtain ⟨ns, tl, _⟩ := t
      rw [q, tl] at h
      cases h
    · rw [x b o q e] at h
      cases h
/-- the tree stands while nothing but the tape and what is new changes -/
theorem Tr.fx {S : Addr → Prop} {H H' : Hp} {L n : Nat} {v : V} {t : T} {p : Addr} (h : Tr S H L n v t) (tp : Tape H p) (x : Fx p H H') : Tr S H' L n v t :=
  h.keep fun b kvs _ e => x b _ (fun q => by
    obtain ⟨ns, tl, _⟩ := tp
    rw [q, tl] at e
    cases e) e
/-- a test, cut off from what follows: only the outcomes in φ go on -/
def tCut (t : TT) : TT := fun σ H Q => ∃ φ : Bool → Prop, (t σ H fun b H1 => H1 = H ∧ φ b) ∧ ∀ b, φ b → Q b H
theorem pt_cut {X : Cx} {e : Expr} {t : TT} (h : PT X e t) : PT X e (tCut t) := ⟨fun pins s σ H Q I ⟨φ, q, r⟩ => thn (h.run pins s σ H _ I q) fun b s1 ⟨H1, I1, e, hb⟩ => ⟨H1, I1, by
  subst e
  exact r b hb⟩⟩
/-- its ints are small, its records narrow, its names good -/
def Bd : Nat → T → Prop
  | 0, t => ∃ i, t = .int i ∧ i.natAbs < 2 ^ 100
  | n + 1, t => (∃ i, t = .int i ∧ i.natAbs < 2 ^ 100) ∨ ∃ fs, t = .fds fs ∧ fs.length ≤ 7 ∧ (∀ p ∈ fs, Good p.1) ∧ ∀ p ∈ fs, Bd n p.2
theorem Bd.int {n : Nat} {i : Int} (h : i.natAbs < 2 ^ 100) : Bd n (.int i) := by
  cases n with
  | zero => exact ⟨i, rfl, h⟩
  | succ n => exact .inl ⟨i, rfl, h⟩
theorem Bd.mono : ∀ {n m : Nat} {t : T}, Bd n t → n ≤ m → Bd m t
  | 0, m, t, ⟨i, e, h⟩, _ => by
    rw [e]
    exact Bd.int h
  | n + 1, 0, t, _, h => absurd h (Nat.not_succ_le_zero _)
  | n + 1, m + 1, t, h, hm => by
    rcases h with h | ⟨fs, e, l, g, h⟩
    · exact .inl h
    · exact .inr ⟨fs, e, l, g, fun p hp => Bd.mono (h p hp) (Nat.le_of_succ_le_succ hm)⟩
theorem Bd.put {n : Nat} {x : Str} {t : T} {fs : List (Str × T)} (h : ∀ p ∈ fs, Bd n p.2) (ht : Bd n t) : ∀ p ∈ GrT.put x t fs, Bd n p.2 := fun p hp => by
  rcases mem_put hp with e | e
  · rw [e]
    exact ht
  · exact h p e
theorem Bd.at {n : Nat} {fs : List (Str × T)} (h : Bd (n + 1) (.fds fs)) : fs.length ≤ 7 ∧ (∀ p ∈ fs, Good p.1) ∧ ∀ p ∈ fs, Bd n p.2 := by
  rcases h with ⟨i, e, _⟩ | ⟨gs, e, h⟩
  · cases e
  · cases e
    exact h
/-- all names of the pool, the numbers small -/
def PlT (ps : List Str) : Nat → T → Prop
  | 0, t => ∃ i : Int, t = .int i ∧ i.natAbs < 2 ^ 100
  | n + 1, t => (∃ i : Int, t = .int i ∧ i.natAbs < 2 ^ 100) ∨ ∃ fs, t = .fds fs ∧ ∀ p ∈ fs, p.1 ∈ ps ∧ PlT ps n p.2
theorem PlT.int {ps : List Str} {n : Nat} {i : Int} (h : i.natAbs < 2 ^ 100) : PlT ps n (.int i) := by
  cases n with
  | zero => exact ⟨i, rfl, h⟩
  | succ n => exact .inl ⟨i, rfl, h⟩
def BP (ps : List Str) (n : Nat) (t : T) : Prop := Bd n t ∧ PlT ps n t
theorem BP.put {ps : List Str} {n : Nat} {x : Str} {t : T} {fs : List (Str × T)} (hx : x ∈ ps) (h : ∀ p ∈ fs, p.1 ∈ ps ∧ BP ps n p.2) (ht : BP ps n t) : ∀ p ∈ GrT.put x t fs, p.1 ∈ ps ∧ BP ps n p.2 := fun p hp => by
  rcases mem_put hp with e | e
  · rw [e]
    exact ⟨hx, ht⟩
  · exact h p e
def spFields (n : Nat) : Sp := fun vs H Q _ => ∃ (p P : Addr) (ps : List Str), vs = [.ref p, .ref P, .int (n : Int)] ∧ Tape H p ∧ H P = some (.lst (ps.map V.str)) ∧ P ≠ p ∧ 1 ≤ ps.length ∧ ps.length ≤ 6 ∧ (∀ x ∈ ps, Good x) ∧
  ∀ (D : Addr) (fs : List (Str × GrT.T)) H', Tr (fun b => H b = none) H' 6 (n + 1) (.ref D) (.fds fs) → BP ps (n + 1) (.fds fs) → Fx p H H' → Tape H' p → Q (.ref D) H'
def spFieldsR : Nat → Sp
  | 0 => spNo
  | n + 1 => spFields n
theorem pick_ix {ps : List Str} {z : Int} (h : 1 ≤ ps.length) : ∃ x ∈ ps, atI (ps.map V.str) (z % (ps.length : Int)) = some (V.str x) := by
  have h0 : (0 : Int) < ps.length := by omega
  have h1 := Int.emod_nonneg z (by omega : (ps.length : Int) ≠ 0)
  have h2 := Int.emod_lt_of_pos z h0
  obtain ⟨j, hj⟩ : ∃ j : Nat, z % (ps.length : Int) = (j : Int) := ⟨(z % (ps.length : Int)).toNat, by omega⟩
  have hl : j < ps.length := by omega
  refine ⟨ps[j], List.getElem_mem hl, ?_⟩
  rw [hj]
  refine atI_nat ?_
  rw [List.getElem?_map, List.getElem?_eq_getElem hl]
  rfl
section
variable {P : Program} {w : World} {K : PySem.W.Frag} {mg : Str → Option Value} {base : Heap}
theorem c_no {k : Nat} {x : Str} {st : Stmt} {N ps : List Str} (D : Dfn K mg x st ps) (S : FnScope N ps (defScope st)) : Cal P w K mg base (k + 1) x spNo :=
  D.cal S (fun _ _ _ _ h => h.elim) (fun _ _ _ _ _ _ _ _ _ _ h => h.elim)
theorem scFields : FnScope ["tape", "names", "depth", "fields", "first", "turn", "k", "name", "choice"] ["tape", "names", "depth"] (defScope sFields) := ⟨rfl, rfl, rfl, by decide +kernel, rfl, by decide +kernel, by decide +kernel⟩
theorem c_fields_step (T : Bt mg) (D : Dfn K mg "_law_fields" sFields ["tape", "names", "depth"]) (c_law_take : Cal P w K mg base 1 "_law_take" spTake) (c_law_number : Cal P w K mg base 2 "_law_number" spNumber)
    (n : Nat) (c_law_fields : Cal P w K mg base (n + 3) "_law_fields" (spFieldsR n)) : Cal P w K mg base (n + 4) "_law_fields" (spFields n) := by
  refine D.cal scFields (fun vs H Q E h => ?_) (fun f cdv A outer s H vs Q E hr h => ?_)
  · obtain ⟨p, P, ps, rfl, _⟩ := h
    rfl
  · obtain ⟨p, P, ps, rfl, tp, eP, Pp, l1, l2, gp, q⟩ := h
    have hu1 : (A.deeper (envOfC "_law_fields" (defScope sFields) s.heap.objs.size f cdv)).units + 1 < cLine := by
      have := hr.units
      omega
    refine ⟨_, (pss_cons (ps_set (i := 3) scFields.nd rfl (Or.inl rfl) pe_dnewK)
      (pss_cons (ps_set (i := 4) scFields.nd rfl (Or.inl rfl) (pe_c c_law_take hr (by omega) rfl (pa_cons (pv 0) (pa_cons pe_int pa_nil))))
      (pss_cons (ps_set (i := 5) scFields.nd rfl (Or.inl rfl) (pe_c c_law_take hr (by omega) rfl (pa_cons (pv 0) (pa_cons pe_int pa_nil))))
      (pss_cons (ps_for PassesOwn.never rfl (pi_range1 (by rfl) T.b_range (pa_cons (pe_callB call_len_seq (by rfl) T.b_len PySem.boot_len (pa_cons (pv 1) pa_nil)) pa_nil)) (pg_name (i := 6) scFields.nd rfl (Or.inl rfl))
      (pss_cons (ps_set (i := 7) scFields.nd rfl (Or.inl rfl) (pe_ix ix_list (pv 1) (pe_op op_mod (pe_op op_add (pv 4) (pe_op op_mul (pe_op op_sub pe_int (pe_op op_mul pe_int (pv 5))) (pv 6))) (pe_callB call_len_seq (by rfl) T.b_len PySem.boot_len (pa_cons (pv 1) pa_nil))) (fun _ _ => rfl)))
      (pss_cons (ps_set (i := 8) scFields.nd rfl (Or.inl rfl) (pe_c c_law_take hr (by omega) rfl (pa_cons (pv 0) (pa_cons pe_int pa_nil))))
      (pss_one (ps_if (pt_cut (PW.pt (pw_or (pt_cmpR op_eq (pv 8) pe_int (nomark _)) (pw_or1 (PW.pt (pw_and (pt_cmpR op_eq (pv 8) pe_int (nomark _)) (pw_and1 (pt_cmpR op_le (pv 2) pe_int (nomark _)))))))))
      (pss_one (ps_dput hu1 (pv 3) (pv 7) (pe_op op_mul (pe_c c_law_number hr (by omega) rfl (pa_cons (pv 0) pa_nil)) (pe_op op_sub pe_int (pe_op op_mul pe_int (pe_c c_law_take hr (by omega) rfl (pa_cons (pv 0) (pa_cons pe_int pa_nil)))))) rfl))
      (pss_one (ps_if (pt_cmpR op_eq (pv 8) pe_int (nomark _))
      (pss_one (ps_dput hu1 (pv 3) (pv 7) (pe_c c_law_fields hr (by omega) rfl (pa_cons (pv 0) (pa_cons (pv 1) (pa_cons (pe_op op_sub (pv 2) pe_int) pa_nil)))) rfl))
      pss_nil)))))))
      (pss_one (ps_ret (pv 3))))))), ?_⟩
    refine fun D hD => ?_
    have Dp : D ≠ p := tp.ne'' hD
    have t0 := tp.new (o := .dK []) hD
    have x0 := (Fx.refl (T := p) (H := H)).new (o := .dK []) hD
    have eD : (upd H D (.dK [])) D = some (.dK (dk [])) := upd_same
    have eP0 := x0 _ _ Pp eP
    generalize upd H D (.dK []) = H0 at t0 x0 eD eP0 ⊢
    refine ⟨_, rfl, p, 720720, rfl, t0, p72, fun i1 H1 _ _ x1 t1 => ?_⟩
    refine ⟨_, rfl, p, 2, rfl, t1, by decide, fun i2 H2 i20 i21 x2 t2 => ?_⟩
    have eP2 := (x1.trans x2) _ _ Pp eP0
    have eD2 := (x1.trans x2) _ _ Dp eD
    refine ⟨_, rfl, P, _, rfl, .inl (SqL.of eP2), ps.length, by rw [List.length_map], by omega, by omega, ?_⟩
    have x02 := (x0.trans x1).trans x2
    refine for_range (lo := 0) (n := ps.length) (fun i σ H' => ∃ (kv nv cv : Option V) (l : List (Str × V)) (fs : List (Str × GrT.T)), σ = [some (.ref p), some (.ref P), some (.int n), some (.ref D), some (.int i1), some (.int i2), kv, nv, cv] ∧
      H' D = some (.dK (dk l)) ∧ H' P = some (.lst (ps.map V.str)) ∧ Wf i fs ∧ (∀ p ∈ fs, p.1 ∈ ps ∧ BP ps n p.2) ∧ Al (Tr (fun b => H b = none ∧ b ≠ D) H' 6 n) l fs ∧ Fx p H H' ∧ Tape H' p)
      ⟨none, none, none, [], [], rfl, eD2, eP2, Wf.nil, (fun _ h => by cases h), .nil, x02, t2⟩ ?_ ?_
    · rintro i σ H' hi ⟨kv, nv, cv, l, fs, rfl, aD, aP, wf, bd, al, x3, t3⟩
      have PD : P ≠ D := fun e => by
        rw [e, aD] at aP
        cases aP
      obtain ⟨x, hx, hat⟩ := pick_ix (ps := ps) (z := i1 + (1 - 2 * i2) * (0 + (i : Int))) l1
      have gx := gp x hx
      refine ⟨_, rfl, _, rfl, _, rfl, _, _, rfl, rfl, .inl ⟨by decide, by decide⟩, _, _, rfl, rfl, _, rfl, _, _, rfl, rfl, .inl ⟨by omega, by omega⟩, _, _, rfl, rfl, _, rfl, P, _, rfl, .inl (SqL.of aP), _, _, rfl, rfl, by rw [List.length_map]; omega, P, _, _, _, rfl, rfl, SqL.of aP, by rw [List.length_map]; exact hat, ?_⟩
      refine ⟨_, rfl, p, 4, rfl, t3, by decide, fun c H4 c0 c1 x4 t4 => ?_⟩
      have bD := x4 _ _ Dp aD
      have bP := x4 _ _ Pp aP
      have al4 : Al (Tr (fun b => H b = none ∧ b ≠ D) H4 6 n) l fs := al.imp fun _ _ _ z => Tr.fx z t3 x4
      have hsz : (dk l).length < sizeLine := by
        have := wf.ln
        rw [dk_len, al.len]
        exact Nat.lt_of_lt_of_le (by omega : fs.length < 100) (line_big (by decide))
      have ndl : (names l).Nodup := by
        rw [al.names]
        exact wf.nd
      have fin : ∀ (v : V) (t : GrT.T) (H5 : Hp), BP ps n t → H5 D = some (.dK (dk l)) → H5 P = some (.lst (ps.map V.str)) → Al (Tr (fun b => H b = none ∧ b ≠ D) H5 6 n) l fs → Tr (fun b => H b = none ∧ b ≠ D) H5 6 n v t → Fx p H H5 → Tape H5 p →
          ∃ H6, DPut H5 D (.str x) v H6 ∧ H6 D = some (.dK (dk (put x v l))) ∧ H6 P = some (.lst (ps.map V.str)) ∧ Wf (i + 1) (put x t fs) ∧ (∀ p ∈ put x t fs, p.1 ∈ ps ∧ BP ps n p.2) ∧ Al (Tr (fun b => H b = none ∧ b ≠ D) H6 6 n) (put x v l) (put x t fs) ∧ Fx p H H6 ∧ Tape H6 p := by
        intro v t H5 hb dD dP a5 r5 x5 t5
        refine ⟨_, DPut.k (k := Sum.inr x) dD hsz, ?_, ?_, wf.put gx, BP.put hx bd hb, ?_, ?_, t5.put Dp⟩
        · rw [upd_same, dk_put x v l ndl]
        · rw [upd_ne PD]
          exact dP
        · have k : ∀ {v t}, Tr (fun b => H b = none ∧ b ≠ D) H5 6 n v t → Tr (fun b => H b = none ∧ b ≠ D) (upd H5 D (.dK (putK (dk l) (Sum.inr x) v))) 6 n v t := fun z => z.keep fun b kvs sb e => by rw [upd_ne sb.2]; exact e
          refine Al.put (a5.imp fun _ _ _ z => z.keep fun b kvs sb e => by rw [upd_ne sb.2]; exact e) x (r5.keep fun b kvs sb e => by rw [upd_ne sb.2]; exact e)
        · intro b o nb e
          rw [upd_ne (ne_of_none e hD)]
          exact x5 b o nb e
      refine ⟨fun b => b = false → c = 2 → 0 < n, ⟨_, rfl, rfl, _, rfl, ite2 (fun _ => ⟨rfl, fun h => by cases h⟩) (fun _ => ⟨_, rfl, rfl, _, rfl, ite2 (fun _ => ⟨_, rfl, _, _, rfl, rfl, _, rfl, rfl, fun h _ => ?_⟩) (fun h2 => ⟨rfl, fun _ e => ?_⟩)⟩)⟩, fun b hb => ?_⟩
      · have := of_decide_eq_false h
        omega
      · rw [e] at h2
        exact absurd rfl h2
      · cases b
        · refine iteF ⟨_, rfl, rfl, _, rfl, ite2 (fun h2 => ?_) (fun _ => ?_)⟩
          · have e2 : c = 2 := V.int.inj (of_decide_eq_true h2)
            have hn := hb rfl e2
            obtain ⟨m, rfl⟩ : ∃ m, n = m + 1 := ⟨n - 1, by omega⟩
            refine ⟨_, rfl, _, rfl, _, rfl, _, _, rfl, rfl, p, P, ps, by rw [Int.natCast_add]; simp, t4, bP, Pp, l1, l2, gp, fun D2 gs H5 r5 b5 x5 t5 => ?_⟩
            have a5 : Al (Tr (fun b => H b = none ∧ b ≠ D) H5 6 (m + 1)) l fs := al4.imp fun _ _ _ z => Tr.fx z t4 x5
            have r6 : Tr (fun b => H b = none ∧ b ≠ D) H5 6 (m + 1) (.ref D2) (.fds gs) := r5.wid fun b hb => ⟨(x3.trans x4).back t4 hb, fun e => by
              rw [e, bD] at hb
              cases hb⟩
            obtain ⟨H6, dp, cD, cP, cw, cb, ca, cx, ct⟩ := fin _ _ H5 b5 (x5 _ _ Dp bD) (x5 _ _ Pp bP) a5 r6 ((x3.trans x4).trans x5) t5
            exact ⟨_, rfl, _, rfl, D, H6, rfl, dp, _, _, _, _, _, rfl, cD, cP, cw, cb, ca, cx, ct⟩
          · exact ⟨_, _, _, l, fs, rfl, bD, bP, ⟨wf.nd, Nat.le_succ_of_le wf.ln, wf.gd⟩, bd, al4, x3.trans x4, t4⟩
        · refine iteT ⟨_, rfl, p, rfl, t4, fun v H5 v0 v1 x5 t5 => ?_⟩
          refine ⟨_, rfl, p, 2, rfl, t5, by decide, fun u H6 u0 u1 x6 t6 => ?_⟩
          have x46 := x5.trans x6
          have hsm : (v * (1 - 2 * u)).natAbs < 2 ^ 100 := by
            rcases (by omega : u = 0 ∨ u = 1) with e | e
            · rw [e]
              omega
            · rw [e]
              omega
          obtain ⟨H7, dp, cD, cP, cw, cb, ca, cx, ct⟩ := fin (.int (v * (1 - 2 * u))) (.int (v * (1 - 2 * u))) H6 ⟨Bd.int hsm, PlT.int hsm⟩ (x46 _ _ Dp bD) (x46 _ _ Pp bP) (al4.imp fun _ _ _ z => Tr.fx z t4 x46) (Tr.int _) ((x3.trans x4).trans x46) t6
          exact ⟨_, _, rfl, rfl, .inl ⟨by decide, by decide⟩, _, _, rfl, rfl, _, _, rfl, rfl, .inr ⟨by omega, by omega⟩, _, rfl, _, rfl, D, H7, rfl, dp, _, _, _, _, _, rfl, cD, cP, cw, cb, ca, cx, ct⟩
    · rintro σ H' ⟨kv, nv, cv, l, fs, rfl, aD, aP, wf, bd, al, x3, t3⟩
      exact ⟨_, rfl, q D fs H' (.inr ⟨D, l, fs, rfl, rfl, hD, aD, wf.mono l2, al.imp fun _ _ _ z => z.wid fun b h => h.1⟩) ⟨.inr ⟨fs, rfl, Nat.le_trans wf.ln (Nat.le_trans l2 (by decide)), wf.gd, fun p hp => (bd p hp).2.1⟩, .inr ⟨fs, rfl, fun p hp => ⟨(bd p hp).1, (bd p hp).2.2⟩⟩⟩ x3 t3⟩
end
end Lw
namespace GrT
open PySem L2
mutual
/-- how many fields a value has, on all levels -/
def nf : T → Int
  | .int _ => 0
  | .fds fs => nfs fs
def nfs : List (Str × T) → Int
  | [] => 0
  | (_, t) :: r => 1 + nf t + nfs r
end
mutual
/-- the first value has all that the second one has -/
def ext : T → T → Bool
  | .int i, .int j => decide (i = j)
  | .fds a, .fds b => extL a b
  | .int _, .fds _ => false
  | .fds _, .int _ => false
def extL : List (Str × T) → List (Str × T) → Bool
  | _, [] => true
  | a, (x, t) :: r => (match look x a with | none => false | some u => ext u t) && extL a r
end
theorem nfs_sum : ∀ fs : List (Str × T), nfs fs = (fs.map fun p => 1 + nf p.2).sum
  | [] => by simp [nfs]
  | (x, t) :: r => by
    rw [nfs, List.map_cons, List.sum_cons, nfs_sum r]
theorem extL_iff {a : List (Str × T)} : ∀ {b : List (Str × T)}, extL a b = true ↔ ∀ p ∈ b, ∃ u, look p.1 a = some u ∧ ext u p.2 = true
  | [] => by simp [extL]
  | (x, t) :: r => by
    rw [extL, Bool.and_eq_true, extL_iff (b := r)]
    constructor
    · rintro ⟨h1, h2⟩ p hp
      rcases List.mem_cons.mp hp with e | e
      · rw [e]
        cases q : look x a with
        | none =>
          rw [q] at h1
          cases h1
        | some u =>
          rw [q] at h1
          exact ⟨u, rfl, h1⟩
      · exact h2 p e
    · intro h
      refine ⟨?_, fun p hp => h p (List.mem_cons_of_mem _ hp)⟩
      obtain ⟨u, h1, h2⟩ := h (x, t) List.mem_cons_self
      have h1' : look x a = some u := h1
      rw [h1']
      exact h2
end GrT
namespace Lw
open PySem PySem.Spec PyProof.Rows L2 GrT
theorem upd_back {H : Hp} {d : Addr} {u z : HO} (h : H d = some u) : upd (upd H d z) d u = H := by
  rw [upd_upd]
  funext b
  by_cases e : b = d
  · subst e
    rw [upd_same, h]
  · rw [upd_ne e]
theorem Same.unlock {H H' : Hp} {d : Addr} {u z : HO} (h : H d = some u) (s : Same (upd H d z) H') : Same H (upd H' d u) := fun b o e => by
  by_cases q : b = d
  · subst q
    rw [upd_same, ← h, e]
  · rw [upd_ne q]
    exact s b o (by rw [upd_ne q]; exact e)
theorem Same.new {H H1 : Hp} {a : Addr} {o : HO} (x : Same H H1) (n : H1 a = none) : Same H (upd H1 a o) := fun b u e => by
  have q := x b u e
  rw [upd_ne (ne_of_none q n)]
  exact q
theorem Tr.same {S : Addr → Prop} {H H' : Hp} {L n : Nat} {v : V} {t : T} (h : Tr S H L n v t) (x : Same H H') : Tr S H' L n v t :=
  h.keep fun b kvs _ e => x b _ e
theorem dk_at {l : List (Str × V)} {i : Nat} {k : Key} {v : V} (h : (dk l)[i]? = some (k, v)) : ∃ x, k = Sum.inr x ∧ l[i]? = some (x, v) := by
  unfold dk at h
  rw [List.getElem?_map] at h
  cases e : l[i]? with
  | none =>
    rw [e] at h
    cases h
  | some p =>
    rw [e] at h
    have h' := Option.some.inj h
    obtain ⟨x, w⟩ := p
    injection h' with h1 h2
    exact ⟨x, h1.symm, by rw [show w = v from h2]⟩
theorem Al.at {R : V → T → Prop} : ∀ {l : List (Str × V)} {fs : List (Str × T)} {i : Nat} {x : Str} {v : V}, Al R l fs → l[i]? = some (x, v) → ∃ t, fs[i]? = some (x, t) ∧ R v t
  | _, _, 0, x, v, .cons (a := p) (b := q) r _, h => by
    have e : p = (x, v) := by simpa using h
    subst e
    obtain ⟨z, u⟩ := q
    have e2 : x = z := r.1
    exact ⟨u, by rw [e2]; rfl, r.2⟩
  | _, _, i + 1, x, v, .cons r t, h => by
    have h' := h
    rw [List.getElem?_cons_succ] at h'
    obtain ⟨u, h1, h2⟩ := Al.at t h'
    exact ⟨u, by rw [List.getElem?_cons_succ]; exact h1, h2⟩
/-- further built-ins -/
structure Bu (mg : Str → Option Value) : Prop extends Bt mg where
  b_isinstance : mg "isinstance" = none
  b_dict : mg "dict" = none
  b_tuple : mg "tuple" = none
  b_bool : mg "bool" = none
  b_list : mg "list" = none
  b_str : mg "str" = none
  b_sum : mg "sum" = none
  b_sorted : mg "sorted" = none
theorem bo_isinstance : bootBuiltins "isinstance" = some (.builtin "isinstance") := by decide +kernel
theorem bo_dict : bootBuiltins "dict" = some (.type "dict") := by decide +kernel
theorem bo_tuple : bootBuiltins "tuple" = some (.type "tuple") := by decide +kernel
theorem bo_bool : bootBuiltins "bool" = some (.type "bool") := by decide +kernel
theorem bo_list : bootBuiltins "list" = some (.type "list") := by decide +kernel
theorem bo_str : bootBuiltins "str" = some (.type "str") := by decide +kernel
theorem bo_int : bootBuiltins "int" = some (.type "int") := by decide +kernel
theorem bo_sum : bootBuiltins "sum" = some (.builtin "sum") := by decide +kernel
theorem bo_sorted : bootBuiltins "sorted" = some (.builtin "sorted") := by decide +kernel
def spIsInt : Sp := fun vs H Q _ => ∃ i : Int, vs = [.int i] ∧ Q (.bl true) H
def spCount (n : Nat) : Sp := fun vs H Q _ => ∃ (v : V) (S : Addr → Prop) (t : T), vs = [v] ∧ Tr S H 40 n v t ∧ ∀ H', Same H H' → Q (.int (nf t)) H'
def spCountR : Nat → Sp
  | 0 => spNo
  | n + 1 => spCount n
section
variable {P : Program} {w : World} {K : PySem.W.Frag} {mg : Str → Option Value} {base : Heap}
theorem scIsInt : FnScope ["found"] ["found"] (defScope sIsInt) := ⟨rfl, rfl, rfl, by decide +kernel, rfl, by decide +kernel, by decide +kernel⟩
theorem c_is_integer (T : Bu mg) (D : Dfn K mg "_law_is_integer" sIsInt ["found"]) : Cal P w K mg base 1 "_law_is_integer" spIsInt := by
  refine D.cal scIsInt (fun vs H Q E h => ?_) (fun f cdv A outer s H vs Q E hr h => ?_)
  · obtain ⟨i, rfl, _⟩ := h
    rfl
  · obtain ⟨i, rfl, q⟩ := h
    refine ⟨_, (pss_one (ps_ret (pe_and (pe_callB call_isi (by rfl) T.b_isinstance bo_isinstance (pa_cons (pv 0) (pa_cons (pe_bltn (by rfl) T.b_int bo_int (v := .ty "int") rfl) pa_nil)))
      (pe_one (pe_not (pe_callB call_isi (by rfl) T.b_isinstance bo_isinstance (pa_cons (pv 0) (pa_cons (pe_bltn (by rfl) T.b_bool bo_bool (v := .ty "bool") rfl) pa_nil)))))))), ?_⟩
    exact ⟨_, rfl, _, _, _, _, _, rfl, .ty _, .base (.int i), rfl, _, rfl, iteT ⟨_, rfl, _, _, _, _, _, rfl, .ty _, .base (.int i), rfl, _, rfl, q⟩⟩
theorem scCount : FnScope ["value", "name"] ["value"] (defScope sCount) := ⟨rfl, rfl, rfl, by decide +kernel, rfl, by decide +kernel, by decide +kernel⟩
theorem c_count_step (T : Bu mg) (D : Dfn K mg "_law_count" sCount ["value"]) (n : Nat) (c_law_count : Cal P w K mg base (n + 1) "_law_count" (spCountR n)) : Cal P w K mg base (n + 2) "_law_count" (spCount n) := by
  refine D.cal scCount (fun vs H Q E h => ?_) (fun f cdv A outer s H vs Q E hr h => ?_)
  · obtain ⟨v, S, t, rfl, _⟩ := h
    rfl
  · obtain ⟨v, S, t, rfl, tr, q⟩ := h
    have hu1 : (A.deeper (envOfC "_law_count" (defScope sCount) s.heap.objs.size f cdv)).units + 1 < cLine := by
      have := hr.units
      omega
    refine ⟨_, (pss_cons (ps_if (pt_not (pt_val (pe_callB call_isi (by rfl) T.b_isinstance bo_isinstance (pa_cons (pv 0) (pa_cons (pe_bltn (by rfl) T.b_dict bo_dict (v := .ty "dict") rfl) pa_nil)))))
      (pss_one (ps_ret pe_int))
      pss_nil)
      (pss_one (ps_ret (pe_callB (cr_sum rfl) (by rfl) T.b_sum bo_sum (pa_cons (pe_lock (pe_lc (own := [("name", 1)]) (g := gName 1) (tt := tYes) rfl scCount.nd (pi_keys (pv 0)) (blkOk_by (own := [("name", 1)]) (N := ["value", "name"]) (sc := defScope sCount) (by decide +kernel)) (fun _ _ _ _ _ => pg_name (i := 1) scCount.nd rfl (Or.inl rfl)) (fun _ _ _ _ _ => pts_nil) (fun _ _ _ _ _ => (by exact (pe_op op_add pe_int (pe_c c_law_count hr (by omega) rfl (pa_cons (pe_dget hu1 (pv 0) (pv 1) (fun _ _ => rfl)) pa_nil))))))) pa_nil))))), ?_⟩
    refine tr.cases (fun i e1 e2 => ?_) (fun k a l fs en e1 e2 sa ea wf al => ?_)
    · subst e1 e2
      exact ⟨_, rfl, _, _, _, _, _, rfl, .ty _, .base (.int i), rfl, _, rfl, iteT (q H (Same.refl H))⟩
    · subst en e1 e2
      refine ⟨_, rfl, _, _, _, _, _, rfl, .ty _, .base (.dK ea), rfl, _, rfl, iteF ?_⟩
      refine ⟨a, .dK (dk l), ea, True.intro, fun od => ⟨_, rfl, a, od, rfl, .inl ⟨_, upd_same, fun Z hZ => lc_it walk_keys (fun i H5 => ∃ (fs' : List (Str × GrT.T)), fs' = fs.take i ∧ H5 Z = some (.lst ((fs'.map fun p : Str × GrT.T => 1 + nf p.2).map V.int)) ∧ Same (upd H a (.frz od (.dK (dk l)))) H5)
        ⟨[], rfl, upd_same, Same.new (Same.refl _) hZ⟩ ?_ ?_ ?_⟩⟩⟩
      · rintro i H5 _ ⟨fs', _, _, sm⟩
        exact sm _ _ upd_same
      · rintro i x H5 H6 hi ⟨fs', rfl, eZ, sm⟩ ⟨rfl, k', v', hk, rfl⟩
        obtain ⟨x, rfl, hx⟩ := dk_at hk
        obtain ⟨u, hu, ru⟩ := Lw.Al.at al hx
        have aZ : a ≠ Z := ne_of_none upd_same hZ
        have ea6 := sm _ _ (upd_same (H := H) (a := a) (o := .frz od (.dK (dk l))))
        have nd : (names l).Nodup := by
          rw [al.names]
          exact wf.nd
        have r6 : Tr S H6 40 k v' u := Tr.same ((Lw.Al.at (al_away sa ea wf al (.frz od (.dK (dk l)))) hx).elim fun u' h => by
          have e : u' = u := by
            have := h.1.symm.trans hu
            injection this with this
            injection this
          rw [← e]
          exact h.2) sm
        have hln : fs.length ≤ 40 := wf.ln
        refine ⟨rfl, iteT (A := _) (B := True) (iteT ⟨_, rfl, _, rfl, a, v', rfl, .inl ⟨dk l, Sum.inr x, .inr ⟨od, ea6⟩, rfl, by rw [dk_val, mem_look nd (List.mem_of_getElem? hx)]⟩, v', S, u, rfl, r6, fun H7 s7 => ?_⟩)⟩
        refine ⟨_, _, rfl, rfl, _, s7 _ _ eZ, line_big (by rw [List.length_map, List.length_map, List.length_take]; omega), _, rfl, ?_, ?_⟩
        · rw [upd_same, List.take_add_one, hu]
          simp
        · intro b o e
          rw [upd_ne (ne_of_none e hZ)]
          exact s7 _ _ (sm b o e)
      · rintro H5 ⟨fs', rfl, eZ, sm⟩
        rw [dk_len, al.len, List.take_length] at eZ
        have ea5 := sm _ _ (upd_same (H := H) (a := a) (o := .frz od (.dK (dk l))))
        have aZ : Z ≠ a := (ne_of_none upd_same hZ).symm
        refine ⟨ea5, Z, _, rfl, .of (by rw [upd_ne aZ]; exact eZ), ?_⟩
        rw [← nfs_sum]
        exact q _ (Same.unlock ea sm)
end
end Lw
namespace Lw
open PySem PySem.Spec PyProof.Rows L2 GrT
/-! ### one row of names in ascending order -/
theorem ltc_anti : ∀ a b : List Nat, ltCps a b = false → ltCps b a = false → a = b
  | [], [], _, _ => rfl
  | [], _ :: _, h, _ => by cases h
  | _ :: _, [], _, h => by cases h
  | a :: r, b :: t, h1, h2 => by
    simp only [ltCps, Bool.or_eq_false_iff, decide_eq_false_iff_not, Bool.and_eq_false_iff, beq_eq_false_iff_ne] at h1 h2
    have e : a = b := by omega
    subst e
    have q1 := h1.2.resolve_left (fun h => h rfl)
    have q2 := h2.2.resolve_left (fun h => h rfl)
    rw [ltc_anti r t q1 q2]
theorem ltc_trans : ∀ a b c : List Nat, ltCps b a = false → ltCps c b = false → ltCps c a = false
  | [], _, [], _, _ => rfl
  | [], _, _ :: _, _, _ => rfl
  | _ :: _, [], _, h, _ => by cases h
  | _ :: _, _ :: _, [], _, h => by cases h
  | a :: r, b :: t, c :: u, h1, h2 => by
    simp only [ltCps, Bool.or_eq_false_iff, decide_eq_false_iff_not, Bool.and_eq_false_iff, beq_eq_false_iff_ne] at h1 h2 ⊢
    refine ⟨by omega, ?_⟩
    by_cases e : c = a
    · right
      have e1 : a = b := by omega
      have e2 : c = b := by omega
      exact ltc_trans r t u (h1.2.resolve_left (fun h => h e1.symm)) (h2.2.resolve_left (fun h => h e2))
    · exact .inl e
theorem rising_pw : ∀ (l : List Str) (p : Str), risingS p l = true → (p :: l).Pairwise fun a b => ltCps b.cps.toList a.cps.toList = false
  | [], p, _ => List.pairwise_singleton _ _
  | x :: r, p, h => by
    rw [risingS, Bool.and_eq_true, Bool.not_eq_true'] at h
    have ih := rising_pw r x h.2
    refine List.pairwise_cons.mpr ⟨fun y hy => ?_, ih⟩
    rcases List.mem_cons.mp hy with e | e
    · rw [e]
      exact h.1
    · exact ltc_trans _ _ _ h.1 ((List.pairwise_cons.mp ih).1 y e)
theorem sorted_pw {l : List Str} (h : sortedS l = true) : l.Pairwise fun a b => ltCps b.cps.toList a.cps.toList = false := by
  cases l with
  | nil => exact List.Pairwise.nil
  | cons x r => exact rising_pw r x h
theorem str_tl {x y : Str} (h : x.cps.toList = y.cps.toList) : x = y := by
  obtain ⟨a⟩ := x
  obtain ⟨b⟩ := y
  have e : a.toList = b.toList := h
  rw [Array.toList_inj.mp e]
theorem sorted_one {ys zs : List Str} (hy : sortedS ys = true) (hz : sortedS zs = true) (p : ys.Perm zs) : ys = zs :=
  List.Perm.eq_of_pairwise (fun x y _ _ h1 h2 => str_tl (ltc_anti _ _ h2 h1)) (sorted_pw hy) (sorted_pw hz) p
/-- the names in ascending order, in a new list -/
def spSorted : Sp := fun vs H Q _ => ∃ (a : Addr) (l : List (Str × V)), vs = [.ref a] ∧ H a = some (.dK (dk l)) ∧ l.length < 64 ∧
  ∀ (ys : List Str) (W : Addr) H', ys.Perm (names l) → sortedS ys = true → H' W = some (.lst (ys.map V.str)) → H W = none → Same H H' → Q (.ref W) H'
section
variable {P : Program} {w : World} {K : PySem.W.Frag} {mg : Str → Option Value} {base : Heap}
theorem scSorted : FnScope ["names", "name"] ["names"] (defScope sSorted) := ⟨rfl, rfl, rfl, by decide +kernel, rfl, by decide +kernel, by decide +kernel⟩
theorem c_sorted (T : Bu mg) (D : Dfn K mg "_law_sorted" sSorted ["names"]) : Cal P w K mg base 1 "_law_sorted" spSorted := by
  refine D.cal scSorted (fun vs H Q E h => ?_) (fun f cdv A outer s H vs Q E hr h => ?_)
  · obtain ⟨a, l, rfl, _⟩ := h
    rfl
  · obtain ⟨a, l, rfl, ea, hl, q⟩ := h
    refine ⟨_, (pss_one (ps_ret (pe_callB cr_sortedS (by rfl) T.b_sorted bo_sorted (pa_cons (pe_lock (pe_lc (own := [("name", 1)]) (g := gName 1) (tt := tYes) rfl scSorted.nd (pi_keys (pv 0)) (blkOk_by (own := [("name", 1)]) (N := ["names", "name"]) (sc := defScope sSorted) (by decide +kernel)) (fun _ _ _ _ _ => pg_name (i := 1) scSorted.nd rfl (Or.inl rfl)) (fun _ _ _ _ _ => pts_nil) (fun _ _ _ _ _ => (by exact (pe_callTy SkE.call_str_str (by rfl) T.b_str bo_str (pa_cons (pv 1) pa_nil)))))) pa_nil)))), ?_⟩
    refine ⟨a, .dK (dk l), ea, True.intro, fun od => ⟨_, rfl, a, od, rfl, .inl ⟨_, upd_same, fun Z hZ => lc_it walk_keys (fun i H5 => H5 Z = some (.lst (((names l).take i).map V.str)) ∧ Same (upd H a (.frz od (.dK (dk l)))) H5)
      ⟨upd_same, Same.new (Same.refl _) hZ⟩ ?_ ?_ ?_⟩⟩⟩
    · rintro i H5 _ ⟨_, sm⟩
      exact sm _ _ upd_same
    · rintro i x H5 H6 hi ⟨eZ, sm⟩ ⟨rfl, k', v', hk, rfl⟩
      obtain ⟨x, rfl, hx⟩ := dk_at hk
      refine ⟨rfl, iteT (A := _) (B := True) (iteT ⟨_, rfl, x, rfl, _, eZ, line_big (by rw [List.length_map, List.length_take, show (names l).length = l.length from List.length_map _]; omega), ?_, ?_⟩)⟩
      · have hn : (names l)[i]? = some x := by rw [List.getElem?_map, hx]; rfl
        rw [upd_same, List.take_add_one, hn]
        simp
      · intro b o e
        rw [upd_ne (ne_of_none e hZ)]
        exact sm b o e
    · rintro H5 ⟨eZ, sm⟩
      have hn : (names l).length = l.length := List.length_map _
      rw [dk_len, ← hn, List.take_length] at eZ
      have ea5 := sm _ _ (upd_same (H := H) (a := a) (o := .frz od (.dK (dk l))))
      have aZ : Z ≠ a := (ne_of_none upd_same hZ).symm
      have hZ0 : H Z = none := by
        rw [upd_ne aZ] at hZ
        exact hZ
      refine ⟨ea5, Z, _, rfl, .of (by rw [upd_ne aZ]; exact eZ), by rw [hn]; exact hl, fun ys W pm so hW => ?_⟩
      have s1 : Same H (upd H5 a (.dK (dk l))) := Same.unlock ea sm
      exact q ys W _ pm so upd_same (s1.free hW) (Same.new s1 hW)
end
end Lw
namespace Lw
open PySem PySem.Spec PyProof.Rows L2 GrT GrOwn
abbrev sIsName : Stmt := top 8
abbrev sValueSize : Stmt := top 9
abbrev sInit : Stmt := inClass (top 10) 0
abbrev sMake : Stmt := inClass (top 10) 1
abbrev sSize : Stmt := inClass (top 10) 3
abbrev sEq : Stmt := inClass (top 10) 14
abbrev sContains : Stmt := inClass (top 10) 16
abbrev sLen : Stmt := inClass (top 10) 17
abbrev sGet : Stmt := inClass (top 10) 18
abbrev sIter : Stmt := inClass (top 10) 19
/-! ### a record in the heap -/
theorem nSF : ¬ (("_fields" : Str) = "_size") := by decide +kernel
theorem nNS : ¬ (("names" : Str) = "_size") := by decide +kernel
theorem nNF : ¬ (("names" : Str) = "_fields") := by decide +kernel
def rf (t d : Addr) (z : Int) : List (Str × V) := putF "_size" (.int z) (putF "_fields" (.ref d) (putF "names" (.ref t) []))
theorem rf_names (t d : Addr) (z : Int) : (rf t d z).lookup ("names" : Str) = some (.ref t) := by
  unfold rf
  rw [lookup_putF, if_neg nNS, lookup_putF, if_neg nNF, lookup_putF, if_pos rfl]
theorem rf_fields (t d : Addr) (z : Int) : (rf t d z).lookup ("_fields" : Str) = some (.ref d) := by
  unfold rf
  rw [lookup_putF, if_neg nSF, lookup_putF, if_pos rfl]
theorem rf_size (t d : Addr) (z : Int) : (rf t d z).lookup ("_size" : Str) = some (.int z) := by
  unfold rf
  rw [lookup_putF, if_pos rfl]
/-- at a: a record of the class C, its fields l, what it is made of within S -/
structure RA (S : Addr → Prop) (C : Addr) (H : Hp) (a : Addr) (l : List (Str × V)) (z : Int) : Prop where
  ex : ∃ dx tp d, (S a ∧ S tp ∧ S d) ∧ H a = some (.ins C dx (rf tp d z)) ∧ H tp = some (.tup ((names l).map V.str)) ∧ H d = some (.dK (dk l))
  nd : (names l).Nodup
  so : sortedS (names l) = true
def Ro : HO → Prop
  | .ins _ _ _ => True
  | .tup _ => True
  | .dK _ => True
  | _ => False
theorem RA.keep {S : Addr → Prop} {C : Addr} {H H' : Hp} {a : Addr} {l : List (Str × V)} {z : Int} (r : RA S C H a l z) (k : ∀ b o, S b → H b = some o → Ro o → H' b = some o) : RA S C H' a l z := by
  obtain ⟨⟨dx, tp, d, ⟨s1, s2, s3⟩, e1, e2, e3⟩, n, s⟩ := r
  exact ⟨⟨dx, tp, d, ⟨s1, s2, s3⟩, k _ _ s1 e1 True.intro, k _ _ s2 e2 True.intro, k _ _ s3 e3 True.intro⟩, n, s⟩
theorem RA.wid {S S' : Addr → Prop} {C : Addr} {H : Hp} {a : Addr} {l : List (Str × V)} {z : Int} (r : RA S C H a l z) (k : ∀ b, S b → S' b) : RA S' C H a l z := by
  obtain ⟨⟨dx, tp, d, ⟨s1, s2, s3⟩, e1, e2, e3⟩, n, s⟩ := r
  exact ⟨⟨dx, tp, d, ⟨k _ s1, k _ s2, k _ s3⟩, e1, e2, e3⟩, n, s⟩
theorem RA.any {S : Addr → Prop} {C : Addr} {H : Hp} {a : Addr} {l : List (Str × V)} {z : Int} (r : RA S C H a l z) : RA (fun _ => True) C H a l z := r.wid fun _ _ => True.intro
/-- v is t, dicts having become records -/
def Rc (S : Addr → Prop) (C : Addr) (H : Hp) : Nat → V → T → Prop
  | 0, v, t => ∃ i, v = .int i ∧ t = .int i
  | n + 1, v, t => (∃ i, v = .int i ∧ t = .int i) ∨ ∃ a l fs, v = .ref a ∧ t = .fds fs ∧ RA S C H a l (nfs fs) ∧ Wf 40 fs ∧ (names l).Perm (names fs) ∧ ∀ x v u, look x l = some v → look x fs = some u → Rc S C H n v u
section
variable {S S' : Addr → Prop} {C : Addr} {H H' : Hp}
theorem Rc.int {n : Nat} (i : Int) : Rc S C H n (.int i) (.int i) := by
  cases n with
  | zero => exact ⟨i, rfl, rfl⟩
  | succ n => exact .inl ⟨i, rfl, rfl⟩
theorem Rc.cases {n : Nat} {v : V} {t : T} {P : Prop} (h : Rc S C H n v t) (h1 : ∀ i, v = .int i → t = .int i → P)
    (h2 : ∀ k a l fs, n = k + 1 → v = .ref a → t = .fds fs → RA S C H a l (nfs fs) → Wf 40 fs → (names l).Perm (names fs) → (∀ x v u, look x l = some v → look x fs = some u → Rc S C H k v u) → P) : P := by
  cases n with
  | zero =>
    obtain ⟨i, e1, e2⟩ := h
    exact h1 i e1 e2
  | succ k =>
    rcases h with ⟨i, e1, e2⟩ | ⟨a, l, fs, e1, e2, e3, e4, e5, e6⟩
    · exact h1 i e1 e2
    · exact h2 k a l fs rfl e1 e2 e3 e4 e5 e6
theorem Rc.keep : ∀ {n : Nat} {v : V} {t : T}, Rc S C H n v t → (∀ b o, S b → H b = some o → Ro o → H' b = some o) → Rc S C H' n v t
  | 0, _, _, h, _ => h
  | n + 1, v, t, h, k => by
    rcases h with h | ⟨a, l, fs, e1, e2, e3, e4, e5, e6⟩
    · exact .inl h
    · exact .inr ⟨a, l, fs, e1, e2, e3.keep k, e4, e5, fun x v u q1 q2 => (e6 x v u q1 q2).keep k⟩
theorem Rc.wid : ∀ {n : Nat} {v : V} {t : T}, Rc S C H n v t → (∀ b, S b → S' b) → Rc S' C H n v t
  | 0, _, _, h, _ => h
  | n + 1, v, t, h, k => by
    rcases h with h | ⟨a, l, fs, e1, e2, e3, e4, e5, e6⟩
    · exact .inl h
    · exact .inr ⟨a, l, fs, e1, e2, e3.wid k, e4, e5, fun x v u q1 q2 => (e6 x v u q1 q2).wid k⟩
theorem Rc.same {n : Nat} {v : V} {t : T} (h : Rc S C H n v t) (s : Same H H') : Rc S C H' n v t := h.keep fun b o _ e _ => s b o e
theorem Rc.fx {p : Addr} {n : Nat} {v : V} {t : T} (h : Rc S C H n v t) (tp : Tape H p) (s : Fx p H H') : Rc S C H' n v t := h.keep fun b o _ e r => s b o (fun q => by
  obtain ⟨ns, tl, _⟩ := tp
  rw [q, tl] at e
  cases e
  exact r) e
end
/-! ### what the top says of the class -/
structure RecK (K : PySem.W.Frag) (mg : Str → Option Value) (C : Addr) : Prop where
  cl : Cls K C
  nN : NoAttr K C "names"
  nF : NoAttr K C "_fields"
  nS : NoAttr K C "_size"
  ha : PySem.W.findIn K (.ref C) "__class__" = some (some (.builtin "object.__class__"))
  hn : PySem.W.specialIn K (.builtin "object.__class__") "__get__" = some (some (.builtin "getset_descriptor.__get__"))
  htk : PySem.W.takesIn K (.builtin "object.__class__") = some true
  hm : PySem.W.mroIn K C (.type "object") = some true
  kI : PySem.W.kitOne K (.type "int") (.ref C) = some false
  kRD : PySem.W.kitOne K (.ref C) (.type "dict") = some false
  kRC : PySem.W.kitOne K (.ref C) (.ref C) = some true
  sI : PySem.W.subIn K (.type "int") (.ref C) = some false
  sR : PySem.W.subIn K (.ref C) (.type "int") = some false
  mgC : mg "Record" = some (.ref C)
theorem RecK.ty {K : PySem.W.Frag} {mg : Str → Option Value} {C : Addr} {H : Hp} {a dx : Addr} {fs : List (Str × V)} (R : RecK K mg C) (e : H a = some (.ins C dx fs)) : TyX K H (.ref a) (.ref C) := .base (.ins e R.cl R.ha R.hn R.htk R.hm)
/-- a def of the class, by its name -/
structure DfM (K : PySem.W.Frag) (C : Addr) (x q : Str) (st : Stmt) (ps : List Str) : Prop where
  ex : ∃ f fd, Sm K C x f ∧ PySem.W.fnIn K f = true ∧ L2.Fun K x q st f fd ∧ Binds K fd ps []
structure Mth (P : Program) (w : World) (K : PySem.W.Frag) (mg : Str → Option Value) (base : Heap) (C : Addr) (k : Nat) (x : Str) (sp : Sp) : Prop where
  ex : ∃ (f : Addr) (fd : FuncData) (ps : List Str), FnOk P w K mg base CX0 k f fd ps sp ∧ Sm K C x f ∧ PySem.W.fnIn K f = true ∧ Binds K fd ps []
structure MthS (P : Program) (w : World) (K : PySem.W.Frag) (mg : Str → Option Value) (base : Heap) (C : Addr) (k : Nat) (x : Str) (sp : Nat → Sp) : Prop where
  ex : ∃ (f : Addr) (fd : FuncData) (ps : List Str), FnS P w K mg base CX0 k f fd ps sp ∧ Sm K C x f ∧ PySem.W.fnIn K f = true ∧ Binds K fd ps []
section
variable {P : Program} {w : World} {K : PySem.W.Frag} {mg : Str → Option Value} {base : Heap} {C : Addr}
theorem DfM.cal {x qu : Str} {st : Stmt} {N ps : List Str} {k : Nat} {sp : Sp} (D : DfM K C x qu st ps) (S : FnScope N ps (defScope st)) (len : ∀ vs H Q E, sp vs H Q E → vs.length = ps.length)
    (body : ∀ (f : Addr) (cdv : Value) (A : Around) (outer : List Env) (s : Shared) (H : Hp) (vs : List V) (Q : VK) (E : XK), Room k (A.deeper (envOfC qu (defScope st) s.heap.objs.size f cdv)) → sp vs H Q E →
      ∃ t, PSs (cxOf CX0 P w K mg base N qu (defScope st) f cdv A outer s H E).nox (defBody st) t ∧ t { nx := fun _ H' => Q .non H', rt := Q } (start N vs) H) : Mth P w K mg base C (k + 1) x sp := by
  obtain ⟨f, fd, hm, hfn, F, b⟩ := D.ex
  exact ⟨f, fd, ps, F.ok S len (body f), hm, hfn, b⟩
end
section
variable {X : Cx} {C : Addr} {k j : Nat} {sp : Sp}
theorem op_inM (m : Mth X.prog X.w X.K X.mg X.base C k "__contains__" sp) (hr : Room j X.A) (hk : k ≤ j) : OpR X (compareOp .In) (rInO false C sp E0) := by
  obtain ⟨f, fd, ps, F, s, _, b⟩ := m.ex
  exact op_inO s F (hr.mono hk) b pass0
theorem op_notInM (m : Mth X.prog X.w X.K X.mg X.base C k "__contains__" sp) (hr : Room j X.A) (hk : k ≤ j) : OpR X (compareOp .NotIn) (rInO true C sp E0) := by
  obtain ⟨f, fd, ps, F, s, _, b⟩ := m.ex
  exact op_notInO s F (hr.mono hk) b pass0
theorem pe_ixM {a b : Expr} {ta tb : TE} {pos : Pos} (m : Mth X.prog X.w X.K X.mg X.base C k "__getitem__" sp) (hr : Room j X.A) (hk : k + 1 ≤ j) (ha : PE X a ta) (hb : PE X b tb)
    (hsl : ∀ (q : Addr) (i : Value), subscripted b true (.ref q) i = runValue (.builtin "lifetime.subscript" ⟨[.ref q, i], []⟩) := by intro _ _; with_unfolding_all rfl) : PE X (.Subscript a b pos) (tIxO C sp E0 ta tb) := by
  obtain ⟨f, fd, ps, F, s, fn, bd⟩ := m.ex
  exact pe_ixO s fn F (hr.mono hk) bd pass0 ha hb hsl
theorem call_lenM (m : Mth X.prog X.w X.K X.mg X.base C k "__len__" sp) (hr : Room j X.A) (hk : k + 1 ≤ j) : CallR X (.builtin "len") (rLenO C sp E0) := by
  obtain ⟨f, fd, ps, F, s, _, b⟩ := m.ex
  exact call_lenO s F (hr.mono hk) b pass0
theorem op_eqML (R : RecK X.K X.mg C) (m : Mth X.prog X.w X.K X.mg X.base C k "__eq__" sp) (hr : Room j X.A) (hk : k ≤ j) : OpR X (compareOp .Eq) (rEqOL X.K C sp E0) := by
  obtain ⟨f, fd, ps, F, s, _, b⟩ := m.ex
  exact op_eqOL s R.sI F (hr.mono hk) b pass0
theorem op_eqMR (R : RecK X.K X.mg C) (m : Mth X.prog X.w X.K X.mg X.base C k "__eq__" sp) (hr : Room j X.A) (hk : k ≤ j) : OpR X (compareOp .Eq) (rEqOR C sp E0) := by
  obtain ⟨f, fd, ps, F, s, _, b⟩ := m.ex
  exact op_eqOR s R.sR F (hr.mono hk) b pass0
theorem pi_ownM {tg e : Expr} {te : TE} (R : RecK X.K X.mg C) (m : MthS X.prog X.w X.K X.mg X.base C k "__iter__" (spIt X.K)) (hr : Room j X.A) (hk : k ≤ j) (he : PE X e te) : PI X tg e (iOwn X.K te C) := by
  obtain ⟨f, fd, ps, F, s, _, b⟩ := m.ex
  exact pi_own s R.cl R.nN F (hr.mono hk) b pass0 he
theorem ps_no {st : Stmt} : PS X st (fun _ _ _ => False) := ⟨fun _ _ _ _ _ _ h => h.elim⟩
theorem pe_no {e : Expr} : PE X e (fun _ _ _ => False) := ⟨fun _ _ _ _ _ _ h => h.elim⟩
end
end Lw
/-! What a generator of paths hands out; storing a name and making a tuple without touching the table of generators. -/
namespace Gn
open PySem PySem.Spec PyProof.Rows L2 GenW GrT Lw
/-! ### the paths of a record -/
inductive RowsR (R : V → List (List Str) → Prop) : List (Str × V) → List (List Str) → Prop
  | nil : RowsR R [] []
  | int {x : Str} {i : Int} {l : List (Str × V)} {ps : List (List Str)} : RowsR R l ps → RowsR R ((x, .int i) :: l) ([x] :: ps)
  | sub {x : Str} {v : V} {sub : List (List Str)} {l : List (Str × V)} {ps : List (List Str)} : R v sub → RowsR R l ps → RowsR R ((x, v) :: l) ([x] :: (sub.map (x :: ·) ++ ps))
theorem RowsR.imp {R R' : V → List (List Str) → Prop} (k : ∀ v ps, R v ps → R' v ps) : ∀ {l : List (Str × V)} {ps : List (List Str)}, RowsR R l ps → RowsR R' l ps
  | _, _, .nil => .nil
  | _, _, .int r => .int (r.imp k)
  | _, _, .sub h r => .sub (k _ _ h) (r.imp k)
/-- v is a record at most n deep, ps its paths -/
def Pt (C : Addr) (H : Hp) : Nat → V → List (List Str) → Prop
  | 0, _, _ => False
  | n + 1, v, ps => ∃ a l z, v = .ref a ∧ RA (fun _ => True) C H a l z ∧ l.length ≤ 40 ∧ RowsR (Pt C H n) l ps
theorem Pt.same {C : Addr} {H H' : Hp} (sm : Same H H') : ∀ {n : Nat} {v : V} {ps : List (List Str)}, Pt C H n v ps → Pt C H' n v ps
  | 0, _, _, h => h
  | n + 1, v, ps, ⟨a, l, z, e, r, hl, rows⟩ => ⟨a, l, z, e, r.keep fun b o _ q _ => sm b o q, hl, rows.imp fun _ _ q => q.same sm⟩
/-! ### the sleeping generator -/
/-- the table's entries but g and og are as they were -/
def Kn (g : Nat) (og : List (Nat × GenState)) (s s1 : Shared) : Prop := s.gens.size ≤ s1.gens.size ∧ ∀ n, n < s.gens.size → n ≠ g → (∀ q ∈ og, q.1 ≠ n) → s1.gens[n]? = s.gens[n]?
/-- numbers of og, or new ones -/
def Nm (og : List (Nat × GenState)) (s : Shared) (og' : List (Nat × GenState)) : Prop := ∀ q ∈ og', (∃ q0 ∈ og, q0.1 = q.1) ∨ s.gens.size ≤ q.1
theorem Kn.refl {g : Nat} {og : List (Nat × GenState)} {s : Shared} : Kn g og s s := ⟨Nat.le_refl _, fun _ _ _ _ => rfl⟩
theorem Kn.trans {g : Nat} {og : List (Nat × GenState)} {s s1 s2 : Shared} (a : Kn g og s s1) (b : s1.gens.size ≤ s2.gens.size) (c : ∀ n, n < s.gens.size → n ≠ g → (∀ q ∈ og, q.1 ≠ n) → s2.gens[n]? = s1.gens[n]?) : Kn g og s s2 :=
  ⟨Nat.le_trans a.1 b, fun n h1 h2 h3 => (c n h1 h2 h3).trans (a.2 n h1 h2 h3)⟩
/-- its own objects, apart from what the consumer has; the generators that it has -/
structure Own (lo it : Addr) (go : Obj) (g : Nat) (H1 : Hp) (pk : List (Addr × Obj)) (s1 : Shared) (og : List (Nat × GenState)) (ow : List (Addr × Obj)) : Prop where
  obj : (it, go) ∈ ow
  ow : ∀ q ∈ ow, lo ≤ q.1 ∧ s1.heap.get? q.1 = some q.2 ∧ H1 q.1 = none ∧ (∀ v, q.2.data ≠ .cell v) ∧ ∀ q' ∈ pk, q'.1 ≠ q.1
  og : ∀ q ∈ og, g < q.1 ∧ s1.gens[q.1]? = some q.2
section
variable (P : Program) (w : World) (K : PySem.W.Frag) (mg : Str → Option Value) (base : Heap) (A : Around) (outer : List Env) (lo it : Addr) (go : Obj) (g : Nat) (Hc : Hp)
/-- asleep, with ps still to come -/
def Slp : List (List Str) → List (Nat × GenState) → List (Addr × Obj) → GenState → Prop
  | [], og, ow, gs => gs.bare = true ∧ ∀ s H pk, Wake P w K mg base A outer Hc g og ow pk s H → Go (model P w) A (fun e s1 => e.result = .returned .none ∧ e.quiet = true ∧ ∃ H1, Ctr P w outer lo s H H1 pk s1 ∧ Kn g og s s1) gs s
  | p :: ps, og, ow, gs => gs.bare = true ∧ ∀ s H pk, Wake P w K mg base A outer Hc g og ow pk s H → Go (model P w) A (fun e s1 => ∃ t H1 og' ow', e.result = .yielded (.ref t) ∧ e.quiet = true ∧ H t = none ∧ H1 t = some (.tup (p.map V.str)) ∧
      Ctr P w outer lo s H H1 pk s1 ∧ Kn g og s s1 ∧ Own lo it go g H1 pk s1 og' ow' ∧ Nm og s og' ∧ Slp ps og' ow' e.genState) gs s
/-- what is wanted of a stretch's end, ps still to come at its begin -/
def Phi (s : Shared) (H : Hp) (og : List (Nat × GenState)) (pk : List (Addr × Obj)) : List (List Str) → End → Shared → Prop
  | [] => fun e s1 => e.result = .returned .none ∧ e.quiet = true ∧ ∃ H1, Ctr P w outer lo s H H1 pk s1 ∧ Kn g og s s1
  | p :: ps => fun e s1 => ∃ t H1 og' ow', e.result = .yielded (.ref t) ∧ e.quiet = true ∧ H t = none ∧ H1 t = some (.tup (p.map V.str)) ∧ Ctr P w outer lo s H H1 pk s1 ∧ Kn g og s s1 ∧ Own lo it go g H1 pk s1 og' ow' ∧ Nm og s og' ∧
      Slp P w K mg base A outer lo it go g Hc ps og' ow' e.genState
end
theorem Slp.iff {P : Program} {w : World} {K : PySem.W.Frag} {mg : Str → Option Value} {base : Heap} {A : Around} {outer : List Env} {lo it : Addr} {go : Obj} {g : Nat} {Hc : Hp} {ps : List (List Str)} {og : List (Nat × GenState)} {ow : List (Addr × Obj)} {gs : GenState} :
    Slp P w K mg base A outer lo it go g Hc ps og ow gs ↔ gs.bare = true ∧ ∀ s H pk, Wake P w K mg base A outer Hc g og ow pk s H → Go (model P w) A (Phi P w K mg base A outer lo it go g Hc s H og pk ps) gs s := by
  cases ps <;> rfl
/-! ### the table of generators is left alone -/
section
variable {X : Cx} {pins : List (Addr × Obj)} {σ : L2.St} {H : Hp} {s : Shared} {A : Around} {E : Value → Shared → Prop}
theorem store_g {i : Nat} {x : Str} {v : V} {u : Value} {Q : Unit → Shared → Prop} (I : Inv X pins σ H s) (pl : Plain X.env) (hN : X.N.Nodup) (hi : X.N[i]? = some x) (hk : X.env.kindOf x = some .local) (r : RelV v u)
    (h : ∀ s', s'.gens = s.gens → Inv X pins (σ.set i (some v)) H s' → Q () s') : wpAny (model X.prog X.w) A (storeName X.env x u) Q E s := by
  obtain ⟨m, hn, hl⟩ := id I.loc
  have hcls : (X.env.scope.kind == .class || (X.env.scope.kind == .module && X.env.locals != X.env.globals)) = false := by rw [I.ok.kind]; rfl
  have hiσ : i < σ.length := by rw [I.len]; exact (List.getElem?_eq_some_iff.mp hi).1
  have nol : ∀ y c, X.env.cells.lookup y = some c → False := fun y c z => by
    rw [pl.cells] at z
    cases z
  refine wpAny_storeName_local hk hn (fun h' hn' hs => ?_) hcls
  have nL : ∀ b u, H b = some u → b ≠ X.env.locals := fun b u e z => by
    rw [z, I.free] at e
    cases e
  obtain ⟨oL, _, _, hoL, _⟩ := id hn
  obtain ⟨oL', _, _, hoL', _⟩ := id hn'
  have old : ∀ b o, X.s_0.heap.get? b = some o → b ≠ X.env.locals := fun b o e => Nat.ne_of_lt (Nat.lt_of_lt_of_le (Heap.lt_size e) I.ok.above)
  refine h _ rfl ⟨I.ok, I.os, I.bare, ⟨fun b o e n hb hx => ?_, fun b o e n hb hx => ?_, I.base.free, fun b o e hx => ?_, I.base.tups, I.base.frzs, I.base.tbls⟩, ⟨_, hn', fun j y v' e1 e2 e3 => ?_⟩, fun y c z => (nol y c z).elim, I.free, fun y c z => (nol y c z).elim, fun p hp => ?_, fun b u e => ?_, ?_⟩
  · exact (hs.2 b (old b o e)).trans (I.base.keep b o e n hb hx)
  · obtain ⟨sl, e1⟩ := I.base.slot b o e n hb hx
    exact ⟨sl, (hs.2 b (old b o e)).trans e1⟩
  · obtain ⟨o', e1⟩ := I.base.there b o e hx
    exact ⟨o', (hs.2 b (old b o e)).trans e1⟩
  · by_cases hj : j = i
    · subst hj
      rw [hi] at e1
      cases e1
      rw [List.getElem?_set_self hiσ] at e2
      cases e2
      exact ⟨u, r, .inl ⟨hk, by simp⟩⟩
    · rw [List.getElem?_set_ne (Ne.symm hj)] at e2
      obtain ⟨u', r', q⟩ := hl j y v' e1 e2 e3
      refine ⟨u', r', ?_⟩
      rcases q with ⟨k, e⟩ | ⟨k, c, e, _⟩
      · refine .inl ⟨k, ?_⟩
        have ne : y ≠ x := fun z => hj ((List.getElem?_inj (List.getElem?_eq_some_iff.mp e1).1 hN).mp (by rw [e1, hi, z]))
        simp only [if_neg ne]
        exact e
      · exact (nol y c e).elim
  · obtain ⟨h1, h2, h3, h4, h5⟩ := I.pin p hp
    exact ⟨(hs.2 p.1 h3).trans h1, h2, h3, h4, h5⟩
  · refine (I.hok b u e).stay (fun c v hc q => (hs.2 c ?_).trans q) (fun _ q => q) fun _ _ q => q
    rcases hc with z | z
    · rw [z]
      exact nL b u e
    · exact nL c _ z
  · rw [List.length_set]
    exact I.len
/-- (x, *y) -/
theorem pair_g {i j : Nat} {x y : Str} {n : Str} {t : Addr} {xs : List V} {p1 p2 p3 pos : Pos} {x1 : Nat} {Q : Value → Shared → Prop} (I : Inv X pins σ H s) (hi : X.N[i]? = some x) (hj : X.N[j]? = some y) (kx : X.env.kindOf x = some .local) (ky : X.env.kindOf y = some .local)
    (dx : (x == ("__debug__" : Str)) = false) (dy : (y == ("__debug__" : Str)) = false) (ex : σ[i]? = some (some (.str n))) (ey : σ[j]? = some (some (.ref t))) (ht : H t = some (.tup xs)) (hz : xs.length + 1 ≤ sizeLine)
    (h : ∀ s' p, s'.gens = s.gens → H p = none → Inv X pins σ (upd H p (.tup (.str n :: xs))) s' → Q (.ref p) s') : wpAny (model X.prog X.w) A (eval (.Tuple [.Name x p1, .Starred (.Name y p2) p3] x1 pos) X.env) Q E s := by
  obtain ⟨m, hn, hl⟩ := id I.loc
  have vis : ∀ {z : Str}, X.env.kindOf z = some .local → Vis X.env.scope z := fun k => .inl k
  obtain ⟨u1, r1, l1⟩ := hl i x (.str n) hi ex (vis kx)
  obtain ⟨u2, r2, l2⟩ := hl j y (.ref t) hj ey (vis ky)
  have m1 : m x = some u1 := by
    rcases l1 with ⟨_, z⟩ | ⟨z, _⟩
    · exact z
    · rw [kx] at z
      rcases z with z | z <;> cases z
  have m2 : m y = some u2 := by
    rcases l2 with ⟨_, z⟩ | ⟨z, _⟩
    · exact z
    · rw [ky] at z
      rcases z with z | z <;> cases z
  obtain rfl : u2 = Value.ref t := r2
  obtain ⟨hlen, its, rits, o, ho, hc, nn, hd⟩ := I.hok t _ ht
  have hl2 := rits.length
  refine wpAny_Tuple_spliced ?_
  show wpAny _ _ (spliced ((false, eval (.Name x p1) X.env) :: backTo pos (starEach [.Starred (.Name y p2) p3] X.env))) _ _ s
  refine Calls.spliced_cons (wpAny_Name (wpAny_loadName_local I.ok.kind kx hn m1 ?_) dx)
  refine PySem.W.items_star (wpAny_Name (wpAny_loadName_local I.ok.kind ky hn m2 ?_) dy)
  have hT : s.TypeIs (.ref t) "tuple" := ⟨o, ho, hc⟩
  unfold PySem.W.StarOf notIterableAtAll
  refine wpAny_bind (wpAny_specialOf hT PySem.F.slot_tuple_iter.lookup (wpAny_pure ⟨rfl, ?_⟩))
  refine wpAny_collect_seq t (.inr rfl) ho hc hd (fun h' hk => ?_) (by rw [List.size_toArray]; omega)
  have e : its.toArray.toList = its := by simp
  rw [e]
  refine Calls.spliced_nil ?_
  rw [List.append_nil]
  have I1 : Inv X pins σ H { s with heap := h' } := I.kept (t' := s.toks) hk
  have hf : H h'.objs.size = none := I1.hok.fresh (Nat.le_refl _)
  have hz2 : (V.str n :: xs).length ≤ sizeLine := by
    rw [List.length_cons]
    exact hz
  refine ⟨by rw [List.length_cons, ← hl2]; exact hz, h _ _ rfl hf ?_⟩
  refine I1.laid (t' := s.toks) (fun b u e => Heap.get?_push_of_some _ e) (Nat.le_refl _) ?_
  exact ⟨hz2, u1 :: its, .cons r1 rits, ⟨_, Heap.get?_push_size _ rfl, rfl, _, rfl⟩⟩
end
end Gn
/-! Steps that tell their state: the table of generators is as it was. -/
namespace Gn
open PySem PySem.Spec PyProof.Rows L2 GenW GrT GrOwn Lw
section
variable {X : Cx} {pins : List (Addr × Obj)} {σ : L2.St} {H : Hp} {s : Shared} {E : Value → Shared → Prop}
/-- a local name -/
theorem name_g {A : Around} {i : Nat} {x : Str} {v : V} {p : Pos} {Q : Value → Shared → Prop} (I : Inv X pins σ H s) (hi : X.N[i]? = some x) (kx : X.env.kindOf x = some .local) (nd : (x == ("__debug__" : Str)) = false) (ev : σ[i]? = some (some v)) (h : ∀ u, RelV v u → Q u s) :
    wpAny (model X.prog X.w) A (eval (.Name x p) X.env) Q E s := by
  obtain ⟨m, hn, look⟩ := id I.loc
  obtain ⟨u, ru, lu⟩ := look i x v hi ev (.inl kx)
  have mu : m x = some u := lu.elim And.right fun z => by
    obtain ⟨k, _⟩ := z
    rw [kx] at k
    cases k with
    | inl q => cases q
    | inr q => cases q
  exact wpAny_Name (wpAny_loadName_local I.ok.kind kx hn mu (h u ru)) nd
/-- an attribute of the instance that a local names -/
theorem fld_g {i : Nat} {x f : Str} {a C dx : Addr} {fs : List (Str × V)} {v : V} {p pos : Pos} {Q : Value → Shared → Prop} (I : Inv X pins σ H s) (hi : X.N[i]? = some x) (kx : X.env.kindOf x = some .local) (nd : (x == ("__debug__" : Str)) = false) (ev : σ[i]? = some (some (.ref a)))
    (ea : H a = some (.ins C dx fs)) (c : Cls X.K C) (n : NoAttr X.K C f) (l : fs.lookup f = some v) (hb : attributeBase (.Name x p) f X.env (eval (.Name x p) X.env) = eval (.Name x p) X.env) (h : ∀ u t, RelV v u → Q u { s with toks := t }) :
    wpAny (model X.prog X.w) X.A (eval (.Attribute (.Name x p) f pos) X.env) Q E s := by
  refine attr_of hb (name_g I hi kx nd ev fun w rw' => ?_)
  have ew : w = Value.ref a := rw'
  subst ew
  obtain ⟨tells, O, r, _⟩ := ins_get I.hok ea
  have ⟨w, hw, rel⟩ := RelO.some_of (o := tells f) (v := v) (l ▸ r f)
  exact get_map I.kIn O (c.get f) c.hd n hw (handed_of rel) (h w _ rel)
/-- (x,) -/
theorem one_g {i : Nat} {x n : Str} {p pos : Pos} {k : Nat} {Q : Value → Shared → Prop} (I : Inv X pins σ H s) (hi : X.N[i]? = some x) (kx : X.env.kindOf x = some .local) (nd : (x == ("__debug__" : Str)) = false) (ev : σ[i]? = some (some (.str n)))
    (h : ∀ s' q, s'.gens = s.gens → H q = none → Inv X pins σ (upd H q (.tup [.str n])) s' → Q (.ref q) s') : wpAny (model X.prog X.w) X.A (eval (.Tuple [.Name x p] k pos) X.env) Q E s := by
  refine wpAny_Tuple_spliced ?_
  show wpAny _ _ (spliced ((false, eval (.Name x p) X.env) :: backTo pos (starEach [] X.env))) _ _ s
  refine Calls.spliced_cons (name_g I hi kx nd ev fun u ru => Calls.spliced_nil ?_)
  have hf : H s.heap.objs.size = none := I.hok.fresh (Nat.le_refl _)
  have one : 1 ≤ sizeLine := by decide
  exact ⟨one, h _ _ rfl hf (I.laid (t' := s.toks) (fun b o e => Heap.get?_push_of_some _ e) (Nat.le_refl _) ⟨one, [u], .cons ru .nil, ⟨_, Heap.get?_push_size _ rfl, rfl, _, rfl⟩⟩)⟩
/-- v = self.f[n] -/
theorem set_dget_g {i j m : Nat} {x y z f : Str} {n : Str} {a C dx d : Addr} {fs : List (Str × V)} {kvs : List (Key × V)} {v : V} {p1 p2 p3 p4 p5 pos : Pos} {Q : Flow → Shared → Prop} (hu : X.A.units + 1 < cLine) (I : Inv X pins σ H s) (pl : Plain X.env) (hN : X.N.Nodup)
    (hi : X.N[i]? = some x) (kx : X.env.kindOf x = some .local) (nx : (x == ("__debug__" : Str)) = false) (ex : σ[i]? = some (some (.ref a))) (hj : X.N[j]? = some y) (ky : X.env.kindOf y = some .local) (ny : (y == ("__debug__" : Str)) = false) (ey : σ[j]? = some (some (.str n)))
    (hm : X.N[m]? = some z) (kz : X.env.kindOf z = some .local) (ea : H a = some (.ins C dx fs)) (c : Cls X.K C) (na : NoAttr X.K C f) (l : fs.lookup f = some (.ref d)) (ed : H d = some (.dK kvs)) (lv : valV kvs (Sum.inr n : Key) = some v)
    (hb : attributeBase (.Name x p1) f X.env (eval (.Name x p1) X.env) = eval (.Name x p1) X.env) (hs : swapsWith (.Subscript (.Attribute (.Name x p1) f p2) (.Name y p3) p4) (some (.Name z p5)) pos.line X.env = pure false)
    (h : ∀ s', s'.gens = s.gens → Inv X pins (σ.set m (some v)) H s' → Q .next s') : wpAny (model X.prog X.w) X.A (exec (.Assign [.Name z p5] (.Subscript (.Attribute (.Name x p1) f p2) (.Name y p3) p4) pos) X.env) Q E s := by
  refine wpAny_Assign_Name (subD_of PySem.F.slot_dict_getitem.lookup (fun _ _ => rfl) (fld_g I hi kx nx ex ea c na l hb fun w t rel => name_g (I.tok t) hj ky ny ey fun k rk => ?_)) hs
  have ew : w = Value.ref d := rel
  subst ew
  have It := I.tok t
  have g : DGet H d (.str n) (some v) := lv ▸ DGet.k (k := Sum.inr n) ed
  refine ⟨dict_typeIs It g, ?_⟩
  obtain ⟨_, _, vs, kv, dd⟩ := dk_of It.hok ed
  have ⟨w, hw, rw'⟩ := RelO.some_of (o := valueAt vs (Sum.inr n)) (v := v) (lv ▸ kv.val (Sum.inr n))
  refine wpAny_getItem_of (kV_is (k := Sum.inr n) rk) dd.mapOf hw ?_
  exact store_g (It.tok _) pl hN hm kz rw' fun s' e I' => h s' e I'
/-- isinstance(x, C) as a test -/
theorem isi_g {i : Nat} {x c : Str} {v : V} {C : Addr} {t : Value} {b : Bool} {p1 p2 p3 pos : Pos} {Q : Bool → Shared → Prop} (I : Inv X pins σ H s) (hi : X.N[i]? = some x) (kx : X.env.kindOf x = some .local) (nx : (x == ("__debug__" : Str)) = false) (ev : σ[i]? = some (some v))
    (hg : Gl X "isinstance") (hm : X.mg "isinstance" = none) (hg2 : Gl X c) (hm2 : X.mg c = some (.ref C)) (nc : (c == ("__debug__" : Str)) = false) (ty : TyX X.K H v t) (e : PySem.W.kitOne X.K t (.ref C) = some b)
    (ht : ∀ whole, isTrue (.Call (.Name "isinstance" p1) [.Name x p2, .Name c p3] [] pos) X.env whole = (do let v ← whole; standAt (Expr.pos (.Call (.Name "isinstance" p1) [.Name x p2, .Name c p3] [] pos)); holding [v] (truthy v)))
    (he : starEach [.Name x p2, .Name c p3] X.env = (false, eval (.Name x p2) X.env) :: starEach [.Name c p3] X.env) (hpl : (backTo pos (starEach [.Name c p3] X.env)).any (·.1) = false) (he2 : backTo pos (starEach [.Name x p2, .Name c p3] X.env) = (false, eval (.Name x p2) X.env) :: (false, eval (.Name c p3) X.env) :: [])
    (h : ∀ tk, Q b { s with toks := tk }) : wpAny (model X.prog X.w) X.A (isTrue (.Call (.Name "isinstance" p1) [.Name x p2, .Name c p3] [] pos) X.env (eval (.Call (.Name "isinstance" p1) [.Name x p2, .Name c p3] [] pos) X.env)) Q E s := by
  refine isTrue_plain (wpAny_Call_Name_kw (ld_blt I hg hm bo_isinstance (PyProof.Rows.callWith_builtin1 ?_ he hpl))) (ht _)
  rw [he2]
  refine Calls.spliced_cons (name_g I hi kx nx ev fun u ru => Calls.spliced_cons (ld_glob I hg2 hm2 (Calls.spliced_nil ?_) nc))
  obtain ⟨P, Z, pp, hx⟩ := kit_of I ru ty
  exact PySem.W.kia_one Z I.kIn pp e hx fun tk => wpAny_truthy_bool (h tk)
end
end Gn
/-! A point within a stretch of a generator's run; handing out; the end. -/
namespace Gn
open PySem PySem.Spec PyProof.Rows L2 GenW GrT Lw
/-- a point within a stretch that began at s0 with H0 and the pins pk0; own: the generator's own objects but its frame -/
structure Pnt (P : Program) (w : World) (K : PySem.W.Frag) (mg : Str → Option Value) (base : Heap) (N : List Str) (env : Env) (A : Around) (outer : List Env) (it : Addr) (go : Obj) (g : Nat) (Hc : Hp) (s0 : Shared) (H0 : Hp) (og0 : List (Nat × GenState)) (pk0 own : List (Addr × Obj)) (σ : L2.St) (H : Hp) (s : Shared) : Prop where
  I : Inv (pcx P w K mg base N env A outer s0 H0) (pk0 ++ own) σ H s
  same : Same H0 H
  ext : Same Hc H
  num : g < s.gens.size
  obj : (it, go) ∈ own
  low : ∀ q ∈ own, env.locals < q.1
  apart : ∀ q' ∈ pk0, ∀ q ∈ own, q'.1 ≠ q.1
  kn : Kn g og0 s0 s
section
variable {P : Program} {w : World} {K : PySem.W.Frag} {mg : Str → Option Value} {base : Heap} {N : List Str} {env : Env} {A : Around} {outer : List Env} {it : Addr} {go : Obj} {g : Nat} {Hc : Hp} {s0 : Shared} {H0 : Hp} {og0 : List (Nat × GenState)} {pk0 own : List (Addr × Obj)} {σ : L2.St} {H : Hp} {s : Shared}
theorem Pnt.ownAt (p : Pnt P w K mg base N env A outer it go g Hc s0 H0 og0 pk0 own σ H s) : ∀ q ∈ own, s.heap.get? q.1 = some q.2 ∧ H q.1 = none ∧ q.1 ≠ env.locals ∧ q.1 ∉ frs outer ∧ ∀ v, q.2.data ≠ .cell v := fun q hq =>
  p.I.pin q (List.mem_append_right _ (List.mem_append_right _ hq))
/-- asleep at this point -/
theorem Pnt.sleep {ps : List (List Str)} {og : List (Nat × GenState)} {gs : GenState} (pl : Plain env) (hh : A.handled = none) (hb : base.objs.size ≤ env.locals) (ho : ∀ b ∈ frs outer, b < env.locals) (p : Pnt P w K mg base N env A outer it go g Hc s0 H0 og0 pk0 own σ H s) (hg : gs.bare = true)
    (hog : ∀ q ∈ og, g < q.1 ∧ s.gens[q.1]? = some q.2)
    (next : ∀ s' H' pk', Pnt P w K mg base N env A outer it go g Hc s' H' og pk' own σ H' s' → (∀ q ∈ og, s'.gens[q.1]? = some q.2) → Go (model P w) A (Phi P w K mg base A outer env.locals it go g Hc s' H' og pk' ps) gs s') :
    ∃ ow, Own env.locals it go g H pk0 s og ow ∧ Slp P w K mg base A outer env.locals it go g Hc ps og ow gs := by
  obtain ⟨m, hns, hlk⟩ := p.I.loc
  obtain ⟨fo, es, ep, hfo, hd, r⟩ := id hns
  have nol : ∀ x c, env.cells.lookup x = some c → False := fun x c z => by
    rw [pl.cells] at z
    cases z
  have fr : FrOk N env fo σ := fun h hh => ⟨m, hns.at fun o e => by
    have e2 : s.heap.get? env.locals = some o := e
    rw [hfo] at e2
    cases e2
    exact hh, fun i x v e1 e2 e3 => by
    obtain ⟨u, rv, l⟩ := hlk i x v e1 e2 e3
    refine ⟨u, rv, ?_⟩
    rcases l with ⟨k, z⟩ | ⟨_, c, z, _⟩
    · exact .inl ⟨k, z⟩
    · exact (nol x c z).elim⟩
  have own1 := p.ownAt
  refine ⟨(env.locals, fo) :: own, ⟨List.mem_cons_of_mem _ p.obj, fun q hq => ?_, hog⟩, Slp.iff.mpr ⟨hg, fun s' H' pk' W => ?_⟩⟩
  · rcases List.mem_cons.mp hq with rfl | z
    · refine ⟨Nat.le_refl _, hfo, p.I.free, fun v z => ?_, fun q' hq' e => (p.I.pin q' (List.mem_append_right _ (List.mem_append_left _ hq'))).2.2.1 e⟩
      have hd2 : fo.data = .dict es ep := hd
      rw [hd2] at z
      cases z
    · obtain ⟨z1, z2, _, _, z5⟩ := own1 q z
      exact ⟨Nat.le_of_lt (p.low q z), z1, z2, z5, fun q' hq' => p.apart q' hq' q z⟩
  · refine next s' H' pk' ⟨inv_wake pl hh W List.mem_cons_self fr hb ho p.I.len fun q hq => ?_, Same.refl _, W.ext, W.num, p.obj, p.low, fun q' hq' q hq => ?_, Kn.refl⟩ W.gens
    · obtain ⟨_, _, z3, z4, z5⟩ := own1 q hq
      exact ⟨List.mem_cons_of_mem _ hq, z3, z4, z5⟩
    · exact (W.pin q' hq').2.2.2.2 q (List.mem_cons_of_mem _ hq)
/-- p is handed out at this point -/
theorem Pnt.yield {t : Addr} {x : List Str} {ps : List (List Str)} {og : List (Nat × GenState)} {e : End} {cont : (End → Shared → Prop) → Shared → Prop} (pl : Plain env) (hh : A.handled = none) (hb : base.objs.size ≤ env.locals) (ho : ∀ b ∈ frs outer, b < env.locals)
    (p : Pnt P w K mg base N env A outer it go g Hc s0 H0 og0 pk0 own σ H s) (ye : YEnd (model P w) A (.ref t) cont e) (h0 : H0 t = none) (h1 : H t = some (.tup (x.map V.str))) (hog : ∀ q ∈ og, g < q.1 ∧ s.gens[q.1]? = some q.2) (nm : Nm og0 s0 og)
    (next : ∀ s' H' pk', Pnt P w K mg base N env A outer it go g Hc s' H' og pk' own σ H' s' → (∀ q ∈ og, s'.gens[q.1]? = some q.2) → cont (Phi P w K mg base A outer env.locals it go g Hc s' H' og pk' ps) s') :
    Phi P w K mg base A outer env.locals it go g Hc s0 H0 og0 pk0 (x :: ps) e s := by
  obtain ⟨ow, h2, h3⟩ := p.sleep (ps := ps) (og := og) (gs := e.genState) pl hh hb ho (End.bare_of_quiet ye.quiet) hog fun s' H' pk' p' hg => ye.go _ _ (next s' H' pk' p' hg)
  exact ⟨t, H, og, ow, ye.res, ye.quiet, h0, h1, ctr_of p.I p.same, p.kn, h2, nm, h3⟩
/-- the end -/
theorem Pnt.fin (p : Pnt P w K mg base N env A outer it go g Hc s0 H0 og0 pk0 own σ H s) : Phi P w K mg base A outer env.locals it go g Hc s0 H0 og0 pk0 [] (.ret (.ok (.ret .none))) s :=
  ⟨rfl, rfl, H, ctr_of p.I p.same, p.kn⟩
/-- a step that told of the invariant -/
theorem Pnt.to {own' : List (Addr × Obj)} {σ' : L2.St} {H' : Hp} {s' : Shared} (p : Pnt P w K mg base N env A outer it go g Hc s0 H0 og0 pk0 own σ H s) (I : Inv (pcx P w K mg base N env A outer s0 H0) (pk0 ++ own') σ' H' s') (sm : Same H H') (hs : s.gens.size ≤ s'.gens.size)
    (hk : ∀ n, n < s0.gens.size → n ≠ g → (∀ q ∈ og0, q.1 ≠ n) → s'.gens[n]? = s.gens[n]?) (ho : (it, go) ∈ own') (hl : ∀ q ∈ own', q ∈ own ∨ (env.locals < q.1 ∧ ∀ q' ∈ pk0, q'.1 ≠ q.1)) : Pnt P w K mg base N env A outer it go g Hc s0 H0 og0 pk0 own' σ' H' s' :=
  ⟨I, p.same.trans sm, p.ext.trans sm, Nat.lt_of_lt_of_le p.num hs, ho, fun q hq => (hl q hq).elim (p.low q) And.left, fun q' hq' q hq => (hl q hq).elim (fun z => p.apart q' hq' q z) fun z => z.2 q' hq', p.kn.trans hs hk⟩
/-- .. and of the table -/
theorem Pnt.toG {own' : List (Addr × Obj)} {σ' : L2.St} {H' : Hp} {s' : Shared} (p : Pnt P w K mg base N env A outer it go g Hc s0 H0 og0 pk0 own σ H s) (I : Inv (pcx P w K mg base N env A outer s0 H0) (pk0 ++ own') σ' H' s') (sm : Same H H') (hg : s'.gens = s.gens)
    (ho : (it, go) ∈ own') (hl : ∀ q ∈ own', q ∈ own ∨ (env.locals < q.1 ∧ ∀ q' ∈ pk0, q'.1 ≠ q.1)) : Pnt P w K mg base N env A outer it go g Hc s0 H0 og0 pk0 own' σ' H' s' :=
  p.to I sm (by rw [hg]; exact Nat.le_refl _) (fun n _ _ _ => by rw [hg]) ho hl
theorem Pnt.keep {σ' : L2.St} {H' : Hp} {s' : Shared} (p : Pnt P w K mg base N env A outer it go g Hc s0 H0 og0 pk0 own σ H s) (I : Inv (pcx P w K mg base N env A outer s0 H0) (pk0 ++ own) σ' H' s') (sm : Same H H') (hg : s'.gens = s.gens) : Pnt P w K mg base N env A outer it go g Hc s0 H0 og0 pk0 own σ' H' s' :=
  p.toG I sm hg p.obj fun q hq => .inl hq
end
/-- a step, the table's size told -/
theorem thg {α : Type} {t : Sem α} {Q Q' : α → Shared → Prop} {M : Model} {A : Around} {s : Shared} (h : wpAny M A t Q NoE s) (hQ : ∀ a s', s.gens.size ≤ s'.gens.size → Q a s' → Q' a s') : wpAny M A t Q' NoE s :=
  wpAny_gsz (n := s.gens.size) (Nat.le_refl _) (wpAny_mono h (fun a s' q hs => hQ a s' hs q) fun _ _ z => z.elim)
end Gn
/-! The paths of a record: the body's parts. -/
namespace Gn
open PySem PySem.Spec PyProof.Rows L2 GenW GrT GrOwn Lw
abbrev sPaths : Stmt := inClass (top 10) 9
abbrev N4 : List Str := ["self", "name", "value", "rest"]
def forB : Stmt → List Stmt
  | .For _ _ b _ _ => b
  | _ => []
def ifB : Stmt → List Stmt
  | .If _ b _ _ => b
  | _ => []
def hdS (l : List Stmt) : Stmt := l.headD (.Pass ⟨0, 0, 0, 0⟩)
abbrev bd1 : List Stmt := forB (hdS (defBody sPaths))
abbrev bdI : List Stmt := ifB (hdS bd1.tail.tail)
abbrev bd2 : List Stmt := forB (hdS bdI)
abbrev penv (lo f : Addr) (cdv : Value) : Env := envOfC "Record.paths" (defScope sPaths) lo f cdv
theorem pnames : ∀ y ∈ (defScope sPaths).names, y.2 ≠ .cell ∧ y.2 ≠ .free := by decide +kernel
theorem plain_env {lo f : Addr} {cdv : Value} : Plain (penv lo f cdv) :=
  ⟨rfl, rfl, rfl, rfl, fun x => ⟨fun z => (pnames _ (PySem.mem_of_lookup z)).1 rfl, fun z => (pnames _ (PySem.mem_of_lookup z)).2 rfl⟩, rfl⟩
theorem nd4 : N4.Nodup := by decide +kernel
/-- what stands of the generator through its life -/
structure Gx (P : Program) (w : World) (K : PySem.W.Frag) (mg : Str → Option Value) (base : Heap) (C : Addr) (k : Nat) (lo f : Addr) (cdv : Value) (A : Around) (outer : List Env) (it : Addr) (go : Obj) (g : Nat) (Hc : Hp) (a : Addr) (l : List (Str × V)) (z : Int) : Prop where
  hh : A.handled = none
  hb : base.objs.size ≤ lo
  ho : ∀ b ∈ frs outer, b < lo
  room : Room k (A.deeper (penv lo f cdv))
  ra : RA (fun _ => True) C Hc a l z
section
variable {P : Program} {w : World} {K : PySem.W.Frag} {mg : Str → Option Value} {base : Heap} {C : Addr} {k : Nat} {lo f : Addr} {cdv : Value} {A : Around} {outer : List Env} {it : Addr} {go : Obj} {g : Nat} {Hc : Hp} {a : Addr} {l : List (Str × V)} {z : Int}
  {s0 : Shared} {H0 : Hp} {og0 : List (Nat × GenState)} {pk0 own : List (Addr × Obj)} {σ : L2.St} {H : Hp} {s : Shared} {px : Pos} {I0 tp : Addr} {fp : List Addr} {tn : Nat → Heap → Prop}
/-- the iterator over the names -/
structure Nit (P : Program) (w : World) (K : PySem.W.Frag) (px : Pos) (lo it tp I0 : Addr) (fp : List Addr) (tn : Nat → Heap → Prop) : Prop where
  T : Turn P w K (.Name "name" px) (Itt K tp) fp I0 tn
  hit : it ∉ fp
  low : ∀ b ∈ fp, lo < b
  fpe : fp = [I0]
  tne : tn = fun i h => h.IsTupleIter I0 tp i
/-- it is pinned -/
def Fpin (fp : List Addr) (own : List (Addr × Obj)) : Prop := ∀ b ∈ fp, ∃ o, (b, o) ∈ own
theorem fpin_cons {q : Addr × Obj} {i : Nat} {h : Heap} (N : Nit P w K px lo it tp I0 fp tn) (t : tn i h) : Fpin fp (q :: pinsAt fp h) := fun b hb => by
  obtain ⟨o, e, _⟩ := N.T.obj i h t b hb
  exact ⟨o, List.mem_cons_of_mem _ (mem_pinsAt hb e)⟩
theorem tn_keep {i : Nat} {h h' : Heap} (N : Nit P w K px lo it tp I0 fp tn) (t : tn i h) (hp : Fpin fp own) (k1 : ∀ q ∈ own, h.get? q.1 = some q.2) (k2 : ∀ q ∈ own, h'.get? q.1 = some q.2) : tn i h' :=
  N.T.keep i h h' t fun b hb o e => by
    obtain ⟨o', hm⟩ := hp b hb
    have e1 := k1 _ hm
    rw [e] at e1
    cases e1
    exact k2 _ hm
theorem turn_names {i : Nat} (G : Gx P w K mg base C k lo f cdv A outer it go g Hc a l z) (N : Nit P w K px lo it tp I0 fp tn) (p : Pnt P w K mg base N4 (penv lo f cdv) A outer it go g Hc s0 H0 og0 pk0 own σ H s) (hf : Fpin fp own) (t : tn i s.heap)
    (htp : Hc tp = some (.tup ((names l).map V.str))) :
    wpAny (model P w) (A.deeper (penv lo f cdv)) (pyNext (.ref I0)) (fun r s1 => (r = none ∧ l.length ≤ i ∧ Pnt P w K mg base N4 (penv lo f cdv) A outer it go g Hc s0 H0 og0 pk0 [(it, go)] σ H s1) ∨
      ∃ u, r = some u ∧ wpAny (model P w) (A.deeper (penv lo f cdv)) (letOwnedTupleGo (.Name "name" px) (.ref I0) u) (fun _ s2 => ∃ x v, RelV (.str x) u ∧ l[i]? = some (x, v) ∧ tn (i + 1) s2.heap ∧
        Pnt P w K mg base N4 (penv lo f cdv) A outer it go g Hc s0 H0 og0 pk0 ((it, go) :: pinsAt fp s2.heap) σ H s2) NoE s1) NoE s := by
  have ow := p.ownAt
  have I1 : Inv (pcx P w K mg base N4 (penv lo f cdv) A outer s0 H0) (pk0 ++ [(it, go)]) σ H s := p.I.pins_of fun q hq => by
    rcases List.mem_append.mp hq with h | h
    · exact p.I.pin q (List.mem_append_right _ (List.mem_append_left _ h))
    · rw [List.mem_singleton.mp h]
      exact ow _ p.obj
  have fok : ∀ {σ' H'} {s' : Shared}, Inv (pcx P w K mg base N4 (penv lo f cdv) A outer s0 H0) (pk0 ++ [(it, go)]) σ' H' s' → (∀ b ∈ fp, H' b = none) → ∀ b ∈ fp, FpOk (pcx P w K mg base N4 (penv lo f cdv) A outer s0 H0) (pk0 ++ [(it, go)]) H' b := fun {σ' H' s'} I' hn b hb => by
    obtain ⟨o, hm⟩ := hf b hb
    obtain ⟨_, _, z3, z4, _⟩ := ow _ hm
    refine ⟨hn b hb, z3, z4, .inr (Nat.le_trans cutAt_size (Nat.le_of_lt (N.low b hb))), fun x c e => (by cases e), fun q hq e => ?_⟩
    rcases List.mem_append.mp (show q ∈ pk0 ++ [(it, go)] from hq) with h | h
    · exact p.apart q h _ hm e
    · rw [List.mem_singleton.mp h] at e
      exact N.hit (by rw [show it = b from e]; exact hb)
  have hn0 : ∀ b ∈ fp, H b = none := fun b hb => by
    obtain ⟨o, hm⟩ := hf b hb
    exact (ow _ hm).2.1
  have hq : SqT K H tp ((names l).map V.str) := SqT.of (p.ext _ _ htp)
  by_cases hi : i < l.length
  · obtain ⟨x, v, hx⟩ : ∃ x v, l[i]? = some (x, v) := ⟨_, _, List.getElem?_eq_getElem hi⟩
    have hx2 : ((names l).map V.str)[i]? = some (.str x) := by
      rw [List.getElem?_map, List.getElem?_map, hx]
      rfl
    obtain ⟨its, rv, pt, _⟩ := I1.tuple hq
    obtain ⟨u, hu, ru⟩ := rv.get hx2
    have t' : s.heap.IsTupleIter I0 tp i := by rw [N.tne] at t; exact t
    have mI : I0 ∈ fp := by rw [N.fpe]; exact List.mem_singleton.mpr rfl
    obtain ⟨f0, f1, f2, f3, f4, f5⟩ := fok I1 hn0 I0 mI
    refine wpAny_pyNext_tuple_item t' (show s.heap.IsTuple tp its.toArray from pt) (x := u) (by simpa using hu) fun h' st sb => .inr ⟨u, rfl, ?_⟩
    have I2 : Inv (pcx P w K mg base N4 (penv lo f cdv) A outer s0 H0) (pk0 ++ [(it, go)]) σ H { s with heap := h' } := I1.turned (t' := s.toks) (fun b o hb e => (sb.2 b hb).trans e) f0 f1 f3 f4 f5
    obtain ⟨o, eo, co, dO⟩ := id st
    have t2 : tn (i + 1) h' := by rw [N.tne]; exact st
    refine go_of (s := { s with heap := h' }) eo co dO (by decide) ⟨x, v, ru, hx, t2, p.toG ?_ (Same.refl _) rfl List.mem_cons_self fun q hq => ?_⟩
    · have I3 := I2.pinned (fok I2 hn0) (N.T.obj _ _ t2)
      rw [List.append_assoc] at I3
      exact I3
    · rcases List.mem_cons.mp hq with rfl | h
      · exact .inl p.obj
      · obtain ⟨hb, _⟩ := of_pinsAt h
        obtain ⟨o, hm⟩ := hf _ hb
        exact .inr ⟨N.low _ hb, fun q' hq' => by
          have z := p.apart q' hq' (q.1, o) hm
          exact z⟩
  · obtain ⟨its, rv, pt, _⟩ := I1.tuple hq
    have t' : s.heap.IsTupleIter I0 tp i := by rw [N.tne] at t; exact t
    have mI : I0 ∈ fp := by rw [N.fpe]; exact List.mem_singleton.mpr rfl
    obtain ⟨f0, f1, f2, f3, f4, f5⟩ := fok I1 hn0 I0 mI
    have hlen := rv.length
    rw [List.length_map, List.length_map] at hlen
    refine wpAny_pyNext_tuple_end G.hh t' (show s.heap.IsTuple tp its.toArray from pt) (by simp; omega) fun h' eb => .inl ⟨rfl, by omega, p.toG (I1.turned (t' := s.toks) (fun b o hb e => eb b o hb e) f0 f1 f3 f4 f5) (Same.refl _) rfl List.mem_cons_self fun q hq => ?_⟩
    rw [List.mem_singleton.mp hq]
    exact .inl p.obj
end
end Gn
/-! The inner loop: over the generator of a field's record. -/
namespace Gn
open PySem PySem.Spec PyProof.Rows L2 GenW GrT GrOwn Lw
/-- a generator that a call gave, asleep at its begin -/
def Born (P : Program) (w : World) (K : PySem.W.Frag) (mg : Str → Option Value) (base : Heap) (k : Nat) (outer : List Env) (s : Shared) (H Hc : Hp) (ps : List (List Str)) (u : Value) (s1 : Shared) : Prop :=
  ∃ (it : Addr) (go : Obj) (g : Nat) (gs : GenState) (ow : List (Addr × Obj)), u = .ref it ∧ s.heap.objs.size < it ∧ (∀ h : Heap, h.get? it = some go → h.IsGen it g) ∧ s.gens.size ≤ g ∧ s1.gens[g]? = some gs ∧ s1.os = s.os ∧ AllBare s1.gens ∧
    (s.gens.size ≤ s1.gens.size ∧ ∀ n, n < s.gens.size → s1.gens[n]? = s.gens[n]?) ∧ (∀ b o, s.heap.get? b = some o → s1.heap.get? b = some o) ∧ Own s.heap.objs.size it go g H [] s1 [] ow ∧ ∀ A', Room k A' → A'.frames = some outer → Slp P w K mg base A' outer s.heap.objs.size it go g Hc ps [] ow gs
/-- what a call of paths promises, the record at most n deep -/
def CallOk (P : Program) (w : World) (K : PySem.W.Frag) (mg : Str → Option Value) (base : Heap) (C f : Addr) (n k : Nat) : Prop :=
  ∀ (A : Around) (outer : List Env) (s : Shared) (H Hc : Hp) (a : Addr) (ps : List (List Str)) (Q : Value → Shared → Prop) (E : Value → Shared → Prop), Room k A → Env0 P w K mg base A outer s H → Same Hc H → Pt C Hc n (.ref a) ps →
    (∀ u s1, Born P w K mg base k outer s H Hc ps u s1 → Q u s1) → wpAny (model P w) A (call (.ref f) [.ref a]) Q E s
/-- the inner generator, asleep -/
structure Inr (P : Program) (w : World) (K : PySem.W.Frag) (mg : Str → Option Value) (base : Heap) (lo : Addr) (B : Around) (st : List Env) (g : Nat) (Hc : Hp) (o1 : List (Addr × Obj)) (lo2 it2 : Addr) (go2 : Obj) (g2 : Nat) (sub : List (List Str)) (og2 : List (Nat × GenState)) (ow2 : List (Addr × Obj)) (gs2 : GenState) (s : Shared) : Prop where
  gen : s.gens[g2]? = some gs2
  num : g < g2
  og : ∀ q ∈ og2, g2 < q.1 ∧ s.gens[q.1]? = some q.2
  obj : (it2, go2) ∈ ow2
  lo : lo < lo2
  low : ∀ q ∈ ow2, lo2 ≤ q.1
  slp : Slp P w K mg base B.in1 st lo2 it2 go2 g2 Hc sub og2 ow2 gs2
  apart : ∀ q ∈ o1, ∀ q' ∈ ow2, q.1 ≠ q'.1
theorem nm_ne {og0 og : List (Nat × GenState)} {s0 : Shared} (nm : Nm og0 s0 og) {q : Nat × GenState} (hq : q ∈ og) {n : Nat} (h1 : n < s0.gens.size) (h2 : ∀ q ∈ og0, q.1 ≠ n) : q.1 ≠ n := fun e => by
  rcases nm q hq with ⟨q0, h, e0⟩ | h
  · exact h2 q0 h (e0.trans e)
  · omega
theorem nm_self {og : List (Nat × GenState)} {s : Shared} : Nm og s og := fun q hq => .inl ⟨q, hq, rfl⟩
theorem setGen_ne {s : Shared} {g j : Nat} {x : GenState} (h : j ≠ g) : (s.setGen g x).gens[j]? = s.gens[j]? := by
  show (s.gens.setIfInBounds g x)[j]? = _
  rw [Array.getElem?_setIfInBounds_ne (Ne.symm h)]
section
variable {P : Program} {w : World} {K : PySem.W.Frag} {mg : Str → Option Value} {base : Heap} {C : Addr} {k : Nat} {lo f : Addr} {cdv : Value} {A : Around} {outer : List Env} {it : Addr} {go : Obj} {g : Nat} {Hc : Hp} {a : Addr} {l : List (Str × V)} {z : Int}
  {px : Pos} {I0 tp : Addr} {fp : List Addr} {tn : Nat → Heap → Prop}
/-- a consumer's step: the table's entry is set, objects may have come -/
theorem inv_set {X : Cx} {pins : List (Addr × Obj)} {σ : L2.St} {H : Hp} {s s' : Shared} (I : Inv X pins σ H s) (ho : s'.os = s.os) (hk : ∀ b o, s.heap.get? b = some o → s'.heap.get? b = some o) (hg : AllBare s'.gens) : Inv X pins σ H s' :=
  I.call' (ch := []) ho (Un.kept hk) (I.hok.kept hk) hg (fun b hb => nomatch hb)
/-- the next of the inner generator -/
theorem inner_next {lo2 it2 : Addr} {go2 : Obj} {g2 : Nat} {o1 : List (Addr × Obj)} {sub : List (List Str)} {og2 : List (Nat × GenState)} {ow2 : List (Addr × Obj)} {gs2 : GenState} {s0 : Shared} {H0 : Hp} {og0 : List (Nat × GenState)} {pk0 : List (Addr × Obj)} {σ : L2.St} {H : Hp} {s : Shared}
    (G : Gx P w K mg base C k lo f cdv A outer it go g Hc a l z) (ho1 : (it, go) ∈ o1) (hz2 : ∀ h : Heap, h.get? it2 = some go2 → h.IsGen it2 g2)
    (p : Pnt P w K mg base N4 (penv lo f cdv) A outer it go g Hc s0 H0 og0 pk0 (o1 ++ ow2) σ H s) (r : Inr P w K mg base lo (A.deeper (penv lo f cdv)) (penv lo f cdv :: outer) g Hc o1 lo2 it2 go2 g2 sub og2 ow2 gs2 s) (nm : Nm og0 s0 ((g2, gs2) :: og2)) :
    wpAny (model P w) (A.deeper (penv lo f cdv)) (pyNext (.ref it2)) (fun u s1 => match sub with
      | [] => u = none ∧ ∃ H1, Pnt P w K mg base N4 (penv lo f cdv) A outer it go g Hc s0 H0 og0 pk0 o1 σ H1 s1
      | q :: sub' => ∃ t H1 og' ow' gs', u = some (.ref t) ∧ H t = none ∧ H1 t = some (.tup (q.map V.str)) ∧ Pnt P w K mg base N4 (penv lo f cdv) A outer it go g Hc s0 H0 og0 pk0 (o1 ++ ow') σ H1 s1 ∧
          Inr P w K mg base lo (A.deeper (penv lo f cdv)) (penv lo f cdv :: outer) g Hc o1 lo2 it2 go2 g2 sub' og' ow' gs' s1 ∧ Nm og0 s0 ((g2, gs') :: og')) NoE s := by
  have own := p.ownAt
  have I1 : Inv (pcx P w K mg base N4 (penv lo f cdv) A outer s0 H0) (pk0 ++ o1) σ H s := p.I.pins_of fun q hq => by
    rcases List.mem_append.mp hq with h | h
    · exact p.I.pin q (List.mem_append_right _ (List.mem_append_left _ h))
    · exact own q (List.mem_append_left _ h)
  have hg2 : g2 < s.gens.size := (Array.getElem?_eq_some_iff.mp r.gen).1
  have e0 := p.I.env0
  have frl : ∀ b, b ∈ frs (penv lo f cdv :: outer) → b = lo ∨ b ∈ frs outer := fun b hb => List.mem_cons.mp hb
  have W : Wake P w K mg base (A.deeper (penv lo f cdv)).in1 (penv lo f cdv :: outer) Hc g2 og2 ow2 (pk0 ++ o1) (s.setGen g2 .running) H := by
    refine ⟨by rw [setGen_size]; exact hg2, fun q hq => ?_, ⟨e0.frames, e0.mod, e0.bs, e0.bsz, e0.funs, e0.frf, e0.hok, allBare_setGen e0.bare rfl⟩, p.ext, fun q hq => ?_, fun q hq => ?_⟩
    · obtain ⟨z1, z2⟩ := r.og q hq
      rw [setGen_ne (Nat.ne_of_gt z1)]
      exact z2
    · obtain ⟨z1, z2, _⟩ := own q (List.mem_append_right _ hq)
      exact ⟨z1, z2⟩
    · obtain ⟨z1, z2, z3, z4, z5⟩ := I1.pin q (List.mem_append_right _ hq)
      refine ⟨z1, z2, fun hb => (frl _ hb).elim z3 z4, z5, fun q' hq' => ?_⟩
      rcases List.mem_append.mp hq with h | h
      · exact p.apart q h q' (List.mem_append_right _ hq')
      · exact r.apart q h q' hq'
  -- behind the stretch
  have after : ∀ {H1 : Hp} {s1 s' : Shared}, Ctr P w (penv lo f cdv :: outer) lo2 (s.setGen g2 .running) H H1 (pk0 ++ o1) s1 → s'.os = s1.os → (∀ b o, s1.heap.get? b = some o → s'.heap.get? b = some o) → AllBare s'.gens →
      Inv (pcx P w K mg base N4 (penv lo f cdv) A outer s0 H0) (pk0 ++ o1) σ H1 s' := fun {H1 s1 s'} ct ho hk hb => by
    have ct2 : Ctr P w (penv lo f cdv :: outer) lo2 s H H1 (pk0 ++ o1) s1 := ⟨ct.os, ct.bare, ct.old, ct.slot, ct.free, ct.pin, ct.hok, ct.same⟩
    exact inv_set (inv_ctr I1 (Nat.le_trans cutAt_size (Nat.le_of_lt r.lo)) r.lo (fun y c e => by cases e) (fun b hb => by cases hb) ct2 fun q hq => .inl hq) ho hk hb
  have rest : ∀ {s1 : Shared} {x : GenState}, Kn g2 og2 (s.setGen g2 .running) s1 → ∀ n, n < s0.gens.size → n ≠ g → (∀ q ∈ og0, q.1 ≠ n) → (s1.setGen g2 x).gens[n]? = s.gens[n]? := fun {s1 x} kn n h1 _ h3 => by
    have n2 : n ≠ g2 := (nm_ne nm List.mem_cons_self h1 h3).symm
    have hs := p.kn.1
    rw [setGen_ne n2, kn.2 n (by rw [setGen_size]; omega) n2 fun q hq => nm_ne nm (List.mem_cons_of_mem _ hq) h1 h3, setGen_ne n2]
  refine wpAny_gsz (n := s.gens.size) (Nat.le_refl _) (next_go G.hh p.I.nolimit ?_ (hz2 _ (own _ (List.mem_append_right _ r.obj)).1) r.gen ((Slp.iff.mp r.slp).2 _ H (pk0 ++ o1) W) fun e s1 he => ?_)
  · have := G.room.dp
    show (A.deeper (penv lo f cdv)).depth < _
    omega
  · cases sub with
    | nil =>
      obtain ⟨hr, hqt, H1, ct, kn⟩ := he
      refine .inr ⟨hr, hqt, fun h' hk hsz => ⟨rfl, H1, p.to ?_ ct.same hsz (rest kn) ho1 fun q hq => .inl (List.mem_append_left _ hq)⟩⟩
      exact after ct rfl hk (allBare_setGen ct.bare (End.bare_of_quiet hqt))
    | cons q sub =>
      obtain ⟨t, H1, og', ow', hr, hqt, ht0, ht1, ct, kn, ow, nm', slp⟩ := he
      have hb2 := End.bare_of_quiet hqt
      refine .inl ⟨.ref t, hr, hqt, fun hsz => ?_⟩
      have I2 := after (s' := s1.setGen g2 e.genState) ct rfl (fun b o z => z) (allBare_setGen ct.bare hb2)
      have hg1 : g2 < s1.gens.size := by
        have h3 : s.gens.size ≤ (s1.setGen g2 e.genState).gens.size := hsz
        rw [setGen_size] at h3
        omega
      have lo2lt : ∀ q ∈ ow', lo < q.1 := fun q hq => Nat.lt_of_lt_of_le r.lo (ow.ow q hq).1
      refine ⟨t, H1, og', ow', e.genState, rfl, ht0, ht1, p.to (I2.pins_of fun q hq => ?_) ct.same hsz (rest kn) (List.mem_append_left _ ho1) fun q hq => ?_, ⟨setGen_at hg1, r.num, fun q hq => ?_, ow.obj, r.lo, fun q hq => (ow.ow q hq).1, slp, fun q hq q' hq' => (ow.ow q' hq').2.2.2.2 q (List.mem_append_right _ hq)⟩, fun q hq => ?_⟩
      · rcases List.mem_append.mp hq with h | h
        · exact I2.pin q (List.mem_append_right _ (List.mem_append_left _ h))
        · rcases List.mem_append.mp h with h | h
          · exact I2.pin q (List.mem_append_right _ (List.mem_append_right _ h))
          · obtain ⟨z1, z2, z3, z4, z5⟩ := ow.ow q h
            refine ⟨z2, z3, fun ee => absurd (lo2lt q h) (by rw [show q.1 = lo from ee]; exact Nat.lt_irrefl _), fun hm => absurd (G.ho _ hm) (Nat.not_lt_of_lt (lo2lt q h)), z4⟩
      · rcases List.mem_append.mp hq with h | h
        · exact .inl (List.mem_append_left _ h)
        · exact .inr ⟨lo2lt q h, fun q' hq' => (ow.ow q h).2.2.2.2 q' (List.mem_append_left _ hq')⟩
      · obtain ⟨z1, z2⟩ := ow.og q hq
        exact ⟨z1, by rw [setGen_ne (Nat.ne_of_gt z1)]; exact z2⟩
      · rcases List.mem_cons.mp hq with rfl | hq
        · exact nm (g2, gs2) List.mem_cons_self
        · rcases nm' q hq with ⟨q0, h0, e0⟩ | h
          · rw [← e0]
            exact nm q0 (List.mem_cons_of_mem _ h0)
          · have hs := p.kn.1
            rw [setGen_size] at h
            exact .inr (by omega)
theorem inner_loop {lo2 it2 : Addr} {go2 : Obj} {g2 : Nat} {px2 : Pos} {c1 : Code} {fs1 : List Frame} {kk2 : Result → Sem PySem.Fin} {g0 : Bool} {l0 kp : List Value} {p2 : Pos} {o1 : List (Addr × Obj)} {x : Str} {ps' : List (List Str)} {i : Nat}
    (G : Gx P w K mg base C k lo f cdv A outer it go g Hc a l z) (N : Nit P w K px lo it tp I0 fp tn) (hf : Fpin fp o1) (ho1 : (it, go) ∈ o1) (hz2 : ∀ h : Heap, h.get? it2 = some go2 → h.IsGen it2 g2)
    (gc : Gc (A.deeper (penv lo f cdv)) A (.forLoop (.Name "rest" px2) (.ref it2) bd2 [] (penv lo f cdv)) (.ret kk2 none g0 l0 c1 p2 kp :: fs1) id)
    (hend : ∀ s0 H0 og0 pk0 σ H s, Pnt P w K mg base N4 (penv lo f cdv) A outer it go g Hc s0 H0 og0 pk0 o1 σ H s → tn i s.heap → σ[0]? = some (some (.ref a)) → Sg (model P w) A (Phi P w K mg base A outer lo it go g Hc s0 H0 og0 pk0 ps') c1 (kk2 (.ok .next)) fs1 s) :
    ∀ (sub : List (List Str)) (og2 : List (Nat × GenState)) (ow2 : List (Addr × Obj)) (gs2 : GenState) (s0 : Shared) (H0 : Hp) (og0 : List (Nat × GenState)) (pk0 : List (Addr × Obj)) (σ : L2.St) (H : Hp) (s : Shared),
      Pnt P w K mg base N4 (penv lo f cdv) A outer it go g Hc s0 H0 og0 pk0 (o1 ++ ow2) σ H s → Inr P w K mg base lo (A.deeper (penv lo f cdv)) (penv lo f cdv :: outer) g Hc o1 lo2 it2 go2 g2 sub og2 ow2 gs2 s → Nm og0 s0 ((g2, gs2) :: og2) → tn i s.heap → (∀ q ∈ sub, q.length ≤ 100) →
      σ[0]? = some (some (.ref a)) → σ[1]? = some (some (.str x)) →
      Sg (model P w) A (Phi P w K mg base A outer lo it go g Hc s0 H0 og0 pk0 (sub.map (x :: ·) ++ ps')) (.forLoop (.Name "rest" px2) (.ref it2) bd2 [] (penv lo f cdv)) ((model P w).den (.forLoop (.Name "rest" px2) (.ref it2) bd2 [] (penv lo f cdv))) (.ret kk2 none g0 l0 c1 p2 kp :: fs1) s := by
  intro sub
  induction sub with
  | nil =>
    intro og2 ow2 gs2 s0 H0 og0 pk0 σ H s p r nm ht _ h0 h1
    refine sg_turn gc (wpAny_mono (inner_next G ho1 hz2 p r nm) (fun u s1 h => ?_) fun _ _ z => z)
    obtain ⟨rfl, H1, p1⟩ := h
    exact hend s0 H0 og0 pk0 σ H1 s1 p1 (tn_keep N ht hf (fun q hq => (p.ownAt q (List.mem_append_left _ hq)).1) fun q hq => (p1.ownAt q hq).1) h0
  | cons q sub ih =>
    intro og2 ow2 gs2 s0 H0 og0 pk0 σ H s p r nm ht hq h0 h1
    refine sg_turn gc (wpAny_mono (inner_next G ho1 hz2 p r nm) (fun u s1 h => ?_) fun _ _ z => z)
    obtain ⟨t, H1, og', ow', gs', rfl, ht0, ht1, p1, r1, nm1⟩ := h
    refine wpAny_pure ?_
    have hlen : σ.length = 4 := p1.I.len
    refine store_g (i := 3) (x := "rest") (v := .ref t) (u := .ref t) p1.I plain_env nd4 rfl rfl rfl fun s3 hs3 I3 => fun Kb Jb hKb => ?_
    refine sg_execs_cons (sg_Yield gc rfl rfl ?_)
    have g0' : (σ.set 3 (some (V.ref t)))[0]? = some (some (.ref a)) := by
      rw [List.getElem?_set_ne (by decide)]
      exact h0
    have g1' : (σ.set 3 (some (V.ref t)))[1]? = some (some (.str x)) := by
      rw [List.getElem?_set_ne (by decide)]
      exact h1
    have ql : q.length ≤ 100 := hq q List.mem_cons_self
    refine pair_g (i := 1) (j := 3) (n := x) (t := t) (xs := q.map V.str) I3 rfl rfl rfl rfl rfl rfl g1' (List.getElem?_set_self (by omega)) ht1 (line_big (by rw [List.length_map]; omega)) fun s4 p' hs4 hp' I4 => fun e' ye => ?_
    have hgs : s4.gens = s1.gens := hs4.trans hs3
    have sm : Same H1 (upd H1 p' (.tup ((x :: q).map V.str))) := fun b o e => by
      rw [upd_ne (ne_of_none e hp')]
      exact e
    have p4 := p1.keep (σ' := σ.set 3 (some (V.ref t))) (H' := upd H1 p' (.tup ((x :: q).map V.str))) (s' := s4) I4 sm hgs
    have hH0 : H0 p' = none := by
      cases e : H0 p' with
      | none => rfl
      | some o =>
        rw [p1.same _ _ e] at hp'
        cases hp'
    refine Pnt.yield (x := x :: q) (ps := sub.map (x :: ·) ++ ps') (og := (g2, gs') :: og') plain_env G.hh G.hb G.ho p4 ye hH0 upd_same (fun y hy => ?_) nm1 fun s' H' pk' p5 hg5 => ?_
    · rcases List.mem_cons.mp hy with rfl | hy
      · exact ⟨r1.num, by rw [hgs]; exact r1.gen⟩
      · obtain ⟨z1, z2⟩ := r1.og y hy
        exact ⟨Nat.lt_trans r1.num z1, by rw [hgs]; exact z2⟩
    · refine hKb _ _ (ih og' ow' gs' s' H' ((g2, gs') :: og') pk' _ H' s' p5 ⟨hg5 _ List.mem_cons_self, r1.num, fun y hy => ⟨(r1.og y hy).1, hg5 y (List.mem_cons_of_mem _ hy)⟩, r1.obj, r1.lo, r1.low, r1.slp, r1.apart⟩ nm_self ?_ (fun y hy => hq y (List.mem_cons_of_mem _ hy)) g0' g1')
      exact tn_keep N ht hf (fun y hy => (p.ownAt y (List.mem_append_left _ hy)).1) fun y hy => (p5.ownAt y (List.mem_append_left _ hy)).1
end
end Gn
/-! The outer loop, the body, the call. -/
namespace Gn
open PySem PySem.Spec PyProof.Rows L2 GenW GrT GrOwn Lw
theorem rows_len {R : V → List (List Str) → Prop} {m : Nat} (hR : ∀ v ps, R v ps → ∀ q ∈ ps, q.length ≤ m) : ∀ {l : List (Str × V)} {ps : List (List Str)}, RowsR R l ps → ∀ q ∈ ps, q.length ≤ m + 1
  | _, _, .nil, q, hq => by cases hq
  | _, _, .int r, q, hq => by
    rcases List.mem_cons.mp hq with rfl | h
    · simp
    · exact rows_len hR r q h
  | _, _, .sub h r, q, hq => by
    rcases List.mem_cons.mp hq with rfl | hq
    · simp
    · rcases List.mem_append.mp hq with hq | hq
      · obtain ⟨y, hy, rfl⟩ := List.mem_map.mp hq
        have := hR _ _ h y hy
        rw [List.length_cons]
        omega
      · exact rows_len hR r q hq
theorem Pt.len {C : Addr} {H : Hp} : ∀ {n : Nat} {v : V} {ps : List (List Str)}, Pt C H n v ps → ∀ q ∈ ps, q.length ≤ n
  | 0, _, _, h, _, _ => h.elim
  | n + 1, _, _, ⟨_, _, _, _, _, _, rows⟩, q, hq => rows_len (fun _ _ h => h.len) rows q hq
theorem look_at {x : Str} {v : V} : ∀ {l : List (Str × V)} {i : Nat}, (names l).Nodup → l[i]? = some (x, v) → look x l = some v
  | (z, w) :: r, 0, _, h => by
    cases h
    unfold look
    rw [if_pos rfl]
  | (z, w) :: r, i + 1, nd, h => by
    have nd' := List.nodup_cons.mp nd
    have h' : r[i]? = some (x, v) := h
    have ne : z ≠ x := fun e => nd'.1 (by
      show z ∈ r.map (·.1)
      rw [e]
      exact List.mem_map.mpr ⟨_, List.mem_of_getElem? h', rfl⟩)
    unfold look
    rw [if_neg ne]
    exact look_at nd'.2 h'
theorem nPN : ¬ (("paths" : Str) = "names") := by decide +kernel
theorem nPF : ¬ (("paths" : Str) = "_fields") := by decide +kernel
theorem nPS : ¬ (("paths" : Str) = "_size") := by decide +kernel
theorem rf_paths (t d : Addr) (z : Int) : (rf t d z).lookup ("paths" : Str) = none := by
  unfold rf
  rw [lookup_putF, if_neg nPS, lookup_putF, if_neg nPF, lookup_putF, if_neg nPN]
  rfl
section
variable {P : Program} {w : World} {K : PySem.W.Frag} {mg : Str → Option Value} {base : Heap} {C : Addr} {k n : Nat} {lo f : Addr} {cdv : Value} {A : Around} {outer : List Env} {it : Addr} {go : Obj} {g : Nat} {Hc : Hp} {a : Addr} {l : List (Str × V)} {z : Int}
  {px : Pos} {I0 tp : Addr} {fp : List Addr} {tn : Nat → Heap → Prop}
theorem outer_loop {c1 : Code} {fs1 : List Frame} {kk1 : Result → Sem PySem.Fin} {g0 : Bool} {l0 kp : List Value} {p1 : Pos} {d1 dx : Addr} (T : Bu mg) (R : RecK K mg C) (hm : Meth K C "paths" f) (hc : CallOk P w K mg base C f n k) (hn : n ≤ 100)
    (G : Gx P w K mg base C (k + 1) lo f cdv A outer it go g Hc a l z) (N : Nit P w K px lo it tp I0 fp tn) (ea : Hc a = some (.ins C dx (rf tp d1 z))) (et : Hc tp = some (.tup ((names l).map V.str))) (ed : Hc d1 = some (.dK (dk l))) (nd : (names l).Nodup)
    (gc : Gc (A.deeper (penv lo f cdv)) A (.forLoop (.Name "name" px) (.ref I0) bd1 [] (penv lo f cdv)) (.ret kk1 none g0 l0 c1 p1 kp :: fs1) id)
    (hend : ∀ s0 H0 og0 pk0 own σ H s, Pnt P w K mg base N4 (penv lo f cdv) A outer it go g Hc s0 H0 og0 pk0 own σ H s → Sg (model P w) A (Phi P w K mg base A outer lo it go g Hc s0 H0 og0 pk0 []) c1 (kk1 (.ok .next)) fs1 s) :
    ∀ (rem : List (Str × V)) (i : Nat) (ps : List (List Str)), l.drop i = rem → RowsR (Pt C Hc n) rem ps → ∀ (s0 : Shared) (H0 : Hp) (og0 : List (Nat × GenState)) (pk0 own : List (Addr × Obj)) (σ : L2.St) (H : Hp) (s : Shared),
      Pnt P w K mg base N4 (penv lo f cdv) A outer it go g Hc s0 H0 og0 pk0 own σ H s → Fpin fp own → tn i s.heap → σ[0]? = some (some (.ref a)) →
      Sg (model P w) A (Phi P w K mg base A outer lo it go g Hc s0 H0 og0 pk0 ps) (.forLoop (.Name "name" px) (.ref I0) bd1 [] (penv lo f cdv)) ((model P w).den (.forLoop (.Name "name" px) (.ref I0) bd1 [] (penv lo f cdv))) (.ret kk1 none g0 l0 c1 p1 kp :: fs1) s := by
  intro rem
  induction rem with
  | nil =>
    intro i ps hd rows s0 H0 og0 pk0 own σ H s p hf ht h0
    have hlen : l.length ≤ i := List.drop_eq_nil_iff.mp hd
    cases rows
    refine sg_turn gc (wpAny_mono (turn_names G N p hf ht et) (fun r s1 h => ?_) fun _ _ z => z)
    rcases h with ⟨rfl, _, p1⟩ | ⟨u, rfl, h⟩
    · exact hend s0 H0 og0 pk0 _ σ H s1 p1
    · refine wpAny_mono h (fun _ s2 h2 => ?_) fun _ _ z => z
      obtain ⟨x, v, _, hx, _⟩ := h2
      have := (List.getElem?_eq_some_iff.mp hx).1
      omega
  | cons q rem ih =>
    intro i ps hd rows s0 H0 og0 pk0 own σ H s p hf ht h0
    obtain ⟨x, v⟩ := q
    have hi : l[i]? = some (x, v) := by
      have e := congrArg (fun m => m[0]?) hd
      rw [List.getElem?_drop] at e
      simpa using e
    have hd' : l.drop (i + 1) = rem := by
      rw [← List.drop_drop, hd]
      rfl
    refine sg_turn gc (wpAny_mono (turn_names G N p hf ht et) (fun r s1 h => ?_) fun _ _ z => z)
    rcases h with ⟨rfl, hlen, _⟩ | ⟨u, rfl, h⟩
    · have := (List.getElem?_eq_some_iff.mp hi).1
      omega
    · refine wpAny_mono h (fun _ s2 h2 => ?_) fun _ _ z => z
      obtain ⟨x', v', ru, hx, t2, p2⟩ := h2
      rw [hi] at hx
      cases hx
      have hl4 : σ.length = 4 := p2.I.len
      refine store_g (i := 1) (x := "name") (v := .str x) p2.I plain_env nd4 rfl rfl ru fun s3 hs3 I3 => fun Kb Jb hKb => ?_
      have p3 := p2.keep I3 (Same.refl _) hs3
      have g0' : (σ.set 1 (some (V.str x)))[0]? = some (some (.ref a)) := by
        rw [List.getElem?_set_ne (by decide)]
        exact h0
      have g1' : (σ.set 1 (some (V.str x)))[1]? = some (some (.str x)) := List.getElem?_set_self (by omega)
      refine sg_execs_cons (sg_Yield gc rfl rfl ?_)
      refine one_g (i := 1) (n := x) I3 rfl rfl rfl g1' fun s4 t hs4 htn I4 => ?_
      intro e' ye
      have p4 := p3.keep I4 (fun b o e => by rw [upd_ne (ne_of_none e htn)]; exact e) hs4
      have hH0 : H0 t = none := by
        cases e : H0 t with
        | none => rfl
        | some o =>
          rw [p3.same _ _ e] at htn
          cases htn
      have hfp2 : Fpin fp ((it, go) :: pinsAt fp s2.heap) := fpin_cons N t2
      have tnk : ∀ {s0' : Shared} {H0' : Hp} {og' : List (Nat × GenState)} {pk' : List (Addr × Obj)} {σ' : L2.St} {H' : Hp} {s' : Shared}, Pnt P w K mg base N4 (penv lo f cdv) A outer it go g Hc s0' H0' og' pk' ((it, go) :: pinsAt fp s2.heap) σ' H' s' → tn (i + 1) s'.heap := fun p' =>
        tn_keep N t2 hfp2 (fun y hy => (p2.ownAt y hy).1) fun y hy => (p'.ownAt y hy).1
      -- what follows the first item of this name
      obtain ⟨ps1, rfl, hmid⟩ : ∃ ps1, ps = [x] :: ps1 ∧ ((∃ j, v = .int j ∧ RowsR (Pt C Hc n) rem ps1) ∨ ∃ sub ps2, Pt C Hc n v sub ∧ RowsR (Pt C Hc n) rem ps2 ∧ ps1 = sub.map (x :: ·) ++ ps2) := by
        cases rows with
        | int r => exact ⟨_, rfl, .inl ⟨_, rfl, r⟩⟩
        | sub h r => exact ⟨_, rfl, .inr ⟨_, _, h, r, rfl⟩⟩
      refine Pnt.yield (x := [x]) (ps := ps1) (og := []) plain_env G.hh G.hb G.ho p4 ye hH0 upd_same (fun y hy => by cases hy) (fun y hy => by cases hy) fun s' H' pk' p5 _ => ?_
      show Sg _ _ _ _ ((execs bd1.tail (penv lo f cdv)).wrap Kb Jb id id) _ s'
      have hu : (A.deeper (penv lo f cdv)).units + 1 < cLine := by
        have := G.room.un
        omega
      have hv : valV (dk l) (Sum.inr x : Key) = some v := by
        rw [dk_val]
        exact look_at nd hi
      have hdg := DGet.k (k := Sum.inr x) (p5.ext _ _ ed)
      rw [hv] at hdg
      refine sg_execs_cons (sg_wrapN gc (set_dget_g (i := 0) (j := 1) (m := 2) hu p5.I plain_env nd4 rfl rfl rfl g0' rfl rfl rfl g1' rfl rfl (p5.ext _ _ ea) R.cl R.nF (rf_fields _ _ _) (p5.ext _ _ ed) hv rfl rfl fun s6 hs6 I6 => ?_))
      · have p6 := p5.keep I6 (Same.refl _) hs6
        have q0 : ((σ.set 1 (some (V.str x))).set 2 (some v))[0]? = some (some (.ref a)) := by
          rw [List.getElem?_set_ne (by decide)]
          exact g0'
        have q1 : ((σ.set 1 (some (V.str x))).set 2 (some v))[1]? = some (some (.str x)) := by
          rw [List.getElem?_set_ne (by decide)]
          exact g1'
        have q2 : ((σ.set 1 (some (V.str x))).set 2 (some v))[2]? = some (some v) := List.getElem?_set_self (by rw [List.length_set]; omega)
        refine sg_execs_cons (sg_If gc ?_)
        rcases hmid with ⟨j, rfl, rows'⟩ | ⟨sub, ps2, hsub, rows', rfl⟩
        · refine isi_g (i := 2) (v := .int j) I6 rfl rfl rfl q2 (by rfl) T.b_isinstance (by rfl) R.mgC rfl (.base (.int j)) R.kI (fun _ => rfl) rfl rfl rfl fun tk => ?_
          have p7 := p6.keep (I6.tok tk) (Same.refl _) rfl
          rw [if_neg Bool.false_ne_true]
          exact hKb _ _ (ih (i + 1) ps1 hd' rows' _ _ _ _ _ _ _ _ p7 hfp2 (tnk p7) q0)
        · obtain ⟨b, lb, zb, rfl, rb, _, _⟩ : ∃ b lb zb, v = .ref b ∧ RA (fun _ => True) C Hc b lb zb ∧ lb.length ≤ 40 ∧ True := by
            cases n with
            | zero => exact hsub.elim
            | succ n =>
              obtain ⟨b, lb, zb, e1, e2, e3, _⟩ := hsub
              exact ⟨b, lb, zb, e1, e2, e3, trivial⟩
          obtain ⟨⟨dxb, tpb, db, _, eb, _, _⟩, _, _⟩ := rb
          refine isi_g (i := 2) (v := .ref b) I6 rfl rfl rfl q2 (by rfl) T.b_isinstance (by rfl) R.mgC rfl (R.ty (p6.ext _ _ eb)) R.kRC (fun _ => rfl) rfl rfl rfl fun tk => ?_
          have I7 := I6.tok tk
          have p7 := p6.keep I7 (Same.refl _) rfl
          rw [if_pos rfl]
          refine sg_execs_cons (sg_For gc (fun _ => rfl) ?_)
          refine PySem.W.methodCall_KW (name_g (i := 2) I7 rfl rfl rfl q2 fun u ru => ?_) (by rfl)
          have eu : u = Value.ref b := ru
          subst eu
          refine getmeth_ok I7 (p7.ext _ _ eb) R.cl hm (rf_paths _ _ _) ?_
          refine PySem.W.callWith_K0 (first := [.ref b]) I7.kIn hm.kp ?_
          refine hc (A.deeper (penv lo f cdv)) (penv lo f cdv :: outer) _ H' Hc b sub _ _ (G.room.mono (Nat.le_succ _)) I7.env0 p7.ext hsub fun u' s9 hb => ?_
          generalize ({ s6 with toks := tk } : Shared) = s7 at I7 p7 hb
          obtain ⟨it2, go2, g2, gs2, ow2, rfl, c1', c2', c3', c4', c5', c6', ck', c7', c8', c9'⟩ := hb
          have hL8 : lo < s7.heap.objs.size := I7.lt
          have hit2 := c2' s9.heap (c8'.ow _ c8'.obj).2.1
          refine wpAny_pyIter_gen hit2 fun kk p hkk => ?_
          have low2 : ∀ y ∈ ow2, s7.heap.objs.size ≤ y.1 := fun y hy => (c8'.ow y hy).1
          have I9 := inv_set I7 c5' c7' c6'
          have p9 : Pnt P w K mg base N4 (penv lo f cdv) A outer it go g Hc s' H' [] pk' (((it, go) :: pinsAt fp s2.heap) ++ ow2) ((σ.set 1 (some (V.str x))).set 2 (some (V.ref b))) H' s9 := by
            refine p7.to (I9.pins_of fun y hy => ?_) (Same.refl _) ck'.1 (fun n h1 _ _ => ck'.2 n (Nat.lt_of_lt_of_le h1 p7.kn.1)) (List.mem_append_left _ List.mem_cons_self) fun y hy => ?_
            · rcases List.mem_append.mp hy with h | h
              · exact I9.pin y (List.mem_append_right _ (List.mem_append_left _ h))
              · rcases List.mem_append.mp h with h | h
                · exact I9.pin y (List.mem_append_right _ (List.mem_append_right _ h))
                · obtain ⟨z1, z2, z3, z4, _⟩ := c8'.ow y h
                  have z0 : lo < y.1 := Nat.lt_of_lt_of_le hL8 z1
                  exact ⟨z2, z3, fun ee => absurd z0 (by rw [show y.1 = lo from ee]; exact Nat.lt_irrefl _), fun hm => absurd (G.ho _ hm) (Nat.not_lt_of_lt z0), z4⟩
            · rcases List.mem_append.mp hy with h | h
              · exact .inl h
              · have z1 := low2 y h
                refine .inr ⟨Nat.lt_of_lt_of_le hL8 z1, fun q' hq' e => ?_⟩
                have z2 := Heap.lt_size (I7.pin q' (List.mem_append_right _ (List.mem_append_left _ hq'))).1
                rw [e] at z2
                exact absurd z2 (Nat.not_lt_of_le z1)
          have hfr : (A.deeper (penv lo f cdv)).in1.frames = some (penv lo f cdv :: outer) := I7.ok.frames
          refine inner_loop (px2 := _) (x := x) (ps' := ps2) (i := i + 1) G N hfp2 List.mem_cons_self c2' (gc.loop rfl rfl) (fun s0' H0' og' pk'' σ' H' s'' p' t' q' => hkk _ _ (hKb _ _ (ih (i + 1) ps2 hd' rows' s0' H0' og' pk'' _ σ' H' s'' p' hfp2 t' q')))
            sub [] ow2 gs2 s' H' [] pk' _ H' s9 p9 ⟨c4', Nat.lt_of_lt_of_le p7.num c3', (fun y hy => by cases hy), c8'.obj, hL8, low2, c9' _ (Room.in1 G.room) hfr, fun y hy y' hy' e => ?_⟩ (fun y hy => ?_) ?_ (fun y hy => Nat.le_trans (hsub.len y hy) hn) q0 q1
          · have z1 := Heap.lt_size (I7.pin y (List.mem_append_right _ (List.mem_append_right _ hy))).1
            rw [e] at z1
            exact absurd z1 (Nat.not_lt_of_le (low2 y' hy'))
          · rw [List.mem_singleton.mp hy]
            exact .inr (Nat.le_trans p7.kn.1 c3')
          · exact tn_keep N t2 hfp2 (fun y hy => (p2.ownAt y hy).1) fun y hy => (p9.ownAt y (List.mem_append_left _ hy)).1
end
end Gn
/-! The body, the call. -/
namespace Gn
open PySem PySem.Spec PyProof.Rows L2 GenW GrT GrOwn Lw
theorem cutAt_full {n : Nat} {h : Heap} (hn : n ≤ h.objs.size) : (cutAt n h).objs.size = n := by
  show (h.objs.extract 0 n).size = n
  rw [Array.size_extract]
  omega
section
variable {P : Program} {w : World} {K : PySem.W.Frag} {mg : Str → Option Value} {base : Heap} {C : Addr} {k n : Nat} {lo f : Addr} {cdv : Value} {A : Around} {outer : List Env} {it : Addr} {go : Obj} {g : Nat} {Hc : Hp} {a : Addr} {l : List (Str × V)} {z : Int}
theorem body_slp {fo : Obj} {ps : List (List Str)} (T : Bu mg) (R : RecK K mg C) (hm : Meth K C "paths" f) (hc : CallOk P w K mg base C f n k) (hn : n ≤ 100) (G : Gx P w K mg base C (k + 1) lo f cdv A outer it go g Hc a l z) (rows : RowsR (Pt C Hc n) l ps)
    (hlo : lo < it) (fr : FrOk N4 (penv lo f cdv) fo (start N4 [.ref a])) (hgo : ∀ v, go.data ≠ .cell v) (hito : it ∉ frs outer) : Slp P w K mg base A outer lo it go g Hc ps [] [(lo, fo), (it, go)] (.fresh (.func (defBody sPaths) (penv lo f cdv))) := by
  obtain ⟨⟨dx, tp, d1, _, ea, et, ed⟩, nd, _⟩ := G.ra
  refine Slp.iff.mpr ⟨rfl, fun s H pk W => ?_⟩
  show Sg (model P w) A (Phi P w K mg base A outer lo it go g Hc s H [] pk ps) (.func (defBody sPaths) (penv lo f cdv)) ((model P w).den (.func (defBody sPaths) (penv lo f cdv))) [] s
  refine sg_func fun Kb Jb hK => ?_
  have gc0 : Gc (A.deeper (penv lo f cdv)) A (.func (defBody sPaths) (penv lo f cdv)) [] id := ⟨over_func, rfl, rfl, rfl⟩
  have I0 : Inv (pcx P w K mg base N4 (penv lo f cdv) A outer s H) (pk ++ [(it, go)]) (start N4 [.ref a]) H s := inv_wake (fo := fo) (own := [(it, go)]) plain_env G.hh W List.mem_cons_self fr G.hb G.ho rfl fun q hq => by
    rw [List.mem_singleton.mp hq]
    exact ⟨List.mem_cons_of_mem _ List.mem_cons_self, fun e => absurd hlo (by rw [show it = lo from e]; exact Nat.lt_irrefl _), hito, hgo⟩
  have p0 : Pnt P w K mg base N4 (penv lo f cdv) A outer it go g Hc s H [] pk [(it, go)] (start N4 [.ref a]) H s := ⟨I0, Same.refl _, W.ext, W.num, List.mem_cons_self, fun q hq => by
    rw [List.mem_singleton.mp hq]
    exact hlo, fun q' hq' q hq => by
    rw [List.mem_singleton.mp hq]
    exact (W.pin q' hq').2.2.2.2 _ (List.mem_cons_of_mem _ List.mem_cons_self), Kn.refl⟩
  refine sg_execs_cons (sg_For gc0 (fun _ => rfl) ?_)
  refine fld_g (i := 0) I0 rfl rfl rfl rfl (p0.ext _ _ ea) R.cl R.nN (rf_names _ _ _) rfl fun v tk rv => ?_
  have ev : v = Value.ref tp := rv
  subst ev
  have I1 := I0.tok tk
  obtain ⟨its, _, pt, _⟩ := I1.tuple (SqT.of (p0.ext _ _ et))
  refine wpAny_pyIter_tuple (s := { s with toks := tk }) (show s.heap.IsTuple tp its.toArray from pt) ?_
  have I2 : Inv (pcx P w K mg base N4 (penv lo f cdv) A outer s H) (pk ++ [(it, go)]) (start N4 [.ref a]) H { s with heap := s.heap.push { cls := .type "tuple_iterator", data := .fields #[.ref tp, .int 0 0] }, toks := tk } := I0.kept fun b o e => Heap.get?_push_of_some _ e
  have T2 : Turn P w K (.Name "name" ⟨74, 12, 74, 16⟩) (Itt K tp) [s.heap.objs.size] s.heap.objs.size (fun i h => h.IsTupleIter s.heap.objs.size tp i) := turn_tuple tp _
  have fok : ∀ b ∈ [s.heap.objs.size], FpOk (pcx P w K mg base N4 (penv lo f cdv) A outer s H) (pk ++ [(it, go)]) H b := fun b hb => by
    rw [List.mem_singleton.mp hb]
    exact I0.fpOk (Nat.le_refl _) (I0.hok.fresh (Nat.le_refl _))
  have t0 : Heap.IsTupleIter (s.heap.push { cls := .type "tuple_iterator", data := .fields #[.ref tp, .int 0 0] }) s.heap.objs.size tp 0 := ⟨_, Heap.get?_push_size _ rfl, rfl, rfl⟩
  have hgs : ({ s with heap := s.heap.push { cls := .type "tuple_iterator", data := .fields #[.ref tp, .int 0 0] }, toks := tk } : Shared).gens = s.gens := rfl
  have t0' : Heap.IsTupleIter ({ s with heap := s.heap.push { cls := .type "tuple_iterator", data := .fields #[.ref tp, .int 0 0] }, toks := tk } : Shared).heap s.heap.objs.size tp 0 := t0
  generalize ({ s with heap := s.heap.push { cls := .type "tuple_iterator", data := .fields #[.ref tp, .int 0 0] }, toks := tk } : Shared) = s2 at I2 hgs t0' ⊢
  intro kk p hkk
  have hsz : lo ≤ s.heap.objs.size := Nat.le_of_lt (Heap.lt_size (W.own _ List.mem_cons_self).1)
  have low : ∀ b ∈ [s.heap.objs.size], lo < b := fun b hb => by
    obtain ⟨_, z2, _, z4, _, _⟩ := fok b hb
    rcases z4 with z4 | z4
    · cases z4
    · have z5 : lo ≤ b := by
        have z6 : (cutAt lo s.heap).objs.size ≤ b := z4
        rw [cutAt_full hsz] at z6
        exact z6
      exact Nat.lt_of_le_of_ne z5 fun e => z2 e.symm
  have NN : Nit P w K _ lo it tp s.heap.objs.size [s.heap.objs.size] (fun i h => h.IsTupleIter s.heap.objs.size tp i) := ⟨T2, fun hm => (fok it hm).2.2.2.2.2 (it, go) (List.mem_append_right _ (List.mem_append_right _ List.mem_cons_self)) rfl, low, rfl, rfl⟩
  have p2 : Pnt P w K mg base N4 (penv lo f cdv) A outer it go g Hc s H [] pk ((it, go) :: pinsAt [s.heap.objs.size] s2.heap) (start N4 [.ref a]) H s2 := by
    refine p0.toG ?_ (Same.refl _) hgs List.mem_cons_self fun q hq => ?_
    · have I3 := I2.pinned fok (T2.obj _ _ t0')
      rw [List.append_assoc] at I3
      exact I3
    · rcases List.mem_cons.mp hq with rfl | h
      · exact .inl List.mem_cons_self
      · obtain ⟨hb, _⟩ := of_pinsAt h
        exact .inr ⟨low _ hb, fun q' hq' => (fok _ hb).2.2.2.2.2 q' (List.mem_append_right _ (List.mem_append_left _ hq'))⟩
  exact outer_loop T R hm hc hn G NN ea et ed nd (gc0.loop rfl rfl) (fun s0 H0 og0 pk0 own σ H s p => hkk _ _ (hK _ _ p.fin)) l 0 ps rfl rows s H [] pk _ _ H s2 p2 (fpin_cons NN t0') t0' rfl
theorem scPaths : GScope N4 ["self"] (defScope sPaths) := ⟨rfl, rfl, rfl, nd4, rfl, by decide +kernel, by decide +kernel⟩
/-- the text of the method, in the written part -/
structure PaK (K : PySem.W.Frag) (C f : Addr) : Prop where
  m : Meth K C "paths" f
  ex : ∃ (oc : Value) (od : Option Addr) (kV doc pm cdv ct : Value) (an : Option Addr) (osl : Array (Option Value)),
    K.lookup f = some ⟨oc, od, .func (PySem.W.fnOf "paths" "Record.paths" (defArgs sPaths) (defBody sPaths) (defScope sPaths) .none kV doc pm an cdv ct), osl⟩ ∧ PySem.W.codeIn K cdv "Record.paths" = true ∧
    Binds K (PySem.W.fnOf "paths" "Record.paths" (defArgs sPaths) (defBody sPaths) (defScope sPaths) .none kV doc pm an cdv ct) ["self"] []
theorem call_ok (T : Bu mg) (R : RecK K mg C) (D : PaK K C f) (hc : CallOk P w K mg base C f n k) (hn : n ≤ 100) : CallOk P w K mg base C f (n + 1) (k + 2) := by
  obtain ⟨oc, od, kV, doc, pm, cdv, ct, an, osl, lk, hcd, hb⟩ := D.ex
  intro A outer s H Hc a ps Q E hr e0 sm hp hQ
  obtain ⟨a', l, z, e, ra, hl, rows⟩ := hp
  cases e
  have KX : K.In s.heap := e0.mod.kin.keeps fun b o e => (e0.bs b o e).1
  have lim : s.heap.NoLimit := e0.mod.nolimit.keeps fun b o e => (e0.bs b o e).1
  have hkind : ∀ y ∈ (["self"] : List Str).zip [Value.ref a], (defScope sPaths).names.lookup y.1 = some .local ∨ ((defScope sPaths).names.lookup y.1 = some .cell ∧ ((cellsFrom (s.heap.objs.size + 1) (defScope sPaths).names []).lookup y.1).isSome = true) := fun y hy => by
    have e : y = (("self" : Str), Value.ref a) := by simpa using hy
    rw [e]
    exact .inl rfl
  have b := hb s [Value.ref a] KX rfl
  refine wpAny_call (codeAny_call_generator (by have := hr.dp; omega) (KX _ _ lk) rfl rfl rfl rfl (PySem.W.codeRec_of KX hcd) (b _ _ _ _ ?_))
  refine wpAny_newFunctionEnv_cells (s := s) scPaths.kind hkind fun env he s1 x => ?_
  subst he
  refine ⟨lim.keeps x.toInCall.keep, ?_⟩
  obtain ⟨h1, tk, es1, hk1⟩ := x.done
  have gen1 : s1.gens = s.gens := by rw [es1]
  have os1 : s1.os = s.os := by rw [es1]
  have hns : s1.heap.Ns s.heap.objs.size (bindL (penv s.heap.objs.size f cdv).kindOf (((["self"] : List Str)).zip [Value.ref a]) fun _ => none) := x.toInCall.ns
  have lt1 : s.heap.objs.size < s1.heap.objs.size := hns.lt
  obtain ⟨fo, es, ep, hfo, hdat, hrest⟩ := id hns
  have kp1 : ∀ b o, s.heap.get? b = some o → s1.heap.get? b = some o := x.toInCall.keep
  have hfr : ∀ b ∈ frs outer, b < s.heap.objs.size := fun b hb => by
    obtain ⟨_, o, ho, _⟩ := e0.funs.mem hb
    exact Heap.lt_size ho
  have fr : FrOk N4 (penv s.heap.objs.size f cdv) fo (start N4 [.ref a]) := fun h hh => ⟨_, hns.at fun o e => by
    have e2 : s1.heap.get? s.heap.objs.size = some o := e
    rw [hfo] at e2
    cases e2
    exact hh, fun i y v e1 e2 e3 => by
    match i, e1, e2 with
    | 0, e1, e2 =>
      cases e1
      cases e2
      exact ⟨.ref a, rfl, .inl ⟨rfl, bindL_get (P := ["self"]) (vs := [.ref a]) (i := 0) (by decide +kernel) rfl rfl rfl⟩⟩
    | 1, e1, e2 => cases e2
    | 2, e1, e2 => cases e2
    | 3, e1, e2 => cases e2
    | i + 4, e1, e2 => cases e1⟩
  generalize hgo : ({ cls := .type "generator", data := .fields #[.int s1.gens.size 0, .str ("paths" : Str) s1.toks, .str ("Record.paths" : Str) (s1.toks + 1)] } : Obj) = go
  have hgc : go.cls = .type "generator" := by rw [← hgo]
  have hgd0 : go.data = .fields #[.int s1.gens.size 0, .str ("paths" : Str) s1.toks, .str ("Record.paths" : Str) (s1.toks + 1)] := by rw [← hgo]
  have hgs : go.slots = #[] := by rw [← hgo]
  have hnc : ∀ v, go.data ≠ .cell v := fun v q => by
    rw [hgd0] at q
    cases q
  have hgen : ∀ h : Heap, h.get? s1.heap.objs.size = some go → h.IsGen s1.heap.objs.size s1.gens.size := fun h e => ⟨go, _, _, e, hgc, hgd0, hgs⟩
  have hpush : (s1.heap.push go).get? s1.heap.objs.size = some go := by rw [← hgo]; exact Heap.get?_push_size _ rfl
  have nH : ∀ b, s.heap.objs.size ≤ b → H b = none := fun b hb => e0.hok.fresh hb
  refine hQ _ _ ⟨s1.heap.objs.size, go, s1.gens.size, .fresh (.func (defBody sPaths) (penv s.heap.objs.size f cdv)), [(s.heap.objs.size, fo), (s1.heap.objs.size, go)], rfl, lt1, hgen, by rw [gen1]; exact Nat.le_refl _, ?_, os1, ?_, ?_, fun b o e => ?_, ⟨List.mem_cons_of_mem _ List.mem_cons_self, fun q hq => ?_, fun q hq => by cases hq⟩, fun A' hr' hf' => ?_⟩
  · exact Array.getElem?_push_size ..
  · exact AllBare.push (by rw [gen1]; exact e0.bare) rfl
  · exact ⟨by rw [show (s1.gens.push _).size = s1.gens.size + 1 from Array.size_push .., gen1]; exact Nat.le_succ _, fun n hn => by rw [← gen1] at hn ⊢; exact Array.getElem?_push_lt .. |>.trans (Array.getElem?_eq_getElem hn).symm⟩
  · exact Heap.get?_push_of_some _ (kp1 b o e)
  · rcases List.mem_cons.mp hq with rfl | hq
    · refine ⟨Nat.le_refl _, Heap.get?_push_of_some _ hfo, nH _ (Nat.le_refl _), fun v q => ?_, fun q' hq' => by cases hq'⟩
      have q2 : fo.data = .cell v := q
      rw [hdat] at q2
      cases q2
    · rw [List.mem_singleton.mp hq]
      exact ⟨Nat.le_of_lt lt1, hpush, nH _ (Nat.le_of_lt lt1), hnc, fun q' hq' => by cases hq'⟩
  · exact body_slp T R D.m hc hn ⟨hr'.hd, e0.bsz, hfr, hr'.deeper _, ra.keep fun b o _ e _ => e⟩ rows lt1 fr hnc fun hm => absurd (hfr _ hm) (Nat.not_lt_of_lt lt1)
/-- at any depth -/
theorem call_all (T : Bu mg) (R : RecK K mg C) (D : PaK K C f) : ∀ n, n ≤ 101 → CallOk P w K mg base C f n (2 * n)
  | 0, _ => fun A outer s H Hc a ps Q E hr e0 sm hp hQ => hp.elim
  | n + 1, h => call_ok T R D (call_all T R D n (by omega)) (by omega)
end
end Gn
/-! list(r.paths()). -/
namespace Gn
open PySem PySem.Spec PyProof.Rows L2 GenW GrT GrOwn Lw
/-- a consumer that walks a generator born in its own code -/
structure Csm (X : Cx) (pins : List (Addr × Obj)) (lo : Addr) : Prop where
  s0 : X.s_0.heap.objs.size ≤ lo
  loc : X.env.locals < lo
  cell : ∀ x c, X.env.cells.lookup x = some c → c < lo
  ex : ∀ b ∈ X.ex, b < lo
  pin : ∀ p ∈ X.pn ++ pins, p.1 < lo
theorem csm_of {X : Cx} {pins : List (Addr × Obj)} {σ : L2.St} {H : Hp} {s : Shared} (I : Inv X pins σ H s) (hex : X.ex = []) : Csm X pins s.heap.objs.size where
  s0 := I.sz
  loc := I.lt
  cell := fun x c e => by
    obtain ⟨v, o, ho, _⟩ := I.cell x c e
    exact Heap.lt_size ho
  ex := fun b hb => by
    rw [hex] at hb
    cases hb
  pin := fun p hp => Heap.lt_size (I.pin p hp).1
/-- the walker's view of a sleeping generator -/
structure Asl (X : Cx) (A : Around) (lo it : Addr) (go : Obj) (g : Nat) (Hc : Hp) (ps : List (List Str)) (og : List (Nat × GenState)) (ow : List (Addr × Obj)) (gs : GenState) (H : Hp) (s : Shared) : Prop where
  gen : s.gens[g]? = some gs
  ogk : ∀ q ∈ og, g < q.1 ∧ s.gens[q.1]? = some q.2
  obj : (it, go) ∈ ow
  owk : ∀ q ∈ ow, lo ≤ q.1 ∧ s.heap.get? q.1 = some q.2 ∧ H q.1 = none
  ext : Same Hc H
  slp : Slp X.prog X.w X.K X.mg X.base A X.stack lo it go g Hc ps og ow gs
section
variable {X : Cx} {pins pk : List (Addr × Obj)} {σ : L2.St} {H : Hp} {s : Shared} {B : Around} {lo it : Addr} {go : Obj} {g : Nat} {Hc : Hp} {ps : List (List Str)} {og : List (Nat × GenState)} {ow : List (Addr × Obj)} {gs : GenState}
/-- the next of such a generator, the consumer having pk besides -/
theorem asl_next (hz : ∀ h : Heap, h.get? it = some go → h.IsGen it g) (Z : Csm X pins lo) (hB : B.handled = none) (hd : B.depth < recursionLimit) (hf : B.frames = some X.stack) (I : Inv X pins σ H s) (a : Asl X B.in1 lo it go g Hc ps og ow gs H s)
    (hpk : ∀ q ∈ pk, s.heap.get? q.1 = some q.2 ∧ H q.1 = none ∧ q.1 ∉ frs X.stack ∧ (∀ v, q.2.data ≠ .cell v) ∧ ∀ q' ∈ ow, q.1 ≠ q'.1) :
    wpAny (model X.prog X.w) B (pyNext (.ref it)) (fun u s1 => match ps with
      | [] => u = none ∧ ∃ H1, Inv X pins σ H1 s1 ∧ Same H H1 ∧ ∀ q ∈ pk, s1.heap.get? q.1 = some q.2 ∧ H1 q.1 = none
      | p :: ps' => ∃ t H1 og' ow' gs', u = some (.ref t) ∧ H t = none ∧ H1 t = some (.tup (p.map V.str)) ∧ Inv X pins σ H1 s1 ∧ Same H H1 ∧ (∀ q ∈ pk, s1.heap.get? q.1 = some q.2 ∧ H1 q.1 = none) ∧ Asl X B.in1 lo it go g Hc ps' og' ow' gs' H1 s1 ∧ ∀ q ∈ pk, ∀ q' ∈ ow', q.1 ≠ q'.1) NoE s := by
  have hg2 : g < s.gens.size := (Array.getElem?_eq_some_iff.mp a.gen).1
  have e0 := I.env0
  have W : Wake X.prog X.w X.K X.mg X.base B.in1 X.stack Hc g og ow pk (s.setGen g .running) H := by
    refine ⟨by rw [setGen_size]; exact hg2, fun q hq => ?_, ⟨hf, e0.mod, e0.bs, e0.bsz, e0.funs, e0.frf, e0.hok, allBare_setGen e0.bare rfl⟩, a.ext, fun q hq => (a.owk q hq).2, fun q hq => hpk q hq⟩
    obtain ⟨z1, z2⟩ := a.ogk q hq
    rw [setGen_ne (Nat.ne_of_gt z1)]
    exact z2
  have after : ∀ {H1 : Hp} {s1 s' : Shared}, Ctr X.prog X.w X.stack lo (s.setGen g .running) H H1 pk s1 → s'.os = s1.os → (∀ b o, s1.heap.get? b = some o → s'.heap.get? b = some o) → AllBare s'.gens → Inv X pins σ H1 s' := fun {H1 s1 s'} ct ho hk hb => by
    have ct2 : Ctr X.prog X.w X.stack lo s H H1 pk s1 := ⟨ct.os, ct.bare, ct.old, ct.slot, ct.free, ct.pin, ct.hok, ct.same⟩
    exact inv_set (inv_ctr I Z.s0 Z.loc Z.cell Z.ex ct2 fun q hq => .inr (Z.pin q hq)) ho hk hb
  refine wpAny_gsz (n := s.gens.size) (Nat.le_refl _) (next_go hB I.nolimit hd (hz _ (a.owk _ a.obj).2.1) a.gen ((Slp.iff.mp a.slp).2 _ H pk W) fun e s1 he => ?_)
  cases ps with
  | nil =>
    obtain ⟨hr, hqt, H1, ct, kn⟩ := he
    exact .inr ⟨hr, hqt, fun h' hk _ => ⟨rfl, H1, after ct rfl hk (allBare_setGen ct.bare (End.bare_of_quiet hqt)), ct.same, fun q hq => ⟨hk _ _ (ct.pin q hq).1, (ct.pin q hq).2⟩⟩⟩
  | cons p ps =>
    obtain ⟨t, H1, og', ow', hr, hqt, ht0, ht1, ct, kn, ow1, nm, slp⟩ := he
    have hb2 := End.bare_of_quiet hqt
    refine .inl ⟨.ref t, hr, hqt, fun hsz => ?_⟩
    have hg1 : g < s1.gens.size := by
      have h3 : s.gens.size ≤ (s1.setGen g e.genState).gens.size := hsz
      rw [setGen_size] at h3
      omega
    refine ⟨t, H1, og', ow', e.genState, rfl, ht0, ht1, after (s' := s1.setGen g e.genState) ct rfl (fun b o z => z) (allBare_setGen ct.bare hb2), ct.same, fun q hq => ct.pin q hq, ⟨setGen_at hg1, fun q hq => ?_, ow1.obj, fun q hq => ?_, fun b o z => ct.same _ _ (a.ext _ _ z), slp⟩, fun q hq q' hq' => (ow1.ow q' hq').2.2.2.2 q hq⟩
    · obtain ⟨z1, z2⟩ := ow1.og q hq
      exact ⟨z1, by rw [setGen_ne (Nat.ne_of_gt z1)]; exact z2⟩
    · obtain ⟨z1, z2, z3, _⟩ := ow1.ow q hq
      exact ⟨z1, z2, z3⟩
/-- what was handed out, in the heap -/
def Outs (H : Hp) : List V → List (List Str) → Prop := Paired fun v p => ∃ t, v = .ref t ∧ H t = some (.tup (p.map V.str))
theorem Outs.same {H H' : Hp} (sm : Same H H') : ∀ {vs : List V} {ps : List (List Str)}, Outs H vs ps → Outs H' vs ps
  | _, _, .nil => .nil
  | _, _, .cons ⟨t, e, h⟩ r => .cons ⟨t, e, sm _ _ h⟩ (Outs.same sm r)
/-- the consumer's list -/
structure Lst (X : Cx) (pins : List (Addr × Obj)) (S : Addr) : Prop where
  nf : S ∉ frs X.stack
  s0 : X.s_0.heap.objs.size ≤ S
  loc : S ≠ X.env.locals
  cell : ∀ x c, X.env.cells.lookup x = some c → c ≠ S
  pin : ∀ p ∈ X.pn ++ pins, p.1 ≠ S
theorem inv_push {S : Addr} {v : Value} {acc : Array Value} {c : Nat} (L : Lst X pins S) (I : Inv X pins σ H s) (e : s.heap.get? S = some (lstObj acc c)) (h0 : H S = none) : Inv X pins σ H { s with heap := s.heap.update S (Obj.mapSeq (·.push v)) } :=
  I.turned (t' := s.toks) (it := S) (fun b o hb q => (Heap.get?_update_other _ _ (Ne.symm hb)).trans q) h0 L.loc (.inr L.s0) L.cell L.pin
theorem drain_p {S : Addr} {A : Around} {R : Result → Shared → Prop} {res : Value} (hz : ∀ h : Heap, h.get? it = some go → h.IsGen it g) (Z : Csm X pins lo) (L : Lst X pins S) (hB : A.handled = none) (hd : A.depth < recursionLimit) (hf : A.frames = some X.stack) :
    ∀ (ps : List (List Str)) (og : List (Nat × GenState)) (ow : List (Addr × Obj)) (gs : GenState) (ys : List V) (acc : Array Value) (c : Nat) (H : Hp) (s : Shared), Inv X pins σ H s → Asl X A.in1.in1 lo it go g Hc ps og ow gs H s →
      s.heap.get? S = some (lstObj acc c) → H S = none → Vals ys acc.toList → ys.length + ps.length ≤ 100000 → (∀ q ∈ ow, S ≠ q.1) →
      (∀ ts H' s' acc' c', Inv X pins σ H' s' → Same H H' → H' S = none → s'.heap.get? S = some (lstObj acc' c') → Vals (ys ++ ts) acc'.toList → Outs H' ts ps → R (.ok (.ret res)) s') →
      codeAny (model X.prog X.w) A (.builtin "list.extend.loop" ⟨[.ref S, .ref it, res], []⟩) R s := by
  intro ps
  induction ps with
  | nil =>
    intro og ow gs ys acc c H s I a eS hS r hle hne hend
    refine codeAny_builtin F.entry_extend_loop ?_
    rw [Around.under_plainId F.plain_extend_loop _]
    show wpAny _ A.in1 (pyNext (.ref it) >>= _) _ _ s
    refine wpAny_bind (wpAny_mono (asl_next (B := A.in1) (pk := [(S, lstObj acc c)]) hz Z hB hd hf I a fun q hq => ?_) (fun u s1 h => ?_) fun _ _ z => z.elim)
    · rw [List.mem_singleton.mp hq]
      exact ⟨eS, hS, L.nf, (fun v z => by cases z), hne⟩
    · obtain ⟨rfl, H1, I1, sm, hp⟩ := h
      obtain ⟨e1, h1⟩ := hp _ List.mem_cons_self
      exact wpAny_pure (hend [] H1 s1 acc c I1 sm h1 e1 (by rw [List.append_nil]; exact r) .nil)
  | cons p ps ih =>
    intro og ow gs ys acc c H s I a eS hS r hle hne hend
    have rl := r.length
    rw [List.length_cons] at hle
    have hacc : acc.size < sizeLine := by
      have h1 : acc.toList.length = acc.size := by simp
      have h2 := line_big (n := 100000) (Nat.le_refl _)
      omega
    refine codeAny_builtin F.entry_extend_loop ?_
    rw [Around.under_plainId F.plain_extend_loop _]
    show wpAny _ A.in1 (pyNext (.ref it) >>= _) _ _ s
    refine wpAny_bind (wpAny_mono (asl_next (B := A.in1) (pk := [(S, lstObj acc c)]) hz Z hB hd hf I a fun q hq => ?_) (fun u s1 h => ?_) fun _ _ z => z.elim)
    · rw [List.mem_singleton.mp hq]
      exact ⟨eS, hS, L.nf, (fun v z => by cases z), hne⟩
    · obtain ⟨t, H1, og', ow', gs', rfl, ht0, ht1, I1, sm, hp, a1, hne1⟩ := h
      obtain ⟨e1, h1⟩ := hp _ List.mem_cons_self
      show wpAny _ A.in1 (updateSeq S (·.push (.ref t)) >>= _) _ _ _
      refine wpAny_bind ?_
      refine wpAny_updateSeq e1 rfl (wpAny_pure ⟨plainId_quiet F.plain_extend_loop _, ?_⟩) (Nat.le_of_lt hacc) (by show (acc.push _).size ≤ sizeLine + 1; rw [Array.size_push]; omega)
      have neS : ∀ q ∈ ow', S ≠ q.1 := fun q hq => hne1 _ List.mem_cons_self q hq
      refine ih og' ow' gs' (ys ++ [.ref t]) (acc.push (.ref t)) _ H1 _ (inv_push (v := .ref t) L I1 e1 h1) ⟨a1.gen, a1.ogk, a1.obj, fun q hq => ?_, a1.ext, a1.slp⟩ (Heap.get?_update_self _ e1 rfl) h1 ?_ ?_ neS fun ts H' s' acc' c' I' sm' h' e' r' o' => ?_
      · obtain ⟨z1, z2, z3⟩ := a1.owk q hq
        exact ⟨z1, (Heap.get?_update_other _ _ (neS q hq)).trans z2, z3⟩
      · rw [Array.toList_push]
        exact r.append (.cons rfl .nil)
      · rw [List.length_append, List.length_singleton]
        omega
      · refine hend (.ref t :: ts) H' s' acc' c' I' (sm.trans sm') h' e' ?_ (.cons ⟨t, rfl, sm' _ _ ht1⟩ o')
        rw [List.append_assoc] at r'
        exact r'
theorem inv_list {S : Addr} {ys : List V} {acc : Array Value} {c : Nat} (L : Lst X pins S) (I : Inv X pins σ H s) (h0 : H S = none) (e : s.heap.get? S = some (lstObj acc c)) (r : Vals ys acc.toList) (hle : ys.length ≤ sizeLine) : Inv X pins σ (upd H S (.lst ys)) s := by
  refine I.call' (ch := [S]) rfl ⟨fun b o q _ _ _ => q, fun b o q _ _ _ => ⟨o.slots, q⟩, fun b o q n hx => ?_, fun b o q _ => ⟨o, q⟩, fun b xs q => ?_, fun b o u q => ?_, fun b ps q => ?_⟩ (fun b u q => ?_) I.bare fun b hb => ?_
  · rw [upd_ne (fun z => hx (by rw [z]; exact List.mem_singleton.mpr rfl))]
    exact n
  · rw [upd_ne (ne_of_none q h0)]
    exact q
  · rw [upd_ne (ne_of_none q h0)]
    exact q
  · exact ⟨#[], by rw [upd_ne (ne_of_none q h0), q]; simp⟩
  · by_cases hb : b = S
    · subst hb
      rw [upd_same] at q
      cases q
      exact ⟨hle, acc.toList, c, r, by rw [e]⟩
    · rw [upd_ne hb] at q
      exact (I.hok b u q).stay (fun _ _ _ z => z) (fun d z => by rw [upd_ne (ne_of_none z h0)]; exact z) fun d xs z => by rw [upd_ne (ne_of_none z h0)]; exact z
  · rw [List.mem_singleton.mp hb]
    exact ⟨.inr L.s0, L.loc, L.cell, L.pin⟩
/-- list(g), g just born -/
theorem call_list_p {u : Value} {k : Nat} {s8 : Shared} (hex : X.ex = []) (hB : X.A.handled = none) (hr : Room (k + 3) X.A) (I8 : Inv X pins σ H s8) (hb : Born X.prog X.w X.K X.mg X.base k X.stack s8 H Hc ps u s) (hc : Same Hc H) (hle : ps.length ≤ 100000) :
    wpAny (model X.prog X.w) X.A (call (.type "list") [u]) (fun v s' => ∃ S ts H', v = .ref S ∧ Inv X pins σ (upd H' S (.lst ts)) s' ∧ Same H H' ∧ H' S = none ∧ Outs H' ts ps) NoE s := by
  have Z := csm_of I8 hex
  obtain ⟨it, go, g, gs, ow, rfl, c1, c2, c3, c4, c5, c6, ck, c7, c8, c9⟩ := hb
  have I : Inv X pins σ H s := inv_set I8 c5 c7 c6
  have hz : s.heap.IsGen it g := c2 _ (c8.ow _ c8.obj).2.1
  have hlim := I.nolimit
  have hSa : s.heap.objs.size ≠ it := Nat.ne_of_gt (Heap.lt_size (c8.ow _ c8.obj).2.1)
  refine callType_codes (Q₁ := fun obj s₁ => obj = .ref s.heap.objs.size ∧ s₁ = { s with heap := s.heap.push { cls := .type "list", data := .seq #[] } }) F.called_list (F.typeCall_list_1 _) F.entry_list_init
    (code_list_new _ ⟨rfl, rfl⟩) fun obj s₁ h₁ => ?_
  obtain ⟨rfl, rfl⟩ := h₁
  have hS : (s.heap.push { cls := .type "list", data := .seq #[] }).get? s.heap.objs.size = some { cls := .type "list", data := .seq #[] } := Heap.get?_push_size _ rfl
  refine ⟨⟨_, hS, rfl⟩, F.args_list_init_2 _ _, ?_⟩
  show wpAny _ X.A.in1.in1 (do let old ← Builtin.List.listItems (.ref s.heap.objs.size); Builtin.List.listUpdate (.ref s.heap.objs.size) (fun _ => #[]); letGo old.toList.reverse; Builtin.List.listExtendWith (.ref s.heap.objs.size) (.ref it) .none) _ _ _
  refine wpAny_bind ?_
  unfold Builtin.List.listItems
  refine wpAny_bind (wpAny_seqItems hS rfl (wpAny_pure ?_))
  show wpAny _ X.A.in1.in1 (updateSeq s.heap.objs.size (fun _ => #[]) >>= fun _ => letGo (#[] : Array Value).toList.reverse >>= fun _ => Builtin.List.listExtendWith (.ref s.heap.objs.size) (.ref it) .none) _ _ _
  refine wpAny_bind (wpAny_updateSeq hS rfl ?_)
  have hS2 := Heap.get?_update_self (Obj.mapSeq (fun _ => (#[] : Array Value))) hS rfl
  refine wpAny_bind (wpAny_letGo ?_)
  unfold Builtin.List.listExtendWith
  have up : ∀ (h : Heap) (f : Obj → Obj), (∀ b o, s.heap.get? b = some o → h.get? b = some o) → ∀ b o, s.heap.get? b = some o → (h.update s.heap.objs.size f).get? b = some o := fun h f q b o e =>
    (Heap.get?_update_other _ _ (Ne.symm (Nat.ne_of_lt (Heap.lt_size e)))).trans (q b o e)
  have k1 : ∀ b o, s.heap.get? b = some o → (s.heap.push { cls := .type "list", data := .seq #[] }).get? b = some o := fun b o e => Heap.get?_push_of_some _ e
  have k2 := up _ (Obj.mapSeq (fun _ => (#[] : Array Value))) k1
  have gty : ∀ {h : Heap}, (∀ b o, s.heap.get? b = some o → h.get? b = some o) → h.IsGen it g := fun {h} q => hz.keeps q
  refine wpAny_bind (wpAny_typeOf (Heap.IsGen.typeIs (s := { s with heap := _ }) (gty k2)) ?_)
  have h1 : Builtin.List.listSameRef (.ref s.heap.objs.size) (.ref it) = false := by simp [Builtin.List.listSameRef, hSa]
  have h2 : (Value.type "generator" == Value.type "list") = false := by decide
  have h3 : (Value.type "generator" == Value.type "tuple") = false := by decide
  simp only [h1, h2, h3, Bool.or_false, Bool.false_eq_true, if_false]
  refine wpAny_bind (wpAny_pyIter_gen (s := { s with heap := _ }) (gty k2) ?_)
  refine wpAny_bind (wpAny_holding ?_)
  unfold Builtin.List.listLengthHint
  refine wpAny_bind (wpAny_specialOf (Heap.IsGen.typeIs (s := { s with heap := _ }) (gty k2)) F.gen_no_len ?_)
  show wpAny _ X.A.in1.in1 (specialOf (Value.ref it) (Str.ofString "__length_hint__") >>= _) _ _ _
  refine wpAny_bind (wpAny_specialOf (Heap.IsGen.typeIs (s := { s with heap := _ }) (gty k2)) F.gen_no_hint ?_)
  refine wpAny_pure ?_
  show wpAny _ X.A.in1.in1 (rule "list.extend.makes-room" >>= fun _ => Builtin.List.listTouch (.ref s.heap.objs.size) >>= fun _ =>
    again (.builtin "list.extend.loop" ⟨[.ref s.heap.objs.size, .ref it, .none], []⟩)) _ _ _
  refine wpAny_bind (wpAny_rule ?_)
  refine wpAny_bind ?_
  show wpAny _ X.A.in1.in1 (updateSeq s.heap.objs.size (·.push .none) >>= fun _ => updateSeq s.heap.objs.size (·.pop)) _ _ _
  refine wpAny_bind (wpAny_updateSeq hS2 rfl ?_)
  have hS3 := Heap.get?_update_self (Obj.mapSeq (·.push Value.none)) hS2 rfl
  refine wpAny_updateSeq (hz := by seq_fits) hS3 rfl ?_
  have hS4 := Heap.get?_update_self (Obj.mapSeq (·.pop)) hS3 rfl
  have k4 := up _ (Obj.mapSeq (·.pop)) (up _ (Obj.mapSeq (·.push Value.none)) k2)
  have hSz := I.hok.fresh (a := s.heap.objs.size) (Nat.le_refl _)
  have L : Lst X pins s.heap.objs.size := ⟨fun hm => ?_, I.sz, Nat.ne_of_gt I.lt, fun x c e => ?_, fun p hp => Nat.ne_of_lt (Heap.lt_size (I.pin p hp).1)⟩
  · refine wpAny_pure ⟨plainId_quiet F.plain_extend_loop _, ?_⟩
    refine drain_p (A := X.A.in1) c2 Z L hB (by have := hr.dp; show X.A.depth < _; omega) I.ok.frames ps [] ow gs [] #[] _ H _ (inv_set I rfl k4 I.bare) ⟨c4, (fun q hq => by cases hq), c8.obj, fun q hq => ?_, hc, c9 _ ⟨hr.hd, ?_, ?_⟩ I.ok.frames⟩ hS4 hSz .nil (by rw [List.length_nil]; omega) (fun q hq => Nat.ne_of_gt (Heap.lt_size (c8.ow q hq).2.1))
      fun ts H' s' acc' c' I' sm h' e' r' o' => ⟨rfl, s.heap.objs.size, ts, H', rfl, inv_list L I' h' e' r' ?_, sm, h', o'⟩
    · obtain ⟨z1, z2, z3, _⟩ := c8.ow q hq
      exact ⟨z1, k4 _ _ z2, z3⟩
    · have := hr.dp
      show X.A.depth + 3 * k + 5 < _
      omega
    · have := hr.un
      show X.A.units + 1 + 1 + 1 + 16 * k + 200 < _
      omega
    · have e : ts.length = ps.length := Paired.length o'
      exact line_big (by rw [e]; exact hle)
  · have hm2 := I.stkSub _ hm
    rcases List.mem_cons.mp hm2 with z | z
    · exact absurd I.lt (by rw [← show s.heap.objs.size = X.env.locals from z]; exact Nat.lt_irrefl _)
    · exact I.nofs (Nat.le_refl _) z
  · obtain ⟨v, o, ho, _⟩ := I.cell x c e
    exact Nat.ne_of_lt (Heap.lt_size ho)
/-- list(o.paths()) -/
def tListP (C : Addr) (n : Nat) (te : TE) : TE := fun σ H Q => te σ H fun x H1 => ∃ a ps, x = .ref a ∧ Pt C H1 n (.ref a) ps ∧ ps.length ≤ 100000 ∧ ∀ S ts H2, Same H1 H2 → H2 S = some (.lst ts) → Outs H2 ts ps → Q (.ref S) H2
theorem pe_listP {C f : Addr} {mg : Str → Option Value} {n k j : Nat} {o : Expr} {te : TE} {p apos cpos pos : Pos} {pl : Sem Bool} (R : RecK X.K X.mg C) (hm : Meth X.K C "paths" f) (hc : CallOk X.prog X.w X.K X.mg X.base C f n k) (hr : Room j X.A) (hj : k + 3 ≤ j) (hxe : X.xe = NoE) (hex : X.ex = []) (hg : Gl X "list") (hl : X.mg "list" = none) (he : PE X o te)
    (ht : eval (.Call (.Attribute o "paths" apos) [] [] cpos) X.env = (do
      let ov ← eval o X.env
      standAt apos.atName
      let (f, first) ← holding [ov] (getMethod ov "paths" pl)
      callWith cpos f first (backTo cpos (starEach [] X.env)) (backToKw cpos (keywordEach [] X.env))) := by rfl)
    (hst : starEach [.Call (.Attribute o "paths" apos) [] [] cpos] X.env = (false, eval (.Call (.Attribute o "paths" apos) [] [] cpos) X.env) :: starEach [] X.env := by rfl) :
    PE X (.Call (.Name "list" p) [.Call (.Attribute o "paths" apos) [] [] cpos] [] pos) (tListP C n te) := by
  refine ⟨fun pins s σ H Q I h => ?_⟩
  rw [hxe]
  refine wpAny_Call_Name_kw (ld_blt I hg hl bo_list ?_ (by decide) (by decide))
  refine PyProof.Rows.callWith_type1 ?_ hst rfl
  rw [hst]
  show wpAny _ _ (spliced ((false, eval (.Call (.Attribute o "paths" apos) [] [] cpos) X.env) :: backTo pos (starEach [] X.env))) _ _ s
  have hI := he.run pins s σ H _ I h
  rw [hxe] at hI
  refine Calls.spliced_cons (PySem.W.methodCall_KW (pl := pl) (thn hI fun u s1 ⟨x, H1, I1, rx, a, ps, ex, hp, hle, q⟩ => ?_) ht)
  subst ex
  obtain rfl : u = Value.ref a := rx
  obtain ⟨dx, tp, d, z, e1⟩ : ∃ dx tp d z, H1 a = some (.ins C dx (rf tp d z)) := by
    cases n with
    | zero => exact hp.elim
    | succ n =>
      obtain ⟨a', l, z, e, ⟨⟨dx, tp, d, _, e1, _⟩, _, _⟩, _⟩ := hp
      cases e
      exact ⟨dx, tp, d, z, e1⟩
  refine getmeth_ok I1 e1 R.cl hm (rf_paths _ _ _) ?_
  refine PySem.W.callWith_K0 (first := [.ref a]) I1.kIn hm.kp ?_
  refine hc X.A X.stack s1 H1 H1 a ps _ _ (hr.mono (by omega)) I1.env0 (Same.refl _) hp fun u s2 hb => ?_
  refine Calls.spliced_nil ?_
  refine wpAny_mono (call_list_p hex hr.hd (hr.mono hj) I1 hb (Same.refl _) hle) (fun v s3 h3 => ?_) fun _ _ z => z
  obtain ⟨S, ts, H', rfl, I3, sm, h', o'⟩ := h3
  have sm2 : Same H' (upd H' S (.lst ts)) := fun b u e => by
    rw [upd_ne (ne_of_none e h')]
    exact e
  exact ⟨.ref S, _, I3, rfl, q S ts _ (sm.trans sm2) upd_same (o'.same sm2)⟩
end
end Gn
/-! The next of a generator as an iterator asks it; two generators asleep side by side. -/
namespace Gn
open PySem PySem.Spec PyProof.Rows L2 GenW GrT GrOwn Lw
section
variable {P : Program} {w : World} {A : Around} {E : Value → Shared → Prop} {s : Shared}
theorem nextOf_go {a : Addr} {g : Nat} {gs : GenState} {Φ : End → Shared → Prop} {Q : Value → Shared → Prop} (hh : A.handled = none) (hl : s.heap.NoLimit) (hroom : A.depth < recursionLimit) (hg : s.heap.IsGen a g) (hgs : s.gens[g]? = some gs)
    (hgo : Go (model P w) A.in1 Φ gs (s.setGen g .running))
    (hq : ∀ e s₁, Φ e s₁ → (∃ v, e.result = .yielded v ∧ e.quiet = true ∧ Q v (s₁.setGen g e.genState)) ∨
      (e.result = .returned .none ∧ e.quiet = true ∧ ∀ (h' : Heap) (x : Addr), (∀ b o, s₁.heap.get? b = some o → h'.get? b = some o) → (∃ o, h'.get? x = some o ∧ o.cls = .type "StopIteration") → E (.ref x) { s₁.setGen g e.genState with heap := h' })) :
    wpAny (model P w) A (Builtin.SmallTypes.nextOf (.ref a)) Q E s := by
  unfold Builtin.SmallTypes.nextOf
  refine wpAny_bind (wpAny_callSpecial?_slot (name := Str.ofString "__next__") hg.typeIs slot_gen_next (wpAny_call_entry slot_gen_next hg.typeIs entry_gen_next ?_ (args_gen_next _)))
  show wpAny _ A.in1 (Builtin.Generator.genWake (.ref a) (.send .none)) _ _ s
  unfold Builtin.Generator.genWake
  refine wpAny_bind (wpAny_holding (wpAny_genNumber hg (wpAny_bind (wpAny_genState hgs ?_))))
  cases gs with
  | running => exact hgo.elim
  | finished => exact hgo.elim
  | _ =>
    refine wpAny_bind (wpAny_roomToWake hl hroom ?_)
    show wpAny _ A.in1 (.resume g (.send .none) [] _) _ _ s
    refine resume_go hgs hgo fun e s₁ he => ?_
    rcases hq e s₁ he with ⟨v, hr, hqt, hQ⟩ | ⟨hr, hqt, hQ⟩
    · refine ⟨hqt, ?_⟩
      rw [hr]
      exact wpAny_pure ⟨v, rfl, wpAny_pure hQ⟩
    · refine ⟨hqt, ?_⟩
      rw [hr]
      show wpAny _ A.in1 (newExc (.type "StopIteration") [] >>= _) _ _ _
      refine wpAny_bind ?_
      simp only [newExc, newTuple]
      refine wpAny_bind (wpAny_newObj_type ?_ (by size_fits))
      refine wpAny_bind (m := firstArgMember _ _) (wpAny_of_eq (a := Value.none) (by first | rfl | (simp only [firstArgMember]; rfl)) ?_)
      refine wpAny_newObj_type ?_ (by size_fits)
      simp only [raiseNew]
      refine wpAny_bind (wpAny_bind (wpAny_handled ?_))
      first | rw [show A.in1.handled = none from hh] | rw [hh]
      refine wpAny_throw ?_
      exact hQ _ _ (fun b o hb => Heap.get?_push_of_some _ (Heap.get?_push_of_some _ hb)) ⟨_, Heap.get?_push_size _ rfl, rfl⟩
end
section
variable {X : Cx} {pins pk : List (Addr × Obj)} {σ : L2.St} {H : Hp} {s : Shared} {B : Around} {lo it : Addr} {go : Obj} {g : Nat} {Hc : Hp} {ps : List (List Str)} {og : List (Nat × GenState)} {ow : List (Addr × Obj)} {gs : GenState}
/-- what its consumer wants kept -/
def PkOk (X : Cx) (pk ow : List (Addr × Obj)) (H : Hp) (s : Shared) : Prop := ∀ q ∈ pk, s.heap.get? q.1 = some q.2 ∧ H q.1 = none ∧ q.1 ∉ frs X.stack ∧ (∀ v, q.2.data ≠ .cell v) ∧ ∀ q' ∈ ow, q.1 ≠ q'.1
theorem asl_nx (hz : ∀ h : Heap, h.get? it = some go → h.IsGen it g) (Z : Csm X pins lo) (hB : B.handled = none) (hd : B.depth < recursionLimit) (hf : B.frames = some X.stack) (I : Inv X pins σ H s) (a : Asl X B.in1 lo it go g Hc ps og ow gs H s) (hpk : PkOk X pk ow H s) :
    wpAny (model X.prog X.w) B (Builtin.SmallTypes.nextOf (.ref it)) (fun v s1 => ∃ p ps' t H1 og' ow' gs', ps = p :: ps' ∧ v = .ref t ∧ H t = none ∧ H1 t = some (.tup (p.map V.str)) ∧ Inv X pins σ H1 s1 ∧ Same H H1 ∧ PkOk X pk ow' H1 s1 ∧
        Asl X B.in1 lo it go g Hc ps' og' ow' gs' H1 s1 ∧ Kn g og s s1 ∧ Nm og s og' ∧ (∀ q ∈ ow', ∀ v, q.2.data ≠ .cell v))
      (fun e s1 => ps = [] ∧ ∃ x H1, e = .ref x ∧ (∃ o, s1.heap.get? x = some o ∧ o.cls = .type "StopIteration") ∧ Inv X pins σ H1 s1 ∧ Same H H1 ∧ PkOk X pk [] H1 s1) s := by
  have hg2 : g < s.gens.size := (Array.getElem?_eq_some_iff.mp a.gen).1
  have e0 := I.env0
  have W : Wake X.prog X.w X.K X.mg X.base B.in1 X.stack Hc g og ow pk (s.setGen g .running) H := by
    refine ⟨by rw [setGen_size]; exact hg2, fun q hq => ?_, ⟨hf, e0.mod, e0.bs, e0.bsz, e0.funs, e0.frf, e0.hok, allBare_setGen e0.bare rfl⟩, a.ext, fun q hq => (a.owk q hq).2, fun q hq => hpk q hq⟩
    obtain ⟨z1, z2⟩ := a.ogk q hq
    rw [setGen_ne (Nat.ne_of_gt z1)]
    exact z2
  have after : ∀ {H1 : Hp} {s1 s' : Shared}, Ctr X.prog X.w X.stack lo (s.setGen g .running) H H1 pk s1 → s'.os = s1.os → (∀ b o, s1.heap.get? b = some o → s'.heap.get? b = some o) → AllBare s'.gens → Inv X pins σ H1 s' := fun {H1 s1 s'} ct ho hk hb => by
    have ct2 : Ctr X.prog X.w X.stack lo s H H1 pk s1 := ⟨ct.os, ct.bare, ct.old, ct.slot, ct.free, ct.pin, ct.hok, ct.same⟩
    exact inv_set (inv_ctr I Z.s0 Z.loc Z.cell Z.ex ct2 fun q hq => .inr (Z.pin q hq)) ho hk hb
  refine wpAny_gsz (n := s.gens.size) (Nat.le_refl _) (nextOf_go hB I.nolimit hd (hz _ (a.owk _ a.obj).2.1) a.gen ((Slp.iff.mp a.slp).2 _ H pk W) fun e s1 he => ?_)
  cases ps with
  | nil =>
    obtain ⟨hr, hqt, H1, ct, kn⟩ := he
    refine .inr ⟨hr, hqt, fun h' x hk hx _ => ⟨rfl, x, H1, rfl, hx, after ct rfl hk (allBare_setGen ct.bare (End.bare_of_quiet hqt)), ct.same, fun q hq => ?_⟩⟩
    obtain ⟨_, _, z3, z4, _⟩ := hpk q hq
    exact ⟨hk _ _ (ct.pin q hq).1, (ct.pin q hq).2, z3, z4, fun q' hq' => by cases hq'⟩
  | cons p ps =>
    obtain ⟨t, H1, og', ow', hr, hqt, ht0, ht1, ct, kn, ow1, nm, slp⟩ := he
    have hb2 := End.bare_of_quiet hqt
    refine .inl ⟨.ref t, hr, hqt, fun hsz => ?_⟩
    have hg1 : g < s1.gens.size := by
      have h3 : s.gens.size ≤ (s1.setGen g e.genState).gens.size := hsz
      rw [setGen_size] at h3
      omega
    refine ⟨p, ps, t, H1, og', ow', e.genState, rfl, rfl, ht0, ht1, after (s' := s1.setGen g e.genState) ct rfl (fun b o z => z) (allBare_setGen ct.bare hb2), ct.same, fun q hq => ?_, ⟨setGen_at hg1, fun q hq => ?_, ow1.obj, fun q hq => ?_, fun b o z => ct.same _ _ (a.ext _ _ z), slp⟩, ⟨hsz, fun n h1 h2 h3 => ?_⟩, fun q hq => ?_, fun q hq => (ow1.ow q hq).2.2.2.1⟩
    · obtain ⟨_, _, z3, z4, _⟩ := hpk q hq
      exact ⟨(ct.pin q hq).1, (ct.pin q hq).2, z3, z4, fun q' hq' => (ow1.ow q' hq').2.2.2.2 q hq⟩
    · obtain ⟨z1, z2⟩ := ow1.og q hq
      exact ⟨z1, by rw [setGen_ne (Nat.ne_of_gt z1)]; exact z2⟩
    · obtain ⟨z1, z2, z3, _⟩ := ow1.ow q hq
      exact ⟨z1, z2, z3⟩
    · rw [setGen_ne h2, kn.2 n (by rw [setGen_size]; exact h1) h2 h3, setGen_ne h2]
    · rcases nm q hq with h | h
      · exact .inl h
      · rw [setGen_size] at h
        exact .inr h
/-- another generator's sleep is not disturbed -/
theorem Asl.beside {A : Around} {lo2 it2 : Addr} {go2 : Obj} {g2 : Nat} {ps2 : List (List Str)} {og2 : List (Nat × GenState)} {ow2 : List (Addr × Obj)} {gs2 : GenState} {H1 : Hp} {s1 : Shared} (a : Asl X A lo2 it2 go2 g2 Hc ps2 og2 ow2 gs2 H s) (kn : Kn g og s s1)
    (hn : ∀ q ∈ (g2, gs2) :: og2, q.1 ≠ g ∧ ∀ q' ∈ og, q'.1 ≠ q.1) (hp : ∀ q ∈ ow2, s1.heap.get? q.1 = some q.2 ∧ H1 q.1 = none) (sm : Same H H1) : Asl X A lo2 it2 go2 g2 Hc ps2 og2 ow2 gs2 H1 s1 := by
  have keep : ∀ {n : Nat} {x : GenState}, s.gens[n]? = some x → n ≠ g → (∀ q' ∈ og, q'.1 ≠ n) → s1.gens[n]? = some x := fun {n x} e h1 h2 => by
    rw [kn.2 n (Array.getElem?_eq_some_iff.mp e).1 h1 h2]
    exact e
  exact ⟨keep a.gen (hn _ List.mem_cons_self).1 (hn _ List.mem_cons_self).2, fun q hq => ⟨(a.ogk q hq).1, keep (a.ogk q hq).2 (hn q (List.mem_cons_of_mem _ hq)).1 (hn q (List.mem_cons_of_mem _ hq)).2⟩, a.obj, fun q hq => ⟨(a.owk q hq).1, hp q hq⟩, fun b o z => sm _ _ (a.ext _ _ z), a.slp⟩
end
end Gn
/-! zip of two generators: the object, its making, its turns. -/
namespace Gn
open PySem PySem.Spec PyProof.Rows L2 GenW GrT GrOwn Lw
abbrev pairO (a b : Value) : Obj := { cls := .type "tuple", data := .seq #[a, b] }
abbrev zipO (f0 : Value) (f1 : Bool) (TI TO : Addr) : Obj := { cls := .type "zip", data := .fields #[f0, .bool f1, .bool false, .ref TI, .ref TO] }
abbrev zg1 (h : Heap) (a b : Addr) : Heap := h.push (pairO (.ref a) (.ref b))
abbrev zg2 (h : Heap) (a b : Addr) : Heap := (zg1 h a b).push (pairO .none .none)
abbrev zg3 (h : Heap) (a b : Addr) : Heap := (zg2 h a b).push (zipO .none false h.objs.size (zg1 h a b).objs.size)
theorem meets_zipG (a b : Addr) (m n : Nat) : Meets (Builtin.«zip.__new__» ⟨[.type "zip", .ref a, .ref b], []⟩) (fun _ R s => s.heap.IsGen a m ∧ s.heap.IsGen b n ∧ R (.ok (.ret (.ref (zg2 s.heap a b).objs.size))) { s with heap := zg3 s.heap a b }) :=
  .of_wp fun prog w A R s h => by
    obtain ⟨hp, gs, dr, tk, os⟩ := s
    obtain ⟨h1, h2, h⟩ := h
    have sub := sub_zip
    have i1 : Heap.IsGen (Shared.heap ⟨hp, gs, dr, tk, os⟩) a m := h1
    have i2 : Heap.IsGen (Shared.heap ⟨hp, gs, dr, tk, os⟩) b n := h2
    wp_walk using wpAny_pyIter_gen i1, wpAny_pyIter_gen i2
    exact ⟨_, rfl, h⟩
theorem call_zipG {prog : Program} {w : World} {A : Around} {E : Value → Shared → Prop} {s : Shared} {a b : Addr} {m n : Nat} {Q : Value → Shared → Prop} (h1 : s.heap.IsGen a m) (h2 : s.heap.IsGen b n)
    (h : ∀ h', h'.get? (s.heap.objs.size + 2) = some (zipO .none false s.heap.objs.size (s.heap.objs.size + 1)) → h'.get? s.heap.objs.size = some (pairO (.ref a) (.ref b)) → h'.get? (s.heap.objs.size + 1) = some (pairO .none .none) → h'.objs.size = s.heap.objs.size + 3 →
      (∀ c o, s.heap.get? c = some o → h'.get? c = some o) → Q (.ref (s.heap.objs.size + 2)) { s with heap := h' }) : wpAny (model prog w) A (call (.type "zip") [.ref a, .ref b]) Q E s := by
  refine callType_new F.called_zip (by decide) (F.typeCall_zip_2 _ _) (F.newCall_zip_2 _ _) (fun obj => F.args_object_init_3 obj _ _) F.entry_zip_new (meets_zipG a b m n) ⟨h1, h2, ?_⟩
  have n1 : (zg1 s.heap a b).objs.size = s.heap.objs.size + 1 := Heap.size_push ..
  have n2 : (zg2 s.heap a b).objs.size = s.heap.objs.size + 2 := by rw [Heap.size_push, n1]
  have n3 : (zg3 s.heap a b).objs.size = s.heap.objs.size + 3 := by rw [Heap.size_push, n2]
  have t3 : (zg3 s.heap a b).get? (zg2 s.heap a b).objs.size = some _ := Heap.get?_push_size _ rfl
  have t2 : (zg3 s.heap a b).get? (zg1 s.heap a b).objs.size = some _ := Heap.get?_push_of_some _ (Heap.get?_push_size _ rfl)
  have t1 : (zg3 s.heap a b).get? s.heap.objs.size = some _ := Heap.get?_push_of_some _ (Heap.get?_push_of_some _ (Heap.get?_push_size _ rfl))
  rw [n2, n1] at t3
  rw [n1] at t2
  show _ ∧ _
  rw [n2]
  exact ⟨⟨_, t3, rfl⟩, h _ t3 t1 t2 n3 fun c o e => Heap.get?_push_of_some _ (Heap.get?_push_of_some _ (Heap.get?_push_of_some _ e))⟩
/-! ### what only the consumer has -/
theorem inv_priv {X : Cx} {pins : List (Addr × Obj)} {σ : L2.St} {H : Hp} {s : Shared} {b : Addr} {h' : Heap} (L : Lst X pins b) (I : Inv X pins σ H s) (h0 : H b = none) (k : ∀ c o, c ≠ b → s.heap.get? c = some o → h'.get? c = some o) : Inv X pins σ H { s with heap := h' } :=
  I.turned (t' := s.toks) k h0 L.loc (.inr L.s0) L.cell L.pin
theorem lst_new {X : Cx} {pins : List (Addr × Obj)} {σ : L2.St} {H : Hp} {s : Shared} {b : Addr} (I : Inv X pins σ H s) (hb : s.heap.objs.size ≤ b) : Lst X pins b where
  nf := fun hm => (List.mem_cons.mp (I.stkSub _ hm)).elim (fun z => Nat.lt_irrefl _ (Nat.lt_of_lt_of_le I.lt (by rw [← z]; exact hb))) (I.nofs hb)
  s0 := Nat.le_trans I.sz hb
  loc := Nat.ne_of_gt (Nat.lt_of_lt_of_le I.lt hb)
  cell := fun x c e => by
    obtain ⟨v, o, ho, _⟩ := I.cell x c e
    exact Nat.ne_of_lt (Nat.lt_of_lt_of_le (Heap.lt_size ho) hb)
  pin := fun p hp => Nat.ne_of_lt (Nat.lt_of_lt_of_le (Heap.lt_size (I.pin p hp).1) hb)
theorem lst_ne {X : Cx} {pins : List (Addr × Obj)} {b : Addr} (L : Lst X pins b) : b ∉ frs X.stack := L.nf
end Gn
/-! Two generators asleep; each of them is asked for its next. -/
namespace Gn
open PySem PySem.Spec PyProof.Rows L2 GenW GrT GrOwn Lw
/-- where a generator's own objects begin -/
structure Lo (X : Cx) (pins : List (Addr × Obj)) (lo : Addr) : Prop where
  c : Csm X pins lo
  fr : ∀ b ∈ frs X.stack, b < lo
structure Two (X : Cx) (A : Around) (Hc : Hp) (lo1 it1 : Addr) (go1 : Obj) (g1 : Nat) (ps1 : List (List Str)) (og1 : List (Nat × GenState)) (ow1 : List (Addr × Obj)) (gs1 : GenState)
    (lo2 it2 : Addr) (go2 : Obj) (g2 : Nat) (ps2 : List (List Str)) (og2 : List (Nat × GenState)) (ow2 : List (Addr × Obj)) (gs2 : GenState) (H : Hp) (s : Shared) : Prop where
  a1 : Asl X A lo1 it1 go1 g1 Hc ps1 og1 ow1 gs1 H s
  a2 : Asl X A lo2 it2 go2 g2 Hc ps2 og2 ow2 gs2 H s
  nn : ∀ q ∈ (g1, gs1) :: og1, ∀ q' ∈ (g2, gs2) :: og2, q.1 ≠ q'.1
  oo : ∀ q ∈ ow1, ∀ q' ∈ ow2, q.1 ≠ q'.1
  c1 : ∀ q ∈ ow1, ∀ v, q.2.data ≠ .cell v
  c2 : ∀ q ∈ ow2, ∀ v, q.2.data ≠ .cell v
section
variable {X : Cx} {pins pk : List (Addr × Obj)} {σ : L2.St} {H : Hp} {s : Shared} {A B : Around} {Hc : Hp} {lo1 it1 : Addr} {go1 : Obj} {g1 : Nat} {ps1 : List (List Str)} {og1 : List (Nat × GenState)} {ow1 : List (Addr × Obj)} {gs1 : GenState}
  {lo2 it2 : Addr} {go2 : Obj} {g2 : Nat} {ps2 : List (List Str)} {og2 : List (Nat × GenState)} {ow2 : List (Addr × Obj)} {gs2 : GenState}
theorem Two.symm (t : Two X A Hc lo1 it1 go1 g1 ps1 og1 ow1 gs1 lo2 it2 go2 g2 ps2 og2 ow2 gs2 H s) : Two X A Hc lo2 it2 go2 g2 ps2 og2 ow2 gs2 lo1 it1 go1 g1 ps1 og1 ow1 gs1 H s :=
  ⟨t.a2, t.a1, fun q hq q' hq' e => t.nn q' hq' q hq e.symm, fun q hq q' hq' e => t.oo q' hq' q hq e.symm, t.c2, t.c1⟩
theorem PkOk.symm {a b : List (Addr × Obj)} (p : PkOk X pk (a ++ b) H s) : PkOk X pk (b ++ a) H s := fun q hq => by
  obtain ⟨z1, z2, z3, z4, z5⟩ := p q hq
  exact ⟨z1, z2, z3, z4, fun q' hq' => z5 q' ((List.mem_append.mp hq').elim (fun h => List.mem_append_right _ h) fun h => List.mem_append_left _ h)⟩
/-- the consumer's own objects change, or new ones come -/
theorem Asl.heap {lo it : Addr} {go : Obj} {g : Nat} {ps : List (List Str)} {og : List (Nat × GenState)} {ow : List (Addr × Obj)} {gs : GenState} {h' : Heap} {tk : Nat} (a : Asl X A lo it go g Hc ps og ow gs H s) (k : ∀ q ∈ ow, h'.get? q.1 = some q.2) : Asl X A lo it go g Hc ps og ow gs H { s with heap := h', toks := tk } :=
  ⟨a.gen, a.ogk, a.obj, fun q hq => ⟨(a.owk q hq).1, k q hq, (a.owk q hq).2.2⟩, a.ext, a.slp⟩
theorem Two.heap {h' : Heap} {tk : Nat} (t : Two X A Hc lo1 it1 go1 g1 ps1 og1 ow1 gs1 lo2 it2 go2 g2 ps2 og2 ow2 gs2 H s) (k : ∀ q ∈ ow1 ++ ow2, h'.get? q.1 = some q.2) : Two X A Hc lo1 it1 go1 g1 ps1 og1 ow1 gs1 lo2 it2 go2 g2 ps2 og2 ow2 gs2 H { s with heap := h', toks := tk } :=
  ⟨t.a1.heap fun q hq => k q (List.mem_append_left _ hq), t.a2.heap fun q hq => k q (List.mem_append_right _ hq), t.nn, t.oo, t.c1, t.c2⟩
theorem Two.at (t : Two X A Hc lo1 it1 go1 g1 ps1 og1 ow1 gs1 lo2 it2 go2 g2 ps2 og2 ow2 gs2 H s) : ∀ q ∈ ow1 ++ ow2, s.heap.get? q.1 = some q.2 := fun q hq =>
  (List.mem_append.mp hq).elim (fun h => (t.a1.owk q h).2.1) fun h => (t.a2.owk q h).2.1
/-- an object of the consumer is set -/
theorem Two.set {b : Addr} {o : Obj} {h' : Heap} (t : Two X A Hc lo1 it1 go1 g1 ps1 og1 ow1 gs1 lo2 it2 go2 g2 ps2 og2 ow2 gs2 H s) (hb : PkOk X pk (ow1 ++ ow2) H s) (hm : (b, o) ∈ pk) (k : ∀ c o, c ≠ b → s.heap.get? c = some o → h'.get? c = some o) :
    Two X A Hc lo1 it1 go1 g1 ps1 og1 ow1 gs1 lo2 it2 go2 g2 ps2 og2 ow2 gs2 H { s with heap := h' } :=
  t.heap (tk := s.toks) fun q hq => k _ _ (fun e => (hb _ hm).2.2.2.2 q hq e.symm) (t.at q hq)
theorem PkOk.set {ow : List (Addr × Obj)} {b : Addr} {o o' : Obj} {h' : Heap} (hb : PkOk X ((b, o) :: pk) ow H s) (nd : ∀ q ∈ pk, q.1 ≠ b) (ho : h'.get? b = some o') (hc : ∀ v, o'.data ≠ .cell v) (k : ∀ c o, c ≠ b → s.heap.get? c = some o → h'.get? c = some o) :
    PkOk X ((b, o') :: pk) ow H { s with heap := h' } := fun q hq => by
  rcases List.mem_cons.mp hq with rfl | hq
  · obtain ⟨_, z2, z3, _, z5⟩ := hb _ List.mem_cons_self
    exact ⟨ho, z2, z3, hc, z5⟩
  · obtain ⟨z1, z2, z3, z4, z5⟩ := hb q (List.mem_cons_of_mem _ hq)
    exact ⟨k _ _ (nd q hq) z1, z2, z3, z4, z5⟩
theorem two_fst (hz : ∀ h : Heap, h.get? it1 = some go1 → h.IsGen it1 g1) (Z : Lo X pins lo1) (Z2 : Lo X pins lo2) (hB : B.handled = none) (hd : B.depth < recursionLimit) (hf : B.frames = some X.stack) (I : Inv X pins σ H s)
    (t : Two X B.in1 Hc lo1 it1 go1 g1 ps1 og1 ow1 gs1 lo2 it2 go2 g2 ps2 og2 ow2 gs2 H s) (hpk : PkOk X pk (ow1 ++ ow2) H s) :
    wpAny (model X.prog X.w) B (Builtin.SmallTypes.nextOf (.ref it1)) (fun v s1 => ∃ p ps' a H1 og' ow' gs', ps1 = p :: ps' ∧ v = .ref a ∧ H a = none ∧ H1 a = some (.tup (p.map V.str)) ∧ Inv X pins σ H1 s1 ∧ Same H H1 ∧ PkOk X pk (ow' ++ ow2) H1 s1 ∧
        Two X B.in1 Hc lo1 it1 go1 g1 ps' og' ow' gs' lo2 it2 go2 g2 ps2 og2 ow2 gs2 H1 s1)
      (fun e s1 => ps1 = [] ∧ ∃ x H1, e = .ref x ∧ (∃ o, s1.heap.get? x = some o ∧ o.cls = .type "StopIteration") ∧ Inv X pins σ H1 s1 ∧ Same H H1 ∧ PkOk X pk [] H1 s1) s := by
  have pk2 : PkOk X (ow2 ++ pk) ow1 H s := fun q hq => by
    rcases List.mem_append.mp hq with h | h
    · obtain ⟨z1, z2, z3⟩ := t.a2.owk q h
      exact ⟨z2, z3, fun hm => absurd (Z2.fr _ hm) (Nat.not_lt_of_le z1), t.c2 q h, fun q' hq' e => t.oo q' hq' q h e.symm⟩
    · obtain ⟨z1, z2, z3, z4, z5⟩ := hpk q h
      exact ⟨z1, z2, z3, z4, fun q' hq' => z5 q' (List.mem_append_left _ hq')⟩
  refine wpAny_mono (asl_nx hz Z.c hB hd hf I t.a1 pk2) (fun v s1 h => ?_) fun e s1 h => ?_
  · obtain ⟨p, ps', a, H1, og', ow', gs', e1, e2, ha, ha1, I1, sm, hp, as, kn, nm, cl⟩ := h
    have b2 : Asl X B.in1 lo2 it2 go2 g2 Hc ps2 og2 ow2 gs2 H1 s1 := t.a2.beside kn (fun q hq => ⟨fun e => t.nn _ List.mem_cons_self q hq e.symm, fun q' hq' e => t.nn q' (List.mem_cons_of_mem _ hq') q hq e⟩) (fun q hq => ⟨(hp q (List.mem_append_left _ hq)).1, (hp q (List.mem_append_left _ hq)).2.1⟩) sm
    have lt2 : ∀ q ∈ (g2, gs2) :: og2, q.1 < s.gens.size := fun q hq => by
      rcases List.mem_cons.mp hq with rfl | hq
      · exact (Array.getElem?_eq_some_iff.mp t.a2.gen).1
      · exact (Array.getElem?_eq_some_iff.mp (t.a2.ogk q hq).2).1
    refine ⟨p, ps', a, H1, og', ow', gs', e1, e2, ha, ha1, I1, sm, fun q hq => ?_, as, b2, fun q hq q' hq' e => ?_, fun q hq q' hq' e => (hp q' (List.mem_append_left _ hq')).2.2.2.2 q hq e.symm, cl, t.c2⟩
    · obtain ⟨z1, z2, z3, z4, z5⟩ := hp q (List.mem_append_right _ hq)
      exact ⟨z1, z2, z3, z4, fun q' hq' => (List.mem_append.mp hq').elim (z5 q') fun h => (hpk q hq).2.2.2.2 q' (List.mem_append_right _ h)⟩
    · rcases List.mem_cons.mp hq with rfl | hq
      · exact t.nn (g1, gs1) List.mem_cons_self q' hq' e
      · rcases nm q hq with ⟨q0, h0, e0⟩ | h
        · exact t.nn q0 (List.mem_cons_of_mem _ h0) q' hq' (e0.trans e)
        · have := lt2 q' hq'
          omega
  · obtain ⟨e1, x, H1, e2, st, I1, sm, hp⟩ := h
    exact ⟨e1, x, H1, e2, st, I1, sm, fun q hq => hp q (List.mem_append_right _ hq)⟩
end
end Gn
/-! A zip of two generators is asked for its next. -/
namespace Gn
open PySem PySem.Spec PyProof.Rows L2 GenW GrT GrOwn Lw
/-- all that stands between two turns -/
structure All3 (X : Cx) (pins : List (Addr × Obj)) (σ : L2.St) (A : Around) (Hc : Hp) (lo1 it1 : Addr) (go1 : Obj) (g1 : Nat) (ps1 : List (List Str)) (og1 : List (Nat × GenState)) (ow1 : List (Addr × Obj)) (gs1 : GenState)
    (lo2 it2 : Addr) (go2 : Obj) (g2 : Nat) (ps2 : List (List Str)) (og2 : List (Nat × GenState)) (ow2 : List (Addr × Obj)) (gs2 : GenState) (pk : List (Addr × Obj)) (H : Hp) (s : Shared) : Prop where
  I : Inv X pins σ H s
  t : Two X A Hc lo1 it1 go1 g1 ps1 og1 ow1 gs1 lo2 it2 go2 g2 ps2 og2 ow2 gs2 H s
  p : PkOk X pk (ow1 ++ ow2) H s
section
variable {X : Cx} {pins pk : List (Addr × Obj)} {σ : L2.St} {H : Hp} {s : Shared} {A B : Around} {Hc : Hp} {lo1 it1 : Addr} {go1 : Obj} {g1 : Nat} {ps1 : List (List Str)} {og1 : List (Nat × GenState)} {ow1 : List (Addr × Obj)} {gs1 : GenState}
  {lo2 it2 : Addr} {go2 : Obj} {g2 : Nat} {ps2 : List (List Str)} {og2 : List (Nat × GenState)} {ow2 : List (Addr × Obj)} {gs2 : GenState}
/-- the first of the consumer's objects is set -/
theorem All3.set {b : Addr} {o o' : Obj} {h' : Heap} (a : All3 X pins σ A Hc lo1 it1 go1 g1 ps1 og1 ow1 gs1 lo2 it2 go2 g2 ps2 og2 ow2 gs2 ((b, o) :: pk) H s) (L : Lst X pins b) (nd : ∀ q ∈ pk, q.1 ≠ b) (ho : h'.get? b = some o') (hc : ∀ v, o'.data ≠ .cell v) (k : Heap.SameBut b s.heap h') :
    All3 X pins σ A Hc lo1 it1 go1 g1 ps1 og1 ow1 gs1 lo2 it2 go2 g2 ps2 og2 ow2 gs2 ((b, o') :: pk) H { s with heap := h' } :=
  have kk : ∀ c o, c ≠ b → s.heap.get? c = some o → h'.get? c = some o := fun c o n e => (k.2 c n).trans e
  ⟨inv_priv L a.I (a.p _ List.mem_cons_self).2.1 kk, a.t.set a.p List.mem_cons_self kk, a.p.set nd ho hc kk⟩
theorem All3.perm {pk' : List (Addr × Obj)} (a : All3 X pins σ A Hc lo1 it1 go1 g1 ps1 og1 ow1 gs1 lo2 it2 go2 g2 ps2 og2 ow2 gs2 pk H s) (h : ∀ q ∈ pk', q ∈ pk) : All3 X pins σ A Hc lo1 it1 go1 g1 ps1 og1 ow1 gs1 lo2 it2 go2 g2 ps2 og2 ow2 gs2 pk' H s :=
  ⟨a.I, a.t, fun q hq => a.p q (h q hq)⟩
theorem Asl.laid {lo it : Addr} {go : Obj} {g : Nat} {ps : List (List Str)} {og : List (Nat × GenState)} {ow : List (Addr × Obj)} {gs : GenState} {x : Obj} {o : HO} {tk : Nat} (a : Asl X A lo it go g Hc ps og ow gs H s) (hn : H s.heap.objs.size = none) :
    Asl X A lo it go g Hc ps og ow gs (upd H s.heap.objs.size o) { s with heap := s.heap.push x, toks := tk } :=
  ⟨a.gen, a.ogk, a.obj, fun q hq => ⟨(a.owk q hq).1, Heap.get?_push_of_some _ (a.owk q hq).2.1, by
    rw [upd_ne (Nat.ne_of_lt (Heap.lt_size (a.owk q hq).2.1))]
    exact (a.owk q hq).2.2⟩, fun b u z => by
    rw [upd_ne (ne_of_none (a.ext _ _ z) hn)]
    exact a.ext _ _ z, a.slp⟩
/-- a new pair -/
theorem All3.pair {u v : Value} {x y : V} (a : All3 X pins σ A Hc lo1 it1 go1 g1 ps1 og1 ow1 gs1 lo2 it2 go2 g2 ps2 og2 ow2 gs2 pk H s) (hu : RelV x u) (hv : RelV y v) :
    All3 X pins σ A Hc lo1 it1 go1 g1 ps1 og1 ow1 gs1 lo2 it2 go2 g2 ps2 og2 ow2 gs2 pk (upd H s.heap.objs.size (.tup [x, y])) { s with heap := s.heap.push (pairO u v) } := by
  have hn : H s.heap.objs.size = none := a.I.hok.fresh (Nat.le_refl _)
  have two : 2 ≤ sizeLine := by decide
  refine ⟨a.I.laid (t' := s.toks) (fun b o e => Heap.get?_push_of_some _ e) (Nat.le_refl _) ⟨two, [u, v], .cons hu (.cons hv .nil), ⟨_, Heap.get?_push_size _ rfl, rfl, _, rfl⟩⟩, ⟨a.t.a1.laid (tk := s.toks) hn, a.t.a2.laid (tk := s.toks) hn, a.t.nn, a.t.oo, a.t.c1, a.t.c2⟩, fun q hq => ?_⟩
  obtain ⟨z1, z2, z3, z4, z5⟩ := a.p q hq
  exact ⟨Heap.get?_push_of_some _ z1, by rw [upd_ne (Nat.ne_of_lt (Heap.lt_size z1))]; exact z2, z3, z4, z5⟩
/-- what a turn of the zip at y gives -/
def ZTurn (X : Cx) (pins : List (Addr × Obj)) (σ : L2.St) (A : Around) (Hc : Hp) (lo1 it1 : Addr) (go1 : Obj) (g1 : Nat) (ps1 : List (List Str)) (lo2 it2 : Addr) (go2 : Obj) (g2 : Nat) (ps2 : List (List Str)) (y ti to : Addr) (pk : List (Addr × Obj)) (H : Hp) (u : Option Value) (s1 : Shared) : Prop :=
  (∃ p1 r1 p2 r2 a b T T0 H1 f1 v0 v1 og1 ow1 gs1 og2 ow2 gs2, ps1 = p1 :: r1 ∧ ps2 = p2 :: r2 ∧ u = some (.ref T) ∧ H1 T = some (.tup [.ref a, .ref b]) ∧ H1 a = some (.tup (p1.map V.str)) ∧ H1 b = some (.tup (p2.map V.str)) ∧ Same H H1 ∧ H1 T0 ≠ none ∧
    All3 X pins σ A Hc lo1 it1 go1 g1 r1 og1 ow1 gs1 lo2 it2 go2 g2 r2 og2 ow2 gs2 ((y, zipO (rawInt (T0 : Nat)) f1 ti to) :: (ti, pairO (.ref it1) (.ref it2)) :: (to, pairO v0 v1) :: pk) H1 s1) ∨
  ((ps1 = [] ∨ ps2 = []) ∧ u = none ∧ ∃ H1, Inv X pins σ H1 s1 ∧ Same H H1 ∧ PkOk X pk [] H1 s1)
theorem All3.symm (a : All3 X pins σ A Hc lo1 it1 go1 g1 ps1 og1 ow1 gs1 lo2 it2 go2 g2 ps2 og2 ow2 gs2 pk H s) : All3 X pins σ A Hc lo2 it2 go2 g2 ps2 og2 ow2 gs2 lo1 it1 go1 g1 ps1 og1 ow1 gs1 pk H s := ⟨a.I, a.t.symm, a.p.symm⟩
/-- the first generator is asked -/
theorem all_fst (hz : ∀ h : Heap, h.get? it1 = some go1 → h.IsGen it1 g1) (Z : Lo X pins lo1) (Z2 : Lo X pins lo2) (hB : B.handled = none) (hd : B.depth < recursionLimit) (hf : B.frames = some X.stack)
    (a : All3 X pins σ B.in1 Hc lo1 it1 go1 g1 ps1 og1 ow1 gs1 lo2 it2 go2 g2 ps2 og2 ow2 gs2 pk H s) :
    wpAny (model X.prog X.w) B (Builtin.SmallTypes.nextOf (.ref it1)) (fun v s1 => ∃ p ps' a H1 og' ow' gs', ps1 = p :: ps' ∧ v = .ref a ∧ H1 a = some (.tup (p.map V.str)) ∧ Same H H1 ∧ All3 X pins σ B.in1 Hc lo1 it1 go1 g1 ps' og' ow' gs' lo2 it2 go2 g2 ps2 og2 ow2 gs2 pk H1 s1)
      (fun e s1 => ps1 = [] ∧ ∃ x H1, e = .ref x ∧ (∃ o, s1.heap.get? x = some o ∧ o.cls = .type "StopIteration") ∧ Inv X pins σ H1 s1 ∧ Same H H1 ∧ PkOk X pk [] H1 s1) s :=
  wpAny_mono (two_fst hz Z Z2 hB hd hf a.I a.t a.p) (fun v s1 h => by
    obtain ⟨p, ps', b, H1, og', ow', gs', e1, e2, _, hb, I1, sm, hp, t1⟩ := h
    exact ⟨p, ps', b, H1, og', ow', gs', e1, e2, hb, sm, I1, t1, hp⟩) fun e s1 h => h
end
end Gn
/-! A turn of a zip of two generators. -/
namespace Gn
open PySem PySem.Spec PyProof.Rows L2 GenW GrT GrOwn Lw
theorem wpAny_alive {M : Model} {A : Around} {E : Value → Shared → Prop} {s : Shared} {a : Addr} {Q : Option Obj → Shared → Prop} (h : Q (s.heap.get? a) s) : wpAny M A (loadIfAlive a) Q E s := fun Γ p hΓ => by
  show Sem.wp M Γ (.loadIfAlive a .pure) _ _ p s
  rw [Sem.wp_loadIfAlive]
  exact h
section
variable {X : Cx} {pins pk : List (Addr × Obj)} {σ : L2.St} {H : Hp} {s : Shared} {A B : Around} {Hc : Hp} {lo1 it1 : Addr} {go1 : Obj} {g1 : Nat} {ps1 : List (List Str)} {og1 : List (Nat × GenState)} {ow1 : List (Addr × Obj)} {gs1 : GenState}
  {lo2 it2 : Addr} {go2 : Obj} {g2 : Nat} {ps2 : List (List Str)} {og2 : List (Nat × GenState)} {ow2 : List (Addr × Obj)} {gs2 : GenState} {y ti to : Addr} {v0 v1 : Value}
/-- the consumer's objects of a zip -/
structure Zo (X : Cx) (pins : List (Addr × Obj)) (y ti to : Addr) (pk : List (Addr × Obj)) : Prop where
  Ly : Lst X pins y
  Lto : Lst X pins to
  yti : ti ≠ y
  yto : to ≠ y
  tt : ti ≠ to
  npk : ∀ q ∈ pk, q.1 ≠ y ∧ q.1 ≠ to
theorem nocell (o : Obj) (h : ∃ vs, o.data = .fields vs) : ∀ v, o.data ≠ .cell v := fun v e => by
  obtain ⟨vs, h⟩ := h
  rw [h] at e
  cases e
theorem nocellS (o : Obj) (h : ∃ vs n, o.data = .seq vs n) : ∀ v, o.data ≠ .cell v := fun v e => by
  obtain ⟨vs, n, h⟩ := h
  rw [h] at e
  cases e
/-- a stop comes through the zip -/
theorem zip_stop {x : Addr} {H1 : Hp} {s1 : Shared} {f0 w0 w1 : Value} {f1 : Bool} {E : Value → Shared → Prop} (O : Zo X pins y ti to pk) (he : ps1 = [] ∨ ps2 = []) (hx : ∃ o, s1.heap.get? x = some o ∧ o.cls = .type "StopIteration") (I1 : Inv X pins σ H1 s1) (sm : Same H H1)
    (hp : PkOk X ((y, zipO f0 f1 ti to) :: (ti, pairO (.ref it1) (.ref it2)) :: (to, pairO w0 w1) :: pk) [] H1 s1) :
    wpAny (model X.prog X.w) B.in1 (setField (.ref y) 0 .none) (fun _ s2 => wpAny (model X.prog X.w) B (isInstance (.ref x) (.type "StopIteration") >>= fun b => if b = true then pure none else throw (.ref x)) (ZTurn X pins σ A Hc lo1 it1 go1 g1 ps1 lo2 it2 go2 g2 ps2 y ti to pk H) NoE s2) E s1 := by
  obtain ⟨o, ho, hc⟩ := hx
  have hy2 := (hp _ List.mem_cons_self).1
  refine wpAny_setField_rec hy2 (by simp) fun h₂ _ sb₂ => ?_
  have nx : x ≠ y := fun e => by
    rw [e, hy2] at ho
    have e2 := Option.some.inj ho
    rw [← e2] at hc
    exact absurd (Value.type.inj hc) (by decide)
  refine wpAny_bind (wpAny_isInstance (v := .ref x) (T := "StopIteration") (b := true) ⟨o, (sb₂.2 _ nx).trans ho, hc⟩ isSubtype_stop ?_)
  have kk : ∀ c u, c ≠ y → s1.heap.get? c = some u → h₂.get? c = some u := fun c u n e => (sb₂.2 c n).trans e
  refine wpAny_pure (.inr ⟨he, rfl, H1, inv_priv O.Ly I1 (hp _ List.mem_cons_self).2.1 kk, sm, fun q hq => ?_⟩)
  obtain ⟨z1, z2, z3, z4, z5⟩ := hp q (List.mem_cons_of_mem _ (List.mem_cons_of_mem _ (List.mem_cons_of_mem _ hq)))
  exact ⟨kk _ _ (O.npk q hq).1 z1, z2, z3, z4, z5⟩
/-- .. not having set it -/
theorem zip_stop' {x : Addr} {H1 : Hp} {s1 : Shared} {f0 w0 w1 : Value} {f1 : Bool} (he : ps1 = [] ∨ ps2 = []) (hx : ∃ o, s1.heap.get? x = some o ∧ o.cls = .type "StopIteration") (I1 : Inv X pins σ H1 s1) (sm : Same H H1)
    (hp : PkOk X ((y, zipO f0 f1 ti to) :: (ti, pairO (.ref it1) (.ref it2)) :: (to, pairO w0 w1) :: pk) [] H1 s1) :
    wpAny (model X.prog X.w) B (isInstance (.ref x) (.type "StopIteration") >>= fun b => if b = true then pure none else throw (.ref x)) (ZTurn X pins σ A Hc lo1 it1 go1 g1 ps1 lo2 it2 go2 g2 ps2 y ti to pk H) NoE s1 := by
  obtain ⟨o, ho, hc⟩ := hx
  refine wpAny_bind (wpAny_isInstance (v := .ref x) (T := "StopIteration") (b := true) ⟨o, ho, hc⟩ isSubtype_stop ?_)
  exact wpAny_pure (.inr ⟨he, rfl, H1, I1, sm, fun q hq => hp q (List.mem_cons_of_mem _ (List.mem_cons_of_mem _ (List.mem_cons_of_mem _ hq)))⟩)
/-- the owned tuple is free -/
theorem zip_first (hz1 : ∀ h : Heap, h.get? it1 = some go1 → h.IsGen it1 g1) (hz2 : ∀ h : Heap, h.get? it2 = some go2 → h.IsGen it2 g2) (Z1 : Lo X pins lo1) (Z2 : Lo X pins lo2) (hB : B.handled = none) (hd : B.in1.depth < recursionLimit) (hf : B.frames = some X.stack) (O : Zo X pins y ti to pk)
    (a : All3 X pins σ B.in1.in1 Hc lo1 it1 go1 g1 ps1 og1 ow1 gs1 lo2 it2 go2 g2 ps2 og2 ow2 gs2 ((y, zipO .none false ti to) :: (ti, pairO (.ref it1) (.ref it2)) :: (to, pairO v0 v1) :: pk) H s) :
    wpAny (model X.prog X.w) B (pyNext (.ref y)) (ZTurn X pins σ B.in1.in1 Hc lo1 it1 go1 g1 ps1 lo2 it2 go2 g2 ps2 y ti to pk H) NoE s := by
  have hy : s.heap.get? y = some (zipO .none false ti to) := (a.p _ List.mem_cons_self).1
  have hT : s.TypeIs (.ref y) "zip" := ⟨_, hy, rfl⟩
  unfold pyNext
  refine wpAny_bind (wpAny_attempt (wpAny_callSpecial?_slot (name := Str.ofString "__next__") hT F.slot_zip_next (wpAny_call_entry F.slot_zip_next hT F.entry_zip_next ?_ (F.args_zip_next_1 _))))
  show wpAny _ B.in1 (field (.ref y) 2 >>= _) _ _ s
  refine wpAny_bind (wpAny_field hy rfl (x := .bool false) rfl ?_)
  show wpAny _ B.in1 (field (.ref y) 3 >>= _) _ _ s
  refine wpAny_bind (wpAny_field hy rfl (x := .ref ti) rfl ?_)
  have hti : s.heap.get? ti = some (pairO (.ref it1) (.ref it2)) := (a.p _ (List.mem_cons_of_mem _ List.mem_cons_self)).1
  refine wpAny_bind (wpAny_seqItems hti rfl ?_)
  show wpAny _ B.in1 (Builtin.SmallTypes.ownedTupleIsFree (.ref y) >>= _) _ _ s
  refine wpAny_bind ?_
  unfold Builtin.SmallTypes.ownedTupleIsFree
  refine wpAny_bind (wpAny_field hy rfl (x := .none) rfl (wpAny_pure ?_))
  simp only [if_true]
  refine wpAny_bind (wpAny_rule ?_)
  refine wpAny_bind (wpAny_field hy rfl (x := .ref to) rfl ?_)
  refine wpAny_bind (wpAny_setField_rec hy (by simp) fun h₁ hy₁ sb₁ => ?_)
  have nd3 : ∀ q ∈ (ti, pairO (.ref it1) (.ref it2)) :: (to, pairO v0 v1) :: pk, q.1 ≠ y := fun q hq => by
    rcases List.mem_cons.mp hq with rfl | hq
    · exact O.yti
    · rcases List.mem_cons.mp hq with rfl | hq
      · exact O.yto
      · exact (O.npk q hq).1
  have a1 := a.set (o' := zipO .ellipsis false ti to) O.Ly nd3 hy₁ (nocell _ ⟨_, rfl⟩) sb₁
  refine wpAny_bind ?_
  simp only [List.forIn_cons, List.forIn_nil, List.zipIdx_nil, List.zipIdx_cons]
  refine wpAny_bind (wpAny_bind (wpAny_onRaise ?_))
  show wpAny _ B.in1 (Builtin.SmallTypes.nextOf (.ref it1) >>= _) _ _ _
  refine wpAny_bind (wpAny_mono (all_fst hz1 Z1 Z2 hB hd hf a1) (fun v s1 h => wpAny_pure ?_) fun e s1 h => ?_)
  · obtain ⟨p1, r1, b1, H1, og', ow', gs', e1, rfl, hb1, sm1, a2⟩ := h
    have ht1 : s1.heap.get? to = some (pairO v0 v1) := (a2.p (to, pairO v0 v1) (by simp)).1
    refine wpAny_bind (wpAny_seqItems ht1 rfl ?_)
    refine wpAny_bind (wpAny_updateSeq_pair ht1 fun h₂ ht2 sb₂ => ?_)
    replace ht2 : h₂.get? to = some (pairO (.ref b1) v1) := ht2
    have ndt : ∀ {f0 : Value} {f1 : Bool}, ∀ q ∈ (y, zipO f0 f1 ti to) :: (ti, pairO (.ref it1) (.ref it2)) :: pk, q.1 ≠ to := fun {f0 f1} q hq => by
      rcases List.mem_cons.mp hq with rfl | hq
      · exact O.yto.symm
      · rcases List.mem_cons.mp hq with rfl | hq
        · exact O.tt
        · exact (O.npk q hq).2
    have back : ∀ {f0 w0 w1 : Value} {f1 : Bool} (q : Addr × Obj), q ∈ (to, pairO w0 w1) :: (y, zipO f0 f1 ti to) :: (ti, pairO (.ref it1) (.ref it2)) :: pk → q ∈ (y, zipO f0 f1 ti to) :: (ti, pairO (.ref it1) (.ref it2)) :: (to, pairO w0 w1) :: pk := fun {f0 w0 w1 f1} q hq => by
      simp only [List.mem_cons] at hq ⊢
      rcases hq with h | h | h | h <;> simp [h]
    have forth : ∀ {f0 w0 w1 : Value} {f1 : Bool} (q : Addr × Obj), q ∈ (y, zipO f0 f1 ti to) :: (ti, pairO (.ref it1) (.ref it2)) :: (to, pairO w0 w1) :: pk → q ∈ (to, pairO w0 w1) :: (y, zipO f0 f1 ti to) :: (ti, pairO (.ref it1) (.ref it2)) :: pk := fun {f0 w0 w1 f1} q hq => by
      simp only [List.mem_cons] at hq ⊢
      rcases hq with h | h | h | h <;> simp [h]
    have a3 := ((a2.perm back).set O.Lto ndt ht2 (nocellS _ ⟨_, _, rfl⟩) sb₂).perm forth
    refine wpAny_bind (wpAny_letGo (wpAny_pure ?_))
    refine wpAny_bind (wpAny_bind (wpAny_onRaise ?_))
    show wpAny _ B.in1 (Builtin.SmallTypes.nextOf (.ref it2) >>= _) _ _ _
    refine wpAny_bind (wpAny_mono (all_fst hz2 Z2 Z1 hB hd hf a3.symm) (fun v s3 h3 => wpAny_pure ?_) fun e s3 h3 => ?_)
    · obtain ⟨p2, r2, b2, H2, og3, ow3, gs3, e2, rfl, hb2, sm2, a4⟩ := h3
      have a4 := a4.symm
      have ht3 : s3.heap.get? to = some (pairO (.ref b1) v1) := (a4.p (to, pairO (.ref b1) v1) (by simp)).1
      refine wpAny_bind (wpAny_seqItems ht3 rfl ?_)
      refine wpAny_bind (wpAny_updateSeq_pair ht3 fun h₄ ht4 sb₄ => ?_)
      replace ht4 : h₄.get? to = some (pairO (.ref b1) (.ref b2)) := ht4
      have a5 := ((a4.perm back).set O.Lto ndt ht4 (nocellS _ ⟨_, _, rfl⟩) sb₄).perm forth
      refine wpAny_bind (wpAny_letGo (wpAny_pure (wpAny_pure ?_)))
      generalize ({ s3 with heap := h₄ } : Shared) = s5 at a5 ⊢
      have ht5 : s5.heap.get? to = some (pairO (.ref b1) (.ref b2)) := (a5.p (to, pairO (.ref b1) (.ref b2)) (by simp)).1
      refine wpAny_bind (wpAny_seqItems ht5 rfl ?_)
      refine wpAny_bind (wpAny_newTuple ?_)
      have a6 := a5.pair (x := .ref b1) (y := .ref b2) rfl rfl
      show wpAny _ B.in1 (Builtin.SmallTypes.ownedTupleHandOut (.ref y) (.ref s5.heap.objs.size) >>= _) _ _ _
      refine wpAny_bind ?_
      unfold Builtin.SmallTypes.ownedTupleHandOut
      have hT : (upd H2 s5.heap.objs.size (.tup [.ref b1, .ref b2])) s5.heap.objs.size = some (.tup [.ref b1, .ref b2]) := upd_same
      have hn : H2 s5.heap.objs.size = none := a5.I.hok.fresh (Nat.le_refl _)
      have sm3 : Same H2 (upd H2 s5.heap.objs.size (.tup [.ref b1, .ref b2])) := fun c o e => by
        rw [upd_ne (ne_of_none e hn)]
        exact e
      have hy6 := (a6.p _ List.mem_cons_self).1
      refine wpAny_bind (wpAny_setField_rec hy6 (by simp) fun h₇ hy₇ sb₇ => ?_)
      replace hy₇ : h₇.get? y = some (zipO (rawInt s5.heap.objs.size) false ti to) := hy₇
      have nd4 : ∀ q ∈ (ti, pairO (.ref it1) (.ref it2)) :: (to, pairO (.ref b1) (.ref b2)) :: pk, q.1 ≠ y := fun q hq => by
        rcases List.mem_cons.mp hq with rfl | hq
        · exact O.yti
        · rcases List.mem_cons.mp hq with rfl | hq
          · exact O.yto
          · exact (O.npk q hq).1
      have a7 := a6.set (o' := zipO (rawInt s5.heap.objs.size) false ti to) O.Ly nd4 hy₇ (nocell _ ⟨_, rfl⟩) sb₇
      refine wpAny_setField_rec hy₇ (by simp) fun h₈ hy₈ sb₈ => ?_
      replace hy₈ : h₈.get? y = some (zipO (rawInt s5.heap.objs.size) false ti to) := hy₈
      have a8 := a7.set (o' := zipO (rawInt s5.heap.objs.size) false ti to) O.Ly nd4 hy₈ (nocell _ ⟨_, rfl⟩) sb₈
      exact wpAny_pure ⟨_, rfl, wpAny_pure (.inl ⟨p1, r1, p2, r2, b1, b2, s5.heap.objs.size, s5.heap.objs.size, _, false, _, _, _, _, _, _, _, _, e1, e2, rfl, hT, sm3 _ _ (sm2 _ _ hb1), sm3 _ _ hb2, fun c o e => sm3 _ _ (sm2 _ _ (sm1 _ _ e)), (by rw [hT]; exact Option.some_ne_none _), a8⟩)⟩
    · obtain ⟨e2, x, H2, rfl, hx, I2, sm2, hp⟩ := h3
      exact zip_stop O (.inr e2) hx I2 (fun c o e => sm2 _ _ (sm1 _ _ e)) hp
  · obtain ⟨e1, x, H1, rfl, hx, I1, sm, hp⟩ := h
    exact zip_stop O (.inl e1) hx I1 sm hp
/-- the tuple handed out last is still there -/
theorem owned_no {T0 : Nat} {f1 : Bool} (hT0 : H T0 ≠ none) (O : Zo X pins y ti to pk)
    (a : All3 X pins σ A Hc lo1 it1 go1 g1 ps1 og1 ow1 gs1 lo2 it2 go2 g2 ps2 og2 ow2 gs2 ((y, zipO (rawInt (T0 : Nat)) f1 ti to) :: (ti, pairO (.ref it1) (.ref it2)) :: (to, pairO v0 v1) :: pk) H s) :
    wpAny (model X.prog X.w) B (Builtin.SmallTypes.ownedTupleIsFree (.ref y)) (fun b s' => b = false ∧ ∃ f1, All3 X pins σ A Hc lo1 it1 go1 g1 ps1 og1 ow1 gs1 lo2 it2 go2 g2 ps2 og2 ow2 gs2 ((y, zipO (rawInt (T0 : Nat)) f1 ti to) :: (ti, pairO (.ref it1) (.ref it2)) :: (to, pairO v0 v1) :: pk) H s') NoE s := by
  have hy : s.heap.get? y = some (zipO (rawInt (T0 : Nat)) f1 ti to) := (a.p _ List.mem_cons_self).1
  have nd3 : ∀ q ∈ (ti, pairO (.ref it1) (.ref it2)) :: (to, pairO v0 v1) :: pk, q.1 ≠ y := fun q hq => by
    rcases List.mem_cons.mp hq with rfl | hq
    · exact O.yti
    · rcases List.mem_cons.mp hq with rfl | hq
      · exact O.yto
      · exact (O.npk q hq).1
  obtain ⟨o, ho⟩ : ∃ o, s.heap.get? T0 = some o := by
    cases e : H T0 with
    | none => exact absurd e hT0
    | some u => exact objOk_there (a.I.hok T0 u e)
  unfold Builtin.SmallTypes.ownedTupleIsFree
  refine wpAny_bind (wpAny_field hy rfl (x := rawInt (T0 : Nat)) rfl ?_)
  show wpAny _ B (loadIfAlive ((T0 : Nat) : Int).toNat >>= _) _ _ s
  rw [Int.toNat_natCast]
  refine wpAny_bind (wpAny_alive ?_)
  rw [ho]
  show wpAny _ B (field (.ref y) 1 >>= _) _ _ s
  refine wpAny_bind (wpAny_field hy rfl (x := .bool f1) rfl ?_)
  cases f1 with
  | true => exact wpAny_pure ⟨rfl, true, a⟩
  | false =>
    show wpAny _ B (setField (.ref y) 1 (.bool true) >>= _) _ _ s
    refine wpAny_bind (wpAny_setField_rec hy (by simp) fun h₁ hy₁ sb₁ => ?_)
    exact wpAny_pure ⟨rfl, true, a.set (o' := zipO (rawInt (T0 : Nat)) true ti to) O.Ly nd3 hy₁ (nocell _ ⟨_, rfl⟩) sb₁⟩
theorem zip_later {T0 : Nat} {f1 : Bool} (hT0 : H T0 ≠ none) (hz1 : ∀ h : Heap, h.get? it1 = some go1 → h.IsGen it1 g1) (hz2 : ∀ h : Heap, h.get? it2 = some go2 → h.IsGen it2 g2) (Z1 : Lo X pins lo1) (Z2 : Lo X pins lo2) (hB : B.handled = none) (hd : B.in1.depth < recursionLimit) (hf : B.frames = some X.stack) (O : Zo X pins y ti to pk)
    (a : All3 X pins σ B.in1.in1 Hc lo1 it1 go1 g1 ps1 og1 ow1 gs1 lo2 it2 go2 g2 ps2 og2 ow2 gs2 ((y, zipO (rawInt (T0 : Nat)) f1 ti to) :: (ti, pairO (.ref it1) (.ref it2)) :: (to, pairO v0 v1) :: pk) H s) :
    wpAny (model X.prog X.w) B (pyNext (.ref y)) (ZTurn X pins σ B.in1.in1 Hc lo1 it1 go1 g1 ps1 lo2 it2 go2 g2 ps2 y ti to pk H) NoE s := by
  have hy : s.heap.get? y = some (zipO (rawInt (T0 : Nat)) f1 ti to) := (a.p _ List.mem_cons_self).1
  have hT : s.TypeIs (.ref y) "zip" := ⟨_, hy, rfl⟩
  unfold pyNext
  refine wpAny_bind (wpAny_attempt (wpAny_callSpecial?_slot (name := Str.ofString "__next__") hT F.slot_zip_next (wpAny_call_entry F.slot_zip_next hT F.entry_zip_next ?_ (F.args_zip_next_1 _))))
  show wpAny _ B.in1 (field (.ref y) 2 >>= _) _ _ s
  refine wpAny_bind (wpAny_field hy rfl (x := .bool false) rfl ?_)
  show wpAny _ B.in1 (field (.ref y) 3 >>= _) _ _ s
  refine wpAny_bind (wpAny_field hy rfl (x := .ref ti) rfl ?_)
  have hti : s.heap.get? ti = some (pairO (.ref it1) (.ref it2)) := (a.p _ (List.mem_cons_of_mem _ List.mem_cons_self)).1
  refine wpAny_bind (wpAny_seqItems hti rfl ?_)
  show wpAny _ B.in1 (Builtin.SmallTypes.ownedTupleIsFree (.ref y) >>= _) _ _ s
  refine wpAny_bind (wpAny_mono (owned_no hT0 O a) (fun b s' h => ?_) fun _ _ z => z.elim)
  obtain ⟨rfl, f1, a1⟩ := h
  show wpAny _ B.in1 (forIn (#[Value.ref it1, Value.ref it2] : Array Value) _ _ >>= _) _ _ s'
  refine wpAny_bind ?_
  rw [← Array.forIn_toList]
  simp only [List.forIn_cons, List.forIn_nil]
  refine wpAny_bind (wpAny_bind (wpAny_holding ?_))
  show wpAny _ B.in1 (Builtin.SmallTypes.nextOf (.ref it1) >>= _) _ _ _
  refine wpAny_bind (wpAny_mono (all_fst hz1 Z1 Z2 hB hd hf a1) (fun v s1 h => wpAny_pure ?_) fun e s1 h => ?_)
  · obtain ⟨p1, r1, b1, H1, og', ow', gs', e1, rfl, hb1, sm1, a2⟩ := h
    refine wpAny_pure ?_
    refine wpAny_bind (wpAny_bind (wpAny_holding ?_))
    show wpAny _ B.in1 (Builtin.SmallTypes.nextOf (.ref it2) >>= _) _ _ _
    refine wpAny_bind (wpAny_mono (all_fst hz2 Z2 Z1 hB hd hf a2.symm) (fun v s3 h3 => wpAny_pure ?_) fun e s3 h3 => ?_)
    · obtain ⟨p2, r2, b2, H2, og3, ow3, gs3, e2, rfl, hb2, sm2, a4⟩ := h3
      have a4 := a4.symm
      refine wpAny_pure (wpAny_pure ?_)
      refine wpAny_bind (wpAny_newTuple ?_ (by show 2 ≤ sizeLine; decide))
      have a6 := a4.pair (x := .ref b1) (y := .ref b2) rfl rfl
      have hT : (upd H2 s3.heap.objs.size (.tup [.ref b1, .ref b2])) s3.heap.objs.size = some (.tup [.ref b1, .ref b2]) := upd_same
      have hn : H2 s3.heap.objs.size = none := a4.I.hok.fresh (Nat.le_refl _)
      have sm3 : Same H2 (upd H2 s3.heap.objs.size (.tup [.ref b1, .ref b2])) := fun c o e => by
        rw [upd_ne (ne_of_none e hn)]
        exact e
      have hT1 : (upd H2 s3.heap.objs.size (.tup [.ref b1, .ref b2])) T0 ≠ none := by
        cases e : H T0 with
        | none => exact absurd e hT0
        | some u =>
          rw [sm3 _ _ (sm2 _ _ (sm1 _ _ e))]
          exact Option.some_ne_none _
      exact wpAny_pure ⟨_, rfl, wpAny_pure (.inl ⟨p1, r1, p2, r2, b1, b2, s3.heap.objs.size, T0, _, f1, _, _, _, _, _, _, _, _, e1, e2, rfl, hT, sm3 _ _ (sm2 _ _ hb1), sm3 _ _ hb2, fun c o e => sm3 _ _ (sm2 _ _ (sm1 _ _ e)), hT1, a6⟩)⟩
    · obtain ⟨e2, x, H2, rfl, hx, I2, sm2, hp⟩ := h3
      exact zip_stop' (.inr e2) hx I2 (fun c o e => sm2 _ _ (sm1 _ _ e)) hp
  · obtain ⟨e1, x, H1, rfl, hx, I1, sm, hp⟩ := h
    exact zip_stop' (.inl e1) hx I1 sm hp
end
end Gn
/-! list(zip(r.paths(), s.paths())): the loop. -/
namespace Gn
open PySem PySem.Spec PyProof.Rows L2 GenW GrT GrOwn Lw
/-- pairs of paths that were handed out -/
def Outs2 (H : Hp) : List V → List (List Str × List Str) → Prop := Paired fun v p => ∃ T a b, v = .ref T ∧ H T = some (.tup [.ref a, .ref b]) ∧ H a = some (.tup (p.1.map V.str)) ∧ H b = some (.tup (p.2.map V.str))
theorem Outs2.same {H H' : Hp} (sm : Same H H') : ∀ {vs : List V} {ps : List (List Str × List Str)}, Outs2 H vs ps → Outs2 H' vs ps
  | _, _, .nil => .nil
  | _, _, .cons ⟨T, a, b, e, h1, h2, h3⟩ r => .cons ⟨T, a, b, e, sm _ _ h1, sm _ _ h2, sm _ _ h3⟩ (Outs2.same sm r)
section
variable {X : Cx} {pins pk : List (Addr × Obj)} {σ : L2.St} {H : Hp} {s : Shared} {A B : Around} {Hc : Hp} {lo1 it1 : Addr} {go1 : Obj} {g1 : Nat} {ps1 : List (List Str)} {og1 : List (Nat × GenState)} {ow1 : List (Addr × Obj)} {gs1 : GenState}
  {lo2 it2 : Addr} {go2 : Obj} {g2 : Nat} {ps2 : List (List Str)} {og2 : List (Nat × GenState)} {ow2 : List (Addr × Obj)} {gs2 : GenState} {y ti to : Addr} {v0 v1 : Value}
/-- where the owned tuple is -/
def Fz (H : Hp) (f0 : Value) (f1 : Bool) : Prop := (f0 = .none ∧ f1 = false) ∨ ∃ T0 : Nat, f0 = rawInt T0 ∧ H T0 ≠ none
theorem zip_turn {f0 : Value} {f1 : Bool} (hF : Fz H f0 f1) (hz1 : ∀ h : Heap, h.get? it1 = some go1 → h.IsGen it1 g1) (hz2 : ∀ h : Heap, h.get? it2 = some go2 → h.IsGen it2 g2) (Z1 : Lo X pins lo1) (Z2 : Lo X pins lo2) (hB : B.handled = none) (hd : B.in1.depth < recursionLimit) (hf : B.frames = some X.stack) (O : Zo X pins y ti to pk)
    (a : All3 X pins σ B.in1.in1 Hc lo1 it1 go1 g1 ps1 og1 ow1 gs1 lo2 it2 go2 g2 ps2 og2 ow2 gs2 ((y, zipO f0 f1 ti to) :: (ti, pairO (.ref it1) (.ref it2)) :: (to, pairO v0 v1) :: pk) H s) :
    wpAny (model X.prog X.w) B (pyNext (.ref y)) (ZTurn X pins σ B.in1.in1 Hc lo1 it1 go1 g1 ps1 lo2 it2 go2 g2 ps2 y ti to pk H) NoE s := by
  rcases hF with ⟨rfl, rfl⟩ | ⟨T0, rfl, h⟩
  · exact zip_first hz1 hz2 Z1 Z2 hB hd hf O a
  · exact zip_later h hz1 hz2 Z1 Z2 hB hd hf O a
theorem drain_z {S : Addr} {R : Result → Shared → Prop} {res : Value} (hz1 : ∀ h : Heap, h.get? it1 = some go1 → h.IsGen it1 g1) (hz2 : ∀ h : Heap, h.get? it2 = some go2 → h.IsGen it2 g2) (Z1 : Lo X pins lo1) (Z2 : Lo X pins lo2) (hB : A.handled = none) (hd : A.in1.in1.depth < recursionLimit) (hf : A.in1.frames = some X.stack)
    (L : Lst X pins S) (Ly : Lst X pins y) (Lt : Lst X pins to) (yti : ti ≠ y) (yto : to ≠ y) (tt : ti ≠ to) (Sy : S ≠ y) (Sti : S ≠ ti) (Sto : S ≠ to) :
    ∀ (n : Nat) (ps1 ps2 : List (List Str)), ps1.length ≤ n → ∀ (og1 : List (Nat × GenState)) (ow1 : List (Addr × Obj)) (gs1 : GenState) (og2 : List (Nat × GenState)) (ow2 : List (Addr × Obj)) (gs2 : GenState) (f0 v0 v1 : Value) (f1 : Bool) (ys : List V) (acc : Array Value) (c : Nat) (H : Hp) (s : Shared), Fz H f0 f1 →
      All3 X pins σ A.in1.in1.in1 Hc lo1 it1 go1 g1 ps1 og1 ow1 gs1 lo2 it2 go2 g2 ps2 og2 ow2 gs2 ((y, zipO f0 f1 ti to) :: (ti, pairO (.ref it1) (.ref it2)) :: (to, pairO v0 v1) :: [(S, lstObj acc c)]) H s →
      Vals ys acc.toList → ys.length + n ≤ 100000 →
      (∀ ts H' s' acc' c', Inv X pins σ H' s' → Same H H' → H' S = none → s'.heap.get? S = some (lstObj acc' c') → Vals (ys ++ ts) acc'.toList → Outs2 H' ts (ps1.zip ps2) → R (.ok (.ret res)) s') →
      codeAny (model X.prog X.w) A (.builtin "list.extend.loop" ⟨[.ref S, .ref y, res], []⟩) R s := by
  intro n
  induction n with
  | zero =>
    intro ps1 ps2 hn og1 ow1 gs1 og2 ow2 gs2 f0 v0 v1 f1 ys acc c H s hF a r hle hend
    have O : Zo X pins y ti to [(S, lstObj acc c)] := ⟨Ly, Lt, yti, yto, tt, fun q hq => by rw [List.mem_singleton.mp hq]; exact ⟨Sy, Sto⟩⟩
    refine codeAny_builtin F.entry_extend_loop ?_
    rw [Around.under_plainId F.plain_extend_loop _]
    show wpAny _ A.in1 (pyNext (.ref y) >>= _) _ _ s
    refine wpAny_bind (wpAny_mono (zip_turn (B := A.in1) hF hz1 hz2 Z1 Z2 hB hd hf O a) (fun u s1 h => ?_) fun _ _ z => z.elim)
    rcases h with ⟨p1, r1, p2, r2, b1, b2, T, T0, H1, f1', w0, w1, _, _, _, _, _, _, e1, _⟩ | ⟨he, rfl, H1, I1, sm, hp⟩
    · rw [e1, List.length_cons] at hn
      omega
    · have ez : ps1.zip ps2 = [] := by
        rcases he with h | h
        · rw [h]; rfl
        · rw [h, List.zip_nil_right]
      obtain ⟨eS, hS, _⟩ := hp _ (List.mem_singleton.mpr rfl)
      exact wpAny_pure (hend [] H1 s1 acc c I1 sm hS eS (by rw [List.append_nil]; exact r) (by rw [ez]; exact .nil))
  | succ n ih =>
    intro ps1 ps2 hn og1 ow1 gs1 og2 ow2 gs2 f0 v0 v1 f1 ys acc c H s hF a r hle hend
    have rl := r.length
    have hacc : acc.size < sizeLine := by
      have h1 : acc.toList.length = acc.size := by simp
      have h2 := line_big (n := 100000) (Nat.le_refl _)
      omega
    have O : Zo X pins y ti to [(S, lstObj acc c)] := ⟨Ly, Lt, yti, yto, tt, fun q hq => by rw [List.mem_singleton.mp hq]; exact ⟨Sy, Sto⟩⟩
    refine codeAny_builtin F.entry_extend_loop ?_
    rw [Around.under_plainId F.plain_extend_loop _]
    show wpAny _ A.in1 (pyNext (.ref y) >>= _) _ _ s
    refine wpAny_bind (wpAny_mono (zip_turn (B := A.in1) hF hz1 hz2 Z1 Z2 hB hd hf O a) (fun u s1 h => ?_) fun _ _ z => z.elim)
    rcases h with ⟨p1, r1, p2, r2, b1, b2, T, T0, H1, f1', w0, w1, og1', ow1', gs1', og2', ow2', gs2', rfl, rfl, rfl, hT, hb1, hb2, sm, hT0, a1⟩ | ⟨he, rfl, H1, I1, sm, hp⟩
    · obtain ⟨eS, hS, _⟩ := a1.p (S, lstObj acc c) (by simp)
      show wpAny _ A.in1 (updateSeq S (·.push (.ref T)) >>= _) _ _ _
      refine wpAny_bind ?_
      refine wpAny_updateSeq eS rfl (wpAny_pure ⟨plainId_quiet F.plain_extend_loop _, ?_⟩) (Nat.le_of_lt hacc) (by show (acc.push _).size ≤ sizeLine + 1; rw [Array.size_push]; omega)
      have front : ∀ q ∈ (S, lstObj acc c) :: (y, zipO (rawInt T0) f1' ti to) :: (ti, pairO (.ref it1) (.ref it2)) :: (to, pairO w0 w1) :: [], q ∈ (y, zipO (rawInt T0) f1' ti to) :: (ti, pairO (.ref it1) (.ref it2)) :: (to, pairO w0 w1) :: [(S, lstObj acc c)] := fun q hq => by
        simp only [List.mem_cons] at hq ⊢
        rcases hq with h | h | h | h | h <;> simp_all
      have a2 := (a1.perm front).set (h' := s1.heap.update S (Obj.mapSeq (·.push (.ref T)))) L (fun q hq => by
        simp only [List.mem_cons, List.not_mem_nil, or_false] at hq
        rcases hq with h | h | h <;> rw [h]
        · exact Sy.symm
        · exact Sti.symm
        · exact Sto.symm) (Heap.get?_update_self _ eS rfl) (fun v z => by cases z) (Heap.SameBut.update ..)
      have rear : ∀ {o : Obj}, ∀ q ∈ (y, zipO (rawInt T0) f1' ti to) :: (ti, pairO (.ref it1) (.ref it2)) :: (to, pairO w0 w1) :: [(S, o)], q ∈ (S, o) :: (y, zipO (rawInt T0) f1' ti to) :: (ti, pairO (.ref it1) (.ref it2)) :: (to, pairO w0 w1) :: [] := fun {o} q hq => by
        simp only [List.mem_cons] at hq ⊢
        rcases hq with h | h | h | h | h <;> simp_all
      refine ih r1 r2 (by rw [List.length_cons] at hn; omega) og1' ow1' gs1' og2' ow2' gs2' (rawInt T0) w0 w1 f1' (ys ++ [.ref T]) (acc.push (.ref T)) _ H1 _ (.inr ⟨T0, rfl, hT0⟩) (a2.perm rear) ?_ ?_ fun ts H' s' acc' c' I' sm' h' e' r' o' => ?_
      · rw [Array.toList_push]
        exact r.append (.cons rfl .nil)
      · rw [List.length_append, List.length_singleton]
        omega
      · refine hend (.ref T :: ts) H' s' acc' c' I' (sm.trans sm') h' e' ?_ (.cons ⟨T, b1, b2, rfl, sm' _ _ hT, sm' _ _ hb1, sm' _ _ hb2⟩ o')
        rw [List.append_assoc] at r'
        exact r'
    · have ez : ps1.zip ps2 = [] := by
        rcases he with h | h
        · rw [h]; rfl
        · rw [h, List.zip_nil_right]
      obtain ⟨eS, hS, _⟩ := hp _ (List.mem_singleton.mpr rfl)
      exact wpAny_pure (hend [] H1 s1 acc c I1 sm hS eS (by rw [List.append_nil]; exact r) (by rw [ez]; exact .nil))
end
end Gn
/-! list(zip(r.paths(), s.paths())). -/
namespace Gn
open PySem PySem.Spec PyProof.Rows L2 GenW GrT GrOwn Lw
theorem zip_no_len : typeLookup (.type "zip") "__len__" = pure none := by rw [typeLookup_type, builtinLookup_eq_fast]; kernel_rfl
theorem zip_no_hint : typeLookup (.type "zip") "__length_hint__" = pure none := by rw [typeLookup_type, builtinLookup_eq_fast]; kernel_rfl
section
variable {X : Cx} {pins : List (Addr × Obj)} {σ : L2.St} {H : Hp} {s : Shared} {Hc : Hp} {lo1 it1 : Addr} {go1 : Obj} {g1 : Nat} {ps1 : List (List Str)} {og1 : List (Nat × GenState)} {ow1 : List (Addr × Obj)} {gs1 : GenState}
  {lo2 it2 : Addr} {go2 : Obj} {g2 : Nat} {ps2 : List (List Str)} {og2 : List (Nat × GenState)} {ow2 : List (Addr × Obj)} {gs2 : GenState} {y ti to : Addr} {v0 v1 : Value}
/-- list(y), y a zip just made -/
theorem call_list_z (hz1 : ∀ h : Heap, h.get? it1 = some go1 → h.IsGen it1 g1) (hz2 : ∀ h : Heap, h.get? it2 = some go2 → h.IsGen it2 g2) (Z1 : Lo X pins lo1) (Z2 : Lo X pins lo2) (hB : X.A.handled = none) (hd : X.A.depth < recursionLimit)
    (Ly : Lst X pins y) (Lt : Lst X pins to) (yti : ti ≠ y) (yto : to ≠ y) (tt : ti ≠ to) (hle : ps1.length ≤ 100000)
    (a : All3 X pins σ X.A.in1.in1.in1.in1 Hc lo1 it1 go1 g1 ps1 og1 ow1 gs1 lo2 it2 go2 g2 ps2 og2 ow2 gs2 ((y, zipO .none false ti to) :: (ti, pairO (.ref it1) (.ref it2)) :: (to, pairO v0 v1) :: []) H s) :
    wpAny (model X.prog X.w) X.A (call (.type "list") [.ref y]) (fun v s' => ∃ S ts H', v = .ref S ∧ Inv X pins σ (upd H' S (.lst ts)) s' ∧ Same H H' ∧ H' S = none ∧ Outs2 H' ts (ps1.zip ps2)) NoE s := by
  have I := a.I
  have hlim := I.nolimit
  have hy : s.heap.get? y = some (zipO .none false ti to) := (a.p _ List.mem_cons_self).1
  have hti : s.heap.get? ti = some (pairO (.ref it1) (.ref it2)) := (a.p _ (List.mem_cons_of_mem _ List.mem_cons_self)).1
  have hto : s.heap.get? to = some (pairO v0 v1) := (a.p (to, pairO v0 v1) (by simp)).1
  have Sy : s.heap.objs.size ≠ y := Nat.ne_of_gt (Heap.lt_size hy)
  refine callType_codes (Q₁ := fun obj s₁ => obj = .ref s.heap.objs.size ∧ s₁ = { s with heap := s.heap.push { cls := .type "list", data := .seq #[] } }) F.called_list (F.typeCall_list_1 _) F.entry_list_init
    (code_list_new _ ⟨rfl, rfl⟩) fun obj s₁ h₁ => ?_
  obtain ⟨rfl, rfl⟩ := h₁
  have hS : (s.heap.push { cls := .type "list", data := .seq #[] }).get? s.heap.objs.size = some { cls := .type "list", data := .seq #[] } := Heap.get?_push_size _ rfl
  refine ⟨⟨_, hS, rfl⟩, F.args_list_init_2 _ _, ?_⟩
  show wpAny _ X.A.in1.in1 (do let old ← Builtin.List.listItems (.ref s.heap.objs.size); Builtin.List.listUpdate (.ref s.heap.objs.size) (fun _ => #[]); letGo old.toList.reverse; Builtin.List.listExtendWith (.ref s.heap.objs.size) (.ref y) .none) _ _ _
  refine wpAny_bind ?_
  unfold Builtin.List.listItems
  refine wpAny_bind (wpAny_seqItems hS rfl (wpAny_pure ?_))
  show wpAny _ X.A.in1.in1 (updateSeq s.heap.objs.size (fun _ => #[]) >>= fun _ => letGo (#[] : Array Value).toList.reverse >>= fun _ => Builtin.List.listExtendWith (.ref s.heap.objs.size) (.ref y) .none) _ _ _
  refine wpAny_bind (wpAny_updateSeq hS rfl ?_)
  have hS2 := Heap.get?_update_self (Obj.mapSeq (fun _ => (#[] : Array Value))) hS rfl
  refine wpAny_bind (wpAny_letGo ?_)
  unfold Builtin.List.listExtendWith
  have up : ∀ (h : Heap) (f : Obj → Obj), (∀ b o, s.heap.get? b = some o → h.get? b = some o) → ∀ b o, s.heap.get? b = some o → (h.update s.heap.objs.size f).get? b = some o := fun h f q b o e =>
    (Heap.get?_update_other _ _ (Ne.symm (Nat.ne_of_lt (Heap.lt_size e)))).trans (q b o e)
  have k1 : ∀ b o, s.heap.get? b = some o → (s.heap.push { cls := .type "list", data := .seq #[] }).get? b = some o := fun b o e => Heap.get?_push_of_some _ e
  have k2 := up _ (Obj.mapSeq (fun _ => (#[] : Array Value))) k1
  refine wpAny_bind (wpAny_typeOf (v := .ref y) (T := "zip") ⟨_, k2 _ _ hy, rfl⟩ ?_)
  have h1 : Builtin.List.listSameRef (.ref s.heap.objs.size) (.ref y) = false := by simp [Builtin.List.listSameRef, Sy]
  have h2 : (Value.type "zip" == Value.type "list") = false := by decide
  have h3 : (Value.type "zip" == Value.type "tuple") = false := by decide
  simp only [h1, h2, h3, Bool.or_false, Bool.false_eq_true, if_false]
  refine wpAny_bind (wpAny_pyIter_zip (s := { s with heap := _ }) (k2 _ _ hy) ?_)
  refine wpAny_bind (wpAny_holding ?_)
  unfold Builtin.List.listLengthHint
  refine wpAny_bind (wpAny_specialOf (v := .ref y) (T := "zip") ⟨_, k2 _ _ hy, rfl⟩ zip_no_len ?_)
  show wpAny _ X.A.in1.in1 (specialOf (Value.ref y) (Str.ofString "__length_hint__") >>= _) _ _ _
  refine wpAny_bind (wpAny_specialOf (v := .ref y) (T := "zip") ⟨_, k2 _ _ hy, rfl⟩ zip_no_hint ?_)
  refine wpAny_pure ?_
  show wpAny _ X.A.in1.in1 (rule "list.extend.makes-room" >>= fun _ => Builtin.List.listTouch (.ref s.heap.objs.size) >>= fun _ =>
    again (.builtin "list.extend.loop" ⟨[.ref s.heap.objs.size, .ref y, .none], []⟩)) _ _ _
  refine wpAny_bind (wpAny_rule ?_)
  refine wpAny_bind ?_
  show wpAny _ X.A.in1.in1 (updateSeq s.heap.objs.size (·.push .none) >>= fun _ => updateSeq s.heap.objs.size (·.pop)) _ _ _
  refine wpAny_bind (wpAny_updateSeq hS2 rfl ?_)
  have hS3 := Heap.get?_update_self (Obj.mapSeq (·.push Value.none)) hS2 rfl
  refine wpAny_updateSeq (hz := by seq_fits) hS3 rfl ?_
  have hS4 := Heap.get?_update_self (Obj.mapSeq (·.pop)) hS3 rfl
  have k4 := up _ (Obj.mapSeq (·.pop)) (up _ (Obj.mapSeq (·.push Value.none)) k2)
  have hSz := I.hok.fresh (a := s.heap.objs.size) (Nat.le_refl _)
  have L : Lst X pins s.heap.objs.size := lst_new I (Nat.le_refl _)
  refine wpAny_pure ⟨plainId_quiet F.plain_extend_loop _, ?_⟩
  obtain ⟨c, hS5⟩ : ∃ c, (((((s.heap.push { cls := .type "list", data := .seq #[] }).update s.heap.objs.size (Obj.mapSeq (fun _ => (#[] : Array Value)))).update s.heap.objs.size (Obj.mapSeq (·.push Value.none))).update s.heap.objs.size (Obj.mapSeq (·.pop)))).get? s.heap.objs.size = some (lstObj #[] c) := ⟨_, hS4⟩
  have a5 : All3 X pins σ X.A.in1.in1.in1.in1 Hc lo1 it1 go1 g1 ps1 og1 ow1 gs1 lo2 it2 go2 g2 ps2 og2 ow2 gs2 ((y, zipO .none false ti to) :: (ti, pairO (.ref it1) (.ref it2)) :: (to, pairO v0 v1) :: [(s.heap.objs.size, lstObj #[] c)]) H
      { s with heap := ((((s.heap.push { cls := .type "list", data := .seq #[] }).update s.heap.objs.size (Obj.mapSeq (fun _ => (#[] : Array Value)))).update s.heap.objs.size (Obj.mapSeq (·.push Value.none))).update s.heap.objs.size (Obj.mapSeq (·.pop))) } := by
    refine ⟨inv_set I rfl k4 I.bare, a.t.heap (tk := s.toks) fun q hq => k4 _ _ (a.t.at q hq), fun q hq => ?_⟩
    by_cases hq2 : q ∈ (y, zipO .none false ti to) :: (ti, pairO (.ref it1) (.ref it2)) :: (to, pairO v0 v1) :: []
    · obtain ⟨z1, z2, z3, z4, z5⟩ := a.p q hq2
      exact ⟨k4 _ _ z1, z2, z3, z4, z5⟩
    · have h : q = (s.heap.objs.size, lstObj #[] c) := by
        simp only [List.mem_cons, List.not_mem_nil, or_false] at hq hq2
        rcases hq with h | h | h | h
        · exact absurd (.inl h) hq2
        · exact absurd (.inr (.inl h)) hq2
        · exact absurd (.inr (.inr h)) hq2
        · exact h
      rw [h]
      exact ⟨hS5, hSz, L.nf, (fun v z => by cases z), fun q' hq' => Nat.ne_of_gt (Heap.lt_size (a.t.at q' hq'))⟩
  refine drain_z (A := X.A.in1) hz1 hz2 Z1 Z2 hB hd I.ok.frames L Ly Lt yti yto tt Sy (Nat.ne_of_gt (Heap.lt_size hti)) (Nat.ne_of_gt (Heap.lt_size hto)) ps1.length ps1 ps2 (Nat.le_refl _) og1 ow1 gs1 og2 ow2 gs2 .none v0 v1 false [] #[] c H _ (.inl ⟨rfl, rfl⟩)
    a5 .nil (by rw [List.length_nil]; omega)
    fun ts H' s' acc' c' I' sm h' e' r' o' => ⟨rfl, s.heap.objs.size, ts, H', rfl, inv_list L I' h' e' r' ?_, sm, h', o'⟩
  have e : ts.length = (ps1.zip ps2).length := Paired.length o'
  rw [List.length_zip] at e
  exact line_big (by omega)
end
end Gn
/-! list(zip(r.paths(), s.paths())), as an expression. -/
namespace Gn
open PySem PySem.Spec PyProof.Rows L2 GenW GrT GrOwn Lw
/-- of two locals -/
def tListZ (C : Addr) (n i j : Nat) : TE := fun σ H Q => ∃ a b ps qs, σ[i]? = some (some (.ref a)) ∧ σ[j]? = some (some (.ref b)) ∧ Pt C H n (.ref a) ps ∧ Pt C H n (.ref b) qs ∧ ps.length ≤ 100000 ∧ ∀ S ts H2, Same H H2 → H2 S = some (.lst ts) → Outs2 H2 ts (ps.zip qs) → Q (.ref S) H2
theorem pt_ins {C : Addr} {H : Hp} {n : Nat} {a : Addr} {ps : List (List Str)} (h : Pt C H n (.ref a) ps) : ∃ dx tp d z, H a = some (.ins C dx (rf tp d z)) := by
  cases n with
  | zero => exact h.elim
  | succ n =>
    obtain ⟨a', l, z, e, ⟨⟨dx, tp, d, _, e1, _⟩, _, _⟩, _⟩ := h
    cases e
    exact ⟨dx, tp, d, z, e1⟩
theorem lo_of {X : Cx} {pins : List (Addr × Obj)} {σ : L2.St} {H : Hp} {s : Shared} (I : Inv X pins σ H s) (hex : X.ex = []) : Lo X pins s.heap.objs.size :=
  ⟨csm_of I hex, fun b hb => (List.mem_cons.mp (I.stkSub b hb)).elim (fun z => by rw [show b = X.env.locals from z]; exact I.lt) fun z => Nat.lt_of_not_le fun h => I.nofs h z⟩
section
variable {X : Cx}
theorem pe_listZ {C f : Addr} {n k jj i j : Nat} {x y : Str} {p0 p1 q1 a1 c1 q2 a2 c2 p2 p3 : Pos} {pl1 pl2 : Sem Bool} (R : RecK X.K X.mg C) (hm : Meth X.K C "paths" f) (hc : CallOk X.prog X.w X.K X.mg X.base C f n k) (hr : Room jj X.A) (hj : k + 5 ≤ jj) (hxe : X.xe = NoE) (hex : X.ex = [])
    (hi : X.N[i]? = some x) (kx : X.env.kindOf x = some .local) (nx : (x == ("__debug__" : Str)) = false) (hjx : X.N[j]? = some y) (ky : X.env.kindOf y = some .local) (ny : (y == ("__debug__" : Str)) = false)
    (hg : Gl X "list") (hl : X.mg "list" = none) (hgz : Gl X "zip") (hlz : X.mg "zip" = none)
    (ht1 : eval (.Call (.Attribute (.Name x q1) "paths" a1) [] [] c1) X.env = (do
      let ov ← eval (.Name x q1) X.env
      standAt a1.atName
      let (f, first) ← holding [ov] (getMethod ov "paths" pl1)
      callWith c1 f first (backTo c1 (starEach [] X.env)) (backToKw c1 (keywordEach [] X.env))) := by rfl)
    (ht2 : eval (.Call (.Attribute (.Name y q2) "paths" a2) [] [] c2) X.env = (do
      let ov ← eval (.Name y q2) X.env
      standAt a2.atName
      let (f, first) ← holding [ov] (getMethod ov "paths" pl2)
      callWith c2 f first (backTo c2 (starEach [] X.env)) (backToKw c2 (keywordEach [] X.env))) := by rfl)
    (hst : ∀ {z : Expr}, z = .Call (.Name "zip" p1) [.Call (.Attribute (.Name x q1) "paths" a1) [] [] c1, .Call (.Attribute (.Name y q2) "paths" a2) [] [] c2] [] p2 → starEach [z] X.env = (false, eval z X.env) :: starEach [] X.env := by (intro z e; subst e; rfl))
    (hst2 : starEach [.Call (.Attribute (.Name x q1) "paths" a1) [] [] c1, .Call (.Attribute (.Name y q2) "paths" a2) [] [] c2] X.env = (false, eval (.Call (.Attribute (.Name x q1) "paths" a1) [] [] c1) X.env) :: starEach [.Call (.Attribute (.Name y q2) "paths" a2) [] [] c2] X.env := by rfl)
    (hpl2 : (backTo p2 (starEach [.Call (.Attribute (.Name y q2) "paths" a2) [] [] c2] X.env)).any (·.1) = false := by rfl)
    (hb2 : backTo p2 (starEach [.Call (.Attribute (.Name x q1) "paths" a1) [] [] c1, .Call (.Attribute (.Name y q2) "paths" a2) [] [] c2] X.env) = (false, eval (.Call (.Attribute (.Name x q1) "paths" a1) [] [] c1) X.env) :: (false, eval (.Call (.Attribute (.Name y q2) "paths" a2) [] [] c2) X.env) :: [] := by rfl) :
    PE X (.Call (.Name "list" p0) [.Call (.Name "zip" p1) [.Call (.Attribute (.Name x q1) "paths" a1) [] [] c1, .Call (.Attribute (.Name y q2) "paths" a2) [] [] c2] [] p2] [] p3) (tListZ C n i j) := by
  refine ⟨fun pins s σ H Q I h => ?_⟩
  rw [hxe]
  obtain ⟨a, b, ps, qs, ea, eb, pa, pb, hle, q⟩ := h
  obtain ⟨dx, tp, d, z, e1⟩ := pt_ins pa
  obtain ⟨dy, tq, d', z', e2⟩ := pt_ins pb
  refine wpAny_Call_Name_kw (ld_blt I hg hl bo_list ?_ (by decide) (by decide))
  refine PyProof.Rows.callWith_type1 ?_ (hst rfl) rfl
  rw [hst rfl]
  show wpAny _ _ (spliced ((false, eval (.Call (.Name "zip" p1) _ [] p2) X.env) :: backTo p3 (starEach [] X.env))) _ _ s
  refine Calls.spliced_cons (wpAny_Call_Name_kw (ld_blt I hgz hlz boot_zip ?_ (by decide) (by decide)))
  refine PyProof.Rows.callWith_type1 ?_ hst2 hpl2
  rw [hb2]
  refine Calls.spliced_cons (PySem.W.methodCall_KW (pl := pl1) (name_g (i := i) I hi kx nx ea fun u ru => ?_) ht1)
  have eu : u = Value.ref a := ru
  subst eu
  refine getmeth_ok I e1 R.cl hm (rf_paths _ _ _) (PySem.W.callWith_K0 (first := [.ref a]) I.kIn hm.kp ?_)
  refine hc X.A X.stack s H H a ps _ _ (hr.mono (by omega)) I.env0 (Same.refl _) pa fun u s2 hb1 => ?_
  obtain ⟨it1, go1, g1, gs1, ow1, rfl, c1', c2', c3', c4', c5', c6', ck', c7', c8', c9'⟩ := hb1
  have I2 : Inv X pins σ H s2 := inv_set I c5' c7' c6'
  refine Calls.spliced_cons (PySem.W.methodCall_KW (pl := pl2) (name_g (i := j) I2 hjx ky ny eb fun u ru => ?_) ht2)
  have eu : u = Value.ref b := ru
  subst eu
  refine getmeth_ok I2 e2 R.cl hm (rf_paths _ _ _) (PySem.W.callWith_K0 (first := [.ref b]) I2.kIn hm.kp ?_)
  refine hc X.A X.stack s2 H H b qs _ _ (hr.mono (by omega)) I2.env0 (Same.refl _) pb fun u s3 hb2 => ?_
  obtain ⟨it2, go2, g2, gs2, ow2, rfl, d1', d2', d3', d4', d5', d6', dk', d7', d8', d9'⟩ := hb2
  have I3 : Inv X pins σ H s3 := inv_set I2 d5' d7' d6'
  refine Calls.spliced_nil ?_
  have o1 : ∀ q ∈ ow1, s3.heap.get? q.1 = some q.2 := fun q hq => d7' _ _ (c8'.ow q hq).2.1
  have o2 : ∀ q ∈ ow2, s3.heap.get? q.1 = some q.2 := fun q hq => (d8'.ow q hq).2.1
  have lt1 : ∀ q ∈ ow1, q.1 < s2.heap.objs.size := fun q hq => Heap.lt_size (c8'.ow q hq).2.1
  have gl1 : g1 < s2.gens.size := (Array.getElem?_eq_some_iff.mp c4').1
  refine call_zipG (c2' _ (o1 _ c8'.obj)) (d2' _ (o2 _ d8'.obj)) fun h' hy hti hto hsz hk => ?_
  have I4 : Inv X pins σ H { s3 with heap := h' } := inv_set I3 rfl hk I3.bare
  have rm : ∀ {A' : Around}, A'.handled = X.A.handled → A'.depth = X.A.depth → A'.units ≤ X.A.units + 10 → Room k A' := fun {A'} h1 h2 h3 => ⟨by rw [h1]; exact hr.hd, by have := hr.dp; omega, by have := hr.un; omega⟩
  have rk : Room k X.A.in1.in1.in1.in1 := rm rfl rfl (by show X.A.units + 1 + 1 + 1 + 1 ≤ _; omega)
  have hfr : X.A.in1.in1.in1.in1.frames = some X.stack := I.ok.frames
  have as1 : Asl X X.A.in1.in1.in1.in1 s.heap.objs.size it1 go1 g1 H ps [] ow1 gs1 H { s3 with heap := h' } :=
    ⟨(dk'.2 g1 gl1).trans c4', fun q hq => (by cases hq), c8'.obj, fun q hq => ⟨(c8'.ow q hq).1, hk _ _ (o1 q hq), (c8'.ow q hq).2.2.1⟩, Same.refl _, c9' _ rk hfr⟩
  have as2 : Asl X X.A.in1.in1.in1.in1 s2.heap.objs.size it2 go2 g2 H qs [] ow2 gs2 H { s3 with heap := h' } :=
    ⟨d4', fun q hq => (by cases hq), d8'.obj, fun q hq => ⟨(d8'.ow q hq).1, hk _ _ (o2 q hq), (d8'.ow q hq).2.2.1⟩, Same.refl _, d9' _ rk hfr⟩
  have two : Two X X.A.in1.in1.in1.in1 H s.heap.objs.size it1 go1 g1 ps [] ow1 gs1 s2.heap.objs.size it2 go2 g2 qs [] ow2 gs2 H { s3 with heap := h' } := by
    refine ⟨as1, as2, fun q hq q' hq' e => ?_, fun q hq q' hq' e => ?_, fun q hq => (c8'.ow q hq).2.2.2.1, fun q hq => (d8'.ow q hq).2.2.2.1⟩
    · rw [List.mem_singleton.mp hq, List.mem_singleton.mp hq'] at e
      have e' : g1 = g2 := e
      omega
    · have h1 := lt1 q hq
      have h2 : @LE.le Nat _ s2.heap.objs.size q'.1 := (d8'.ow q' hq').1
      rw [e] at h1
      exact absurd h1 (Nat.not_lt_of_le h2)
  have Ly : Lst X pins (s3.heap.objs.size + 2) := lst_new I3 (Nat.le_add_right _ _)
  have Li : Lst X pins s3.heap.objs.size := lst_new I3 (Nat.le_refl _)
  have Lt : Lst X pins (s3.heap.objs.size + 1) := lst_new I3 (Nat.le_add_right _ _)
  have fr : ∀ m : Nat, H (s3.heap.objs.size + m) = none := fun m => I3.hok.fresh (Nat.le_add_right _ _)
  have nw : ∀ m : Nat, ∀ q' ∈ ow1 ++ ow2, (s3.heap.objs.size + m) ≠ q'.1 := fun m q' hq' e => by
    have h1 : q'.1 < s3.heap.objs.size := (List.mem_append.mp hq').elim (fun h => Heap.lt_size (o1 q' h)) fun h => Heap.lt_size (o2 q' h)
    rw [← e] at h1
    exact absurd h1 (Nat.not_lt_of_le (Nat.le_add_right _ _))
  have all : All3 X pins σ X.A.in1.in1.in1.in1 H s.heap.objs.size it1 go1 g1 ps [] ow1 gs1 s2.heap.objs.size it2 go2 g2 qs [] ow2 gs2 ((s3.heap.objs.size + 2, zipO .none false s3.heap.objs.size (s3.heap.objs.size + 1)) :: (s3.heap.objs.size, pairO (.ref it1) (.ref it2)) :: (s3.heap.objs.size + 1, pairO .none .none) :: []) H { s3 with heap := h' } := by
    refine ⟨I4, two, fun q hq => ?_⟩
    simp only [List.mem_cons, List.not_mem_nil, or_false] at hq
    rcases hq with h | h | h <;> rw [h]
    · exact ⟨hy, fr 2, Ly.nf, nocell _ ⟨_, rfl⟩, nw 2⟩
    · exact ⟨hti, fr 0, Li.nf, nocellS _ ⟨_, _, rfl⟩, nw 0⟩
    · exact ⟨hto, fr 1, Lt.nf, nocellS _ ⟨_, _, rfl⟩, nw 1⟩
  refine Calls.spliced_nil ?_
  refine wpAny_mono (call_list_z c2' d2' (lo_of I hex) (by
    have := lo_of I2 hex
    exact this) hr.hd (by have := hr.dp; omega) Ly Lt (Nat.ne_of_lt (Nat.lt_add_of_pos_right (by decide))) (Nat.ne_of_lt (Nat.lt_succ_self _)) (Nat.ne_of_lt (Nat.lt_succ_self _)) hle all) (fun v s5 h5 => ?_) fun _ _ z => z
  obtain ⟨S, ts, H', rfl, I5, sm, h', o'⟩ := h5
  have sm2 : Same H' (upd H' S (.lst ts)) := fun b u e => by
    rw [upd_ne (ne_of_none e h')]
    exact e
  exact ⟨.ref S, _, I5, rfl, q S ts _ (sm.trans sm2) upd_same (o'.same sm2)⟩
end
end Gn
/-! [path for path in r.paths()]. -/
namespace Gn
open PySem PySem.Spec PyProof.Rows L2 GenW GrT GrOwn Lw
/-- of a local -/
def tListN (C : Addr) (n i : Nat) : TE := fun σ H Q => ∃ a ps, σ[i]? = some (some (.ref a)) ∧ Pt C H n (.ref a) ps ∧ ps.length ≤ 100000 ∧ ∀ S ts H2, Same H H2 → H2 S = some (.lst ts) → Outs H2 ts ps → Q (.ref S) H2
theorem noCells {h : Heap} : ∀ {names : List (Str × NameKind)}, (∀ y ∈ names, y.2 = .local) → pushCells h names = h
  | [], _ => rfl
  | (n, k) :: r, hh => by
    have e : k = .local := hh _ List.mem_cons_self
    subst e
    show pushCells h r = h
    exact noCells fun y hy => hh y (List.mem_cons_of_mem _ hy)
section
variable {X : Cx} {pins : List (Addr × Obj)} {σ : L2.St} {H : Hp} {s : Shared} {E : Value → Shared → Prop}
/-- an item appended to a tracked list, the state told -/
theorem app_g {D : Addr} {xs : List V} {x : V} {v : Value} {Q : Value → Shared → Prop} (I : Inv X pins σ H s) (hD : H D = some (.lst xs)) (hz : xs.length < sizeLine) (r : RelV x v)
    (h : ∀ h', Heap.SameBut D s.heap h' → Inv X pins σ (upd H D (.lst (xs ++ [x]))) { s with heap := h' } → Q .none { s with heap := h' }) : wpAny (model X.prog X.w) X.A (call (.builtin "list.append") [.ref D, v]) Q E s := by
  obtain ⟨_, items, n, rel, at_⟩ := I.hok D _ hD
  have len := rel.length
  refine append_at at_ (fun h' sb new => h h' sb ?_) (by rw [List.size_toArray]; omega)
  have mu : Mut (H D) := by
    rw [hD]
    trivial
  refine I.write (t' := s.toks) mu (.inl rfl) (fun b u n q => (sb.2 b n).trans q) ⟨_, new⟩ ⟨?_, items ++ [v], n + 1, rel.append (.cons r .nil), ?_⟩
  · rw [List.length_append]
    exact hz
  · rw [new]
    simp
theorem pe_lcP {C f : Addr} {n k jj i : Nat} {x z : Str} {pz pz2 q1 a1 c1 pos : Pos} {scope : Scope} {pl : Sem Bool} (R : RecK X.K X.mg C) (hm : Meth X.K C "paths" f) (hc : CallOk X.prog X.w X.K X.mg X.base C f n k) (hr : Room jj X.A) (hj : k + 3 ≤ jj) (hxe : X.xe = NoE) (hex : X.ex = [])
    (hi : X.N[i]? = some x) (kx : X.env.kindOf x = some .local) (nx : (x == ("__debug__" : Str)) = false) (hk : scope.kind = .function) (hloc : ∀ y ∈ scope.names, y.2 = .local) (hu : ∀ y ∈ scope.names, scope.names.lookup y.1 = some y.2) (hz : scope.names.lookup z = some .local) (nz : (z == ("__debug__" : Str)) = false)
    (ht1 : eval (.Call (.Attribute (.Name x q1) "paths" a1) [] [] c1) X.env = (do
      let ov ← eval (.Name x q1) X.env
      standAt a1.atName
      let (f, first) ← holding [ov] (getMethod ov "paths" pl)
      callWith c1 f first (backTo c1 (starEach [] X.env)) (backToKw c1 (keywordEach [] X.env))) := by rfl)
    (hs : ∀ v, foldedSetIterable (.Call (.Attribute (.Name x q1) "paths" a1) [] [] c1) X.env v = pure v := by intro _; rfl) :
    PE X (.ListComp (.Name z pz) [⟨.Name z pz2, .Call (.Attribute (.Name x q1) "paths" a1) [] [] c1, [], 0⟩] scope pos) (tListN C n i) := by
  refine ⟨fun pins s σ H Q I h => ?_⟩
  rw [hxe, eval_ListComp]
  obtain ⟨a, ps, ea, pa, hle, q⟩ := h
  obtain ⟨dx, tp, d, zz, e1⟩ := pt_ins pa
  refine wpAny_comprehension_free (use := none) rfl hs (closure_ok fun y hy e => by rw [hloc y hy] at e; cases e) hk (fun y hy _ => by rw [hu y hy, hloc y hy]) ?_
  refine PySem.W.methodCall_KW (pl := pl) (name_g (i := i) I hi kx nx ea fun u ru => ?_) ht1
  have eu : u = Value.ref a := ru
  subst eu
  refine getmeth_ok I e1 R.cl hm (rf_paths _ _ _) (PySem.W.callWith_K0 (first := [.ref a]) I.kIn hm.kp ?_)
  refine hc X.A X.stack s H H a ps _ _ (hr.mono (by omega)) I.env0 (Same.refl _) pa fun u s2 hb1 => ?_
  obtain ⟨it, go, g, gs, ow, rfl, c1', c2', c3', c4', c5', c6', ck', c7', c8', c9'⟩ := hb1
  have I2 : Inv X pins σ H s2 := inv_set I c5' c7' c6'
  have o1 : ∀ q ∈ ow, s2.heap.get? q.1 = some q.2 := fun q hq => (c8'.ow q hq).2.1
  refine wpAny_pyIter_gen (c2' _ (o1 _ c8'.obj)) ?_
  refine wpAny_newObj_type (newEnv_comp ?_) (by show 0 ≤ sizeLine; decide)
  rw [noCells hloc]
  have hDn : H s2.heap.objs.size = none := I2.hok.fresh (Nat.le_refl _)
  have sD : Same H (upd H s2.heap.objs.size (.lst [])) := fun b o e => by
    rw [upd_ne (ne_of_none e hDn)]
    exact e
  have I3 : Inv X pins σ (upd H s2.heap.objs.size (.lst [])) { s2 with heap := s2.heap.push { cls := .type "list", data := .seq ([] : List Value).toArray } } :=
    I2.laid (t' := s2.toks) (fun b o e => Heap.get?_push_of_some _ e) (Nat.le_refl _) ⟨Nat.zero_le _, [], 0, .nil, Heap.get?_push_size _ rfl⟩
  have k3 : ∀ b o, s2.heap.get? b = some o → (s2.heap.push { cls := .type "list", data := .seq ([] : List Value).toArray }).get? b = some o := fun b o e => Heap.get?_push_of_some _ e
  have g3 : ({ s2 with heap := s2.heap.push { cls := .type "list", data := .seq ([] : List Value).toArray } } : Shared).gens = s2.gens := rfl
  generalize hD : s2.heap.objs.size = D at hDn sD I3 ⊢
  have oD : ∀ q ∈ ow, q.1 ≠ D := fun q hq e => by
    have h1 := Heap.lt_size (o1 q hq)
    rw [hD, ← e] at h1
    exact absurd h1 (Nat.lt_irrefl _)
  have k3' : ∀ b o, s2.heap.get? b = some o → ({ s2 with heap := s2.heap.push { cls := .type "list", data := .seq ([] : List Value).toArray } } : Shared).heap.get? b = some o := k3
  generalize ({ s2 with heap := s2.heap.push { cls := .type "list", data := .seq ([] : List Value).toArray } } : Shared) = s3 at I3 g3 k3' ⊢
  have L : Lst X pins s3.heap.objs.size := lst_new I3 (Nat.le_refl _)
  have hns : Heap.Ns (s3.heap.push { cls := .type "dict", data := .dict #[] }) s3.heap.objs.size fun _ => none := Heap.Ns.new ..
  have I4 : Inv X pins σ (upd H D (.lst [])) { s3 with heap := s3.heap.push { cls := .type "dict", data := .dict #[] } } := inv_set I3 rfl (fun b o e => Heap.get?_push_of_some _ e) I3.bare
  have hC : (upd H D (.lst [])) s3.heap.objs.size = none := I3.hok.fresh (Nat.le_refl _)
  have oC : ∀ q ∈ ow, q.1 ≠ s3.heap.objs.size := fun q hq => Nat.ne_of_lt (Heap.lt_size (k3' _ _ (o1 q hq)))
  have hcls : ∀ {env : Env}, env.scope.kind = .function → (env.scope.kind == .class || (env.scope.kind == .module && env.locals != env.globals)) = false := fun {env} e => by rw [e]; rfl
  have rk : Room k X.A.in1 := ⟨hr.hd, by have := hr.dp; show X.A.depth + 3 * k + 5 < _; omega, by have := hr.un; show X.A.units + 1 + 16 * k + 200 < _; omega⟩
  have as4 : Asl X X.A.in1 s.heap.objs.size it go g H ps [] ow gs (upd H D (.lst [])) { s3 with heap := s3.heap.push { cls := .type "dict", data := .dict #[] } } :=
    ⟨by rw [g3]; exact c4', fun q hq => (by cases hq), c8'.obj, fun q hq => ⟨(c8'.ow q hq).1, Heap.get?_push_of_some _ (k3' _ _ (o1 q hq)), by rw [upd_ne (oD q hq)]; exact (c8'.ow q hq).2.2.1⟩, sD, c9' _ rk I.ok.frames⟩
  generalize hC0 : s3.heap.objs.size = C0 at L hns hC oC ⊢
  show codeAny _ _ (.compStart (.ListComp (.Name z pz) [⟨.Name z pz2, _, [], 0⟩] scope pos) 0 (.ref it) (.ref D) (compEnvC scope (cellsFrom (C0 + 1) scope.names (cloFrom X.env.cells scope.names [])) C0 X.env)) (compPost (model X.prog X.w) X.A NoE none _ (.ref D) C0) _
  generalize hce : compEnvC scope (cellsFrom (C0 + 1) scope.names (cloFrom X.env.cells scope.names [])) C0 X.env = ce
  have cL : ce.locals = C0 := by rw [← hce]; rfl
  have cK : ce.scope.kind = .function := by rw [← hce]; exact hk
  have cZ : ce.kindOf z = some .local := by rw [← hce]; exact lookup_relabel_local hz
  have hs4 : ({ s3 with heap := s3.heap.push { cls := .type "dict", data := .dict #[] } } : Shared).heap = s3.heap.push { cls := .type "dict", data := .dict #[] } := rfl
  rw [← hs4] at hns
  generalize ({ s3 with heap := s3.heap.push { cls := .type "dict", data := .dict #[] } } : Shared) = s4 at I4 as4 hns ⊢
  obtain ⟨oC0, _, _, hoC, hdC, _⟩ := id hns
  have Z : Csm X pins s.heap.objs.size := csm_of I hex
  have hz0 := c2'
  have loop : codeAny (model X.prog X.w) X.A (.compLoop (.ListComp (.Name z pz) [⟨.Name z pz2, .Call (.Attribute (.Name x q1) "paths" a1) [] [] c1, [], 0⟩] scope pos) 0 (.ref it) (.ref D) ce) (compPost (model X.prog X.w) X.A NoE none (EP X pins σ Q) (.ref D) C0) s4 := by
    refine compLoop_any (fun m s' => ∃ done rem ts og ow gs H', m = rem.length ∧ ps = done ++ rem ∧ Inv X pins σ H' s' ∧ Same H H' ∧ H' D = some (.lst ts) ∧ Outs H' ts done ∧ H' C0 = none ∧ (∃ mm, s'.heap.Ns C0 mm) ∧ (∀ q ∈ ow, q.1 ≠ C0 ∧ q.1 ≠ D) ∧ Asl X X.A.in1 s.heap.objs.size it go g H rem og ow gs H' s') ?_ ps.length
      ⟨[], ps, [], [], ow, gs, _, rfl, rfl, I4, sD, upd_same, .nil, hC, ⟨_, hns⟩, fun q hq => ⟨oC q hq, oD q hq⟩, as4⟩
    rintro m s5 ⟨done, rem, ts, og, ow, gs, H5, rfl, hps, I5, sm5, eD, outs, eC, ⟨mm, hn⟩, ne5, as5⟩
    obtain ⟨oc, es5, ep5, hoc, hdc, hrest⟩ := id hn
    have pk5 : ∀ q ∈ [(C0, oc)], s5.heap.get? q.1 = some q.2 ∧ H5 q.1 = none ∧ q.1 ∉ frs X.stack ∧ (∀ v, q.2.data ≠ .cell v) ∧ ∀ q' ∈ ow, q.1 ≠ q'.1 := fun q hq => by
      rw [List.mem_singleton.mp hq]
      exact ⟨hoc, eC, L.nf, fun v e => (by rw [hdc] at e; cases e), fun q' hq' e => (ne5 q' hq').1 e.symm⟩
    refine wpAny_mono (asl_next (B := X.A) (pk := [(C0, oc)]) hz0 Z hr.hd (by have := hr.dp; omega) I5.ok.frames I5 as5 pk5) (fun u s6 h6 => ?_) fun _ _ zz => zz.elim
    cases rem with
    | nil =>
      obtain ⟨rfl, H6, I6, sm6, hp6⟩ := h6
      obtain ⟨e6, h60⟩ := hp6 _ List.mem_cons_self
      refine ⟨mm, hn.at fun o e => ?_, fun h' sb => ?_⟩
      · rw [hoc] at e
        cases e
        exact e6
      · rw [List.append_nil] at hps
        subst hps
        exact ⟨.ref D, H6, inv_priv L I6 h60 fun b o nb e => (sb.2 b nb).trans e, rfl, q D ts H6 (sm5.trans sm6) (sm6 _ _ eD) (outs.same sm6)⟩
    | cons p rem =>
      obtain ⟨t, H6, og', ow', gs', rfl, ht0, ht1, I6, sm6, hp6, as6, ne6⟩ := h6
      obtain ⟨e6, h60⟩ := hp6 _ List.mem_cons_self
      have hn6 : s6.heap.Ns C0 mm := hn.at fun o e => by
        rw [hoc] at e
        cases e
        exact e6
      refine wpAny_pure ?_
      refine wpAny_assign_Name (wpAny_storeName_local cZ (by rw [cL]; exact hn6) (fun h7 hn7 sb7 => ?_) (hcls cK))
      rw [cL] at hn7 sb7
      have kk7 : ∀ b o, b ≠ C0 → s6.heap.get? b = some o → h7.get? b = some o := fun b o nb e => (sb7.2 b nb).trans e
      have I7 : Inv X pins σ H6 { s6 with heap := h7, toks := s6.toks + 1 } := (inv_priv L I6 h60 kk7).tok _
      have nC' : ∀ q ∈ ow', q.1 ≠ C0 := fun q hq e => ne6 _ List.mem_cons_self q hq e.symm
      have nD' : ∀ q ∈ ow', q.1 ≠ D := fun q hq e => by
        have := (as6.owk q hq).2.2
        rw [e, sm6 _ _ eD] at this
        cases this
      have as7 : Asl X X.A.in1 s.heap.objs.size it go g H rem og' ow' gs' H6 { s6 with heap := h7, toks := s6.toks + 1 } := as6.heap fun q hq => kk7 _ _ (nC' q hq) (as6.owk q hq).2.1
      refine wpAny_tests_nil ?_
      rw [if_pos rfl]
      refine wpAny_Name (wpAny_loadName_local cK cZ (by rw [cL]; exact hn7) (by rw [if_pos rfl]) ?_) nz
      have tl : ts.length = done.length := Paired.length outs
      have dl : done.length < ps.length := by
        rw [hps, List.length_append, List.length_cons]
        omega
      refine app_g (x := .ref t) I7 (sm6 _ _ eD) (line_big (by omega)) rfl fun h8 sb8 I8 => ?_
      have smD : ∀ {b : Addr} {o : HO}, b ≠ D → H6 b = some o → (upd H6 D (.lst (ts ++ [V.ref t]))) b = some o := fun nb e => by
        rw [upd_ne nb]
        exact e
      have tupD : ∀ {b : Addr} {xs : List V}, H6 b = some (.tup xs) → b ≠ D := fun e z => by
        rw [z, sm6 _ _ eD] at e
        cases e
      have kk8 : ∀ b o, b ≠ D → h7.get? b = some o → h8.get? b = some o := fun b o nb e => (sb8.2 b nb).trans e
      have CD : C0 ≠ D := fun e => by
        rw [e, sm6 _ _ eD] at h60
        cases h60
      refine ⟨rem.length, Nat.lt_succ_self _, done ++ [p], rem, ts ++ [.ref t], og', ow', gs', _, rfl, by rw [hps, List.append_assoc]; rfl, I8, fun b o e => ?_, upd_same, ?_, ?_, ⟨_, hn7.at fun o e => kk8 _ _ CD e⟩, fun q hq => ⟨nC' q hq, nD' q hq⟩, ?_⟩
      · exact smD (ne_of_none e hDn) (sm6 _ _ (sm5 _ _ e))
      · have out6 := outs.same sm6
        have conv : ∀ {us : List V} {qs : List (List Str)}, Outs H6 us qs → Outs (upd H6 D (.lst (ts ++ [V.ref t]))) us qs := fun {us qs} o => by
          induction o with
          | nil => exact .nil
          | cons h _ ih =>
            obtain ⟨b, e, hb⟩ := h
            exact .cons ⟨b, e, smD (tupD hb) hb⟩ ih
        have both : ∀ {us : List V} {qs : List (List Str)} {H' : Hp}, Outs H' us qs → H' t = some (.tup (p.map V.str)) → Outs H' (us ++ [.ref t]) (qs ++ [p]) := fun {us qs H'} o ht => by
          induction o with
          | nil => exact .cons ⟨t, rfl, ht⟩ .nil
          | cons h _ ih => exact .cons h ih
        exact both (conv out6) (smD (tupD ht1) ht1)
      · rw [upd_ne CD]
        exact h60
      · have as8 := as7.heap (h' := h8) (tk := s6.toks + 1) fun q hq => kk8 _ _ (nD' q hq) (kk7 _ _ (nC' q hq) (as6.owk q hq).2.1)
        exact ⟨as8.gen, as8.ogk, as8.obj, fun q hq => ⟨(as8.owk q hq).1, (as8.owk q hq).2.1, by rw [upd_ne (nD' q hq)]; exact (as8.owk q hq).2.2⟩, fun b o e => smD (ne_of_none e hDn) (as8.ext _ _ e), as8.slp⟩
  exact codeAny_compStart_list loop (wpAny_pyIter_gen (hz0 _ (as4.owk _ as4.obj).2.1) loop)
end
end Gn
/-! list(zip(xs, ys)) of two lists. -/
namespace Gn
open PySem PySem.Spec PyProof.Rows L2 GenW GrT GrOwn Lw
/-- new pairs of items -/
def OutsV (H : Hp) : List V → List (V × V) → Prop := Paired fun v p => ∃ T, v = .ref T ∧ H T = some (.tup [p.1, p.2])
theorem OutsV.same {H H' : Hp} (sm : Same H H') : ∀ {vs : List V} {ps : List (V × V)}, OutsV H vs ps → OutsV H' vs ps
  | _, _, .nil => .nil
  | _, _, .cons ⟨T, e, h⟩ r => .cons ⟨T, e, sm _ _ h⟩ (OutsV.same sm r)
/-- where a zip of two lists stands -/
structure Zl (X : Cx) (pins : List (Addr × Obj)) (σ : L2.St) (y ti to i1 i2 l1 l2 : Addr) (xs ys : List V) (k : Nat) (H : Hp) (s : Shared) : Prop where
  I : Inv X pins σ H s
  hz : IsZip s.heap y ti to .none ∨ ∃ T f, IsZipHeld s.heap y ti to T f ∧ H T ≠ none
  hto : ∃ a b, IsPair s.heap to a b
  ht : IsPair s.heap ti (.ref i1) (.ref i2)
  h1 : s.heap.IsListIter i1 l1 k
  h2 : s.heap.IsListIter i2 l2 k
  e1 : H l1 = some (.lst xs)
  e2 : H l2 = some (.lst ys)
  fp : ∀ b ∈ [y, ti, to, i1, i2], FpOk X pins H b
section
variable {X : Cx} {pins : List (Addr × Obj)} {σ : L2.St} {H : Hp} {s : Shared} {A B : Around} {y ti to i1 i2 l1 l2 : Addr} {xs ys : List V} {k : Nat}
theorem FpOk.up {b T : Addr} {o : HO} (f : FpOk X pins H b) (h : b ≠ T) : FpOk X pins (upd H T o) b := ⟨by rw [upd_ne h]; exact f.1, f.2⟩
/-- a turn -/
theorem zl_turn (D : ZipApart y ti to i1 i2 l1 l2) (hB : B.handled = none) (z : Zl X pins σ y ti to i1 i2 l1 l2 xs ys k H s) :
    wpAny (model X.prog X.w) B (pyNext (.ref y)) (fun u s1 => (∃ x x2 T, xs[k]? = some x ∧ ys[k]? = some x2 ∧ u = some (.ref T) ∧ T = s.heap.objs.size ∧ H T = none ∧ Zl X pins σ y ti to i1 i2 l1 l2 xs ys (k + 1) (upd H T (.tup [x, x2])) s1 ∧ ∀ c o, c ∉ [y, ti, to, i1, i2] → s.heap.get? c = some o → s1.heap.get? c = some o) ∨
      ((xs.length ≤ k ∨ ys.length ≤ k) ∧ u = none ∧ Inv X pins σ H s1 ∧ ∀ c o, c ∉ [y, ti, to, i1, i2] → s.heap.get? c = some o → s1.heap.get? c = some o)) NoE s := by
  obtain ⟨I, hz, ⟨a, b, hto⟩, ht, h1, h2, e1, e2, fp⟩ := z
  obtain ⟨its, rv, p, _⟩ := I.list (SqL.of e1)
  obtain ⟨its2, rv2, p2, _⟩ := I.list (SqL.of e2)
  have len1 := rv.length
  have len2 := rv2.length
  have hn : H s.heap.objs.size = none := I.hok.fresh (Nat.le_refl _)
  have fr : ∀ {b o}, s.heap.get? b = some o → b ≠ s.heap.objs.size := fun e => Nat.ne_of_lt (Heap.lt_size e)
  have ny : y ≠ s.heap.objs.size := by
    rcases hz with h | ⟨T, f, h, _⟩
    · exact fr h
    · exact fr h
  have n1 : i1 ≠ s.heap.objs.size := by
    obtain ⟨o, e, _⟩ := h1
    exact fr e
  have n2 : i2 ≠ s.heap.objs.size := by
    obtain ⟨o, e, _⟩ := h2
    exact fr e
  have lt : ∀ b ∈ [y, ti, to, i1, i2], b ≠ s.heap.objs.size := fun b hb => by
    simp only [List.mem_cons, List.not_mem_nil, or_false] at hb
    rcases hb with h | h | h | h | h <;> rw [h]
    · exact ny
    · exact fr ht
    · exact fr hto
    · exact n1
    · exact n2
  have two : 2 ≤ sizeLine := by decide
  have out : ∀ {c : Addr}, c ∉ [y, ti, to, i1, i2] → c ≠ y ∧ c ≠ to ∧ c ≠ i1 ∧ c ≠ i2 := fun {c} h => by
    simp only [List.mem_cons, List.not_mem_nil, or_false, not_or] at h
    exact ⟨h.1, h.2.2.1, h.2.2.2.1, h.2.2.2.2⟩
  have made : ∀ {x x2 : V} {u u2 : Value} {h' : Heap}, RelV x u → RelV x2 u2 → IsPair h' s.heap.objs.size u u2 → (∀ c o, c ∉ [y, ti, to, i1, i2] → s.heap.get? c = some o → h'.get? c = some o) →
      Inv X pins σ (upd H s.heap.objs.size (.tup [x, x2])) { s with heap := h' } := fun {x x2 u u2 h'} r r2 hT hk =>
    I.turnedNew (t' := s.toks) (ch := [y, ti, to, i1, i2]) hk fp (Nat.le_refl _) ⟨two, [u, u2], .cons r (.cons r2 .nil), ⟨_, hT, rfl, _, rfl⟩⟩
  have kl : ∀ {l : Addr} {zs : List V} {x x2 : V}, H l = some (.lst zs) → (upd H s.heap.objs.size (.tup [x, x2])) l = some (.lst zs) := fun e => by
    rw [upd_ne (ne_of_none e hn)]
    exact e
  by_cases hend : xs.length ≤ k ∨ ys.length ≤ k
  · have hend' : its.toArray[k]? = none ∨ its2.toArray[k]? = none := by
      rcases hend with h | h
      · left
        rw [List.getElem?_toArray]
        exact List.getElem?_eq_none (by omega)
      · right
        rw [List.getElem?_toArray]
        exact List.getElem?_eq_none (by omega)
    rcases hz with hz | ⟨T, f, hz, hT⟩
    · exact wpAny_pyNext_zip_end hB D hz ht hto h1 h2 p.isList p2.isList hend' fun h' hk => .inr ⟨hend, rfl, I.turnedL (t' := s.toks) (fun c o hc e => hk c o (out hc).1 (out hc).2.1 (out hc).2.2.1 (out hc).2.2.2 e) fp, fun c o hc e => hk c o (out hc).1 (out hc).2.1 (out hc).2.2.1 (out hc).2.2.2 e⟩
    · obtain ⟨oT, hoT⟩ : ∃ o, s.heap.get? T = some o := by
        cases e : H T with
        | none => exact absurd e hT
        | some u => exact objOk_there (I.hok T u e)
      exact wpAny_pyNext_zip_end_held hB D hz hoT ht h1 h2 p.isList p2.isList hend' fun h' hk => .inr ⟨hend, rfl, I.turnedL (t' := s.toks) (fun c o hc e => hk c o (out hc).1 (out hc).2.2.1 (out hc).2.2.2 e) fp, fun c o hc e => hk c o (out hc).1 (out hc).2.2.1 (out hc).2.2.2 e⟩
  · have k1 : k < xs.length := by omega
    have k2 : k < ys.length := by omega
    obtain ⟨x, hx⟩ : ∃ x, xs[k]? = some x := ⟨_, List.getElem?_eq_getElem k1⟩
    obtain ⟨x2, hx2⟩ : ∃ x, ys[k]? = some x := ⟨_, List.getElem?_eq_getElem k2⟩
    obtain ⟨u, hu, ru⟩ := rv.get hx
    obtain ⟨u2, hu2, ru2⟩ := rv2.get hx2
    have hu' : its.toArray[k]? = some u := by rw [List.getElem?_toArray]; exact hu
    have hu2' : its2.toArray[k]? = some u2 := by rw [List.getElem?_toArray]; exact hu2
    have tn : (upd H s.heap.objs.size (.tup [x, x2])) s.heap.objs.size ≠ none := by
      rw [upd_same]
      exact Option.some_ne_none _
    rcases hz with hz | ⟨T, f, hz, hT⟩
    · refine wpAny_pyNext_zip_item D hz ht hto h1 h2 p.isList p2.isList hu' hu2' fun h' z' TO' h1' h2' hT hsz hk => ?_
      have kk : ∀ c o, c ∉ [y, ti, to, i1, i2] → s.heap.get? c = some o → h'.get? c = some o := fun c o hc e => hk c o (out hc).1 (out hc).2.1 (out hc).2.2.1 (out hc).2.2.2 e
      exact .inl ⟨x, x2, _, hx, hx2, rfl, rfl, hn, ⟨made ru ru2 hT kk, .inr ⟨s.heap.objs.size, false, z', tn⟩, ⟨_, _, TO'⟩, hk _ _ D.TIz D.TITO D.TIi1 D.TIi2 ht, h1', h2', kl e1, kl e2, fun b hb => FpOk.up (fp b hb) (lt b hb)⟩, kk⟩
    · obtain ⟨oT, hoT⟩ : ∃ o, s.heap.get? T = some o := by
        cases e : H T with
        | none => exact absurd e hT
        | some u => exact objOk_there (I.hok T u e)
      refine wpAny_pyNext_zip_item_held D hz hoT ht h1 h2 p.isList p2.isList hu' hu2' fun h' z' h1' h2' hP hsz hk => ?_
      have kk : ∀ c o, c ∉ [y, ti, to, i1, i2] → s.heap.get? c = some o → h'.get? c = some o := fun c o hc e => hk c o (out hc).1 (out hc).2.2.1 (out hc).2.2.2 e
      have tT : (upd H s.heap.objs.size (.tup [x, x2])) T ≠ none := by
        rw [upd_ne (fun e => hT (by rw [e]; exact hn))]
        exact hT
      exact .inl ⟨x, x2, _, hx, hx2, rfl, rfl, hn, ⟨made ru ru2 hP kk, .inr ⟨T, true, z', tT⟩, ⟨_, _, hk _ _ D.TOz D.TOi1 D.TOi2 hto⟩, hk _ _ D.TIz D.TIi1 D.TIi2 ht, h1', h2', kl e1, kl e2, fun b hb => FpOk.up (fp b hb) (lt b hb)⟩, kk⟩
end
end Gn
/-! list(zip(xs, ys)), as an expression. -/
namespace Gn
open PySem PySem.Spec PyProof.Rows L2 GenW GrT GrOwn Lw
section
variable {X : Cx} {pins : List (Addr × Obj)} {σ : L2.St} {H : Hp} {s : Shared} {A B : Around} {y ti to i1 i2 l1 l2 : Addr} {xs ys : List V} {k : Nat}
theorem Zl.set {b : Addr} {h' : Heap} (z : Zl X pins σ y ti to i1 i2 l1 l2 xs ys k H s) (L : Lst X pins b) (h0 : H b = none) (nb : ∀ c ∈ [y, ti, to, i1, i2], c ≠ b) (k' : Heap.SameBut b s.heap h') : Zl X pins σ y ti to i1 i2 l1 l2 xs ys k H { s with heap := h' } := by
  have kk : ∀ c o, c ≠ b → s.heap.get? c = some o → h'.get? c = some o := fun c o n e => (k'.2 c n).trans e
  obtain ⟨I, hz, ⟨a, c, hto⟩, ht, h1, h2, e1, e2, fp⟩ := z
  refine ⟨inv_priv L I h0 kk, ?_, ⟨a, c, kk _ _ (nb _ (by simp)) hto⟩, kk _ _ (nb _ (by simp)) ht, h1.at fun o e => kk _ o (nb _ (by simp)) e, h2.at fun o e => kk _ o (nb _ (by simp)) e, e1, e2, fp⟩
  rcases hz with h | ⟨T, f, h, q⟩
  · exact .inl (kk _ _ (nb _ (by simp)) h)
  · exact .inr ⟨T, f, kk _ _ (nb _ (by simp)) h, q⟩
theorem drain_zl {S : Addr} {R : Result → Shared → Prop} {res : Value} (D : ZipApart y ti to i1 i2 l1 l2) (hB : A.handled = none) (L : Lst X pins S) (nS : S ∉ [y, ti, to, i1, i2]) :
    ∀ (n k : Nat), xs.length ≤ n + k → ∀ (ts : List V) (acc : Array Value) (c : Nat) (H : Hp) (s : Shared), Zl X pins σ y ti to i1 i2 l1 l2 xs ys k H s → s.heap.get? S = some (lstObj acc c) → H S = none → Vals ts acc.toList → ts.length + n ≤ 100000 →
      (∀ us H' s' acc' c', Inv X pins σ H' s' → Same H H' → H' S = none → s'.heap.get? S = some (lstObj acc' c') → Vals (ts ++ us) acc'.toList → OutsV H' us ((xs.zip ys).drop k) → R (.ok (.ret res)) s') →
      codeAny (model X.prog X.w) A (.builtin "list.extend.loop" ⟨[.ref S, .ref y, res], []⟩) R s := by
  intro n
  induction n with
  | zero =>
    intro k hk ts acc c H s z eS hS r hle hend
    refine codeAny_builtin F.entry_extend_loop ?_
    rw [Around.under_plainId F.plain_extend_loop _]
    show wpAny _ A.in1 (pyNext (.ref y) >>= _) _ _ s
    refine wpAny_bind (wpAny_mono (zl_turn (B := A.in1) D hB z) (fun u s1 h => ?_) fun _ _ z => z.elim)
    rcases h with ⟨x, x2, T, e1, _⟩ | ⟨he, rfl, I1, kk⟩
    · have := (List.getElem?_eq_some_iff.mp e1).1
      omega
    · have ez : (xs.zip ys).drop k = [] := List.drop_eq_nil_iff.mpr (by rw [List.length_zip]; omega)
      exact wpAny_pure (hend [] H s1 acc c I1 (Same.refl _) hS (kk _ _ nS eS) (by rw [List.append_nil]; exact r) (by rw [ez]; exact .nil))
  | succ n ih =>
    intro k hk ts acc c H s z eS hS r hle hend
    have rl := r.length
    have hacc : acc.size < sizeLine := by
      have h1 : acc.toList.length = acc.size := by simp
      have h2 := line_big (n := 100000) (Nat.le_refl _)
      omega
    refine codeAny_builtin F.entry_extend_loop ?_
    rw [Around.under_plainId F.plain_extend_loop _]
    show wpAny _ A.in1 (pyNext (.ref y) >>= _) _ _ s
    refine wpAny_bind (wpAny_mono (zl_turn (B := A.in1) D hB z) (fun u s1 h => ?_) fun _ _ z => z.elim)
    rcases h with ⟨x, x2, T, e1, e2, rfl, hTs, hT, z1, kk⟩ | ⟨he, rfl, I1, kk⟩
    · have eS1 := kk _ _ nS eS
      have ST : S ≠ T := by
        rw [hTs]
        exact Nat.ne_of_lt (Heap.lt_size eS)
      have hS1 : (upd H T (.tup [x, x2])) S = none := by
        rw [upd_ne ST]
        exact hS
      show wpAny _ A.in1 (updateSeq S (·.push (.ref T)) >>= _) _ _ _
      refine wpAny_bind ?_
      refine wpAny_updateSeq eS1 rfl (wpAny_pure ⟨plainId_quiet F.plain_extend_loop _, ?_⟩) (Nat.le_of_lt hacc) (by show (acc.push _).size ≤ sizeLine + 1; rw [Array.size_push]; omega)
      have z2 := z1.set (h' := s1.heap.update S (Obj.mapSeq (·.push (.ref T)))) L hS1 (fun c hc e => nS (by rw [← e]; exact hc)) (Heap.SameBut.update ..)
      have sm : Same H (upd H T (.tup [x, x2])) := fun b o e => by
        rw [upd_ne (ne_of_none e hT)]
        exact e
      refine ih (k + 1) (by omega) (ts ++ [.ref T]) (acc.push (.ref T)) _ _ _ z2 (Heap.get?_update_self _ eS1 rfl) hS1 ?_ ?_ fun us H' s' acc' c' I' sm' h' e' r' o' => ?_
      · rw [Array.toList_push]
        exact r.append (.cons rfl .nil)
      · rw [List.length_append, List.length_singleton]
        omega
      · have ed : (xs.zip ys).drop k = (x, x2) :: (xs.zip ys).drop (k + 1) := by
          have l1 := (List.getElem?_eq_some_iff.mp e1).1
          have l2 := (List.getElem?_eq_some_iff.mp e2).1
          rw [List.drop_eq_getElem_cons (by rw [List.length_zip]; omega), List.getElem_zip]
          rw [(List.getElem?_eq_some_iff.mp e1).2, (List.getElem?_eq_some_iff.mp e2).2]
        refine hend (.ref T :: us) H' s' acc' c' I' (sm.trans sm') h' e' ?_ (by rw [ed]; exact .cons ⟨T, rfl, sm' _ _ upd_same⟩ o')
        rw [List.append_assoc] at r'
        exact r'
    · have ez : (xs.zip ys).drop k = [] := List.drop_eq_nil_iff.mpr (by rw [List.length_zip]; omega)
      exact wpAny_pure (hend [] H s1 acc c I1 (Same.refl _) hS (kk _ _ nS eS) (by rw [List.append_nil]; exact r) (by rw [ez]; exact .nil))
/-- list(y), y a zip just made -/
theorem call_list_zl (D : ZipApart y ti to i1 i2 l1 l2) (hB : X.A.handled = none) (hle : xs.length ≤ 100000) (hy : IsZip s.heap y ti to .none) (a : Zl X pins σ y ti to i1 i2 l1 l2 xs ys 0 H s) :
    wpAny (model X.prog X.w) X.A (call (.type "list") [.ref y]) (fun v s' => ∃ S ts H', v = .ref S ∧ Inv X pins σ (upd H' S (.lst ts)) s' ∧ Same H H' ∧ H' S = none ∧ OutsV H' ts (xs.zip ys)) NoE s := by
  have I := a.I
  have hy : s.heap.get? y = some (zipO .none false ti to) := hy
  have Sy : s.heap.objs.size ≠ y := Nat.ne_of_gt (Heap.lt_size hy)
  refine callType_codes (Q₁ := fun obj s₁ => obj = .ref s.heap.objs.size ∧ s₁ = { s with heap := s.heap.push { cls := .type "list", data := .seq #[] } }) F.called_list (F.typeCall_list_1 _) F.entry_list_init
    (code_list_new _ ⟨rfl, rfl⟩) fun obj s₁ h₁ => ?_
  obtain ⟨rfl, rfl⟩ := h₁
  have hS : (s.heap.push { cls := .type "list", data := .seq #[] }).get? s.heap.objs.size = some { cls := .type "list", data := .seq #[] } := Heap.get?_push_size _ rfl
  refine ⟨⟨_, hS, rfl⟩, F.args_list_init_2 _ _, ?_⟩
  show wpAny _ X.A.in1.in1 (do let old ← Builtin.List.listItems (.ref s.heap.objs.size); Builtin.List.listUpdate (.ref s.heap.objs.size) (fun _ => #[]); letGo old.toList.reverse; Builtin.List.listExtendWith (.ref s.heap.objs.size) (.ref y) .none) _ _ _
  refine wpAny_bind ?_
  unfold Builtin.List.listItems
  refine wpAny_bind (wpAny_seqItems hS rfl (wpAny_pure ?_))
  show wpAny _ X.A.in1.in1 (updateSeq s.heap.objs.size (fun _ => #[]) >>= fun _ => letGo (#[] : Array Value).toList.reverse >>= fun _ => Builtin.List.listExtendWith (.ref s.heap.objs.size) (.ref y) .none) _ _ _
  refine wpAny_bind (wpAny_updateSeq hS rfl ?_)
  have hS2 := Heap.get?_update_self (Obj.mapSeq (fun _ => (#[] : Array Value))) hS rfl
  refine wpAny_bind (wpAny_letGo ?_)
  unfold Builtin.List.listExtendWith
  have up : ∀ (h : Heap) (f : Obj → Obj), (∀ b o, s.heap.get? b = some o → h.get? b = some o) → ∀ b o, s.heap.get? b = some o → (h.update s.heap.objs.size f).get? b = some o := fun h f q b o e =>
    (Heap.get?_update_other _ _ (Ne.symm (Nat.ne_of_lt (Heap.lt_size e)))).trans (q b o e)
  have k1 : ∀ b o, s.heap.get? b = some o → (s.heap.push { cls := .type "list", data := .seq #[] }).get? b = some o := fun b o e => Heap.get?_push_of_some _ e
  have k2 := up _ (Obj.mapSeq (fun _ => (#[] : Array Value))) k1
  refine wpAny_bind (wpAny_typeOf (v := .ref y) (T := "zip") ⟨_, k2 _ _ hy, rfl⟩ ?_)
  have h1 : Builtin.List.listSameRef (.ref s.heap.objs.size) (.ref y) = false := by simp [Builtin.List.listSameRef, Sy]
  have h2 : (Value.type "zip" == Value.type "list") = false := by decide
  have h3 : (Value.type "zip" == Value.type "tuple") = false := by decide
  simp only [h1, h2, h3, Bool.or_false, Bool.false_eq_true, if_false]
  refine wpAny_bind (wpAny_pyIter_zip (s := { s with heap := _ }) (k2 _ _ hy) ?_)
  refine wpAny_bind (wpAny_holding ?_)
  unfold Builtin.List.listLengthHint
  refine wpAny_bind (wpAny_specialOf (v := .ref y) (T := "zip") ⟨_, k2 _ _ hy, rfl⟩ zip_no_len ?_)
  show wpAny _ X.A.in1.in1 (specialOf (Value.ref y) (Str.ofString "__length_hint__") >>= _) _ _ _
  refine wpAny_bind (wpAny_specialOf (v := .ref y) (T := "zip") ⟨_, k2 _ _ hy, rfl⟩ zip_no_hint ?_)
  refine wpAny_pure ?_
  show wpAny _ X.A.in1.in1 (rule "list.extend.makes-room" >>= fun _ => Builtin.List.listTouch (.ref s.heap.objs.size) >>= fun _ =>
    again (.builtin "list.extend.loop" ⟨[.ref s.heap.objs.size, .ref y, .none], []⟩)) _ _ _
  refine wpAny_bind (wpAny_rule ?_)
  refine wpAny_bind ?_
  show wpAny _ X.A.in1.in1 (updateSeq s.heap.objs.size (·.push .none) >>= fun _ => updateSeq s.heap.objs.size (·.pop)) _ _ _
  refine wpAny_bind (wpAny_updateSeq hS2 rfl ?_)
  have hS3 := Heap.get?_update_self (Obj.mapSeq (·.push Value.none)) hS2 rfl
  refine wpAny_updateSeq (hz := by seq_fits) hS3 rfl ?_
  have hS4 := Heap.get?_update_self (Obj.mapSeq (·.pop)) hS3 rfl
  have k4 := up _ (Obj.mapSeq (·.pop)) (up _ (Obj.mapSeq (·.push Value.none)) k2)
  have hSz := I.hok.fresh (a := s.heap.objs.size) (Nat.le_refl _)
  have L : Lst X pins s.heap.objs.size := lst_new I (Nat.le_refl _)
  refine wpAny_pure ⟨plainId_quiet F.plain_extend_loop _, ?_⟩
  have fr : ∀ {b o}, s.heap.get? b = some o → s.heap.objs.size ≠ b := fun e => Nat.ne_of_gt (Heap.lt_size e)
  have nS : s.heap.objs.size ∉ [y, ti, to, i1, i2] := fun hb => by
    obtain ⟨_, hz, ⟨u, v, hto⟩, ht, ⟨o1, q1, _⟩, ⟨o2, q2, _⟩, _⟩ := a
    simp only [List.mem_cons, List.not_mem_nil, or_false] at hb
    rcases hb with h | h | h | h | h
    · exact Sy h
    · exact fr ht h
    · exact fr hto h
    · exact fr q1 h
    · exact fr q2 h
  have z4 : Zl X pins σ y ti to i1 i2 l1 l2 xs ys 0 H { s with heap := ((((s.heap.push { cls := .type "list", data := .seq #[] }).update s.heap.objs.size (Obj.mapSeq (fun _ => (#[] : Array Value)))).update s.heap.objs.size (Obj.mapSeq (·.push Value.none))).update s.heap.objs.size (Obj.mapSeq (·.pop))) } := by
    obtain ⟨_, hz, ⟨u, v, hto⟩, ht, g1, g2, e1, e2, fp⟩ := a
    refine ⟨inv_set I rfl k4 I.bare, ?_, ⟨u, v, k4 _ _ hto⟩, k4 _ _ ht, g1.at fun o e => k4 _ o e, g2.at fun o e => k4 _ o e, e1, e2, fp⟩
    rcases hz with h | ⟨T, f, h, q⟩
    · exact .inl (k4 _ _ h)
    · exact .inr ⟨T, f, k4 _ _ h, q⟩
  refine drain_zl (A := X.A.in1) D hB L nS xs.length 0 (Nat.le_refl _) [] #[] _ H _ z4 hS4 hSz .nil (by rw [List.length_nil]; omega)
    fun ts H' s' acc' c' I' sm h' e' r' o' => ⟨rfl, s.heap.objs.size, ts, H', rfl, inv_list L I' h' e' r' ?_, sm, h', o'⟩
  have e : ts.length = (xs.zip ys).length := Paired.length o'
  rw [List.length_zip] at e
  exact line_big (by omega)
end
/-- of two lists -/
def tListZL (ta : TA) : TE := fun σ H Q => ta σ H fun vs H1 => ∃ a b xs ys, vs = [.ref a, .ref b] ∧ H1 a = some (.lst xs) ∧ H1 b = some (.lst ys) ∧ xs.length ≤ 100000 ∧ ∀ S ts H2, Same H1 H2 → H2 S = some (.lst ts) → OutsV H2 ts (xs.zip ys) → Q (.ref S) H2
theorem pe_listZL {X : Cx} {e e2 : Expr} {ta : TA} {jj : Nat} {p0 p1 p2 p3 : Pos} (hr : Room jj X.A) (hxe : X.xe = NoE) (ha : PA X [e, e2] ta) (hg : Gl X "list") (hl : X.mg "list" = none) (hgz : Gl X "zip") (hlz : X.mg "zip" = none)
    (hst : ∀ {z : Expr}, z = .Call (.Name "zip" p1) [e, e2] [] p2 → starEach [z] X.env = (false, eval z X.env) :: starEach [] X.env := by (intro z e; subst e; rfl))
    (hst2 : starEach [e, e2] X.env = (false, eval e X.env) :: starEach [e2] X.env := by rfl) (hpl2 : (backTo p2 (starEach [e2] X.env)).any (·.1) = false := by rfl) :
    PE X (.Call (.Name "list" p0) [.Call (.Name "zip" p1) [e, e2] [] p2] [] p3) (tListZL ta) := by
  refine ⟨fun pins s σ H Q I h => ?_⟩
  rw [hxe]
  refine wpAny_Call_Name_kw (ld_blt I hg hl bo_list ?_ (by decide) (by decide))
  refine PyProof.Rows.callWith_type1 ?_ (hst rfl) rfl
  rw [hst rfl]
  show wpAny _ _ (spliced ((false, eval (.Call (.Name "zip" p1) _ [] p2) X.env) :: backTo p3 (starEach [] X.env))) _ _ s
  refine Calls.spliced_cons (wpAny_Call_Name_kw (ld_blt I hgz hlz boot_zip ?_ (by decide) (by decide)))
  have hI := ha.run p2 pins s σ H _ I h
  rw [hxe] at hI
  refine PyProof.Rows.callWith_type1 (thn hI fun us s1 ⟨vs, H1, I1, r1, q1⟩ => ?_) hst2 hpl2
  obtain ⟨a, b, xs, ys, ex, ea, eb, hle, q⟩ := q1
  subst ex
  cases r1 with
  | cons r rr =>
    cases rr with
    | cons r' rr =>
      cases rr
      cases r
      cases r'
      obtain ⟨its, rv, pp1, _⟩ := I1.list (SqL.of ea)
      obtain ⟨its2, rv2, pp2, _⟩ := I1.list (SqL.of eb)
      have la : a < s1.heap.objs.size := pp1.lt
      have lb : b < s1.heap.objs.size := pp2.lt
      refine call_zip_2 pp1.isList pp2.isList fun h' hz hTI hTO h1 h2 hsz hk => Calls.spliced_nil ?_
      have I2 : Inv X pins σ H1 { s1 with heap := h' } := I1.kept (t' := s1.toks) hk
      have D := PySem.W.ktu_apart s1.heap.objs.size a b la lb
      have zl : Zl X pins σ (s1.heap.objs.size + 4) (s1.heap.objs.size + 2) (s1.heap.objs.size + 3) s1.heap.objs.size (s1.heap.objs.size + 1) a b xs ys 0 H1 { s1 with heap := h' } := by
        refine ⟨I2, .inl hz, ⟨_, _, hTO⟩, hTI, h1, h2, ea, eb, fun c hc => ?_⟩
        have hle : s1.heap.objs.size ≤ c := by
          simp only [List.mem_cons, List.not_mem_nil, or_false] at hc
          rcases hc with z | z | z | z | z <;> rw [z]
          · exact Nat.le_add_right _ _
          · exact Nat.le_add_right _ _
          · exact Nat.le_add_right _ _
          · exact Nat.le_refl _
          · exact Nat.le_add_right _ _
        exact I1.fpOk hle (I1.hok.fresh hle)
      refine wpAny_mono (call_list_zl D hr.hd hle hz zl) (fun v s5 h5 => ?_) fun _ _ z => z
      obtain ⟨S, ts, H', rfl, I5, sm, h', o'⟩ := h5
      have sm2 : Same H' (upd H' S (.lst ts)) := fun b u e => by
        rw [upd_ne (ne_of_none e h')]
        exact e
      exact ⟨.ref S, _, I5, rfl, q S ts _ (sm.trans sm2) upd_same (o'.same sm2)⟩
end Gn
namespace Lw
open PySem PySem.Spec PyProof.Rows L2 GrT GrOwn
/-! ### the record's own defs -/
def spContains (C : Addr) : Sp := fun vs H Q _ => ∃ (a : Addr) (l : List (Str × V)) (z : Int) (x : Str), vs = [.ref a, .str x] ∧ RA (fun _ => True) C H a l z ∧ Q (.bl (look x l).isSome) H
def spLen (C : Addr) : Sp := fun vs H Q _ => ∃ (a : Addr) (l : List (Str × V)) (z : Int), vs = [.ref a] ∧ RA (fun _ => True) C H a l z ∧ Q (.int l.length) H
def spGet (C : Addr) : Sp := fun vs H Q _ => ∃ (a : Addr) (l : List (Str × V)) (z : Int) (x : Str) (v : V), vs = [.ref a, .str x] ∧ RA (fun _ => True) C H a l z ∧ look x l = some v ∧ Q v H
def spSize (C : Addr) : Sp := fun vs H Q _ => ∃ (a dx tp d : Addr) (z : Int), vs = [.ref a] ∧ H a = some (.ins C dx (rf tp d z)) ∧ Q (.int z) H
def spEq (C : Addr) : Sp := fun vs H Q _ => ∃ (a : Addr) (i : Int), vs = [.ref a, .int i] ∧ Q (.bl false) H
/-- how many fields a value has, as the program asks it -/
def SzV (C : Addr) (H : Hp) (v : V) (z : Int) : Prop := (∃ i, v = .int i ∧ z = 0) ∨ ∃ a dx tp d, v = .ref a ∧ H a = some (.ins C dx (rf tp d z))
def spVs (C : Addr) : Sp := fun vs H Q _ => ∃ (v : V) (z : Int), vs = [v] ∧ SzV C H v z ∧ Q (.int z) H
section
variable {P : Program} {w : World} {K : PySem.W.Frag} {mg : Str → Option Value} {base : Heap} {C : Addr}
theorem scContains : FnScope ["self", "name"] ["self", "name"] (defScope sContains) := ⟨rfl, rfl, rfl, by decide +kernel, rfl, by decide +kernel, by decide +kernel⟩
theorem scLen : FnScope ["self"] ["self"] (defScope sLen) := ⟨rfl, rfl, rfl, by decide +kernel, rfl, by decide +kernel, by decide +kernel⟩
theorem scGet : FnScope ["self", "name"] ["self", "name"] (defScope sGet) := ⟨rfl, rfl, rfl, by decide +kernel, rfl, by decide +kernel, by decide +kernel⟩
theorem scSize : FnScope ["self"] ["self"] (defScope sSize) := ⟨rfl, rfl, rfl, by decide +kernel, rfl, by decide +kernel, by decide +kernel⟩
theorem scIter : FnScope ["self"] ["self"] (defScope sIter) := ⟨rfl, rfl, rfl, by decide +kernel, rfl, by decide +kernel, by decide +kernel⟩
theorem scEq : FnScope ["self", "other"] ["self", "other"] (defScope sEq) := ⟨rfl, rfl, rfl, by decide +kernel, rfl, by decide +kernel, by decide +kernel⟩
theorem scValueSize : FnScope ["value"] ["value"] (defScope sValueSize) := ⟨rfl, rfl, rfl, by decide +kernel, rfl, by decide +kernel, by decide +kernel⟩
theorem m_contains (R : RecK K mg C) (D : DfM K C "__contains__" "Record.__contains__" sContains ["self", "name"]) : Mth P w K mg base C 1 "__contains__" (spContains C) := by
  refine D.cal scContains (fun vs H Q E h => ?_) (fun f cdv A outer s H vs Q E hr h => ?_)
  · obtain ⟨a, l, z, x, rfl, _⟩ := h
    rfl
  · obtain ⟨a, l, z, x, rfl, ⟨⟨dx, tp, d, _, e1, e2, e3⟩, _, _⟩, q⟩ := h
    have hu := hu_of hr
    refine ⟨_, (pss_one (ps_ret (pe_cmp (pc_din hu (pv 1) (pe_fld (pv 0) rfl))))), ?_⟩
    refine ⟨_, rfl, _, rfl, a, C, dx, _, _, rfl, e1, R.cl, R.nF, rf_fields _ _ _, d, _, rfl, DGet.k (k := Sum.inr x) e3, ?_⟩
    rw [dk_val]
    exact q
theorem m_len (T : Bt mg) (R : RecK K mg C) (D : DfM K C "__len__" "Record.__len__" sLen ["self"]) : Mth P w K mg base C 1 "__len__" (spLen C) := by
  refine D.cal scLen (fun vs H Q E h => ?_) (fun f cdv A outer s H vs Q E hr h => ?_)
  · obtain ⟨a, l, z, rfl, _⟩ := h
    rfl
  · obtain ⟨a, l, z, rfl, ⟨⟨dx, tp, d, _, e1, e2, e3⟩, _, _⟩, q⟩ := h
    refine ⟨_, (pss_one (ps_ret (pe_callB call_lenD (by rfl) T.b_len PySem.boot_len (pa_cons (pe_fld (pv 0) rfl) pa_nil)))), ?_⟩
    refine ⟨_, rfl, a, C, dx, _, _, rfl, e1, R.cl, R.nF, rf_fields _ _ _, d, _, rfl, e3, ?_⟩
    rw [dk_len]
    exact q
theorem m_get (R : RecK K mg C) (D : DfM K C "__getitem__" "Record.__getitem__" sGet ["self", "name"]) : Mth P w K mg base C 1 "__getitem__" (spGet C) := by
  refine D.cal scGet (fun vs H Q E h => ?_) (fun f cdv A outer s H vs Q E hr h => ?_)
  · obtain ⟨a, l, z, x, v, rfl, _⟩ := h
    rfl
  · obtain ⟨a, l, z, x, v, rfl, ⟨⟨dx, tp, d, _, e1, e2, e3⟩, _, _⟩, hv, q⟩ := h
    have hu := hu_of hr
    refine ⟨_, (pss_cons (ps_if (pt_cmp (pc_dnotin hu (pv 1) (pe_fld (pv 0) rfl)))
      (pss_one ps_no)
      pss_nil)
      (pss_one (ps_ret (pe_dget hu (pe_fld (pv 0) rfl) (pv 1) (fun _ _ => rfl))))), ?_⟩
    have hg : valV (dk l) (Sum.inr x : Key) = some v := by rw [dk_val, hv]
    have hd := DGet.k (k := Sum.inr x) e3
    rw [hg] at hd
    exact ⟨_, rfl, _, rfl, a, C, dx, _, _, rfl, e1, R.cl, R.nF, rf_fields _ _ _, d, some v, rfl, hd, _, rfl, iteF ⟨_, rfl, a, C, dx, _, _, rfl, e1, R.cl, R.nF, rf_fields _ _ _, _, rfl, d, v, rfl, hd, q⟩⟩
theorem fn_size (R : RecK K mg C) {f : Addr} {fd : FuncData} (F : L2.Fun K "size" "Record.size" sSize f fd) : FnOk P w K mg base CX0 1 f fd ["self"] (spSize C) := by
  refine F.ok scSize (fun vs H Q E h => ?_) (fun cdv A outer s H vs Q E hr h => ?_)
  · obtain ⟨a, dx, tp, d, z, rfl, _⟩ := h
    rfl
  · obtain ⟨a, dx, tp, d, z, rfl, e1, q⟩ := h
    refine ⟨_, (pss_one (ps_ret (pe_fld (pv 0) rfl))), ?_⟩
    exact ⟨_, rfl, a, C, dx, _, _, rfl, e1, R.cl, R.nS, rf_size _ _ _, q⟩
theorem m_iter (hi : mg "iter" = none) (R : RecK K mg C) (D : DfM K C "__iter__" "Record.__iter__" sIter ["self"]) : MthS P w K mg base C 1 "__iter__" (spIt K) := by
  obtain ⟨f, fd, hm, hfn, F, b⟩ := D.ex
  refine ⟨f, fd, ["self"], Fun.okS F scIter (fun n vs H Q E h => ?_) (fun cdv A outer s H vs Q E hr h => ?_), hm, hfn, b⟩
  · obtain ⟨a, C, dx, fs, t, zs, rfl, _⟩ := h
    rfl
  · obtain ⟨a, C, dx, fs, t, zs, rfl, e1, cl, na, el, hq, q⟩ := h
    refine ⟨_, (pss_one (ps_ret (pe_callB call_iterT (by rfl) hi (by decide +kernel) (pa_cons (pe_fld (pv 0) rfl) pa_nil)))), ?_⟩
    exact ⟨_, rfl, a, C, dx, _, _, rfl, e1, cl, na, el, t, zs, rfl, hq, fun it h1 h2 => q it h1 h2⟩
theorem m_eq (T : Bu mg) (R : RecK K mg C) (D : DfM K C "__eq__" "Record.__eq__" sEq ["self", "other"]) : Mth P w K mg base C 1 "__eq__" (spEq C) := by
  refine D.cal scEq (fun vs H Q E h => ?_) (fun f cdv A outer s H vs Q E hr h => ?_)
  · obtain ⟨a, i, rfl, _⟩ := h
    rfl
  · obtain ⟨a, i, rfl, q⟩ := h
    refine ⟨_, (pss_one (ps_ret (pe_and (pe_callB call_isi (by rfl) T.b_isinstance bo_isinstance (pa_cons (pv 1) (pa_cons (pe_glob (by rfl) R.mgC (v := .ref C) rfl) pa_nil))) pe_no))), ?_⟩
    exact ⟨_, rfl, _, _, _, _, _, rfl, .own C, .base (.int i), R.kI, _, rfl, iteF q⟩
theorem pe_size {X : Cx} {e : Expr} {pos : Pos} {ta : TE} {p g : Addr} {fd : FuncData} {j : Nat} (R : RecK X.K X.mg C) (hp : PropOf X.K C "size" p g) (F : L2.Fun X.K "size" "Record.size" sSize g fd) (b : Binds X.K fd ["self"] []) (hr : Room j X.A) (hk : 2 ≤ j) (he : PE X e ta)
    (hab : attributeBase e "size" X.env (eval e X.env) = eval e X.env) : PE X (.Attribute e "size" pos) (tProp C (spSize C) [] E0 ta) :=
  pe_prop he R.cl hp (fn_size R F) (hr.mono hk) b .nil pass0 hab
/-- the property, as the top has made it -/
structure PrK (K : PySem.W.Frag) (C : Addr) : Prop where
  ex : ∃ p g fd, PropOf K C "size" p g ∧ L2.Fun K "size" "Record.size" sSize g fd ∧ Binds K fd ["self"] []
theorem pe_sizeK {X : Cx} {e : Expr} {pos : Pos} {ta : TE} {j : Nat} (R : RecK X.K X.mg C) (h : PrK X.K C) (hr : Room j X.A) (hk : 2 ≤ j) (he : PE X e ta)
    (hab : attributeBase e "size" X.env (eval e X.env) = eval e X.env) : PE X (.Attribute e "size" pos) (tProp C (spSize C) [] E0 ta) := by
  obtain ⟨p, g, fd, hp, F, b⟩ := h.ex
  exact pe_size R hp F b hr hk he hab
theorem c_value_size (T : Bu mg) (R : RecK K mg C) (pr : PrK K C) (D : Dfn K mg "value_size" sValueSize ["value"]) : Cal P w K mg base 3 "value_size" (spVs C) := by
  refine D.cal scValueSize (fun vs H Q E h => ?_) (fun f cdv A outer s H vs Q E hr h => ?_)
  · obtain ⟨v, z, rfl, _⟩ := h
    rfl
  · obtain ⟨v, z, rfl, hv, q⟩ := h
    refine ⟨_, (pss_one (ps_ret (pe_ifExp (pt_val (pe_callB call_isi (by rfl) T.b_isinstance bo_isinstance (pa_cons (pv 0) (pa_cons (pe_glob (by rfl) R.mgC (v := .ref C) rfl) pa_nil)))) (pe_sizeK R pr hr (by decide) (pv 0) rfl) pe_int))), ?_⟩
    rcases hv with ⟨i, rfl, rfl⟩ | ⟨a, dx, tp, d, rfl, e1⟩
    · exact ⟨_, rfl, _, _, _, _, _, rfl, .own C, .base (.int i), R.kI, _, rfl, iteF q⟩
    · exact ⟨_, rfl, _, _, _, _, _, rfl, .own C, R.ty e1, R.kRC, _, rfl, iteT ⟨_, rfl, a, dx, _, rfl, e1, a, dx, tp, d, z, rfl, e1, q⟩⟩
end
end Lw
namespace Lw
open PySem PySem.Spec PyProof.Rows L2 GrT GrOwn
def spIsName : Sp := fun vs H Q _ => ∃ x : Str, vs = [.str x] ∧ Good x ∧ ∀ H', Same H H' → Q (.bl true) H'
theorem a_tl : (Str.ofString "a").cps.toList = [97] := by decide +kernel
theorem z_tl : (Str.ofString "z").cps.toList = [122] := by decide +kernel
theorem ge_a {c : Nat} (h : letter c) : (!decide ((⟨#[c]⟩ : Str).cps.toList < (Str.ofString "a").cps.toList)) = true := by
  rw [a_tl, Bool.not_eq_true', decide_eq_false_iff_not]
  show ¬ ([c] < [97])
  intro q
  have h' := h.1
  rcases List.cons_lt_cons_iff.mp q with e | ⟨_, e⟩
  · omega
  · exact absurd e (List.not_lt_nil _)
theorem le_z {c : Nat} (h : letter c) : (!decide ((Str.ofString "z").cps.toList < (⟨#[c]⟩ : Str).cps.toList)) = true := by
  rw [z_tl, Bool.not_eq_true', decide_eq_false_iff_not]
  show ¬ ([122] < [c])
  intro q
  have h' := h.2
  rcases List.cons_lt_cons_iff.mp q with e | ⟨_, e⟩
  · omega
  · exact absurd e (List.not_lt_nil _)
section
variable {P : Program} {w : World} {K : PySem.W.Frag} {mg : Str → Option Value} {base : Heap} {C : Addr}
theorem scIsName : FnScope ["text", "letter"] ["text"] (defScope sIsName) := ⟨rfl, rfl, rfl, by decide +kernel, rfl, by decide +kernel, by decide +kernel⟩
theorem c_is_name (T : Bu mg) (ba : mg "all" = none) {tL : Tok} (hL : mg "LONGEST_NAME" = some (.int 30 tL)) (D : Dfn K mg "is_name" sIsName ["text"]) : Cal P w K mg base 1 "is_name" spIsName := by
  refine D.cal scIsName (fun vs H Q E h => ?_) (fun f cdv A outer s H vs Q E hr h => ?_)
  · obtain ⟨x, rfl, _⟩ := h
    rfl
  · obtain ⟨x, rfl, ⟨g1, g2, g3⟩, q⟩ := h
    refine ⟨_, (pss_one (ps_ret (pe_and (pe_chain op_le op_le pe_int (pe_callB call_len_str (by rfl) T.b_len PySem.boot_len (pa_cons (pv 0) pa_nil)) (pe_glob (by rfl) hL (v := .int 30) ⟨tL, rfl⟩))
      (pe_one (pe_callB (cr_all rfl) (by rfl) ba (by decide +kernel) (pa_cons (pe_lc (own := [("letter", 1)]) (g := gName 1) (tt := tYes) rfl scIsName.nd (pi_str (pv 0)) (blkOk_by (own := [("letter", 1)]) (N := ["text", "letter"]) (sc := defScope sIsName) (by decide +kernel)) (fun _ _ _ _ _ => pg_name (i := 1) scIsName.nd rfl (Or.inl rfl)) (fun _ _ _ _ _ => pts_nil) (fun _ _ _ _ _ => (by exact (pe_chain op_le_str op_le_str pe_str (pv 1) pe_str)))) pa_nil)))))), ?_⟩
    refine ⟨_, rfl, x, rfl, line_big (by omega), _, _, rfl, rfl, _, rfl, ?_⟩
    rw [if_pos (decide_eq_true (by omega))]
    refine ⟨_, _, rfl, rfl, _, rfl, ?_⟩
    rw [if_pos (decide_eq_true (by omega))]
    refine ⟨_, rfl, _, rfl, fun Z hZ => lc_it walk_str (fun i H5 => H5 Z = some (.lst ((List.replicate i true).map V.bl)) ∧ Same H H5) ⟨upd_same, Same.new (Same.refl _) hZ⟩ (fun _ _ _ _ => True.intro) ?_ ?_⟩
    · rintro i y H5 H6 hi ⟨eZ, sm⟩ ⟨rfl, c, hc, rfl⟩
      have lc : letter c := g3 c (by
        rw [← Array.getElem?_toList] at hc
        exact List.mem_of_getElem? hc)
      have hsz : x.cps.size = x.length := rfl
      refine ⟨rfl, iteT (A := _) (B := True) (iteT ⟨_, rfl, _, _, rfl, rfl, _, rfl, ?_⟩)⟩
      rw [if_pos (ge_a lc)]
      refine ⟨_, _, rfl, rfl, _, eZ, line_big (by rw [List.length_map, List.length_replicate]; omega), ?_, ?_⟩
      · rw [upd_same, le_z lc, List.replicate_succ', List.map_append]
        rfl
      · intro b o e
        rw [upd_ne (ne_of_none e hZ)]
        exact sm b o e
    · rintro H5 ⟨eZ, sm⟩
      refine ⟨Z, _, rfl, .of eZ, ?_⟩
      have e : (List.replicate x.cps.size true).all id = true := by
        rw [List.all_eq_true]
        intro b hb
        rw [List.eq_of_mem_replicate hb]
        rfl
      rw [e]
      exact q _ sm
end
end Lw
namespace Lw
open PySem PySem.Spec PyProof.Rows L2 GrT GrOwn
section
variable {J : It} {n : Nat} {G : Hp → Prop} {Y : Nat → Hp → V → Hp → Prop}
/-- the loop of a dict comprehension, Pv by the turn and the heap -/
theorem dc_it (w : Walk J n G Y) {g : TG} {tt : TT} {tk tv : TE} {vs : List Nat} {σ : L2.St} {H1 : Hp} {D : Addr} {Qd : Hp → Prop} (Pv : Nat → Hp → Prop) (h0 : Pv 0 (upd H1 D (.dK []))) (hG : ∀ i H, i ≤ n → Pv i H → G H)
    (hs : ∀ i x H H', i < n → Pv i H → Y i H x H' → g x (wipe σ vs) H' fun σ2 H2 => wipe σ2 vs = wipe σ vs ∧ tt σ2 H2 fun b H3 =>
      if b = true then tk σ2 H3 fun y H4 => tv σ2 H4 fun z H5 => ∃ kvs k, y = kV k ∧ H5 D = some (.dK kvs) ∧ kvs.length < sizeLine ∧ Pv (i + 1) (upd H5 D (.dK (putK kvs k z))) else Pv (i + 1) H3) (hd : ∀ H, Pv n H → Qd H) :
    ∃ W : Nat → Nat → Hp → Prop, (∃ m, W 0 m (upd H1 D (.dK []))) ∧ ∀ i m H, W i m H →
      (J.stop i H ∧ Qd H) ∨ (J.go i H ∧ ∃ Nx : Hp → Prop, (∀ H', Nx H' → ∃ m', m' < m ∧ W (i + 1) m' H') ∧ ∀ x H', J.yld i H x H' → g x (wipe σ vs) H' fun σ2 H2 => wipe σ2 vs = wipe σ vs ∧ tt σ2 H2 fun b H3 =>
        if b = true then tk σ2 H3 fun y H4 => tv σ2 H4 fun z H5 => ∃ kvs k, y = kV k ∧ H5 D = some (.dK kvs) ∧ kvs.length < sizeLine ∧ Nx (upd H5 D (.dK (putK kvs k z))) else Nx H3) := by
  refine ⟨fun i m H => m = n - i ∧ i ≤ n ∧ Pv i H, ⟨n, by simp, Nat.zero_le _, h0⟩, ?_⟩
  rintro i m H ⟨rfl, hi, p⟩
  have q := hG i H hi p
  by_cases hlt : i < n
  · exact .inr ⟨w.goes i H hlt q, Pv (i + 1), fun H' p' => ⟨n - (i + 1), by omega, rfl, hlt, p'⟩, fun x H' y => hs i x H H' hlt p (w.yields i H x H' hlt q y)⟩
  · have e : i = n := by omega
    subst e
    exact .inl ⟨w.stops H q, hd H p⟩
end
theorem sum_perm {α : Type} {f : α → Int} {l m : List α} (h : l.Perm m) : (l.map f).sum = (m.map f).sum := by
  induction h with
  | nil => rfl
  | cons x _ ih => rw [List.map_cons, List.map_cons, List.sum_cons, List.sum_cons, ih]
  | swap x y l =>
    simp only [List.map_cons, List.sum_cons]
    omega
  | trans _ _ ih1 ih2 => rw [ih1, ih2]
def spInit (C : Addr) : Sp := fun vs H Q _ => ∃ (a dx d0 : Addr) (l0 : List (Str × V)) (sz : Str → Int), vs = [.ref a, .ref d0] ∧ H a = some (.ins C dx []) ∧ H d0 = some (.dK (dk l0)) ∧ (names l0).Nodup ∧ l0.length ≤ 40 ∧
  (∀ x v, look x l0 = some v → SzV C H v (sz x)) ∧
  ∀ (l : List (Str × V)) H', RA (fun b => b = a ∨ H b = none) C H' a l (l0.length + ((names l0).map sz).sum) → (names l).Perm (names l0) → (∀ x, look x l = look x l0) → Fx a H H' → Q .non H'
section
variable {P : Program} {w : World} {K : PySem.W.Frag} {mg : Str → Option Value} {base : Heap} {C : Addr}
theorem scInit : FnScope ["self", "fields", "names", "name"] ["self", "fields"] (defScope sInit) := ⟨rfl, rfl, rfl, by decide +kernel, rfl, by decide +kernel, by decide +kernel⟩
theorem fn_init (T : Bu mg) (R : RecK K mg C) (c_value_size : Cal P w K mg base 3 "value_size" (spVs C)) {f : Addr} {fd : FuncData} (F : L2.Fun K "__init__" "Record.__init__" sInit f fd) : FnOk P w K mg base CX0 4 f fd ["self", "fields"] (spInit C) := by
  refine F.ok scInit (fun vs H Q E h => ?_) (fun cdv A outer s H vs Q E hr h => ?_)
  · obtain ⟨a, dx, d0, l0, sz, rfl, _⟩ := h
    rfl
  · obtain ⟨a, dx, d0, l0, sz, rfl, ea, ed, nd, hl, hsz, q⟩ := h
    have hu := hu_of hr
    refine ⟨_, (pss_cons (ps_set (i := 2) scInit.nd rfl (Or.inl rfl) (pe_callB cr_sortedS (by rfl) T.b_sorted bo_sorted (pa_cons (pe_lock (pe_lc (own := [("name", 3)]) (g := gName 3) (tt := tYes) rfl scInit.nd (pi_keys (pv 1)) (blkOk_by (own := [("name", 3)]) (N := ["self", "fields", "names", "name"]) (sc := defScope sInit) (by decide +kernel)) (fun _ _ _ _ _ => pg_name (i := 3) scInit.nd rfl (Or.inl rfl)) (fun _ _ _ _ _ => pts_nil) (fun _ _ _ _ _ => (by exact (pe_callTy SkE.call_str_str (by rfl) T.b_str bo_str (pa_cons (pv 3) pa_nil)))))) pa_nil)))
      (pss_cons (ps_fld (pv 0) (pe_callTy call_tuple_of (by rfl) T.b_tuple bo_tuple (pa_cons (pv 2) pa_nil)) rfl)
      (pss_cons (ps_fld (pv 0) (pe_dc (own := [("name", 3)]) (g := gName 3) (tt := tYes) rfl scInit.nd (pi_list (pv 2)) (blkOk_by (own := [("name", 3)]) (N := ["self", "fields", "names", "name"]) (sc := defScope sInit) (by decide +kernel)) (fun _ _ _ _ _ => pg_name (i := 3) scInit.nd rfl (Or.inl rfl)) (fun _ _ _ _ _ => pts_nil) (fun _ _ _ _ _ => (by exact (pv 3))) (fun _ _ _ _ _ => (by exact (pe_dget hu (pv 1) (pv 3) (fun _ _ => rfl))))) rfl)
      (pss_one (ps_fld (pv 0) (pe_op op_add (pe_callB call_len_seq (by rfl) T.b_len PySem.boot_len (pa_cons (pv 2) pa_nil)) (pe_callB (cr_sum rfl) (by rfl) T.b_sum bo_sum (pa_cons (pe_lc (own := [("name", 3)]) (g := gName 3) (tt := tYes) rfl scInit.nd (pi_list (pv 2)) (blkOk_by (own := [("name", 3)]) (N := ["self", "fields", "names", "name"]) (sc := defScope sInit) (by decide +kernel)) (fun _ _ _ _ _ => pg_name (i := 3) scInit.nd rfl (Or.inl rfl)) (fun _ _ _ _ _ => pts_nil) (fun _ _ _ _ _ => (by exact (pe_c c_value_size hr (by decide) rfl (pa_cons (pe_dget hu (pv 1) (pv 3) (fun _ _ => rfl)) pa_nil))))) pa_nil))) rfl))))), ?_⟩
    refine ⟨d0, .dK (dk l0), ed, True.intro, fun od => ⟨_, rfl, d0, od, rfl, .inl ⟨_, upd_same, fun Z hZ => lc_it walk_keys (fun i H5 => H5 Z = some (.lst (((names l0).take i).map V.str)) ∧ Same (upd H d0 (.frz od (.dK (dk l0)))) H5)
      ⟨upd_same, Same.new (Same.refl _) hZ⟩ ?_ ?_ ?_⟩⟩⟩
    · rintro i H5 _ ⟨_, sm⟩
      exact sm _ _ upd_same
    · rintro i x H5 H6 hi ⟨eZ, sm⟩ ⟨rfl, k', v', hk, rfl⟩
      obtain ⟨x, rfl, hx⟩ := dk_at hk
      refine ⟨rfl, iteT (A := _) (B := True) (iteT ⟨_, rfl, x, rfl, _, eZ, line_big (by rw [List.length_map, List.length_take, show (names l0).length = l0.length from List.length_map _]; omega), ?_, ?_⟩)⟩
      · have hn : (names l0)[i]? = some x := by rw [List.getElem?_map, hx]; rfl
        rw [upd_same, List.take_add_one, hn]
        simp
      · intro b o e
        rw [upd_ne (ne_of_none e hZ)]
        exact sm b o e
    · rintro H5 ⟨eZ, sm⟩
      have hn : (names l0).length = l0.length := List.length_map _
      rw [dk_len, ← hn, List.take_length] at eZ
      have ea5 := sm _ _ (upd_same (H := H) (a := d0) (o := .frz od (.dK (dk l0))))
      have aZ : Z ≠ d0 := (ne_of_none upd_same hZ).symm
      refine ⟨ea5, Z, _, rfl, .of (by rw [upd_ne aZ]; exact eZ), by rw [hn]; omega, fun ys W pm so hW => ?_⟩
      have s1 : Same H (upd H5 d0 (.dK (dk l0))) := Same.unlock ed sm
      have s2 : Same H (upd (upd H5 d0 (.dK (dk l0))) W (.lst (ys.map V.str))) := Same.new s1 hW
      have eW : (upd (upd H5 d0 (.dK (dk l0))) W (.lst (ys.map V.str))) W = some (.lst (ys.map V.str)) := upd_same
      generalize upd (upd H5 d0 (.dK (dk l0))) W (.lst (ys.map V.str)) = H1 at s2 eW ⊢
      clear sm s1 ea5 eZ hZ hW
      have hyl : ys.length = l0.length := by rw [pm.length_eq, hn]
      have ydn : ys.Nodup := pm.nodup_iff.mpr nd
      have ea1 := s2 _ _ ea
      have ed1 := s2 _ _ ed
      have da : d0 ≠ a := fun e => by
        rw [e, ea] at ed
        cases ed
      have Wa : W ≠ a := fun e => by
        rw [e, ea1] at eW
        cases eW
      -- self.names
      refine ⟨_, rfl, W, _, rfl, .inl ⟨SqL.of eW, fun tp htp => ?_⟩⟩
      have ta : tp ≠ a := (ne_of_none ea1 htp).symm
      have htp0 : H tp = none := s2.free htp
      have s3 : Same H (upd H1 tp (.tup (ys.map V.str))) := Same.new s2 htp
      have eW3 : (upd H1 tp (.tup (ys.map V.str))) W = some (.lst (ys.map V.str)) := by
        rw [upd_ne (ne_of_none eW htp)]
        exact eW
      have et3 : (upd H1 tp (.tup (ys.map V.str))) tp = some (.tup (ys.map V.str)) := upd_same
      generalize upd H1 tp (.tup (ys.map V.str)) = H2 at s3 eW3 et3 ⊢
      refine ⟨_, rfl, a, C, dx, [], rfl, s3 _ _ ea, R.cl, R.nN, (by show 0 < 1000; decide), ?_⟩
      have x4 : Fx a H (upd H2 a (.ins C dx (putF "names" (.ref tp) []))) := fun b o nb e => by
        rw [upd_ne nb]
        exact s3 b o e
      have ea4 : (upd H2 a (.ins C dx (putF "names" (.ref tp) []))) a = some (.ins C dx (putF "names" (.ref tp) [])) := upd_same
      have eW4 : (upd H2 a (.ins C dx (putF "names" (.ref tp) []))) W = some (.lst (ys.map V.str)) := by
        rw [upd_ne Wa]
        exact eW3
      have et4 : (upd H2 a (.ins C dx (putF "names" (.ref tp) []))) tp = some (.tup (ys.map V.str)) := by
        rw [upd_ne ta]
        exact et3
      generalize upd H2 a (.ins C dx (putF "names" (.ref tp) [])) = H3 at x4 ea4 eW4 et4 ⊢
      clear s3 eW3 et3
      -- self._fields
      have get : ∀ x ∈ ys, ∃ v, look x l0 = some v := fun x hx => look_some (pm.mem_iff.mp hx)
      obtain ⟨l, hlY, hlL⟩ : ∃ l : List (Str × V), names l = ys ∧ ∀ p ∈ l, look p.1 l0 = some p.2 := by
        refine ⟨ys.map fun x => (x, (look x l0).getD .non), by simp [names, Function.comp_def], fun p hp => ?_⟩
        obtain ⟨x, hx, rfl⟩ := List.mem_map.mp hp
        obtain ⟨v, hv⟩ := get x hx
        show look x l0 = some ((look x l0).getD .non)
        rw [hv]
        rfl
      have hll : l.length = ys.length := by rw [← hlY]; simp [names]
      refine ⟨_, rfl, W, rfl, ⟨_, SqL.of eW4⟩, fun d hd => dc_it (walk_list (xs := ys.map V.str)) (fun i H5 => H5 d = some (.dK (dk (l.take i))) ∧ Same H3 H5) ⟨upd_same, Same.new (Same.refl _) hd⟩ (fun i H5 _ h => SqL.of (h.2 _ _ eW4)) ?_ ?_⟩
      · rintro i v H5 H6 hi ⟨eZ, sm⟩ ⟨rfl, hk⟩
        have hi2 : i < l.length := by
          rw [List.length_map] at hi
          omega
        obtain ⟨⟨x, u⟩, hx⟩ : ∃ p, l[i]? = some p := ⟨l[i], List.getElem?_eq_getElem hi2⟩
        have hyx : ys[i]? = some x := by
          rw [← hlY]
          show (l.map (·.1))[i]? = some x
          rw [List.getElem?_map, hx]
          rfl
        have ev : v = V.str x := by
          rw [List.getElem?_map, hyx] at hk
          exact (Option.some.inj hk).symm
        subst ev
        have hv := hlL _ (List.mem_of_getElem? hx)
        have hg : valV (dk l0) (Sum.inr x : Key) = some u := by rw [dk_val]; exact hv
        have ed5 : H6 d0 = some (.dK (dk l0)) := sm _ _ (x4 _ _ da ed)
        have hdg := DGet.k (k := Sum.inr x) ed5
        rw [hg] at hdg
        refine ⟨rfl, iteT (A := _) (B := True) (iteT ⟨_, rfl, _, rfl, _, rfl, d0, u, rfl, hdg, _, Sum.inr x, rfl, eZ, Nat.lt_of_lt_of_le (m := 100) (by rw [dk_len, List.length_take]; omega) (line_big (by decide)), ?_, ?_⟩)⟩
        · have hno : valV (dk (l.take i)) (Sum.inr x : Key) = none := by
            rw [dk_val, look_none]
            intro hm
            have e1 : names (l.take i) = (names l).take i := by simp [names, List.map_take]
            rw [e1, hlY] at hm
            obtain ⟨j, hj, ej⟩ := List.mem_take_iff_getElem.mp hm
            have hi3 : i < ys.length := by omega
            have e2 : ys[i] = x := by
              rw [List.getElem?_eq_getElem hi3] at hyx
              exact Option.some.inj hyx
            have := (List.getElem_inj ydn).mp (ej.trans e2.symm)
            omega
          rw [upd_same, putK_new _ hno, List.take_add_one, hx]
          simp [dk]
        · intro b o e
          rw [upd_ne (ne_of_none e hd)]
          exact sm b o e
      · rintro H5 ⟨eZ, sm⟩
        rw [List.length_map, ← hll, List.take_length] at eZ
        have ad : a ≠ d := ne_of_none ea4 hd
        have hd0 : H d = none := by
          cases e : H d with
          | none => rfl
          | some o =>
            rw [x4 d o ad.symm e] at hd
            cases hd
        have ea5 := sm _ _ ea4
        have et5 := sm _ _ et4
        have eW5 := sm _ _ eW4
        have x5 : Fx a H H5 := fun b o nb e => sm _ _ (x4 b o nb e)
        refine ⟨_, rfl, a, C, dx, _, rfl, ea5, R.cl, R.nF, (by show 1 < 1000; decide), ?_⟩
        have x6 : Fx a H (upd H5 a (.ins C dx (putF "_fields" (.ref d) (putF "names" (.ref tp) [])))) := fun b o nb e => by
          rw [upd_ne nb]
          exact x5 b o nb e
        have ea6 : (upd H5 a (.ins C dx (putF "_fields" (.ref d) (putF "names" (.ref tp) [])))) a = some (.ins C dx (putF "_fields" (.ref d) (putF "names" (.ref tp) []))) := upd_same
        have eW6 : (upd H5 a (.ins C dx (putF "_fields" (.ref d) (putF "names" (.ref tp) [])))) W = some (.lst (ys.map V.str)) := by
          rw [upd_ne Wa]
          exact eW5
        have et6 : (upd H5 a (.ins C dx (putF "_fields" (.ref d) (putF "names" (.ref tp) [])))) tp = some (.tup (ys.map V.str)) := by
          rw [upd_ne ta]
          exact et5
        have ed6 : (upd H5 a (.ins C dx (putF "_fields" (.ref d) (putF "names" (.ref tp) [])))) d = some (.dK (dk l)) := by
          rw [upd_ne ad.symm]
          exact eZ
        generalize upd H5 a (.ins C dx (putF "_fields" (.ref d) (putF "names" (.ref tp) []))) = H6 at x6 ea6 eW6 et6 ed6 ⊢
        -- self._size
        refine ⟨_, rfl, W, _, rfl, .inl (SqL.of eW6), _, rfl, W, rfl, ⟨_, SqL.of eW6⟩, fun Z hZ => lc_it (walk_list (xs := ys.map V.str)) (fun i H7 => H7 Z = some (.lst (((ys.map sz).take i).map V.int)) ∧ Same H6 H7) ⟨upd_same, Same.new (Same.refl _) hZ⟩ (fun i H7 _ h => SqL.of (h.2 _ _ eW6)) ?_ ?_⟩
        · rintro i v H7 H8 hi ⟨eZ7, sm7⟩ ⟨rfl, hk⟩
          have hi2 : i < ys.length := by
            rw [List.length_map] at hi
            exact hi
          obtain ⟨x, hyx⟩ : ∃ p, ys[i]? = some p := ⟨ys[i], List.getElem?_eq_getElem hi2⟩
          have ev : v = V.str x := by
            rw [List.getElem?_map, hyx] at hk
            exact (Option.some.inj hk).symm
          subst ev
          obtain ⟨u, hu2⟩ := get x (List.mem_of_getElem? hyx)
          have ed8 : H8 d0 = some (.dK (dk l0)) := sm7 _ _ (x6 _ _ da ed)
          have hdg := DGet.k (k := Sum.inr x) ed8
          rw [dk_val, hu2] at hdg
          have sv : SzV C H8 u (sz x) := by
            rcases hsz x u hu2 with h | ⟨b, dy, tq, dq, e1, e2⟩
            · exact .inl h
            · refine .inr ⟨b, dy, tq, dq, e1, sm7 _ _ (x6 b _ (fun e => ?_) e2)⟩
              rw [e, ea] at e2
              exact absurd (HO.ins.inj (Option.some.inj e2)).2.2 (by
                intro z
                have := congrArg (fun l => List.lookup ("_size" : Str) l) z
                simp only [rf_size] at this
                cases this)
          refine ⟨rfl, iteT (A := _) (B := True) (iteT ⟨_, rfl, _, rfl, d0, u, rfl, hdg, u, sz x, rfl, sv, _, eZ7, line_big (by rw [List.length_map, List.length_take, List.length_map]; omega), ?_, ?_⟩)⟩
          · rw [upd_same, List.take_add_one, List.getElem?_map, hyx]
            simp
          · intro b o e
            rw [upd_ne (ne_of_none e hZ)]
            exact sm7 b o e
        · rintro H7 ⟨eZ7, sm7⟩
          have hys : (ys.map sz).length = ys.length := List.length_map _
          rw [List.length_map, ← hys, List.take_length] at eZ7
          refine ⟨Z, _, rfl, .of eZ7, _, _, rfl, rfl, _, rfl, a, C, dx, _, rfl, sm7 _ _ ea6, R.cl, R.nS, (by show 2 < 1000; decide), ?_⟩
          have hz : ((ys.map V.str).length : Int) + (ys.map sz).sum = (l0.length : Int) + ((names l0).map sz).sum := by
            rw [List.length_map, hyl, sum_perm pm]
          refine q l _ ⟨⟨dx, tp, d, ⟨.inl rfl, .inr htp0, .inr hd0⟩, ?_, ?_, ?_⟩, by rw [hlY]; exact ydn, by rw [hlY]; exact so⟩ (by rw [hlY]; exact pm) (fun x => ?_) fun b o nb e => ?_
          · rw [upd_same, ← hz]
            rfl
          · rw [upd_ne ta, hlY]
            exact sm7 _ _ et6
          · rw [upd_ne ad.symm]
            exact sm7 _ _ ed6
          · cases e : look x l with
            | some v => exact (hlL _ (look_mem e)).symm
            | none =>
              refine (look_none.mpr fun hm => ?_).symm
              exact look_none.mp e (by rw [hlY]; exact pm.mem_iff.mpr hm)
          · rw [upd_ne nb]
            exact sm7 _ _ (x6 b o nb e)
end
end Lw
namespace Lw
open PySem PySem.Spec PyProof.Rows L2 GrT GrOwn
/-- the dicts of a tree all stand in the heap -/
theorem Tr.ex {S : Addr → Prop} {H : Hp} {L : Nat} : ∀ {n : Nat} {v : V} {t : T}, Tr S H L n v t → Tr (fun b => S b ∧ H b ≠ none) H L n v t
  | 0, _, _, h => h
  | n + 1, v, t, h => by
    rcases h with h | ⟨a, l, fs, e1, e2, es, e3, e4, e5⟩
    · exact .inl h
    · exact .inr ⟨a, l, fs, e1, e2, ⟨es, by rw [e3]; exact fun z => by cases z⟩, e3, e4, e5.imp fun _ _ _ q => Tr.ex q⟩
/-- a field's size by its name -/
def szf (fs : List (Str × T)) (x : Str) : Int := match look x fs with | some u => nf u | none => 0
theorem szf_sum : ∀ {gs fs : List (Str × T)}, (∀ p ∈ gs, look p.1 fs = some p.2) → ((names gs).map (szf fs)).sum + gs.length = nfs gs
  | [], _, _ => rfl
  | (x, t) :: r, fs, h => by
    have e : look x fs = some t := h (x, t) List.mem_cons_self
    have ih := szf_sum (gs := r) (fs := fs) fun p hp => h p (List.mem_cons_of_mem _ hp)
    have e2 : szf fs x = nf t := by
      unfold szf
      rw [e]
    show (szf fs x :: (names r).map (szf fs)).sum + ((r.length + 1 : Nat) : Int) = nfs ((x, t) :: r)
    rw [List.sum_cons, e2, nfs]
    omega
theorem nfs_len {fs : List (Str × T)} (nd : (names fs).Nodup) : (fs.length : Int) + ((names fs).map (szf fs)).sum = nfs fs := by
  have := szf_sum (gs := fs) (fs := fs) fun p hp => mem_look nd hp
  omega
theorem put_new {x : Str} {v : V} : ∀ {l : List (Str × V)}, x ∉ names l → put x v l = l ++ [(x, v)]
  | [], _ => rfl
  | (z, w) :: r, h => by
    have h' : z ≠ x ∧ x ∉ names r := ⟨fun e => h (by rw [← e]; exact List.mem_cons_self), fun e => h (List.mem_cons_of_mem _ e)⟩
    unfold put
    rw [if_neg h'.1, put_new h'.2]
    rfl
theorem Al.snoc {R : V → T → Prop} {l : List (Str × V)} {fs : List (Str × T)} {x : Str} {v : V} {t : T} (h : Al R l fs) (r : R v t) : Al R (l ++ [(x, v)]) (fs ++ [(x, t)]) := by
  induction h with
  | nil => exact .cons ⟨rfl, r⟩ .nil
  | cons a _ ih => exact .cons a ih
theorem Rc.sz {S : Addr → Prop} {C : Addr} {H : Hp} {n : Nat} {v : V} {t : T} (h : Rc S C H n v t) : SzV C H v (nf t) := by
  refine h.cases (fun i e1 e2 => .inl ⟨i, e1, by rw [e2, nf]⟩) fun k a l fs _ e1 e2 ra _ _ _ => ?_
  obtain ⟨⟨dx, tp, d, _, q, _⟩, _, _⟩ := ra
  exact .inr ⟨a, dx, tp, d, e1, by rw [e2, nf]; exact q⟩
def spMake (C : Addr) (n : Nat) : Sp := fun vs H Q _ => ∃ (v : V) (S : Addr → Prop) (fs : List (Str × T)), vs = [v] ∧ Tr S H 40 (n + 1) v (.fds fs) ∧ ∀ v' H', Rc (fun b => H b = none) C H' (n + 1) v' (.fds fs) → Same H H' → Q v' H'
def spMakeR (C : Addr) : Nat → Sp
  | 0 => spNo
  | n + 1 => spMake C n
/-- the static method, as the top has made it -/
structure StK (K : PySem.W.Frag) (C : Addr) : Prop where
  ex : ∃ p g fd, SMet K C (.type "type") "make" p g ∧ L2.Fun K "make" "Record.make" sMake g fd ∧ Binds K fd ["fields"] []
structure SCal (P : Program) (w : World) (K : PySem.W.Frag) (mg : Str → Option Value) (base : Heap) (C : Addr) (k : Nat) (sp : Sp) : Prop where
  ex : ∃ p g fd ps, SMet K C (.type "type") "make" p g ∧ FnOk P w K mg base CX0 k g fd ps sp ∧ Binds K fd ps []
/-- the class is made: its __init__ -/
structure InK (K : PySem.W.Frag) (C : Addr) : Prop where
  ex : ∃ f fd, Mk K C f ∧ L2.Fun K "__init__" "Record.__init__" sInit f fd ∧ Binds K fd ["self", "fields"] []
section
variable {X : Cx} {C : Addr} {k j : Nat} {sp : Sp} {o e : Expr} {es : List Expr} {pos apos : Pos} {ta : TE} {t : TA} {pl : Sem Bool}
theorem pe_smC (he : PE X o ta) (c : SCal X.prog X.w X.K X.mg X.base C k sp) (hr : Room j X.A) (hk : k ≤ j) (ha : PA X (e :: es) t)
    (hst : starEach (e :: es) X.env = (false, eval e X.env) :: starEach es X.env := by rfl) (hpl : (backTo pos (starEach es X.env)).any (·.1) = false := by rfl)
    (ht : eval (.Call (.Attribute o "make" apos) (e :: es) [] pos) X.env = (do
      let ov ← eval o X.env
      standAt apos.atName
      let (f, first) ← holding [ov] (getMethod ov "make" pl)
      callWith pos f first (backTo pos (starEach (e :: es) X.env)) (backToKw pos (keywordEach [] X.env))) := by rfl) :
    PE X (.Call (.Attribute o "make" apos) (e :: es) [] pos) (tSMet C sp E0 ta t) := by
  obtain ⟨p, g, fd, ps, m, F, b⟩ := c.ex
  exact pe_sm he m F (hr.mono hk) b pass0 ha hst hpl ht
theorem pe_new {p : Pos} (T : Bu X.mg) (R : RecK X.K X.mg C) (c_value_size : Cal X.prog X.w X.K X.mg X.base 3 "value_size" (spVs C)) (I : InK X.K C) (hr : Room j X.A) (hk : 5 ≤ j) (hg : Gl X "Record") (ha : PA X (e :: es) t)
    (he : starEach (e :: es) X.env = (false, eval e X.env) :: starEach es X.env := by rfl) (hpl : (backTo pos (starEach es X.env)).any (·.1) = false := by rfl) :
    PE X (.Call (.Name "Record" p) (e :: es) [] pos) (tMake C (spInit C) [] E0 t) := by
  obtain ⟨f, fd, M, F, b⟩ := I.ex
  exact pe_make M (fn_init T R c_value_size F) (hr.mono hk) hg R.mgC b .nil pass0 ha (by decide) he hpl
end
section
variable {P : Program} {w : World} {K : PySem.W.Frag} {mg : Str → Option Value} {base : Heap} {C : Addr}
theorem scMake : FnScope ["fields", "made", "name", "value"] ["fields"] (defScope sMake) := ⟨rfl, rfl, rfl, by decide +kernel, rfl, by decide +kernel, by decide +kernel⟩
theorem s_no {k : Nat} (D : StK K C) : SCal P w K mg base C (k + 1) spNo := by
  obtain ⟨p, g, fd, m, F, b⟩ := D.ex
  exact ⟨p, g, fd, _, m, F.ok scMake (fun _ _ _ _ h => h.elim) (fun _ _ _ _ _ _ _ _ _ h => h.elim), b⟩
theorem fn_make_step (T : Bu mg) (R : RecK K mg C) {pD g : Addr} {fd : FuncData} (mD : SMet K C (.type "type") "make" pD g) (F : L2.Fun K "make" "Record.make" sMake g fd) (bD : Binds K fd ["fields"] []) (I : InK K C) (c_value_size : Cal P w K mg base 3 "value_size" (spVs C)) (c_is_name : Cal P w K mg base 1 "is_name" spIsName) (n : Nat)
    (c_make : SCal P w K mg base C (n + 5) (spMakeR C n)) : FnOk P w K mg base CX0 (n + 6) g fd ["fields"] (spMake C n) := by
  refine F.ok scMake (fun vs H Q E h => ?_) (fun cdv A outer s H vs Q E hr h => ?_)
  · obtain ⟨v, S, fs, rfl, _⟩ := h
    rfl
  · obtain ⟨v, S, fs, rfl, tr, q⟩ := h
    have hu := hu_of hr
    refine ⟨_, (pss_cons (ps_set (i := 1) scMake.nd rfl (Or.inl rfl) pe_dnewK)
      (pss_cons (ps_lock (ps_for PassesOwn.never rfl (pi_items (pv 0)) (pg_tup rfl (pgs_cons (pg_name (i := 2) scMake.nd rfl (Or.inl rfl)) (pgs_cons (pg_name (i := 3) scMake.nd rfl (Or.inl rfl)) pgs_nil)))
      (pss_cons (ps_if (pt_not (pt_val (pe_c c_is_name hr (by omega) rfl (pa_cons (pv 2) pa_nil)))) (pss_one ps_no) pss_nil)
      (pss_one (ps_dput hu (pv 1) (pv 2) (pe_ifExp (pt_val (pe_callB call_isi (by rfl) T.b_isinstance bo_isinstance (pa_cons (pv 3) (pa_cons (pe_bltn (by rfl) T.b_dict bo_dict (v := .ty "dict") rfl) pa_nil)))) (pe_smC (pe_glob (by rfl) R.mgC (v := .ref C) rfl) c_make hr (by omega) (pa_cons (pv 3) pa_nil)) (pv 3)) rfl)))))
      (pss_one (ps_ret (pe_new T R c_value_size I hr (by omega) (by rfl) (pa_cons (pv 1) pa_nil)))))), ?_⟩
    refine tr.cases (fun i e1 e2 => by cases e2) (fun k a l fs' en e1 e2 sa ea wf al => ?_)
    cases en
    cases e2
    subst e1
    intro M hM
    have aM : a ≠ M := ne_of_none ea hM
    have s1 : Same H (upd H M (.dK [])) := Same.new (Same.refl _) hM
    have ea1 := s1 _ _ ea
    have eM1 : (upd H M (.dK [])) M = some (.dK (dk [])) := upd_same
    have al0 : Al (Tr (fun b => S b ∧ H b ≠ none) H 40 n) l fs := al.imp fun _ _ _ z => Tr.ex z
    have al1 : Al (Tr (fun b => (S b ∧ H b ≠ none)) (upd H M (.dK [])) 40 n) l fs := al0.imp fun _ _ _ z => Tr.same z s1
    have sa1 : (fun b => S b ∧ H b ≠ none) a := ⟨sa, by rw [ea]; exact fun z => by cases z⟩
    refine ⟨a, .dK (dk l), ea1, True.intro, fun od => ?_⟩
    have alB := al_away sa1 ea1 wf al1 (.frz od (.dK (dk l)))
    have eMB : (upd (upd H M (.dK [])) a (.frz od (.dK (dk l)))) M = some (.dK (dk [])) := by
      rw [upd_ne aM.symm]
      exact eM1
    have eaB : (upd (upd H M (.dK [])) a (.frz od (.dK (dk l)))) a = some (.frz od (.dK (dk l))) := upd_same
    have sB : ∀ b o, H b = some o → b ≠ a → (upd (upd H M (.dK [])) a (.frz od (.dK (dk l)))) b = some o := fun b o e nb => by
      rw [upd_ne nb]
      exact s1 b o e
    generalize upd (upd H M (.dK [])) a (.frz od (.dK (dk l))) = B at alB eMB eaB sB ⊢
    have hfl : fs.length ≤ 40 := wf.ln
    refine ⟨_, rfl, a, od, dk l, rfl, eaB, for_it walk_items (fun i σ H' => ∃ (nv vv : Option V) (lm : List (Str × V)), σ = [some (.ref a), some (.ref M), nv, vv] ∧ H' M = some (.dK (dk lm)) ∧ Al (Rc (fun b => H b = none ∧ b ≠ M) C H' n) lm (fs.take i) ∧ Fx M B H')
      ⟨none, none, [], rfl, eMB, .nil, Fx.refl⟩ ?_ ?_ ?_⟩
    · rintro i σ H' _ ⟨nv, vv, lm, _, _, _, x3⟩
      exact x3 _ _ aM eaB
    · rintro i x σ H' H2 hi ⟨nv, vv, lm, rfl, eM, ar, x3⟩ ⟨Tp, x1, y1, rfl, hT, rfl, hx1, hy1⟩
      have hi2 : i < l.length := by
        rw [dk_len] at hi
        exact hi
      obtain ⟨⟨x, v⟩, hx⟩ : ∃ p, l[i]? = some p := ⟨l[i], List.getElem?_eq_getElem hi2⟩
      have hd : (dk l)[i]? = some (Sum.inr x, v) := by
        unfold dk
        rw [List.getElem?_map, hx]
        rfl
      have hx2 : ((dk l)[i]?).map (fun kv => kV kv.1) = some x1 := hx1
      have hy2 : ((dk l)[i]?).map Prod.snd = some y1 := hy1
      rw [hd] at hx2 hy2
      cases hx2
      cases hy2
      obtain ⟨u, hu2, ru⟩ := Lw.Al.at alB hx
      have eT : (upd H' Tp (.tup [kV (Sum.inr x), v])) Tp = some (.tup [kV (Sum.inr x), v]) := upd_same
      have x4 : Fx M B (upd H' Tp (.tup [kV (Sum.inr x), v])) := x3.new hT
      have eM4 : (upd H' Tp (.tup [kV (Sum.inr x), v])) M = some (.dK (dk lm)) := by
        rw [upd_ne (ne_of_none eM hT)]
        exact eM
      have ar4 : Al (Rc (fun b => H b = none ∧ b ≠ M) C (upd H' Tp (.tup [kV (Sum.inr x), v])) n) lm (fs.take i) := ar.imp fun _ _ _ z => z.same (Same.new (Same.refl _) hT)
      generalize upd H' Tp (.tup [kV (Sum.inr x), v]) = H4 at eT x4 eM4 ar4 ⊢
      have gx : Good x := wf.gd (x, u) (List.mem_of_getElem? hu2)
      refine ⟨Tp, _, rfl, SqT.of eT, rfl, _, _, rfl, _, _, rfl, rfl, ?_⟩
      refine ⟨_, rfl, x, rfl, gx, fun H5 s5 => ⟨_, rfl, iteF ?_⟩⟩
      have x5 : Fx M B H5 := fun b o nb e => s5 _ _ (x4 b o nb e)
      have eM5 := s5 _ _ eM4
      have ar5 : Al (Rc (fun b => H b = none ∧ b ≠ M) C H5 n) lm (fs.take i) := ar4.imp fun _ _ _ z => z.same s5
      have ru5 : Tr (fun b => S b ∧ H b ≠ none) H5 40 n v u := ru.keep fun b kvs sb e => x5 b _ (fun z => sb.2 (by rw [z]; exact hM)) e
      have hno : x ∉ names lm := by
        rw [ar5.names]
        intro hm
        have e1 : names (fs.take i) = (names fs).take i := by simp [names, List.map_take]
        rw [e1] at hm
        obtain ⟨j, hj, ej⟩ := List.mem_take_iff_getElem.mp hm
        have e2 : (names fs)[i]? = some x := by rw [List.getElem?_map, hu2]; rfl
        have hi3 : i < (names fs).length := (List.getElem?_eq_some_iff.mp e2).1
        have e3 : (names fs)[i] = x := (List.getElem?_eq_some_iff.mp e2).2
        have := (List.getElem_inj wf.nd).mp (ej.trans e3.symm)
        omega
      have ndm : (names lm).Nodup := by
        rw [ar5.names]
        have e1 : names (fs.take i) = (names fs).take i := by simp [names, List.map_take]
        rw [e1]
        exact List.Nodup.sublist (List.take_sublist _ _) wf.nd
      have hml : (dk lm).length < sizeLine := by
        rw [dk_len, ar5.len, List.length_take]
        exact Nat.lt_of_lt_of_le (by omega : min i fs.length < 100) (line_big (by decide))
      have fin : ∀ (v' : V) (H6 : Hp), Rc (fun b => H b = none ∧ b ≠ M) C H6 n v' u → Same H5 H6 → ∃ H7, DPut H6 M (.str x) v' H7 ∧ ∃ lm', H7 M = some (.dK (dk lm')) ∧ Al (Rc (fun b => H b = none ∧ b ≠ M) C H7 n) lm' (fs.take (i + 1)) ∧ Fx M B H7 := by
        intro v' H6 r6 s6
        have eM6 := s6 _ _ eM5
        refine ⟨_, DPut.k (k := Sum.inr x) eM6 hml, lm ++ [(x, v')], ?_, ?_, fun b o nb e => by rw [upd_ne nb]; exact s6 _ _ (x5 b o nb e)⟩
        · rw [upd_same, dk_put x v' lm ndm, put_new hno]
        · rw [List.take_add_one, hu2]
          exact Al.snoc (ar5.imp fun _ _ _ z => (z.same s6).keep fun b o sb e _ => by rw [upd_ne sb.2]; exact e) (r6.keep fun b o sb e _ => by rw [upd_ne sb.2]; exact e)
      refine ru5.cases (fun j e1 e2 => ?_) (fun k ca cl cfs en e1 e2 cs ce cw cal => ?_)
      · subst e1 e2
        obtain ⟨H7, dp, lm', g1, g2, g3⟩ := fin (.int j) H5 (Rc.int j) (Same.refl _)
        exact ⟨_, rfl, _, _, _, _, _, rfl, .ty _, .base (.int j), rfl, _, rfl, iteF ⟨_, rfl, _, rfl, _, rfl, M, H7, rfl, dp, _, _, lm', rfl, g1, g2, g3⟩⟩
      · subst en e1 e2
        refine ⟨_, rfl, _, _, _, _, _, rfl, .ty _, .base (.dK ce), rfl, _, rfl, iteT ⟨rfl, _, rfl, .ref ca, _, cfs, rfl, ru5, fun v' H6 r6 s6 => ?_⟩⟩
        obtain ⟨H7, dp, lm', g1, g2, g3⟩ := fin v' H6 (r6.wid fun b hb => by
          refine ⟨?_, fun z => by rw [z, eM5] at hb; cases hb⟩
          cases e : H b with
          | none => rfl
          | some o =>
            by_cases q : b = a
            · have h2 := x5 _ _ aM eaB
              rw [q, h2] at hb
              cases hb
            · have h2 := x5 b o (fun z => by rw [z, hM] at e; cases e) (sB b o e q)
              rw [h2] at hb
              cases hb) s6
        exact ⟨_, rfl, _, rfl, M, H7, rfl, dp, _, _, lm', rfl, g1, g2, g3⟩
    · rintro σ H' ⟨nv, vv, lm, rfl, eM, ar, x3⟩
      have ell : (dk l).length = fs.length := by rw [dk_len, al.len]
      rw [ell, List.take_length] at ar
      have eaL : H' a = some (.frz od (.dK (dk l))) := x3 _ _ aM eaB
      refine ⟨eaL, ?_⟩
      have sU : Same H (upd H' a (.dK (dk l))) := fun b o e => by
        by_cases z : b = a
        · rw [z, upd_same, ← ea, ← z, e]
        · rw [upd_ne z]
          exact x3 b o (fun y => by rw [y, hM] at e; cases e) (sB b o e z)
      have arU : Al (Rc (fun b => H b = none ∧ b ≠ M) C (upd H' a (.dK (dk l))) n) lm fs := ar.imp fun _ _ _ z => z.keep fun b o sb e _ => by
        rw [upd_ne (fun y => by rw [y, ea] at sb; cases sb.1)]
        exact e
      have eMU : (upd H' a (.dK (dk l))) M = some (.dK (dk lm)) := by
        rw [upd_ne aM.symm]
        exact eM
      generalize upd H' a (.dK (dk l)) = HU at sU arU eMU ⊢
      have hnm : names lm = names fs := arU.names
      refine ⟨_, rfl, fun x dx hx hdx hne => ?_⟩
      have eX : (upd (upd HU dx (.own x)) x (.ins C dx [])) x = some (.ins C dx []) := upd_same
      have sX : Same HU (upd (upd HU dx (.own x)) x (.ins C dx [])) := Same.new (Same.new (Same.refl _) hdx) (by rw [upd_ne hne.symm]; exact hx)
      have nX : ∀ b, (upd (upd HU dx (.own x)) x (.ins C dx [])) b = none → HU b = none := fun b h => sX.free h
      generalize upd (upd HU dx (.own x)) x (.ins C dx []) = HX at eX sX nX ⊢
      have arX : Al (Rc (fun b => H b = none ∧ b ≠ M) C HX n) lm fs := arU.imp fun _ _ _ z => z.same sX
      refine ⟨x, dx, M, lm, szf fs, rfl, eX, sX _ _ eMU, by rw [hnm]; exact wf.nd, by rw [arX.len]; exact hfl, fun y v hv => ?_, fun l' H'' ra pm lk fx => ?_⟩
      · obtain ⟨u, hu2, ru⟩ := arX.get' hv
        have := Rc.sz ru
        unfold szf
        rw [hu2]
        exact this
      · refine ⟨rfl, q _ _ (.inr ⟨x, l', fs, rfl, rfl, ?_, wf, by rw [← hnm]; exact pm, fun y v u h1 h2 => ?_⟩) fun b o e => ?_⟩
        · have ez : (lm.length : Int) + ((names lm).map (szf fs)).sum = nfs fs := by
            rw [hnm, arX.len]
            exact nfs_len wf.nd
          rw [ez] at ra
          refine ra.wid fun b hb => ?_
          rcases hb with e | e
          · rw [e]
            exact sU.free hx
          · exact sU.free (nX b e)
        · rw [lk] at h1
          obtain ⟨u', h3, r3⟩ := arU.get' h1
          have e : u' = u := Option.some.inj (h3.symm.trans h2)
          subst e
          exact (r3.keep fun b o sb e _ => fx b o (fun z => by rw [z, hx] at e; cases e) (sX _ _ e)).wid fun b hb => hb.1
        · exact fx b o (fun z => by rw [z, sU.free hx] at e; cases e) (sX _ _ (sU _ _ e))
theorem s_make_step (T : Bu mg) (R : RecK K mg C) (D : StK K C) (I : InK K C) (c_value_size : Cal P w K mg base 3 "value_size" (spVs C)) (c_is_name : Cal P w K mg base 1 "is_name" spIsName) (n : Nat)
    (c_make : SCal P w K mg base C (n + 5) (spMakeR C n)) : SCal P w K mg base C (n + 6) (spMake C n) := by
  obtain ⟨pD, g, fd, mD, F, bD⟩ := D.ex
  exact ⟨pD, g, fd, _, mD, fn_make_step T R mD F bD I c_value_size c_is_name n c_make, bD⟩
theorem fn_make {pD g : Addr} {fd : FuncData} (T : Bu mg) (R : RecK K mg C) (mD : SMet K C (.type "type") "make" pD g) (F : L2.Fun K "make" "Record.make" sMake g fd) (bD : Binds K fd ["fields"] []) (I : InK K C) (c_value_size : Cal P w K mg base 3 "value_size" (spVs C)) (c_is_name : Cal P w K mg base 1 "is_name" spIsName) : ∀ n, FnOk P w K mg base CX0 (n + 6) g fd ["fields"] (spMake C n)
  | 0 => fn_make_step T R mD F bD I c_value_size c_is_name 0 (s_no ⟨pD, g, fd, mD, F, bD⟩)
  | n + 1 => fn_make_step T R mD F bD I c_value_size c_is_name (n + 1) ⟨pD, g, fd, _, mD, fn_make T R mD F bD I c_value_size c_is_name n, bD⟩
end
end Lw
namespace Lw
open PySem PySem.Spec PyProof.Rows L2 GrT GrOwn
theorem op_or {X : Cx} {op : Value → Value → Sem Value} {r1 r2 : R2} (h1 : OpR X op r1) (h2 : OpR X op r2) : OpR X op (fun x y H Q => r1 x y H Q ∨ r2 x y H Q) := by
  intro pins s σ H x y v u Q I rx ry h
  rcases h with h | h
  · exact h1 pins s σ H x y v u Q I rx ry h
  · exact h2 pins s σ H x y v u Q I rx ry h
theorem dint {i j : Int} : decide (V.int i = V.int j) = decide (i = j) := by simp
section
variable {P : Program} {w : World} {K : PySem.W.Frag} {mg : Str → Option Value} {base : Heap} {C : Addr}
theorem s_make (T : Bu mg) (R : RecK K mg C) (D : StK K C) (I : InK K C) (c_value_size : Cal P w K mg base 3 "value_size" (spVs C)) (c_is_name : Cal P w K mg base 1 "is_name" spIsName) : ∀ n, SCal P w K mg base C (n + 6) (spMake C n)
  | 0 => s_make_step T R D I c_value_size c_is_name 0 (s_no D)
  | n + 1 => s_make_step T R D I c_value_size c_is_name (n + 1) (s_make T R D I c_value_size c_is_name n)
theorem c_fields (T : Bt mg) (D : Dfn K mg "_law_fields" sFields ["tape", "names", "depth"]) (ct : Cal P w K mg base 1 "_law_take" spTake) (cn : Cal P w K mg base 2 "_law_number" spNumber) : ∀ n, Cal P w K mg base (n + 4) "_law_fields" (spFields n)
  | 0 => c_fields_step T D ct cn 0 (c_no D scFields)
  | n + 1 => c_fields_step T D ct cn (n + 1) (c_fields T D ct cn n)
theorem c_count (T : Bu mg) (D : Dfn K mg "_law_count" sCount ["value"]) : ∀ n, Cal P w K mg base (n + 2) "_law_count" (spCount n)
  | 0 => c_count_step T D 0 (c_no D scCount)
  | n + 1 => c_count_step T D (n + 1) (c_count T D n)
end
end Lw
namespace Lw
open PySem PySem.Spec PyProof.Rows L2 GrT GrOwn
def spTold (C : Addr) (n : Nat) : Sp := fun vs H Q _ => ∃ (v u : V) (S S' : Addr → Prop) (t : T), vs = [v, u] ∧ Rc S C H n v t ∧ Tr S' H 40 n u t ∧ ∀ H', Same H H' → Q (.bl true) H'
def spToldR (C : Addr) : Nat → Sp
  | 0 => spNo
  | n + 1 => spTold C n
section
variable {P : Program} {w : World} {K : PySem.W.Frag} {mg : Str → Option Value} {base : Heap} {C : Addr}
theorem scTold : FnScope ["record", "plain", "names", "name"] ["record", "plain"] (defScope sTold) := ⟨rfl, rfl, rfl, by decide +kernel, rfl, by decide +kernel, by decide +kernel⟩
theorem dp_strs {H : Hp} : ∀ ys : List Str, DpAll K H (ys.map V.str) (ys.map PyData.str)
  | [] => .nil
  | y :: r => .cons (.str y) (dp_strs r)
theorem lay_strs : ∀ {ys : List Str}, (∀ y ∈ ys, Good y) → PyData.canLayAll0 (ys.map PyData.str) = true
  | [], _ => rfl
  | y :: r, h => by
    have ih := lay_strs (ys := r) fun z hz => h z (List.mem_cons_of_mem _ hz)
    rw [List.map_cons, PyData.canLayAll0, ih, Bool.and_true, PyData.canLay0]
    show y.cps.all (fun c => decide (c < 0x110000)) = true
    rw [← Array.all_toList, List.all_eq_true]
    intro c hc
    have := (h y List.mem_cons_self).2.2 c hc
    exact decide_eq_true (by have := this.2; omega)
theorem dep_strs : ∀ {ys : List Str}, PyData.depthAll (ys.map PyData.str) = 0
  | [] => rfl
  | y :: r => by
    rw [List.map_cons, PyData.depthAll, dep_strs (ys := r)]
    rfl
theorem shaped_strs {ys : List Str} (h : ∀ y ∈ ys, Good y) : SeqAt.shaped (.list (ys.map PyData.str)) = true := by
  unfold SeqAt.shaped
  rw [PyData.canLay0, lay_strs h, PyData.depth, dep_strs]
  rfl
theorem eqv_strs {ys : List Str} (h : ∀ y ∈ ys, Good y) : PyData.eqv (.list (ys.map PyData.str)) (.list (ys.map PyData.str)) = true :=
  PySem.SeqAt.eqv_refl _ (by rw [PyData.canLay0]; exact lay_strs h)
theorem c_told_step (T : Bu mg) (R : RecK K mg C) (pr : PrK K C) (m_len : Mth P w K mg base C 1 "__len__" (spLen C)) (m_contains : Mth P w K mg base C 1 "__contains__" (spContains C)) (m_get : Mth P w K mg base C 1 "__getitem__" (spGet C))
    (c_law_is_integer : Cal P w K mg base 1 "_law_is_integer" spIsInt) (c_law_sorted : Cal P w K mg base 1 "_law_sorted" spSorted) (D : Dfn K mg "_law_told" sTold ["record", "plain"]) (n : Nat)
    (c_law_count : Cal P w K mg base (n + 2) "_law_count" (spCount n)) (c_law_told : Cal P w K mg base (n + 3) "_law_told" (spToldR C n)) : Cal P w K mg base (n + 4) "_law_told" (spTold C n) := by
  refine D.cal scTold (fun vs H Q E h => ?_) (fun f cdv A outer s H vs Q E hr h => ?_)
  · obtain ⟨v, u, S, S', t, rfl, _⟩ := h
    rfl
  · obtain ⟨v, u, S, S', t, rfl, rv, ru, q⟩ := h
    have hu := hu_of hr
    have hu64 := hr.units
    refine ⟨_, (pss_cons (ps_if (pt_not (pt_val (pe_callB call_isi (by rfl) T.b_isinstance bo_isinstance (pa_cons (pv 1) (pa_cons (pe_bltn (by rfl) T.b_dict bo_dict (v := .ty "dict") rfl) pa_nil)))))
      (pss_one (ps_ret (pe_and (pe_c c_law_is_integer hr (by omega) rfl (pa_cons (pv 0) pa_nil)) (pe_one (pe_cmpR op_eq (pv 0) (pv 1) (nomark _))))))
      pss_nil)
      (pss_cons (ps_set (i := 2) scTold.nd rfl (Or.inl rfl) (pe_c c_law_sorted hr (by omega) rfl (pa_cons (pv 1) pa_nil)))
      (pss_cons (ps_if (PW.pt (pw_or (pt_not (pt_val (pe_callB call_isi (by rfl) T.b_isinstance bo_isinstance (pa_cons (pv 0) (pa_cons (pe_glob (by rfl) R.mgC (v := .ref C) rfl) pa_nil))))) (pw_or1 (pt_not (pt_val (pe_callB call_isi (by rfl) T.b_isinstance bo_isinstance (pa_cons (pe_fld (pv 0) rfl) (pa_cons (pe_bltn (by rfl) T.b_tuple bo_tuple (v := .ty "tuple") rfl) pa_nil))))))))
      (pss_one (ps_ret pe_bl))
      pss_nil)
      (pss_cons (ps_if (PW.pt (pw_or (pt_cmpR (op_neD hu64) (pe_callTy call_list_of (by rfl) T.b_list bo_list (pa_cons (pe_fld (pv 0) rfl) pa_nil)) (pv 2) (nomark _)) (pw_or1 (pt_cmpR op_ne (pe_callB (call_lenM m_len hr (by omega)) (by rfl) T.b_len PySem.boot_len (pa_cons (pv 0) pa_nil)) (pe_callB call_len_seq (by rfl) T.b_len PySem.boot_len (pa_cons (pv 2) pa_nil)) (nomark _)))))
      (pss_one (ps_ret pe_bl))
      pss_nil)
      (pss_cons (ps_if (PW.pt (pw_or (pt_not (pt_val (pe_c c_law_is_integer hr (by omega) rfl (pa_cons (pe_sizeK R pr hr (by omega) (pv 0) rfl) pa_nil)))) (pw_or1 (pt_cmpR op_ne (pe_sizeK R pr hr (by omega) (pv 0) rfl) (pe_c c_law_count hr (by omega) rfl (pa_cons (pv 1) pa_nil)) (nomark _)))))
      (pss_one (ps_ret pe_bl))
      pss_nil)
      (pss_cons (ps_for PassesOwn.never rfl (pi_list (pv 2)) (pg_name (i := 3) scTold.nd rfl (Or.inl rfl))
      (pss_one (ps_if (PW.pt (pw_or (pt_cmpR (op_notInM m_contains hr (by omega)) (pv 3) (pv 0) (by rfl)) (pw_or1 (pt_not (pt_val (pe_c c_law_told hr (by omega) rfl (pa_cons (pe_ixM m_get hr (by omega) (pv 0) (pv 3)) (pa_cons (pe_dget hu (pv 1) (pv 3) (fun _ _ => rfl)) pa_nil))))))))
      (pss_one (ps_ret pe_bl))
      pss_nil)))
      (pss_one (ps_ret pe_bl)))))))), ?_⟩
    refine rv.cases (fun i e1 e2 => ?_) (fun k a l fs en e1 e2 ra wf pm ch => ?_)
    · subst e1 e2
      refine ru.cases (fun j e1 e2 => ?_) (fun _ _ _ _ _ _ e2 => by cases e2)
      cases e2
      subst e1
      exact ⟨_, rfl, _, _, _, _, _, rfl, .ty _, .base (.int i), rfl, _, rfl, iteT ⟨_, rfl, i, rfl, _, rfl, iteT ⟨_, rfl, _, rfl, rfl, by rw [dint, decide_eq_true rfl]; exact q H (Same.refl H)⟩⟩⟩
    · subst e1 e2 en
      refine ru.cases (fun j e1 e2 => by cases e2) (fun k' b m gs en e1 e2 sb eb wg ag => ?_)
      cases en
      cases e2
      subst e1
      obtain ⟨⟨dx, tp, d, _, ea, et, _⟩, la, lso⟩ := id ra
      have gy : ∀ y ∈ names l, Good y := fun y hy => by
        obtain ⟨p, hp, e⟩ := List.mem_map.mp (pm.mem_iff.mp hy)
        rw [← e]
        exact wf.gd p hp
      refine ⟨_, rfl, _, _, _, _, _, rfl, .ty _, .base (.dK eb), rfl, _, rfl, iteF ?_⟩
      have hln : fs.length ≤ 40 := wf.ln
      refine ⟨_, rfl, b, m, rfl, eb, by rw [ag.len]; omega, fun ys W H1 pw so eW hW s1 => ?_⟩
      have hys : ys = names l := sorted_one so lso (pw.trans (by rw [ag.names]; exact pm.symm))
      subst hys
      have ea1 := s1 _ _ ea
      have et1 := s1 _ _ et
      refine ⟨_, rfl, _, _, _, _, _, rfl, .own C, R.ty ea1, R.kRC, _, rfl, iteF ⟨_, rfl, a, C, dx, _, _, rfl, ea1, R.cl, R.nN, rf_names _ _ _, _, _, _, _, _, rfl, .ty _, .base (.tup et1), rfl, _, rfl, iteF ?_⟩⟩
      refine ⟨_, rfl, a, C, dx, _, _, rfl, ea1, R.cl, R.nN, rf_names _ _ _, tp, _, rfl, .inr (SqT.of et1), fun W2 hW2 => ?_⟩
      have s2 : Same H1 (upd H1 W2 (.lst ((names l).map V.str))) := Same.new (Same.refl _) hW2
      have eW2 : (upd H1 W2 (.lst ((names l).map V.str))) W2 = some (.lst ((names l).map V.str)) := upd_same
      have eW' := s2 _ _ eW
      generalize upd H1 W2 (.lst ((names l).map V.str)) = H2 at s2 eW2 eW' ⊢
      have s02 := s1.trans s2
      have ea2 := s02 _ _ ea
      have ra2 : RA S C H2 a l (nfs fs) := ra.keep fun b o _ e _ => s02 b o e
      refine ⟨_, rfl, _, _, .lst (SqL.of eW2) (dp_strs _), .lst (SqL.of eW') (dp_strs _), shaped_strs gy, shaped_strs gy, _, rfl, ?_⟩
      rw [eqv_strs gy]
      have hll : (names l).length = l.length := List.length_map _
      refine iteF ⟨_, rfl, a, dx, _, rfl, ea2, a, l, _, rfl, ra2.any, _, rfl, by omega, ?_, _, rfl, W, _, rfl, .inl (SqL.of eW'), rfl, _, rfl, ?_⟩
      · have : l.length ≤ 40 := by rw [← hll, pm.length_eq, List.length_map]; exact hln
        omega
      rw [show ((names l).map V.str).length = l.length by rw [List.length_map, hll], decide_eq_true rfl]
      refine iteF ?_
      refine ⟨_, rfl, a, dx, _, rfl, ea2, a, dx, tp, d, _, rfl, ea2, _, rfl, _, rfl, iteF ⟨_, rfl, a, dx, _, rfl, ea2, a, dx, tp, d, _, rfl, ea2, _, rfl, .ref b, S', .fds fs, rfl, Tr.same ru s02, fun H3 s3 => ⟨rfl, _, rfl, ?_⟩⟩⟩
      rw [show decide (V.int (nfs fs) = V.int (nf (.fds fs))) = true by rw [nf]; exact decide_eq_true rfl]
      refine iteF ?_
      have s03 := s02.trans s3
      have eW3 := s3 _ _ eW'
      refine ⟨_, rfl, W, rfl, ⟨_, SqL.of eW3⟩, for_it (walk_list (xs := (names l).map V.str)) (fun i σ H' => ∃ nv : Option V, σ = [some (.ref a), some (.ref b), some (.ref W), nv] ∧ Same H H' ∧ Same H3 H')
        ⟨none, rfl, s03, Same.refl _⟩ (fun i σ H' _ h => ?_) ?_ ?_⟩
      · obtain ⟨nv, _, _, h⟩ := h
        exact SqL.of (h _ _ eW3)
      · rintro i y σ H' H4 hi ⟨nv, rfl, h1, h2⟩ ⟨rfl, hy⟩
        obtain ⟨x, hx, rfl⟩ : ∃ x, (names l)[i]? = some x ∧ y = V.str x := by
          rw [List.getElem?_map] at hy
          cases e : (names l)[i]? with
          | none =>
            rw [e] at hy
            cases hy
          | some x =>
            rw [e] at hy
            exact ⟨x, rfl, (Option.some.inj hy).symm⟩
        have hxm : x ∈ names l := List.mem_of_getElem? hx
        obtain ⟨va, hva⟩ := look_some hxm
        obtain ⟨tx, htx⟩ := look_some (pm.mem_iff.mp hxm)
        obtain ⟨vb, hvb, rb⟩ := ag.get htx
        have ra4 : RA S C H4 a l (nfs fs) := ra.keep fun b o _ e _ => h1 b o e
        have ea4 := h1 _ _ ea
        have hdb := DGet.k (k := Sum.inr x) (h1 _ _ eb)
        rw [dk_val, hvb] at hdb
        refine ⟨_, rfl, _, rfl, a, dx, _, rfl, ea4, a, l, _, x, rfl, ra4.any, _, rfl, _, rfl, ?_⟩
        rw [hva]
        refine iteF ⟨_, rfl, _, rfl, a, dx, _, rfl, ea4, a, l, _, x, va, rfl, ra4.any, hva, _, rfl, _, rfl, b, vb, rfl, hdb, va, vb, S, S', tx, rfl, (ch x va tx hva htx).same h1, Tr.same rb h1, fun H5 s5 => ⟨_, rfl, iteF ?_⟩⟩
        exact ⟨_, rfl, h1.trans s5, h2.trans s5⟩
      · rintro σ H' ⟨nv, rfl, h1, h2⟩
        exact q _ h1
theorem c_told (T : Bu mg) (R : RecK K mg C) (pr : PrK K C) (m_len : Mth P w K mg base C 1 "__len__" (spLen C)) (m_contains : Mth P w K mg base C 1 "__contains__" (spContains C)) (m_get : Mth P w K mg base C 1 "__getitem__" (spGet C))
    (ci : Cal P w K mg base 1 "_law_is_integer" spIsInt) (cs : Cal P w K mg base 1 "_law_sorted" spSorted) (D : Dfn K mg "_law_told" sTold ["record", "plain"]) (DC : Dfn K mg "_law_count" sCount ["value"]) : ∀ n, Cal P w K mg base (n + 4) "_law_told" (spTold C n)
  | 0 => c_told_step T R pr m_len m_contains m_get ci cs D 0 (c_count T DC 0) (c_no D scTold)
  | n + 1 => c_told_step T R pr m_len m_contains m_get ci cs D (n + 1) (c_count T DC (n + 1)) (c_told T R pr m_len m_contains m_get ci cs D DC n)
end
end Lw
namespace GrT
open PySem L2
/-- alike up to the order of the fields -/
def Sm : Nat → T → T → Prop
  | 0, t, u => ∃ i, t = .int i ∧ u = .int i
  | n + 1, t, u => (∃ i, t = .int i ∧ u = .int i) ∨ ∃ fs gs, t = .fds fs ∧ u = .fds gs ∧ (names fs).Nodup ∧ (names fs).Perm (names gs) ∧ ∀ x v w, look x fs = some v → look x gs = some w → Sm n v w
end GrT
namespace Lw
open PySem PySem.Spec PyProof.Rows L2 GrT GrOwn
theorem Sm.nf : ∀ {n : Nat} {t u : T}, Sm n t u → GrT.nf t = GrT.nf u
  | 0, _, _, ⟨i, e1, e2⟩ => by rw [e1, e2]
  | n + 1, t, u, h => by
    rcases h with ⟨i, e1, e2⟩ | ⟨fs, gs, e1, e2, nd, pm, ch⟩
    · rw [e1, e2]
    · rw [e1, e2, GrT.nf, GrT.nf]
      have nd2 : (names gs).Nodup := pm.nodup_iff.mp nd
      rw [← nfs_len nd, ← nfs_len nd2]
      have hl : fs.length = gs.length := by
        have := pm.length_eq
        rwa [List.length_map, List.length_map] at this
      have hs : ((names fs).map (szf fs)).sum = ((names fs).map (szf gs)).sum := by
        congr 1
        refine List.map_congr_left fun x hx => ?_
        obtain ⟨v, hv⟩ := look_some hx
        obtain ⟨w, hw⟩ := look_some (pm.mem_iff.mp hx)
        unfold szf
        rw [hv, hw]
        exact Sm.nf (ch x v w hv hw)
      rw [hs, sum_perm pm, hl]
theorem Rc.sim {S : Addr → Prop} {C : Addr} {H : Hp} : ∀ {n : Nat} {v : V} {t u : T}, Rc S C H n v t → Sm n t u → Rc S C H n v u
  | 0, v, t, u, ⟨i, e1, e2⟩, ⟨j, f1, f2⟩ => by
    rw [e2] at f1
    cases f1
    exact ⟨i, e1, f2⟩
  | n + 1, v, t, u, h, g => by
    rcases h with ⟨i, e1, e2⟩ | ⟨a, l, fs, e1, e2, ra, wf, pm, ch⟩
    · rcases g with ⟨j, f1, f2⟩ | ⟨_, _, f1, _⟩
      · rw [e2] at f1
        cases f1
        exact .inl ⟨i, e1, f2⟩
      · rw [e2] at f1
        cases f1
    · have hn := Sm.nf g
      rcases g with ⟨j, f1, f2⟩ | ⟨fs', gs, f1, f2, nd, pg, cg⟩
      · rw [e2] at f1
        cases f1
      · rw [e2] at f1
        cases f1
        rw [e2, f2, GrT.nf, GrT.nf] at hn
        rw [hn] at ra
        have hl : fs.length = gs.length := by
          have := pg.length_eq
          rwa [List.length_map, List.length_map] at this
        refine .inr ⟨a, l, gs, e1, f2, ra, ⟨pg.nodup_iff.mp nd, by rw [← hl]; exact wf.ln, fun p hp => ?_⟩, pm.trans pg, fun x v w h1 h2 => ?_⟩
        · obtain ⟨q, hq, e⟩ := List.mem_map.mp (pg.mem_iff.mpr (List.mem_map.mpr ⟨p, hp, rfl⟩))
          rw [← e]
          exact wf.gd q hq
        · obtain ⟨u', hu⟩ := look_some (pg.mem_iff.mpr (List.mem_map.mpr ⟨_, look_mem h2, rfl⟩))
          exact (ch x v u' h1 hu).sim (cg x u' w hu h2)
theorem put_any {α : Type} {x : Str} {v : α} : ∀ {l : List (Str × α)}, x ∉ names l → GrT.put x v l = l ++ [(x, v)]
  | [], _ => rfl
  | (y, u) :: r, h => by
    rw [GrT.put, if_neg (fun z => h (by rw [← z]; exact List.mem_cons_self)), put_any fun z => h (List.mem_cons_of_mem _ z)]
    rfl
theorem look_snoc {α : Type} {x z : Str} {v : α} {l : List (Str × α)} (h : x ∉ names l) : look z (l ++ [(x, v)]) = if z = x then some v else look z l := by
  rw [← put_any h, look_put]
def spTurned (n : Nat) : Sp := fun vs H Q _ => ∃ (v : V) (S : Addr → Prop) (t : T), vs = [v] ∧ Tr S H 20 n v t ∧ ∀ v' t' H', Tr (fun b => H b = none) H' 20 n v' t' → Sm n t' t → Same H H' → Q v' H'
def spTurnedR : Nat → Sp
  | 0 => spNo
  | n + 1 => spTurned n
section
variable {P : Program} {w : World} {K : PySem.W.Frag} {mg : Str → Option Value} {base : Heap} {C : Addr}
theorem Sm.int {n : Nat} (i : Int) : Sm n (.int i) (.int i) := by
  cases n with
  | zero => exact ⟨i, rfl, rfl⟩
  | succ n => exact .inl ⟨i, rfl, rfl⟩
abbrev sTurn : Stmt := top 23
theorem scTurn : FnScope ["value", "fields", "name"] ["value"] (defScope sTurn) := ⟨rfl, rfl, rfl, by decide +kernel, rfl, by decide +kernel, by decide +kernel⟩
theorem c_turned_step (T : Bu mg) (br : mg "reversed" = none) (D : Dfn K mg "_law_turned" sTurn ["value"]) (n : Nat) (c_law_turned : Cal P w K mg base (n + 1) "_law_turned" (spTurnedR n)) : Cal P w K mg base (n + 2) "_law_turned" (spTurned n) := by
  refine D.cal scTurn (fun vs H Q E h => ?_) (fun f cdv A outer s H vs Q E hr h => ?_)
  · obtain ⟨v, S, t, rfl, _⟩ := h
    rfl
  · obtain ⟨v, S, t, rfl, tr, q⟩ := h
    have hu := hu_of hr
    refine ⟨_, (pss_cons (ps_if (pt_not (pt_val (pe_callB call_isi (by rfl) T.b_isinstance bo_isinstance (pa_cons (pv 0) (pa_cons (pe_bltn (by rfl) T.b_dict bo_dict (v := .ty "dict") rfl) pa_nil)))))
      (pss_one (ps_ret (pv 0)))
      pss_nil)
      (pss_cons (ps_set (i := 1) scTurn.nd rfl (Or.inl rfl) pe_dnewK)
      (pss_cons (ps_for PassesOwn.never rfl (pi_reversed (by rfl) br (pa_cons (pe_callTy (call_listD rfl) (by rfl) T.b_list bo_list (pa_cons (pv 0) pa_nil)) pa_nil)) (pg_name (i := 2) scTurn.nd rfl (Or.inl rfl))
      (pss_one (ps_dput hu (pv 1) (pv 2) (pe_c c_law_turned hr (by omega) rfl (pa_cons (pe_dget hu (pv 0) (pv 2) (fun _ _ => rfl)) pa_nil)) rfl)))
      (pss_one (ps_ret (pv 1)))))), ?_⟩
    refine tr.cases (fun i e1 e2 => ?_) (fun k a l fs en e1 e2 sa ea wf al => ?_)
    · subst e1 e2
      exact ⟨_, rfl, _, _, _, _, _, rfl, .ty _, .base (.int i), rfl, _, rfl, iteT ⟨_, rfl, q _ _ H (Tr.int i) (Sm.int i) (Same.refl _)⟩⟩
    · subst en e1 e2
      refine ⟨_, rfl, _, _, _, _, _, rfl, .ty _, .base (.dK ea), rfl, _, rfl, iteF ?_⟩
      intro D hD
      have s0 : Same H (upd H D (.dK [])) := Same.new (Same.refl _) hD
      have eD0 : (upd H D (.dK [])) D = some (.dK (dk [])) := upd_same
      generalize upd H D (.dK []) = H0 at s0 eD0 ⊢
      refine ⟨_, rfl, a, dk l, rfl, .inl (s0 _ _ ea), fun W hW => ?_⟩
      have kn : (dk l).map (fun kv => kV kv.1) = (names l).map V.str := by
        unfold dk names
        rw [List.map_map, List.map_map]
        rfl
      rw [kn]
      have s1 : Same H (upd H0 W (.lst ((names l).map V.str))) := Same.new s0 hW
      have eW : (upd H0 W (.lst ((names l).map V.str))) W = some (.lst ((names l).map V.str)) := upd_same
      have eD1 : (upd H0 W (.lst ((names l).map V.str))) D = some (.dK (dk [])) := by
        rw [upd_ne (ne_of_none eD0 hW)]
        exact eD0
      have WD : W ≠ D := (ne_of_none eD0 hW).symm
      generalize upd H0 W (.lst ((names l).map V.str)) = H1 at s1 eW eD1 ⊢
      have hfl : fs.length ≤ 20 := wf.ln
      have nll : (names l).length = fs.length := by rw [al.names, List.length_map]
      have rl : (names fs).reverse.length = fs.length := by rw [List.length_reverse, List.length_map]
      refine ⟨W, _, rfl, SqL.of eW, for_it (walk_rev (xs := (names l).map V.str)) (fun i σ H' => ∃ (nv : Option V) (lm : List (Str × V)) (fm : List (Str × GrT.T)), σ = [some (.ref a), some (.ref D), nv] ∧ H' D = some (.dK (dk lm)) ∧ H' W = some (.lst ((names l).map V.str)) ∧
          Al (Tr (fun b => H b = none ∧ b ≠ D) H' 20 k) lm fm ∧ names fm = (names fs).reverse.take i ∧ (∀ x v w, look x fm = some v → look x fs = some w → Sm k v w) ∧ Same H H')
        ⟨none, [], [], rfl, eD1, eW, .nil, rfl, (fun x v w h => by cases h), s1⟩ (fun i σ H' _ h => ?_) ?_ ?_⟩
      · obtain ⟨nv, lm, fm, _, _, h, _⟩ := h
        exact SqL.of h
      · rintro i y σ H' H2 hi ⟨nv, lm, fm, rfl, eD, eW', ar, nm, sm, sH⟩ ⟨rfl, hy⟩
        rw [List.length_map, nll] at hi hy
        obtain ⟨x, hx, rfl⟩ : ∃ x, (names l)[fs.length - 1 - i]? = some x ∧ y = V.str x := by
          rw [List.getElem?_map] at hy
          cases e : (names l)[fs.length - 1 - i]? with
          | none =>
            rw [e] at hy
            cases hy
          | some x =>
            rw [e] at hy
            exact ⟨x, rfl, (Option.some.inj hy).symm⟩
        rw [al.names] at hx
        have hrx : (names fs).reverse[i]? = some x := by
          rw [List.getElem?_reverse (by rw [List.length_map]; exact hi), List.length_map]
          exact hx
        have hxm : x ∈ names fs := List.mem_of_getElem? hx
        obtain ⟨u, hu2⟩ := look_some hxm
        obtain ⟨v', hv', rv⟩ := al.get hu2
        have gx : Good x := wf.gd (x, u) (look_mem hu2)
        have hg := DGet.k (k := Sum.inr x) (sH _ _ ea)
        rw [dk_val, hv'] at hg
        refine ⟨_, rfl, _, rfl, a, v', rfl, hg, v', S, u, rfl, Tr.same rv sH, fun w' t' H5 r5 m5 s5 => ?_⟩
        have r6 : Tr (fun b => H b = none ∧ b ≠ D) H5 20 k w' t' := r5.wid fun b hb => ⟨sH.free hb, fun z => by rw [z, eD] at hb; cases hb⟩
        have eD5 := s5 _ _ eD
        have ar5 : Al (Tr (fun b => H b = none ∧ b ≠ D) H5 20 k) lm fm := ar.imp fun _ _ _ z => Tr.same z s5
        have hno : x ∉ names fm := fun hm => by
          rw [nm] at hm
          obtain ⟨j, hj, ej⟩ := List.mem_take_iff_getElem.mp hm
          have hi3 : i < (names fs).reverse.length := (List.getElem?_eq_some_iff.mp hrx).1
          have e3 : (names fs).reverse[i] = x := (List.getElem?_eq_some_iff.mp hrx).2
          have ndr : (names fs).reverse.Nodup := (List.reverse_perm _).nodup_iff.mpr wf.nd
          have := (List.getElem_inj ndr).mp (ej.trans e3.symm)
          omega
        have hnl : x ∉ names lm := by
          rw [ar5.names]
          exact hno
        have ndm : (names lm).Nodup := by
          rw [ar5.names, nm]
          exact ((List.reverse_perm _).nodup_iff.mpr wf.nd).sublist (List.take_sublist _ _)
        have hml : (dk lm).length < sizeLine := by
          have h1 : fm.length ≤ 20 := by
            have z := congrArg List.length nm
            rw [List.length_map, List.length_take, rl] at z
            omega
          rw [dk_len, ar5.len]
          exact Nat.lt_of_lt_of_le (by omega : fm.length < 100) (line_big (by decide))
        refine ⟨_, rfl, _, rfl, D, _, rfl, DPut.k (k := Sum.inr x) eD5 hml, _, lm ++ [(x, w')], fm ++ [(x, t')], rfl, ?_, ?_, ?_, ?_, ?_, ?_⟩
        · rw [upd_same, dk_put x w' lm ndm, put_new hnl]
        · rw [upd_ne WD]
          exact s5 _ _ eW'
        · exact Al.snoc (ar5.imp fun _ _ _ z => z.keep fun b kvs sb e => by rw [upd_ne sb.2]; exact e) (r6.keep fun b kvs sb e => by rw [upd_ne sb.2]; exact e)
        · rw [List.take_add_one, hrx, ← nm]
          simp [names]
        · intro z v w h1 h2
          by_cases ez : z = x
          · rw [ez] at h1 h2
            rw [hu2] at h2
            cases h2
            have e0 : look x (fm ++ [(x, t')]) = some t' := by rw [look_snoc hno, if_pos rfl]
            rw [e0] at h1
            cases h1
            exact m5
          · rw [look_snoc hno, if_neg ez] at h1
            exact sm z v w h1 h2
        · intro b o e
          rw [upd_ne (ne_of_none e hD)]
          exact s5 _ _ (sH b o e)
      · rintro σ H' ⟨nv, lm, fm, rfl, eD, eW', ar, nm, sm, sH⟩
        rw [List.length_map, nll, ← rl, List.take_length] at nm
        have hfm : fm.length = fs.length := by
          have z := congrArg List.length nm
          rwa [List.length_map, rl] at z
        have ndf : (names fm).Nodup := by
          rw [nm]
          exact (List.reverse_perm _).nodup_iff.mpr wf.nd
        refine ⟨_, rfl, q _ (.fds fm) H' (.inr ⟨D, lm, fm, rfl, rfl, hD, eD, ⟨ndf, by omega, fun p hp => ?_⟩, ar.imp fun _ _ _ z => z.wid fun b h => h.1⟩) (.inr ⟨fm, fs, rfl, rfl, ndf, by rw [nm]; exact List.reverse_perm _, sm⟩) sH⟩
        have h1 : p.1 ∈ names fs := List.mem_reverse.mp (by rw [← nm]; exact List.mem_map.mpr ⟨p, hp, rfl⟩)
        obtain ⟨q2, hq, e⟩ := List.mem_map.mp h1
        rw [← e]
        exact wf.gd q2 hq
end
end Lw
namespace Lw
open PySem PySem.Spec PyProof.Rows L2 GrT GrOwn
/-- the fields stand in ascending order on every level -/
def Srt : Nat → T → Prop
  | 0, _ => True
  | n + 1, t => ∀ fs, t = .fds fs → sortedS (names fs) = true ∧ ∀ x v, look x fs = some v → Srt n v
def spPT (n : Nat) : Sp := fun vs H Q _ => ∃ (v u : V) (S S' : Addr → Prop) (t' t : T), vs = [v, u] ∧ Tr S H 40 n v t' ∧ Tr S' H 40 n u t ∧ (∀ b, S b → ¬ S' b) ∧ Sm n t' t ∧ Srt n t' ∧ ∀ H', Same H H' → Q (.bl true) H'
def spPTR : Nat → Sp
  | 0 => spNo
  | n + 1 => spPT n
abbrev sPlainTold : Stmt := top 28
section
variable {P : Program} {w : World} {K : PySem.W.Frag} {mg : Str → Option Value} {base : Heap} {C : Addr}
theorem scPlainTold : FnScope ["told", "plain", "name"] ["told", "plain"] (defScope sPlainTold) := ⟨rfl, rfl, rfl, by decide +kernel, rfl, by decide +kernel, by decide +kernel⟩
theorem c_plain_told_step (T : Bu mg) (c_law_is_integer : Cal P w K mg base 1 "_law_is_integer" spIsInt) (c_law_sorted : Cal P w K mg base 1 "_law_sorted" spSorted) (D : Dfn K mg "_law_plain_told" sPlainTold ["told", "plain"]) (n : Nat)
    (c_law_plain_told : Cal P w K mg base (n + 1) "_law_plain_told" (spPTR n)) : Cal P w K mg base (n + 2) "_law_plain_told" (spPT n) := by
  refine D.cal scPlainTold (fun vs H Q E h => ?_) (fun f cdv A outer s H vs Q E hr h => ?_)
  · obtain ⟨v, u, S, S', t', t, rfl, _⟩ := h
    rfl
  · obtain ⟨v, u, S, S', t', t, rfl, rv, ru, ds, sm, so, q⟩ := h
    have hu := hu_of hr
    have hu64 := hr.units
    refine ⟨_, (pss_cons (ps_if (pt_not (pt_val (pe_callB call_isi (by rfl) T.b_isinstance bo_isinstance (pa_cons (pv 1) (pa_cons (pe_bltn (by rfl) T.b_dict bo_dict (v := .ty "dict") rfl) pa_nil)))))
      (pss_one (ps_ret (pe_and (pe_c c_law_is_integer hr (by omega) rfl (pa_cons (pv 0) pa_nil)) (pe_one (pe_cmpR op_eq (pv 0) (pv 1) (nomark _))))))
      pss_nil)
      (pss_cons (ps_if (PW.pt (pw_or (pt_not (pt_val (pe_callB call_isi (by rfl) T.b_isinstance bo_isinstance (pa_cons (pv 0) (pa_cons (pe_bltn (by rfl) T.b_dict bo_dict (v := .ty "dict") rfl) pa_nil))))) (pw_or1 (pt_cmpR (op_neD hu64) (pe_callTy (call_listD rfl) (by rfl) T.b_list bo_list (pa_cons (pv 0) pa_nil)) (pe_c c_law_sorted hr (by omega) rfl (pa_cons (pv 1) pa_nil)) (nomark _)))))
      (pss_one (ps_ret pe_bl))
      pss_nil)
      (pss_cons (ps_lock (ps_for PassesOwn.never rfl (pi_keys (pv 1)) (pg_name (i := 2) scPlainTold.nd rfl (Or.inl rfl))
      (pss_one (ps_if (pt_not (pt_val (pe_c c_law_plain_told hr (by omega) rfl (pa_cons (pe_dget hu (pv 0) (pv 2) (fun _ _ => rfl)) (pa_cons (pe_dget hu (pv 1) (pv 2) (fun _ _ => rfl)) pa_nil)))))
      (pss_one (ps_ret pe_bl))
      pss_nil))))
      (pss_one (ps_ret pe_bl))))), ?_⟩
    refine ru.cases (fun i e1 e2 => ?_) (fun k b m gs en e1 e2 sb eb wg ag => ?_)
    · subst e1 e2
      refine rv.cases (fun j e1 e2 => ?_) (fun _ _ _ _ en e1 e2 => ?_)
      · subst e1 e2
        have hji : j = i := by
          cases n with
          | zero =>
            obtain ⟨z, f1, f2⟩ := sm
            cases f1
            cases f2
            rfl
          | succ n =>
            rcases sm with ⟨z, f1, f2⟩ | ⟨_, _, f1, _⟩
            · cases f1
              cases f2
              rfl
            · cases f1
        subst hji
        exact ⟨_, rfl, _, _, _, _, _, rfl, .ty _, .base (.int j), rfl, _, rfl, iteT ⟨_, rfl, j, rfl, _, rfl, iteT ⟨_, rfl, _, rfl, rfl, by rw [dint, decide_eq_true rfl]; exact q H (Same.refl H)⟩⟩⟩
      · subst en e1 e2
        rcases sm with ⟨z, f1, f2⟩ | ⟨_, _, f1, f2, _⟩
        · cases f1
        · cases f2
    · subst en e1 e2
      refine rv.cases (fun j e1 e2 => ?_) (fun k' a l fs en e1 e2 sa ea wf al => ?_)
      · subst e1 e2
        rcases sm with ⟨z, f1, f2⟩ | ⟨_, _, f1, f2, _⟩
        · cases f2
        · cases f1
      cases en
      subst e1 e2
      have sm' : (names fs).Nodup ∧ (names fs).Perm (names gs) ∧ ∀ x v w, look x fs = some v → look x gs = some w → Sm k v w := by
        rcases sm with ⟨z, f1, f2⟩ | ⟨_, _, f1, f2, h⟩
        · cases f1
        · cases f1
          cases f2
          exact h
      obtain ⟨ndf, pm, ch⟩ := sm'
      obtain ⟨sof, soc⟩ := so fs rfl
      refine ⟨_, rfl, _, _, _, _, _, rfl, .ty _, .base (.dK eb), rfl, _, rfl, iteF ?_⟩
      have gy : ∀ y ∈ names fs, Good y := fun y hy => by
        obtain ⟨p, hp, e⟩ := List.mem_map.mp hy
        rw [← e]
        exact wf.gd p hp
      have nl : names l = names fs := al.names
      have hgl : gs.length ≤ 40 := wg.ln
      refine ⟨_, rfl, _, _, _, _, _, rfl, .ty _, .base (.dK ea), rfl, _, rfl, iteF ⟨_, rfl, a, dk l, rfl, .inl ea, fun W2 hW2 => ?_⟩⟩
      have kn : (dk l).map (fun kv => kV kv.1) = (names l).map V.str := by
        unfold dk names
        rw [List.map_map, List.map_map]
        rfl
      rw [kn, nl]
      have s1 : Same H (upd H W2 (.lst ((names fs).map V.str))) := Same.new (Same.refl _) hW2
      have eW2 : (upd H W2 (.lst ((names fs).map V.str))) W2 = some (.lst ((names fs).map V.str)) := upd_same
      generalize upd H W2 (.lst ((names fs).map V.str)) = H1 at s1 eW2 ⊢
      refine ⟨_, rfl, b, m, rfl, s1 _ _ eb, by rw [ag.len]; omega, fun ys W H2 pw sy eW hW s2 => ?_⟩
      have hys : ys = names fs := sorted_one sy sof (pw.trans (by rw [ag.names]; exact pm.symm))
      subst hys
      refine ⟨_, _, .lst (SqL.of (s2 _ _ eW2)) (dp_strs _), .lst (SqL.of eW) (dp_strs _), shaped_strs gy, shaped_strs gy, _, rfl, ?_⟩
      rw [eqv_strs gy]
      refine iteF ?_
      have s02 := s1.trans s2
      have eb2 := s02 _ _ eb
      have ea2 := s02 _ _ ea
      have ba : b ≠ a := fun z => ds a sa (by rw [← z]; exact sb)
      refine ⟨b, .dK (dk m), eb2, True.intro, fun od => ?_⟩
      have ebB : (upd H2 b (.frz od (.dK (dk m)))) b = some (.frz od (.dK (dk m))) := upd_same
      have eaB : (upd H2 b (.frz od (.dK (dk m)))) a = some (.dK (dk l)) := by
        rw [upd_ne ba.symm]
        exact ea2
      have agB : Al (Tr S' (upd H2 b (.frz od (.dK (dk m)))) 40 k) m gs := al_away sb eb2 wg (ag.imp fun _ _ _ z => Tr.same z s02) (.frz od (.dK (dk m)))
      have alB : Al (Tr S (upd H2 b (.frz od (.dK (dk m)))) 40 k) l fs := al.imp fun _ _ _ z => (Tr.same z s02).keep fun c kvs sc e => by
        rw [upd_ne (fun z => ds c sc (by rw [z]; exact sb))]
        exact e
      refine ⟨_, rfl, b, od, rfl, .inl ⟨_, ebB, for_it walk_keys (fun i σ H' => ∃ nv : Option V, σ = [some (.ref a), some (.ref b), nv] ∧ Same (upd H2 b (.frz od (.dK (dk m)))) H')
        ⟨none, rfl, Same.refl _⟩ (fun i σ H' _ h => ?_) ?_ ?_⟩⟩
      · obtain ⟨nv, _, h⟩ := h
        exact h _ _ ebB
      · rintro i y σ H' H3 hi ⟨nv, rfl, h1⟩ ⟨rfl, k', v', hk, rfl⟩
        obtain ⟨x, rfl, hx⟩ := dk_at hk
        have ndm : (names m).Nodup := by
          rw [ag.names]
          exact wg.nd
        have hlm : look x m = some v' := mem_look ndm (List.mem_of_getElem? hx)
        obtain ⟨tx, htx, rb⟩ := agB.get' hlm
        obtain ⟨ux, hux⟩ := look_some (x := x) (l := fs) (pm.mem_iff.mpr (List.mem_map.mpr ⟨_, look_mem htx, rfl⟩))
        obtain ⟨va, hva, ra⟩ := alB.get hux
        have hda := DGet.k (k := Sum.inr x) (h1 _ _ eaB)
        rw [dk_val, hva] at hda
        refine ⟨_, rfl, _, rfl, a, va, rfl, hda, _, rfl, _, rfl, b, v', rfl, .inl ⟨dk m, Sum.inr x, .inr ⟨od, h1 _ _ ebB⟩, rfl, by rw [dk_val, hlm]⟩, va, v', S, S', ux, tx, rfl, Tr.same ra h1, Tr.same rb h1, ds, ch x ux tx hux htx, soc x ux hux, fun H5 s5 => ⟨_, rfl, iteF ?_⟩⟩
        exact ⟨_, rfl, h1.trans s5⟩
      · rintro σ H' ⟨nv, rfl, h1⟩
        refine ⟨h1 _ _ ebB, ?_⟩
        exact q _ (s02.trans (Same.unlock eb2 h1))
end
end Lw
namespace Lw
open PySem PySem.Spec PyProof.Rows L2 GrT GrOwn
theorem SzV.one {C : Addr} {H : Hp} {v : V} {z y : Int} (h : SzV C H v z) (g : SzV C H v y) : z = y := by
  rcases h with ⟨i, e, e1⟩ | ⟨a, dx, tp, d, e, e1⟩
  · rcases g with ⟨j, f, f1⟩ | ⟨b, dy, tq, c, f, f1⟩
    · rw [e1, f1]
    · rw [e] at f
      cases f
  · rcases g with ⟨j, f, f1⟩ | ⟨b, dy, tq, c, f, f1⟩
    · rw [e] at f
      cases f
    · rw [e] at f
      cases f
      rw [e1] at f1
      have h3 := HO.ins.inj (Option.some.inj f1)
      have h4 : (rf tp d z).lookup ("_size" : Str) = (rf tq c y).lookup ("_size" : Str) := by rw [h3.2.2]
      rw [rf_size, rf_size] at h4
      cases h4
      rfl
theorem nfs_one {C : Addr} {H : Hp} {l : List (Str × V)} {fs gs : List (Str × T)} (nf1 : (names fs).Nodup) (p1 : (names l).Perm (names fs)) (p2 : (names l).Perm (names gs))
    (c1 : ∀ x v u, look x l = some v → look x fs = some u → SzV C H v (nf u)) (c2 : ∀ x v u, look x l = some v → look x gs = some u → SzV C H v (nf u)) : nfs fs = nfs gs := by
  have pm : (names fs).Perm (names gs) := p1.symm.trans p2
  have nd2 : (names gs).Nodup := pm.nodup_iff.mp nf1
  rw [← nfs_len nf1, ← nfs_len nd2]
  have hl : fs.length = gs.length := by
    have := pm.length_eq
    rwa [List.length_map, List.length_map] at this
  have hs : ((names fs).map (szf fs)).sum = ((names fs).map (szf gs)).sum := by
    congr 1
    refine List.map_congr_left fun x hx => ?_
    obtain ⟨v, hv⟩ := look_some hx
    obtain ⟨w, hw⟩ := look_some (pm.mem_iff.mp hx)
    obtain ⟨u, hu⟩ := look_some (p1.mem_iff.mpr hx)
    unfold szf
    rw [hv, hw]
    exact (c1 x u v hu hv).one (c2 x u w hu hw)
  rw [hs, sum_perm pm, hl]
mutual
theorem nf_nn : ∀ t : T, 0 ≤ nf t
  | .int _ => by rw [nf]; exact Int.le_refl 0
  | .fds fs => by rw [nf]; exact nfs_nn fs
theorem nfs_nn : ∀ fs : List (Str × T), 0 ≤ nfs fs
  | [] => by rw [nfs]; exact Int.le_refl 0
  | (x, t) :: r => by
    have h1 := nf_nn t
    have h2 := nfs_nn r
    rw [nfs]
    omega
end
theorem nf_child {x : Str} {u : T} : ∀ {fs : List (Str × T)}, look x fs = some u → nf u < nfs fs
  | [], h => by cases h
  | (y, t) :: r, h => by
    have h1 := nf_nn t
    have h2 := nfs_nn r
    rw [nfs]
    by_cases q : y = x
    · rw [look, if_pos q] at h
      cases h
      omega
    · rw [look, if_neg q] at h
      have := nf_child h
      omega
/-- what is smaller than the record whose fields' dict is d does not reach d -/
theorem Rc.away {S : Addr → Prop} {C d : Addr} {H : Hp} {l : List (Str × V)} {z : Int} (ed : H d = some (.dK (dk l)))
    (hz : ∀ gs, (names gs).Nodup → (names l).Perm (names gs) → (∀ x v u, look x l = some v → look x gs = some u → SzV C H v (nf u)) → nfs gs = z) (o : HO) : ∀ {n : Nat} {v : V} {t : T}, Rc S C H n v t → nf t < z → Rc S C (upd H d o) n v t
  | 0, _, _, h, _ => h
  | n + 1, v, t, h, hs => by
    rcases h with h | ⟨a, m, fs, e1, e2, ra, wf, pm, ch⟩
    · exact .inl h
    · rw [e2, nf] at hs
      obtain ⟨⟨dx, tp, c, ss, f1, f2, f3⟩, nd, so⟩ := ra
      have ha : a ≠ d := fun q => by
        rw [q, ed] at f1
        cases f1
      have ht : tp ≠ d := fun q => by
        rw [q, ed] at f2
        cases f2
      have hc : c ≠ d := fun q => by
        rw [q, ed] at f3
        have hm : dk l = dk m := HO.dK.inj (Option.some.inj f3)
        have hlm : l = m := by
          apply dk_inj hm
        subst hlm
        have := hz fs wf.nd pm fun x v u h1 h2 => (ch x v u h1 h2).sz
        omega
      refine .inr ⟨a, m, fs, e1, e2, ⟨⟨dx, tp, c, ss, by rw [upd_ne ha]; exact f1, by rw [upd_ne ht]; exact f2, by rw [upd_ne hc]; exact f3⟩, nd, so⟩, wf, pm, fun x v u h1 h2 => Rc.away ed hz o (ch x v u h1 h2) ?_⟩
      have := nf_child h2
      omega
end Lw
namespace Lw
open PySem PySem.Spec PyProof.Rows L2 GrT GrOwn
/-- a method that is called by its name -/
structure MthK (P : Program) (w : World) (K : PySem.W.Frag) (mg : Str → Option Value) (base : Heap) (CX : CXT) (C : Addr) (k : Nat) (x : Str) (sp : Sp) : Prop where
  ex : ∃ (f : Addr) (fd : FuncData) (ps : List Str), FnOk P w K mg base CX k f fd ps sp ∧ Meth K C x f ∧ Binds K fd ps []
structure DfK (K : PySem.W.Frag) (C : Addr) (x q : Str) (st : Stmt) (ps : List Str) : Prop where
  ex : ∃ f fd, Meth K C x f ∧ L2.Fun K x q st f fd ∧ Binds K fd ps []
section
variable {X : Cx} {CX : CXT} {C : Addr} {k j : Nat} {sp : Sp} {E : XK} {x : Str} {o e : Expr} {es : List Expr} {pos apos : Pos} {ta : TE} {t : TA} {pl : Sem Bool}
theorem pe_mK0 (R : RecK X.K X.mg C) (c : MthK X.prog X.w X.K X.mg X.base CX C k x sp) (hr : Room j X.A) (hk : k ≤ j) (hx : Passes CX X E) (he : PE X o ta)
    (ht : eval (.Call (.Attribute o x apos) [] [] pos) X.env = (do
      let ov ← eval o X.env
      standAt apos.atName
      let (f, first) ← holding [ov] (getMethod ov x pl)
      callWith pos f first (backTo pos (starEach [] X.env)) (backToKw pos (keywordEach [] X.env))) := by rfl) :
    PE X (.Call (.Attribute o x apos) [] [] pos) (tMeth C x sp [] E ta tNil) := by
  obtain ⟨f, fd, ps, F, m, b⟩ := c.ex
  exact pe_meth0 he R.cl m F (hr.mono hk) b .nil hx ht
end
abbrev sPlain : Stmt := inClass (top 10) 4
def spPlain (C : Addr) (n : Nat) : Sp := fun vs H Q _ => ∃ (a : Addr) (S : Addr → Prop) (fs : List (Str × T)), vs = [.ref a] ∧ Rc S C H (n + 1) (.ref a) (.fds fs) ∧ ∀ v' t' H', Tr (fun b => H b = none) H' 40 (n + 1) v' t' → Sm (n + 1) t' (.fds fs) → Srt (n + 1) t' → Same H H' → Q v' H'
def spPlainR (C : Addr) : Nat → Sp
  | 0 => spNo
  | n + 1 => spPlain C n
theorem rf_no {x : Str} (h1 : x ≠ ("_size" : Str)) (h2 : x ≠ ("_fields" : Str)) (h3 : x ≠ ("names" : Str)) (t d : Addr) (z : Int) : (rf t d z).lookup x = none := by
  unfold rf
  rw [lookup_putF, if_neg h1, lookup_putF, if_neg h2, lookup_putF, if_neg h3]
  rfl
theorem RA.exs {S : Addr → Prop} {C : Addr} {H : Hp} {a : Addr} {l : List (Str × V)} {z : Int} (r : RA S C H a l z) : RA (fun b => S b ∧ H b ≠ none) C H a l z := by
  obtain ⟨⟨dx, tp, d, ⟨s1, s2, s3⟩, e1, e2, e3⟩, n, s⟩ := r
  exact ⟨⟨dx, tp, d, ⟨⟨s1, by rw [e1]; exact fun z => by cases z⟩, ⟨s2, by rw [e2]; exact fun z => by cases z⟩, ⟨s3, by rw [e3]; exact fun z => by cases z⟩⟩, e1, e2, e3⟩, n, s⟩
theorem Rc.exs {S : Addr → Prop} {C : Addr} {H : Hp} : ∀ {n : Nat} {v : V} {t : T}, Rc S C H n v t → Rc (fun b => S b ∧ H b ≠ none) C H n v t
  | 0, _, _, h => h
  | n + 1, v, t, h => by
    rcases h with h | ⟨a, l, fs, e1, e2, e3, e4, e5, e6⟩
    · exact .inl h
    · exact .inr ⟨a, l, fs, e1, e2, e3.exs, e4, e5, fun x v u h1 h2 => Rc.exs (e6 x v u h1 h2)⟩
section
variable {P : Program} {w : World} {K : PySem.W.Frag} {mg : Str → Option Value} {base : Heap} {C : Addr}
theorem scPlain : FnScope ["self", "told", "name", "value"] ["self"] (defScope sPlain) := ⟨rfl, rfl, rfl, by decide +kernel, rfl, by decide +kernel, by decide +kernel⟩
theorem m_plain_step (T : Bu mg) (R : RecK K mg C) (D : DfK K C "plain" "Record.plain" sPlain ["self"]) (n : Nat) (c_plain : MthK P w K mg base CX0 C (n + 1) "plain" (spPlainR C n)) : MthK P w K mg base CX0 C (n + 2) "plain" (spPlain C n) := by
  obtain ⟨g, fd, mD, F, bD⟩ := D.ex
  refine ⟨g, fd, _, F.ok scPlain (fun vs H Q E h => ?_) (fun cdv A outer s H vs Q E hr h => ?_), mD, bD⟩
  · obtain ⟨a, S, fs, rfl, _⟩ := h
    rfl
  · obtain ⟨a, S, fs, rfl, rc, q⟩ := h
    have hu := hu_of hr
    refine ⟨_, (pss_cons (ps_set (i := 1) scPlain.nd rfl (Or.inl rfl) pe_dnewK)
      (pss_cons (ps_lock (ps_for PassesOwn.never rfl (pi_items (pe_fld (pv 0) rfl)) (pg_tup rfl (pgs_cons (pg_name (i := 2) scPlain.nd rfl (Or.inl rfl)) (pgs_cons (pg_name (i := 3) scPlain.nd rfl (Or.inl rfl)) pgs_nil)))
      (pss_one (ps_dput hu (pv 1) (pv 2) (pe_ifExp (pt_val (pe_callB call_isi (by rfl) T.b_isinstance bo_isinstance (pa_cons (pv 3) (pa_cons (pe_glob (by rfl) R.mgC (v := .ref C) rfl) pa_nil)))) (pe_mK0 R c_plain hr (by omega) pass0 (pv 3)) (pv 3)) rfl))))
      (pss_one (ps_ret (pv 1))))), ?_⟩
    refine rc.cases (fun i e _ => by cases e) (fun k a' l fs' en e1 e2 ra wf pm ch => ?_)
    cases en
    cases e1
    cases e2
    obtain ⟨⟨dx, tp, d, _, ea, et, ed⟩, nl, so⟩ := ra
    have ll : l.length = fs.length := by
      have := pm.length_eq
      rwa [List.length_map, List.length_map] at this
    have hfl : fs.length ≤ 40 := wf.ln
    intro M hM
    have s1 : Same H (upd H M (.dK [])) := Same.new (Same.refl _) hM
    have dM : d ≠ M := ne_of_none ed hM
    have ea1 := s1 _ _ ea
    have ed1 := s1 _ _ ed
    have eM1 : (upd H M (.dK [])) M = some (.dK (dk [])) := upd_same
    have ch1 : ∀ x v u, look x l = some v → look x fs = some u → Rc (fun b => S b ∧ H b ≠ none) C (upd H M (.dK [])) n v u := fun x v u h1 h2 => (ch x v u h1 h2).exs.same s1
    generalize upd H M (.dK []) = H1 at s1 ea1 ed1 eM1 ch1 ⊢
    refine ⟨d, .dK (dk l), ed1, True.intro, fun od => ?_⟩
    have ad : a ≠ d := fun z => by
      rw [z, ed] at ea
      cases ea
    have chB : ∀ x v u, look x l = some v → look x fs = some u → Rc (fun b => S b ∧ H b ≠ none) C (upd H1 d (.frz od (.dK (dk l)))) n v u := fun x v u h1 h2 =>
      Rc.away (z := nfs fs) ed1 (fun gs ng pg cg => (nfs_one wf.nd pm pg (fun x v u h1 h2 => (ch1 x v u h1 h2).sz) cg).symm) _ (ch1 x v u h1 h2) (nf_child h2)
    have eaB : (upd H1 d (.frz od (.dK (dk l)))) a = some (.ins C dx (rf tp d (nfs fs))) := by
      rw [upd_ne ad]
      exact ea1
    have eMB : (upd H1 d (.frz od (.dK (dk l)))) M = some (.dK (dk [])) := by
      rw [upd_ne dM.symm]
      exact eM1
    have edB : (upd H1 d (.frz od (.dK (dk l)))) d = some (.frz od (.dK (dk l))) := upd_same
    have nB : ∀ b, (upd H1 d (.frz od (.dK (dk l)))) b = none → H b = none := fun b hb => by
      by_cases z : b = d
      · rw [z, upd_same] at hb
        cases hb
      · rw [upd_ne z] at hb
        exact s1.free hb
    have sU0 : ∀ H', Fx M (upd H1 d (.frz od (.dK (dk l)))) H' → Same H (upd H' d (.dK (dk l))) := fun H' x b o e => by
      by_cases z : b = d
      · rw [z, upd_same, ← ed, ← z, e]
      · rw [upd_ne z]
        exact x b o (fun y => by rw [y, hM] at e; cases e) (by rw [upd_ne z]; exact s1 _ _ e)
    generalize upd H1 d (.frz od (.dK (dk l))) = B at chB eaB eMB edB nB sU0 ⊢
    refine ⟨_, rfl, a, C, dx, _, _, rfl, eaB, R.cl, R.nF, rf_fields _ _ _, d, od, dk l, rfl, edB, for_it walk_items (fun i σ H' => ∃ (nv vv : Option V) (lm : List (Str × V)) (fm : List (Str × GrT.T)), σ = [some (.ref a), some (.ref M), nv, vv] ∧ H' M = some (.dK (dk lm)) ∧
        Al (Tr (fun b => H b = none ∧ b ≠ M) H' 40 n) lm fm ∧ names fm = (names l).take i ∧ (∀ x v w, look x fm = some v → look x fs = some w → GrT.Sm n v w ∧ Srt n v) ∧ Fx M B H')
      ⟨none, none, [], [], rfl, eMB, .nil, rfl, (fun x v w h => by cases h), Fx.refl⟩ (fun i σ H' _ h => ?_) ?_ ?_⟩
    · obtain ⟨nv, vv, lm, fm, _, _, _, _, _, h⟩ := h
      exact h _ _ dM edB
    · rintro i y σ H' H2 hi ⟨nv, vv, lm, fm, rfl, eM, ar, nm, sm, x3⟩ ⟨Tp, x1, y1, rfl, hT, rfl, hx1, hy1⟩
      have hi2 : i < l.length := by
        rw [dk_len] at hi
        exact hi
      obtain ⟨⟨x, v⟩, hx⟩ : ∃ p, l[i]? = some p := ⟨l[i], List.getElem?_eq_getElem hi2⟩
      have hd : (dk l)[i]? = some (Sum.inr x, v) := by
        unfold dk
        rw [List.getElem?_map, hx]
        rfl
      have hx2 : ((dk l)[i]?).map (fun kv => kV kv.1) = some x1 := hx1
      have hy2 : ((dk l)[i]?).map Prod.snd = some y1 := hy1
      rw [hd] at hx2 hy2
      cases hx2
      cases hy2
      have eT : (upd H' Tp (.tup [kV (Sum.inr x), v])) Tp = some (.tup [kV (Sum.inr x), v]) := upd_same
      have x4 : Fx M B (upd H' Tp (.tup [kV (Sum.inr x), v])) := x3.new hT
      have s4 : Same H' (upd H' Tp (.tup [kV (Sum.inr x), v])) := Same.new (Same.refl _) hT
      have eM4 := s4 _ _ eM
      have ar4 : Al (Tr (fun b => H b = none ∧ b ≠ M) (upd H' Tp (.tup [kV (Sum.inr x), v])) 40 n) lm fm := ar.imp fun _ _ _ z => Tr.same z s4
      generalize upd H' Tp (.tup [kV (Sum.inr x), v]) = H4 at eT x4 eM4 ar4 ⊢
      refine ⟨Tp, _, rfl, SqT.of eT, rfl, _, _, rfl, _, _, rfl, rfl, ?_⟩
      have hlx : look x l = some v := mem_look nl (List.mem_of_getElem? hx)
      obtain ⟨u, hu2⟩ := look_some (pm.mem_iff.mp (List.mem_map.mpr ⟨_, List.mem_of_getElem? hx, rfl⟩))
      have ru : Rc (fun b => S b ∧ H b ≠ none) C H4 n v u := (chB x v u hlx hu2).keep fun b o sb e r => x4 b o (fun z => sb.2 (by rw [z]; exact hM)) e
      have hno : x ∉ names fm := by
        rw [nm]
        intro hm
        obtain ⟨j, hj, ej⟩ := List.mem_take_iff_getElem.mp hm
        have e2 : (names l)[i]? = some x := by rw [List.getElem?_map, hx]; rfl
        have hi3 : i < (names l).length := (List.getElem?_eq_some_iff.mp e2).1
        have e3 : (names l)[i] = x := (List.getElem?_eq_some_iff.mp e2).2
        have := (List.getElem_inj nl).mp (ej.trans e3.symm)
        omega
      have hnol : x ∉ names lm := by
        rw [ar4.names]
        exact hno
      have ndm : (names lm).Nodup := by
        rw [ar4.names, nm]
        exact List.Nodup.sublist (List.take_sublist _ _) nl
      have hml : (dk lm).length < sizeLine := by
        have : fm.length = (names fm).length := (List.length_map _).symm
        rw [dk_len, ar4.len, this, nm, List.length_take, List.length_map]
        exact Nat.lt_of_lt_of_le (by omega : min i l.length < 100) (line_big (by decide))
      have fin : ∀ (v' : V) (t' : GrT.T) (H6 : Hp), Tr (fun b => H b = none ∧ b ≠ M) H6 40 n v' t' → GrT.Sm n t' u → Srt n t' → Same H4 H6 → ∃ H7, DPut H6 M (.str x) v' H7 ∧ ∃ lm' fm', H7 M = some (.dK (dk lm')) ∧
          Al (Tr (fun b => H b = none ∧ b ≠ M) H7 40 n) lm' fm' ∧ names fm' = (names l).take (i + 1) ∧ (∀ x v w, look x fm' = some v → look x fs = some w → GrT.Sm n v w ∧ Srt n v) ∧ Fx M B H7 := by
        intro v' t' H6 r6 m6 o6 s6
        have eM6 := s6 _ _ eM4
        refine ⟨_, DPut.k (k := Sum.inr x) eM6 hml, lm ++ [(x, v')], fm ++ [(x, t')], ?_, ?_, ?_, fun z v w h1 h2 => ?_, fun b o nb e => by rw [upd_ne nb]; exact s6 _ _ (x4 b o nb e)⟩
        · rw [upd_same, dk_put x v' lm ndm, put_new hnol]
        · exact Al.snoc (ar4.imp fun _ _ _ z => (Tr.same z s6).keep fun b o sb e => by rw [upd_ne sb.2]; exact e) (r6.keep fun b o sb e => by rw [upd_ne sb.2]; exact e)
        · have e2 : (names l)[i]? = some x := by rw [List.getElem?_map, hx]; rfl
          rw [List.take_add_one, e2, ← nm]
          unfold names
          rw [List.map_append]
          rfl
        · rw [look_snoc hno] at h1
          split at h1
          · rename_i q
            cases h1
            rw [q, hu2] at h2
            cases h2
            exact ⟨m6, o6⟩
          · exact sm z v w h1 h2
      refine ru.cases (fun j e1 e2 => ?_) (fun k ca cl cfs en e1 e2 cra cwf cpm cch => ?_)
      · subst e1 e2
        obtain ⟨H7, dp, lm', fm', g⟩ := fin (.int j) (.int j) H4 (Tr.int j) (Sm.int j) (by
          cases n with
          | zero => exact True.intro
          | succ n => exact fun fs e => by cases e) (Same.refl _)
        exact ⟨_, rfl, _, _, _, _, _, rfl, .own C, .base (.int j), R.kI, _, rfl, iteF ⟨_, rfl, _, rfl, _, rfl, M, H7, rfl, dp, _, _, lm', fm', rfl, g⟩⟩
      · subst en e1 e2
        obtain ⟨⟨cx, ctp, cd, _, ce, _, _⟩, _, _⟩ := id cra
        refine ⟨_, rfl, _, _, _, _, _, rfl, .own C, R.ty ce, R.kRC, _, rfl, iteT ⟨_, rfl, ca, cx, _, rfl, ce, rf_no (by decide) (by decide) (by decide) _ _ _, ca, _, cfs, rfl, ru, fun v' t' H6 r6 m6 o6 s6 => ?_⟩⟩
        obtain ⟨H7, dp, lm', fm', g⟩ := fin v' t' H6 (r6.wid fun b hb => by
          refine ⟨?_, fun z => by rw [z, eM4] at hb; cases hb⟩
          cases e : B b with
          | none => exact nB b e
          | some o =>
            by_cases q : b = M
            · rw [q]
              exact hM
            · have := x4 b o q e
              rw [hb] at this
              cases this) m6 o6 s6
        exact ⟨_, rfl, _, rfl, M, H7, rfl, dp, _, _, lm', fm', rfl, g⟩
    · rintro σ H' ⟨nv, vv, lm, fm, rfl, eM, ar, nm, sm, x3⟩
      have edL : H' d = some (.frz od (.dK (dk l))) := x3 _ _ dM edB
      refine ⟨edL, ?_⟩
      have sU := sU0 H' x3
      have eMU : (upd H' d (.dK (dk l))) M = some (.dK (dk lm)) := by
        rw [upd_ne dM.symm]
        exact eM
      have arU : Al (Tr (fun b => H b = none ∧ b ≠ M) (upd H' d (.dK (dk l))) 40 n) lm fm := ar.imp fun _ _ _ z => z.keep fun b kvs sb e => by
        rw [upd_ne (fun y => by rw [y, ed] at sb; cases sb.1)]
        exact e
      rw [dk_len, List.take_of_length_le (by rw [List.length_map]; exact Nat.le_refl _)] at nm
      have nfm : (names fm).Nodup := by
        rw [nm]
        exact nl
      have lfm : fm.length = fs.length := by
        have : (names fm).length = (names l).length := by rw [nm]
        rw [List.length_map, List.length_map] at this
        omega
      refine ⟨_, rfl, q (.ref M) (.fds fm) _ (.inr ⟨M, lm, fm, rfl, rfl, hM, eMU, ⟨nfm, by omega, fun p hp => ?_⟩, arU.imp fun _ _ _ z => z.wid fun b hb => hb.1⟩) (.inr ⟨fm, fs, rfl, rfl, nfm, by rw [nm]; exact pm, fun x v w h1 h2 => (sm x v w h1 h2).1⟩) (fun f e => ?_) sU⟩
      · obtain ⟨p', hp', e⟩ := List.mem_map.mp (pm.mem_iff.mp (by rw [← nm]; exact List.mem_map.mpr ⟨p, hp, rfl⟩))
        rw [← e]
        exact wf.gd p' hp'
      · cases e
        refine ⟨by rw [nm]; exact so, fun x v h => ?_⟩
        obtain ⟨w', hw'⟩ := look_some (x := x) (l := fs) (pm.mem_iff.mp (by rw [← nm]; exact List.mem_map.mpr ⟨_, look_mem h, rfl⟩))
        exact (sm x v w' h hw').2
end
end Lw
namespace Lw
open PySem PySem.Spec PyProof.Rows L2 GrT GrOwn
/-- v is t: made of dicts (in S) and of records (in R) -/
def Mx (S R : Addr → Prop) (C : Addr) (H : Hp) : Nat → V → T → Prop
  | 0, v, t => ∃ i, v = .int i ∧ t = .int i
  | n + 1, v, t => (∃ i, v = .int i ∧ t = .int i) ∨ (∃ a l fs, v = .ref a ∧ t = .fds fs ∧ S a ∧ H a = some (.dK (dk l)) ∧ Wf 40 fs ∧ Al (Mx S R C H n) l fs) ∨ Rc R C H (n + 1) v t
theorem nf_mem {p : Str × T} : ∀ {fs : List (Str × T)}, p ∈ fs → nf p.2 < nfs fs
  | [], h => by cases h
  | (y, t) :: r, h => by
    have h1 := nf_nn t
    have h2 := nfs_nn r
    rw [nfs]
    rcases List.mem_cons.mp h with e | e
    · subst e
      show nf t < _
      omega
    · have := nf_mem e
      omega
theorem al_nfs {R1 R2 : V → T → Prop} (f : ∀ v t t', R1 v t → R2 v t' → nf t = nf t') : ∀ {l : List (Str × V)} {fs gs : List (Str × T)}, Al R1 l fs → Al R2 l gs → nfs fs = nfs gs
  | _, _, _, .nil, .nil => rfl
  | _, _, _, .cons (b := (x, t)) r h, .cons (b := (y, u)) r' h' => by
    rw [nfs, nfs, al_nfs f h h', f _ _ _ r.2 r'.2]
section
variable {S S' R R' : Addr → Prop} {C : Addr} {H H' : Hp}
theorem Rc.out' {n : Nat} {a : Addr} {fs : List (Str × T)} (h : Rc S C H (n + 1) (.ref a) (.fds fs)) : ∃ l, RA S C H a l (nfs fs) ∧ Wf 40 fs ∧ (names l).Perm (names fs) ∧ ∀ x v u, look x l = some v → look x fs = some u → Rc S C H n v u := by
  refine h.cases (fun i e _ => by cases e) fun k a' l fs' en e1 e2 ra wf pm ch => ?_
  cases en
  cases e1
  cases e2
  exact ⟨l, ra, wf, pm, ch⟩
theorem Mx.int {n : Nat} (i : Int) : Mx S R C H n (.int i) (.int i) := by
  cases n with
  | zero => exact ⟨i, rfl, rfl⟩
  | succ n => exact .inl ⟨i, rfl, rfl⟩
theorem Mx.cases {n : Nat} {v : V} {t : T} {P : Prop} (h : Mx S R C H n v t) (h1 : ∀ i, v = .int i → t = .int i → P)
    (h2 : ∀ k a l fs, n = k + 1 → v = .ref a → t = .fds fs → S a → H a = some (.dK (dk l)) → Wf 40 fs → Al (Mx S R C H k) l fs → P)
    (h3 : ∀ k a fs, n = k + 1 → v = .ref a → t = .fds fs → Rc R C H (k + 1) (.ref a) (.fds fs) → P) : P := by
  cases n with
  | zero =>
    obtain ⟨i, e1, e2⟩ := h
    exact h1 i e1 e2
  | succ k =>
    rcases h with ⟨i, e1, e2⟩ | ⟨a, l, fs, e1, e2, e3, e4, e5, e6⟩ | r
    · exact h1 i e1 e2
    · exact h2 k a l fs rfl e1 e2 e3 e4 e5 e6
    · refine id r |>.cases h1 fun k' a l fs en e1 e2 _ _ _ _ => ?_
      rw [e1, e2] at r
      exact h3 k a fs rfl e1 e2 r
theorem Mx.nf_one : ∀ {n m : Nat} {v : V} {t t' : T}, Mx S R C H n v t → Mx S R C H m v t' → nf t = nf t'
  | n, m, v, t, t', h, g => by
    induction n generalizing m v t t' with
    | zero =>
      obtain ⟨i, e1, e2⟩ := h
      refine g.cases (fun j f1 f2 => ?_) (fun _ _ _ _ _ f1 => by rw [e1] at f1; cases f1) (fun _ _ _ _ f1 => by rw [e1] at f1; cases f1)
      rw [e2, f2, nf, nf]
    | succ n ih =>
      refine h.cases (fun i e1 e2 => ?_) (fun k a l fs en e1 e2 _ ea _ al => ?_) (fun k a fs en e1 e2 r => ?_)
      · refine g.cases (fun j f1 f2 => ?_) (fun _ _ _ _ _ f1 => by rw [e1] at f1; cases f1) (fun _ _ _ _ f1 => by rw [e1] at f1; cases f1)
        rw [e2, f2, nf, nf]
      · cases en
        refine g.cases (fun j f1 f2 => by rw [e1] at f1; cases f1) (fun k' b m' gs _ f1 f2 _ eb _ ag => ?_) (fun k' b gs _ f1 f2 r' => ?_)
        · rw [e1] at f1
          cases f1
          rw [ea] at eb
          have hl : l = m' := dk_inj (HO.dK.inj (Option.some.inj eb))
          subst hl
          rw [e2, f2, nf, nf]
          exact al_nfs (fun v t t' h1 h2 => ih _ v t t' h1 h2) al ag
        · rw [e1] at f1
          cases f1
          obtain ⟨_, ⟨⟨_, _, _, _, q, _⟩, _, _⟩, _⟩ := Rc.out' r'
          rw [ea] at q
          cases q
      · cases en
        refine g.cases (fun j f1 f2 => by rw [e1] at f1; cases f1) (fun k' b m' gs _ f1 f2 _ eb _ ag => ?_) (fun k' b gs _ f1 f2 r' => ?_)
        · rw [e1] at f1
          cases f1
          obtain ⟨_, ⟨⟨_, _, _, _, q, _⟩, _, _⟩, _⟩ := Rc.out' r
          rw [eb] at q
          cases q
        · rw [e1] at f1
          cases f1
          rw [e2, f2]
          exact r.sz.one r'.sz
theorem mx_nfs {n m : Nat} {l : List (Str × V)} {fs gs : List (Str × T)} (h : Al (Mx S R C H n) l fs) (g : Al (Mx S R C H m) l gs) : nfs fs = nfs gs := al_nfs (fun _ _ _ a b => a.nf_one b) h g
theorem Mx.keep : ∀ {n : Nat} {v : V} {t : T}, Mx S R C H n v t → (∀ b o, S b ∨ R b → H b = some o → Ro o → H' b = some o) → Mx S R C H' n v t
  | 0, _, _, h, _ => h
  | n + 1, v, t, h, k => by
    rcases h with h | ⟨a, l, fs, e1, e2, es, e3, e4, e5⟩ | r
    · exact .inl h
    · exact .inr (.inl ⟨a, l, fs, e1, e2, es, k _ _ (.inl es) e3 True.intro, e4, e5.imp fun _ _ _ z => Mx.keep z k⟩)
    · exact .inr (.inr (r.keep fun b o rb e q => k b o (.inr rb) e q))
theorem Mx.same {n : Nat} {v : V} {t : T} (h : Mx S R C H n v t) (s : Same H H') : Mx S R C H' n v t := h.keep fun b o _ e _ => s b o e
theorem Mx.wid : ∀ {n : Nat} {v : V} {t : T}, Mx S R C H n v t → (∀ b, S b → S' b) → (∀ b, R b → R' b) → Mx S' R' C H n v t
  | 0, _, _, h, _, _ => h
  | n + 1, v, t, h, k, k' => by
    rcases h with h | ⟨a, l, fs, e1, e2, es, e3, e4, e5⟩ | r
    · exact .inl h
    · exact .inr (.inl ⟨a, l, fs, e1, e2, k _ es, e3, e4, e5.imp fun _ _ _ z => Mx.wid z k k'⟩)
    · exact .inr (.inr (r.wid k'))
theorem Mx.exs : ∀ {n : Nat} {v : V} {t : T}, Mx S R C H n v t → Mx (fun b => S b ∧ H b ≠ none) (fun b => R b ∧ H b ≠ none) C H n v t
  | 0, _, _, h => h
  | n + 1, v, t, h => by
    rcases h with h | ⟨a, l, fs, e1, e2, es, e3, e4, e5⟩ | r
    · exact .inl h
    · exact .inr (.inl ⟨a, l, fs, e1, e2, ⟨es, by rw [e3]; exact fun z => by cases z⟩, e3, e4, e5.imp fun _ _ _ z => Mx.exs z⟩)
    · exact .inr (.inr r.exs)
theorem Mx.away {a : Addr} {l : List (Str × V)} {z : Int} (dj : ∀ b, S b → ¬ R b) (sa : S a) (ea : H a = some (.dK (dk l))) (hz : ∀ m fs, Al (Mx S R C H m) l fs → nfs fs = z) (o : HO) : ∀ {n : Nat} {v : V} {t : T}, Mx S R C H n v t → nf t < z → Mx S R C (upd H a o) n v t
  | 0, _, _, h, _ => h
  | n + 1, v, t, h, hs => by
    rcases h with h | ⟨b, m, fs, e1, e2, es, e3, e4, e5⟩ | r
    · exact .inl h
    · rw [e2, nf] at hs
      have hb : b ≠ a := fun q => by
        rw [q, ea] at e3
        have hl : l = m := dk_inj (HO.dK.inj (Option.some.inj e3))
        subst hl
        have := hz _ _ e5
        omega
      refine .inr (.inl ⟨b, m, fs, e1, e2, es, by rw [upd_ne hb]; exact e3, e4, e5.imp fun p hp _ y => Mx.away dj sa ea hz o y ?_⟩)
      have := nf_mem hp
      omega
    · exact .inr (.inr (r.keep fun b o' rb e _ => by rw [upd_ne (fun q => dj a sa (by rw [← q]; exact rb))]; exact e))
end
def spMakeM (C : Addr) (n : Nat) : Sp := fun vs H Q _ => ∃ (a : Addr) (S R : Addr → Prop) (l : List (Str × V)) (fs : List (Str × T)), vs = [.ref a] ∧ S a ∧ H a = some (.dK (dk l)) ∧ Wf 40 fs ∧ Al (Mx S R C H n) l fs ∧ (∀ b, S b → ¬ R b) ∧
  ∀ v' H', Rc (fun b => R b ∨ H b = none) C H' (n + 1) v' (.fds fs) → Same H H' → Q v' H'
def spMakeMR (C : Addr) : Nat → Sp
  | 0 => spNo
  | n + 1 => spMakeM C n
section
variable {P : Program} {w : World} {K : PySem.W.Frag} {mg : Str → Option Value} {base : Heap} {C : Addr}
theorem fn_makeM_step (T : Bu mg) (R : RecK K mg C) {pD g : Addr} {fd : FuncData} (mD : SMet K C (.type "type") "make" pD g) (F : L2.Fun K "make" "Record.make" sMake g fd) (bD : Binds K fd ["fields"] []) (I : InK K C) (c_value_size : Cal P w K mg base 3 "value_size" (spVs C)) (c_is_name : Cal P w K mg base 1 "is_name" spIsName) (n : Nat)
    (c_make : SCal P w K mg base C (n + 5) (spMakeMR C n)) : FnOk P w K mg base CX0 (n + 6) g fd ["fields"] (spMakeM C n) := by
  refine F.ok scMake (fun vs H Q E h => ?_) (fun cdv A outer s H vs Q E hr h => ?_)
  · obtain ⟨a, S, Rr, l, fs, rfl, _⟩ := h
    rfl
  · obtain ⟨a, S, Rr, l, fs, rfl, sa, ea, wf, al, dj, q⟩ := h
    have hu := hu_of hr
    refine ⟨_, (pss_cons (ps_set (i := 1) scMake.nd rfl (Or.inl rfl) pe_dnewK)
      (pss_cons (ps_lock (ps_for PassesOwn.never rfl (pi_items (pv 0)) (pg_tup rfl (pgs_cons (pg_name (i := 2) scMake.nd rfl (Or.inl rfl)) (pgs_cons (pg_name (i := 3) scMake.nd rfl (Or.inl rfl)) pgs_nil)))
      (pss_cons (ps_if (pt_not (pt_val (pe_c c_is_name hr (by omega) rfl (pa_cons (pv 2) pa_nil)))) (pss_one ps_no) pss_nil)
      (pss_one (ps_dput hu (pv 1) (pv 2) (pe_ifExp (pt_val (pe_callB call_isi (by rfl) T.b_isinstance bo_isinstance (pa_cons (pv 3) (pa_cons (pe_bltn (by rfl) T.b_dict bo_dict (v := .ty "dict") rfl) pa_nil)))) (pe_smC (pe_glob (by rfl) R.mgC (v := .ref C) rfl) c_make hr (by omega) (pa_cons (pv 3) pa_nil)) (pv 3)) rfl)))))
      (pss_one (ps_ret (pe_new T R c_value_size I hr (by omega) (by rfl) (pa_cons (pv 1) pa_nil)))))), ?_⟩
    intro M hM
    have aM : a ≠ M := ne_of_none ea hM
    have s1 : Same H (upd H M (.dK [])) := Same.new (Same.refl _) hM
    have ea1 := s1 _ _ ea
    have eM1 : (upd H M (.dK [])) M = some (.dK (dk [])) := upd_same
    have al0 : Al (Mx (fun b => S b ∧ H b ≠ none) (fun b => Rr b ∧ H b ≠ none) C H n) l fs := al.imp fun _ _ _ z => Mx.exs z
    have dj' : ∀ b, S b ∧ H b ≠ none → ¬ (Rr b ∧ H b ≠ none) := fun b h g => dj b h.1 g.1
    have al1 : Al (Mx (fun b => S b ∧ H b ≠ none) (fun b => Rr b ∧ H b ≠ none) C (upd H M (.dK [])) n) l fs := al0.imp fun _ _ _ z => Mx.same z s1
    have sa1 : (fun b => S b ∧ H b ≠ none) a := ⟨sa, by rw [ea]; exact fun z => by cases z⟩
    refine ⟨a, .dK (dk l), ea1, True.intro, fun od => ?_⟩
    have alB : Al (Mx (fun b => S b ∧ H b ≠ none) (fun b => Rr b ∧ H b ≠ none) C (upd (upd H M (.dK [])) a (.frz od (.dK (dk l)))) n) l fs := al1.imp fun p hp _ z => Mx.away (z := nfs fs) dj' sa1 ea1 (fun m gs g => mx_nfs g al1) _ z (nf_mem hp)
    have eMB : (upd (upd H M (.dK [])) a (.frz od (.dK (dk l)))) M = some (.dK (dk [])) := by
      rw [upd_ne aM.symm]
      exact eM1
    have eaB : (upd (upd H M (.dK [])) a (.frz od (.dK (dk l)))) a = some (.frz od (.dK (dk l))) := upd_same
    have sB : ∀ b o, H b = some o → b ≠ a → (upd (upd H M (.dK [])) a (.frz od (.dK (dk l)))) b = some o := fun b o e nb => by
      rw [upd_ne nb]
      exact s1 b o e
    generalize upd (upd H M (.dK [])) a (.frz od (.dK (dk l))) = B at alB eMB eaB sB ⊢
    have hfl : fs.length ≤ 40 := wf.ln
    refine ⟨_, rfl, a, od, dk l, rfl, eaB, for_it walk_items (fun i σ H' => ∃ (nv vv : Option V) (lm : List (Str × V)), σ = [some (.ref a), some (.ref M), nv, vv] ∧ H' M = some (.dK (dk lm)) ∧ Al (Rc (fun b => (Rr b ∨ H b = none) ∧ b ≠ M) C H' n) lm (fs.take i) ∧ Fx M B H')
      ⟨none, none, [], rfl, eMB, .nil, Fx.refl⟩ ?_ ?_ ?_⟩
    · rintro i σ H' _ ⟨nv, vv, lm, _, _, _, x3⟩
      exact x3 _ _ aM eaB
    · rintro i x σ H' H2 hi ⟨nv, vv, lm, rfl, eM, ar, x3⟩ ⟨Tp, x1, y1, rfl, hT, rfl, hx1, hy1⟩
      have hi2 : i < l.length := by
        rw [dk_len] at hi
        exact hi
      obtain ⟨⟨x, v⟩, hx⟩ : ∃ p, l[i]? = some p := ⟨l[i], List.getElem?_eq_getElem hi2⟩
      have hd : (dk l)[i]? = some (Sum.inr x, v) := by
        unfold dk
        rw [List.getElem?_map, hx]
        rfl
      have hx2 : ((dk l)[i]?).map (fun kv => kV kv.1) = some x1 := hx1
      have hy2 : ((dk l)[i]?).map Prod.snd = some y1 := hy1
      rw [hd] at hx2 hy2
      cases hx2
      cases hy2
      obtain ⟨u, hu2, ru⟩ := Lw.Al.at alB hx
      have eT : (upd H' Tp (.tup [kV (Sum.inr x), v])) Tp = some (.tup [kV (Sum.inr x), v]) := upd_same
      have x4 : Fx M B (upd H' Tp (.tup [kV (Sum.inr x), v])) := x3.new hT
      have eM4 : (upd H' Tp (.tup [kV (Sum.inr x), v])) M = some (.dK (dk lm)) := by
        rw [upd_ne (ne_of_none eM hT)]
        exact eM
      have ar4 : Al (Rc (fun b => (Rr b ∨ H b = none) ∧ b ≠ M) C (upd H' Tp (.tup [kV (Sum.inr x), v])) n) lm (fs.take i) := ar.imp fun _ _ _ z => z.same (Same.new (Same.refl _) hT)
      generalize upd H' Tp (.tup [kV (Sum.inr x), v]) = H4 at eT x4 eM4 ar4 ⊢
      have gx : Good x := wf.gd (x, u) (List.mem_of_getElem? hu2)
      refine ⟨Tp, _, rfl, SqT.of eT, rfl, _, _, rfl, _, _, rfl, rfl, ?_⟩
      refine ⟨_, rfl, x, rfl, gx, fun H5 s5 => ⟨_, rfl, iteF ?_⟩⟩
      have x5 : Fx M B H5 := fun b o nb e => s5 _ _ (x4 b o nb e)
      have eM5 := s5 _ _ eM4
      have ar5 : Al (Rc (fun b => (Rr b ∨ H b = none) ∧ b ≠ M) C H5 n) lm (fs.take i) := ar4.imp fun _ _ _ z => z.same s5
      have ru5 : Mx (fun b => S b ∧ H b ≠ none) (fun b => Rr b ∧ H b ≠ none) C H5 n v u := ru.keep fun b o sb e r => x5 b _ (fun z => sb.elim (fun h => h.2 (by rw [z]; exact hM)) fun h => h.2 (by rw [z]; exact hM)) e
      have hno : x ∉ names lm := by
        rw [ar5.names]
        intro hm
        have e1 : names (fs.take i) = (names fs).take i := by simp [names, List.map_take]
        rw [e1] at hm
        obtain ⟨j, hj, ej⟩ := List.mem_take_iff_getElem.mp hm
        have e2 : (names fs)[i]? = some x := by rw [List.getElem?_map, hu2]; rfl
        have hi3 : i < (names fs).length := (List.getElem?_eq_some_iff.mp e2).1
        have e3 : (names fs)[i] = x := (List.getElem?_eq_some_iff.mp e2).2
        have := (List.getElem_inj wf.nd).mp (ej.trans e3.symm)
        omega
      have ndm : (names lm).Nodup := by
        rw [ar5.names]
        have e1 : names (fs.take i) = (names fs).take i := by simp [names, List.map_take]
        rw [e1]
        exact List.Nodup.sublist (List.take_sublist _ _) wf.nd
      have hml : (dk lm).length < sizeLine := by
        rw [dk_len, ar5.len, List.length_take]
        exact Nat.lt_of_lt_of_le (by omega : min i fs.length < 100) (line_big (by decide))
      have fin : ∀ (v' : V) (H6 : Hp), Rc (fun b => (Rr b ∨ H b = none) ∧ b ≠ M) C H6 n v' u → Same H5 H6 → ∃ H7, DPut H6 M (.str x) v' H7 ∧ ∃ lm', H7 M = some (.dK (dk lm')) ∧ Al (Rc (fun b => (Rr b ∨ H b = none) ∧ b ≠ M) C H7 n) lm' (fs.take (i + 1)) ∧ Fx M B H7 := by
        intro v' H6 r6 s6
        have eM6 := s6 _ _ eM5
        refine ⟨_, DPut.k (k := Sum.inr x) eM6 hml, lm ++ [(x, v')], ?_, ?_, fun b o nb e => by rw [upd_ne nb]; exact s6 _ _ (x5 b o nb e)⟩
        · rw [upd_same, dk_put x v' lm ndm, put_new hno]
        · rw [List.take_add_one, hu2]
          exact Al.snoc (ar5.imp fun _ _ _ z => (z.same s6).keep fun b o sb e _ => by rw [upd_ne sb.2]; exact e) (r6.keep fun b o sb e _ => by rw [upd_ne sb.2]; exact e)
      have nH : ∀ b, H5 b = none → H b = none ∧ b ≠ M := fun b hb => by
        refine ⟨?_, fun z => by rw [z, eM5] at hb; cases hb⟩
        cases e : H b with
        | none => rfl
        | some o =>
          by_cases q : b = a
          · have h2 := x5 _ _ aM eaB
            rw [q, h2] at hb
            cases hb
          · have h2 := x5 b o (fun z => by rw [z, hM] at e; cases e) (sB b o e q)
            rw [h2] at hb
            cases hb
      refine ru5.cases (fun j e1 e2 => ?_) (fun k ca cl cfs en e1 e2 cs ce cw cal => ?_) (fun k ca cfs en e1 e2 crc => ?_)
      · subst e1 e2
        obtain ⟨H7, dp, lm', g1, g2, g3⟩ := fin (.int j) H5 (Rc.int j) (Same.refl _)
        exact ⟨_, rfl, _, _, _, _, _, rfl, .ty _, .base (.int j), rfl, _, rfl, iteF ⟨_, rfl, _, rfl, _, rfl, M, H7, rfl, dp, _, _, lm', rfl, g1, g2, g3⟩⟩
      · subst en e1 e2
        refine ⟨_, rfl, _, _, _, _, _, rfl, .ty _, .base (.dK ce), rfl, _, rfl, iteT ⟨rfl, _, rfl, ca, _, _, cl, cfs, rfl, cs, ce, cw, cal, dj', fun v' H6 r6 s6 => ?_⟩⟩
        obtain ⟨H7, dp, lm', g1, g2, g3⟩ := fin v' H6 (r6.wid fun b hb => hb.elim (fun h => ⟨.inl h.1, fun z => h.2 (by rw [z]; exact hM)⟩) fun h => ⟨.inr (nH b h).1, (nH b h).2⟩) s6
        exact ⟨_, rfl, _, rfl, M, H7, rfl, dp, _, _, lm', rfl, g1, g2, g3⟩
      · subst en e1 e2
        obtain ⟨cl', ⟨⟨cx, ctp, cd, _, ce, _, _⟩, _, _⟩, _⟩ := Rc.out' crc
        obtain ⟨H7, dp, lm', g1, g2, g3⟩ := fin (.ref ca) H5 (crc.wid fun b h => ⟨.inl h.1, fun z => h.2 (by rw [z]; exact hM)⟩) (Same.refl _)
        exact ⟨_, rfl, _, _, _, _, _, rfl, .ty _, R.ty ce, R.kRD, _, rfl, iteF ⟨_, rfl, _, rfl, _, rfl, M, H7, rfl, dp, _, _, lm', rfl, g1, g2, g3⟩⟩
    · rintro σ H' ⟨nv, vv, lm, rfl, eM, ar, x3⟩
      have ell : (dk l).length = fs.length := by rw [dk_len, al.len]
      rw [ell, List.take_length] at ar
      have eaL : H' a = some (.frz od (.dK (dk l))) := x3 _ _ aM eaB
      refine ⟨eaL, ?_⟩
      have sU : Same H (upd H' a (.dK (dk l))) := fun b o e => by
        by_cases z : b = a
        · rw [z, upd_same, ← ea, ← z, e]
        · rw [upd_ne z]
          exact x3 b o (fun y => by rw [y, hM] at e; cases e) (sB b o e z)
      have arU : Al (Rc (fun b => (Rr b ∨ H b = none) ∧ b ≠ M) C (upd H' a (.dK (dk l))) n) lm fs := ar.imp fun _ _ _ z => z.keep fun b o sb e _ => by
        rw [upd_ne (fun y => sb.1.elim (fun h => dj a sa (by rw [← y]; exact h)) fun h => by rw [y, ea] at h; cases h)]
        exact e
      have eMU : (upd H' a (.dK (dk l))) M = some (.dK (dk lm)) := by
        rw [upd_ne aM.symm]
        exact eM
      generalize upd H' a (.dK (dk l)) = HU at sU arU eMU ⊢
      have hnm : names lm = names fs := arU.names
      refine ⟨_, rfl, fun x dx hx hdx hne => ?_⟩
      have eX : (upd (upd HU dx (.own x)) x (.ins C dx [])) x = some (.ins C dx []) := upd_same
      have sX : Same HU (upd (upd HU dx (.own x)) x (.ins C dx [])) := Same.new (Same.new (Same.refl _) hdx) (by rw [upd_ne hne.symm]; exact hx)
      have nX : ∀ b, (upd (upd HU dx (.own x)) x (.ins C dx [])) b = none → HU b = none := fun b h => sX.free h
      generalize upd (upd HU dx (.own x)) x (.ins C dx []) = HX at eX sX nX ⊢
      have arX : Al (Rc (fun b => (Rr b ∨ H b = none) ∧ b ≠ M) C HX n) lm fs := arU.imp fun _ _ _ z => z.same sX
      refine ⟨x, dx, M, lm, szf fs, rfl, eX, sX _ _ eMU, by rw [hnm]; exact wf.nd, by rw [arX.len]; exact hfl, fun y v hv => ?_, fun l' H'' ra pm lk fx => ?_⟩
      · obtain ⟨u, hu2, ru⟩ := arX.get' hv
        have := Rc.sz ru
        unfold szf
        rw [hu2]
        exact this
      · refine ⟨rfl, q _ _ (.inr ⟨x, l', fs, rfl, rfl, ?_, wf, by rw [← hnm]; exact pm, fun y v u h1 h2 => ?_⟩) fun b o e => ?_⟩
        · have ez : (lm.length : Int) + ((names lm).map (szf fs)).sum = nfs fs := by
            rw [hnm, arX.len]
            exact nfs_len wf.nd
          rw [ez] at ra
          refine ra.wid fun b hb => ?_
          rcases hb with e | e
          · rw [e]
            exact .inr (sU.free hx)
          · exact .inr (sU.free (nX b e))
        · rw [lk] at h1
          obtain ⟨u', h3, r3⟩ := arU.get' h1
          have e : u' = u := Option.some.inj (h3.symm.trans h2)
          subst e
          exact (r3.keep fun b o sb e _ => fx b o (fun z => by rw [z, hx] at e; cases e) (sX _ _ e)).wid fun b hb => hb.1
        · exact fx b o (fun z => by rw [z, sU.free hx] at e; cases e) (sX _ _ (sU _ _ e))
theorem s_makeM_step (T : Bu mg) (R : RecK K mg C) (D : StK K C) (I : InK K C) (c_value_size : Cal P w K mg base 3 "value_size" (spVs C)) (c_is_name : Cal P w K mg base 1 "is_name" spIsName) (n : Nat)
    (c_make : SCal P w K mg base C (n + 5) (spMakeMR C n)) : SCal P w K mg base C (n + 6) (spMakeM C n) := by
  obtain ⟨pD, g, fd, mD, F, bD⟩ := D.ex
  exact ⟨pD, g, fd, _, mD, fn_makeM_step T R mD F bD I c_value_size c_is_name n c_make, bD⟩
theorem fn_makeM {pD g : Addr} {fd : FuncData} (T : Bu mg) (R : RecK K mg C) (mD : SMet K C (.type "type") "make" pD g) (F : L2.Fun K "make" "Record.make" sMake g fd) (bD : Binds K fd ["fields"] []) (I : InK K C) (c_value_size : Cal P w K mg base 3 "value_size" (spVs C)) (c_is_name : Cal P w K mg base 1 "is_name" spIsName) : ∀ n, FnOk P w K mg base CX0 (n + 6) g fd ["fields"] (spMakeM C n)
  | 0 => fn_makeM_step T R mD F bD I c_value_size c_is_name 0 (s_no ⟨pD, g, fd, mD, F, bD⟩)
  | n + 1 => fn_makeM_step T R mD F bD I c_value_size c_is_name (n + 1) ⟨pD, g, fd, _, mD, fn_makeM T R mD F bD I c_value_size c_is_name n, bD⟩
end
section
variable {P : Program} {w : World} {K : PySem.W.Frag} {mg : Str → Option Value} {base : Heap} {C : Addr}
theorem s_makeM (T : Bu mg) (R : RecK K mg C) (D : StK K C) (I : InK K C) (c_value_size : Cal P w K mg base 3 "value_size" (spVs C)) (c_is_name : Cal P w K mg base 1 "is_name" spIsName) : ∀ n, SCal P w K mg base C (n + 6) (spMakeM C n)
  | 0 => s_makeM_step T R D I c_value_size c_is_name 0 (s_no D)
  | n + 1 => s_makeM_step T R D I c_value_size c_is_name (n + 1) (s_makeM T R D I c_value_size c_is_name n)
end
end Lw
namespace Lw
open PySem PySem.Spec PyProof.Rows L2 GrT GrOwn
abbrev sPick : Stmt := top 19
def spPick : Sp := fun vs H Q _ => ∃ (p P : Addr) (ps : List Str), vs = [.ref p, .ref P] ∧ Tape H p ∧ P ≠ p ∧ H P = some (.lst (ps.map V.str)) ∧ 0 < ps.length ∧ ps.length ≤ 64 ∧ ∀ x H', x ∈ ps → Fx p H H' → Tape H' p → Q (.str x) H'
section
variable {P : Program} {w : World} {K : PySem.W.Frag} {mg : Str → Option Value} {base : Heap} {C : Addr}
theorem scPick : FnScope ["tape", "names"] ["tape", "names"] (defScope sPick) := ⟨rfl, rfl, rfl, by decide +kernel, rfl, by decide +kernel, by decide +kernel⟩
theorem c_pick (T : Bu mg) (D : Dfn K mg "_law_pick" sPick ["tape", "names"]) (c_law_take : Cal P w K mg base 1 "_law_take" spTake) : Cal P w K mg base 2 "_law_pick" spPick := by
  refine D.cal scPick (fun vs H Q E h => ?_) (fun f cdv A outer s H vs Q E hr h => ?_)
  · obtain ⟨p, P, ps, rfl, _⟩ := h
    rfl
  · obtain ⟨p, P, ps, rfl, tp, Pp, eP, l1, l2, q⟩ := h
    refine ⟨_, (pss_one (ps_ret (pe_ix ix_list (pv 1) (pe_op op_mod (pe_callTy call_int1 (by rfl) T.b_int (by decide +kernel) (pa_cons (pe_c c_law_take hr (by omega) rfl (pa_cons (pv 0) (pa_cons pe_int pa_nil))) pa_nil)) (pe_callB call_len_seq (by rfl) T.b_len PySem.boot_len (pa_cons (pv 1) pa_nil))) (fun _ _ => rfl)))), ?_⟩
    refine ⟨_, rfl, _, rfl, p, 720720, rfl, tp, p72, fun i H1 i0 i1 x1 t1 => ?_⟩
    have eP1 := x1 _ _ Pp eP
    obtain ⟨x, hx, hat⟩ := pick_ix (ps := ps) (z := i) l1
    exact .inl ⟨_, rfl, _, rfl, P, _, rfl, .inl (SqL.of eP1), _, _, rfl, rfl, by rw [List.length_map]; omega, P, _, _, _, rfl, rfl, SqL.of eP1, by rw [List.length_map]; exact hat, q x H1 hx x1 t1⟩
end
end Lw
/-! From a record that bears a value to its paths. -/
namespace Gn
open PySem PySem.Spec PyProof.Rows L2 GenW GrT GrOwn Lw
section
variable {S : Addr → Prop} {C : Addr} {H : Hp}
theorem rc_out {n : Nat} {a : Addr} {fs : List (Str × T)} (h : Rc S C H (n + 1) (.ref a) (.fds fs)) : ∃ l, RA S C H a l (nfs fs) ∧ Wf 40 fs ∧ (names l).Perm (names fs) ∧ ∀ x v u, look x l = some v → look x fs = some u → Rc S C H n v u := by
  refine h.cases (fun i e _ => by cases e) fun k a' l fs' en e1 e2 ra wf pm ch => ?_
  cases en
  cases e1
  cases e2
  exact ⟨l, ra, wf, pm, ch⟩
theorem rc_ref {n : Nat} {v : V} {fs : List (Str × T)} (h : Rc S C H n v (.fds fs)) : ∃ a, v = .ref a :=
  h.cases (fun i _ e => by cases e) fun k a l fs' _ e1 _ _ _ _ _ => ⟨a, e1⟩
theorem sum_permI {α : Type} {f : α → Int} {l m : List α} (h : l.Perm m) : (l.map f).sum = (m.map f).sum := by
  induction h with
  | nil => rfl
  | cons x _ ih => rw [List.map_cons, List.map_cons, List.sum_cons, List.sum_cons, ih]
  | swap x y l =>
    simp only [List.map_cons, List.sum_cons]
    omega
  | trans _ _ ih1 ih2 => rw [ih1, ih2]
theorem rows_of {n : Nat} (ih : ∀ v fs, Rc S C H n v (.fds fs) → ∃ ps, Pt C H n v ps ∧ (ps.length : Int) = nfs fs) (g : Str → T) :
    ∀ {l : List (Str × V)}, (∀ p ∈ l, Rc S C H n p.2 (g p.1)) → ∃ ps, RowsR (Pt C H n) l ps ∧ (ps.length : Int) = (l.map fun p => 1 + nf (g p.1)).sum
  | [], _ => ⟨[], .nil, rfl⟩
  | (x, v) :: r, h => by
    obtain ⟨ps, q, e⟩ := rows_of ih g (l := r) fun p hp => h p (List.mem_cons_of_mem _ hp)
    have hx : Rc S C H n v (g x) := h (x, v) List.mem_cons_self
    rw [List.map_cons, List.sum_cons, ← e]
    show ∃ ps', _ ∧ _ = 1 + nf (g x) + _
    generalize hu : g x = u at hx
    cases u with
    | int i =>
      have ev : v = .int i := hx.cases (fun j e1 e2 => by cases e2; exact e1) fun k a l' fs' _ _ e2 _ _ _ _ => by cases e2
      subst ev
      refine ⟨_, .int q, ?_⟩
      rw [List.length_cons, nf]
      omega
    | fds fs =>
      obtain ⟨sub, p, e2⟩ := ih _ _ hx
      refine ⟨_, .sub p q, ?_⟩
      rw [List.length_cons, List.length_append, List.length_map, nf, ← e2]
      omega
theorem sum_names {f : Str → Int} : ∀ {α : Type} {l : List (Str × α)}, (l.map fun p => 1 + f p.1).sum = ((names l).map fun x => 1 + f x).sum := by
  intro α l
  rw [names, List.map_map]
  rfl
/-- a record has its paths, as many as its size tells -/
theorem pt_of : ∀ {n : Nat} {v : V} {fs : List (Str × T)}, Rc S C H n v (.fds fs) → ∃ ps, Pt C H n v ps ∧ (ps.length : Int) = nfs fs
  | 0, v, fs, h => by
    obtain ⟨i, _, e⟩ := h
    cases e
  | n + 1, v, fs, h => by
    obtain ⟨a, rfl⟩ := rc_ref h
    obtain ⟨l, ra, wf, pm, ch⟩ := rc_out h
    have lk : ∀ p ∈ l, ∃ u, look p.1 fs = some u ∧ Rc S C H n p.2 u := fun p hp => by
      obtain ⟨u, hu⟩ := look_some (pm.mem_iff.mp (List.mem_map.mpr ⟨p, hp, rfl⟩))
      exact ⟨u, hu, ch p.1 p.2 u (mem_look ra.nd hp) hu⟩
    obtain ⟨ps, q, e⟩ := rows_of (n := n) (fun v fs h => pt_of h) (fun x => (look x fs).getD (.int 0)) (l := l) fun p hp => by
      obtain ⟨u, hu, hr⟩ := lk p hp
      rw [hu]
      exact hr
    refine ⟨ps, ⟨a, l, _, rfl, ra.any, ?_, q⟩, ?_⟩
    · have := pm.length_eq
      rw [List.length_map, List.length_map] at this
      rw [this]
      exact wf.ln
    · have e3 := nfs_sum fs
      have e4 : (fs.map fun p => 1 + nf p.2) = fs.map fun p => 1 + nf ((look p.1 fs).getD (.int 0)) := by
        refine List.map_congr_left fun p hp => ?_
        rw [mem_look wf.nd hp]
        rfl
      rw [e, e3, e4, sum_names (f := fun x => nf ((look x fs).getD (.int 0))), sum_names (f := fun x => nf ((look x fs).getD (.int 0)))]
      exact sum_permI pm
end
end Gn
/-! The paths of a record, told by its tree: one list for each tree. -/
namespace Lw
open PySem PySem.Spec PyProof.Rows L2 GrT GrOwn
/-! ### sorted names -/
theorem ltc_asym : ∀ a b : List Nat, ltCps a b = true → ltCps b a = false
  | [], [], h => by cases h
  | [], _ :: _, _ => rfl
  | _ :: _, [], h => by cases h
  | a :: r, b :: t, h => by
    simp only [ltCps, Bool.or_eq_true, decide_eq_true_eq, Bool.and_eq_true, beq_iff_eq, Bool.or_eq_false_iff, decide_eq_false_iff_not, Bool.and_eq_false_iff, beq_eq_false_iff_ne] at h ⊢
    rcases h with h | ⟨h1, h2⟩
    · exact ⟨by omega, .inl (by omega)⟩
    · exact ⟨by omega, .inr (ltc_asym r t h2)⟩
def le1 (a b : Str) : Bool := !(ltCps b.cps.toList a.cps.toList)
def srt (l : List Str) : List Str := l.mergeSort le1
theorem srt_perm (l : List Str) : (srt l).Perm l := List.mergeSort_perm l le1
theorem srt_one {ys l : List Str} (h : sortedS ys = true) (p : ys.Perm l) : ys = srt l := by
  refine List.Perm.eq_of_pairwise (fun x y _ _ h1 h2 => str_tl (ltc_anti _ _ h2 h1)) (sorted_pw h) ?_ (p.trans (srt_perm l).symm)
  have := List.pairwise_mergeSort (le := le1) (fun a b c h1 h2 => ?_) (fun a b => ?_) l
  · exact this.imp fun {a b} h => by
      unfold le1 at h
      rw [Bool.not_eq_true'] at h
      exact h
  · unfold le1 at h1 h2 ⊢
    rw [Bool.not_eq_true'] at h1 h2 ⊢
    exact ltc_trans _ _ _ h1 h2
  · unfold le1
    cases h : ltCps b.cps.toList a.cps.toList with
    | false => rfl
    | true => rw [ltc_asym _ _ h]; rfl
/-! ### the paths of a tree -/
def wkOf (f : T → List (List Str)) (fs : List (Str × T)) (ws : List Str) : List (List Str) := ws.flatMap fun x => [x] :: (f ((look x fs).getD (.int 0))).map (x :: ·)
def wk : Nat → T → List (List Str)
  | 0, _ => []
  | _ + 1, .int _ => []
  | n + 1, .fds fs => wkOf (wk n) fs (srt (names fs))
theorem wk_int {n : Nat} {i : Int} : wk n (.int i) = [] := by
  cases n <;> rfl
/-! ### what stands in a record -/
def CpOk (x : Str) : Prop := ∀ c ∈ x.cps.toList, c < 0x110000
theorem CpOk.good {x : Str} (h : Good x) : CpOk x := fun c hc => by
  have := (h.2.2 c hc).2
  omega
section
variable {S S' : Addr → Prop} {C : Addr} {H : Hp}
theorem rc_names {n : Nat} {a : Addr} {fs : List (Str × T)} (h : Rc S C H (n + 1) (.ref a) (.fds fs)) {l : List (Str × V)} {z : Int} (r : RA S' C H a l z) : ∀ y ∈ names l, Good y := fun y hy => by
  obtain ⟨l', r', wf, pm, _⟩ := Gn.rc_out h
  have e : names l = names l' := by
    obtain ⟨⟨dx, tp, d, _, e1, e2, _⟩, _, _⟩ := r
    obtain ⟨⟨dx', tp', d', _, f1, f2, _⟩, _, _⟩ := r'
    rw [e1] at f1
    have g := (HO.ins.inj (Option.some.inj f1)).2.2
    have g2 := congrArg (fun l => List.lookup ("names" : Str) l) g
    simp only [rf_names] at g2
    cases g2
    rw [e2] at f2
    have g3 := HO.tup.inj (Option.some.inj f2)
    exact List.map_inj_right (fun x y h => by cases h; rfl) |>.mp g3
  rw [e] at hy
  obtain ⟨p, hp, e⟩ := List.mem_map.mp (pm.mem_iff.mp hy)
  rw [← e]
  exact wf.gd p hp
theorem ra_one {a : Addr} {l l' : List (Str × V)} {z z' : Int} (r : RA S C H a l z) (r' : RA S' C H a l' z') : l = l' := by
  obtain ⟨⟨dx, tp, d, _, e1, _, e2⟩, _, _⟩ := r
  obtain ⟨⟨dx', tp', d', _, f1, _, f2⟩, _, _⟩ := r'
  rw [e1] at f1
  have g := (HO.ins.inj (Option.some.inj f1)).2.2
  have g2 := congrArg (fun l => List.lookup ("_fields" : Str) l) g
  simp only [rf_fields] at g2
  cases g2
  rw [e2] at f2
  have g3 := HO.dK.inj (Option.some.inj f2)
  exact List.map_inj_right (fun x y h => by
    obtain ⟨x1, x2⟩ := x
    obtain ⟨y1, y2⟩ := y
    cases h
    rfl) |>.mp g3
theorem rows_wk {n : Nat} {fs : List (Str × T)} {R : V → List (List Str) → Prop} : ∀ {l : List (Str × V)} {ps : List (List Str)}, Gn.RowsR R l ps →
    (∀ p ∈ l, (∀ i, p.2 = .int i → wk n ((look p.1 fs).getD (.int 0)) = []) ∧ ∀ qs, R p.2 qs → qs = wk n ((look p.1 fs).getD (.int 0))) → ps = wkOf (wk n) fs (names l)
  | _, _, .nil, _ => rfl
  | _, _, .int (x := x) (i := i) (l := l) r, h => by
    have hh := (h _ List.mem_cons_self).1 i rfl
    have := rows_wk r fun p hp => h p (List.mem_cons_of_mem _ hp)
    unfold wkOf at this ⊢
    show _ = List.flatMap _ (x :: names l)
    rw [List.flatMap_cons]
    simp only at hh
    rw [← this, hh]
    rfl
  | _, _, .sub (x := x) (l := l) hs r, h => by
    have hh := (h _ List.mem_cons_self).2 _ hs
    have := rows_wk r fun p hp => h p (List.mem_cons_of_mem _ hp)
    unfold wkOf at this ⊢
    show _ = List.flatMap _ (x :: names l)
    rw [List.flatMap_cons]
    simp only at hh
    rw [← this, ← hh]
    rfl
theorem pt_wk : ∀ {n : Nat} {v : V} {ps : List (List Str)} {fs : List (Str × T)}, Gn.Pt C H n v ps → Rc S C H n v (.fds fs) → ps = wk n (.fds fs)
  | 0, _, _, _, h, _ => h.elim
  | n + 1, v, ps, fs, ⟨a, l, z, e, ra, hl, rows⟩, rc => by
    subst e
    obtain ⟨l', ra', wf, pm, ch⟩ := Gn.rc_out rc
    have e := ra_one ra ra'
    subst e
    have es : names l = srt (names fs) := srt_one ra.so pm
    rw [wk, ← es]
    refine rows_wk rows fun p hp => ?_
    obtain ⟨u, hu⟩ := look_some (pm.mem_iff.mp (List.mem_map.mpr ⟨p, hp, rfl⟩))
    have hr := ch p.1 p.2 u (mem_look ra.nd hp) hu
    rw [hu]
    refine ⟨fun i e => ?_, fun qs hqs => ?_⟩
    · rw [e] at hr
      have eu : u = .int i := hr.cases (fun j e1 e2 => by cases e1; exact e2) fun k a l' fs' _ e1 _ _ _ _ _ => by cases e1
      rw [eu]
      exact wk_int
    · cases n with
      | zero => exact hqs.elim
      | succ n =>
        obtain ⟨b, m, z', e2, _⟩ := id hqs
        rw [e2] at hr hqs
        cases u with
        | int i =>
          rcases hr with ⟨i, e3, _⟩ | ⟨_, _, _, _, e3, _⟩
          · cases e3
          · cases e3
        | fds gs => exact pt_wk hqs hr
theorem rows_cp {R : V → List (List Str) → Prop} : ∀ {l : List (Str × V)} {ps : List (List Str)}, Gn.RowsR R l ps → (∀ p ∈ l, CpOk p.1 ∧ ∀ qs, R p.2 qs → ∀ q ∈ qs, ∀ x ∈ q, CpOk x) → ∀ q ∈ ps, ∀ x ∈ q, CpOk x
  | _, _, .nil, _ => fun q hq => by cases hq
  | _, _, .int r, h => fun q hq x hx => by
    rcases List.mem_cons.mp hq with e | e
    · subst e
      rw [List.mem_singleton.mp hx]
      exact (h _ List.mem_cons_self).1
    · exact rows_cp r (fun p hp => h p (List.mem_cons_of_mem _ hp)) q e x hx
  | _, _, .sub hs r, h => fun q hq x hx => by
    have hh := h _ List.mem_cons_self
    rcases List.mem_cons.mp hq with e | e
    · subst e
      rw [List.mem_singleton.mp hx]
      exact hh.1
    · rcases List.mem_append.mp e with e | e
      · obtain ⟨q', hq', rfl⟩ := List.mem_map.mp e
        rcases List.mem_cons.mp hx with z | z
        · rw [z]
          exact hh.1
        · exact hh.2 _ hs q' hq' x z
      · exact rows_cp r (fun p hp => h p (List.mem_cons_of_mem _ hp)) q e x hx
theorem pt_cp : ∀ {n : Nat} {v : V} {ps : List (List Str)} {fs : List (Str × T)}, Gn.Pt C H n v ps → Rc S C H n v (.fds fs) → ∀ q ∈ ps, ∀ x ∈ q, CpOk x
  | 0, _, _, _, h, _ => h.elim
  | n + 1, v, ps, fs, ⟨a, l, z, e, ra, hl, rows⟩, rc => by
    subst e
    have nm := rc_names rc ra.any
    obtain ⟨l', ra', wf, pm, ch⟩ := Gn.rc_out rc
    have e := ra_one ra ra'
    subst e
    refine rows_cp rows fun p hp => ⟨CpOk.good (nm _ (List.mem_map.mpr ⟨p, hp, rfl⟩)), fun qs hqs => ?_⟩
    obtain ⟨u, hu⟩ := look_some (pm.mem_iff.mp (List.mem_map.mpr ⟨p, hp, rfl⟩))
    have hr := ch p.1 p.2 u (mem_look ra.nd hp) hu
    cases n with
    | zero => exact hqs.elim
    | succ n =>
      obtain ⟨b, m, z', e2, _⟩ := id hqs
      rw [e2] at hr hqs
      cases u with
      | int i =>
        rcases hr with ⟨i, e3, _⟩ | ⟨_, _, _, _, e3, _⟩
        · cases e3
        · cases e3
      | fds gs => exact pt_cp hqs hr
end
/-! ### as data -/
def DpL (K : PySem.W.Frag) (H : Hp) (m : Nat) (v : V) (d : PyData) : Prop := Dp K H v d ∧ d.canLay0 = true ∧ d.depth ≤ m
def DpsL (K : PySem.W.Frag) (H : Hp) (m : Nat) (vs : List V) (ds : List PyData) : Prop := DpAll K H vs ds ∧ PyData.canLayAll0 ds = true ∧ PyData.depthAll ds ≤ m
section
variable {K : PySem.W.Frag} {H : Hp} {m : Nat}
theorem DpsL.nil : DpsL K H m [] [] := ⟨.nil, rfl, by simp [PyData.depthAll]⟩
theorem DpsL.cons {v : V} {d : PyData} {vs : List V} {ds : List PyData} (g : DpL K H m v d) (h : DpsL K H m vs ds) : DpsL K H m (v :: vs) (d :: ds) :=
  ⟨.cons g.1 h.1, by rw [PyData.canLayAll0, g.2.1, h.2.1]; rfl, by rw [PyData.depthAll]; have := g.2.2; have := h.2.2; omega⟩
theorem dl_str {x : Str} (h : CpOk x) : DpL K H m (.str x) (.str x) := ⟨.str x, by
  rw [PyData.canLay0]
  show x.cps.all (fun c => decide (c < 0x110000)) = true
  rw [← Array.all_toList, List.all_eq_true]
  exact fun c hc => decide_eq_true (h c hc), by rw [PyData.depth]; exact Nat.zero_le _⟩
theorem dl_strs : ∀ {ys : List Str}, (∀ y ∈ ys, CpOk y) → DpsL K H 0 (ys.map V.str) (ys.map PyData.str)
  | [], _ => .nil
  | y :: r, h => .cons (dl_str (h y List.mem_cons_self)) (dl_strs fun z hz => h z (List.mem_cons_of_mem _ hz))
theorem dl_tupL {b : Addr} {vs : List V} {ds : List PyData} (e : H b = some (.tup vs)) (h : DpsL K H m vs ds) : DpL K H (m + 1) (.ref b) (.tuple ds) :=
  ⟨.tup (SqT.of e) h.1, by rw [PyData.canLay0]; exact h.2.1, by rw [PyData.depth]; have := h.2.2; omega⟩
theorem dl_lstL {b : Addr} {vs : List V} {ds : List PyData} (e : H b = some (.lst vs)) (h : DpsL K H m vs ds) : DpL K H (m + 1) (.ref b) (.list ds) :=
  ⟨.lst (SqL.of e) h.1, by rw [PyData.canLay0]; exact h.2.1, by rw [PyData.depth]; have := h.2.2; omega⟩
theorem dl_tup {b : Addr} {ys : List Str} (e : H b = some (.tup (ys.map V.str))) (h : ∀ y ∈ ys, CpOk y) : DpL K H 1 (.ref b) (.tuple (ys.map PyData.str)) := dl_tupL e (dl_strs h)
def pD (p : List Str) : PyData := .tuple (p.map PyData.str)
theorem dl_outs : ∀ {ts : List V} {ps : List (List Str)}, Gn.Outs H ts ps → (∀ p ∈ ps, ∀ y ∈ p, CpOk y) → DpsL K H 1 ts (ps.map pD)
  | _, _, .nil, _ => .nil
  | _, _, .cons ⟨t, et, e⟩ r, h => by
    subst et
    exact .cons (dl_tup e (h _ List.mem_cons_self)) (dl_outs r fun p hp => h p (List.mem_cons_of_mem _ hp))
theorem dl_outs2 : ∀ {ts : List V} {ps : List (List Str × List Str)}, Gn.Outs2 H ts ps → (∀ p ∈ ps, (∀ y ∈ p.1, CpOk y) ∧ ∀ y ∈ p.2, CpOk y) → DpsL K H 2 ts (ps.map fun p => .tuple [pD p.1, pD p.2])
  | _, _, .nil, _ => .nil
  | _, _, .cons ⟨t, a, b, et, e, e1, e2⟩ r, h => by
    subst et
    have hh := h _ List.mem_cons_self
    exact .cons (dl_tupL e (.cons (dl_tup e1 hh.1) (.cons (dl_tup e2 hh.2) .nil))) (dl_outs2 r fun p hp => h p (List.mem_cons_of_mem _ hp))
theorem shaped_of {v : V} {d : PyData} (h : DpL K H m v d) (hm : m ≤ 8) : SeqAt.shaped d = true := by
  unfold SeqAt.shaped
  rw [h.2.1, Bool.true_and]
  exact decide_eq_true (by have := h.2.2; omega)
end
end Lw
/-! _law_walk. -/
namespace Lw
open PySem PySem.Spec PyProof.Rows L2 GrT GrOwn
abbrev sWalk : Stmt := top 29
abbrev sDeep : Stmt := top 30
theorem wkOf_snoc {f : T → List (List Str)} {fs : List (Str × T)} {ws : List Str} {x : Str} {i : Nat} (h : ws[i]? = some x) : wkOf f fs (ws.take (i + 1)) = wkOf f fs (ws.take i) ++ [x] :: (f ((look x fs).getD (.int 0))).map (x :: ·) := by
  unfold wkOf
  rw [List.take_add_one, h, List.flatMap_append]
  simp
theorem wkOf_take {f : T → List (List Str)} {fs : List (Str × T)} {ws : List Str} (i : Nat) : (wkOf f fs (ws.take i)).length ≤ (wkOf f fs ws).length := by
  conv => rhs; rw [← List.take_append_drop i ws]
  unfold wkOf
  rw [List.flatMap_append, List.length_append]
  exact Nat.le_add_right _ _
theorem Outs.set {H : Hp} {R : Addr} {xs ys : List V} (e : H R = some (.lst xs)) : ∀ {ts : List V} {ps : List (List Str)}, Gn.Outs H ts ps → Gn.Outs (upd H R (.lst ys)) ts ps
  | _, _, .nil => .nil
  | _, _, .cons ⟨t, et, e2⟩ r => .cons ⟨t, et, by
    rw [upd_ne (fun z => by rw [z, e] at e2; cases e2)]
    exact e2⟩ (Outs.set e r)
theorem Outs.app {H : Hp} : ∀ {ts : List V} {ps : List (List Str)}, Gn.Outs H ts ps → ∀ {us : List V} {qs : List (List Str)}, Gn.Outs H us qs → Gn.Outs H (ts ++ us) (ps ++ qs)
  | _, _, .nil, _, _, h => h
  | _, _, .cons a r, _, _, h => .cons a (Outs.app r h)
theorem Outs.len {H : Hp} : ∀ {ts : List V} {ps : List (List Str)}, Gn.Outs H ts ps → ts.length = ps.length
  | _, _, .nil => rfl
  | _, _, .cons _ r => by rw [List.length_cons, List.length_cons, Outs.len r]
theorem cat_name {K : PySem.W.Frag} {H : Hp} {b t : Addr} {bs : List Str} {x : Str} {Q : VK} (eb : H b = some (.tup (bs.map V.str))) (et : H t = some (.tup [.str x])) (hl : bs.length ≤ 64) (q : ∀ p H', H' p = some (.tup ((bs ++ [x]).map V.str)) → Same H H' → Q (.ref p) H') : rCatA K (.ref b) (.ref t) H Q := by
  refine ⟨b, t, _, _, rfl, rfl, SqT.of eb, SqT.of et, ?_, fun h => ?_, fun _ h => (by cases h), fun _ _ p hp => ?_⟩
  · rw [List.length_map, List.length_singleton]
    exact line_big (by omega)
  · have e : bs = [] := List.map_eq_nil_iff.mp h
    subst e
    exact q t H et (Same.refl _)
  · refine q p _ ?_ (Same.new (Same.refl _) hp)
    rw [upd_same, List.map_append]
    rfl
def spWalk (n : Nat) : Sp := fun vs H Q _ => ∃ (v : V) (b : Addr) (S : Addr → Prop) (fs : List (Str × T)) (bs : List Str), vs = [v, .ref b] ∧ Tr S H 40 n v (.fds fs) ∧ H b = some (.tup (bs.map V.str)) ∧ bs.length + n ≤ 64 ∧ (wk n (.fds fs)).length ≤ 1000 ∧
  ∀ (R : Addr) (ts : List V) H', Same H H' → H R = none → H' R = some (.lst ts) → Gn.Outs H' ts ((wk n (.fds fs)).map (bs ++ ·)) → Q (.ref R) H'
def spWalkR : Nat → Sp
  | 0 => spNo
  | n + 1 => spWalk n
section
variable {P : Program} {w : World} {K : PySem.W.Frag} {mg : Str → Option Value} {base : Heap} {C : Addr}
theorem scWalk : FnScope ["plain", "before", "rows", "name"] ["plain", "before"] (defScope sWalk) := ⟨rfl, rfl, rfl, by decide +kernel, rfl, by decide +kernel, by decide +kernel⟩
theorem c_walk_step (T : Bu mg) (c_law_sorted : Cal P w K mg base 1 "_law_sorted" spSorted) (D : Dfn K mg "_law_walk" sWalk ["plain", "before"]) (n : Nat) (c_law_walk : Cal P w K mg base (n + 1) "_law_walk" (spWalkR n)) : Cal P w K mg base (n + 2) "_law_walk" (spWalk n) := by
  refine D.cal scWalk (fun vs H Q E h => ?_) (fun f cdv A outer s H vs Q E hr h => ?_)
  · obtain ⟨v, b, S, fs, bs, rfl, _⟩ := h
    rfl
  · obtain ⟨v, b, S, fs, bs, rfl, tr, eb, hbn, hwl, q⟩ := h
    have hu := hu_of hr
    refine ⟨_, (pss_cons (ps_set (i := 2) scWalk.nd rfl (Or.inl rfl) (pe_lst pa_nil))
      (pss_cons (ps_for PassesOwn.never rfl (pi_list (pe_c c_law_sorted hr (by omega) rfl (pa_cons (pv 0) pa_nil))) (pg_name (i := 3) scWalk.nd rfl (Or.inl rfl))
      (pss_cons (ps_expr (pe_bm PySem.F.plainAttrs_list PySem.F.slot_list_append PySem.F.type_list_append mt_append (pv 2) (pa_cons (pe_op op_catA (pv 1) (pe_tup (pa_cons (pv 3) pa_nil))) pa_nil)))
      (pss_one (ps_if (pt_val (pe_callB call_isi (by rfl) T.b_isinstance bo_isinstance (pa_cons (pe_dget hu (pv 0) (pv 3) (fun _ _ => rfl)) (pa_cons (pe_bltn (by rfl) T.b_dict bo_dict (v := .ty "dict") rfl) pa_nil))))
      (pss_one (ps_set (i := 2) scWalk.nd rfl (Or.inl rfl) (pe_op op_cat (pv 2) (pe_c c_law_walk hr (by omega) rfl (pa_cons (pe_dget hu (pv 0) (pv 3) (fun _ _ => rfl)) (pa_cons (pe_op op_catA (pv 1) (pe_tup (pa_cons (pv 3) pa_nil))) pa_nil))))))
      pss_nil))))
      (pss_one (ps_ret (pv 2))))), ?_⟩
    refine tr.cases (fun i _ e2 => by cases e2) (fun k a l fs' en e1 e2 sa ea wf al => ?_)
    subst en e1
    cases e2
    rw [wk] at hwl q
    refine ⟨Nat.zero_le _, fun R0 hR0 => ?_⟩
    have s0 : Same H (upd H R0 (.lst [])) := Same.new (Same.refl _) hR0
    have eR0 : (upd H R0 (.lst [])) R0 = some (.lst []) := upd_same
    generalize upd H R0 (.lst []) = H0 at s0 eR0 ⊢
    have hfl : fs.length ≤ 40 := wf.ln
    refine ⟨_, rfl, a, l, rfl, s0 _ _ ea, by rw [al.len]; omega, fun ys W H1 pw so eW hW s1 => ?_⟩
    have ey : ys = srt (names fs) := srt_one so (by rw [← al.names]; exact pw)
    subst ey
    have hws : (srt (names fs)).length = fs.length := by
      have := (srt_perm (names fs)).length_eq
      rw [this, List.length_map]
    have hH0W : H W = none := s0.free hW
    have s01 := s0.trans s1
    have WR0 : W ≠ R0 := (ne_of_none eR0 hW).symm
    refine ⟨W, rfl, ⟨_, SqL.of eW⟩, for_it (walk_list (xs := (srt (names fs)).map V.str)) (fun i σ H' => ∃ (nv : Option V) (R : Addr) (ts : List V), σ = [some (.ref a), some (.ref b), some (.ref R), nv] ∧ H R = none ∧ R ≠ W ∧ H' R = some (.lst ts) ∧ H' W = some (.lst ((srt (names fs)).map V.str)) ∧
          Gn.Outs H' ts ((wkOf (wk k) fs ((srt (names fs)).take i)).map (bs ++ ·)) ∧ Same H H')
        ⟨none, R0, [], rfl, hR0, WR0.symm, s1 _ _ eR0, eW, .nil, s01⟩ (fun i σ H' _ h => ?_) ?_ ?_⟩
    · obtain ⟨nv, R, ts, _, _, _, _, h, _⟩ := h
      exact SqL.of h
    · rintro i y σ H' H2 hi ⟨nv, R, ts, rfl, hR, RW, eR, eW', os, sH⟩ ⟨rfl, hy⟩
      obtain ⟨x, hx, rfl⟩ : ∃ x, (srt (names fs))[i]? = some x ∧ y = V.str x := by
        rw [List.getElem?_map] at hy
        cases e : (srt (names fs))[i]? with
        | none =>
          rw [e] at hy
          cases hy
        | some x =>
          rw [e] at hy
          exact ⟨x, rfl, (Option.some.inj hy).symm⟩
      have hxm : x ∈ names fs := (srt_perm _).mem_iff.mp (List.mem_of_getElem? hx)
      obtain ⟨u, hu2⟩ := look_some hxm
      obtain ⟨v', hv', rv⟩ := al.get hu2
      have sn := wkOf_snoc (f := wk k) (fs := fs) hx
      rw [hu2] at sn
      simp only [Option.getD_some] at sn
      have ln := wkOf_take (f := wk k) (fs := fs) (ws := srt (names fs)) (i + 1)
      rw [sn, List.length_append, List.length_cons, List.length_map] at ln
      have hts : ts.length = (wkOf (wk k) fs ((srt (names fs)).take i)).length := by
        rw [Outs.len os, List.length_map]
      have sn' : (wkOf (wk k) fs ((srt (names fs)).take (i + 1))).map (bs ++ ·) = (wkOf (wk k) fs ((srt (names fs)).take i)).map (bs ++ ·) ++ (bs ++ [x]) :: (wk k u).map ((bs ++ [x]) ++ ·) := by
        rw [sn, List.map_append, List.map_cons, List.map_map]
        congr 2
        refine List.map_congr_left fun p _ => ?_
        show bs ++ x :: p = (bs ++ [x]) ++ p
        rw [List.append_assoc]
        rfl
      refine ⟨_, rfl, .inl ⟨rfl, _, .inl (.inl eR)⟩, _, rfl, _, rfl, line_big (by show 1 ≤ 100000; decide), fun t ht => cat_name (bs := bs) (x := x) ?_ upd_same (by omega) fun p H3 ep s3 => ?_⟩
      · rw [upd_ne (ne_of_none (sH _ _ eb) ht)]
        exact sH _ _ eb
      have s03 : Same H H3 := (Same.new sH ht).trans s3
      have eR3 : H3 R = some (.lst ts) := s3 _ _ (by rw [upd_ne (ne_of_none eR ht)]; exact eR)
      have eW3 := s3 _ _ (show _ = _ by rw [upd_ne (ne_of_none eW' ht)]; exact eW')
      have os3 := (os.same (Same.new (Same.refl _) ht)).same s3
      refine ⟨R, ts, _, rfl, rfl, eR3, line_big (by omega), ?_⟩
      have os4 : Gn.Outs (upd H3 R (.lst (ts ++ [.ref p]))) (ts ++ [.ref p]) ((wkOf (wk k) fs ((srt (names fs)).take i)).map (bs ++ ·) ++ [bs ++ [x]]) :=
        Outs.app (Outs.set eR3 os3) (.cons ⟨p, rfl, by rw [upd_ne (fun z => by rw [z, eR3] at ep; cases ep)]; exact ep⟩ .nil)
      have eR4 : (upd H3 R (.lst (ts ++ [.ref p]))) R = some (.lst (ts ++ [.ref p])) := upd_same
      have eW4 : (upd H3 R (.lst (ts ++ [.ref p]))) W = _ := (upd_ne RW.symm).trans eW3
      have s04 : Same H (upd H3 R (.lst (ts ++ [.ref p]))) := fun b o e => by
        rw [upd_ne (ne_of_none e hR)]
        exact s03 b o e
      generalize upd H3 R (.lst (ts ++ [.ref p])) = H4 at os4 eR4 eW4 s04 ⊢
      have hg := DGet.k (k := Sum.inr x) (s04 _ _ ea)
      rw [dk_val, hv'] at hg
      refine ⟨_, rfl, _, rfl, a, v', rfl, hg, ?_⟩
      refine rv.cases (fun j e1 e2 => ?_) (fun k' a2 l2 fs2 en e1 e2 sb eb2 wf2 al2 => ?_)
      · subst e1 e2
        rw [wk_int] at sn'
        refine ⟨_, _, _, _, _, rfl, .ty _, .base (.int j), rfl, _, rfl, iteF ?_⟩
        refine ⟨_, R, _, rfl, hR, RW, eR4, eW4, ?_, s04⟩
        rw [sn']
        exact os4
      · subst en e1
        refine ⟨_, _, _, _, _, rfl, .ty _, .base (.dK (s04 _ _ eb2)), rfl, _, rfl, iteT ?_⟩
        refine ⟨_, rfl, _, rfl, _, rfl, a, _, rfl, hg, _, rfl, _, rfl, line_big (by show 1 ≤ 100000; decide), fun t2 ht2 => cat_name (bs := bs) (x := x) ?_ upd_same (by omega) fun p2 H5 ep2 s5 => ?_⟩
        · rw [upd_ne (ne_of_none (s04 _ _ eb) ht2)]
          exact s04 _ _ eb
        have s45 : Same H4 H5 := (Same.new (Same.refl _) ht2).trans s5
        have s05 := s04.trans s45
        refine ⟨.ref a2, p2, S, fs2, bs ++ [x], rfl, ?_, ep2, by rw [List.length_append, List.length_singleton]; omega, by rw [← e2]; omega, fun R2 ts2 H6 s56 hR2 eR2 o2 => ?_⟩
        · rw [← e2]
          exact Tr.same rv s05
        have s46 := s45.trans s56
        have s06 := s05.trans s56
        have n2 := Outs.len o2
        rw [List.length_map, ← e2] at n2
        refine ⟨R, R2, _, _, rfl, rfl, s46 _ _ eR4, eR2, line_big (by rw [List.length_append, List.length_singleton]; omega), fun R3 hR3 => ?_⟩
        have s67 : Same H6 (upd H6 R3 (.lst ((ts ++ [.ref p]) ++ ts2))) := Same.new (Same.refl _) hR3
        refine ⟨_, R3, _, rfl, s06.free hR3, (ne_of_none (s46 _ _ eW4) hR3).symm, upd_same, s67 _ _ (s46 _ _ eW4), ?_, s06.trans s67⟩
        rw [sn', e2]
        rw [List.append_cons (List.map _ _)]
        exact (Outs.app (os4.same s46) o2).same s67
    · rintro σ H' ⟨nv, R, ts, rfl, hR, RW, eR, eW', os, sH⟩
      refine ⟨_, rfl, q R ts H' sH hR eR ?_⟩
      have e : (srt (names fs)).take ((srt (names fs)).map V.str).length = srt (names fs) := by rw [List.length_map, List.take_length]
      rw [e] at os
      exact os
theorem c_walk (T : Bu mg) (cs : Cal P w K mg base 1 "_law_sorted" spSorted) (D : Dfn K mg "_law_walk" sWalk ["plain", "before"]) : ∀ n, Cal P w K mg base (n + 2) "_law_walk" (spWalk n)
  | 0 => c_walk_step T cs D 0 (c_no D scWalk)
  | n + 1 => c_walk_step T cs D (n + 1) (c_walk T cs D n)
end
/-! ### pairs as data -/
theorem dl_outsV {K : PySem.W.Frag} {H : Hp} : ∀ {us : List V} {ps : List (List Str)}, Gn.Outs H us ps → ∀ {vs : List V} {qs : List (List Str)}, Gn.Outs H vs qs → ∀ {ts : List V}, Gn.OutsV H ts (us.zip vs) → (∀ p ∈ ps, ∀ y ∈ p, CpOk y) → (∀ p ∈ qs, ∀ y ∈ p, CpOk y) → DpsL K H 2 ts ((ps.zip qs).map fun p => .tuple [pD p.1, pD p.2])
  | _, _, .nil, _, _, _, _, h, _, _ => by
    cases h
    exact .nil
  | _, _, .cons _ _, _, _, .nil, _, h, _, _ => by
    cases h
    exact .nil
  | _, _, .cons ⟨a, ea, e1⟩ r1, _, _, .cons ⟨b, eb, e2⟩ r2, _, h, c1, c2 => by
    subst ea eb
    cases h with
    | cons h1 h2 =>
      obtain ⟨t, et, e⟩ := h1
      subst et
      exact .cons (dl_tupL e (.cons (dl_tup e1 (c1 _ List.mem_cons_self)) (.cons (dl_tup e2 (c2 _ List.mem_cons_self)) .nil))) (dl_outsV r1 r2 h2 (fun p hp => c1 p (List.mem_cons_of_mem _ hp)) fun p hp => c2 p (List.mem_cons_of_mem _ hp))
end Lw
/-! _law_deep. -/
namespace Lw
open PySem PySem.Spec PyProof.Rows L2 GrT GrOwn
theorem tr_al {S : Addr → Prop} {H : Hp} {L n : Nat} {v : V} {fs : List (Str × T)} (h : Tr S H L (n + 1) v (.fds fs)) : fs.length ≤ L ∧ ∀ p ∈ fs, ∃ u, Tr S H L n u p.2 :=
  h.cases (fun i _ e => by cases e) fun k a l fs' en e1 e2 sa ea wf al => by
    cases en
    cases e2
    refine ⟨wf.ln, fun p hp => ?_⟩
    obtain ⟨v, _, r⟩ := al.get (mem_look wf.nd hp)
    exact ⟨v, r⟩
theorem sum_leI {α : Type} {f : α → Int} {c : Int} : ∀ {l : List α}, (∀ x ∈ l, f x ≤ c) → (l.map f).sum ≤ l.length * c
  | [], _ => by simp
  | x :: r, h => by
    have h1 := h x List.mem_cons_self
    have h2 := sum_leI (l := r) fun y hy => h y (List.mem_cons_of_mem _ hy)
    rw [List.map_cons, List.sum_cons, List.length_cons]
    have e : ((r.length + 1 : Nat) : Int) * c = r.length * c + c := by
      rw [Int.natCast_add, Int.add_mul]
      simp
    omega
theorem nf_lev {S : Addr → Prop} {H : Hp} {n : Nat} {c : Int} (hc : 0 ≤ c) (ih : ∀ v t, Tr S H 6 n v t → nf t ≤ c) {v : V} {t : T} (h : Tr S H 6 (n + 1) v t) : nf t ≤ 6 * (1 + c) := by
  cases t with
  | int i => rw [nf]; omega
  | fds fs =>
    obtain ⟨l1, h1⟩ := tr_al h
    rw [nf, nfs_sum]
    have := sum_leI (f := fun p : Str × T => 1 + nf p.2) (c := 1 + c) (l := fs) fun p hp => by
      obtain ⟨u, r⟩ := h1 p hp
      have := ih _ _ r
      omega
    have h2 : (fs.length : Int) * (1 + c) ≤ 6 * (1 + c) := Int.mul_le_mul_of_nonneg_right (by omega) (by omega)
    omega
theorem nf_three {S : Addr → Prop} {H : Hp} {v : V} {t : T} (h : Tr S H 6 3 v t) : nf t ≤ 258 := by
  have h0 : ∀ v t, Tr S H 6 0 v t → nf t ≤ 0 := fun v t ⟨i, _, e⟩ => by
    rw [e, nf]
    decide
  have h1 : ∀ v t, Tr S H 6 1 v t → nf t ≤ 6 := fun v t h => nf_lev (c := 0) (by decide) h0 h
  have h2 : ∀ v t, Tr S H 6 2 v t → nf t ≤ 42 := fun v t h => nf_lev (c := 6) (by decide) h1 h
  exact nf_lev (c := 42) (by decide) h2 h
theorem Tr.out2 {S : Addr → Prop} {H : Hp} {L n : Nat} {v : V} {fs : List (Str × T)} (h : Tr S H L n v (.fds fs)) : ∃ k a l, n = k + 1 ∧ v = .ref a ∧ S a ∧ H a = some (.dK (dk l)) :=
  h.cases (fun i _ e => by cases e) fun k a l fs' en e1 e2 sa ea wf al => ⟨k, a, l, en, e1, sa, ea⟩
def spDeep : Sp := fun vs H Q _ => ∃ (p P : Addr) (ps : List Str), vs = [.ref p, .ref P] ∧ Tape H p ∧ H P = some (.lst (ps.map V.str)) ∧ P ≠ p ∧ 1 ≤ ps.length ∧ ps.length ≤ 6 ∧ (∀ x ∈ ps, Good x) ∧
  ∀ (D : Addr) (fs : List (Str × GrT.T)) H', Tr (fun b => H b = none) H' 6 10 (.ref D) (.fds fs) → nfs fs ≤ 265 → Fx p H H' → Tape H' p → Q (.ref D) H'
section
variable {P : Program} {w : World} {K : PySem.W.Frag} {mg : Str → Option Value} {base : Heap} {C : Addr}
theorem scDeep : FnScope ["tape", "names", "plain", "k", "outer"] ["tape", "names"] (defScope sDeep) := ⟨rfl, rfl, rfl, by decide +kernel, rfl, by decide +kernel, by decide +kernel⟩
theorem c_deep (T : Bu mg) (D : Dfn K mg "_law_deep" sDeep ["tape", "names"]) (c_law_take : Cal P w K mg base 1 "_law_take" spTake) (c_law_fields : Cal P w K mg base 6 "_law_fields" (spFields 2)) (c_law_pick : Cal P w K mg base 2 "_law_pick" spPick) : Cal P w K mg base 7 "_law_deep" spDeep := by
  refine D.cal scDeep (fun vs H Q E h => ?_) (fun f cdv A outer s H vs Q E hr h => ?_)
  · obtain ⟨p, P, ps, rfl, _⟩ := h
    rfl
  · obtain ⟨p, P, ps, rfl, tp, eP, Pp, l1, l2, gp, q⟩ := h
    have hu := hu_of hr
    refine ⟨_, (pss_cons (ps_set (i := 2) scDeep.nd rfl (Or.inl rfl) (pe_c c_law_fields hr (by omega) rfl (pa_cons (pv 0) (pa_cons (pv 1) (pa_cons pe_int pa_nil)))))
      (pss_cons (ps_for PassesOwn.never rfl (pi_range1 (by rfl) T.b_range (pa_cons (pe_c c_law_take hr (by omega) rfl (pa_cons (pv 0) (pa_cons pe_int pa_nil))) pa_nil)) (pg_name (i := 3) scDeep.nd rfl (Or.inl rfl))
      (pss_cons (ps_set (i := 4) scDeep.nd rfl (Or.inl rfl) pe_dnewK)
      (pss_cons (ps_dput hu (pv 4) (pe_c c_law_pick hr (by omega) rfl (pa_cons (pv 0) (pa_cons (pv 1) pa_nil))) (pv 2) rfl)
      (pss_one (ps_set (i := 2) scDeep.nd rfl (Or.inl rfl) (pv 4))))))
      (pss_one (ps_ret (pv 2))))), ?_⟩
    refine ⟨_, rfl, _, rfl, p, P, ps, rfl, tp, eP, Pp, l1, l2, gp, fun D0 fs0 H0 r0 _ x0 t0 => ?_⟩
    refine ⟨_, rfl, p, 8, rfl, t0, by decide, fun c H1 c0 c1 x1 t1 => ?_⟩
    obtain ⟨m, rfl⟩ : ∃ m : Nat, c = m := ⟨c.toNat, by omega⟩
    have x01 := x0.trans x1
    have n0 := nf_three r0
    rw [nf] at n0
    refine ⟨m, rfl, by omega, by omega, ?_⟩
    refine for_range (lo := 0) (n := m) (fun i σ H' => ∃ (kv ov : Option V) (D : Addr) (fs : List (Str × GrT.T)), σ = [some (.ref p), some (.ref P), some (.ref D), kv, ov] ∧ Tr (fun b => H b = none) H' 6 (3 + i) (.ref D) (.fds fs) ∧ nfs fs ≤ 258 + i ∧
      H' P = some (.lst (ps.map V.str)) ∧ Fx p H H' ∧ Tape H' p)
      ⟨none, none, D0, fs0, rfl, Tr.fx r0 t0 x1, by omega, x01 _ _ Pp eP, x01, t1⟩ ?_ ?_
    · rintro i σ H' hi ⟨kv, ov, D, fs, rfl, tr, nn, eP', x2, t2⟩
      refine fun D2 hD2 => ?_
      have t3 := t2.new (o := .dK []) hD2
      have x3 := (Fx.refl (T := p) (H := H')).new (o := .dK []) hD2
      have eD3 : (upd H' D2 (.dK [])) D2 = some (.dK (dk [])) := upd_same
      have hH : H D2 = none := x2.back t2 hD2
      have Dp : D2 ≠ p := t2.ne'' hD2
      generalize upd H' D2 (.dK []) = H3 at t3 x3 eD3 ⊢
      have eP3 := x3 _ _ Pp eP'
      refine ⟨_, rfl, _, rfl, _, rfl, _, rfl, p, P, ps, rfl, t3, Pp, eP3, by omega, by omega, fun x H4 hx x4 t4 => ?_⟩
      have eD4 := x4 _ _ Dp eD3
      have x34 := x3.trans x4
      have hs0 : (dk ([] : List (Str × V))).length < sizeLine := line_big (by decide)
      refine ⟨D2, _, rfl, DPut.k (k := Sum.inr x) eD4 hs0, ?_⟩
      have gx := gp x hx
      have kk : ∀ b o, H4 b = some o → b ≠ D2 → (upd H4 D2 (.dK (putK (dk []) (Sum.inr x) (.ref D)))) b = some o := fun b o e n => (upd_ne n).trans e
      have eD5 : (upd H4 D2 (.dK (putK (dk []) (Sum.inr x) (.ref D)))) D2 = some (.dK (dk (put x (.ref D) []))) := by
        rw [upd_same, dk_put x _ [] List.nodup_nil]
      have x5 : Fx p H' (upd H4 D2 (.dK (putK (dk []) (Sum.inr x) (.ref D)))) := fun b o nb e => kk b o (x34 b o nb e) (ne_of_none e hD2)
      have t5 : Tape (upd H4 D2 (.dK (putK (dk []) (Sum.inr x) (.ref D)))) p := t4.put Dp
      have tr5 : Tr (fun b => H b = none) (upd H4 D2 (.dK (putK (dk []) (Sum.inr x) (.ref D)))) 6 (3 + i) (.ref D) (.fds fs) := Tr.fx tr t2 x5
      refine ⟨_, rfl, _, _, D2, put x (.fds fs) [], rfl, ?_, ?_, x5 _ _ Pp eP', x2.trans x5, t5⟩
      · refine .inr ⟨D2, put x (.ref D) [], put x (.fds fs) [], rfl, rfl, hH, eD5, (Wf.nil.put (L := 0) gx).mono (by decide), ?_⟩
        exact .cons ⟨rfl, tr5⟩ .nil
      · show nfs [(x, .fds fs)] ≤ _
        rw [nfs, nf, nfs]
        omega
    · rintro σ H' ⟨kv, ov, D, fs, rfl, tr, nn, eP', x2, t2⟩
      exact ⟨_, rfl, q D fs H' (tr.mono (by omega) (by decide)) (by omega) x2 t2⟩
end
end Lw
/-! The law. -/
namespace Lw
open PySem PySem.Spec PyProof.Rows L2 GrT GrOwn
theorem Fx.fresh {p : Addr} {H H1 H2 : Hp} (h : H p = none) (s : Same H H1) (x : Fx p H1 H2) : Same H H2 := fun b o e => x b o (fun z => by
  rw [z, h] at e
  cases e) (s b o e)
theorem Sm.fdsL {n : Nat} {t : T} {fs : List (Str × T)} (h : GrT.Sm n t (.fds fs)) : ∃ gs, t = .fds gs := by
  cases n with
  | zero =>
    obtain ⟨i, _, e⟩ := h
    cases e
  | succ n =>
    rcases h with ⟨i, _, e⟩ | ⟨gs, _, e, _⟩
    · cases e
    · exact ⟨gs, e⟩
abbrev NL : List Str := ["script", "k", "tape", "names", "plain", "other", "record", "second", "rows", "pairs"]
def spLaw (K : PySem.W.Frag) : Sp := fun vs H Q _ => ∃ (a : Addr) (ns : List Int), vs = [.ref a] ∧ SqL K H a (ns.map V.int) ∧ ns.length ≤ 63 ∧ ∀ H', Q (.bl true) H'
section
variable {P : Program} {w : World} {K : PySem.W.Frag} {mg : Str → Option Value} {base : Heap} {C : Addr}
theorem c_turned (T : Bu mg) (br : mg "reversed" = none) (D : Dfn K mg "_law_turned" sTurn ["value"]) : ∀ n, Cal P w K mg base (n + 2) "_law_turned" (spTurned n)
  | 0 => c_turned_step T br D 0 (c_no D scTurn)
  | n + 1 => c_turned_step T br D (n + 1) (c_turned T br D n)
theorem scLaw : FnScope NL ["script"] (defScope sLaw) := ⟨rfl, rfl, rfl, by decide +kernel, rfl, by decide +kernel, by decide +kernel⟩
theorem fn_law {fp : Addr} (T : Bu mg) (bm : mg "min" = none) (bz : mg "zip" = none) (R : RecK K mg C) (pr : PrK K C)
    (c_law_cell : Cal P w K mg base 1 "_law_cell" (spCell K)) (c_law_tape : Cal P w K mg base 2 "_law_tape" spTape) (c_law_take : Cal P w K mg base 1 "_law_take" spTake) (c_law_pool : Cal P w K mg base 4 "_law_pool" spPool) (c_law_deep : Cal P w K mg base 7 "_law_deep" spDeep)
    (c_law_turned : Cal P w K mg base 12 "_law_turned" (spTurned 10)) (s_make : SCal P w K mg base C 15 (spMake C 9)) (c_law_walk : Cal P w K mg base 12 "_law_walk" (spWalk 10)) (c_law_told : Cal P w K mg base 14 "_law_told" (spTold C 10))
    (mp : Meth K C "paths" fp) (cp : Gn.CallOk P w K mg base C fp 10 20)
    {f : Addr} {fd : FuncData} (F : L2.Fun K "law" "law" sLaw f fd) : FnOk P w K mg base CX0 26 f fd ["script"] (spLaw K) := by
  refine F.ok scLaw (fun vs H Q E h => ?_) (fun cdv A outer s H vs Q E hr h => ?_)
  · obtain ⟨a, ns, rfl, _⟩ := h
    rfl
  · obtain ⟨a, ns, rfl, hS, hl, q⟩ := h
    have hu := hu_of hr
    have hu64 := hr.units
    refine ⟨_, (pss_cons (ps_for PassesOwn.never rfl (pi_range1 (by rfl) T.b_range (pa_cons (pe_callB (call_min2 rfl) (by rfl) bm (by decide +kernel) (pa_cons pe_int (pa_cons (pe_op op_add pe_int (pe_op op_fdiv (pe_callB call_len_seq (by rfl) T.b_len PySem.boot_len (pa_cons (pv 0) pa_nil)) pe_int)) pa_nil))) pa_nil)) (pg_name (i := 1) scLaw.nd rfl (Or.inl rfl))
      (pss_cons (ps_set (i := 2) scLaw.nd rfl (Or.inl rfl) (pe_c c_law_tape hr (by omega) rfl (pa_cons (pe_c c_law_cell hr (by omega) rfl (pa_cons (pv 0) (pa_cons (pe_op op_mul pe_int (pv 1)) pa_nil))) (pa_cons (pe_c c_law_cell hr (by omega) rfl (pa_cons (pv 0) (pa_cons (pe_op op_add (pe_op op_mul pe_int (pv 1)) pe_int) pa_nil))) (pa_cons pe_int pa_nil)))))
      (pss_cons (ps_set (i := 3) scLaw.nd rfl (Or.inl rfl) (pe_c c_law_pool hr (by omega) rfl (pa_cons (pv 2) (pa_cons (pe_op op_add pe_int (pe_c c_law_take hr (by omega) rfl (pa_cons (pv 2) (pa_cons pe_int pa_nil)))) pa_nil))))
      (pss_cons (ps_set (i := 4) scLaw.nd rfl (Or.inl rfl) (pe_c c_law_deep hr (by omega) rfl (pa_cons (pv 2) (pa_cons (pv 3) pa_nil))))
      (pss_cons (ps_set (i := 5) scLaw.nd rfl (Or.inl rfl) (pe_c c_law_deep hr (by omega) rfl (pa_cons (pv 2) (pa_cons (pv 3) pa_nil))))
      (pss_cons (ps_set (i := 6) scLaw.nd rfl (Or.inl rfl) (pe_smC (pe_glob (by rfl) R.mgC (v := .ref C) rfl) s_make hr (by omega) (pa_cons (pe_c c_law_turned hr (by omega) rfl (pa_cons (pv 4) pa_nil)) pa_nil)))
      (pss_cons (ps_set (i := 7) scLaw.nd rfl (Or.inl rfl) (pe_smC (pe_glob (by rfl) R.mgC (v := .ref C) rfl) s_make hr (by omega) (pa_cons (pv 5) pa_nil)))
      (pss_cons (ps_set (i := 8) scLaw.nd rfl (Or.inl rfl) (Gn.pe_listP (mg := mg) R mp cp hr (by omega) rfl rfl (by rfl) T.b_list (pv 6)))
      (pss_cons (ps_if (PW.pt (pw_or (pt_cmpR (op_neD hu64) (pv 8) (pe_c c_law_walk hr (by omega) rfl (pa_cons (pv 4) (pa_cons (pe_tup pa_nil) pa_nil))) (nomark _)) (pw_or1 (pt_cmpR op_ne (pe_callB call_len_seq (by rfl) T.b_len PySem.boot_len (pa_cons (pv 8) pa_nil)) (pe_sizeK R pr hr (by omega) (pv 6) rfl) (nomark _))))) (pss_one (ps_ret pe_bl)) pss_nil)
      (pss_cons (ps_set (i := 9) scLaw.nd rfl (Or.inl rfl) (Gn.pe_listZ (i := 6) (j := 7) R mp cp hr (by omega) rfl rfl rfl (by rfl) (by decide +kernel) rfl (by rfl) (by decide +kernel) (by rfl) T.b_list (by rfl) bz))
      (pss_cons (ps_if (PW.pt (pw_or (pt_cmpR (op_neD hu64) (pv 9) (Gn.pe_listZL hr rfl (pa_cons (pv 8) (pa_cons (pe_c c_law_walk hr (by omega) rfl (pa_cons (pv 5) (pa_cons (pe_tup pa_nil) pa_nil))) pa_nil)) (by rfl) T.b_list (by rfl) bz) (nomark _)) (pw_or1 (pt_cmpR (op_neD hu64) (Gn.pe_lcP (i := 6) R mp cp hr (by omega) rfl rfl rfl (by rfl) (by decide +kernel) (by decide +kernel) (by decide +kernel) (by decide +kernel) (by decide +kernel) (by decide +kernel)) (pv 8) (nomark _))))) (pss_one (ps_ret pe_bl)) pss_nil)
      (pss_one (ps_if (PW.pt (pw_or (pt_not (pt_val (pe_c c_law_told hr (by omega) rfl (pa_cons (pv 6) (pa_cons (pv 4) pa_nil))))) (pw_or1 (pt_not (pt_val (pe_c c_law_told hr (by omega) rfl (pa_cons (pv 7) (pa_cons (pv 5) pa_nil)))))))) (pss_one (ps_ret pe_bl)) pss_nil)))))))))))))
      (pss_one (ps_ret (pe_cmpR (op_eqD hu64) (Gn.pe_listP (mg := mg) R mp cp hr (by omega) rfl rfl (by rfl) T.b_list (pe_smC (pe_glob (by rfl) R.mgC (v := .ref C) rfl) s_make hr (by omega) (pa_cons pe_dnewK pa_nil))) (pe_lst pa_nil) (nomark _))))), ?_⟩
    have hm : ∀ z : Int, z = (if 1 + ((ns.map V.int).length : Int) / 2 < 8 then 1 + ((ns.map V.int).length : Int) / 2 else 8) → 0 ≤ z ∧ z ≤ 8 := fun z e => by
      split at e <;> omega
    refine ⟨_, rfl, a, _, rfl, .inl hS, _, _, rfl, rfl, ⟨by decide, by decide⟩, _, _, rfl, rfl, _, _, rfl, ?_⟩
    generalize hz : (if 1 + ((ns.map V.int).length : Int) / 2 < 8 then 1 + ((ns.map V.int).length : Int) / 2 else 8) = z
    have hz2 := hm z hz.symm
    refine ⟨z, rfl, by omega, by omega, for_range (lo := 0) (n := z.toNat) (fun i σ H' => ∃ (kv tv nv pv ov rv sv wv qv : Option V), σ = [some (.ref a), kv, tv, nv, pv, ov, rv, sv, wv, qv] ∧ Same H H')
      ⟨none, none, none, none, none, none, none, none, none, rfl, Same.refl _⟩ ?_ ?_⟩
    · rintro i σ H0 hi ⟨kv, tv, nv, pv, ov, rv, sv, wv, qv, rfl, s0⟩
      have hS0 := s0.seq hS
      refine ⟨_, rfl, _, rfl, _, _, rfl, rfl, .inl ⟨by decide, by decide⟩, a, ns, _, rfl, hS0, by omega, fun g => ?_⟩
      refine ⟨_, rfl, _, rfl, _, _, rfl, rfl, .inl ⟨by decide, by decide⟩, _, _, rfl, rfl, a, ns, _, rfl, hS0, by omega, fun g2 => ?_⟩
      refine ⟨g, g2, 400, rfl, by decide, by decide, fun p H1 hp tp1 s1 => ?_⟩
      have s01 := s0.trans s1
      have hp0 : H p = none := s0.free hp
      refine ⟨_, rfl, _, rfl, p, 6, rfl, tp1, by decide, fun c H2 c0 c1 x2 t2 => ⟨_, _, rfl, rfl, ?_⟩⟩
      refine ⟨p, _, rfl, t2, by omega, by omega, fun W ws H3 hW eW wl wn x3 t3 => ?_⟩
      have Wp : W ≠ p := t2.ne'' hW
      have s03 : Same H H3 := Fx.fresh hp0 s01 (x2.trans x3)
      refine ⟨_, rfl, _, rfl, p, W, ws, rfl, t3, eW, Wp, by omega, by omega, wn, fun D1 fs H4 r4 n4 x4 t4 => ?_⟩
      have eW4 := x4 _ _ Wp eW
      refine ⟨_, rfl, _, rfl, p, W, ws, rfl, t4, eW4, Wp, by omega, by omega, wn, fun D2 gs H5 r5 n5 x5 t5 => ?_⟩
      have s05 : Same H H5 := Fx.fresh hp0 s03 (x4.trans x5)
      have l5 : Tr (fun _ => True) H5 40 10 (.ref D1) (.fds fs) := (Tr.mono (Tr.fx r4 t4 x5) (by decide) (by decide)).wid fun _ _ => True.intro
      have l5' : Tr (fun _ => True) H5 20 10 (.ref D1) (.fds fs) := (Tr.mono (Tr.fx r4 t4 x5) (by decide) (by decide)).wid fun _ _ => True.intro
      have m5 : Tr (fun _ => True) H5 40 10 (.ref D2) (.fds gs) := (Tr.mono r5 (by decide) (by decide)).wid fun _ _ => True.intro
      refine ⟨rfl, _, rfl, .ref D1, _, _, rfl, l5', fun v6 t6 H6 r6 m6 s6 => ?_⟩
      obtain ⟨fs6, rfl⟩ := Lw.Sm.fdsL m6
      refine ⟨v6, _, fs6, rfl, Tr.mono r6 (by decide) (by decide), fun rv1 H7 rr1 s7 => ?_⟩
      have rc1 : Rc (fun _ => True) C H7 10 rv1 (.fds fs) := (rr1.sim m6).wid fun _ _ => True.intro
      obtain ⟨ra, rfl⟩ := Gn.rc_ref rc1
      have s57 := s6.trans s7
      refine ⟨rfl, _, rfl, .ref D2, _, gs, rfl, Tr.same m5 s57, fun rv2 H8 rr2 s8 => ?_⟩
      have rc2 : Rc (fun _ => True) C H8 10 rv2 (.fds gs) := rr2.wid fun _ _ => True.intro
      obtain ⟨rb, rfl⟩ := Gn.rc_ref rc2
      have s58 := s57.trans s8
      have rc18 := rc1.same s8
      obtain ⟨ps, pt1, ln1⟩ := Gn.pt_of rc18
      obtain ⟨qs, pt2, ln2⟩ := Gn.pt_of rc2
      have cp1 := pt_cp pt1 rc18
      have cp2 := pt_cp pt2 rc2
      have e1 := pt_wk pt1 rc18
      have e2 := pt_wk pt2 rc2
      refine ⟨_, rfl, ra, ps, rfl, pt1, by omega, fun S ts H9 s9 eS o9 => ?_⟩
      have s59 := s58.trans s9
      refine ⟨_, rfl, _, rfl, line_big (by decide), fun b hb => ?_⟩
      have sb : Same H9 (upd H9 b (.tup [])) := Same.new (Same.refl _) hb
      refine ⟨.ref D1, b, _, fs, [], rfl, Tr.same l5 (s59.trans sb), upd_same, by decide, by rw [← e1]; omega, fun R us H10 s10 hR eR o10 => ?_⟩
      have o10' : Gn.Outs H10 us ps := by
        rw [e1]
        simpa using o10
      have s910 := sb.trans s10
      have eS10 := s910 _ _ eS
      have s810 := s9.trans s910
      have d1 := dl_lstL (K := K) eS10 (dl_outs (o9.same s910) cp1)
      have d2 := dl_lstL (K := K) eR (dl_outs o10' cp1)
      refine ⟨_, _, d1.1, d2.1, shaped_of d1 (by decide), shaped_of d2 (by decide), _, rfl, ?_⟩
      rw [SeqAt.eqv_refl _ d1.2.1]
      obtain ⟨la, ⟨⟨dx, tp, d, _, ea, _⟩, _, _⟩, _⟩ := Gn.rc_out rc18
      have ea10 := s810 _ _ ea
      have lts : ts.length = ps.length := Outs.len o9
      refine iteF ⟨_, rfl, S, _, rfl, .inl (SqL.of eS10), _, rfl, ra, dx, _, rfl, ea10, ra, dx, tp, d, _, rfl, ea10, rfl, _, rfl, ?_⟩
      rw [show decide (V.int (ts.length : Int) = V.int (nfs fs)) = true from decide_eq_true (by rw [lts, ln1])]
      refine iteF ?_
      refine ⟨ra, rb, ps, qs, rfl, rfl, pt1.same s810, pt2.same s810, by omega, fun Z zs H11 s11 eZ o11 => ?_⟩
      have s811 := s810.trans s11
      have s511 := s58.trans s811
      refine ⟨_, rfl, _, rfl, _, rfl, line_big (by decide), fun b2 hb2 => ?_⟩
      have sb2 : Same H11 (upd H11 b2 (.tup [])) := Same.new (Same.refl _) hb2
      refine ⟨.ref D2, b2, _, gs, [], rfl, Tr.same m5 (s511.trans sb2), upd_same, by decide, by rw [← e2]; omega, fun R2 us2 H12 s12 hR2 eR2 o12 => ?_⟩
      have o12' : Gn.Outs H12 us2 qs := by
        rw [e2]
        simpa using o12
      have s1112 := sb2.trans s12
      have eS12 := s1112 _ _ (s11 _ _ eS10)
      have o9' := (o9.same (s910.trans s11)).same s1112
      have eZ12 := s1112 _ _ eZ
      refine ⟨S, R2, ts, us2, rfl, eS12, eR2, by omega, fun Y ys H13 s13 eY o13 => ?_⟩
      have cz : ∀ p ∈ ps.zip qs, (∀ y ∈ p.1, CpOk y) ∧ ∀ y ∈ p.2, CpOk y := fun p hp => ⟨cp1 _ (List.of_mem_zip hp).1, cp2 _ (List.of_mem_zip hp).2⟩
      have d3 := dl_lstL (K := K) (s13 _ _ eZ12) (dl_outs2 (o11.same (s1112.trans s13)) cz)
      have d4 := dl_lstL (K := K) eY (dl_outsV (o9'.same s13) (o12'.same s13) o13 cp1 cp2)
      refine ⟨_, _, d3.1, d4.1, shaped_of d3 (by decide), shaped_of d4 (by decide), _, rfl, ?_⟩
      rw [SeqAt.eqv_refl _ d3.2.1]
      have s813 := (s811.trans s1112).trans s13
      refine iteF ⟨ra, ps, rfl, pt1.same s813, by omega, fun U xs H14 s14 eU o14 => ?_⟩
      have d5 := dl_lstL (K := K) eU (dl_outs o14 cp1)
      have d6 := dl_lstL (K := K) (s14 _ _ (s13 _ _ eS12)) (dl_outs (o9'.same (s13.trans s14)) cp1)
      refine ⟨_, rfl, _, _, d5.1, d6.1, shaped_of d5 (by decide), shaped_of d6 (by decide), _, rfl, ?_⟩
      rw [SeqAt.eqv_refl _ d5.2.1]
      have s814 := s813.trans s14
      refine iteF ⟨_, rfl, _, rfl, .ref ra, .ref D1, _, _, .fds fs, rfl, rc18.same s814, Tr.same l5 (s58.trans s814), fun H15 s15 => ⟨_, rfl, iteF ?_⟩⟩
      have s815 := s814.trans s15
      refine ⟨_, rfl, _, rfl, .ref rb, .ref D2, _, _, .fds gs, rfl, rc2.same s815, Tr.same m5 (s58.trans s815), fun H16 s16 => ⟨_, rfl, iteF ?_⟩⟩
      exact ⟨_, _, _, _, _, _, _, _, _, rfl, (s05.trans (s58.trans s815)).trans s16⟩
    · rintro σ H' ⟨kv, tv, nv, pv, ov, rv, sv, wv, qv, rfl, s0⟩
      refine ⟨rfl, ?_⟩
      intro D0 hD0
      have tr0 : Tr (fun _ => True) (upd H' D0 (.dK [])) 40 10 (.ref D0) (.fds []) := .inr ⟨D0, [], [], rfl, rfl, True.intro, upd_same, (show Wf 0 ([] : List (Str × GrT.T)) from Wf.nil).mono (Nat.zero_le _), .nil⟩
      refine ⟨.ref D0, _, [], rfl, tr0, fun rv1 H2 rr1 s2 => ?_⟩
      obtain ⟨ra, rfl⟩ := Gn.rc_ref rr1
      obtain ⟨ps, pt1, ln1⟩ := Gn.pt_of rr1
      have e0 : ps = [] := List.length_eq_zero_iff.mp (by rw [nfs] at ln1; omega)
      subst e0
      refine ⟨ra, [], rfl, pt1, by decide, fun S ts H3 s3 eS o3 => ?_⟩
      cases o3
      refine ⟨line_big (by decide), fun Z hZ => ?_⟩
      have eS4 : (upd H3 Z (.lst [])) S = some (.lst []) := by
        rw [upd_ne (ne_of_none eS hZ)]
        exact eS
      have d1 := dl_lstL (K := K) eS4 DpsL.nil (m := 0)
      have d2 := dl_lstL (K := K) (upd_same (H := H3) (a := Z) (o := .lst [])) DpsL.nil (m := 0)
      refine ⟨_, _, d1.1, d2.1, shaped_of d1 (by decide), shaped_of d2 (by decide), ?_⟩
      rw [SeqAt.eqv_refl _ d1.2.1]
      exact q _
end
end Lw
namespace Lw
open PySem PySem.Spec PyProof.Rows L2 GrT GrOwn
theorem all_mk {l : PySem.W.OpenLaw} {w : World} {K : PySem.W.Frag} {h : Heap} {mg : Str → Option Value} {fa C pm ps f1 f2 f3 f4 f5 f6 f7 f8 f9 f10 f11 f12 f13 f14 f15 f16 f17 f18 f19 f20 f21 f22 f23 f24 f25 f26 f27 f28 : Addr} {cdC : ClassData} {ocC : Value} {odC : Option Addr} {slC : Array (Option Value)} {tL : Tok} {rest1 : List Value} {rest2 : List Value} (X : K.In h) (G : h.Ns mainGlobals mg) (hfa : mg "law" = some (.ref fa))
    {od1 an1 od2 an2 od3 an3 od4 an4 od5 an5 od6 an6 od7 an7 od8 an8 od9 an9 od10 an10 od11 an11 od12 an12 od13 an13 od14 an14 od15 an15 od16 an16 od17 an17 od18 an18 od19 an19 od20 an20 od21 an21 od22 an22 od23 an23 od24 an24 od25 an25 od26 an26 od27 an27 od28 an28 : Option Addr} {sl1 sl2 sl3 sl4 sl5 sl6 sl7 sl8 sl9 sl10 sl11 sl12 sl13 sl14 sl15 sl16 sl17 sl18 sl19 sl20 sl21 sl22 sl23 sl24 sl25 sl26 sl27 sl28 : Array (Option Value)} {oc1 kV1 dc1 pm1 cd1 ct1 oc2 kV2 dc2 pm2 cd2 ct2 oc3 kV3 dc3 pm3 cd3 ct3 oc4 kV4 dc4 pm4 cd4 ct4 oc5 kV5 dc5 pm5 cd5 ct5 oc6 kV6 dc6 pm6 cd6 ct6 oc7 kV7 dc7 pm7 cd7 ct7 oc8 kV8 dc8 pm8 cd8 ct8 oc9 kV9 dc9 pm9 cd9 ct9 oc10 kV10 dc10 pm10 cd10 ct10 oc11 kV11 dc11 pm11 cd11 ct11 oc12 kV12 dc12 pm12 cd12 ct12 oc13 kV13 dc13 pm13 cd13 ct13 oc14 kV14 dc14 pm14 cd14 ct14 oc15 kV15 dc15 pm15 cd15 ct15 oc16 kV16 dc16 pm16 cd16 ct16 oc17 kV17 dc17 pm17 cd17 ct17 oc18 kV18 dc18 pm18 cd18 ct18 oc19 kV19 dc19 pm19 cd19 ct19 oc20 kV20 dc20 pm20 cd20 ct20 oc21 kV21 dc21 pm21 cd21 ct21 oc22 kV22 dc22 pm22 cd22 ct22 oc23 kV23 dc23 pm23 cd23 ct23 oc24 kV24 dc24 pm24 cd24 ct24 oc25 kV25 dc25 pm25 cd25 ct25 oc26 kV26 dc26 pm26 cd26 ct26 oc27 kV27 dc27 pm27 cd27 ct27 oc28 kV28 dc28 pm28 cd28 ct28 : Value}
    (aC : PySem.W.nsIn K mainGlobals "Record" = some (some (.ref C)))
    (pg : PySem.W.plainGet K C Str.empty = true)
    (hd : PySem.W.hasDictIn K C = true)
    (po : PySem.W.plainOver K C = true)
    (sa : PySem.W.findIn K (.ref C) "__setattr__" = some (some (.builtin "object.__setattr__")))
    (mk : PySem.W.makesIn K C = true)
    (kc : PySem.W.keepIn K (.ref C) = true)
    (nN : PySem.W.findIn K (.ref C) "names" = some none)
    (nF : PySem.W.findIn K (.ref C) "_fields" = some none)
    (nS : PySem.W.findIn K (.ref C) "_size" = some none)
    (ha : PySem.W.findIn K (.ref C) "__class__" = some (some (.builtin "object.__class__")))
    (hn : PySem.W.specialIn K (.builtin "object.__class__") "__get__" = some (some (.builtin "getset_descriptor.__get__")))
    (htk : PySem.W.takesIn K (.builtin "object.__class__") = some true)
    (hm : PySem.W.mroIn K C (.type "object") = some true)
    (cI : K.lookup C = some ⟨ocC, odC, .cls cdC, slC⟩)
    (tI : PySem.W.typeIn K (.ref C) = some (.type "type"))
    (sD : PySem.W.subIn K (.ref C) (.type "dict") = some false)
    (sI : PySem.W.subIn K (.type "int") (.ref C) = some false)
    (sR : PySem.W.subIn K (.ref C) (.type "int") = some false)
    (gL : PySem.W.nsIn K mainGlobals "LONGEST_NAME" = some (some (.int 30 tL)))
    (sf : PySem.W.selfFirst K C = true)
    (a1 : PySem.W.nsIn K mainGlobals "_law_cell" = some (some (.ref f1)))
    (l1 : K.lookup f1 = some ⟨oc1, od1, .func (PySem.W.fnOf "_law_cell" "_law_cell" (defArgs sCell) (defBody sCell) (defScope sCell) .none kV1 dc1 pm1 an1 cd1 ct1), sl1⟩)
    (c1 : PySem.W.codeIn K cd1 "_law_cell" = true)
    (k1 : PySem.W.keepIn K (.ref f1) = true)
    (a2 : PySem.W.nsIn K mainGlobals "_law_mixed" = some (some (.ref f2)))
    (l2 : K.lookup f2 = some ⟨oc2, od2, .func (PySem.W.fnOf "_law_mixed" "_law_mixed" (defArgs sMixed) (defBody sMixed) (defScope sMixed) .none kV2 dc2 pm2 an2 cd2 ct2), sl2⟩)
    (c2 : PySem.W.codeIn K cd2 "_law_mixed" = true)
    (k2 : PySem.W.keepIn K (.ref f2) = true)
    (a3 : PySem.W.nsIn K mainGlobals "_law_tape" = some (some (.ref f3)))
    (l3 : K.lookup f3 = some ⟨oc3, od3, .func (PySem.W.fnOf "_law_tape" "_law_tape" (defArgs sTape) (defBody sTape) (defScope sTape) .none kV3 dc3 pm3 an3 cd3 ct3), sl3⟩)
    (c3 : PySem.W.codeIn K cd3 "_law_tape" = true)
    (k3 : PySem.W.keepIn K (.ref f3) = true)
    (a4 : PySem.W.nsIn K mainGlobals "_law_take" = some (some (.ref f4)))
    (l4 : K.lookup f4 = some ⟨oc4, od4, .func (PySem.W.fnOf "_law_take" "_law_take" (defArgs sTake) (defBody sTake) (defScope sTake) .none kV4 dc4 pm4 an4 cd4 ct4), sl4⟩)
    (c4 : PySem.W.codeIn K cd4 "_law_take" = true)
    (k4 : PySem.W.keepIn K (.ref f4) = true)
    (a5 : PySem.W.nsIn K mainGlobals "_law_number" = some (some (.ref f5)))
    (l5 : K.lookup f5 = some ⟨oc5, od5, .func (PySem.W.fnOf "_law_number" "_law_number" (defArgs sNumber) (defBody sNumber) (defScope sNumber) .none kV5 dc5 pm5 an5 cd5 ct5), sl5⟩)
    (c5 : PySem.W.codeIn K cd5 "_law_number" = true)
    (k5 : PySem.W.keepIn K (.ref f5) = true)
    (a6 : PySem.W.nsIn K mainGlobals "_law_word" = some (some (.ref f6)))
    (l6 : K.lookup f6 = some ⟨oc6, od6, .func (PySem.W.fnOf "_law_word" "_law_word" (defArgs sWord) (defBody sWord) (defScope sWord) .none kV6 dc6 pm6 an6 cd6 ct6), sl6⟩)
    (c6 : PySem.W.codeIn K cd6 "_law_word" = true)
    (k6 : PySem.W.keepIn K (.ref f6) = true)
    (a7 : PySem.W.nsIn K mainGlobals "_law_words" = some (some (.ref f7)))
    (l7 : K.lookup f7 = some ⟨oc7, od7, .func (PySem.W.fnOf "_law_words" "_law_words" (defArgs sWords) (defBody sWords) (defScope sWords) .none kV7 dc7 pm7 an7 cd7 ct7), sl7⟩)
    (c7 : PySem.W.codeIn K cd7 "_law_words" = true)
    (k7 : PySem.W.keepIn K (.ref f7) = true)
    (a8 : PySem.W.nsIn K mainGlobals "_law_pick" = some (some (.ref f8)))
    (l8 : K.lookup f8 = some ⟨oc8, od8, .func (PySem.W.fnOf "_law_pick" "_law_pick" (defArgs sPick) (defBody sPick) (defScope sPick) .none kV8 dc8 pm8 an8 cd8 ct8), sl8⟩)
    (c8 : PySem.W.codeIn K cd8 "_law_pick" = true)
    (k8 : PySem.W.keepIn K (.ref f8) = true)
    (a9 : PySem.W.nsIn K mainGlobals "_law_long" = some (some (.ref f9)))
    (l9 : K.lookup f9 = some ⟨oc9, od9, .func (PySem.W.fnOf "_law_long" "_law_long" (defArgs sLong) (defBody sLong) (defScope sLong) .none kV9 dc9 pm9 an9 cd9 ct9), sl9⟩)
    (c9 : PySem.W.codeIn K cd9 "_law_long" = true)
    (k9 : PySem.W.keepIn K (.ref f9) = true)
    (a10 : PySem.W.nsIn K mainGlobals "_law_pool" = some (some (.ref f10)))
    (l10 : K.lookup f10 = some ⟨oc10, od10, .func (PySem.W.fnOf "_law_pool" "_law_pool" (defArgs sPool) (defBody sPool) (defScope sPool) .none kV10 dc10 pm10 an10 cd10 ct10), sl10⟩)
    (c10 : PySem.W.codeIn K cd10 "_law_pool" = true)
    (k10 : PySem.W.keepIn K (.ref f10) = true)
    (a11 : PySem.W.nsIn K mainGlobals "_law_fields" = some (some (.ref f11)))
    (l11 : K.lookup f11 = some ⟨oc11, od11, .func (PySem.W.fnOf "_law_fields" "_law_fields" (defArgs sFields) (defBody sFields) (defScope sFields) .none kV11 dc11 pm11 an11 cd11 ct11), sl11⟩)
    (c11 : PySem.W.codeIn K cd11 "_law_fields" = true)
    (k11 : PySem.W.keepIn K (.ref f11) = true)
    (a12 : PySem.W.nsIn K mainGlobals "_law_turned" = some (some (.ref f12)))
    (l12 : K.lookup f12 = some ⟨oc12, od12, .func (PySem.W.fnOf "_law_turned" "_law_turned" (defArgs sTurn) (defBody sTurn) (defScope sTurn) .none kV12 dc12 pm12 an12 cd12 ct12), sl12⟩)
    (c12 : PySem.W.codeIn K cd12 "_law_turned" = true)
    (k12 : PySem.W.keepIn K (.ref f12) = true)
    (a13 : PySem.W.nsIn K mainGlobals "_law_count" = some (some (.ref f13)))
    (l13 : K.lookup f13 = some ⟨oc13, od13, .func (PySem.W.fnOf "_law_count" "_law_count" (defArgs sCount) (defBody sCount) (defScope sCount) .none kV13 dc13 pm13 an13 cd13 ct13), sl13⟩)
    (c13 : PySem.W.codeIn K cd13 "_law_count" = true)
    (k13 : PySem.W.keepIn K (.ref f13) = true)
    (a14 : PySem.W.nsIn K mainGlobals "_law_sorted" = some (some (.ref f14)))
    (l14 : K.lookup f14 = some ⟨oc14, od14, .func (PySem.W.fnOf "_law_sorted" "_law_sorted" (defArgs sSorted) (defBody sSorted) (defScope sSorted) .none kV14 dc14 pm14 an14 cd14 ct14), sl14⟩)
    (c14 : PySem.W.codeIn K cd14 "_law_sorted" = true)
    (k14 : PySem.W.keepIn K (.ref f14) = true)
    (a15 : PySem.W.nsIn K mainGlobals "_law_is_integer" = some (some (.ref f15)))
    (l15 : K.lookup f15 = some ⟨oc15, od15, .func (PySem.W.fnOf "_law_is_integer" "_law_is_integer" (defArgs sIsInt) (defBody sIsInt) (defScope sIsInt) .none kV15 dc15 pm15 an15 cd15 ct15), sl15⟩)
    (c15 : PySem.W.codeIn K cd15 "_law_is_integer" = true)
    (k15 : PySem.W.keepIn K (.ref f15) = true)
    (a16 : PySem.W.nsIn K mainGlobals "_law_told" = some (some (.ref f16)))
    (l16 : K.lookup f16 = some ⟨oc16, od16, .func (PySem.W.fnOf "_law_told" "_law_told" (defArgs sTold) (defBody sTold) (defScope sTold) .none kV16 dc16 pm16 an16 cd16 ct16), sl16⟩)
    (c16 : PySem.W.codeIn K cd16 "_law_told" = true)
    (k16 : PySem.W.keepIn K (.ref f16) = true)
    (a17 : PySem.W.nsIn K mainGlobals "_law_walk" = some (some (.ref f17)))
    (l17 : K.lookup f17 = some ⟨oc17, od17, .func (PySem.W.fnOf "_law_walk" "_law_walk" (defArgs sWalk) (defBody sWalk) (defScope sWalk) .none kV17 dc17 pm17 an17 cd17 ct17), sl17⟩)
    (c17 : PySem.W.codeIn K cd17 "_law_walk" = true)
    (k17 : PySem.W.keepIn K (.ref f17) = true)
    (a18 : PySem.W.nsIn K mainGlobals "_law_deep" = some (some (.ref f18)))
    (l18 : K.lookup f18 = some ⟨oc18, od18, .func (PySem.W.fnOf "_law_deep" "_law_deep" (defArgs sDeep) (defBody sDeep) (defScope sDeep) .none kV18 dc18 pm18 an18 cd18 ct18), sl18⟩)
    (c18 : PySem.W.codeIn K cd18 "_law_deep" = true)
    (k18 : PySem.W.keepIn K (.ref f18) = true)
    (a19 : PySem.W.nsIn K mainGlobals "law" = some (some (.ref f19)))
    (l19 : K.lookup f19 = some ⟨oc19, od19, .func (PySem.W.fnOf "law" "law" (defArgs sLaw) (defBody sLaw) (defScope sLaw) .none kV19 dc19 pm19 an19 cd19 ct19), sl19⟩)
    (c19 : PySem.W.codeIn K cd19 "law" = true)
    (k19 : PySem.W.keepIn K (.ref f19) = true)
    (a20 : PySem.W.nsIn K mainGlobals "is_name" = some (some (.ref f20)))
    (l20 : K.lookup f20 = some ⟨oc20, od20, .func (PySem.W.fnOf "is_name" "is_name" (defArgs sIsName) (defBody sIsName) (defScope sIsName) .none kV20 dc20 pm20 an20 cd20 ct20), sl20⟩)
    (c20 : PySem.W.codeIn K cd20 "is_name" = true)
    (k20 : PySem.W.keepIn K (.ref f20) = true)
    (a21 : PySem.W.nsIn K mainGlobals "value_size" = some (some (.ref f21)))
    (l21 : K.lookup f21 = some ⟨oc21, od21, .func (PySem.W.fnOf "value_size" "value_size" (defArgs sValueSize) (defBody sValueSize) (defScope sValueSize) .none kV21 dc21 pm21 an21 cd21 ct21), sl21⟩)
    (c21 : PySem.W.codeIn K cd21 "value_size" = true)
    (k21 : PySem.W.keepIn K (.ref f21) = true)
    (a22 : PySem.W.findIn K (.ref C) "__init__" = some (some (.ref f22)))
    (i22 : PySem.W.isFn K (.ref f22) = true)
    (j22 : PySem.W.fnIn K f22 = true)
    (l22 : K.lookup f22 = some ⟨oc22, od22, .func (PySem.W.fnOf "__init__" "Record.__init__" (defArgs sInit) (defBody sInit) (defScope sInit) .none kV22 dc22 pm22 an22 cd22 ct22), sl22⟩)
    (c22 : PySem.W.codeIn K cd22 "Record.__init__" = true)
    (k22 : PySem.W.keepIn K (.ref f22) = true)
    (a23 : PySem.W.findIn K (.ref C) "__contains__" = some (some (.ref f23)))
    (i23 : PySem.W.isFn K (.ref f23) = true)
    (j23 : PySem.W.fnIn K f23 = true)
    (l23 : K.lookup f23 = some ⟨oc23, od23, .func (PySem.W.fnOf "__contains__" "Record.__contains__" (defArgs sContains) (defBody sContains) (defScope sContains) .none kV23 dc23 pm23 an23 cd23 ct23), sl23⟩)
    (c23 : PySem.W.codeIn K cd23 "Record.__contains__" = true)
    (k23 : PySem.W.keepIn K (.ref f23) = true)
    (a24 : PySem.W.findIn K (.ref C) "__len__" = some (some (.ref f24)))
    (i24 : PySem.W.isFn K (.ref f24) = true)
    (j24 : PySem.W.fnIn K f24 = true)
    (l24 : K.lookup f24 = some ⟨oc24, od24, .func (PySem.W.fnOf "__len__" "Record.__len__" (defArgs sLen) (defBody sLen) (defScope sLen) .none kV24 dc24 pm24 an24 cd24 ct24), sl24⟩)
    (c24 : PySem.W.codeIn K cd24 "Record.__len__" = true)
    (k24 : PySem.W.keepIn K (.ref f24) = true)
    (a25 : PySem.W.findIn K (.ref C) "__getitem__" = some (some (.ref f25)))
    (i25 : PySem.W.isFn K (.ref f25) = true)
    (j25 : PySem.W.fnIn K f25 = true)
    (l25 : K.lookup f25 = some ⟨oc25, od25, .func (PySem.W.fnOf "__getitem__" "Record.__getitem__" (defArgs sGet) (defBody sGet) (defScope sGet) .none kV25 dc25 pm25 an25 cd25 ct25), sl25⟩)
    (c25 : PySem.W.codeIn K cd25 "Record.__getitem__" = true)
    (k25 : PySem.W.keepIn K (.ref f25) = true)
    (a26 : PySem.W.findIn K (.ref C) "paths" = some (some (.ref f26)))
    (i26 : PySem.W.isFn K (.ref f26) = true)
    (j26 : PySem.W.fnIn K f26 = true)
    (l26 : K.lookup f26 = some ⟨oc26, od26, .func (PySem.W.fnOf "paths" "Record.paths" (defArgs Gn.sPaths) (defBody Gn.sPaths) (defScope Gn.sPaths) .none kV26 dc26 pm26 an26 cd26 ct26), sl26⟩)
    (c26 : PySem.W.codeIn K cd26 "Record.paths" = true)
    (k26 : PySem.W.keepIn K (.ref f26) = true)
    (mrd : PySem.W.readsIn K C (.type "type") = true)
    (mga : PySem.W.specialIn K (.ref C) "__getattribute__" = some (some (.builtin "type.__getattribute__")))
    (a27 : PySem.W.findCls K (.ref C) (.type "type") "make" = some (.get (.builtin "staticmethod.__get__") (.ref pm) .none (.ref C)))
    (r27 : PySem.W.recIn K pm "staticmethod" = some (.ref f27 :: rest1))
    (l27 : K.lookup f27 = some ⟨oc27, od27, .func (PySem.W.fnOf "make" "Record.make" (defArgs sMake) (defBody sMake) (defScope sMake) .none kV27 dc27 pm27 an27 cd27 ct27), sl27⟩)
    (c27 : PySem.W.codeIn K cd27 "Record.make" = true)
    (k27 : PySem.W.keepIn K (.ref f27) = true)
    (a28 : PySem.W.findIn K (.ref C) "size" = some (some (.ref ps)))
    (g28 : PySem.W.specialIn K (.ref ps) "__get__" = some (some (.builtin "property.__get__")))
    (t28 : PySem.W.takesIn K (.ref ps) = some true)
    (r28 : PySem.W.recIn K ps "property" = some (.ref f28 :: rest2))
    (l28 : K.lookup f28 = some ⟨oc28, od28, .func (PySem.W.fnOf "size" "Record.size" (defArgs sSize) (defBody sSize) (defScope sSize) .none kV28 dc28 pm28 an28 cd28 ct28), sl28⟩)
    (c28 : PySem.W.codeIn K cd28 "Record.size" = true)
    (k28 : PySem.W.keepIn K (.ref f28) = true)
    (z_len : PySem.W.nsIn K mainGlobals "len" = some none)
    (z_int : PySem.W.nsIn K mainGlobals "int" = some none)
    (z_range : PySem.W.nsIn K mainGlobals "range" = some none)
    (z_isinstance : PySem.W.nsIn K mainGlobals "isinstance" = some none)
    (z_dict : PySem.W.nsIn K mainGlobals "dict" = some none)
    (z_tuple : PySem.W.nsIn K mainGlobals "tuple" = some none)
    (z_bool : PySem.W.nsIn K mainGlobals "bool" = some none)
    (z_list : PySem.W.nsIn K mainGlobals "list" = some none)
    (z_str : PySem.W.nsIn K mainGlobals "str" = some none)
    (z_sum : PySem.W.nsIn K mainGlobals "sum" = some none)
    (z_sorted : PySem.W.nsIn K mainGlobals "sorted" = some none)
    (z_all : PySem.W.nsIn K mainGlobals "all" = some none)
    (z_min : PySem.W.nsIn K mainGlobals "min" = some none)
    (z_reversed : PySem.W.nsIn K mainGlobals "reversed" = some none)
    (z_zip : PySem.W.nsIn K mainGlobals "zip" = some none) :
    ∃ fd : FuncData, (∀ (s : Shared) (v : Value), BindsTo s fd ⟨[v], []⟩ [("script", v)]) ∧ ∀ base : Heap, K.In base → base.Ns mainGlobals mg → FnOk l.prog w K mg base CX0 26 fa fd ["script"] (spLaw K) := by
  have cI1 : PySem.W.clsIn K C = some cdC := by
    unfold PySem.W.clsIn
    rw [cI]
  have kit : ∀ t : Value, ¬ (t = .ref C) → ∀ b, PySem.W.subIn K t (.ref C) = some b → PySem.W.kitOne K t (.ref C) = some b := fun t ht b hb => by
    unfold PySem.W.kitOne
    rw [if_neg (by simpa using ht)]
    show (if ((PySem.W.clsIn K C).isSome && PySem.W.typeIn K (.ref C) == some (.type "type")) = true then PySem.W.subIn K t (.ref C) else none) = some b
    rw [cI1, tI, if_pos (by simp)]
    exact hb
  have R : RecK K mg C := ⟨⟨pg, hd, po, sa⟩, nN, nF, nS, ha, hn, htk, hm, kit _ (by simp) _ sI, (by
    unfold PySem.W.kitOne
    rw [if_neg (by simp)]
    exact sD), (by
    unfold PySem.W.kitOne
    rw [if_pos (by simp)]), sI, sR, PySem.W.mg_of X G aC⟩
  have hL := PySem.W.mg_of X G gL
  have F1 := fun_mk (st := sCell) l1 c1 k1
  have b1 := F1.binds (ps := ["script", "k"]) fun _ _ _ _ _ _ us hl => match us, hl with | [_, _], _ => rfl
  have D1 : Dfn K mg "_law_cell" sCell ["script", "k"] := ⟨_, _, PySem.W.mg_of X G a1, F1, b1⟩
  have F2 := fun_mk (st := sMixed) l2 c2 k2
  have b2 := F2.binds (ps := ["cell", "k"]) fun _ _ _ _ _ _ us hl => match us, hl with | [_, _], _ => rfl
  have D2 : Dfn K mg "_law_mixed" sMixed ["cell", "k"] := ⟨_, _, PySem.W.mg_of X G a2, F2, b2⟩
  have F3 := fun_mk (st := sTape) l3 c3 k3
  have b3 := F3.binds (ps := ["great", "lesser", "count"]) fun _ _ _ _ _ _ us hl => match us, hl with | [_, _, _], _ => rfl
  have D3 : Dfn K mg "_law_tape" sTape ["great", "lesser", "count"] := ⟨_, _, PySem.W.mg_of X G a3, F3, b3⟩
  have F4 := fun_mk (st := sTake) l4 c4 k4
  have b4 := F4.binds (ps := ["tape", "many"]) fun _ _ _ _ _ _ us hl => match us, hl with | [_, _], _ => rfl
  have D4 : Dfn K mg "_law_take" sTake ["tape", "many"] := ⟨_, _, PySem.W.mg_of X G a4, F4, b4⟩
  have F5 := fun_mk (st := sNumber) l5 c5 k5
  have b5 := F5.binds (ps := ["tape"]) fun _ _ _ _ _ _ us hl => match us, hl with | [_], _ => rfl
  have D5 : Dfn K mg "_law_number" sNumber ["tape"] := ⟨_, _, PySem.W.mg_of X G a5, F5, b5⟩
  have F6 := fun_mk (st := sWord) l6 c6 k6
  have b6 := F6.binds (ps := ["tape", "longest"]) fun _ _ _ _ _ _ us hl => match us, hl with | [_, _], _ => rfl
  have D6 : Dfn K mg "_law_word" sWord ["tape", "longest"] := ⟨_, _, PySem.W.mg_of X G a6, F6, b6⟩
  have F7 := fun_mk (st := sWords) l7 c7 k7
  have b7 := F7.binds (ps := ["tape", "many", "taken"]) fun _ _ _ _ _ _ us hl => match us, hl with | [_, _, _], _ => rfl
  have D7 : Dfn K mg "_law_words" sWords ["tape", "many", "taken"] := ⟨_, _, PySem.W.mg_of X G a7, F7, b7⟩
  have F8 := fun_mk (st := sPick) l8 c8 k8
  have b8 := F8.binds (ps := ["tape", "names"]) fun _ _ _ _ _ _ us hl => match us, hl with | [_, _], _ => rfl
  have D8 : Dfn K mg "_law_pick" sPick ["tape", "names"] := ⟨_, _, PySem.W.mg_of X G a8, F8, b8⟩
  have F9 := fun_mk (st := sLong) l9 c9 k9
  have b9 := F9.binds (ps := ["tape", "word"]) fun _ _ _ _ _ _ us hl => match us, hl with | [_, _], _ => rfl
  have D9 : Dfn K mg "_law_long" sLong ["tape", "word"] := ⟨_, _, PySem.W.mg_of X G a9, F9, b9⟩
  have F10 := fun_mk (st := sPool) l10 c10 k10
  have b10 := F10.binds (ps := ["tape", "many"]) fun _ _ _ _ _ _ us hl => match us, hl with | [_, _], _ => rfl
  have D10 : Dfn K mg "_law_pool" sPool ["tape", "many"] := ⟨_, _, PySem.W.mg_of X G a10, F10, b10⟩
  have F11 := fun_mk (st := sFields) l11 c11 k11
  have b11 := F11.binds (ps := ["tape", "names", "depth"]) fun _ _ _ _ _ _ us hl => match us, hl with | [_, _, _], _ => rfl
  have D11 : Dfn K mg "_law_fields" sFields ["tape", "names", "depth"] := ⟨_, _, PySem.W.mg_of X G a11, F11, b11⟩
  have F12 := fun_mk (st := sTurn) l12 c12 k12
  have b12 := F12.binds (ps := ["value"]) fun _ _ _ _ _ _ us hl => match us, hl with | [_], _ => rfl
  have D12 : Dfn K mg "_law_turned" sTurn ["value"] := ⟨_, _, PySem.W.mg_of X G a12, F12, b12⟩
  have F13 := fun_mk (st := sCount) l13 c13 k13
  have b13 := F13.binds (ps := ["value"]) fun _ _ _ _ _ _ us hl => match us, hl with | [_], _ => rfl
  have D13 : Dfn K mg "_law_count" sCount ["value"] := ⟨_, _, PySem.W.mg_of X G a13, F13, b13⟩
  have F14 := fun_mk (st := sSorted) l14 c14 k14
  have b14 := F14.binds (ps := ["names"]) fun _ _ _ _ _ _ us hl => match us, hl with | [_], _ => rfl
  have D14 : Dfn K mg "_law_sorted" sSorted ["names"] := ⟨_, _, PySem.W.mg_of X G a14, F14, b14⟩
  have F15 := fun_mk (st := sIsInt) l15 c15 k15
  have b15 := F15.binds (ps := ["found"]) fun _ _ _ _ _ _ us hl => match us, hl with | [_], _ => rfl
  have D15 : Dfn K mg "_law_is_integer" sIsInt ["found"] := ⟨_, _, PySem.W.mg_of X G a15, F15, b15⟩
  have F16 := fun_mk (st := sTold) l16 c16 k16
  have b16 := F16.binds (ps := ["record", "plain"]) fun _ _ _ _ _ _ us hl => match us, hl with | [_, _], _ => rfl
  have D16 : Dfn K mg "_law_told" sTold ["record", "plain"] := ⟨_, _, PySem.W.mg_of X G a16, F16, b16⟩
  have F17 := fun_mk (st := sWalk) l17 c17 k17
  have b17 := F17.binds (ps := ["plain", "before"]) fun _ _ _ _ _ _ us hl => match us, hl with | [_, _], _ => rfl
  have D17 : Dfn K mg "_law_walk" sWalk ["plain", "before"] := ⟨_, _, PySem.W.mg_of X G a17, F17, b17⟩
  have F18 := fun_mk (st := sDeep) l18 c18 k18
  have b18 := F18.binds (ps := ["tape", "names"]) fun _ _ _ _ _ _ us hl => match us, hl with | [_, _], _ => rfl
  have D18 : Dfn K mg "_law_deep" sDeep ["tape", "names"] := ⟨_, _, PySem.W.mg_of X G a18, F18, b18⟩
  have F19 := fun_mk (st := sLaw) l19 c19 k19
  have b19 := F19.binds (ps := ["script"]) fun _ _ _ _ _ _ us hl => match us, hl with | [_], _ => rfl
  have F20 := fun_mk (st := sIsName) l20 c20 k20
  have b20 := F20.binds (ps := ["text"]) fun _ _ _ _ _ _ us hl => match us, hl with | [_], _ => rfl
  have D20 : Dfn K mg "is_name" sIsName ["text"] := ⟨_, _, PySem.W.mg_of X G a20, F20, b20⟩
  have F21 := fun_mk (st := sValueSize) l21 c21 k21
  have b21 := F21.binds (ps := ["value"]) fun _ _ _ _ _ _ us hl => match us, hl with | [_], _ => rfl
  have D21 : Dfn K mg "value_size" sValueSize ["value"] := ⟨_, _, PySem.W.mg_of X G a21, F21, b21⟩
  have F22 := fun_mk (st := sInit) l22 c22 k22
  have b22 := F22.binds (ps := ["self", "fields"]) fun _ _ _ _ _ _ us hl => match us, hl with | [_, _], _ => rfl
  have IN : InK K C := ⟨_, _, ⟨mk, a22, i22, kc⟩, F22, b22⟩
  have F23 := fun_mk (st := sContains) l23 c23 k23
  have b23 := F23.binds (ps := ["self", "name"]) fun _ _ _ _ _ _ us hl => match us, hl with | [_, _], _ => rfl
  have D23 : DfM K C "__contains__" "Record.__contains__" sContains ["self", "name"] := ⟨_, _, ⟨a23, i23⟩, j23, F23, b23⟩
  have F24 := fun_mk (st := sLen) l24 c24 k24
  have b24 := F24.binds (ps := ["self"]) fun _ _ _ _ _ _ us hl => match us, hl with | [_], _ => rfl
  have D24 : DfM K C "__len__" "Record.__len__" sLen ["self"] := ⟨_, _, ⟨a24, i24⟩, j24, F24, b24⟩
  have F25 := fun_mk (st := sGet) l25 c25 k25
  have b25 := F25.binds (ps := ["self", "name"]) fun _ _ _ _ _ _ us hl => match us, hl with | [_, _], _ => rfl
  have D25 : DfM K C "__getitem__" "Record.__getitem__" sGet ["self", "name"] := ⟨_, _, ⟨a25, i25⟩, j25, F25, b25⟩
  have F26 := fun_mk (st := Gn.sPaths) l26 c26 k26
  have b26 := F26.binds (ps := ["self"]) fun _ _ _ _ _ _ us hl => match us, hl with | [_], _ => rfl
  have F27 := fun_mk (st := sMake) l27 c27 k27
  have b27 := F27.binds (ps := ["fields"]) fun _ _ _ _ _ _ us hl => match us, hl with | [_], _ => rfl
  have mD : SMet K C (.type "type") "make" pm f27 := ⟨⟨mrd, mga⟩, a27, ⟨_, r27⟩, k27⟩
  have DM : StK K C := ⟨_, _, _, mD, F27, b27⟩
  have F28 := fun_mk (st := sSize) l28 c28 k28
  have b28 := F28.binds (ps := ["self"]) fun _ _ _ _ _ _ us hl => match us, hl with | [_], _ => rfl
  have PR : PrK K C := ⟨_, _, _, ⟨a28, g28, t28, ⟨_, r28⟩⟩, F28, b28⟩
  have T : Bu mg := { b_len := PySem.W.mg_none_of X G z_len, b_int := PySem.W.mg_none_of X G z_int, b_range := PySem.W.mg_none_of X G z_range, b_isinstance := PySem.W.mg_none_of X G z_isinstance, b_dict := PySem.W.mg_none_of X G z_dict, b_tuple := PySem.W.mg_none_of X G z_tuple, b_bool := PySem.W.mg_none_of X G z_bool, b_list := PySem.W.mg_none_of X G z_list, b_str := PySem.W.mg_none_of X G z_str, b_sum := PySem.W.mg_none_of X G z_sum, b_sorted := PySem.W.mg_none_of X G z_sorted }
  refine ⟨PySem.W.fnOf "law" "law" (defArgs sLaw) (defBody sLaw) (defScope sLaw) .none kV19 dc19 pm19 an19 cd19 ct19, fun s v => .of_eq rfl, fun base _ _ => ?_⟩
  have p_cell := c_cell (P := l.prog) (w := w) (base := base) T.toBt D1
  have p_mixed := c_mixed (P := l.prog) (w := w) (base := base) T.toBt D2
  have p_tape := c_tape T.toBt D3 p_mixed
  have p_take := c_take (P := l.prog) (w := w) (base := base) T.toBt D4
  have p_number := c_number T.toBt D5 p_take
  have p_word := c_word T.toBt D6 p_take
  have p_words := c_words T.toBt D7 p_word
  have p_long := c_long T.toBt D9 p_take
  have p_pool := c_pool T.toBt D10 p_words p_long
  have p_fields := c_fields T.toBt D11 p_take p_number
  have p_pick := c_pick T D8 p_take
  have p_sorted := c_sorted (P := l.prog) (w := w) (base := base) T D14
  have p_isint := c_is_integer (P := l.prog) (w := w) (base := base) T D15
  have br := PySem.W.mg_none_of X G z_reversed
  have p_turned := c_turned (P := l.prog) (w := w) (base := base) T br D12 10
  have p_contains := m_contains (P := l.prog) (w := w) (base := base) R D23
  have p_len := m_len (P := l.prog) (w := w) (base := base) T.toBt R D24
  have p_get := m_get (P := l.prog) (w := w) (base := base) R D25
  have p_vs := c_value_size (P := l.prog) (w := w) (base := base) T R PR D21
  have ba := PySem.W.mg_none_of X G z_all
  have p_name := c_is_name (P := l.prog) (w := w) (base := base) T ba hL D20
  have p_told := c_told T R PR p_len p_contains p_get p_isint p_sorted D16 D13 10
  have p_make : SCal l.prog w K mg base C 15 (spMake C 9) := ⟨_, _, _, _, mD, fn_make T R mD F27 b27 IN p_vs p_name 9, b27⟩
  have p_walk := c_walk T p_sorted D17 10
  have p_deep := c_deep T D18 p_take (p_fields 2) p_pick
  have PK : Gn.PaK K C f26 := ⟨⟨a26, i26, k26⟩, _, _, _, _, _, _, _, _, _, l26, c26, b26⟩
  have p_paths := Gn.call_all (P := l.prog) (w := w) (base := base) T R PK 10 (by decide)
  have hf := hfa.symm.trans (PySem.W.mg_of X G a19)
  cases hf
  exact fn_law T (PySem.W.mg_none_of X G z_min) (PySem.W.mg_none_of X G z_zip) R PR p_cell p_tape p_take p_pool p_deep p_turned p_make p_walk p_told PK.m p_paths F19
theorem walk {l : PySem.W.OpenLaw} {q : Program} {loose : List Str} {XP : (Str → Option Value) → Heap → Prop} {YP : World → Heap → Prop} {d : DefRec} {K : Params → PySem.W.Frag} (hn : l.most = some 63) (hdf : d.params.defaults = [])
    (hY : ∀ (w : World) (h : Heap), YP w h → (K w.params).In h)
    (F : ∀ (w : World) (mg : Str → Option Value) (fa : Addr) (h : Heap), (K w.params).In h → h.Ns mainGlobals mg → mg d.name = some (.ref fa) →
      ∃ fd : FuncData, (∀ (s : Shared) (u : Value), BindsTo s fd ⟨[u], []⟩ [("script", u)]) ∧ ∀ base : Heap, (K w.params).In base → base.Ns mainGlobals mg → FnOk l.prog w (K w.params) mg base CX0 26 fa fd ["script"] (spLaw (K w.params))) :
    PySem.W.WalkO q loose XP YP l.row.toRowW d [] (fun f vs => PySem.call f vs) :=
  L2.walk_of (n := 63) (k := 26) (x := "script") (CX := fun _ => CX0) (sp := fun w => spLaw (K w.params)) hn (by decide) hdf ⟨rfl, by decide, by decide⟩ hY F (fun _ _ a ns hl _ hS => ⟨a, ns, rfl, hS, hl, fun _ => rfl⟩) fun _ _ _ _ _ z => z
end Lw
open PySem PySem.W PyProof.Rows
set_option maxRecDepth 100000 in
set_option maxHeartbeats 0 in
theorem PySem.Challenge.cw_growingrecords_k06_paths_holds : PySem.Challenge.rw_growingrecords_k06_paths.Holds := by
  w_on; o_law; k_head; (case hw => w_witness2)
  k_fill
  refine Lw.walk (l := PySem.Challenge.rw_growingrecords_k06_paths) rfl rfl (fun w h Y => PySem.W.kIn_of Y) ?F
  case F =>
    intro w mg fa h KX G hmg
    refine' Lw.all_mk KX G hmg ?aC ?pg ?hd ?po ?sa ?mk ?kc ?nN ?nF ?nS ?ha ?hn ?htk ?hm ?cI ?tI ?sD ?sI ?sR ?gL ?sf ?a1 ?l1 ?c1 ?k1 ?a2 ?l2 ?c2 ?k2 ?a3 ?l3 ?c3 ?k3 ?a4 ?l4 ?c4 ?k4 ?a5 ?l5 ?c5 ?k5 ?a6 ?l6 ?c6 ?k6 ?a7 ?l7 ?c7 ?k7 ?a8 ?l8 ?c8 ?k8 ?a9 ?l9 ?c9 ?k9 ?a10 ?l10 ?c10 ?k10 ?a11 ?l11 ?c11 ?k11 ?a12 ?l12 ?c12 ?k12 ?a13 ?l13 ?c13 ?k13 ?a14 ?l14 ?c14 ?k14 ?a15 ?l15 ?c15 ?k15 ?a16 ?l16 ?c16 ?k16 ?a17 ?l17 ?c17 ?k17 ?a18 ?l18 ?c18 ?k18 ?a19 ?l19 ?c19 ?k19 ?a20 ?l20 ?c20 ?k20 ?a21 ?l21 ?c21 ?k21 ?a22 ?i22 ?j22 ?l22 ?c22 ?k22 ?a23 ?i23 ?j23 ?l23 ?c23 ?k23 ?a24 ?i24 ?j24 ?l24 ?c24 ?k24 ?a25 ?i25 ?j25 ?l25 ?c25 ?k25 ?a26 ?i26 ?j26 ?l26 ?c26 ?k26 ?mrd ?mga ?a27 ?r27 ?l27 ?c27 ?k27 ?a28 ?g28 ?t28 ?r28 ?l28 ?c28 ?k28 ?z_len ?z_int ?z_range ?z_isinstance ?z_dict ?z_tuple ?z_bool ?z_list ?z_str ?z_sum ?z_sorted ?z_all ?z_min ?z_reversed ?z_zip
    (case aC => k_is)
    (case pg => k_is)
    (case hd => k_is)
    (case po => k_is)
    (case sa => k_is)
    (case mk => k_is)
    (case kc => k_is)
    (case nN => k_is)
    (case nF => k_is)
    (case nS => k_is)
    (case ha => k_is)
    (case hn => k_is)
    (case htk => k_is)
    (case hm => k_is)
    (case cI => k_is)
    (case tI => k_is)
    (case sD => k_is)
    (case sI => k_is)
    (case sR => k_is)
    (case gL => k_is)
    (case sf => k_is)
    (case a1 => k_is)
    (case l1 => k_is)
    (case c1 => k_is)
    (case k1 => k_is)
    (case a2 => k_is)
    (case l2 => k_is)
    (case c2 => k_is)
    (case k2 => k_is)
    (case a3 => k_is)
    (case l3 => k_is)
    (case c3 => k_is)
    (case k3 => k_is)
    (case a4 => k_is)
    (case l4 => k_is)
    (case c4 => k_is)
    (case k4 => k_is)
    (case a5 => k_is)
    (case l5 => k_is)
    (case c5 => k_is)
    (case k5 => k_is)
    (case a6 => k_is)
    (case l6 => k_is)
    (case c6 => k_is)
    (case k6 => k_is)
    (case a7 => k_is)
    (case l7 => k_is)
    (case c7 => k_is)
    (case k7 => k_is)
    (case a8 => k_is)
    (case l8 => k_is)
    (case c8 => k_is)
    (case k8 => k_is)
    (case a9 => k_is)
    (case l9 => k_is)
    (case c9 => k_is)
    (case k9 => k_is)
    (case a10 => k_is)
    (case l10 => k_is)
    (case c10 => k_is)
    (case k10 => k_is)
    (case a11 => k_is)
    (case l11 => k_is)
    (case c11 => k_is)
    (case k11 => k_is)
    (case a12 => k_is)
    (case l12 => k_is)
    (case c12 => k_is)
    (case k12 => k_is)
    (case a13 => k_is)
    (case l13 => k_is)
    (case c13 => k_is)
    (case k13 => k_is)
    (case a14 => k_is)
    (case l14 => k_is)
    (case c14 => k_is)
    (case k14 => k_is)
    (case a15 => k_is)
    (case l15 => k_is)
    (case c15 => k_is)
    (case k15 => k_is)
    (case a16 => k_is)
    (case l16 => k_is)
    (case c16 => k_is)
    (case k16 => k_is)
    (case a17 => k_is)
    (case l17 => k_is)
    (case c17 => k_is)
    (case k17 => k_is)
    (case a18 => k_is)
    (case l18 => k_is)
    (case c18 => k_is)
    (case k18 => k_is)
    (case a19 => k_is)
    (case l19 => k_is)
    (case c19 => k_is)
    (case k19 => k_is)
    (case a20 => k_is)
    (case l20 => k_is)
    (case c20 => k_is)
    (case k20 => k_is)
    (case a21 => k_is)
    (case l21 => k_is)
    (case c21 => k_is)
    (case k21 => k_is)
    (case a22 => k_is)
    (case i22 => k_is)
    (case j22 => k_is)
    (case l22 => k_is)
    (case c22 => k_is)
    (case k22 => k_is)
    (case a23 => k_is)
    (case i23 => k_is)
    (case j23 => k_is)
    (case l23 => k_is)
    (case c23 => k_is)
    (case k23 => k_is)
    (case a24 => k_is)
    (case i24 => k_is)
    (case j24 => k_is)
    (case l24 => k_is)
    (case c24 => k_is)
    (case k24 => k_is)
    (case a25 => k_is)
    (case i25 => k_is)
    (case j25 => k_is)
    (case l25 => k_is)
    (case c25 => k_is)
    (case k25 => k_is)
    (case a26 => k_is)
    (case i26 => k_is)
    (case j26 => k_is)
    (case l26 => k_is)
    (case c26 => k_is)
    (case k26 => k_is)
    (case mrd => k_is)
    (case mga => k_is)
    (case a27 => k_is)
    (case r27 => k_is)
    (case l27 => k_is)
    (case c27 => k_is)
    (case k27 => k_is)
    (case a28 => k_is)
    (case g28 => k_is)
    (case t28 => k_is)
    (case r28 => k_is)
    (case l28 => k_is)
    (case c28 => k_is)
    (case k28 => k_is)
    (case z_len => k_is)
    (case z_int => k_is)
    (case z_range => k_is)
    (case z_isinstance => k_is)
    (case z_dict => k_is)
    (case z_tuple => k_is)
    (case z_bool => k_is)
    (case z_list => k_is)
    (case z_str => k_is)
    (case z_sum => k_is)
    (case z_sorted => k_is)
    (case z_all => k_is)
    (case z_min => k_is)
    (case z_reversed => k_is)
    (case z_zip => k_is)
