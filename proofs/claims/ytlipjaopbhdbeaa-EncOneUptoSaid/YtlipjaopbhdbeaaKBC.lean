/- No step of the machine takes a draw back, so no call does. -/
import Derived.Test.YtlipjaopbhdbeaaKAO
import Derived.Calls
namespace Go.Proofs.Ytlipjaopbhdbeaa
open Go

def RLe {α : Type} (w : World) : Result α → Prop
  | .ok _ w' => w.drawn ≤ w'.drawn
  | .halt _ w' => w.drawn ≤ w'.drawn
theorem RLe.trans {α : Type} {w w1 : World} (h : w.drawn ≤ w1.drawn) : ∀ {r : Result α}, RLe w1 r → RLe w r
  | .ok _ _, k => Nat.le_trans h k
  | .halt _ _, k => Nat.le_trans h k
theorem RLe.stop {α : Type} (w : World) (h : Halt) : RLe w (Result.halt h w : Result α) := Nat.le_refl _
theorem run_le {α : Type} {P : Program} : ∀ (s : Sem α) (w : World), RLe w (s.run P w) := by
  intro s
  induction s with
  | pure a => intro w; exact Nat.le_refl _
  | load m a k ih =>
    intro w
    rw [Sem.run]
    split
    · exact ih _ _
    · split
      · exact ih _ _
      · exact RLe.stop _ _
  | store m a v k ih =>
    intro w
    rw [Sem.run.eq_def]
    split <;> first | contradiction | (rename_i heq; cases heq) | skip
    all_goals try exact RLe.stop _ _
    split
    · split
      · exact RLe.stop _ _
      · exact RLe.trans (w1 := World.setCell _ a v) (Nat.le_refl _) (ih _)
    · split
      · rename_i e
        have h1 := ih (by assumption)
        exact RLe.trans (Nat.le_of_eq (farStore_drawn e).symm) (ih _)
      · exact RLe.stop _ _
  | new o k ih => intro w; rw [Sem.run]; exact RLe.trans (w1 := { w with heap := w.heap.push o }) (Nat.le_refl _) (ih _ _)
  | shape r k ih => intro w; rw [Sem.run]; exact ih _ _
  | freeze a n k ih =>
    intro w
    rw [Sem.run]
    refine RLe.trans (w1 := w.freeze a n) ?_ (ih _)
    unfold World.freeze
    split <;> exact Nat.le_refl _
  | frozen a k ih => intro w; rw [Sem.run]; exact ih _ _
  | getObj r k ih =>
    intro w
    rw [Sem.run]
    split
    · exact RLe.stop _ _
    · exact ih _ _
    · exact RLe.stop _ _
  | setObj r o k ih =>
    intro w
    rw [Sem.run]
    split
    · exact RLe.stop _ _
    · exact RLe.trans (w1 := { w with heap := w.heap.setIfInBounds r o }) (Nat.le_refl _) (ih _)
    · exact RLe.stop _ _
  | choose q k ih =>
    intro w
    rw [Sem.run]
    split
    · exact ih _ _
    · exact RLe.trans (w1 := { w with drawn := w.drawn + 1 }) (Nat.le_succ _) (ih _ _)
  | sys c k ih => intro w; rw [Sem.run]; exact RLe.trans (sys_drawn w c) (ih _ _)
  | program k ih => intro w; rw [Sem.run]; exact ih _ _
  | mark m k ih => intro w; rw [Sem.run]; exact ih _
  | halt e => intro w; exact Nat.le_refl _
theorem runT_le {α : Type} {P : Program} : ∀ (s : Sem α) (w : World) (es : Array Event), RLe w (s.runT P w es).1 := by
  intro s
  induction s with
  | pure a => intro w es; exact Nat.le_refl _
  | load m a k ih =>
    intro w es
    rw [Sem.runT]
    split
    · exact ih _ _ _
    · split
      · exact ih _ _ _
      · exact RLe.stop _ _
  | store m a v k ih =>
    intro w es
    rw [Sem.runT.eq_def]
    split <;> first | contradiction | (rename_i heq; cases heq) | skip
    all_goals try exact RLe.stop _ _
    split
    · split
      · exact RLe.stop _ _
      · exact RLe.trans (w1 := World.setCell _ a v) (Nat.le_refl _) (ih _ _)
    · split
      · rename_i e
        exact RLe.trans (Nat.le_of_eq (farStore_drawn e).symm) (ih _ _)
      · exact RLe.stop _ _
  | new o k ih => intro w es; rw [Sem.runT]; exact RLe.trans (w1 := { w with heap := w.heap.push o }) (Nat.le_refl _) (ih _ _ _)
  | shape r k ih => intro w es; rw [Sem.runT]; exact ih _ _ _
  | freeze a n k ih =>
    intro w es
    rw [Sem.runT]
    refine RLe.trans (w1 := w.freeze a n) ?_ (ih _ _)
    unfold World.freeze
    split <;> exact Nat.le_refl _
  | frozen a k ih => intro w es; rw [Sem.runT]; exact ih _ _ _
  | getObj r k ih =>
    intro w es
    rw [Sem.runT]
    split
    · exact RLe.stop _ _
    · exact ih _ _ _
    · exact RLe.stop _ _
  | setObj r o k ih =>
    intro w es
    rw [Sem.runT]
    split
    · exact RLe.stop _ _
    · exact RLe.trans (w1 := { w with heap := w.heap.setIfInBounds r o }) (Nat.le_refl _) (ih _ _)
    · exact RLe.stop _ _
  | choose q k ih =>
    intro w es
    rw [Sem.runT]
    split
    · exact ih _ _ _
    · exact RLe.trans (w1 := { w with drawn := w.drawn + 1 }) (Nat.le_succ _) (ih _ _ _)
  | sys c k ih => intro w es; rw [Sem.runT]; exact RLe.trans (sys_drawn w c) (ih _ _ _)
  | program k ih => intro w es; rw [Sem.runT]; exact ih _ _ _
  | mark m k ih => intro w es; rw [Sem.runT]; exact ih _ _
  | halt e => intro w es; exact Nat.le_refl _
section
variable {α : Type} {P : Program} {s : Sem α} {w w' : World} {a : α} {h : Halt} {es es' : Array Event}
theorem le_ok (e : s.run P w = .ok a w') : w.drawn ≤ w'.drawn := by have := run_le (P := P) s w; rw [e] at this; exact this
theorem le_halt (e : s.run P w = .halt h w') : w.drawn ≤ w'.drawn := by have := run_le (P := P) s w; rw [e] at this; exact this
theorem leT_ok (e : s.runT P w es = (.ok a w', es')) : w.drawn ≤ w'.drawn := by have := runT_le (P := P) s w es; rw [e] at this; exact this
theorem leT_halt (e : s.runT P w es = (.halt h w', es')) : w.drawn ≤ w'.drawn := by have := runT_le (P := P) s w es; rw [e] at this; exact this
theorem leT_ok' (e : (s.runT P w es).1 = .ok a w') : w.drawn ≤ w'.drawn := by have := runT_le (P := P) s w es; rw [e] at this; exact this
theorem leT_halt' (e : (s.runT P w es).1 = .halt h w') : w.drawn ≤ w'.drawn := by have := runT_le (P := P) s w es; rw [e] at this; exact this
end
def gW : GStep → World
  | .go _ w _ | .comm _ _ _ _ w _ | .spawn _ _ w _ | .count _ w _ | .timer _ _ w _ | .alone _ _ w _ | .newcoro _ _ _ w _ | .coroswitch _ _ _ w _ | .collect _ w _ | .watch _ w _ | .ended _ w _ => w
theorem gW_after (es : Array Event) (s : GStep) : gW (GStep.after es s) = gW s := by cases s <;> rfl
theorem sys_le {w w1 : World} {c : Sys} {r : SysRet} (e : w.sys c = (r, w1)) : w.drawn ≤ w1.drawn := by have := sys_drawn w c; rw [e] at this; exact this
theorem endWith_le (w : World) (fd : Nat) (t : ByteArray) (o : Outcome) : w.drawn ≤ (gW (endWith w fd t o)).drawn := by
  unfold endWith
  dsimp only
  split
  · rename_i e
    split <;> exact sys_le e
  · rename_i e; exact sys_le e
  · rename_i e _ _; exact sys_le (by assumption)
theorem endThrow_w (fr : Frame) (m : String) (w : World) : gW (endThrow fr m w) = w := rfl
theorem endPrinting_w (P : Program) (fr : Frame) (v : Value) (w : World) : gW (endPrinting P fr v w) = w := by
  unfold endPrinting
  dsimp only
  (repeat' split) <;> rfl
theorem endFatal_le (P : Program) (fr : Frame) (cs : List Frame) (d : Option Dying) (m : String) (w : World) : w.drawn ≤ (gW (endFatal P fr cs d m w)).drawn := by
  unfold endFatal
  dsimp only
  split
  · rename_i e; exact le_ok e
  · rename_i e; exact le_halt e
  · rename_i e; exact le_halt e
theorem doReturn_w (P : Program) (main : Bool) (fr : Frame) (cs : List Frame) (d : Option Dying) (v : Value) (w : World) : gW (doReturn P main fr cs d v w) = w := by
  unfold doReturn
  (repeat' split) <;> rfl
theorem writeOn_le (P : Program) (fr : Frame) (d : Dying) (f : Fatal) (w : World) : w.drawn ≤ (gW (writeOn P fr d f w)).drawn := by
  unfold writeOn
  dsimp only
  split
  · exact Nat.le_refl _
  · split
    · rename_i e; exact leT_ok e
    · rename_i e; exact leT_halt e
    · rename_i e; exact leT_halt e
    · rename_i e; exact leT_halt e
theorem die_le (P : Program) (fr : Frame) (d : Dying) (w : World) : w.drawn ≤ (gW (die P fr d w)).drawn := by
  unfold die
  split
  · exact writeOn_le _ _ _ _ _
  · split
    · split
      · exact Nat.le_refl _
      · exact endWith_le _ _ _ _
    · dsimp only
      split
      · exact Nat.le_refl _
      · split
        · rename_i e; exact le_ok e
        · rename_i e; exact le_halt e
      · rw [gW_after]
        split
        · rename_i e; exact leT_ok' e
        · rename_i e; exact leT_ok' e
        · rename_i e; exact leT_halt' e
        · rename_i e; rw [endPrinting_w]; exact leT_halt' e
        · exact Nat.le_refl _
      · exact Nat.le_refl _
theorem callDeferred_le (P : Program) (fr : Frame) (cs : List Frame) (dy : Option Dying) (d : Deferred) (w : World) : w.drawn ≤ (gW (callDeferred P fr cs dy d w)).drawn := by
  unfold callDeferred
  dsimp only
  (repeat' (first | rw [gW_after] | split))
  all_goals first
    | exact Nat.le_refl _
    | exact leT_ok' (by assumption)
    | exact leT_halt' (by assumption)
    | (rw [endThrow_w]; exact leT_halt' (by assumption))
    | exact Nat.le_trans (leT_halt' (by assumption)) (endFatal_le _ _ _ _ _ _)
theorem unwind_le (P : Program) (main : Bool) (fr : Frame) (cs : List Frame) (dy : Option Dying) (w : World) : w.drawn ≤ (gW (unwind P main fr cs dy w)).drawn := by
  unfold unwind
  split
  · dsimp only
    rw [gW_after]
    split
    · rename_i e; exact leT_ok' e
    · rename_i e; exact leT_halt' e
  · exact callDeferred_le _ _ _ _ _ _
  · split
    · exact Nat.le_refl _
    · split
      · exact Nat.le_refl _
      · split
        · exact Nat.le_refl _
        · split
          · split
            · exact Nat.le_refl _
            · split
              · rename_i e; exact le_ok e
              · rename_i e; exact le_halt e
              · rename_i e; exact le_halt e
          · split
            · rw [endPrinting_w]; exact Nat.le_refl _
            · exact Nat.le_refl _
    · split
      · rw [doReturn_w]; exact Nat.le_refl _
      · dsimp only
        rw [gW_after]
        split
        · rename_i e; rw [doReturn_w]; exact leT_ok' e
        · rename_i e; exact leT_halt' e
        · rename_i e; exact leT_halt' e
theorem early_le (P : Program) (fr : Frame) (cs : List Frame) (dy : Option Dying) (g : Nat) (w : World) : w.drawn ≤ (gW (early P fr cs dy g w)).drawn := by
  unfold early
  dsimp only
  (repeat' split) <;> (try dsimp only [gW]) <;> first | exact Nat.le_refl _ | exact le_ok (by assumption) | exact le_halt (by assumption)
theorem apply_le (P : Program) (listen : Bool) (fr : Frame) (cs : List Frame) (dy : Option Dying) (s : Sem Next) (w : World) : w.drawn ≤ (gW (stepG.apply P listen fr cs dy s w)).drawn := by
  unfold stepG.apply
  dsimp only
  have hr : RLe w (if listen = true then s.runT P w #[] else (s.run P w, #[])).1 := by
    split
    · exact runT_le _ _ _
    · exact run_le _ _
  generalize (if listen = true then s.runT P w #[] else (s.run P w, #[])) = rr at *
  obtain ⟨r, es⟩ := rr
  dsimp only at hr ⊢
  rw [gW_after]
  (repeat' split) <;> first
    | exact hr
    | (rw [endThrow_w]; exact hr)
    | exact Nat.le_trans (show w.drawn ≤ World.drawn _ from hr) (endFatal_le _ _ _ _ _ _)
    | exact Nat.le_trans (show w.drawn ≤ World.drawn _ from hr) (early_le _ _ _ _ _ _)
theorem oper_le (P : Program) (listen : Bool) (fr : Frame) (cs : List Frame) (dy : Option Dying) (w : World) : w.drawn ≤ (gW (stepG.oper P listen fr cs dy w)).drawn := by
  unfold stepG.oper
  (repeat' split) <;> first | exact Nat.le_refl _ | exact apply_le _ _ _ _ _ _ _
theorem elim_le {α : Type} {w : World} (o : Option α) (a : GStep) (b : α → GStep) (h1 : w.drawn ≤ (gW a).drawn) (h2 : ∀ x, w.drawn ≤ (gW (b x)).drawn) : w.drawn ≤ (gW (o.elim a b)).drawn := by
  cases o with
  | none => exact h1
  | some x => exact h2 x
set_option maxHeartbeats 4000000 in
theorem exec_le (P : Program) (main listen : Bool) (fr : Frame) (cs : List Frame) (dy : Option Dying) (w : World) : w.drawn ≤ (gW (stepG.exec P main listen fr cs dy w)).drawn := by
  unfold stepG.exec
  dsimp only
  (repeat' (first | rw [gW_after] | (refine elim_le _ _ _ ?_ (fun _ => ?_)) | split)) <;> first
    | exact Nat.le_refl _
    | exact leT_ok' (by assumption)
    | exact leT_halt' (by assumption)
    | exact le_ok (by assumption)
    | exact le_halt (by assumption)
    | exact apply_le _ _ _ _ _ _ _
    | exact oper_le _ _ _ _ _ _
    | (rw [doReturn_w]; exact leT_ok' (by assumption))
    | (rename_i e; exact Nat.le_trans (leT_ok' e) (apply_le _ _ _ _ _ _ _))
theorem stepG_le (P : Program) (main : Bool) (g : Goroutine) (w : World) (listen : Bool) : w.drawn ≤ (gW (stepG P main g w listen)).drawn := by
  unfold stepG
  dsimp only
  split
  · exact die_le _ _ _ _
  · exact exec_le _ _ _ _ _ _ _
  · exact unwind_le _ _ _ _ _ _
def sW : Stepped → World
  | .next m => m.world
  | .ended _ w => w
theorem look_le (P : Program) (gs : Array Goroutine) (rest : Rest) (w : World) : w.drawn ≤ (sW (look P gs rest w)).drawn := by
  unfold look
  split
  · dsimp only
    split
    · exact Nat.le_refl _
    · split
      · exact Nat.le_refl _
      · split
        · rename_i e
          have h := le_ok e
          exact h
        · rename_i e; exact le_halt e
        · rename_i e; exact le_halt e
  · exact Nat.le_refl _
theorem waitingAt_le {rest : Rest} {cases_ : Array CommCase} {w w' : World} (h : waitingAt rest cases_ w = some w') : w'.drawn = w.drawn := by
  unfold waitingAt at h
  split at h
  · split at h
    · cases h; rfl
    · cases h
  · cases h; rfl
theorem communicate_le (P : Program) (rest : Rest) (gs : Array Goroutine) (i : Nat) (g : Goroutine) (cs : Array CommCase) (bl : Bool) (sh : CommShape) (w : World) : w.drawn ≤ (sW (communicate P rest gs i g cs bl sh w).1).drawn := by
  unfold communicate
  dsimp only
  split
  · exact Nat.le_refl _
  · split
    · split
      · split
        · rename_i e; exact Nat.le_of_eq (waitingAt_le e).symm
        · exact Nat.le_refl _
      · exact Nat.le_refl _
    · split
      · rename_i e; exact le_halt e
      · rename_i e
        have h1 := le_ok e
        (repeat' split) <;> (try dsimp only [sW]) <;> first | exact h1 | exact Nat.le_trans h1 (le_ok (by assumption)) | exact Nat.le_trans h1 (le_halt (by assumption))
theorem serve_le (P : Program) (m : Machine) (k : Nat) : m.world.drawn ≤ (sW (serve P m k)).drawn := by
  unfold serve
  dsimp only
  (repeat' split) <;> exact Nat.le_refl _
theorem retime_le (m : Machine) (k : Nat) (t : Timer) (a b : Nat) : m.world.drawn ≤ (retime m k t a b).2.world.drawn := by
  unfold retime
  dsimp only
  split
  · unfold drain
    split <;> exact Nat.le_refl _
  · exact Nat.le_refl _
theorem named_le {m m' : Machine} {var : Addr} {f : Nat → Timer → Value × Machine} {v : Value} (hf : ∀ k t, m.world.drawn ≤ (f k t).2.world.drawn) (h : timerOp.named m var f = .ok (v, m')) : m.world.drawn ≤ m'.world.drawn := by
  unfold timerOp.named at h
  split at h
  · rename_i c _
    have h := Except.ok.inj h
    have h1 := hf c (m.rest.timers.getD c default)
    rw [h] at h1
    exact h1
  · cases h
theorem opened_le {m m' : Machine} {var : Addr} (h : timerOp.opened m var = some m') : m'.world.drawn = m.world.drawn := by
  unfold timerOp.opened at h
  split at h
  · split at h
    · cases h; rfl
    · cases h
  · cases h; rfl
theorem timerOp_le {m m' : Machine} {op : TimerOp} {v : Value} (h : timerOp m op = .ok (v, m')) : m.world.drawn ≤ m'.world.drawn := by
  unfold timerOp at h
  split at h
  · split at h
    · cases h; exact Nat.le_refl _
    · split at h
      · split at h
        · cases h
        · cases h; exact Nat.le_refl _
      · cases h
  · exact named_le (fun k t => retime_le _ _ _ _ _) h
  · split at h
    · rename_i e
      exact named_le (fun k t => Nat.le_trans (Nat.le_of_eq (opened_le e).symm) (retime_le _ _ _ _ _)) h
    · cases h
  · cases h
    exact Nat.le_refl _
theorem runT_step_le (P : Program) (m : Machine) (i : Nat) (listen : Bool) : m.world.drawn ≤ (sW (runT P m i listen).1).drawn := by
  unfold runT
  dsimp only
  have h1 := stepG_le P (i == 0) (m.gs.swapAt! i { (default : Goroutine) with status := .finished }).1 m.world listen
  generalize stepG P (i == 0) (m.gs.swapAt! i { (default : Goroutine) with status := .finished }).1 m.world listen = s at *
  cases s with
  | go g w es => exact h1
  | comm g c b sh w es => exact Nat.le_trans h1 (communicate_le _ _ _ _ _ _ _ _ _)
  | spawn g c w es => exact h1
  | count g w es => dsimp only; split <;> exact h1
  | timer g op w es =>
    dsimp only
    split
    · rename_i e
      exact Nat.le_trans h1 (timerOp_le e)
    · exact h1
    · exact h1
    · exact h1
  | alone g b w es => exact h1
  | newcoro g c d w es => exact h1
  | coroswitch g c b w es =>
    dsimp only
    (repeat' split) <;> first
      | exact h1
      | (rename_i e; have e2 := congrArg gW e; rw [endThrow_w] at e2; exact Nat.le_trans h1 (Nat.le_of_eq (congrArg World.drawn e2)))
  | collect g w es => exact Nat.le_trans h1 (look_le _ _ _ _)
  | watch g w es => exact h1
  | ended o w es => exact h1
def mLe (w : World) : Move → Prop
  | .goroutine m _ => w.drawn ≤ m.world.drawn
  | .machine (.next m) _ => w.drawn ≤ m.world.drawn
  | .machine (.ended _ _) _ => True
theorem mLe_serve {P : Program} {w : World} {m : Machine} {k : Nat} {ops : Array MemOp} (h : w.drawn ≤ m.world.drawn) : mLe w (.machine (serve P m k) ops) := by
  have h1 := serve_le P m k
  cases hs : serve P m k with
  | next m' => rw [hs] at h1; exact Nat.le_trans h h1
  | ended o w' => trivial
theorem mLe_end {w : World} {s : GStep} (hs : ∀ o w' es, s = .ended o w' es → True) : mLe w (match s with | .ended o w _ => .machine (.ended o w) | _ => .machine (.ended (.stuck "" "") default)) := by
  split <;> trivial
theorem pick_le {P : Program} {w : World} {m : Machine} (h : w.drawn ≤ m.world.drawn) (rs : List Nat) :
    mLe w (match (choose (.sched rs.length)).run P m.world with
      | .halt _ w => .machine (.ended (.stuck "sched" "") w)
      | .ok k world =>
        if rs.length ≤ 1 then .goroutine { m with world } (rs.getD k 0) else
        match (choose (.extern "sched.slice" 65536)).run P world with
        | .halt _ w => .machine (.ended (.stuck "sched.slice" "") w)
        | .ok n world => .goroutine { m with world, rest := { m.rest with slice := if n = 0 then none else some (rs.getD k 0, n) } } (rs.getD k 0)) := by
  split
  · trivial
  · rename_i k world e
    have h1 := le_ok e
    split
    · exact Nat.le_trans h h1
    · split
      · trivial
      · rename_i n world2 e2
        have h2 := le_ok e2
        exact Nat.le_trans h (Nat.le_trans h1 h2)
theorem askOn_le (P : Program) (m : Machine) : mLe m.world (askOn P m) := by
  unfold askOn
  dsimp only
  split
  · trivial
  · rename_i k world e
    have h1 := le_ok e
    split
    · exact mLe_serve h1
    · split
      · split
        · exact h1
        · split
          · exact h1
          · split <;> trivial
      · split
        · exact pick_le (m := { m with world := world }) h1 _
        · split
          · trivial
          · rename_i e2
            exact pick_le (m := { m with world := _ }) (Nat.le_trans h1 (le_ok e2)) _
          · rename_i e2
            have h2 := Nat.le_trans h1 (le_ok e2)
            exact h2
          · rename_i e2
            have h2 := Nat.le_trans h1 (le_ok e2)
            exact pick_le (m := Machine.advanceTo { m with world := _ } _) h2 _
theorem mLe_up {w w1 : World} (h : w.drawn ≤ w1.drawn) : ∀ {m : Move}, mLe w1 m → mLe w m
  | .goroutine _ _, k => Nat.le_trans h k
  | .machine (.next _) _, k => Nat.le_trans h k
  | .machine (.ended _ _) _, _ => trivial
theorem ask_le (P : Program) (m : Machine) : mLe m.world (ask P m) := by
  unfold ask
  split
  · split
    · trivial
    · rename_i e
      have h1 := le_ok e
      have h2 := look_le P m.gs m.rest (by assumption)
      split
      · rename_i e3
        rw [e3] at h2
        exact mLe_up (Nat.le_trans h1 h2) (askOn_le _ _)
      · rename_i hne
        cases hl : look P m.gs m.rest (by assumption) with
        | next m' => exact absurd hl (hne _)
        | ended o w' => trivial
    · rename_i e
      exact mLe_up (le_ok e) (askOn_le P { m with world := _ })
  · exact askOn_le _ _
theorem move_le (P : Program) (m : Machine) : mLe m.world (move P m) := by
  unfold move
  split
  · split
    · exact Nat.le_refl _
    · trivial
  · split
    · split
      · exact Nat.le_refl _
      · exact ask_le P { m with rest := { m.rest with slice := none } }
    · exact ask_le _ _
theorem step_le {P : Program} {m m' : Machine} (h : step P m = .next m') : m.world.drawn ≤ m'.world.drawn := by
  unfold step stepT at h
  have h1 := move_le P m
  split at h
  · rename_i m1 i e
    rw [e] at h1
    have h2 := runT_step_le P m1 i true
    rw [h] at h2
    exact Nat.le_trans h1 h2
  · rename_i s ops e
    rw [e] at h1
    have h : s = .next m' := h
    rw [h] at h1
    exact h1
theorem runN_le {P : Program} : ∀ (n : Nat) {m m' : Machine}, runN P n m = .next m' → m.world.drawn ≤ m'.world.drawn
  | 0, m, m', h => by cases h; exact Nat.le_refl _
  | n + 1, m, m', h => by
    rw [runN] at h
    split at h
    · rename_i e
      exact Nat.le_trans (step_le e) (runN_le n h)
    · rename_i e
      exact absurd h (e _)
/-- No call takes a draw back. -/
theorem calls_drawn {P : Program} {f : FuncId} {args : Array Value} {w : World} {R : Ending → World → Prop} (h : Calls P f args w R) : Calls P f args w fun e w' => R e w' ∧ ((∃ v, e = .returned v) → w.drawn ≤ w'.drawn) := by
  intro cs
  obtain ⟨e, w', fr, hR, hc, hf, hl⟩ := h cs
  refine ⟨e, w', fr, ⟨hR, ?_⟩, hc, hf, hl⟩
  rintro ⟨v, rfl⟩
  obtain ⟨n, hn⟩ := hc
  exact runN_le n hn
/-- What is known below is known with the draws. -/
theorem calls_bel {P : Program} {f : FuncId} {args : Array Value} {w : World} {B : Nat} {v : Value} (h : Calls P f args w fun e w' => e = .returned v ∧ RowKit.Below B w w') : Calls P f args w fun e w' => e = .returned v ∧ Bel B w w' :=
  (calls_drawn h).mono fun _ _ h => ⟨h.1.1, h.1.2, h.2 ⟨_, h.1.1⟩⟩
end Go.Proofs.Ytlipjaopbhdbeaa
