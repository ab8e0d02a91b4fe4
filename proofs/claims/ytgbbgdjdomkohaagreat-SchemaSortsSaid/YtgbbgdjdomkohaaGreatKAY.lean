/- No step of the machine takes a draw back, so no call does. -/
import Derived.Test.YtgbbgdjdomkohaaGreatKAO
import Derived.Calls
import Derived.Test.YtgbbgdjdomkohaaGreatKAW
import Derived.Test.YtgbbgdjdomkohaaGreatKAX
import Derived.Test.YtgbbgdjdomkohaaGreatKAJ
import Derived.Shelf.SlGeneric
import Derived.Ground.SlsfProg
import Derived.Shelf.SlLaysF0
import Derived.Shelf.SlLaysF
import Derived.Test.YtgbbgdjdomkohaaGreatProg
namespace Go.Proofs.YtgbbgdjdomkohaaGreat
open Go

def RLe {α : Type} (w : World) : Result α → Prop
  | .ok _ w' => w.drawn ≤ w'.drawn
  | .halt _ w' => w.drawn ≤ w'.drawn
theorem RLe.trans {α : Type} {w w1 : World} (h : w.drawn ≤ w1.drawn) : ∀ {r : Result α}, RLe w1 r → RLe w r
  | .ok _ _, k => Nat.le_trans h k
  | .halt _ _, k => Nat.le_trans h k
theorem RLe.stop {α : Type} (w : World) (h : Halt) : RLe w (Result.halt h w : Result α) := Nat.le_refl _
theorem run_le {α : Type} {P : Program} : ∀ (s : Sem α) (w : World), RLe w (s.run P w) := by
  intro s
  induction s with
  | pure a => intro w; exact Nat.le_refl _
  | load m a k ih =>
    intro w
    rw [Sem.run]
    split
    · exact ih _ _
    · split
      · exact ih _ _
      · exact RLe.stop _ _
  | store m a v k ih =>
    intro w
    rw [Sem.run.eq_def]
    split <;> first | contradiction | (rename_i heq; cases heq) | skip
    all_goals try exact RLe.stop _ _
    split
    · split
      · exact RLe.stop _ _
      · exact RLe.trans (w1 := World.setCell _ a v) (Nat.le_refl _) (ih _)
    · split
      · rename_i e
        have h1 := ih (by assumption)
        exact RLe.trans (Nat.le_of_eq (farStore_drawn e).symm) (ih _)
      · exact RLe.stop _ _
  | new o k ih => intro w; rw [Sem.run]; exact RLe.trans (w1 := { w with heap := w.heap.push o }) (Nat.le_refl _) (ih _ _)
  | shape r k ih => intro w; rw [Sem.run]; exact ih _ _
  | freeze a n k ih =>
    intro w
    rw [Sem.run]
    refine RLe.trans (w1 := w.freeze a n) ?_ (ih _)
    unfold World.freeze
    split <;> exact Nat.le_refl _
  | frozen a k ih => intro w; rw [Sem.run]; exact ih _ _
  | getObj r k ih =>
    intro w
    rw [Sem.run]
    split
    · exact RLe.stop _ _
    · exact ih _ _
    · exact RLe.stop _ _
  | setObj r o k ih =>
    intro w
    rw [Sem.run]
    split
    · exact RLe.stop _ _
    · exact RLe.trans (w1 := { w with heap := w.heap.setIfInBounds r o }) (Nat.le_refl _) (ih _)
    · exact RLe.stop _ _
  | choose q k ih =>
    intro w
    rw [Sem.run]
    split
    · exact ih _ _
    · exact RLe.trans (w1 := { w with drawn := w.drawn + 1 }) (Nat.le_succ _) (ih _ _)
  | sys c k ih => intro w; rw [Sem.run]; exact RLe.trans (sys_drawn w c) (ih _ _)
  | program k ih => intro w; rw [Sem.run]; exact ih _ _
  | mark m k ih => intro w; rw [Sem.run]; exact ih _
  | halt e => intro w; exact Nat.le_refl _
theorem runT_le {α : Type} {P : Program} : ∀ (s : Sem α) (w : World) (es : Array Event), RLe w (s.runT P w es).1 := by
  intro s
  induction s with
  | pure a => intro w es; exact Nat.le_refl _
  | load m a k ih =>
    intro w es
    rw [Sem.runT]
    split
    · exact ih _ _ _
    · split
      · exact ih _ _ _
      · exact RLe.stop _ _
  | store m a v k ih =>
    intro w es
    rw [Sem.runT.eq_def]
    split <;> first | contradiction | (rename_i heq; cases heq) | skip
    all_goals try exact RLe.stop _ _
    split
    · split
      · exact RLe.stop _ _
      · exact RLe.trans (w1 := World.setCell _ a v) (Nat.le_refl _) (ih _ _)
    · split
      · rename_i e
        exact RLe.trans (Nat.le_of_eq (farStore_drawn e).symm) (ih _ _)
      · exact RLe.stop _ _
  | new o k ih => intro w es; rw [Sem.runT]; exact RLe.trans (w1 := { w with heap := w.heap.push o }) (Nat.le_refl _) (ih _ _ _)
  | shape r k ih => intro w es; rw [Sem.runT]; exact ih _ _ _
  | freeze a n k ih =>
    intro w es
    rw [Sem.runT]
    refine RLe.trans (w1 := w.freeze a n) ?_ (ih _ _)
    unfold World.freeze
    split <;> exact Nat.le_refl _
  | frozen a k ih => intro w es; rw [Sem.runT]; exact ih _ _ _
  | getObj r k ih =>
    intro w es
    rw [Sem.runT]
    split
    · exact RLe.stop _ _
    · exact ih _ _ _
    · exact RLe.stop _ _
  | setObj r o k ih =>
    intro w es
    rw [Sem.runT]
    split
    · exact RLe.stop _ _
    · exact RLe.trans (w1 := { w with heap := w.heap.setIfInBounds r o }) (Nat.le_refl _) (ih _ _)
    · exact RLe.stop _ _
  | choose q k ih =>
    intro w es
    rw [Sem.runT]
    split
    · exact ih _ _ _
    · exact RLe.trans (w1 := { w with drawn := w.drawn + 1 }) (Nat.le_succ _) (ih _ _ _)
  | sys c k ih => intro w es; rw [Sem.runT]; exact RLe.trans (sys_drawn w c) (ih _ _ _)
  | program k ih => intro w es; rw [Sem.runT]; exact ih _ _ _
  | mark m k ih => intro w es; rw [Sem.runT]; exact ih _ _
  | halt e => intro w es; exact Nat.le_refl _
section
variable {α : Type} {P : Program} {s : Sem α} {w w' : World} {a : α} {h : Halt} {es es' : Array Event}
theorem le_ok (e : s.run P w = .ok a w') : w.drawn ≤ w'.drawn := by have := run_le (P := P) s w; rw [e] at this; exact this
theorem le_halt (e : s.run P w = .halt h w') : w.drawn ≤ w'.drawn := by have := run_le (P := P) s w; rw [e] at this; exact this
theorem leT_ok (e : s.runT P w es = (.ok a w', es')) : w.drawn ≤ w'.drawn := by have := runT_le (P := P) s w es; rw [e] at this; exact this
theorem leT_halt (e : s.runT P w es = (.halt h w', es')) : w.drawn ≤ w'.drawn := by have := runT_le (P := P) s w es; rw [e] at this; exact this
theorem leT_ok' (e : (s.runT P w es).1 = .ok a w') : w.drawn ≤ w'.drawn := by have := runT_le (P := P) s w es; rw [e] at this; exact this
theorem leT_halt' (e : (s.runT P w es).1 = .halt h w') : w.drawn ≤ w'.drawn := by have := runT_le (P := P) s w es; rw [e] at this; exact this
end
def gW : GStep → World
  | .go _ w _ | .comm _ _ _ _ w _ | .spawn _ _ w _ | .count _ w _ | .timer _ _ w _ | .alone _ _ w _ | .newcoro _ _ _ w _ | .coroswitch _ _ _ w _ | .collect _ w _ | .watch _ w _ | .ended _ w _ => w
theorem gW_after (es : Array Event) (s : GStep) : gW (GStep.after es s) = gW s := by cases s <;> rfl
theorem sys_le {w w1 : World} {c : Sys} {r : SysRet} (e : w.sys c = (r, w1)) : w.drawn ≤ w1.drawn := by have := sys_drawn w c; rw [e] at this; exact this
theorem endWith_le (w : World) (fd : Nat) (t : ByteArray) (o : Outcome) : w.drawn ≤ (gW (endWith w fd t o)).drawn := by
  unfold endWith
  dsimp only
  split
  · rename_i e
    split <;> exact sys_le e
  · rename_i e; exact sys_le e
  · rename_i e _ _; exact sys_le (by assumption)
theorem endThrow_w (fr : Frame) (m : String) (w : World) : gW (endThrow fr m w) = w := rfl
theorem endPrinting_w (P : Program) (fr : Frame) (v : Value) (w : World) : gW (endPrinting P fr v w) = w := by
  unfold endPrinting
  dsimp only
  (repeat' split) <;> rfl
theorem endFatal_le (P : Program) (fr : Frame) (cs : List Frame) (d : Option Dying) (m : String) (w : World) : w.drawn ≤ (gW (endFatal P fr cs d m w)).drawn := by
  unfold endFatal
  dsimp only
  split
  · rename_i e; exact le_ok e
  · rename_i e; exact le_halt e
  · rename_i e; exact le_halt e
theorem doReturn_w (P : Program) (main : Bool) (fr : Frame) (cs : List Frame) (d : Option Dying) (v : Value) (w : World) : gW (doReturn P main fr cs d v w) = w := by
  unfold doReturn
  (repeat' split) <;> rfl
theorem writeOn_le (P : Program) (fr : Frame) (d : Dying) (f : Fatal) (w : World) : w.drawn ≤ (gW (writeOn P fr d f w)).drawn := by
  unfold writeOn
  dsimp only
  split
  · exact Nat.le_refl _
  · split
    · rename_i e; exact leT_ok e
    · rename_i e; exact leT_halt e
    · rename_i e; exact leT_halt e
    · rename_i e; exact leT_halt e
theorem die_le (P : Program) (fr : Frame) (d : Dying) (w : World) : w.drawn ≤ (gW (die P fr d w)).drawn := by
  unfold die
  split
  · exact writeOn_le _ _ _ _ _
  · split
    · split
      · exact Nat.le_refl _
      · exact endWith_le _ _ _ _
    · dsimp only
      split
      · exact Nat.le_refl _
      · split
        · rename_i e; exact le_ok e
        · rename_i e; exact le_halt e
      · rw [gW_after]
        split
        · rename_i e; exact leT_ok' e
        · rename_i e; exact leT_ok' e
        · rename_i e; exact leT_halt' e
        · rename_i e; rw [endPrinting_w]; exact leT_halt' e
        · exact Nat.le_refl _
      · exact Nat.le_refl _
theorem callDeferred_le (P : Program) (fr : Frame) (cs : List Frame) (dy : Option Dying) (d : Deferred) (w : World) : w.drawn ≤ (gW (callDeferred P fr cs dy d w)).drawn := by
  unfold callDeferred
  dsimp only
  (repeat' (first | rw [gW_after] | split))
  all_goals first
    | exact Nat.le_refl _
    | exact leT_ok' (by assumption)
    | exact leT_halt' (by assumption)
    | (rw [endThrow_w]; exact leT_halt' (by assumption))
    | exact Nat.le_trans (leT_halt' (by assumption)) (endFatal_le _ _ _ _ _ _)
theorem unwind_le (P : Program) (main : Bool) (fr : Frame) (cs : List Frame) (dy : Option Dying) (w : World) : w.drawn ≤ (gW (unwind P main fr cs dy w)).drawn := by
  unfold unwind
  split
  · dsimp only
    rw [gW_after]
    split
    · rename_i e; exact leT_ok' e
    · rename_i e; exact leT_halt' e
  · exact callDeferred_le _ _ _ _ _ _
  · split
    · exact Nat.le_refl _
    · split
      · exact Nat.le_refl _
      · split
        · exact Nat.le_refl _
        · split
          · split
            · exact Nat.le_refl _
            · split
              · rename_i e; exact le_ok e
              · rename_i e; exact le_halt e
              · rename_i e; exact le_halt e
          · split
            · rw [endPrinting_w]; exact Nat.le_refl _
            · exact Nat.le_refl _
    · split
      · rw [doReturn_w]; exact Nat.le_refl _
      · dsimp only
        rw [gW_after]
        split
        · rename_i e; rw [doReturn_w]; exact leT_ok' e
        · rename_i e; exact leT_halt' e
        · rename_i e; exact leT_halt' e
theorem early_le (P : Program) (fr : Frame) (cs : List Frame) (dy : Option Dying) (g : Nat) (w : World) : w.drawn ≤ (gW (early P fr cs dy g w)).drawn := by
  unfold early
  dsimp only
  (repeat' split) <;> (try dsimp only [gW]) <;> first | exact Nat.le_refl _ | exact le_ok (by assumption) | exact le_halt (by assumption)
theorem apply_le (P : Program) (listen : Bool) (fr : Frame) (cs : List Frame) (dy : Option Dying) (s : Sem Next) (w : World) : w.drawn ≤ (gW (stepG.apply P listen fr cs dy s w)).drawn := by
  unfold stepG.apply
  dsimp only
  have hr : RLe w (if listen = true then s.runT P w #[] else (s.run P w, #[])).1 := by
    split
    · exact runT_le _ _ _
    · exact run_le _ _
  generalize (if listen = true then s.runT P w #[] else (s.run P w, #[])) = rr at *
  obtain ⟨r, es⟩ := rr
  dsimp only at hr ⊢
  rw [gW_after]
  (repeat' split) <;> first
    | exact hr
    | (rw [endThrow_w]; exact hr)
    | exact Nat.le_trans (show w.drawn ≤ World.drawn _ from hr) (endFatal_le _ _ _ _ _ _)
    | exact Nat.le_trans (show w.drawn ≤ World.drawn _ from hr) (early_le _ _ _ _ _ _)
theorem oper_le (P : Program) (listen : Bool) (fr : Frame) (cs : List Frame) (dy : Option Dying) (w : World) : w.drawn ≤ (gW (stepG.oper P listen fr cs dy w)).drawn := by
  unfold stepG.oper
  (repeat' split) <;> first | exact Nat.le_refl _ | exact apply_le _ _ _ _ _ _ _
theorem elim_le {α : Type} {w : World} (o : Option α) (a : GStep) (b : α → GStep) (h1 : w.drawn ≤ (gW a).drawn) (h2 : ∀ x, w.drawn ≤ (gW (b x)).drawn) : w.drawn ≤ (gW (o.elim a b)).drawn := by
  cases o with
  | none => exact h1
  | some x => exact h2 x
set_option maxHeartbeats 4000000 in
theorem exec_le (P : Program) (main listen : Bool) (fr : Frame) (cs : List Frame) (dy : Option Dying) (w : World) : w.drawn ≤ (gW (stepG.exec P main listen fr cs dy w)).drawn := by
  unfold stepG.exec
  dsimp only
  (repeat' (first | rw [gW_after] | (refine elim_le _ _ _ ?_ (fun _ => ?_)) | split)) <;> first
    | exact Nat.le_refl _
    | exact leT_ok' (by assumption)
    | exact leT_halt' (by assumption)
    | exact le_ok (by assumption)
    | exact le_halt (by assumption)
    | exact apply_le _ _ _ _ _ _ _
    | exact oper_le _ _ _ _ _ _
    | (rw [doReturn_w]; exact leT_ok' (by assumption))
    | (rename_i e; exact Nat.le_trans (leT_ok' e) (apply_le _ _ _ _ _ _ _))
theorem stepG_le (P : Program) (main : Bool) (g : Goroutine) (w : World) (listen : Bool) : w.drawn ≤ (gW (stepG P main g w listen)).drawn := by
  unfold stepG
  dsimp only
  split
  · exact die_le _ _ _ _
  · exact exec_le _ _ _ _ _ _ _
  · exact unwind_le _ _ _ _ _ _
def sW : Stepped → World
  | .next m => m.world
  | .ended _ w => w
theorem look_le (P : Program) (gs : Array Goroutine) (rest : Rest) (w : World) : w.drawn ≤ (sW (look P gs rest w)).drawn := by
  unfold look
  split
  · dsimp only
    split
    · exact Nat.le_refl _
    · split
      · exact Nat.le_refl _
      · split
        · rename_i e
          have h := le_ok e
          exact h
        · rename_i e; exact le_halt e
        · rename_i e; exact le_halt e
  · exact Nat.le_refl _
theorem waitingAt_le {rest : Rest} {cases_ : Array CommCase} {w w' : World} (h : waitingAt rest cases_ w = some w') : w'.drawn = w.drawn := by
  unfold waitingAt at h
  split at h
  · split at h
    · cases h; rfl
    · cases h
  · cases h; rfl
theorem communicate_le (P : Program) (rest : Rest) (gs : Array Goroutine) (i : Nat) (g : Goroutine) (cs : Array CommCase) (bl : Bool) (sh : CommShape) (w : World) : w.drawn ≤ (sW (communicate P rest gs i g cs bl sh w).1).drawn := by
  unfold communicate
  dsimp only
  split
  · exact Nat.le_refl _
  · split
    · split
      · split
        · rename_i e; exact Nat.le_of_eq (waitingAt_le e).symm
        · exact Nat.le_refl _
      · exact Nat.le_refl _
    · split
      · rename_i e; exact le_halt e
      · rename_i e
        have h1 := le_ok e
        (repeat' split) <;> (try dsimp only [sW]) <;> first | exact h1 | exact Nat.le_trans h1 (le_ok (by assumption)) | exact Nat.le_trans h1 (le_halt (by assumption))
theorem serve_le (P : Program) (m : Machine) (k : Nat) : m.world.drawn ≤ (sW (serve P m k)).drawn := by
  unfold serve
  dsimp only
  (repeat' split) <;> exact Nat.le_refl _
theorem retime_le (m : Machine) (k : Nat) (t : Timer) (a b : Nat) : m.world.drawn ≤ (retime m k t a b).2.world.drawn := by
  unfold retime
  dsimp only
  split
  · unfold drain
    split <;> exact Nat.le_refl _
  · exact Nat.le_refl _
theorem named_le {m m' : Machine} {var : Addr} {f : Nat → Timer → Value × Machine} {v : Value} (hf : ∀ k t, m.world.drawn ≤ (f k t).2.world.drawn) (h : timerOp.named m var f = .ok (v, m')) : m.world.drawn ≤ m'.world.drawn := by
  unfold timerOp.named at h
  split at h
  · rename_i c _
    have h := Except.ok.inj h
    have h1 := hf c (m.rest.timers.getD c default)
    rw [h] at h1
    exact h1
  · cases h
theorem opened_le {m m' : Machine} {var : Addr} (h : timerOp.opened m var = some m') : m'.world.drawn = m.world.drawn := by
  unfold timerOp.opened at h
  split at h
  · split at h
    · cases h; rfl
    · cases h
  · cases h; rfl
theorem timerOp_le {m m' : Machine} {op : TimerOp} {v : Value} (h : timerOp m op = .ok (v, m')) : m.world.drawn ≤ m'.world.drawn := by
  unfold timerOp at h
  split at h
  · split at h
    · cases h; exact Nat.le_refl _
    · split at h
      · split at h
        · cases h
        · cases h; exact Nat.le_refl _
      · cases h
  · exact named_le (fun k t => retime_le _ _ _ _ _) h
  · split at h
    · rename_i e
      exact named_le (fun k t => Nat.le_trans (Nat.le_of_eq (opened_le e).symm) (retime_le _ _ _ _ _)) h
    · cases h
  · cases h
    exact Nat.le_refl _
theorem runT_step_le (P : Program) (m : Machine) (i : Nat) (listen : Bool) : m.world.drawn ≤ (sW (runT P m i listen).1).drawn := by
  unfold runT
  dsimp only
  have h1 := stepG_le P (i == 0) (m.gs.swapAt! i { (default : Goroutine) with status := .finished }).1 m.world listen
  generalize stepG P (i == 0) (m.gs.swapAt! i { (default : Goroutine) with status := .finished }).1 m.world listen = s at *
  cases s with
  | go g w es => exact h1
  | comm g c b sh w es => exact Nat.le_trans h1 (communicate_le _ _ _ _ _ _ _ _ _)
  | spawn g c w es => exact h1
  | count g w es => dsimp only; split <;> exact h1
  | timer g op w es =>
    dsimp only
    split
    · rename_i e
      exact Nat.le_trans h1 (timerOp_le e)
    · exact h1
    · exact h1
    · exact h1
  | alone g b w es => exact h1
  | newcoro g c d w es => exact h1
  | coroswitch g c b w es =>
    dsimp only
    (repeat' split) <;> first
      | exact h1
      | (rename_i e; have e2 := congrArg gW e; rw [endThrow_w] at e2; exact Nat.le_trans h1 (Nat.le_of_eq (congrArg World.drawn e2)))
  | collect g w es => exact Nat.le_trans h1 (look_le _ _ _ _)
  | watch g w es => exact h1
  | ended o w es => exact h1
def mLe (w : World) : Move → Prop
  | .goroutine m _ => w.drawn ≤ m.world.drawn
  | .machine (.next m) _ => w.drawn ≤ m.world.drawn
  | .machine (.ended _ _) _ => True
theorem mLe_serve {P : Program} {w : World} {m : Machine} {k : Nat} {ops : Array MemOp} (h : w.drawn ≤ m.world.drawn) : mLe w (.machine (serve P m k) ops) := by
  have h1 := serve_le P m k
  cases hs : serve P m k with
  | next m' => rw [hs] at h1; exact Nat.le_trans h h1
  | ended o w' => trivial
theorem mLe_end {w : World} {s : GStep} (hs : ∀ o w' es, s = .ended o w' es → True) : mLe w (match s with | .ended o w _ => .machine (.ended o w) | _ => .machine (.ended (.stuck "" "") default)) := by
  split <;> trivial
theorem pick_le {P : Program} {w : World} {m : Machine} (h : w.drawn ≤ m.world.drawn) (rs : List Nat) :
    mLe w (match (choose (.sched rs.length)).run P m.world with
      | .halt _ w => .machine (.ended (.stuck "sched" "") w)
      | .ok k world =>
        if rs.length ≤ 1 then .goroutine { m with world } (rs.getD k 0) else
        match (choose (.extern "sched.slice" 65536)).run P world with
        | .halt _ w => .machine (.ended (.stuck "sched.slice" "") w)
        | .ok n world => .goroutine { m with world, rest := { m.rest with slice := if n = 0 then none else some (rs.getD k 0, n) } } (rs.getD k 0)) := by
  split
  · trivial
  · rename_i k world e
    have h1 := le_ok e
    split
    · exact Nat.le_trans h h1
    · split
      · trivial
      · rename_i n world2 e2
        have h2 := le_ok e2
        exact Nat.le_trans h (Nat.le_trans h1 h2)
theorem askOn_le (P : Program) (m : Machine) : mLe m.world (askOn P m) := by
  unfold askOn
  dsimp only
  split
  · trivial
  · rename_i k world e
    have h1 := le_ok e
    split
    · exact mLe_serve h1
    · split
      · split
        · exact h1
        · split
          · exact h1
          · split <;> trivial
      · split
        · exact pick_le (m := { m with world := world }) h1 _
        · split
          · trivial
          · rename_i e2
            exact pick_le (m := { m with world := _ }) (Nat.le_trans h1 (le_ok e2)) _
          · rename_i e2
            have h2 := Nat.le_trans h1 (le_ok e2)
            exact h2
          · rename_i e2
            have h2 := Nat.le_trans h1 (le_ok e2)
            exact pick_le (m := Machine.advanceTo { m with world := _ } _) h2 _
theorem mLe_up {w w1 : World} (h : w.drawn ≤ w1.drawn) : ∀ {m : Move}, mLe w1 m → mLe w m
  | .goroutine _ _, k => Nat.le_trans h k
  | .machine (.next _) _, k => Nat.le_trans h k
  | .machine (.ended _ _) _, _ => trivial
theorem ask_le (P : Program) (m : Machine) : mLe m.world (ask P m) := by
  unfold ask
  split
  · split
    · trivial
    · rename_i e
      have h1 := le_ok e
      have h2 := look_le P m.gs m.rest (by assumption)
      split
      · rename_i e3
        rw [e3] at h2
        exact mLe_up (Nat.le_trans h1 h2) (askOn_le _ _)
      · rename_i hne
        cases hl : look P m.gs m.rest (by assumption) with
        | next m' => exact absurd hl (hne _)
        | ended o w' => trivial
    · rename_i e
      exact mLe_up (le_ok e) (askOn_le P { m with world := _ })
  · exact askOn_le _ _
theorem move_le (P : Program) (m : Machine) : mLe m.world (move P m) := by
  unfold move
  split
  · split
    · exact Nat.le_refl _
    · trivial
  · split
    · split
      · exact Nat.le_refl _
      · exact ask_le P { m with rest := { m.rest with slice := none } }
    · exact ask_le _ _
theorem step_le {P : Program} {m m' : Machine} (h : step P m = .next m') : m.world.drawn ≤ m'.world.drawn := by
  unfold step stepT at h
  have h1 := move_le P m
  split at h
  · rename_i m1 i e
    rw [e] at h1
    have h2 := runT_step_le P m1 i true
    rw [h] at h2
    exact Nat.le_trans h1 h2
  · rename_i s ops e
    rw [e] at h1
    have h : s = .next m' := h
    rw [h] at h1
    exact h1
theorem runN_le {P : Program} : ∀ (n : Nat) {m m' : Machine}, runN P n m = .next m' → m.world.drawn ≤ m'.world.drawn
  | 0, m, m', h => by cases h; exact Nat.le_refl _
  | n + 1, m, m', h => by
    rw [runN] at h
    split at h
    · rename_i e
      exact Nat.le_trans (step_le e) (runN_le n h)
    · rename_i e
      exact absurd h (e _)
/-- No call takes a draw back. -/
theorem calls_drawn {P : Program} {f : FuncId} {args : Array Value} {w : World} {R : Ending → World → Prop} (h : Calls P f args w R) : Calls P f args w fun e w' => R e w' ∧ ((∃ v, e = .returned v) → w.drawn ≤ w'.drawn) := by
  intro cs
  obtain ⟨e, w', fr, hR, hc, hf, hl⟩ := h cs
  refine ⟨e, w', fr, ⟨hR, ?_⟩, hc, hf, hl⟩
  rintro ⟨v, rfl⟩
  obtain ⟨n, hn⟩ := hc
  exact runN_le n hn
/-- What is known below is known with the draws. -/
theorem calls_bel {P : Program} {f : FuncId} {args : Array Value} {w : World} {B : Nat} {v : Value} (h : Calls P f args w fun e w' => e = .returned v ∧ RowKit.Below B w w') : Calls P f args w fun e w' => e = .returned v ∧ Bel B w w' :=
  (calls_drawn h).mono fun _ _ h => ⟨h.1.1, h.1.2, h.2 ⟨_, h.1.1⟩⟩
end Go.Proofs.YtgbbgdjdomkohaaGreat

/- Package enc: how pairs are held against each other. -/
namespace Go.Proofs.YtgbbgdjdomkohaaGreat
open Go.RowKit Go.Sort

/-- What rising's comparison reads: nothing of it lies in block p. -/
structure Ck (W : World) (p gk gi : Nat) (K : Nat) (A : Option Addr) (cap : Nat) (l : List It) : Prop where
  bk : Blk W gk 92 #[.slice (some ⟨K, 0, none⟩) (l.length / 2) (l.length / 2)]
  bi : Blk W gi 29 #[.slice A l.length cap]
  nk : gk ≠ p
  ni : gi ≠ p
  nK : K ≠ p
  lK : 0 < l.length / 2 → K < W.heap.size
  le : l.length ≤ cap
  nil : A = none → cap = 0
  at_ : AtL W (· ≠ p) l A
  keys : ∀ (i : Nat) (a : It), i < l.length / 2 → l[2 * i]? = some a → ∃ Ai ci, W.cell? ⟨K, i, none⟩ = some (.slice Ai a.enc.length ci) ∧ RdX W p .u8 Ai a.enc
theorem Ck.only {W W' : World} {p gk gi K cap : Nat} {A : Option Addr} {l : List It} (h : Ck W p gk gi K A cap l) (ho : Only p W W') : Ck W' p gk gi K A cap l := by
  refine ⟨h.bk.only ho h.nk, h.bi.only ho h.ni, h.nk, h.ni, h.nK, fun hn => Nat.lt_of_lt_of_le (h.lK hn) ho.size, h.le, h.nil, AtL.keep (fun b hb hl => ho.block b hl (fun e => hb (by injection e))) (fun _ h => h) _ _ h.at_, fun i a hi ha => ?_⟩
  obtain ⟨Ai, ci, h1, h2⟩ := h.keys i a hi ha
  exact ⟨Ai, ci, cell_kept' (ho.block K (h.lK (by omega)) (fun e => h.nK (by injection e))) h1, h2.only ho⟩
theorem bulk_mem_le {t : It} {l : List It} (h : t ∈ l) : t.bulk ≤ bulkL l := by
  induction l with
  | nil => cases h
  | cons x r ih =>
    simp only [bulkL]
    rcases List.mem_cons.1 h with rfl | h
    · omega
    · have := ih h; omega
theorem Own.rdW {w : World} {B : Nat} {A : Option Addr} {n cap : Nat} {zs : List Int} (h : Own w B .u8 5 (.slice A n cap) zs) : Rd w w.heap.size .u8 A zs := by
  obtain ⟨A', c', hv, _, _, _, _, hr⟩ := h.form
  injection hv with e1 e2 e3
  rw [e1]
  exact hr
theorem Rd.drewQ {w : World} {A : Option Addr} {zs : List Int} (h : Rd w w.heap.size .u8 A zs) (q : Nat) : Rd (w.drewN q) (w.drewN q).heap.size .u8 A zs := h
/-- The encoding of an item in memory, laid for itself. -/
theorem lay_alone {x : It} {A : Option Addr} {cap n : Nat} {W : World} (hok : x.okE) (hb : x.bulk ≤ 1099511627776) (hn : n ≤ W.heap.size) (h : AtB W n x A cap) :
    Calls Tryz.prog 27 #[.slice none 0 0, .agg #[.int .i64 x.k, .int .u64 x.n, .string x.s, .slice A x.l.length cap]] W fun e w' => ∃ Av cv, e = .returned (.slice Av x.enc.length cv) ∧ Own w' W.heap.size .u8 5 (.slice Av x.enc.length cv) x.enc ∧ Below W.heap.size W w' := by
  refine (enc_lay x.count x A cap n W.heap.size (.slice none 0 0) [] W (Nat.le_refl _) hok (by simpa using hb) h (Own.nil _ _ _ _) hn (Nat.le_refl _)).mono ?_
  rintro e w' ⟨v', rfl, ho, hbl⟩
  rw [List.nil_append] at ho
  obtain ⟨Av, cv, rfl, _, _, _, _, _⟩ := ho.form
  exact ⟨Av, cv, rfl, ho, hbl⟩

set_option maxRecDepth 100000 in
set_option maxHeartbeats 4000000 in
theorem rising_cmp {W : World} {p gk gi K cap : Nat} {A : Option Addr} {l : List It} (ck : Ck W p gk gi K A cap l) (hok : okEL l) (hbk : bulkL l ≤ 1099511627776) {i j : Nat} {a b a' b' : It} (hi : i < l.length / 2) (hj : j < l.length / 2)
    (ha : l[2 * i]? = some a) (hb : l[2 * i + 1]? = some b) (ha' : l[2 * j]? = some a') (hb' : l[2 * j + 1]? = some b') :
    Calls Tryz.prog 54 #[.int .i64 (i : Int), .int .i64 (j : Int), .pointer (some ⟨gk, 0, none⟩), .pointer (some ⟨gi, 0, none⟩)] W fun e w' => e = .returned (.int .i64 (pcmp (a, b) (a', b'))) ∧ Below W.heap.size W w' := by
  obtain ⟨A1, c1, k1, r1⟩ := ck.keys i a hi ha
  obtain ⟨A2, c2, k2, r2⟩ := ck.keys j a' hj ha'
  have hka : W.cell? ⟨gk, 0, none⟩ = some (.slice (some ⟨K, 0, none⟩) (l.length / 2) (l.length / 2)) := by rw [ck.bk.cell]; rfl
  have hia : W.cell? ⟨gi, 0, none⟩ = some (.slice A l.length cap) := by rw [ck.bi.cell]; rfl
  have mem : ∀ {q : Nat} {t : It}, l[q]? = some t → t ∈ l := fun h => List.mem_of_getElem? h
  have hoa := okEL_iff.1 hok a (mem ha)
  have hoa' := okEL_iff.1 hok a' (mem ha')
  have hob := okEL_iff.1 hok b (mem hb)
  have hob' := okEL_iff.1 hok b' (mem hb')
  have C1 := fun q => bytes_compare A1 A2 c1 c2 a.enc a'.enc (W.drewN q) (Rd.drewQ r1.rd q) (Rd.drewQ r2.rd q) (byte_enc a hoa) (byte_enc a' hoa')
  have HC1 := Lib.hid C1
  obtain ⟨z, hz⟩ : ∃ z, seqC intC a.enc a'.enc = z := ⟨_, rfl⟩
  have hpc : pcmp (a, b) (a', b') = if z ≠ 0 then z else seqC intC b.enc b'.enc := by unfold pcmp thenC; simp only [hz]
  rw [hz] at HC1
  rw [hpc]
  have hml := bulk_length l
  have HCK := Lib.hid ck
  have HOB := Lib.hid (And.intro hob hob')
  have HIB := Lib.hid (And.intro hb hb')
  have HBK := Lib.hid (fun _ : Unit => hbk)
  have hil : (l[2 * i + 1]? = some b) := hb
  have hi2 : 2 * i + 1 < l.length := by omega
  have hj2 : 2 * j + 1 < l.length := by omega
  have HI2 := Lib.hid (And.intro hi2 hj2)
  obtain ⟨nn, hnn⟩ : ∃ nn, l.length / 2 = nn := ⟨_, rfl⟩
  obtain ⟨m, hm⟩ : ∃ m, l.length = m := ⟨_, rfl⟩
  rw [hnn] at hka hi hj
  rw [hm] at hia
  have HM := Lib.hid hm
  have hii : (i : Int) < nn := by omega
  have hji : (j : Int) < nn := by omega
  generalize a.enc.length = la at *
  generalize a'.enc.length = la' at *
  clear C1 r1 r2 hoa hoa' hob hob' hpc hz ck hok hbk ha hb ha' hb' hil hml hi2 hj2 hm mem
  go_enter Tryz.func54, Tryz.ntmps54
  go_wp2_with fail
  go_quiet (with_reducible exact Calls.quiet_of_same (HC1.out _))
  have hb1 : Below W.heap.size W (W.drewN nq) := below_drawnN (Below.refl _ _) nq
  have HB1 := Lib.hid hb1
  have HCK1 := Lib.hid (HCK.out.only (Only.ofBelow hb1))
  have hia1 : (W.drewN nq).cell? ⟨gi, 0, none⟩ = some (.slice A m cap) := hia
  clear hb1 hia k1 k2 hka HC1
  generalize W.drewN nq = W1 at *
  by_cases hz0 : z = 0
  · subst hz0
    have hV : AtB W1 W1.heap.size (.mk 0 0 ⟨#[]⟩ l) A cap := AtV.toB ⟨HCK1.out.le, HCK1.out.nil, HCK1.out.at_.more fun _ _ => trivial⟩
    obtain ⟨b1, o1, X, Ax, cx, eA, -, -, hX, -, x0, x1, x2, x3, hx⟩ := hV.item (i := 2 * i + 1) HI2.out.1
    obtain ⟨b2, o2, Y, Ay, cy, eA2, -, -, hY, -, y0, y1, y2, y3, hy⟩ := hV.item (i := 2 * j + 1) HI2.out.2
    subst eA
    injection eA2 with eA2
    injection eA2 with e1 e2
    subst e1 e2
    obtain rfl : b = X := by
      have h1 : l[2 * i + 1]? = some X := hX
      rw [HIB.out.1] at h1
      injection h1
    obtain rfl : b' = Y := by
      have h1 : l[2 * j + 1]? = some Y := hY
      rw [HIB.out.2] at h1
      injection h1
    have hbb : b.bulk ≤ 1099511627776 := Nat.le_trans (bulk_mem_le (List.mem_of_getElem? HIB.out.1)) (HBK.out ())
    have hbb' : b'.bulk ≤ 1099511627776 := Nat.le_trans (bulk_mem_le (List.mem_of_getElem? HIB.out.2)) (HBK.out ())
    have HL1 := Lib.hid (fun W' (hb : Below W1.heap.size W1 W') => lay_alone HOB.out.1 hbb hb.size (hx.keep hb))
    have HL2 := Lib.hid (fun W' (hb : Below W1.heap.size W1 W') => lay_alone HOB.out.2 hbb' hb.size (hy.keep hb))
    obtain ⟨u, hu⟩ : ∃ u, 2 * i + 1 = u := ⟨_, rfl⟩
    obtain ⟨v, hv⟩ : ∃ v, 2 * j + 1 = v := ⟨_, rfl⟩
    have hmb : m < 1099511627777 := by have h1 := bulk_length l; have h2 := HBK.out (); have := HM.out; omega
    have hum : (u : Int) < m := by have := HI2.out.1; have := HM.out; omega
    have hvm : (v : Int) < m := by have := HI2.out.2; have := HM.out; omega
    have q1 : IntKind.i64.wrap (2 * (i : Int)) = 2 * (i : Int) := by rw [IntWalk.i64_in _ (by omega)]
    have q2 : IntKind.i64.wrap (2 * (i : Int) + 1) = (u : Int) := by rw [IntWalk.i64_in _ (by omega)]; omega
    have q3 : IntKind.i64.wrap (2 * (j : Int)) = 2 * (j : Int) := by rw [IntWalk.i64_in _ (by omega)]
    have q4 : IntKind.i64.wrap (2 * (j : Int) + 1) = (v : Int) := by rw [IntWalk.i64_in _ (by omega)]; omega
    have HEB := Lib.hid (And.intro (byte_enc b HOB.out.1) (byte_enc b' HOB.out.2))
    have HD := Lib.hid (show Below W1.heap.size W1 W1.drew from (Below.refl _ _).drew)
    have HIA := Lib.hid (And.intro (block_lt_of_cell hia1) (block_lt_of_cell y0))
    rw [hu] at x0 x1 x2 x3
    rw [hv] at y0 y1 y2 y3
    have hfol : Tryz.prog.follows Departure.mixedOrders = true := by kernel_rfl
    clear hX hY hV hx hy hbb hbb' hmb hi hj hii hji hnn hu hv
    go_wp2_with fail
    go_region_with (first
      | (go_at_call 27; refine (HL1.out _ HD.out).mono ?_; clear HL1; rintro e w5 ⟨Av, cv, rfl, ho, hb⟩; have hb5 := HD.out.trans hb; have g0 := (hb5.cell (p := ⟨gi, 0, none⟩) HIA.out.1).trans hia1; have g1 := (hb5.cell (p := ⟨b1, o1 + v * 4, none⟩) HIA.out.2).trans y0; have g2 := (hb5.cell (p := ⟨b1, o1 + v * 4 + 1, none⟩) HIA.out.2).trans y1; have g3 := (hb5.cell (p := ⟨b1, o1 + v * 4 + 2, none⟩) HIA.out.2).trans y2; have g4 := (hb5.cell (p := ⟨b1, o1 + v * 4 + 3, none⟩) HIA.out.2).trans y3; have HO1 := Lib.hid ho; have HB5 := Lib.hid hb5; clear ho hb hb5)
      | (go_at_call 27; refine (HL2.out _ HB5.out).mono ?_; clear HL2; rintro e w6 ⟨Aw, cw, rfl, ho, hb⟩; have HC2 := Lib.hid (bytes_compare Av Aw cv cw b.enc b'.enc w6 ((HO1.out.below hb).rdW) ho.rdW HEB.out.1 HEB.out.2); have HB6 := Lib.hid (HB5.out.trans (hb.mono HB5.out.size)); clear ho hb)
      | (go_at_call 13; refine HC2.out.mono ?_; rintro e w7 ⟨rfl, rfl⟩))
    all_goals
      go_wp2_with fail
      go_ret
      exact ⟨by simp, HB1.out.trans (HB6.out.mono HB1.out.size)⟩
  · have hz' : (z != 0) = true := by simp [hz0]
    have HZ0 := Lib.hid hz0
    clear hz0
    go_wp2_with fail
    go_ret
    exact ⟨by simp, HB1.out⟩
end Go.Proofs.YtgbbgdjdomkohaaGreat

/- Where the library's bodies lie in this program. -/
namespace Go.Proofs.YtgbbgdjdomkohaaGreat
open Go.Shelf
def Tryz.sortItems_ren : Go.Shelf.Ren := ⟨fun | 6 => 59 | 15 => 64 | 14 => 70 | 28 => 83 | 29 => 84 | 20 => 93 | 21 => 94 | 22 => 95 | 23 => 96 | 24 => 97 | 25 => 98 | 26 => 99 | 27 => 100 | 46 => 116 | 47 => 107 | 48 => 108 | 49 => 117 | 50 => 118 | 57 => 122 | n => n, fun | 22 => 29 | 24 => 31 | 25 => 95 | 3 => 3 | 39 => 80 | 0 => 0 | 53 => 126 | 55 => 28 | 4 => 4 | 46 => 120 | 45 => 119 | 50 => 24 | 5 => 5 | 9 => 9 | 66 => 142 | 70 => 146 | 76 => 152 | 77 => 43 | n => n, fun | n => n⟩
theorem Tryz.sortItems : Go.Proofs.SlLaysF0.n6 Tryz.prog Tryz.sortItems_ren := {
  mixed := by kernel_rfl
  f6 := ⟨Tryz.f59.name, by decide, Tryz.func59.trans (congrArg some (by kernel_rfl))⟩
  f14 := ⟨Tryz.f70.name, by decide, Tryz.func70.trans (congrArg some (by kernel_rfl))⟩
  f15 := Tryz.func64.trans (congrArg some (by kernel_rfl))
  f20 := ⟨Tryz.f93.name, by decide, Tryz.func93.trans (congrArg some (by kernel_rfl))⟩
  f21 := ⟨Tryz.f94.name, by decide, Tryz.func94.trans (congrArg some (by kernel_rfl))⟩
  f22 := ⟨Tryz.f95.name, by decide, Tryz.func95.trans (congrArg some (by kernel_rfl))⟩
  f23 := ⟨Tryz.f96.name, by decide, Tryz.func96.trans (congrArg some (by kernel_rfl))⟩
  f24 := ⟨Tryz.f97.name, by decide, Tryz.func97.trans (congrArg some (by kernel_rfl))⟩
  f25 := ⟨Tryz.f98.name, by decide, Tryz.func98.trans (congrArg some (by kernel_rfl))⟩
  f26 := ⟨Tryz.f99.name, by decide, Tryz.func99.trans (congrArg some (by kernel_rfl))⟩
  f27 := ⟨Tryz.f100.name, by decide, Tryz.func100.trans (congrArg some (by kernel_rfl))⟩
  f28 := Tryz.func83.trans (congrArg some (by kernel_rfl))
  f29 := Tryz.func84.trans (congrArg some (by kernel_rfl))
  f46 := ⟨Tryz.f116.name, by decide, Tryz.func116.trans (congrArg some (by kernel_rfl))⟩
  f47 := Tryz.func107.trans (congrArg some (by kernel_rfl))
  f48 := Tryz.func108.trans (congrArg some (by kernel_rfl))
  f49 := ⟨Tryz.f117.name, by decide, Tryz.func117.trans (congrArg some (by kernel_rfl))⟩
  f50 := ⟨Tryz.f118.name, by decide, Tryz.func118.trans (congrArg some (by kernel_rfl))⟩
  f57 := ⟨Tryz.f122.name, by decide, Tryz.func122.trans (congrArg some (by kernel_rfl))⟩
  t0 := Tryz.underlying0
  a0 := Tryz.isAgg0
  z0 := Tryz.sizeOf0
  v0 := Tryz.zeroValue0
  t3 := Tryz.underlying3
  a3 := Tryz.isAgg3
  z3 := Tryz.sizeOf3
  v3 := Tryz.zeroValue3
  t4 := Tryz.underlying4
  a4 := Tryz.isAgg4
  z4 := Tryz.sizeOf4
  v4 := Tryz.zeroValue4
  t5 := Tryz.underlying5
  a5 := Tryz.isAgg5
  z5 := Tryz.sizeOf5
  v5 := Tryz.zeroValue5
  t9 := Tryz.underlying9
  a9 := Tryz.isAgg9
  z9 := Tryz.sizeOf9
  v9 := Tryz.zeroValue9
  t22 := Tryz.underlying29
  a22 := Tryz.isAgg29
  z22 := Tryz.sizeOf29
  v22 := Tryz.zeroValue29
  t25 := Tryz.underlying95
  a25 := Tryz.isAgg95
  z25 := Tryz.sizeOf95
  v25 := Tryz.zeroValue95
  t39 := Tryz.underlying80
  a39 := Tryz.isAgg80
  z39 := Tryz.sizeOf80
  v39 := Tryz.zeroValue80
  t45 := Tryz.underlying119
  a45 := Tryz.isAgg119
  z45 := Tryz.sizeOf119
  v45 := Tryz.zeroValue119
  t46 := Tryz.underlying120
  a46 := Tryz.isAgg120
  z46 := Tryz.sizeOf120
  v46 := Tryz.zeroValue120
  t50 := Tryz.underlying24
  a50 := Tryz.isAgg24
  z50 := Tryz.sizeOf24
  v50 := Tryz.zeroValue24
  t53 := Tryz.underlying126
  a53 := Tryz.isAgg126
  z53 := Tryz.sizeOf126
  v53 := Tryz.zeroValue126
  t55 := Tryz.underlying28
  a55 := Tryz.isAgg28
  z55 := Tryz.sizeOf28
  v55 := Tryz.zeroValue28
  t66 := Tryz.underlying142
  a66 := Tryz.isAgg142
  z66 := Tryz.sizeOf142
  v66 := Tryz.zeroValue142
  t70 := Tryz.underlying146
  a70 := Tryz.isAgg146
  z70 := Tryz.sizeOf146
  v70 := Tryz.zeroValue146
  t76 := Tryz.underlying152
  a76 := Tryz.isAgg152
  z76 := Tryz.sizeOf152
  v76 := Tryz.zeroValue152
  t77 := Tryz.underlying43
  a77 := Tryz.isAgg43
  z77 := Tryz.sizeOf43
  v77 := Tryz.zeroValue43 }
def Tryz.sortInts_ren : Go.Shelf.Ren := ⟨fun | 6 => 53 | 15 => 64 | 14 => 63 | 28 => 83 | 29 => 84 | 20 => 75 | 21 => 76 | 22 => 77 | 23 => 78 | 24 => 79 | 25 => 80 | 26 => 81 | 27 => 82 | 46 => 106 | 47 => 107 | 48 => 108 | 49 => 109 | 50 => 110 | 57 => 120 | n => n, fun | 22 => 32 | 24 => 3 | 25 => 94 | 3 => 3 | 39 => 80 | 0 => 0 | 53 => 126 | 55 => 28 | 4 => 4 | 46 => 120 | 45 => 119 | 50 => 24 | 5 => 5 | 9 => 9 | 66 => 142 | 70 => 146 | 76 => 152 | 77 => 43 | n => n, fun | n => n⟩
theorem Tryz.sortInts : Go.Proofs.SlLaysF.n6 Tryz.prog Tryz.sortInts_ren := {
  mixed := by kernel_rfl
  f6 := ⟨Tryz.f53.name, by decide, Tryz.func53.trans (congrArg some (by kernel_rfl))⟩
  f14 := ⟨Tryz.f63.name, by decide, Tryz.func63.trans (congrArg some (by kernel_rfl))⟩
  f15 := Tryz.func64.trans (congrArg some (by kernel_rfl))
  f20 := ⟨Tryz.f75.name, by decide, Tryz.func75.trans (congrArg some (by kernel_rfl))⟩
  f21 := ⟨Tryz.f76.name, by decide, Tryz.func76.trans (congrArg some (by kernel_rfl))⟩
  f22 := ⟨Tryz.f77.name, by decide, Tryz.func77.trans (congrArg some (by kernel_rfl))⟩
  f23 := ⟨Tryz.f78.name, by decide, Tryz.func78.trans (congrArg some (by kernel_rfl))⟩
  f24 := ⟨Tryz.f79.name, by decide, Tryz.func79.trans (congrArg some (by kernel_rfl))⟩
  f25 := ⟨Tryz.f80.name, by decide, Tryz.func80.trans (congrArg some (by kernel_rfl))⟩
  f26 := ⟨Tryz.f81.name, by decide, Tryz.func81.trans (congrArg some (by kernel_rfl))⟩
  f27 := ⟨Tryz.f82.name, by decide, Tryz.func82.trans (congrArg some (by kernel_rfl))⟩
  f28 := Tryz.func83.trans (congrArg some (by kernel_rfl))
  f29 := Tryz.func84.trans (congrArg some (by kernel_rfl))
  f46 := ⟨Tryz.f106.name, by decide, Tryz.func106.trans (congrArg some (by kernel_rfl))⟩
  f47 := Tryz.func107.trans (congrArg some (by kernel_rfl))
  f48 := Tryz.func108.trans (congrArg some (by kernel_rfl))
  f49 := ⟨Tryz.f109.name, by decide, Tryz.func109.trans (congrArg some (by kernel_rfl))⟩
  f50 := ⟨Tryz.f110.name, by decide, Tryz.func110.trans (congrArg some (by kernel_rfl))⟩
  f57 := ⟨Tryz.f120.name, by decide, Tryz.func120.trans (congrArg some (by kernel_rfl))⟩
  t0 := Tryz.underlying0
  a0 := Tryz.isAgg0
  z0 := Tryz.sizeOf0
  v0 := Tryz.zeroValue0
  t3 := Tryz.underlying3
  a3 := Tryz.isAgg3
  z3 := Tryz.sizeOf3
  v3 := Tryz.zeroValue3
  t4 := Tryz.underlying4
  a4 := Tryz.isAgg4
  z4 := Tryz.sizeOf4
  v4 := Tryz.zeroValue4
  t5 := Tryz.underlying5
  a5 := Tryz.isAgg5
  z5 := Tryz.sizeOf5
  v5 := Tryz.zeroValue5
  t9 := Tryz.underlying9
  a9 := Tryz.isAgg9
  z9 := Tryz.sizeOf9
  v9 := Tryz.zeroValue9
  t22 := Tryz.underlying32
  a22 := Tryz.isAgg32
  z22 := Tryz.sizeOf32
  v22 := Tryz.zeroValue32
  a24 := Tryz.isAgg3
  z24 := Tryz.sizeOf3
  t25 := Tryz.underlying94
  a25 := Tryz.isAgg94
  z25 := Tryz.sizeOf94
  v25 := Tryz.zeroValue94
  t39 := Tryz.underlying80
  a39 := Tryz.isAgg80
  z39 := Tryz.sizeOf80
  v39 := Tryz.zeroValue80
  t45 := Tryz.underlying119
  a45 := Tryz.isAgg119
  z45 := Tryz.sizeOf119
  v45 := Tryz.zeroValue119
  t46 := Tryz.underlying120
  a46 := Tryz.isAgg120
  z46 := Tryz.sizeOf120
  v46 := Tryz.zeroValue120
  t50 := Tryz.underlying24
  a50 := Tryz.isAgg24
  z50 := Tryz.sizeOf24
  v50 := Tryz.zeroValue24
  t53 := Tryz.underlying126
  a53 := Tryz.isAgg126
  z53 := Tryz.sizeOf126
  v53 := Tryz.zeroValue126
  t55 := Tryz.underlying28
  a55 := Tryz.isAgg28
  z55 := Tryz.sizeOf28
  v55 := Tryz.zeroValue28
  t66 := Tryz.underlying142
  a66 := Tryz.isAgg142
  z66 := Tryz.sizeOf142
  v66 := Tryz.zeroValue142
  t70 := Tryz.underlying146
  a70 := Tryz.isAgg146
  z70 := Tryz.sizeOf146
  v70 := Tryz.zeroValue146
  t76 := Tryz.underlying152
  a76 := Tryz.isAgg152
  z76 := Tryz.sizeOf152
  v76 := Tryz.zeroValue152
  t77 := Tryz.underlying43
  a77 := Tryz.isAgg43
  z77 := Tryz.sizeOf43
  v77 := Tryz.zeroValue43 }
end Go.Proofs.YtgbbgdjdomkohaaGreat
