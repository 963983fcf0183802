import PyProof.Rows.All
import Wide.All
import OpenK.AllK
import Wide.FinOn
import HandS.ForMost
import HandS.ForExc
import HandS.ExcIs
import HandS.IsInst
import HandS.Style
import HandS.Gcd
import HandS.Wide
import HandS.RaiseMore
import HandS.FStr
import HandS.SortInts
import HandS.Conv
import KE.Datum
import PySem.Challenge.RW_dicepairs_k01_dice
set_option Elab.async false
set_option linter.all false
set_option maxRecDepth 100000
set_option maxHeartbeats 4000000
/-! A caught error that is kept behind its clause: it is tracked from there on; isinstance asks it there. -/
namespace My
open PySem PySem.Spec PyProof.Rows L2

/-- an error object of the class cls, its own dict d, that lies at a -/
def ExV (cls : Value) (d : Option Addr) (a : Addr) : HO :=
  .ext fun h => ∃ (oe : Obj) (vs : Array Value), h.get? a = some oe ∧ Zc cls d oe ∧ oe.data = .fields vs

section
variable {X : Cx} {pins : List (Addr × Obj)} {σ : L2.St} {H : Hp} {s : Shared} {a : Addr} {oe : Obj} {vs : Array Value} {cls : Value} {d : Option Addr}

theorem track (I : Inv X pins σ H s) (he : s.heap.get? a = some oe) (hz : Zc cls d oe) (hd : oe.data = .fields vs) (na : H a = none)
    (n0 : X.s_0.heap.get? a = none) (nL : a ≠ X.env.locals) (np : ∀ p ∈ X.pn ++ pins, p.1 ≠ a) : Inv X pins σ (upd H a (ExV cls d a)) s := by
  have u1 : ∀ b o, X.s_0.heap.get? b = some o → b ≠ a := by
    intro b o e z
    rw [z, n0] at e
    cases e
  have u2 : ∀ b (o : HO), H b = some o → b ≠ a := fun b o e => ne_of_none e na
  have u3 : ∀ x c, X.env.cells.lookup x = some c → c ≠ a := by
    intro x c e z
    obtain ⟨v, o, ho, hv⟩ := I.cell x c e
    rw [z, he] at ho
    cases ho
    rw [hd] at hv
    cases hv
  refine { ok := I.ok, os := I.os, bare := I.bare, loc := I.loc, cell := I.cell, len := I.len, base := ?_, free := ?_, freeC := ?_, pin := ?_, hok := ?_ }
  · have B := I.base
    refine { keep := B.keep, slot := B.slot, there := B.there, free := ?_, tups := ?_, frzs := ?_, tbls := ?_ }
    · intro b o e n x
      rw [upd_ne (u1 b o e)]
      exact B.free b o e n x
    · intro b xs e
      have q := B.tups b xs e
      rw [upd_ne (u2 b _ q)]
      exact q
    · intro b o u e
      have q := B.frzs b o u e
      rw [upd_ne (u2 b _ q)]
      exact q
    · intro b ps e
      obtain ⟨more, q⟩ := B.tbls b ps e
      refine ⟨more, ?_⟩
      rw [upd_ne (u2 b _ q)]
      exact q
  · rw [upd_ne (Ne.symm nL)]
    exact I.free
  · intro x c e
    rw [upd_ne (u3 x c e)]
    exact I.freeC x c e
  · intro p hp
    obtain ⟨p1, p2, p3⟩ := I.pin p hp
    refine ⟨p1, ?_, p3⟩
    rw [upd_ne (np p hp)]
    exact p2
  · intro b o e
    by_cases hb : b = a
    · subst hb
      rw [upd_same] at e
      cases e
      exact ⟨⟨oe, vs, he, hz, hd⟩, ⟨oe, he⟩, fun h1 h2 ⟨o1, v1, w1, w2⟩ k => ⟨o1, v1, k o1 w1, w2⟩⟩
    · rw [upd_ne hb] at e
      refine (I.hok b o e).stay (fun c v _ q => q) (fun c q => ?_) (fun c xs q => ?_)
      · rw [upd_ne (u2 c _ q)]
        exact q
      · rw [upd_ne (u2 c _ q)]
        exact q
end

/-- the wish of a clause 'except x as n': behind the suite the error is tracked -/
def wKeep (K : PySem.W.Frag) (c : Value) (i : Nat) (ts : Addr → Value → Option Addr → TS) (Wout : WX) (D : Ends) : WX := fun cls d σ H =>
  ∃ b, PySem.W.exmOne K cls c = some b ∧
    (b = true → ∀ a, H a = none → ts a cls d { nx := fun σ' H' => D.nx (σ'.set i none) (upd H' a (ExV cls d a)), rt := fun _ _ => False } (σ.set i (some (.ref a))) H) ∧
    (b = false → Wout cls d σ H)

section
variable {X : Cx} {x n : Str} {c : Value} {i : Nat} {body suite : List Stmt} {b₀ : Stmt} {np pos pos' : Pos} {tb : WX → TS} {ts : Addr → Value → Option Addr → TS} {Wout : WX}
theorem ps_try_keep (hex : X.ex = []) (hs : X.stack = X.env :: X.outer) (hf : X.env.frame = some X.env.locals) (hN : X.N.Nodup) (hi : X.N[i]? = some n) (hln : X.env.kindOf n = some .local)
    (hc : Names X x c) (tk : Takes X Wout)
    (hb : ∀ (W : WX) (pn : List (Addr × Obj)) (xe : Value → Shared → Prop), Takes (X.tr pn xe) W → PassesOwn (model X.prog X.w) X.A X.env xe → PSs (X.tr pn xe) body (tb W))
    (hsu : ∀ (a : Addr) (oe : Obj) (cls : Value) (d : Option Addr) (pn : List (Addr × Obj)), Zc cls d oe → (∃ vs, oe.data = .fields vs) → PSs (X.suite a ((a, oe) :: pn)) (b₀ :: suite) (ts a cls d)) :
    PS X (.Try body [.ExceptHandler (some (.Name x np)) (some n) (b₀ :: suite) pos'] [] [] pos) (fun D σ H => tb (wKeep X.K c i ts Wout D) D σ H) := by
  constructor
  intro pins s σ H D I h
  have ok := I.ok
  have frA : X.A.frames = some (X.env :: X.outer) := ok.frames.trans (congrArg some hs)
  apply wpAny_Try_except
  let catch_ : Value → Shared → Prop := fun e s₁ => wpAny (model X.prog X.w) X.A (noteFrame e X.env)
    (fun _ s₂ => wpAny (model X.prog X.w) X.A (setFlight e none)
      (fun _ s₃ => wpAny (model X.prog X.w) X.A (handleBy e X.env [.ExceptHandler (some (.Name x np)) (some n) (b₀ :: suite) pos']) (SP X pins D) X.xe s₃) X.xe s₂) X.xe s₁
  have takes : Takes (X.tr (X.pn ++ pins) catch_) (wKeep X.K c i ts Wout D) := by
    intro u s' xx
    obtain ⟨a, B, sI, pins', σ', H', cls, d, ru, J', nb, up, sky, na, os, ag, b, test, yes, no⟩ := xx
    subst ru
    have J : Inv X pins σ' H' sI := J'.ofTry ok
    rw [show (X.tr (X.pn ++ pins) catch_).stack = X.env :: X.outer from hs] at sky
    show wpAny (model X.prog X.w) X.A (noteFrame (.ref a) X.env) _ _ _
    apply Sky.land Zc.steady frA hf sky
    intro h3 fl3 up3
    have J3 : Inv X pins σ' H' { s' with heap := h3 } := J.landed nb fl3.1 (up.trans up3) os ag
    obtain ⟨oe3, vs3, he3, hz3, hd3⟩ := fl3.there
    have nfr : a ∉ frs (X.env :: X.outer) := by
      intro hm
      obtain ⟨_, o', e', hnf⟩ := fl3.2.2.1.mem hm
      rw [he3] at e'
      cases e'
      exact hnf _ hd3
    have nL : a ≠ X.env.locals := by
      intro z
      exact nfr (List.mem_filterMap.mpr ⟨X.env, List.mem_cons_self, hf.trans (congrArg some z.symm)⟩)
    have nF : a ∉ X.fs := by
      intro hm
      obtain ⟨e, h1, h2⟩ := List.mem_filterMap.mp hm
      exact nfr (List.mem_filterMap.mpr ⟨e, List.mem_cons_of_mem _ h1, h2⟩)
    -- the error is new: the state ahead of it has no object there
    have nI : sI.heap.get? a = none := by
      cases q : sI.heap.get? a with
      | none => rfl
      | some o =>
        have z := nb a o q (by show a ∉ frs X.stack; rw [hs]; exact nfr)
        rw [fl3.2.1] at z
        cases z
    have n0 : X.s_0.heap.get? a = none := by
      cases q : X.s_0.heap.get? a with
      | none => rfl
      | some o =>
        obtain ⟨o', z⟩ := J.base.there a o q (by rw [hex]; exact fun z => nomatch z)
        rw [nI] at z
        cases z
    have npin : ∀ p ∈ X.pn ++ pins, p.1 ≠ a := by
      intro p hp z
      have q := (J.pin p hp).1
      rw [z, nI] at q
      cases q
    have S3 := J3.suite he3 hd3 na nL nF
    refine wpAny_handleBy_cons ?_ (by intro q; cases q)
    apply codeAny_handlers_test
    have LT : PySem.W.Looks (model X.prog X.w) h3 (typeOf (.ref a)) cls := by
      intro A Q E s k q
      exact wpAny_typeOf_ref (k _ _ he3) (by rw [hz3.1]; exact q)
    have LM := PySem.W.exm_one (M := model X.prog X.w) J3.kIn LT test
    have named : ∀ {Q E : Value → Shared → Prop}, Q c { s' with heap := h3 } →
        wpAny (model X.prog X.w) (X.A.mark (some (.ref a))) (eval (.Name x np) X.env) Q E { s' with heap := h3 } := by
      intro Q E q
      obtain ⟨hg, hdb, hm | ⟨hm, hv, hnn⟩⟩ := hc
      · exact ld_glob (X := X.suite a ((a, oe3) :: (X.pn ++ pins))) S3 hg hm q hdb
      · exact ld_blt (X := X.suite a ((a, oe3) :: (X.pn ++ pins))) S3 hg hm hv q hnn hdb
    refine named (LM.here ?_)
    cases b with
    | true =>
      apply codeAny_handlers_suite_as
      apply HandSPX.lands_againZ fl3
      intro h4 fl4 up4
      have J4 : Inv X pins σ' H' { s' with heap := h4 } := J.landed nb fl4.1 ((up.trans up3).trans up4) os ag
      obtain ⟨oe4, vs4, he4, hz4, hd4⟩ := fl4.there
      refine store_ok (X := X.suite a ((a, oe4) :: (X.pn ++ pins))) (v := .ref a) (J4.suite he4 hd4 na nL nF) hN hi (.inl hln) rfl (fun s5 S5 => ?_) (.inr hln)
      refine wpAny_mono ((hsu a oe4 cls d (X.pn ++ pins) hz4 ⟨_, hd4⟩).run [] s5 _ H' _ S5 (yes rfl a na)) ?_ (fun _ _ z => False.elim z)
      intro f s6 hsp
      cases f with
      | next =>
        obtain ⟨σ6, H6, S6, q6⟩ := hsp
        obtain ⟨p1, p2, _⟩ := S6.pin (a, oe4) (List.mem_append.mpr (.inl List.mem_cons_self))
        have T6 : Inv X pins σ6 (upd H6 a (ExV cls d a)) s6 := track (S6.unsuite ok) p1 hz4 hd4 p2 n0 nL npin
        exact gone_ok T6 hN hi hln (fun s7 J7 => ⟨_, _, J7, q6⟩)
      | brk =>
        obtain ⟨_, _, _, q6⟩ := hsp
        exact False.elim q6
      | cont =>
        obtain ⟨_, _, _, q6⟩ := hsp
        exact False.elim q6
      | ret u =>
        obtain ⟨_, _, _, _, _, q6⟩ := hsp
        exact False.elim q6
    | false =>
      show wpAny _ X.A (handleBy (.ref a) X.env []) _ _ _
      apply wpAny_handleBy_nil
      obtain ⟨k1, k2, k3, oe, vs, T, oT, ts', he, hz, hd, h1, hr⟩ := id fl3
      unfold PySem.passOn
      apply wpAny_bind
      apply wpAny_field he hd h1
      rw [if_neg (show ¬ ((Value.ref T == Value.none) = true) from by simp)]
      have last : wpAny (model X.prog X.w) X.A (setFlight (.ref a) X.env.frame)
          (fun _ s4 => wpAny (model X.prog X.w) X.A (throw (.ref a) : Sem Flow) (SP X pins D) X.xe s4) X.xe { s' with heap := h3 } := by
        rw [hf]
        apply HandSPX.setFlight_upZ fl3
        intro h4 hh4 up4
        apply wpAny_throw
        exact tk _ _ ⟨a, B, sI, pins, σ', H', cls, d, rfl, J, nb, (up.trans up3).trans up4, .inr (.inr (by rw [hs]; exact hh4)), na, os, ag, no rfl⟩
      first
        | exact wpAny_bind (wpAny_pure (wpAny_bind last))
        | exact wpAny_bind last
  refine wpAny_mono ((hb _ (X.pn ++ pins) catch_ takes PassesOwn.looking).run [] s σ H D (I.toTry _) h) ?_ (fun e s1 he => he)
  intro f s1 hsp
  cases f with
  | next =>
    obtain ⟨σ', H', J', q⟩ := hsp
    exact wpAny_execs_nil ⟨σ', H', J'.ofTry ok, q⟩
  | brk =>
    obtain ⟨σ', H', J', q⟩ := hsp
    exact ⟨σ', H', J'.ofTry ok, q⟩
  | cont =>
    obtain ⟨σ', H', J', q⟩ := hsp
    exact ⟨σ', H', J'.ofTry ok, q⟩
  | ret u =>
    obtain ⟨v, σ', H', J', r, q⟩ := hsp
    exact ⟨v, σ', H', J'.ofTry ok, r, q⟩

/-- isinstance(e, c) of an error that is tracked at a -/
def rIsX (K : PySem.W.Frag) : List V → Hp → VK → Prop := fun xs H Q => ∃ (a D : Addr) (c : V) (cv : Value) (b : Bool), xs = [.ref a, c] ∧ H a = some (ExV (.ref D) none a) ∧ ExcC K D ∧
  (∀ u, RelV c u → u = cv) ∧ PySem.W.kitOne K (.ref D) cv = some b ∧ Q (.bl b) H
theorem call_isX {X : Cx} : CallR X (.builtin "isinstance") (rIsX X.K) := by
  intro pins s σ H xs us Q I r h
  obtain ⟨a, D, c, cv, b, rfl, hH, C, hcv, e, q⟩ := h
  obtain ⟨u1, u2, rfl, r1, r2⟩ := vals2 r
  cases (show u1 = Value.ref a from r1)
  have ec := hcv _ r2
  subst ec
  obtain ⟨⟨oe, vs, hget, hz, hv⟩, _, _⟩ := (show ObjOk X.prog X.w H s.heap a (ExV (.ref D) none a) from I.hok a _ hH)
  have J : PySem.W.InstAt s.heap a oe D none := by
    obtain ⟨oc, od, oda, osl⟩ := oe
    obtain ⟨h1, h2⟩ := hz
    dsimp only at h1 h2 hv
    subst h1 h2 hv
    exact ⟨hget, rfl, rfl, trivial⟩
  exact PySem.W.kia_one (PySem.W.handS_kitx_exc C.hg C.hk C.hs C.hd C.ha C.hn C.ht C.hm) I.kIn J e (fun z => nomatch z) fun tk => ⟨.bl b, H, I.kept (t' := tk) fun _ _ z => z, rfl, q⟩
/-- isinstance of a value or of a tracked error -/
theorem call_isV {X : Cx} : CallR X (.builtin "isinstance") (fun xs H Q => rIsi X.K xs H Q ∨ rIsX X.K xs H Q) := by
  intro pins s σ H xs us Q I r h
  rcases h with h | h
  · exact call_isi pins s σ H xs us Q I r h
  · exact call_isX pins s σ H xs us Q I r h
/-- what an own error class says -/
structure ExFacts (K : PySem.W.Frag) (C : Addr) : Prop where
  x : PySem.W.excIn K C [.type "ValueError", .type "Exception", .type "BaseException", .type "object"] "ValueError.__new__" = true
  k : PySem.W.keepIn K (.ref C) = true
  b : PySem.W.subIn K (.ref C) (.type "BaseException") = some true
  t : PySem.W.typeIn K (.ref C) = some (.type "type")
  c : ExcC K C
end
end My

/-! Small words used by all laws: kinds of values, ways, heaps, comprehensions over lists. -/
namespace My
open PySem PySem.Spec PyProof.Rows L2

/-! ### ways -/
theorem iteD {p : Prop} [Decidable p] {A B : Prop} (h1 : p → A) (h2 : ¬ p → B) : if decide p = true then A else B := by
  by_cases h : p
  · rw [decide_eq_true h, if_pos rfl]
    exact h1 h
  · rw [decide_eq_false h, if_neg Bool.false_ne_true]
    exact h2 h
theorem iteND {p : Prop} [Decidable p] {A B : Prop} (h1 : ¬ p → A) (h2 : p → B) : if (!decide p) = true then A else B := by
  by_cases h : p
  · rw [decide_eq_true h, if_neg (by decide)]
    exact h2 h
  · rw [decide_eq_false h, if_pos (by decide)]
    exact h1 h
theorem iteB {b : Bool} {A B : Prop} (h1 : b = true → A) (h2 : b = false → B) : if b = true then A else B := by
  cases b with
  | true => exact h1 rfl
  | false => exact h2 rfl

/-- a written divisor -/
theorem md {j : Int} (h : decide (0 < j) = true) : 0 < j := of_decide_eq_true h
theorem dv {i j : Int} (h : (decide (0 < j) && decide (j < 1073741824)) = true) : CDiv i j := by
  rw [Bool.and_eq_true] at h
  exact ⟨of_decide_eq_true h.1, of_decide_eq_true h.2⟩

/-! ### heaps -/
theorem same_new {H : Hp} {p : Addr} {o : HO} (h : H p = none) : Same H (upd H p o) := fun b x e => by
  rw [upd_ne (ne_of_none e h)]
  exact e
theorem same_old {H H' : Hp} {p : Addr} {o : HO} (e : Same H H') (h : H p = none) : Same H (upd H' p o) := fun b x q => by
  rw [upd_ne (ne_of_none q h)]
  exact e b x q
theorem sz_ok {n : Nat} (h : n ≤ 1000000) : n ≤ sizeLine := Nat.le_trans h (by decide)
theorem sz_lt {n : Nat} (h : n < 1000000) : n < sizeLine := Nat.lt_of_lt_of_le h (by decide)
theorem sq_of {K : PySem.W.Frag} {H : Hp} {a : Addr} {xs : List V} (h : H a = some (.lst xs)) : SqL K H a xs := .inl (.inl h)
theorem st_of {K : PySem.W.Frag} {H : Hp} {a : Addr} {xs : List V} (h : H a = some (.tup xs)) : SqT K H a xs := .inl (.inl h)

/-! ### kinds of values -/
inductive Kd (H : Hp) : V → String → Prop
  | int (i : Int) : Kd H (.int i) "int"
  | bl (b : Bool) : Kd H (.bl b) "bool"
  | non : Kd H .non "NoneType"
  | str (x : Str) : Kd H (.str x) "str"
  | lst {a : Addr} {xs : List V} (h : H a = some (.lst xs)) : Kd H (.ref a) "list"
  | tup {a : Addr} {xs : List V} (h : H a = some (.tup xs)) : Kd H (.ref a) "tuple"
  | dct {a : Addr} {kvs : List (Key × V)} (h : H a = some (.dK kvs)) : Kd H (.ref a) "dict"
section
variable {H H' : Hp} {v : V} {n : String} {K : PySem.W.Frag}
theorem Kd.ty (k : Kd H v n) : TyX K H v (.type n) := by
  cases k with
  | int i => exact .base (.int i)
  | bl b => exact .base (.bl b)
  | non => exact .base .non
  | str x => exact .base (.str x)
  | lst h => exact .base (.lst h)
  | tup h => exact .base (.tup h)
  | dct h => exact .base (.dK h)
theorem Kd.mono (e : Same H H') (k : Kd H v n) : Kd H' v n := by
  cases k with
  | int i => exact .int i
  | bl b => exact .bl b
  | non => exact .non
  | str x => exact .str x
  | lst h => exact .lst (e _ _ h)
  | tup h => exact .tup (e _ _ h)
  | dct h => exact .dct (e _ _ h)
def isIntB : V → Bool
  | .int _ => true
  | .bl _ => true
  | _ => false
def isBlB : V → Bool
  | .bl _ => true
  | _ => false
def isNum : V → Bool
  | .int _ => true
  | _ => false
theorem Kd.kInt (k : Kd H v n) : kitB n "int" = some (isIntB v) := by
  cases k <;> (simp only [isIntB]; decide +kernel)
theorem Kd.kBool (k : Kd H v n) : kitB n "bool" = some (isBlB v) := by
  cases k <;> (simp only [isBlB]; decide +kernel)
def lstOf (H : Hp) : V → Option (List V)
  | .ref a => (match H a with
    | some (.lst xs) => some xs
    | _ => none)
  | _ => none
theorem lstOf_ref {a : Addr} {xs : List V} (h : H a = some (.lst xs)) : lstOf H (.ref a) = some xs := by
  show (match H a with
    | some (.lst xs) => some xs
    | _ => none) = some xs
  rw [h]
theorem lstOf_some {xs : List V} (h : lstOf H v = some xs) : ∃ a, v = .ref a ∧ H a = some (.lst xs) := by
  unfold lstOf at h
  split at h
  · rename_i a
    split at h
    · rename_i ys e
      cases h
      exact ⟨a, rfl, e⟩
    · cases h
  · cases h
theorem Kd.kListN (k : Kd H v n) (h : lstOf H v = none) : kitB n "list" = some false := by
  cases k with
  | lst e => rw [lstOf_ref e] at h; cases h
  | _ => decide +kernel
theorem Kd.kListS (k : Kd H v n) {xs : List V} (h : lstOf H v = some xs) : kitB n "list" = some true := by
  obtain ⟨a, rfl, e⟩ := lstOf_some h
  cases k with
  | lst e' => decide +kernel
  | tup e' => rw [e] at e'; cases e'
  | dct e' => rw [e] at e'; cases e'
end

/-! ### a comprehension over a list: what it makes, in one word -/
section
variable {K : PySem.W.Frag}
/-- the items that are kept, by f; the source stands still -/
theorem lc_map {a : Addr} {xs : List V} {g : TG} {tt : TT} {te : TE} {vs : List Nat} {σ : L2.St} {H1 : Hp} {D : Addr} {Qd : Hp → Prop} (keep : V → Bool) (f : V → V)
    (nD : H1 D = none) (hS : SqL K H1 a xs) (len : xs.length < 1000000)
    (hs : ∀ x H' (R : V → Hp → Prop) (N : Hp → Prop), x ∈ xs → Same H1 H' → (keep x = true → ∀ H4, Same H' H4 → R (f x) H4) → (keep x = false → ∀ H4, Same H' H4 → N H4) →
      g x (wipe σ vs) H' fun σ2 H2 => wipe σ2 vs = wipe σ vs ∧ tt σ2 H2 fun b H3 => if b = true then te σ2 H3 R else N H3)
    (hd : ∀ H', Same H1 H' → H' D = some (.lst ((xs.filter keep).map f)) → Qd H') :
    ∃ W : Nat → Nat → Hp → Prop, (∃ m, W 0 m (upd H1 D (.lst []))) ∧ ∀ i m H, W i m H →
      ((Itl K a).stop i H ∧ Qd H) ∨ ((Itl K a).go i H ∧ ∃ Nx : Hp → Prop, (∀ H', Nx H' → ∃ m', m' < m ∧ W (i + 1) m' H') ∧ ∀ x H', (Itl K a).yld i H x H' → g x (wipe σ vs) H' fun σ2 H2 => wipe σ2 vs = wipe σ vs ∧ tt σ2 H2 fun b H3 =>
        if b = true then te σ2 H3 fun y H4 => ∃ acc, H4 D = some (.lst acc) ∧ acc.length < sizeLine ∧ Nx (upd H4 D (.lst (acc ++ [y]))) else Nx H3) := by
  refine lc_list (K := K) (a := a) (xs := xs) (fun i H => Same H1 H ∧ H D = some (.lst (((xs.take i).filter keep).map f))) ⟨same_new nD, upd_same⟩ (fun i H _ p => p.1.seq hS) ?_ ?_
  · intro i x H hi p
    obtain ⟨p1, p2⟩ := p
    have tk : xs.take (i + 1) = xs.take i ++ [x] := by
      rw [List.take_add_one, hi]
      rfl
    refine hs x H _ _ (List.mem_of_getElem? hi) p1 (fun kx H4 e4 => ?_) (fun kx H4 e4 => ?_)
    · refine ⟨_, e4 _ _ p2, ?_, fun b o e => ?_, ?_⟩
      · refine sz_lt (Nat.lt_of_le_of_lt ?_ len)
        rw [List.length_map]
        refine Nat.le_trans (List.length_filter_le _ _) ?_
        rw [List.length_take]
        exact Nat.min_le_right _ _
      · rw [upd_ne (ne_of_none e nD)]
        exact e4 _ _ (p1 _ _ e)
      · rw [upd_same, tk, List.filter_append, List.map_append]
        simp [List.filter_cons, kx]
    · refine ⟨p1.trans e4, ?_⟩
      rw [e4 _ _ p2, tk, List.filter_append, List.map_append]
      simp [List.filter_cons, kx]
  · intro H p
    obtain ⟨p1, p2⟩ := p
    rw [List.take_length] at p2
    exact hd H p1 p2
/-- all items -/
theorem lc_all {a : Addr} {xs : List V} {g : TG} {tt : TT} {te : TE} {vs : List Nat} {σ : L2.St} {H1 : Hp} {D : Addr} {Qd : Hp → Prop} (f : V → V)
    (nD : H1 D = none) (hS : SqL K H1 a xs) (len : xs.length < 1000000)
    (hs : ∀ x H' (R : V → Hp → Prop), x ∈ xs → Same H1 H' → (∀ H4, Same H' H4 → R (f x) H4) →
      ∀ N : Hp → Prop, g x (wipe σ vs) H' fun σ2 H2 => wipe σ2 vs = wipe σ vs ∧ tt σ2 H2 fun b H3 => if b = true then te σ2 H3 R else N H3)
    (hd : ∀ H', Same H1 H' → H' D = some (.lst (xs.map f)) → Qd H') :
    ∃ W : Nat → Nat → Hp → Prop, (∃ m, W 0 m (upd H1 D (.lst []))) ∧ ∀ i m H, W i m H →
      ((Itl K a).stop i H ∧ Qd H) ∨ ((Itl K a).go i H ∧ ∃ Nx : Hp → Prop, (∀ H', Nx H' → ∃ m', m' < m ∧ W (i + 1) m' H') ∧ ∀ x H', (Itl K a).yld i H x H' → g x (wipe σ vs) H' fun σ2 H2 => wipe σ2 vs = wipe σ vs ∧ tt σ2 H2 fun b H3 =>
        if b = true then te σ2 H3 fun y H4 => ∃ acc, H4 D = some (.lst acc) ∧ acc.length < sizeLine ∧ Nx (upd H4 D (.lst (acc ++ [y]))) else Nx H3) := by
  refine lc_map (fun _ => true) f nD hS len (fun x H' R N hx e r _ => hs x H' R hx e (r rfl) N) fun H' e q => hd H' e ?_
  rw [q, List.filter_eq_self.mpr (fun _ _ => rfl)]
/-- the same over a tuple -/
theorem lt_all {a : Addr} {xs : List V} {g : TG} {tt : TT} {te : TE} {vs : List Nat} {σ : L2.St} {H1 : Hp} {D : Addr} {Qd : Hp → Prop} (f : V → V)
    (nD : H1 D = none) (hS : H1 a = some (.tup xs)) (len : xs.length < 1000000)
    (hs : ∀ x H' (R : V → Hp → Prop), x ∈ xs → Same H1 H' → (∀ H4, Same H' H4 → R (f x) H4) →
      ∀ N : Hp → Prop, g x (wipe σ vs) H' fun σ2 H2 => wipe σ2 vs = wipe σ vs ∧ tt σ2 H2 fun b H3 => if b = true then te σ2 H3 R else N H3)
    (hd : ∀ H', Same H1 H' → H' D = some (.lst (xs.map f)) → Qd H') :
    ∃ W : Nat → Nat → Hp → Prop, (∃ m, W 0 m (upd H1 D (.lst []))) ∧ ∀ i m H, W i m H →
      ((Itt K a).stop i H ∧ Qd H) ∨ ((Itt K a).go i H ∧ ∃ Nx : Hp → Prop, (∀ H', Nx H' → ∃ m', m' < m ∧ W (i + 1) m' H') ∧ ∀ x H', (Itt K a).yld i H x H' → g x (wipe σ vs) H' fun σ2 H2 => wipe σ2 vs = wipe σ vs ∧ tt σ2 H2 fun b H3 =>
        if b = true then te σ2 H3 fun y H4 => ∃ acc, H4 D = some (.lst acc) ∧ acc.length < sizeLine ∧ Nx (upd H4 D (.lst (acc ++ [y]))) else Nx H3) := by
  refine lc_tup (K := K) (a := a) (xs := xs) (fun i H => Same H1 H ∧ H D = some (.lst ((xs.take i).map f))) ⟨same_new nD, upd_same⟩ (fun i H _ p => st_of (p.1 _ _ hS)) ?_ ?_
  · intro i x H hi p
    obtain ⟨p1, p2⟩ := p
    have tk : xs.take (i + 1) = xs.take i ++ [x] := by
      rw [List.take_add_one, hi]
      rfl
    refine hs x H _ (List.mem_of_getElem? hi) p1 (fun H4 e4 => ?_) _
    refine ⟨_, e4 _ _ p2, ?_, fun b o e => ?_, ?_⟩
    · refine sz_lt (Nat.lt_of_le_of_lt ?_ len)
      rw [List.length_map, List.length_take]
      exact Nat.min_le_right _ _
    · rw [upd_ne (ne_of_none e nD)]
      exact e4 _ _ (p1 _ _ e)
    · rw [upd_same, tk, List.map_append]
      rfl
  · intro H p
    obtain ⟨p1, p2⟩ := p
    rw [List.take_length] at p2
    exact hd H p1 p2
end

/-! ### rules with the written part told (for a comprehension's block) -/
def rListOf (K : PySem.W.Frag) : List V → Hp → VK → Prop := fun xs H Q => ∃ p ys, xs = [.ref p] ∧ (SqL K H p ys ∨ SqT K H p ys) ∧ ∀ l, H l = none → Q (.ref l) (upd H l (.lst ys))
theorem call_listOf {X : Cx} : CallR X (.type "list") (rListOf X.K) := call_list_of
def rLenSeq (K : PySem.W.Frag) : List V → Hp → VK → Prop := fun xs H Q => ∃ p ys, xs = [.ref p] ∧ (SqL K H p ys ∨ SqT K H p ys) ∧ Q (.int ys.length) H
theorem call_lenSeq {X : Cx} : CallR X (.builtin "len") (rLenSeq X.K) := call_len_seq
/-! ### data: what stands at v is x -/
section
open PySem.W (Datum Tup)
variable {α β : Type} [DecidableEq α] [Datum α] [DecidableEq β] [Datum β] {K : PySem.W.Frag} {H H' : Hp}
def Is (K : PySem.W.Frag) (H : Hp) (v : V) (x : α) : Prop := Dp K H v (Datum.toD x)
theorem is_int (i : Int) : Is K H (.int i) i := .int i
theorem is_bl (b : Bool) : Is K H (.bl b) b := .bl b
theorem is_str (s : Str) : Is K H (.str s) s := .str s
/-- item by item -/
inductive IsAll (K : PySem.W.Frag) (H : Hp) : List V → List α → Prop
  | nil : IsAll K H [] []
  | cons {v : V} {vs : List V} {x : α} {xs : List α} (h : Is K H v x) (t : IsAll K H vs xs) : IsAll K H (v :: vs) (x :: xs)
theorem IsAll.dp {vs : List V} {xs : List α} (h : IsAll K H vs xs) : DpAll K H vs (xs.map Datum.toD) := by
  induction h with
  | nil => exact .nil
  | cons h t ih => exact .cons h ih
theorem IsAll.map {γ : Type} (f : γ → V) (g : γ → α) : ∀ (l : List γ), (∀ y ∈ l, Is K H (f y) (g y)) → IsAll K H (l.map f) (l.map g)
  | [], _ => .nil
  | y :: r, h => .cons (h y List.mem_cons_self) (IsAll.map f g r fun z hz => h z (List.mem_cons_of_mem _ hz))
theorem IsAll.ints (ns : List Int) : IsAll K H (ns.map V.int) ns := by
  have q := IsAll.map (K := K) (H := H) V.int id ns (fun y _ => is_int y)
  rw [List.map_id] at q
  exact q
theorem IsAll.strs : ∀ ns : List Str, IsAll K H (ns.map V.str) ns
  | [] => .nil
  | s :: r => .cons (is_str s) (IsAll.strs r)
theorem is_list {a : Addr} {vs : List V} {xs : List α} (h : SqL K H a vs) (t : IsAll K H vs xs) : Is K H (.ref a) xs := by
  show Dp K H (.ref a) (.list (xs.map Datum.toD))
  exact .lst h t.dp
theorem is_tup {a : Addr} {vs : List V} {xs : List α} (h : SqT K H a vs) (t : IsAll K H vs xs) : Is K H (.ref a) (Tup.mk xs) := by
  show Dp K H (.ref a) (.tuple (xs.map Datum.toD))
  exact .tup h t.dp
theorem is_pair {a : Addr} {v u : V} {x : α} {y : β} (h : SqT K H a [v, u]) (hx : Is K H v x) (hy : Is K H u y) : Is K H (.ref a) (x, y) := by
  show Dp K H (.ref a) (.tuple [Datum.toD x, Datum.toD y])
  exact .tup h (.cons hx (.cons hy .nil))
theorem is_ints {a : Addr} {ns : List Int} (h : SqL K H a (ns.map V.int)) : Is K H (.ref a) ns := is_list h (.ints ns)
/-- == and != of data -/
def rEqP (K : PySem.W.Frag) : R2 := fun x y H Q => ∃ d e, Dp K H x d ∧ Dp K H y e ∧ d.plain = true ∧ e.plain = true ∧ d.depth ≤ 64 ∧ Q (.bl (PyData.eqv d e)) H
def rNeP (K : PySem.W.Frag) : R2 := fun x y H Q => ∃ d e, Dp K H x d ∧ Dp K H y e ∧ d.plain = true ∧ e.plain = true ∧ d.depth ≤ 64 ∧ Q (.bl (!PyData.eqv d e)) H
theorem op_eqP {X : Cx} (hu : X.A.units + 64 < cLine) : OpR X (compareOp .Eq) (rEqP X.K) := by
  intro pins s σ H x y v u Q I rx ry h
  obtain ⟨d, e, hd, he, pd, pe, hdep, q⟩ := h
  obtain ⟨as, r1⟩ := Dp.reads I d x v hd rx
  obtain ⟨bs, r2⟩ := Dp.reads I e y u he ry
  refine PySem.SeqAt.eq_plain r1 r2 pd pe ?_ ⟨.bl _, H, I, rfl, q⟩
  have := Nat.min_le_left d.depth e.depth
  omega
theorem op_neP {X : Cx} (hu : X.A.units + 64 < cLine) : OpR X (compareOp .NotEq) (rNeP X.K) := by
  intro pins s σ H x y v u Q I rx ry h
  obtain ⟨d, e, hd, he, pd, pe, hdep, q⟩ := h
  obtain ⟨as, r1⟩ := Dp.reads I d x v hd rx
  obtain ⟨bs, r2⟩ := Dp.reads I e y u he ry
  refine PySem.SeqAt.ne_plain r1 r2 pd pe ?_ ⟨.bl _, H, I, rfl, q⟩
  have := Nat.min_le_left d.depth e.depth
  omega
/-- what is wanted of them -/
theorem eq_is {v u : V} {x y : α} {Q : VK} (hx : Is K H v x) (hy : Is K H u y) (q : Q (.bl (decide (x = y))) H) (h : Datum.depth α ≤ 64 := by decide) : rEqP K v u H Q :=
  ⟨_, _, hx, hy, Datum.plain x, Datum.plain y, Nat.le_trans (Datum.depth_le x) h, by rw [Datum.eqv]; exact q⟩
theorem ne_is {v u : V} {x y : α} {Q : VK} (hx : Is K H v x) (hy : Is K H u y) (q : Q (.bl (!decide (x = y))) H) (h : Datum.depth α ≤ 64 := by decide) : rNeP K v u H Q :=
  ⟨_, _, hx, hy, Datum.plain x, Datum.plain y, Nat.le_trans (Datum.depth_le x) h, by rw [Datum.eqv]; exact q⟩
end
end My

namespace My
open PySem PySem.Spec PyProof.Rows L2
open PySem.W (Datum Tup)
/-! ### the text -/
def topS (i : Nat) : Stmt := PySem.Challenge.pw_dicepairs_k01_dice.main.body.getD i (.Pass ⟨0, 0, 0, 0⟩)
abbrev st_is_number : Stmt := topS 11
abbrev nm_is_number : List Str := ["thing"]
theorem sc_is_number : FnScope nm_is_number ["thing"] (defScope st_is_number) := ⟨rfl, rfl, rfl, by decide +kernel, rfl, by decide +kernel, by decide +kernel⟩
abbrev st_is_face : Stmt := topS 12
abbrev nm_is_face : List Str := ["thing"]
theorem sc_is_face : FnScope nm_is_face ["thing"] (defScope st_is_face) := ⟨rfl, rfl, rfl, by decide +kernel, rfl, by decide +kernel, by decide +kernel⟩
abbrev st_is_die : Stmt := topS 13
abbrev nm_is_die : List Str := ["thing", "face"]
theorem sc_is_die : FnScope nm_is_die ["thing"] (defScope st_is_die) := ⟨rfl, rfl, rfl, by decide +kernel, rfl, by decide +kernel, by decide +kernel⟩
abbrev st_need_die : Stmt := topS 14
abbrev nm_need_die : List Str := ["thing"]
theorem sc_need_die : FnScope nm_need_die ["thing"] (defScope st_need_die) := ⟨rfl, rfl, rfl, by decide +kernel, rfl, by decide +kernel, by decide +kernel⟩
abbrev st_share : Stmt := topS 15
abbrev nm_share : List Str := ["n", "d", "common"]
theorem sc_share : FnScope nm_share ["n", "d"] (defScope st_share) := ⟨rfl, rfl, rfl, by decide +kernel, rfl, by decide +kernel, by decide +kernel⟩
abbrev st_mean : Stmt := topS 16
abbrev nm_mean : List Str := ["die"]
theorem sc_mean : FnScope nm_mean ["die"] (defScope st_mean) := ⟨rfl, rfl, rfl, by decide +kernel, rfl, by decide +kernel, by decide +kernel⟩
abbrev st_law_draw : Stmt := topS 18
abbrev nm_law_draw : List Str := ["_law_script", "_law_k", "_law_cell", "_law_number"]
theorem sc_law_draw : FnScope nm_law_draw ["_law_script", "_law_k"] (defScope st_law_draw) := ⟨rfl, rfl, rfl, by decide +kernel, rfl, by decide +kernel, by decide +kernel⟩
abbrev st_law_word : Stmt := topS 19
abbrev nm_law_word : List Str := ["_law_e", "_law_some", "_law_found", "_law_word_here", "_law_is_so"]
theorem sc_law_word : FnScope nm_law_word ["_law_e"] (defScope st_law_word) := ⟨rfl, rfl, rfl, by decide +kernel, rfl, by decide +kernel, by decide +kernel⟩
abbrev st_law_whole : Stmt := topS 20
abbrev nm_law_whole : List Str := ["_law_found"]
theorem sc_law_whole : FnScope nm_law_whole ["_law_found"] (defScope st_law_whole) := ⟨rfl, rfl, rfl, by decide +kernel, rfl, by decide +kernel, by decide +kernel⟩
abbrev st_law_die : Stmt := topS 21
abbrev nm_law_die : List Str := ["_law_script", "_law_k", "_law_most", "_law_top", "_law_number", "_law_found", "_law_j", "_law_face"]
theorem sc_law_die : FnScope nm_law_die ["_law_script", "_law_k", "_law_most", "_law_top"] (defScope st_law_die) := ⟨rfl, rfl, rfl, by decide +kernel, rfl, by decide +kernel, by decide +kernel⟩
abbrev st_law_is : Stmt := topS 22
abbrev nm_law_is : List Str := ["_law_found", "_law_due", "_law_part"]
theorem sc_law_is : FnScope nm_law_is ["_law_found", "_law_due"] (defScope st_law_is) := ⟨rfl, rfl, rfl, by decide +kernel, rfl, by decide +kernel, by decide +kernel⟩
abbrev st_law_lowest : Stmt := topS 23
abbrev nm_law_lowest : List Str := ["_law_n", "_law_d", "_law_one", "_law_other"]
theorem sc_law_lowest : FnScope nm_law_lowest ["_law_n", "_law_d"] (defScope st_law_lowest) := ⟨rfl, rfl, rfl, by decide +kernel, rfl, by decide +kernel, by decide +kernel⟩
abbrev st_law_refused : Stmt := topS 24
abbrev nm_law_refused : List Str := ["_law_way", "_law_thing", "_law_caught", "_law_e"]
theorem sc_law_refused : FnScope nm_law_refused ["_law_way", "_law_thing"] (defScope st_law_refused) := ⟨rfl, rfl, rfl, by decide +kernel, rfl, by decide +kernel, by decide +kernel⟩
abbrev st_law : Stmt := topS 25
abbrev nm_law : List Str := ["_law_script", "_law_k", "_law_die_here", "_law_handed", "_law_number", "_law_odd", "_law_at", "_law_bent", "_law_some", "_law_wrong", "_law_n", "_law_d", "_law_by"]
theorem sc_law : FnScope nm_law ["_law_script"] (defScope st_law) := ⟨rfl, rfl, rfl, by decide +kernel, rfl, by decide +kernel, by decide +kernel⟩
/-! ### what the top has written -/
structure Lay (K : PySem.W.Frag) (mg : Str → Option Value) where
  n_isinstance : mg "isinstance" = none
  n_int : mg "int" = none
  n_bool : mg "bool" = none
  n_list : mg "list" = none
  n_len : mg "len" = none
  n_all : mg "all" = none
  n_sum : mg "sum" = none
  n_ValueError : mg "ValueError" = none
  n_range : mg "range" = none
  n_tuple : mg "tuple" = none
  n_max : mg "max" = none
  n_min : mg "min" = none
  m_gcd : mg "gcd" = some (.builtin "math.gcd")
  t_MOST_FACES : Tok
  c_MOST_FACES : mg "MOST_FACES" = some (.int 8 t_MOST_FACES)
  t_GREATEST_FACE : Tok
  c_GREATEST_FACE : mg "GREATEST_FACE" = some (.int 99 t_GREATEST_FACE)
  a_DiceError : Addr
  g_DiceError : mg "DiceError" = some (.ref a_DiceError)
  x_DiceError : ExFacts K a_DiceError
  a_BadDie : Addr
  g_BadDie : mg "BadDie" = some (.ref a_BadDie)
  x_BadDie : ExFacts K a_BadDie
  a_BadDice : Addr
  g_BadDice : mg "BadDice" = some (.ref a_BadDice)
  x_BadDice : ExFacts K a_BadDice
  a_BadNumber : Addr
  g_BadNumber : mg "BadNumber" = some (.ref a_BadNumber)
  x_BadNumber : ExFacts K a_BadNumber
  a_BadCounts : Addr
  g_BadCounts : mg "BadCounts" = some (.ref a_BadCounts)
  x_BadCounts : ExFacts K a_BadCounts
  a_BadText : Addr
  g_BadText : mg "BadText" = some (.ref a_BadText)
  x_BadText : ExFacts K a_BadText
  s_BadDie_DiceError : PySem.W.kitOne K (.ref a_BadDie) (.ref a_DiceError) = some true
  e_BadDie_DiceError : PySem.W.subIn K (.ref a_BadDie) (.ref a_DiceError) = some true
  s_BadDie_BadDie : PySem.W.kitOne K (.ref a_BadDie) (.ref a_BadDie) = some true
  e_BadDie_BadDie : PySem.W.subIn K (.ref a_BadDie) (.ref a_BadDie) = some true
  s_BadDie_BadDice : PySem.W.kitOne K (.ref a_BadDie) (.ref a_BadDice) = some false
  e_BadDie_BadDice : PySem.W.subIn K (.ref a_BadDie) (.ref a_BadDice) = some false
  s_BadDie_BadNumber : PySem.W.kitOne K (.ref a_BadDie) (.ref a_BadNumber) = some false
  e_BadDie_BadNumber : PySem.W.subIn K (.ref a_BadDie) (.ref a_BadNumber) = some false
  s_BadDie_BadCounts : PySem.W.kitOne K (.ref a_BadDie) (.ref a_BadCounts) = some false
  e_BadDie_BadCounts : PySem.W.subIn K (.ref a_BadDie) (.ref a_BadCounts) = some false
  s_BadDie_BadText : PySem.W.kitOne K (.ref a_BadDie) (.ref a_BadText) = some false
  e_BadDie_BadText : PySem.W.subIn K (.ref a_BadDie) (.ref a_BadText) = some false
  z_DiceError : PySem.W.kitOne K (.type "NoneType") (.ref a_DiceError) = some false
  v_DiceError : PySem.W.kitOne K (.ref a_DiceError) (.type "ValueError") = some true
  z_BadDie : PySem.W.kitOne K (.type "NoneType") (.ref a_BadDie) = some false
  v_BadDie : PySem.W.kitOne K (.ref a_BadDie) (.type "ValueError") = some true
  z_BadDice : PySem.W.kitOne K (.type "NoneType") (.ref a_BadDice) = some false
  v_BadDice : PySem.W.kitOne K (.ref a_BadDice) (.type "ValueError") = some true
  z_BadNumber : PySem.W.kitOne K (.type "NoneType") (.ref a_BadNumber) = some false
  v_BadNumber : PySem.W.kitOne K (.ref a_BadNumber) (.type "ValueError") = some true
  z_BadCounts : PySem.W.kitOne K (.type "NoneType") (.ref a_BadCounts) = some false
  v_BadCounts : PySem.W.kitOne K (.ref a_BadCounts) (.type "ValueError") = some true
  z_BadText : PySem.W.kitOne K (.type "NoneType") (.ref a_BadText) = some false
  v_BadText : PySem.W.kitOne K (.ref a_BadText) (.type "ValueError") = some true
  a_is_number : Addr
  d_is_number : FuncData
  g_is_number : mg "is_number" = some (.ref a_is_number)
  f_is_number : Fun K "is_number" "is_number" st_is_number a_is_number d_is_number
  b_is_number : Binds K d_is_number ["thing"] []
  a_is_face : Addr
  d_is_face : FuncData
  g_is_face : mg "is_face" = some (.ref a_is_face)
  f_is_face : Fun K "is_face" "is_face" st_is_face a_is_face d_is_face
  b_is_face : Binds K d_is_face ["thing"] []
  a_is_die : Addr
  d_is_die : FuncData
  g_is_die : mg "is_die" = some (.ref a_is_die)
  f_is_die : Fun K "is_die" "is_die" st_is_die a_is_die d_is_die
  b_is_die : Binds K d_is_die ["thing"] []
  a_need_die : Addr
  d_need_die : FuncData
  g_need_die : mg "need_die" = some (.ref a_need_die)
  f_need_die : Fun K "need_die" "need_die" st_need_die a_need_die d_need_die
  b_need_die : Binds K d_need_die ["thing"] []
  a_share : Addr
  d_share : FuncData
  g_share : mg "share" = some (.ref a_share)
  f_share : Fun K "share" "share" st_share a_share d_share
  b_share : Binds K d_share ["n", "d"] []
  a_mean : Addr
  d_mean : FuncData
  g_mean : mg "mean" = some (.ref a_mean)
  f_mean : Fun K "mean" "mean" st_mean a_mean d_mean
  b_mean : Binds K d_mean ["die"] []
  a_law_draw : Addr
  d_law_draw : FuncData
  g_law_draw : mg "_law_draw" = some (.ref a_law_draw)
  f_law_draw : Fun K "_law_draw" "_law_draw" st_law_draw a_law_draw d_law_draw
  b_law_draw : Binds K d_law_draw ["_law_script", "_law_k"] []
  a_law_word : Addr
  d_law_word : FuncData
  g_law_word : mg "_law_word" = some (.ref a_law_word)
  f_law_word : Fun K "_law_word" "_law_word" st_law_word a_law_word d_law_word
  b_law_word : Binds K d_law_word ["_law_e"] []
  a_law_whole : Addr
  d_law_whole : FuncData
  g_law_whole : mg "_law_whole" = some (.ref a_law_whole)
  f_law_whole : Fun K "_law_whole" "_law_whole" st_law_whole a_law_whole d_law_whole
  b_law_whole : Binds K d_law_whole ["_law_found"] []
  a_law_die : Addr
  d_law_die : FuncData
  g_law_die : mg "_law_die" = some (.ref a_law_die)
  f_law_die : Fun K "_law_die" "_law_die" st_law_die a_law_die d_law_die
  b_law_die : Binds K d_law_die ["_law_script", "_law_k", "_law_most", "_law_top"] []
  a_law_is : Addr
  d_law_is : FuncData
  g_law_is : mg "_law_is" = some (.ref a_law_is)
  f_law_is : Fun K "_law_is" "_law_is" st_law_is a_law_is d_law_is
  b_law_is : Binds K d_law_is ["_law_found", "_law_due"] []
  a_law_lowest : Addr
  d_law_lowest : FuncData
  g_law_lowest : mg "_law_lowest" = some (.ref a_law_lowest)
  f_law_lowest : Fun K "_law_lowest" "_law_lowest" st_law_lowest a_law_lowest d_law_lowest
  b_law_lowest : Binds K d_law_lowest ["_law_n", "_law_d"] []
  a_law_refused : Addr
  d_law_refused : FuncData
  g_law_refused : mg "_law_refused" = some (.ref a_law_refused)
  f_law_refused : Fun K "_law_refused" "_law_refused" st_law_refused a_law_refused d_law_refused
  b_law_refused : Binds K d_law_refused ["_law_way", "_law_thing"] []
  a_law : Addr
  d_law : FuncData
  g_law : mg "law" = some (.ref a_law)
  f_law : Fun K "law" "law" st_law a_law d_law
  b_law : Binds K d_law ["_law_script"] []
section
variable {P : Program} {w : World} {K : PySem.W.Frag} {mg : Str → Option Value} {base : Heap}
/-! ### numbers, faces, dice -/
def spNumber : Sp := fun vs H Q _ => ∃ v n, vs = [v] ∧ Kd H v n ∧ Q (.bl (isNum v)) H
theorem num_read {D : Ends} {σ : L2.St} {H : Hp} {v : V} {n : String} {Q : VK} (hk : Kd H v n) (q : Q (.bl (isNum v)) H) :
    ∃ c, V.bl (isIntB v) = .bl c ∧ if c = true then (∃ (x c : V) (t u : Value) (b : Bool), [v, .ty "bool"] = [x, c] ∧ ClsV c u ∧ TyX K H x t ∧ PySem.W.kitOne K t u = some b ∧ ∃ c, V.bl b = .bl c ∧ Q (.bl (!c)) H) else Q (.bl false) H := by
  refine ⟨_, rfl, ?_⟩
  cases hk with
  | int i => exact iteT ⟨_, _, _, _, _, rfl, .ty _, (Kd.int i).ty, kit_ty (Kd.int (H := H) i).kBool, _, rfl, q⟩
  | bl b => exact iteT ⟨_, _, _, _, _, rfl, .ty _, (Kd.bl b).ty, kit_ty (Kd.bl (H := H) b).kBool, _, rfl, q⟩
  | _ => exact iteF q
theorem ok_is_number (T : Lay K mg) : FnOk P w K mg base CX0 1 T.a_is_number T.d_is_number ["thing"] spNumber := by
  refine T.f_is_number.ok sc_is_number (fun vs H Q E h => ?_) (fun cdv A outer s H vs Q E hr h => ?_)
  · obtain ⟨v, n, rfl, _⟩ := h
    rfl
  · obtain ⟨v, n, rfl, hk, q⟩ := h
    refine ⟨_, (pss_one (ps_ret (pe_and (pe_callB call_isi (by rfl) T.n_isinstance (by decide +kernel) (pa_cons (pv 0) (pa_cons (pe_bltn (v := .ty "int") (by rfl) T.n_int (by decide +kernel) rfl) pa_nil))) (pe_one (pe_not (pe_callB call_isi (by rfl) T.n_isinstance (by decide +kernel) (pa_cons (pv 0) (pa_cons (pe_bltn (v := .ty "bool") (by rfl) T.n_bool (by decide +kernel) rfl) pa_nil)))))))), ?_⟩
    exact ⟨v, rfl, _, _, _, _, _, rfl, .ty _, hk.ty, kit_ty hk.kInt, by
      obtain ⟨c, e, h⟩ := num_read (K := K) (D := { nx := fun _ _ => True, rt := fun _ _ => True }) (σ := []) hk q
      refine ⟨c, e, ?_⟩
      cases c with
      | true => exact iteT ⟨v, rfl, (if_pos rfl).mp h⟩
      | false => exact iteF ((if_neg Bool.false_ne_true).mp h)⟩
def faceB : V → Bool
  | .int i => decide (0 ≤ i) && decide (i ≤ 99)
  | _ => false
def spFace : Sp := fun vs H Q _ => ∃ v n, vs = [v] ∧ Kd H v n ∧ Q (.bl (faceB v)) H
theorem ok_is_face (T : Lay K mg) : FnOk P w K mg base CX0 2 T.a_is_face T.d_is_face ["thing"] spFace := by
  refine T.f_is_face.ok sc_is_face (fun vs H Q E h => ?_) (fun cdv A outer s H vs Q E hr h => ?_)
  · obtain ⟨v, n, rfl, _⟩ := h
    rfl
  · obtain ⟨v, n, rfl, hk, q⟩ := h
    refine ⟨_, (pss_one (ps_ret (pe_and (pe_call (ok_is_number T) (hr.mono (by decide)) (by rfl) T.g_is_number T.f_is_number.kp T.b_is_number .nil pass0 (pa_cons (pv 0) pa_nil)) (pe_one (pe_chain op_le op_le pe_int (pv 0) (pe_glob (v := .int 99) rfl T.c_GREATEST_FACE ⟨_, rfl⟩)))))), ?_⟩
    refine ⟨v, rfl, v, n, rfl, hk, _, rfl, ?_⟩
    cases hk with
    | int i =>
      refine iteT ⟨.int i, rfl, 0, i, rfl, rfl, _, rfl, iteD (fun h0 => ?_) (fun h0 => ?_)⟩
      · refine ⟨i, 99, rfl, rfl, ?_⟩
        have e : faceB (.int i) = decide (i ≤ 99) := by simp [faceB, h0]
        rw [e] at q
        exact q
      · have e : faceB (.int i) = false := by simp [faceB, h0]
        rw [e] at q
        exact q
    | _ => exact iteF q
def dieB (xs : List V) : Bool := decide (1 ≤ xs.length) && decide (xs.length ≤ 8) && xs.all faceB
def dieV (H : Hp) (v : V) : Bool := match lstOf H v with
  | some xs => dieB xs
  | none => false
/-- what a thing may be that is asked: its kind is known, and the kinds of a list's items -/
structure Thing (H : Hp) (v : V) : Prop where
  kd : ∃ n, Kd H v n
  all : ∀ xs, lstOf H v = some xs → ∀ x ∈ xs, ∃ m, Kd H x m
def spIsDie : Sp := fun vs H Q _ => ∃ v, vs = [v] ∧ Thing H v ∧ ∀ H', Same H H' → Q (.bl (dieV H v)) H'
theorem all_map {xs : List V} {p : V → Bool} : (xs.map p).all id = xs.all p := by
  rw [List.all_map]
  rfl
theorem ok_is_die (T : Lay K mg) : FnOk P w K mg base CX0 3 T.a_is_die T.d_is_die ["thing"] spIsDie := by
  refine T.f_is_die.ok sc_is_die (fun vs H Q E h => ?_) (fun cdv A outer s H vs Q E hr h => ?_)
  · obtain ⟨v, rfl, _⟩ := h
    rfl
  · obtain ⟨v, rfl, ⟨⟨n, hk⟩, hall⟩, q⟩ := h
    refine ⟨_, (pss_cons (ps_if (PW.pt (pw_or (pt_not (pt_val (pe_callB call_isi (by rfl) T.n_isinstance (by decide +kernel) (pa_cons (pv 0) (pa_cons (pe_bltn (v := .ty "list") (by rfl) T.n_list (by decide +kernel) rfl) pa_nil))))) (pw_or1 (pt_not (pt_chain op_le op_le pe_int (pe_callB call_len_seq (by rfl) T.n_len PySem.boot_len (pa_cons (pv 0) pa_nil)) (pe_glob (v := .int 8) rfl T.c_MOST_FACES ⟨_, rfl⟩)))))) (pss_one (ps_ret pe_bl)) pss_nil)
    (pss_one (ps_ret (pe_callB (cr_all rfl) (by rfl) T.n_all (by decide +kernel) (pa_cons (pe_lc (own := [("face", 1)]) (g := (gName 1)) rfl sc_is_die.nd (pi_list (pv 0)) (blkOk_by (N := nm_is_die) (sc := defScope st_is_die) (by decide +kernel)) (fun _ _ _ _ _ => (pg_name (i := 1) sc_is_die.nd rfl (Or.inl rfl))) (fun _ _ _ _ _ => pts_nil) (fun _ _ _ _ _ => (pe_call (ok_is_face T) (hr.mono (by decide)) (by rfl) T.g_is_face T.f_is_face.kp T.b_is_face .nil pass0 (pa_cons (pv 1) pa_nil)))) pa_nil))))), ?_⟩
    cases hl : lstOf H v with
    | none =>
      have e : dieV H v = false := by unfold dieV; rw [hl]
      rw [e] at q
      exact ⟨v, rfl, v, _, _, _, _, rfl, .ty _, hk.ty, kit_ty (hk.kListN hl), _, rfl, iteT (iteT (q H (Same.refl H)))⟩
    | some xs =>
      have ed : dieV H v = dieB xs := by unfold dieV; rw [hl]
      rw [ed] at q
      obtain ⟨a, rfl, ha⟩ := lstOf_some hl
      refine ⟨.ref a, rfl, .ref a, _, _, _, _, rfl, .ty _, hk.ty, kit_ty (hk.kListS hl), _, rfl, iteF ?_⟩
      refine ⟨.ref a, rfl, a, xs, rfl, .inl (sq_of ha), 1, _, rfl, rfl, _, rfl, iteD (fun h1 => ?_) (fun h1 => ?_)⟩
      · refine ⟨_, 8, rfl, rfl, _, rfl, ?_⟩
        by_cases h2 : (xs.length : Int) ≤ 8
        · rw [decide_eq_true h2]
          refine iteF ?_
          -- all([is_face(face) for face in thing])
          refine ⟨.ref a, rfl, a, rfl, ⟨xs, sq_of ha⟩, fun D nD => ?_⟩
          refine lc_all (K := K) (fun x => .bl (faceB x)) nD (sq_of ha) (by omega) (fun x H' R hx e r N => ?_) (fun H' e hD => ?_)
          · obtain ⟨m, km⟩ := hall xs hl x hx
            exact ⟨rfl, iteT (B := N H') ⟨x, rfl, x, m, rfl, km.mono e, r H' (Same.refl H')⟩⟩
          · refine ⟨D, xs.map faceB, rfl, ?_, ?_⟩
            · rw [List.map_map]
              exact sq_of hD
            · have e2 : dieB xs = xs.all faceB := by
                have h3 : 1 ≤ xs.length := by omega
                have h4 : xs.length ≤ 8 := by omega
                simp [dieB, h3, h4]
              rw [e2] at q
              rw [all_map]
              exact q H' e
        · rw [decide_eq_false h2]
          have e2 : dieB xs = false := by
            have h4 : ¬ xs.length ≤ 8 := by omega
            simp [dieB, h4]
          rw [e2] at q
          exact iteT (q H (Same.refl H))
      · have e2 : dieB xs = false := by
          have h4 : ¬ 1 ≤ xs.length := by omega
          simp [dieB, h4]
        rw [e2] at q
        exact ⟨_, rfl, iteT (q H (Same.refl H))⟩
/-! ### a refusal, shares -/
def spNeedDie (K : PySem.W.Frag) (C : Addr) : Sp := fun vs H Q E => ∃ v, vs = [v] ∧ Thing H v ∧ (dieV H v = true → ∀ H', Same H H' → Q .non H') ∧ (dieV H v = false → ∀ H', Same H H' → E (.ref C) none H')
theorem ok_need_die (T : Lay K mg) : FnOk P w K mg base (L2.CX P w) 4 T.a_need_die T.d_need_die ["thing"] (spNeedDie K T.a_BadDie) := by
  refine T.f_need_die.okX sc_need_die (fun vs H Q E h => ?_) (fun cdv A outer s H vs Q E hr h => ?_)
  · obtain ⟨v, rfl, _⟩ := h
    rfl
  · obtain ⟨v, rfl, th, q1, q2⟩ := h
    refine ⟨_, (pss_one (ps_if (pt_not (pt_val (pe_call (ok_is_die T) (hr.mono (by decide)) (by rfl) T.g_is_die T.f_is_die.kp T.b_is_die .nil pass0 (pa_cons (pv 0) pa_nil)))) (pss_one (ps_raise rfl (takes_of rfl rfl rfl rfl) (SkE.pmk_own1 PySem.F.excBase_ValueError T.x_BadDie.x T.g_BadDie T.x_BadDie.k (raises_own T.x_BadDie.b T.x_BadDie.t) rfl (pe_joined (PJ.cons pe_str (PJ.cons (pe_fmt (pe_glob (v := .int 8) rfl T.c_MOST_FACES ⟨_, rfl⟩)) (PJ.cons pe_str (PJ.cons (pe_fmt (pe_glob (v := .int 99) rfl T.c_GREATEST_FACE ⟨_, rfl⟩)) PJ.nil)))))))) pss_nil)), ?_⟩
    refine ⟨v, rfl, v, rfl, th, fun H1 e1 => ⟨_, rfl, ?_⟩⟩
    cases hd : dieV H v with
    | true => exact iteF (q1 hd H1 e1)
    | false =>
      refine iteT ?_
      refine ⟨_, rfl, by decide +kernel, .inr ⟨8, rfl, by decide +kernel, _, rfl, by decide +kernel, _, rfl, by decide +kernel, .inr ⟨99, rfl, by decide +kernel, _, rfl, by decide +kernel, ?_⟩⟩⟩
      exact q2 hd H1 e1
def gcdZ (n d : Int) : Int := (Nat.gcd n.natAbs d.natAbs : Nat)
def shareL (n d : Int) : List Int := [n / gcdZ n d, d / gcdZ n d]
def spShare : Sp := fun vs H Q _ => ∃ n d : Int, vs = [.int n, .int d] ∧ 0 < d ∧ d.natAbs < 2 ^ 8000 ∧ ∀ p, H p = none → Q (.ref p) (upd H p (.tup ((shareL n d).map V.int)))
theorem gcd_pos {n d : Int} (h : 0 < d) : 0 < gcdZ n d := by
  have : 0 < Nat.gcd n.natAbs d.natAbs := Nat.gcd_pos_of_pos_right _ (by omega)
  unfold gcdZ
  omega
theorem gcd_le {n d : Int} (h : 0 < d) : gcdZ n d ≤ d := by
  have : Nat.gcd n.natAbs d.natAbs ≤ d.natAbs := Nat.gcd_le_right _ (by omega)
  unfold gcdZ
  omega
theorem gcd_div {n d : Int} (h : 0 < d) (hb : d.natAbs < 2 ^ 8000) : CDivW x (gcdZ n d) := by
  have h1 := gcd_pos (n := n) h
  have h2 := gcd_le (n := n) h
  exact wide_div h1 (b := 8000) (Nat.lt_of_le_of_lt (by omega) hb) (by decide) (by decide)
theorem ok_share (T : Lay K mg) : FnOk P w K mg base CX0 1 T.a_share T.d_share ["n", "d"] spShare := by
  refine T.f_share.ok sc_share (fun vs H Q E h => ?_) (fun cdv A outer s H vs Q E hr h => ?_)
  · obtain ⟨n, d, rfl, _⟩ := h
    rfl
  · obtain ⟨n, d, rfl, h0, hb, q⟩ := h
    refine ⟨_, (pss_cons (ps_set (i := 2) sc_share.nd rfl (Or.inl rfl) (pe_callBfun cr_gcd rfl T.m_gcd (pa_cons (pv 0) (pa_cons (pv 1) pa_nil))))
    (pss_one (ps_ret (pe_tup (pa_cons (pe_op op_fdivW (pv 0) (pv 2)) (pa_cons (pe_op op_fdivW (pv 1) (pv 2)) pa_nil)))))), ?_⟩
    refine ⟨_, rfl, _, rfl, n, d, rfl, ?_⟩
    exact ⟨_, rfl, _, rfl, n, _, rfl, rfl, gcd_div h0 hb, _, rfl, _, rfl, d, _, rfl, rfl, gcd_div h0 hb, sz_ok (show 2 ≤ 1000000 by decide), q⟩
end
end My

namespace My
open PySem PySem.Spec PyProof.Rows L2
open PySem.W (Datum Tup)
/-! ### plain functions: draws, dice -/
def cellN (ns : List Int) (k : Int) : Int := if ns = [] then 0 else 31 * ns.sum + ns.getD (k % (ns.length : Int)).toNat 0
def drawN (ns : List Int) (k : Int) : Int :=
  (cellN ns k % 1000000007 + 7919 * k + 13) * (cellN ns k % 1000000007 + 7919 * k + 13) % 1000000007 * (cellN ns k % 1000000007 + 7919 * k + 13) % 998244353 / 11
theorem draw_range (ns : List Int) (k : Int) : 0 ≤ drawN ns k ∧ drawN ns k < 90749487 := by
  unfold drawN
  generalize (cellN ns k % 1000000007 + 7919 * k + 13) * (cellN ns k % 1000000007 + 7919 * k + 13) % 1000000007 * (cellN ns k % 1000000007 + 7919 * k + 13) = z
  omega
def faceN (ns : List Int) (k top num : Int) (found : List Int) (j : Int) : Int :=
  if found ≠ [] ∧ num / 16 % 4 = 1 ∧ drawN ns (k + 1 + j) % (top + 1) % 3 = 0 then found.getD 0 0 else drawN ns (k + 1 + j) % (top + 1)
def dieFold (ns : List Int) (k top num : Int) : Nat → List Int
  | 0 => []
  | m + 1 => dieFold ns k top num m ++ [faceN ns k top num (dieFold ns k top num m) m]
def dieL (ns : List Int) (k most top : Int) : List Int := dieFold ns k top (drawN ns k) (1 + drawN ns k % most).toNat
theorem dieFold_len (ns : List Int) (k top num : Int) : ∀ m, (dieFold ns k top num m).length = m
  | 0 => rfl
  | m + 1 => by
    rw [dieFold, List.length_append, dieFold_len ns k top num m]
    rfl
theorem getD_mem0 {l : List Int} (h : l ≠ []) : l.getD 0 0 ∈ l := by
  cases l with
  | nil => exact absurd rfl h
  | cons a r => exact List.mem_cons_self
theorem dieFold_mem (ns : List Int) {k top num : Int} (ht : 0 ≤ top) : ∀ m, ∀ f ∈ dieFold ns k top num m, 0 ≤ f ∧ f ≤ top
  | 0, f, h => by simp [dieFold] at h
  | m + 1, f, h => by
    rw [dieFold] at h
    have ih := dieFold_mem ns (k := k) (num := num) ht m
    have p : 0 ≤ drawN ns (k + 1 + m) % (top + 1) ∧ drawN ns (k + 1 + m) % (top + 1) ≤ top :=
      ⟨Int.emod_nonneg _ (by omega), by have := Int.emod_lt_of_pos (drawN ns (k + 1 + m)) (show 0 < top + 1 by omega); omega⟩
    rcases List.mem_append.mp h with q | q
    · exact ih f q
    · rw [List.mem_singleton.mp q, faceN]
      split
      · rename_i c
        exact ih _ (getD_mem0 c.1)
      · exact p
theorem dieL_len (ns : List Int) (k top : Int) {most : Int} (hm : 0 < most) : 1 ≤ (dieL ns k most top).length ∧ ((dieL ns k most top).length : Int) ≤ most := by
  have h1 := Int.emod_nonneg (drawN ns k) (show most ≠ 0 by omega)
  have h2 := Int.emod_lt_of_pos (drawN ns k) hm
  unfold dieL
  rw [dieFold_len]
  omega
theorem dieL_mem (ns : List Int) {k most top : Int} (ht : 0 ≤ top) : ∀ f ∈ dieL ns k most top, 0 ≤ f ∧ f ≤ top := dieFold_mem ns ht _
section
variable {P : Program} {w : World} {K : PySem.W.Frag} {mg : Str → Option Value} {base : Heap}
/-! ### the mean -/
theorem ints_of_faces : ∀ xs : List V, xs.all faceB = true → ∃ ns : List Int, xs = ns.map V.int
  | [], _ => ⟨[], rfl⟩
  | x :: r, h => by
    rw [List.all_cons, Bool.and_eq_true] at h
    obtain ⟨ns, e⟩ := ints_of_faces r h.2
    cases x with
    | int i => exact ⟨i :: ns, by rw [e]; rfl⟩
    | _ => exact absurd h.1 (by simp [faceB])
def spMean (C : Addr) : Sp := fun vs H Q E => ∃ v, vs = [v] ∧ Thing H v ∧
  (∀ (a : Addr) (ns : List Int), v = .ref a → H a = some (.lst (ns.map V.int)) → dieB (ns.map V.int) = true → ∀ H' p, Same H H' → H p = none → H' p = some (.tup ((shareL ns.sum ns.length).map V.int)) → Q (.ref p) H') ∧
  (dieV H v = false → ∀ H', Same H H' → E (.ref C) none H')
theorem dieB_all {xs : List V} (h : dieB xs = true) : 1 ≤ xs.length ∧ xs.length ≤ 8 ∧ xs.all faceB = true := by
  simp only [dieB, Bool.and_eq_true, decide_eq_true_eq] at h
  exact ⟨h.1.1, h.1.2, h.2⟩
theorem ok_mean (T : Lay K mg) : FnOk P w K mg base (L2.CX P w) 5 T.a_mean T.d_mean ["die"] (spMean T.a_BadDie) := by
  refine T.f_mean.okX sc_mean (fun vs H Q E h => ?_) (fun cdv A outer s H vs Q E hr h => ?_)
  · obtain ⟨v, rfl, _⟩ := h
    rfl
  · obtain ⟨v, rfl, th, q1, q2⟩ := h
    have tk : Takes (cxOf (L2.CX P w) P w K mg base nm_mean "mean" (defScope st_mean) T.a_mean cdv A outer s H E) (fun cls d _ H => E cls d H) := takes_of rfl rfl rfl rfl
    refine ⟨_, (pss_cons (ps_expr (pe_call (ok_need_die T) (hr.mono (by decide)) (by rfl) T.g_need_die T.f_need_die.kp T.b_need_die .nil (passes_call tk fun _ _ _ _ h => h) (pa_cons (pv 0) pa_nil)))
    (pss_one (ps_ret (pe_call (ok_share T) (hr.mono (by decide)) (by rfl) T.g_share T.f_share.kp T.b_share .nil pass0 (pa_cons (pe_callB (cr_sum rfl) (by rfl) T.n_sum (by decide +kernel) (pa_cons (pv 0) pa_nil)) (pa_cons (pe_callB call_len_seq (by rfl) T.n_len PySem.boot_len (pa_cons (pv 0) pa_nil)) pa_nil)))))), ?_⟩
    refine ⟨v, rfl, v, rfl, th, fun hd H1 e1 => ?_, fun hd H1 e1 => q2 hd H1 e1⟩
    -- it is a die
    unfold dieV at hd
    split at hd
    · rename_i xs hl
      obtain ⟨a, rfl, ha⟩ := lstOf_some hl
      obtain ⟨h1, h2, h3⟩ := dieB_all hd
      obtain ⟨ns, rfl⟩ := ints_of_faces xs h3
      rw [List.length_map] at h1 h2
      have hS := sq_of (K := K) (e1 _ _ ha)
      refine ⟨_, rfl, a, ns, rfl, hS, _, rfl, a, _, rfl, .inl hS, ns.sum, _, rfl, ?_, ?_, fun p np => ?_⟩
      · rw [List.length_map]
        omega
      · rw [List.length_map]
        exact Nat.lt_of_le_of_lt (show (ns.length : Int).natAbs ≤ 8 by omega) (by decide +kernel)
      · refine q1 a ns rfl ha hd _ p (same_old e1 (Same.free e1 np)) (Same.free e1 np) ?_
        rw [upd_same, List.length_map]
    · cases hd
/-! ### a draw -/
def spDraw (K : PySem.W.Frag) : Sp := fun vs H Q _ => ∃ (a : Addr) (ns : List Int) (k : Int), vs = [.ref a, .int k] ∧ SqL K H a (ns.map V.int) ∧ ns.length ≤ 1000 ∧ 0 ≤ k ∧ k ≤ 1000000 ∧ ∀ H', Same H H' → Q (.int (drawN ns k)) H'
theorem ok_law_draw (T : Lay K mg) : FnOk P w K mg base CX0 1 T.a_law_draw T.d_law_draw ["_law_script", "_law_k"] (spDraw K) := by
  refine T.f_law_draw.ok sc_law_draw (fun vs H Q E h => ?_) (fun cdv A outer s H vs Q E hr h => ?_)
  · obtain ⟨a, ns, k, rfl, _⟩ := h
    rfl
  · obtain ⟨a, ns, k, rfl, hS, hl, h0, h1, q⟩ := h
    refine ⟨_, (pss_cons (ps_set (i := 2) sc_law_draw.nd rfl (Or.inl rfl) pe_int)
    (pss_cons (ps_if (pt_cmpR (op_neP hr.units) (pv 0) (pe_lst pa_nil) (nomark _)) (pss_one (ps_set (i := 2) sc_law_draw.nd rfl (Or.inl rfl) (pe_op op_add (pe_op op_mul pe_int (pe_callB (cr_sum rfl) (by rfl) T.n_sum (by decide +kernel) (pa_cons (pv 0) pa_nil))) (pe_ix ix_list (pv 0) (pe_op op_mod (pv 1) (pe_callB call_len_seq (by rfl) T.n_len PySem.boot_len (pa_cons (pv 0) pa_nil))) (fun _ _ => rfl))))) pss_nil)
    (pss_cons (ps_set (i := 3) sc_law_draw.nd rfl (Or.inl rfl) (pe_op op_add (pe_op op_add (pe_op op_mod (pv 2) pe_int) (pe_op op_mul pe_int (pv 1))) pe_int))
    (pss_one (ps_ret (pe_op op_fdiv (pe_op op_mod (pe_op op_mul (pe_op op_mod (pe_op op_mul (pv 3) (pv 3)) pe_int) (pv 3)) pe_int) pe_int)))))), ?_⟩
    refine ⟨_, rfl, Nat.zero_le _, fun p np => ?_⟩
    have e1 : Same H (upd H p (.lst [])) := same_new np
    have hS1 := e1.seq hS
    -- the rest, from a cell
    have rest : ∀ c : Int, c = cellN ns k → tSeq (tAsg (tOp (rI0 fun i j => .int (i + j)) (tOp (rI0 fun i j => .int (i + j)) (tOp (rI (fun _ j => 0 < j) fun i j => .int (i % j)) (tVar 2) (tC (.int 1000000007))) (tOp (rI CMul fun i j => .int (i * j)) (tC (.int 7919)) (tVar 1))) (tC (.int 13))) (gName 3))
        (tRet (tOp (rI CDiv fun i j => .int (i / j)) (tOp (rI (fun _ j => 0 < j) fun i j => .int (i % j)) (tOp (rI CMul fun i j => .int (i * j)) (tOp (rI (fun _ j => 0 < j) fun i j => .int (i % j)) (tOp (rI CMul fun i j => .int (i * j)) (tVar 3) (tVar 3)) (tC (.int 1000000007))) (tVar 3)) (tC (.int 998244353))) (tC (.int 11))))
        { nx := fun _ H' => Q .non H', rt := Q } [some (.ref a), some (.int k), some (.int c), none] (upd H p (.lst [])) := by
      intro c hc
      have hm : 0 ≤ c % 1000000007 ∧ c % 1000000007 < 1000000007 := by omega
      have hb : -(2 ^ 64) < c % 1000000007 + 7919 * k + 13 ∧ c % 1000000007 + 7919 * k + 13 < 2 ^ 64 := by omega
      refine ⟨_, rfl, c, _, rfl, rfl, md rfl, _, rfl, _, _, rfl, rfl, .inl (by decide), _, _, rfl, rfl, _, _, rfl, rfl, ?_⟩
      refine ⟨_, rfl, _, rfl, _, _, rfl, rfl, .inl hb, _, _, rfl, rfl, md rfl, _, rfl, _, _, rfl, rfl, .inr hb, _, _, rfl, rfl, md rfl, _, _, rfl, rfl, dv rfl, ?_⟩
      have := q _ e1
      rw [hc]
      exact this
    refine ne_is (is_ints hS1) (is_list (α := Int) (sq_of upd_same) .nil) ⟨_, rfl, iteND (fun hn => ?_) (fun hn => ?_)⟩
    · have hpos : 0 < ns.length := by
        cases ns with
        | nil => exact absurd rfl hn
        | cons x r => exact Nat.succ_pos _
      have hi0 := Int.emod_nonneg k (show (ns.length : Int) ≠ 0 by omega)
      have hi1 := Int.emod_lt_of_pos k (show 0 < (ns.length : Int) by omega)
      have hi : (k % (ns.length : Int)).toNat < ns.length := by omega
      refine ⟨_, rfl, a, ns, rfl, hS1, _, _, rfl, rfl, .inl (by decide), ?_⟩
      refine ⟨_, rfl, _, rfl, _, rfl, a, _, rfl, .inl hS1, k, _, rfl, rfl, (by rw [List.length_map]; omega), ?_⟩
      refine ⟨a, _, _, .int (ns.getD (k % (ns.length : Int)).toNat 0), rfl, rfl, hS1, ?_, _, _, rfl, rfl, ?_⟩
      · refine at_of (j := (k % (ns.length : Int)).toNat) ?_ ?_
        · rw [List.length_map]
          omega
        · rw [List.getElem?_map, List.getElem?_eq_getElem hi, List.getD_eq_getElem?_getD, List.getElem?_eq_getElem hi]
          rfl
      · refine rest _ ?_
        rw [cellN, if_neg hn]
    · refine rest 0 ?_
      rw [cellN, if_pos hn]
/-! ### a drawn die -/
def spDie (K : PySem.W.Frag) : Sp := fun vs H Q _ => ∃ (a : Addr) (ns : List Int) (k most top : Int), vs = [.ref a, .int k, .int most, .int top] ∧ SqL K H a (ns.map V.int) ∧ ns.length ≤ 1000 ∧ 0 ≤ k ∧ k ≤ 900000 ∧ 0 < most ∧ most ≤ 1000 ∧ 0 ≤ top ∧ top ≤ 1000000 ∧
  ∀ H' p, Same H H' → H p = none → H' p = some (.lst ((dieL ns k most top).map V.int)) → Q (.ref p) H'
theorem ok_law_die (T : Lay K mg) : FnOk P w K mg base CX0 2 T.a_law_die T.d_law_die ["_law_script", "_law_k", "_law_most", "_law_top"] (spDie K) := by
  refine T.f_law_die.ok sc_law_die (fun vs H Q E h => ?_) (fun cdv A outer s H vs Q E hr h => ?_)
  · obtain ⟨a, ns, k, most, top, rfl, _⟩ := h
    rfl
  · obtain ⟨a, ns, k, most, top, rfl, hS, hl, h0, h1, m0, m1, t0, t1, q⟩ := h
    refine ⟨_, (pss_cons (ps_set (i := 4) sc_law_die.nd rfl (Or.inl rfl) (pe_call (ok_law_draw T) (hr.mono (by decide)) (by rfl) T.g_law_draw T.f_law_draw.kp T.b_law_draw .nil pass0 (pa_cons (pv 0) (pa_cons (pv 1) pa_nil))))
    (pss_cons (ps_set (i := 5) sc_law_die.nd rfl (Or.inl rfl) (pe_lst pa_nil))
    (pss_cons (ps_for PassesOwn.never rfl (pi_range1 (by rfl) T.n_range (pa_cons (pe_op op_add pe_int (pe_op op_mod (pv 4) (pv 2))) pa_nil)) (pg_name (i := 6) sc_law_die.nd rfl (Or.inl rfl)) (pss_cons (ps_set (i := 7) sc_law_die.nd rfl (Or.inl rfl) (pe_op op_mod (pe_call (ok_law_draw T) (hr.mono (by decide)) (by rfl) T.g_law_draw T.f_law_draw.kp T.b_law_draw .nil pass0 (pa_cons (pv 0) (pa_cons (pe_op op_add (pe_op op_add (pv 1) pe_int) (pv 6)) pa_nil))) (pe_op op_add (pv 3) pe_int)))
    (pss_cons (ps_if (PW.pt (pw_and (pt_cmpR (op_neP hr.units) (pv 5) (pe_lst pa_nil) (nomark _)) (pw_and (pt_cmpR op_eq (pe_op op_mod (pe_op op_fdiv (pv 4) pe_int) pe_int) pe_int (nomark _)) (pw_and1 (pt_cmpR op_eq (pe_op op_mod (pv 7) pe_int) pe_int (nomark _)))))) (pss_one (ps_set (i := 7) sc_law_die.nd rfl (Or.inl rfl) (pe_ix ix_list (pv 5) pe_int (fun _ _ => rfl)))) pss_nil)
    (pss_one (ps_expr (pe_bm PySem.F.plainAttrs_list PySem.F.slot_list_append PySem.F.type_list_append mt_append (pv 5) (pa_cons (pv 7) pa_nil)))))))
    (pss_one (ps_ret (pv 5)))))), ?_⟩
    refine ⟨_, rfl, _, rfl, a, ns, k, rfl, hS, hl, h0, by omega, fun H1 e1 => ?_⟩
    refine ⟨Nat.zero_le _, fun f nf => ?_⟩
    have nf0 := Same.free e1 nf
    have hr1 := Int.emod_nonneg (drawN ns k) (show most ≠ 0 by omega)
    have hr2 := Int.emod_lt_of_pos (drawN ns k) m0
    refine ⟨_, rfl, _, rfl, drawN ns k, most, rfl, rfl, m0, _, _, rfl, rfl, _, rfl, by omega, by omega, ?_⟩
    refine for_range (lo := 0) (n := (1 + drawN ns k % most).toNat)
      (fun i σ H' => ∃ y1 y2, σ = [some (.ref a), some (.int k), some (.int most), some (.int top), some (.int (drawN ns k)), some (.ref f), y1, y2] ∧ Same H H' ∧ H' f = some (.lst ((dieFold ns k top (drawN ns k) i).map V.int)))
      ⟨none, none, rfl, same_old e1 nf0, upd_same⟩ ?_ ?_
    · rintro i σ H2 hi ⟨y1, y2, rfl, e2, hf⟩
      refine ⟨_, rfl, _, rfl, k, 1, rfl, rfl, _, rfl, _, _, rfl, rfl, a, ns, k + 1 + (0 + (i : Int)), rfl, e2.seq hS, hl, by omega, by omega, fun H3 e3 => ?_⟩
      refine ⟨_, rfl, top, 1, rfl, rfl, _, _, rfl, rfl, by omega, ?_⟩
      have hz : (0 : Int) + (i : Int) = (i : Int) := by omega
      rw [hz]
      -- the end of a turn
      have e23 := e2.trans e3
      have turn : ∀ (z : Int) (H4 : Hp), z = faceN ns k top (drawN ns k) (dieFold ns k top (drawN ns k) i) i → Same H3 H4 → tDrop (tBM K "list" rAppend (tVar 5) (tCons (tVar 7) tNil))
          { nx := fun σ H' => ∃ y1 y2, σ = [some (.ref a), some (.int k), some (.int most), some (.int top), some (.int (drawN ns k)), some (.ref f), y1, y2] ∧ Same H H' ∧ H' f = some (.lst ((dieFold ns k top (drawN ns k) (i + 1)).map V.int)), rt := fun _ _ => False }
          [some (.ref a), some (.int k), some (.int most), some (.int top), some (.int (drawN ns k)), some (.ref f), some (.int (i : Int)), some (.int z)] H4 := by
        intro z H4 hz4 e4
        have hf4 := e4 _ _ (e3 _ _ hf)
        refine ⟨_, rfl, .inl ⟨rfl, _, sq_of hf4⟩, _, rfl, f, _, _, rfl, rfl, hf4, sz_lt (by rw [List.length_map, dieFold_len]; omega), _, _, rfl, same_old (e23.trans e4) nf0, ?_⟩
        rw [upd_same, dieFold, List.map_append, ← hz4]
        rfl
      have hfl3 := e3 _ _ hf
      refine ⟨_, rfl, Nat.zero_le _, fun p np => ?_⟩
      have e5 : Same H3 (upd H3 p (.lst [])) := same_new np
      refine ne_is (is_ints (sq_of (e5 _ _ hfl3))) (is_list (α := Int) (sq_of upd_same) .nil) ⟨_, rfl, iteND (fun hn => ?_) (fun hn => ?_)⟩
      · refine ⟨_, rfl, _, _, rfl, rfl, dv rfl, _, _, rfl, rfl, md rfl, rfl, _, rfl, iteD (fun c1 => ?_) (fun c1 => ?_)⟩
        · refine ⟨_, rfl, _, _, rfl, rfl, md rfl, rfl, _, rfl, ?_⟩
          by_cases c2 : drawN ns (k + 1 + (i : Int)) % (top + 1) % 3 = 0
          · have c2' : decide (V.int (drawN ns (k + 1 + (i : Int)) % (top + 1) % 3) = V.int 0) = true := decide_eq_true (congrArg V.int c2)
            rw [c2']
            refine iteT ⟨_, rfl, f, _, 0, .int ((dieFold ns k top (drawN ns k) i).getD 0 0), rfl, rfl, sq_of (e5 _ _ hfl3), ?_, ?_⟩
            · refine atI_nat (j := 0) ?_
              cases hfd : dieFold ns k top (drawN ns k) i with
              | nil => exact absurd hfd hn
              | cons x r => rfl
            · refine turn _ _ ?_ e5
              rw [faceN, if_pos ⟨hn, V.int.inj c1, c2⟩]
          · have c2' : decide (V.int (drawN ns (k + 1 + (i : Int)) % (top + 1) % 3) = V.int 0) = false := decide_eq_false fun z => c2 (V.int.inj z)
            rw [c2']
            refine iteF (turn _ _ ?_ e5)
            rw [faceN, if_neg fun c => c2 c.2.2]
        · refine iteF (turn _ _ ?_ e5)
          rw [faceN, if_neg fun c => c1 (congrArg V.int c.2.1)]
      · refine iteF (turn _ _ ?_ e5)
        rw [faceN, if_neg fun c => c.1 hn]
    · rintro σ H2 ⟨y1, y2, rfl, e2, hf⟩
      exact ⟨_, rfl, q H2 f e2 nf0 hf⟩
/-! ### whole numbers, shares as told, lowest terms -/
theorem ok_law_whole (T : Lay K mg) : FnOk P w K mg base CX0 1 T.a_law_whole T.d_law_whole ["_law_found"] spNumber := by
  refine T.f_law_whole.ok sc_law_whole (fun vs H Q E h => ?_) (fun cdv A outer s H vs Q E hr h => ?_)
  · obtain ⟨v, n, rfl, _⟩ := h
    rfl
  · obtain ⟨v, n, rfl, hk, q⟩ := h
    refine ⟨_, (pss_one (ps_ret (pe_and (pe_callB call_isi (by rfl) T.n_isinstance (by decide +kernel) (pa_cons (pv 0) (pa_cons (pe_bltn (v := .ty "int") (by rfl) T.n_int (by decide +kernel) rfl) pa_nil))) (pe_one (pe_not (pe_callB call_isi (by rfl) T.n_isinstance (by decide +kernel) (pa_cons (pv 0) (pa_cons (pe_bltn (v := .ty "bool") (by rfl) T.n_bool (by decide +kernel) rfl) pa_nil)))))))), ?_⟩
    exact ⟨v, rfl, _, _, _, _, _, rfl, .ty _, hk.ty, kit_ty hk.kInt, by
      obtain ⟨c, e, h⟩ := num_read (K := K) (D := { nx := fun _ _ => True, rt := fun _ _ => True }) (σ := []) hk q
      refine ⟨c, e, ?_⟩
      cases c with
      | true => exact iteT ⟨v, rfl, (if_pos rfl).mp h⟩
      | false => exact iteF ((if_neg Bool.false_ne_true).mp h)⟩
def spLawIs : Sp := fun vs H Q _ => ∃ (p r : Addr) (xs ys : List Int), vs = [.ref p, .ref r] ∧ H p = some (.tup (xs.map V.int)) ∧ H r = some (.tup (ys.map V.int)) ∧ xs.length ≤ 1000 ∧ ∀ H', Same H H' → Q (.bl (decide (xs = ys))) H'
theorem all_true {α : Type} : ∀ l : List α, (l.map fun _ => true).all id = true
  | [] => rfl
  | _ :: r => by rw [List.map_cons, List.all_cons, all_true r]; rfl
theorem ok_law_is (T : Lay K mg) : FnOk P w K mg base CX0 2 T.a_law_is T.d_law_is ["_law_found", "_law_due"] spLawIs := by
  refine T.f_law_is.ok sc_law_is (fun vs H Q E h => ?_) (fun cdv A outer s H vs Q E hr h => ?_)
  · obtain ⟨p, r, xs, ys, rfl, _⟩ := h
    rfl
  · obtain ⟨p, r, xs, ys, rfl, hp, hq, hl, q⟩ := h
    refine ⟨_, (pss_one (ps_ret (pe_and (pe_callB call_isi (by rfl) T.n_isinstance (by decide +kernel) (pa_cons (pv 0) (pa_cons (pe_bltn (v := .ty "tuple") (by rfl) T.n_tuple (by decide +kernel) rfl) pa_nil))) (pe_and (pe_cmpR (op_eqP hr.units) (pv 0) (pv 1) (nomark _)) (pe_one (pe_callB (cr_all rfl) (by rfl) T.n_all (by decide +kernel) (pa_cons (pe_lc (own := [("_law_part", 2)]) (g := (gName 2)) rfl sc_law_is.nd (pi_tup (pv 0)) (blkOk_by (N := nm_law_is) (sc := defScope st_law_is) (by decide +kernel)) (fun _ _ _ _ _ => (pg_name (i := 2) sc_law_is.nd rfl (Or.inl rfl))) (fun _ _ _ _ _ => pts_nil) (fun _ _ _ _ _ => (pe_call (ok_law_whole T) (hr.mono (by decide)) (by rfl) T.g_law_whole T.f_law_whole.kp T.b_law_whole .nil pass0 (pa_cons (pv 2) pa_nil)))) pa_nil))))))), ?_⟩
    refine ⟨_, rfl, _, _, _, _, _, rfl, .ty _, (Kd.tup hp).ty, kit_ty (by decide +kernel), _, rfl, iteT ?_⟩
    refine ⟨_, rfl, _, rfl, eq_is (is_tup (st_of hp) (.ints xs)) (is_tup (st_of hq) (.ints ys)) ⟨_, rfl, iteD (fun e => ?_) (fun e => ?_)⟩⟩
    · have e' : xs = ys := congrArg Tup.items e
      refine ⟨_, rfl, p, rfl, ⟨_, st_of hp⟩, fun D nD => ?_⟩
      refine lt_all (K := K) (fun _ => .bl true) nD hp (by rw [List.length_map]; omega) (fun x H' R hx e r N => ?_) (fun H' e1 hD => ?_)
      · obtain ⟨i, _, rfl⟩ := List.mem_map.mp hx
        exact ⟨rfl, iteT (B := N H') ⟨_, rfl, _, _, rfl, .int i, r H' (Same.refl H')⟩⟩
      · refine ⟨D, xs.map fun _ => true, rfl, ?_, ?_⟩
        · have e2 : (xs.map V.int).map (fun _ => V.bl true) = (xs.map fun _ => true).map V.bl := by
            rw [List.map_map, List.map_map]
            rfl
          rw [e2] at hD
          exact sq_of hD
        · rw [all_true]
          have := q H' e1
          rw [decide_eq_true e'] at this
          exact this
    · have := q H (Same.refl H)
      rw [decide_eq_false fun z => e (congrArg Tup.mk z)] at this
      exact this
end
end My

namespace My
open PySem PySem.Spec PyProof.Rows L2
open PySem.W (Datum Tup)
section
variable {P : Program} {w : World} {K : PySem.W.Frag} {mg : Str → Option Value} {base : Heap}
/-! ### lowest terms, by going down through rests -/
theorem gcdZ_rest {a b : Int} (ha : 0 ≤ a) (hb : 0 < b) : Nat.gcd b.natAbs (a % b).natAbs = Nat.gcd a.natAbs b.natAbs := by
  have e : (a % b).natAbs = a.natAbs % b.natAbs := by
    have h := Int.natAbs_emod_of_nonneg (a := a) (b := b) ha
    exact h
  rw [e, Nat.gcd_comm a.natAbs b.natAbs, Nat.gcd_rec b.natAbs a.natAbs, Nat.gcd_comm]
def spLowest : Sp := fun vs H Q _ => ∃ n d : Int, vs = [.int n, .int d] ∧ 0 ≤ n ∧ 0 < d ∧ d.natAbs < 2 ^ 8000 ∧ ∀ p, H p = none → Q (.ref p) (upd H p (.tup ((shareL n d).map V.int)))
theorem ok_law_lowest (T : Lay K mg) : FnOk P w K mg base CX0 1 T.a_law_lowest T.d_law_lowest ["_law_n", "_law_d"] spLowest := by
  refine T.f_law_lowest.ok sc_law_lowest (fun vs H Q E h => ?_) (fun cdv A outer s H vs Q E hr h => ?_)
  · obtain ⟨n, d, rfl, _⟩ := h
    rfl
  · obtain ⟨n, d, rfl, hn, hd, hb, q⟩ := h
    refine ⟨_, (pss_cons (ps_par (i := 2) (j := 3) (by rfl) sc_law_lowest.nd rfl rfl (by decide) rfl rfl (pa_cons (pe_callB (call_max2 rfl) (by rfl) T.n_max (by decide +kernel) (pa_cons (pv 0) (pa_cons (pv 1) pa_nil))) (pa_cons (pe_callB (call_min2 rfl) (by rfl) T.n_min (by decide +kernel) (pa_cons (pv 0) (pa_cons (pv 1) pa_nil))) pa_nil)) (by rfl))
    (pss_cons (ps_while PassesOwn.never (pt_cmpR op_ne (pv 3) pe_int (nomark _)) (pss_one (ps_par (i := 2) (j := 3) (by rfl) sc_law_lowest.nd rfl rfl (by decide) rfl rfl (pa_cons (pv 3) (pa_cons (pe_op op_mod (pv 2) (pv 3)) pa_nil)) (by rfl))))
    (pss_one (ps_ret (pe_tup (pa_cons (pe_op op_fdivW (pv 0) (pv 2)) (pa_cons (pe_op op_fdivW (pv 1) (pv 2)) pa_nil))))))), ?_⟩
    refine ⟨_, rfl, _, rfl, n, d, rfl, _, rfl, _, rfl, n, d, rfl, _, _, rfl, ?_⟩
    refine while_by (fun σ H' => ∃ a b : Int, σ = [some (.int n), some (.int d), some (.int a), some (.int b)] ∧ H' = H ∧ 0 ≤ a ∧ 0 ≤ b ∧ Nat.gcd a.natAbs b.natAbs = Nat.gcd n.natAbs d.natAbs)
      (fun σ _ => match σ with | [_, _, _, some (.int b)] => b.natAbs | _ => 0) ⟨_, _, rfl, rfl, ?_, ?_, ?_⟩ ?_ ?_
    · split <;> omega
    · split <;> omega
    · by_cases c : d > n
      · have c2 : ¬ d < n := by omega
        rw [if_pos c, if_neg c2, Nat.gcd_comm]
      · rw [if_neg c]
        by_cases c2 : d < n
        · rw [if_pos c2]
        · have e : d = n := by omega
          rw [if_neg c2, e]
    · rintro σ H' ⟨a, b, rfl, rfl, ha, hb0, hg⟩
      refine ⟨_, rfl, rfl, _, rfl, iteND (fun c => ?_) (fun c => ?_)⟩
      · have hb1 : 0 < b := by
          have : b ≠ 0 := fun z => c (congrArg V.int z)
          omega
        have r0 := Int.emod_nonneg a (show b ≠ 0 by omega)
        have r1 := Int.emod_lt_of_pos a hb1
        refine ⟨_, rfl, _, rfl, _, rfl, a, b, rfl, rfl, hb1, _, _, rfl, ⟨b, a % b, rfl, rfl, by omega, r0, ?_⟩, ?_⟩
        · rw [gcdZ_rest ha hb1, hg]
        · show (a % b).natAbs < b.natAbs
          omega
      · have hb1 : b = 0 := V.int.inj c
        subst hb1
        have e : a = gcdZ n d := by
          have h2 : Nat.gcd a.natAbs (0 : Int).natAbs = a.natAbs := Nat.gcd_zero_right _
          rw [h2] at hg
          unfold gcdZ
          omega
        subst e
        exact ⟨_, rfl, _, rfl, n, _, rfl, rfl, gcd_div hd hb, _, rfl, _, rfl, d, _, rfl, rfl, gcd_div hd hb, sz_ok (show 2 ≤ 1000000 by decide), q⟩
    · rintro σ H' R R' mono ⟨v, e, hs, k, ek, r⟩
      exact ⟨v, e, hs, k, ek, mono _ _ r⟩
/-! ### the word of a refusal -/
/-- isinstance answers b of v and the class at C, wherever the heap has gone -/
def Ans (K : PySem.W.Frag) (H : Hp) (v c : V) (b : Bool) : Prop := ∀ (Q : VK) (H' : Hp), Same H H' → Q (.bl b) H' → rIsi K [v, c] H' Q ∨ rIsX K [v, c] H' Q
/-- what is known of an error (or of None) that _law_word is asked about -/
structure Err (T : Lay K mg) (H : Hp) (v : V) (c1 c2 c3 c4 c5 : Bool) : Prop where
  counts : Ans K H v (.ref T.a_BadCounts) c1
  dice : Ans K H v (.ref T.a_BadDice) c2
  die : Ans K H v (.ref T.a_BadDie) c3
  number : Ans K H v (.ref T.a_BadNumber) c4
  text : Ans K H v (.ref T.a_BadText) c5
  some_ : v ≠ .non → Ans K H v (.ref T.a_DiceError) true ∧ Ans K H v (.ty "ValueError") true
def wordsOf (c1 c2 c3 c4 c5 : Bool) : List Str :=
  (if c1 then [("counts" : Str)] else []) ++ ((if c2 then [("dice" : Str)] else []) ++ ((if c3 then [("die" : Str)] else []) ++ ((if c4 then [("number" : Str)] else []) ++ (if c5 then [("text" : Str)] else []))))
def spWord (T : Lay K mg) : Sp := fun vs H Q _ => ∃ v c1 c2 c3 c4 c5, vs = [v] ∧ Err T H v c1 c2 c3 c4 c5 ∧
  ∀ H' p, Same H H' → H p = none → H' p = some (.lst ((wordsOf c1 c2 c3 c4 c5).map V.str)) → Q (.ref p) H'
/-- a pair's two sides, read off the heap -/
def flagAt (H : Hp) : V → Bool
  | .ref t => (match H t with
    | some (.tup [_, .bl b]) => b
    | _ => false)
  | _ => false
def headAt (H : Hp) : V → V
  | .ref t => (match H t with
    | some (.tup [a, _]) => a
    | _ => .non)
  | _ => .non
theorem flag_at {H : Hp} {t : Addr} {a : V} {b : Bool} (h : H t = some (.tup [a, .bl b])) : flagAt H (.ref t) = b := by
  show (match H t with
    | some (.tup [_, .bl b]) => b
    | _ => false) = b
  rw [h]
theorem head_at {H : Hp} {t : Addr} {a c : V} (h : H t = some (.tup [a, c])) : headAt H (.ref t) = a := by
  show (match H t with
    | some (.tup [a, _]) => a
    | _ => .non) = a
  rw [h]
/-- [a for a, b in pairs if b] -/
theorem lc_flags {a : Addr} {xs : List V} {g : TG} {tt : TT} {te : TE} {vs : List Nat} {σ : L2.St} {H1 : Hp} {D : Addr} {Qd : Hp → Prop}
    (nD : H1 D = none) (hS : SqL K H1 a xs) (len : xs.length < 1000000)
    (hs : ∀ x H' (R : V → Hp → Prop) (N : Hp → Prop), x ∈ xs → Same H1 H' → (flagAt H1 x = true → ∀ H4, Same H' H4 → R (headAt H1 x) H4) → (flagAt H1 x = false → ∀ H4, Same H' H4 → N H4) →
      g x (wipe σ vs) H' fun σ2 H2 => wipe σ2 vs = wipe σ vs ∧ tt σ2 H2 fun b H3 => if b = true then te σ2 H3 R else N H3)
    (hd : ∀ H', Same H1 H' → H' D = some (.lst ((xs.filter (flagAt H1)).map (headAt H1))) → Qd H') :
    ∃ W : Nat → Nat → Hp → Prop, (∃ m, W 0 m (upd H1 D (.lst []))) ∧ ∀ i m H, W i m H →
      ((Itl K a).stop i H ∧ Qd H) ∨ ((Itl K a).go i H ∧ ∃ Nx : Hp → Prop, (∀ H', Nx H' → ∃ m', m' < m ∧ W (i + 1) m' H') ∧ ∀ x H', (Itl K a).yld i H x H' → g x (wipe σ vs) H' fun σ2 H2 => wipe σ2 vs = wipe σ vs ∧ tt σ2 H2 fun b H3 =>
        if b = true then te σ2 H3 fun y H4 => ∃ acc, H4 D = some (.lst acc) ∧ acc.length < sizeLine ∧ Nx (upd H4 D (.lst (acc ++ [y]))) else Nx H3) :=
  lc_map (flagAt H1) (headAt H1) nD hS len hs hd
theorem two_ok : 2 ≤ sizeLine := sz_ok (by decide)
theorem ok_law_word (T : Lay K mg) : FnOk P w K mg base CX0 1 T.a_law_word T.d_law_word ["_law_e"] (spWord T) := by
  refine T.f_law_word.ok sc_law_word (fun vs H Q E h => ?_) (fun cdv A outer s H vs Q E hr h => ?_)
  · obtain ⟨v, _, _, _, _, _, rfl, _⟩ := h
    rfl
  · obtain ⟨v, c1, c2, c3, c4, c5, rfl, R, q⟩ := h
    refine ⟨_, (pss_cons (ps_set (i := 1) sc_law_word.nd rfl (Or.inl rfl) (pe_lst (pa_cons (pe_tup (pa_cons pe_str (pa_cons (pe_callB call_isV (by rfl) T.n_isinstance (by decide +kernel) (pa_cons (pv 0) (pa_cons (pe_glob (v := .ref T.a_BadCounts) rfl T.g_BadCounts rfl) pa_nil))) pa_nil))) (pa_cons (pe_tup (pa_cons pe_str (pa_cons (pe_callB call_isV (by rfl) T.n_isinstance (by decide +kernel) (pa_cons (pv 0) (pa_cons (pe_glob (v := .ref T.a_BadDice) rfl T.g_BadDice rfl) pa_nil))) pa_nil))) (pa_cons (pe_tup (pa_cons pe_str (pa_cons (pe_callB call_isV (by rfl) T.n_isinstance (by decide +kernel) (pa_cons (pv 0) (pa_cons (pe_glob (v := .ref T.a_BadDie) rfl T.g_BadDie rfl) pa_nil))) pa_nil))) pa_nil)))))
    (pss_cons (ps_set (i := 1) sc_law_word.nd rfl (Or.inl rfl) (pe_op op_cat (pv 1) (pe_lst (pa_cons (pe_tup (pa_cons pe_str (pa_cons (pe_callB call_isV (by rfl) T.n_isinstance (by decide +kernel) (pa_cons (pv 0) (pa_cons (pe_glob (v := .ref T.a_BadNumber) rfl T.g_BadNumber rfl) pa_nil))) pa_nil))) (pa_cons (pe_tup (pa_cons pe_str (pa_cons (pe_callB call_isV (by rfl) T.n_isinstance (by decide +kernel) (pa_cons (pv 0) (pa_cons (pe_glob (v := .ref T.a_BadText) rfl T.g_BadText rfl) pa_nil))) pa_nil))) pa_nil)))))
    (pss_cons (ps_setLc (i := 2) (y := "_law_found") (hy := rfl) (hyl := rfl) (hsw := sw_true rfl rfl rfl (by decide +kernel)) (own := [("_law_word_here", 3), ("_law_is_so", 4)]) (g := (gTup K 2 (gCons (gName 3) (gCons (gName 4) gNil)))) (hc := rfl) (hN := sc_law_word.nd) (hi := (pi_list (pv 1))) (ok := (blkOk_by (N := nm_law_word) (sc := defScope st_law_word) (by decide +kernel))) (hg := (fun _ _ _ _ _ => (pg_tup rfl (pgs_cons (pg_name (i := 3) sc_law_word.nd rfl (Or.inl rfl)) (pgs_cons (pg_name (i := 4) sc_law_word.nd rfl (Or.inl rfl)) pgs_nil))))) (ht := (fun _ _ _ _ _ => (pts_one (pt_val (pv 4))))) (he := (fun _ _ _ _ _ => (pv 3))))
    (pss_one (ps_ret (pe_op op_cat (pv 2) (pe_op op_rep (pe_lst (pa_cons pe_str pa_nil)) (pe_callTy call_int1 (by rfl) T.n_int (by decide +kernel) (pa_cons (pe_and (pe_cmpR op_notN (pv 0) pe_non (nomark _)) (pe_one (pe_or (pe_not (pe_callB call_isV (by rfl) T.n_isinstance (by decide +kernel) (pa_cons (pv 0) (pa_cons (pe_glob (v := .ref T.a_DiceError) rfl T.g_DiceError rfl) pa_nil)))) (pe_one (pe_not (pe_callB call_isV (by rfl) T.n_isinstance (by decide +kernel) (pa_cons (pv 0) (pa_cons (pe_bltn (v := .ty "ValueError") (by rfl) T.n_ValueError (by decide +kernel) rfl) pa_nil)))))))) pa_nil))))))))), ?_⟩
    refine ⟨_, rfl, R.counts _ _ (Same.refl H) ⟨two_ok, fun t1 n1 => ?_⟩⟩
    have e1 : Same H (upd H t1 (.tup [.str "counts", .bl c1])) := same_new n1
    refine ⟨_, rfl, R.dice _ _ e1 ⟨two_ok, fun t2 n2 => ?_⟩⟩
    have s2 := same_new (o := .tup [.str "dice", .bl c2]) n2
    have e2 := e1.trans s2
    refine ⟨_, rfl, R.die _ _ e2 ⟨two_ok, fun t3 n3 => ?_⟩⟩
    have s3 := same_new (o := .tup [.str "die", .bl c3]) n3
    have e3 := e2.trans s3
    refine ⟨sz_ok (show 3 ≤ 1000000 by decide), fun l1 m1 => ?_⟩
    have s4 := same_new (o := .lst [.ref t1, .ref t2, .ref t3]) m1
    have e4 := e3.trans s4
    refine ⟨_, rfl, _, rfl, R.number _ _ e4 ⟨two_ok, fun t4 n4 => ?_⟩⟩
    have s5 := same_new (o := .tup [.str "number", .bl c4]) n4
    have e5 := e4.trans s5
    refine ⟨_, rfl, R.text _ _ e5 ⟨two_ok, fun t5 n5 => ?_⟩⟩
    have s6 := same_new (o := .tup [.str "text", .bl c5]) n5
    have e6 := e5.trans s6
    refine ⟨two_ok, fun l2 m2 => ?_⟩
    have s7 := same_new (o := .lst [.ref t4, .ref t5]) m2
    have e7 := e6.trans s7
    refine ⟨l1, l2, [.ref t1, .ref t2, .ref t3], [.ref t4, .ref t5], rfl, rfl, s7 _ _ (s6 _ _ (s5 _ _ upd_same)), upd_same, sz_ok (show 5 ≤ 1000000 by decide), fun l3 m3 => ?_⟩
    have s8 := same_new (o := .lst ([.ref t1, .ref t2, .ref t3] ++ [.ref t4, .ref t5])) m3
    have e8 := e7.trans s8
    -- the comprehension
    refine ⟨_, rfl, l3, rfl, ⟨_, sq_of upd_same⟩, fun D nD => ?_⟩
    have k1 := s8 _ _ (s7 _ _ (s6 _ _ (s5 _ _ (s4 _ _ (s3 _ _ (s2 _ _ (upd_same (H := H) (a := t1) (o := .tup [.str "counts", .bl c1]))))))))
    have k2 := s8 _ _ (s7 _ _ (s6 _ _ (s5 _ _ (s4 _ _ (s3 _ _ (upd_same (a := t2) (o := .tup [.str "dice", .bl c2])))))))
    have k3 := s8 _ _ (s7 _ _ (s6 _ _ (s5 _ _ (s4 _ _ (upd_same (a := t3) (o := .tup [.str "die", .bl c3]))))))
    have k4 := s8 _ _ (s7 _ _ (s6 _ _ (upd_same (a := t4) (o := .tup [.str "number", .bl c4]))))
    have k5 := s8 _ _ (s7 _ _ (upd_same (a := t5) (o := .tup [.str "text", .bl c5])))
    clear s8 s7 s6 s5 s4 s3 s2 e7 e6 e5 e4 e3 e2 e1
    have hD : ∀ H8 : Hp, H8 t1 = some (.tup [.str "counts", .bl c1]) → H8 t2 = some (.tup [.str "dice", .bl c2]) → H8 t3 = some (.tup [.str "die", .bl c3]) → H8 t4 = some (.tup [.str "number", .bl c4]) → H8 t5 = some (.tup [.str "text", .bl c5]) →
        (([.ref t1, .ref t2, .ref t3] ++ [.ref t4, .ref t5] : List V).filter (flagAt H8)).map (headAt H8) = (wordsOf c1 c2 c3 c4 c5).map V.str := by
      intro H8 k1 k2 k3 k4 k5
      have f1 := flag_at k1
      have f2 := flag_at k2
      have f3 := flag_at k3
      have f4 := flag_at k4
      have f5 := flag_at k5
      have g1 := head_at k1
      have g2 := head_at k2
      have g3 := head_at k3
      have g4 := head_at k4
      have g5 := head_at k5
      cases c1 <;> cases c2 <;> cases c3 <;> cases c4 <;> cases c5 <;> simp [List.filter_cons, f1, f2, f3, f4, f5, g1, g2, g3, g4, g5, wordsOf]
    have hP : ∀ H8 : Hp, H8 t1 = some (.tup [.str "counts", .bl c1]) → H8 t2 = some (.tup [.str "dice", .bl c2]) → H8 t3 = some (.tup [.str "die", .bl c3]) → H8 t4 = some (.tup [.str "number", .bl c4]) → H8 t5 = some (.tup [.str "text", .bl c5]) →
        ∀ x ∈ ([.ref t1, .ref t2, .ref t3] ++ [.ref t4, .ref t5] : List V), ∃ t a b, x = .ref t ∧ H8 t = some (.tup [a, .bl b]) := by
      intro H8 k1 k2 k3 k4 k5 x hx
      rcases List.mem_append.mp hx with hx | hx
      · rcases List.mem_cons.mp hx with rfl | hx
        · exact ⟨_, _, _, rfl, k1⟩
        · rcases List.mem_cons.mp hx with rfl | hx
          · exact ⟨_, _, _, rfl, k2⟩
          · rw [List.mem_singleton.mp hx]
            exact ⟨_, _, _, rfl, k3⟩
      · rcases List.mem_cons.mp hx with rfl | hx
        · exact ⟨_, _, _, rfl, k4⟩
        · rw [List.mem_singleton.mp hx]
          exact ⟨_, _, _, rfl, k5⟩
    refine lc_flags (K := K) nD (sq_of upd_same) (show 5 < 1000000 by decide) (fun x H' R N hx e r0 r1 => ?_) (fun H' e9 h9 => ?_)
    · obtain ⟨t, a, b, rfl, h8⟩ := hP _ k1 k2 k3 k4 k5 x hx
      have ht := e _ _ h8
      have hf := flag_at h8
      have hh := head_at h8
      refine ⟨t, [a, .bl b], rfl, st_of ht, rfl, a, [.bl b], rfl, .bl b, [], rfl, rfl, rfl, .bl b, rfl, b, rfl, ?_⟩
      rw [hf] at r0 r1
      rw [hh] at r0
      cases b with
      | true => exact iteT (B := N H') ⟨_, rfl, r0 rfl H' (Same.refl H')⟩
      | false => exact iteF (r1 rfl H' (Same.refl H'))
    · rw [hD _ k1 k2 k3 k4 k5] at h9
      have e10 := e8.trans e9
      -- _law_found + ['else'] * int(..)
      refine ⟨_, rfl, sz_ok (show 1 ≤ 1000000 by decide), fun p np => ?_⟩
      have s9 : Same H' (upd H' p (.lst [.str "else"])) := same_new np
      have e11 := e10.trans s9
      have fin : ∀ H'' : Hp, Same (upd H' p (.lst [.str "else"])) H'' → rRep (.ref p) (.int 0) H'' (fun y H2 => rCat (.ref D) y H2 fun v H3 => Q v H3) := by
        intro H'' s10
        refine ⟨p, 0, _, rfl, rfl, s10 _ _ upd_same, by decide, by decide, sz_ok (show 0 ≤ 1000000 by decide), fun r nr => ?_⟩
        refine ⟨D, r, (wordsOf c1 c2 c3 c4 c5).map V.str, _, rfl, rfl, ?_, upd_same, ?_, fun z nz => ?_⟩
        · rw [upd_ne (ne_of_none (s10 _ _ (s9 _ _ h9)) nr)]
          exact s10 _ _ (s9 _ _ h9)
        · show _ + 0 ≤ _
          rw [List.length_map]
          refine sz_ok ?_
          cases c1 <;> cases c2 <;> cases c3 <;> cases c4 <;> cases c5 <;> decide
        · have e12 := (e11.trans s10).trans (same_new (o := .lst (List.replicate (0 : Int).toNat [V.str "else"]).flatten) nr)
          have nz0 := Same.free e12 nz
          refine q _ z (same_old e12 nz0) nz0 ?_
          rw [upd_same]
          show some (HO.lst (_ ++ [])) = _
          rw [List.append_nil]
      by_cases hv : v = .non
      · refine ⟨v, rfl, rfl, _, rfl, ?_⟩
        rw [decide_eq_true hv]
        refine iteF (.inr ⟨false, rfl, fin _ (Same.refl _)⟩)
      · obtain ⟨a1, a2⟩ := R.some_ hv
        refine ⟨v, rfl, rfl, _, rfl, ?_⟩
        rw [decide_eq_false hv]
        refine iteT ⟨v, rfl, a1 _ _ e11 ⟨_, rfl, _, rfl, iteF ⟨v, rfl, a2 _ _ e11 ⟨_, rfl, .inr ⟨false, rfl, fin _ (Same.refl _)⟩⟩⟩⟩⟩
theorem err_non (T : Lay K mg) (H : Hp) : Err T H .non false false false false false where
  counts := fun Q H' _ q => .inl ⟨_, _, _, _, _, rfl, .own _, (Kd.non).ty, T.z_BadCounts, q⟩
  dice := fun Q H' _ q => .inl ⟨_, _, _, _, _, rfl, .own _, (Kd.non).ty, T.z_BadDice, q⟩
  die := fun Q H' _ q => .inl ⟨_, _, _, _, _, rfl, .own _, (Kd.non).ty, T.z_BadDie, q⟩
  number := fun Q H' _ q => .inl ⟨_, _, _, _, _, rfl, .own _, (Kd.non).ty, T.z_BadNumber, q⟩
  text := fun Q H' _ q => .inl ⟨_, _, _, _, _, rfl, .own _, (Kd.non).ty, T.z_BadText, q⟩
  some_ := fun h => absurd rfl h
theorem ans_own {C D : Addr} {b : Bool} {H : Hp} {a : Addr} (h : H a = some (ExV (.ref D) none a)) (x : ExFacts K D) (s : PySem.W.kitOne K (.ref D) (.ref C) = some b) : Ans K H (.ref a) (.ref C) b :=
  fun Q H' e q => .inr ⟨a, D, .ref C, .ref C, b, rfl, e _ _ h, x.c, fun _ r => r, s, q⟩
theorem err_die (T : Lay K mg) {H : Hp} {a : Addr} (h : H a = some (ExV (.ref T.a_BadDie) none a)) : Err T H (.ref a) false false true false false where
  counts := ans_own h T.x_BadDie T.s_BadDie_BadCounts
  dice := ans_own h T.x_BadDie T.s_BadDie_BadDice
  die := ans_own h T.x_BadDie T.s_BadDie_BadDie
  number := ans_own h T.x_BadDie T.s_BadDie_BadNumber
  text := ans_own h T.x_BadDie T.s_BadDie_BadText
  some_ := fun _ => ⟨ans_own h T.x_BadDie T.s_BadDie_DiceError, fun Q H' e q => .inr ⟨a, _, _, _, true, rfl, e _ _ h, T.x_BadDie.c, fun _ r => r, T.v_BadDie, q⟩⟩
theorem caught_die (T : Lay K mg) : PySem.W.exmOne K (.ref T.a_BadDie) (.ref T.a_DiceError) = some true :=
  PySem.W.exm_ref T.x_DiceError.b T.x_DiceError.c.hd T.x_DiceError.t T.e_BadDie_DiceError
def spRefused : Sp := fun vs H Q _ => ∃ (way : Int) (v : V), vs = [.int way, v] ∧ Thing H v ∧ dieV H v = false ∧ ∀ H' p, Same H H' → H p = none → H' p = some (.lst [.str "die"]) → Q (.ref p) H'
theorem ok_law_refused (T : Lay K mg) : FnOk P w K mg base CX0 6 T.a_law_refused T.d_law_refused ["_law_way", "_law_thing"] spRefused := by
  refine T.f_law_refused.ok sc_law_refused (fun vs H Q E h => ?_) (fun cdv A outer s H vs Q E hr h => ?_)
  · obtain ⟨way, v, rfl, _⟩ := h
    rfl
  · obtain ⟨way, v, rfl, th, hd, q⟩ := h
    refine ⟨_, (pss_cons (ps_set (i := 2) sc_law_refused.nd rfl (Or.inl rfl) pe_non)
    (pss_cons (ps_try_keep (i := 3) rfl rfl rfl sc_law_refused.nd rfl rfl ⟨rfl, by decide, .inl T.g_DiceError⟩ takes0
    (fun W pn xe tk _ => (pss_one (ps_if (pt_cmpR op_eq (pv 0) pe_int (nomark _)) (pss_one (ps_expr (pe_callS (ok_need_die T) (hr.mono (by decide)) (by rfl) T.g_need_die T.f_need_die.kp T.b_need_die (fun σ => passAt tk σ) (pa_cons (pv 1) pa_nil)))) (pss_one (ps_expr (pe_callS (ok_mean T) (hr.mono (by decide)) (by rfl) T.g_mean T.f_mean.kp T.b_mean (fun σ => passAt tk σ) (pa_cons (pv 1) pa_nil)))))))
    (fun a oe cls d pn hz hf => (pss_one (ps_set (i := 2) sc_law_refused.nd rfl (Or.inl rfl) (pv 3)))))
    (pss_one (ps_ret (pe_call (ok_law_word T) (hr.mono (by decide)) (by rfl) T.g_law_word T.f_law_word.kp T.b_law_word .nil pass0 (pa_cons (pv 2) pa_nil)))))), ?_⟩
    have caught : ∀ (H1 : Hp) (a : Addr), Same H H1 → H1 a = none → spWord T [.ref a] (upd H1 a (ExV (.ref T.a_BadDie) none a)) Q E0 := by
      intro H1 a e na
      refine ⟨_, _, _, _, _, _, rfl, err_die T upd_same, fun H' p e' np hp => ?_⟩
      have e2 := e.trans (same_new (o := ExV (.ref T.a_BadDie) none a) na)
      exact q H' p (e2.trans e') (Same.free e2 np) hp
    refine ⟨_, rfl, rfl, _, rfl, iteD (fun c => ?_) (fun c => ?_)⟩
    · refine ⟨_, rfl, v, rfl, th, fun z => ?_, fun _ H1 e1 => ⟨true, caught_die T, fun _ a na => ⟨_, rfl, _, rfl, caught H1 a e1 na⟩, fun z => nomatch z⟩⟩
      rw [hd] at z
      cases z
    · refine ⟨_, rfl, v, rfl, th, fun a ns ev ha z => ?_, fun _ H1 e1 => ⟨true, caught_die T, fun _ a na => ⟨_, rfl, _, rfl, caught H1 a e1 na⟩, fun z => nomatch z⟩⟩
      have z2 : dieV H v = true := by
        unfold dieV
        rw [ev, lstOf_ref ha]
        exact z
      rw [hd] at z2
      cases z2
end
end My

namespace My
open PySem PySem.Spec PyProof.Rows L2
open PySem.W (Datum Tup)
/-! ### shares, once more -/
theorem share_scale {b n d : Int} (hb : 0 < b) : shareL (b * n) (b * d) = shareL n d := by
  have e : gcdZ (b * n) (b * d) = b * gcdZ n d := by
    unfold gcdZ
    rw [Int.natAbs_mul, Int.natAbs_mul, Nat.gcd_mul_left, Int.natCast_mul, Int.natAbs_of_nonneg (Int.le_of_lt hb)]
  unfold shareL
  rw [e, Int.mul_ediv_mul_of_pos _ _ hb, Int.mul_ediv_mul_of_pos _ _ hb]
theorem small_len {n : Nat} (h : n ≤ 8) : ((n : Nat) : Int).natAbs < 2 ^ 8000 := Nat.lt_of_le_of_lt (show ((n : Nat) : Int).natAbs ≤ 8 by omega) (by decide +kernel)
theorem share_len (n d : Int) : (shareL n d).length ≤ 1000 := by
  show 2 ≤ 1000
  decide
theorem share_zero {d : Int} (hd : 0 < d) : shareL 0 d = [0, 1] := by
  have e : gcdZ 0 d = d := by
    unfold gcdZ
    rw [show (0 : Int).natAbs = 0 from rfl, Nat.gcd_zero_left]
    omega
  unfold shareL
  rw [e, Int.zero_ediv, Int.ediv_self (by omega)]
/-! ### things that are no dice -/
structure Bad (H : Hp) (v : V) : Prop where
  th : Thing H v
  no : dieV H v = false
theorem bad_non {H : Hp} {v : V} {n : String} (k : Kd H v n) (h : lstOf H v = none) : Bad H v where
  th := ⟨⟨n, k⟩, fun xs e => by rw [h] at e; cases e⟩
  no := by unfold dieV; rw [h]
theorem bad_list {H : Hp} {a : Addr} {xs : List V} (h : H a = some (.lst xs)) (all : ∀ x ∈ xs, ∃ m, Kd H x m) (bad : dieB xs = false) : Bad H (.ref a) where
  th := ⟨⟨_, .lst h⟩, fun ys e => by rw [lstOf_ref h] at e; cases e; exact all⟩
  no := by unfold dieV; rw [lstOf_ref h]; exact bad
theorem lstOf_tup {H : Hp} {a : Addr} {xs : List V} (h : H a = some (.tup xs)) : lstOf H (.ref a) = none := by
  cases e : lstOf H (.ref a) with
  | none => rfl
  | some ys =>
    obtain ⟨b, eb, hb⟩ := lstOf_some e
    cases eb
    rw [h] at hb
    cases hb
theorem lstOf_dct {H : Hp} {a : Addr} {xs : List (Key × V)} (h : H a = some (.dK xs)) : lstOf H (.ref a) = none := by
  cases e : lstOf H (.ref a) with
  | none => rfl
  | some ys =>
    obtain ⟨b, eb, hb⟩ := lstOf_some e
    cases eb
    rw [h] at hb
    cases hb
theorem dieB_not {xs : List V} (h : ¬ (1 ≤ xs.length ∧ xs.length ≤ 8 ∧ xs.all faceB = true)) : dieB xs = false := by
  cases e : dieB xs with
  | false => rfl
  | true => exact absurd (dieB_all e) h
theorem dieB_mem {xs : List V} {x : V} (hx : x ∈ xs) (h : faceB x = false) : dieB xs = false := dieB_not fun z => by
  have := List.all_eq_true.mp z.2.2 x hx
  rw [h] at this
  cases this
theorem dieB_ints {ns : List Int} (h1 : 1 ≤ ns.length) (h2 : ns.length ≤ 8) (h : ∀ f ∈ ns, 0 ≤ f ∧ f ≤ 99) : dieB (ns.map V.int) = true := by
  have h3 : (ns.map V.int).all faceB = true := List.all_eq_true.mpr fun x hx => by
    obtain ⟨i, hi, rfl⟩ := List.mem_map.mp hx
    simp [faceB, h i hi]
  simp [dieB, h1, h2, h3]
theorem cutV_mem {xs : List V} {lo hi : Option Int} {x : V} (h : x ∈ cutV xs lo hi) : x ∈ xs := List.mem_of_mem_drop (List.mem_of_mem_take h)
theorem rep_len {α : Type} (l : List α) : ∀ n, (List.replicate n l).flatten.length = n * l.length
  | 0 => by simp
  | n + 1 => by
    rw [List.replicate_succ, List.flatten_cons, List.length_append, rep_len l n, Nat.succ_mul]
    omega
theorem pick {P : V → Prop} {l : List V} {j : Nat} (hj : j < l.length) (h : ∀ x ∈ l, P x) : ∃ x, l[j]? = some x ∧ P x :=
  ⟨l[j], List.getElem?_eq_getElem hj, h _ (List.getElem_mem hj)⟩
theorem kd_ints {H : Hp} {ns : List Int} : ∀ x ∈ ns.map V.int, ∃ m, Kd H x m := fun x hx => by
  obtain ⟨i, _, rfl⟩ := List.mem_map.mp hx
  exact ⟨_, .int i⟩
section
variable {P : Program} {w : World} {K : PySem.W.Frag} {mg : Str → Option Value} {base : Heap}
def spLaw (K : PySem.W.Frag) : Sp := fun vs H Q _ => ∃ (a : Addr) (ns : List Int), vs = [.ref a] ∧ SqL K H a (ns.map V.int) ∧ ns.length ≤ 63 ∧ ∀ H', Q (.bl true) H'
theorem ok_law (T : Lay K mg) : FnOk P w K mg base CX0 7 T.a_law T.d_law ["_law_script"] (spLaw K) := by
  refine T.f_law.ok sc_law (fun vs H Q E h => ?_) (fun cdv A outer s H vs Q E hr h => ?_)
  · obtain ⟨a, ns, rfl, _⟩ := h
    rfl
  · obtain ⟨a, ns, rfl, hS, hlen, q⟩ := h
    refine ⟨_, (pss_cons (ps_for PassesOwn.never rfl (pi_range1 (by rfl) T.n_range (pa_cons pe_int pa_nil)) (pg_name (i := 1) sc_law.nd rfl (Or.inl rfl)) (pss_cons (ps_set (i := 2) sc_law.nd rfl (Or.inl rfl) (pe_call (ok_law_die T) (hr.mono (by decide)) (by rfl) T.g_law_die T.f_law_die.kp T.b_law_die .nil pass0 (pa_cons (pv 0) (pa_cons (pe_op op_mul pe_int (pv 1)) (pa_cons pe_int (pa_cons (pe_ix ix_list (pe_lst (pa_cons pe_int (pa_cons pe_int (pa_cons pe_int pa_nil)))) (pv 1) (fun _ _ => rfl)) pa_nil))))))
    (pss_cons (ps_set (i := 3) sc_law.nd rfl (Or.inl rfl) (pe_callTy call_list_of (by rfl) T.n_list (by decide +kernel) (pa_cons (pv 2) pa_nil)))
    (pss_cons (ps_if (PW.pt (pw_or (pt_cmpR op_notBl (pe_call (ok_is_die T) (hr.mono (by decide)) (by rfl) T.g_is_die T.f_is_die.kp T.b_is_die .nil pass0 (pa_cons (pv 3) pa_nil)) pe_bl (nomark _)) (pw_or1 (pt_cmpR op_notN (pe_call (ok_need_die T) (hr.mono (by decide)) (by rfl) T.g_need_die T.f_need_die.kp T.b_need_die .nil passL (pa_cons (pv 3) pa_nil)) pe_non (nomark _))))) (pss_one (ps_ret pe_bl)) pss_nil)
    (pss_cons (ps_if (PW.pt (pw_or (pt_not (pt_val (pe_call (ok_law_is T) (hr.mono (by decide)) (by rfl) T.g_law_is T.f_law_is.kp T.b_law_is .nil pass0 (pa_cons (pe_call (ok_mean T) (hr.mono (by decide)) (by rfl) T.g_mean T.f_mean.kp T.b_mean .nil passL (pa_cons (pv 3) pa_nil)) (pa_cons (pe_call (ok_law_lowest T) (hr.mono (by decide)) (by rfl) T.g_law_lowest T.f_law_lowest.kp T.b_law_lowest .nil pass0 (pa_cons (pe_callB (cr_sum rfl) (by rfl) T.n_sum (by decide +kernel) (pa_cons (pv 2) pa_nil)) (pa_cons (pe_callB call_len_seq (by rfl) T.n_len PySem.boot_len (pa_cons (pv 2) pa_nil)) pa_nil))) pa_nil))))) (pw_or1 (pt_cmpR (op_neP hr.units) (pv 3) (pv 2) (nomark _))))) (pss_one (ps_ret pe_bl)) pss_nil)
    (pss_cons (ps_if (pt_not (pt_val (pe_call (ok_law_is T) (hr.mono (by decide)) (by rfl) T.g_law_is T.f_law_is.kp T.b_law_is .nil pass0 (pa_cons (pe_call (ok_mean T) (hr.mono (by decide)) (by rfl) T.g_mean T.f_mean.kp T.b_mean .nil passL (pa_cons (pe_revL (pv 2)) pa_nil)) (pa_cons (pe_call (ok_law_lowest T) (hr.mono (by decide)) (by rfl) T.g_law_lowest T.f_law_lowest.kp T.b_law_lowest .nil pass0 (pa_cons (pe_callB (cr_sum rfl) (by rfl) T.n_sum (by decide +kernel) (pa_cons (pv 2) pa_nil)) (pa_cons (pe_callB call_len_seq (by rfl) T.n_len PySem.boot_len (pa_cons (pv 2) pa_nil)) pa_nil))) pa_nil))))) (pss_one (ps_ret pe_bl)) pss_nil)
    (pss_cons (ps_set (i := 4) sc_law.nd rfl (Or.inl rfl) (pe_call (ok_law_draw T) (hr.mono (by decide)) (by rfl) T.g_law_draw T.f_law_draw.kp T.b_law_draw .nil pass0 (pa_cons (pv 0) (pa_cons (pe_op op_add pe_int (pv 1)) pa_nil))))
    (pss_cons (ps_set (i := 5) sc_law.nd rfl (Or.inl rfl) (pe_ix ix_list (pe_lst (pa_cons (pe_un un_neg pe_int) (pa_cons pe_int (pa_cons pe_bl (pa_cons pe_non (pa_cons pe_str (pa_cons (pe_lst (pa_cons pe_int pa_nil)) (pa_cons (pe_tup (pa_cons pe_int pa_nil)) (pa_cons pe_bl (pa_cons (pe_op op_pow pe_int pe_int) pa_nil)))))))))) (pe_op op_mod (pv 4) pe_int) (fun _ _ => rfl)))
    (pss_cons (ps_set (i := 6) sc_law.nd rfl (Or.inl rfl) (pe_op op_mod (pe_op op_fdiv (pv 4) pe_int) (pe_callB call_len_seq (by rfl) T.n_len PySem.boot_len (pa_cons (pv 2) pa_nil))))
    (pss_cons (ps_set (i := 7) sc_law.nd rfl (Or.inl rfl) (pe_op op_cat (pe_op op_cat (pe_slice sl_list (pv 2) po_none (po_some (pv 6))) (pe_lst (pa_cons (pv 5) pa_nil))) (pe_slice sl_list (pv 2) (po_some (pe_op op_add (pv 6) pe_int)) po_none)))
    (pss_cons (ps_set (i := 8) sc_law.nd rfl (Or.inl rfl) (pe_lst (pa_cons (pv 7) (pa_cons (pv 7) (pa_cons (pe_callTy call_tuple_of (by rfl) T.n_tuple (by decide +kernel) (pa_cons (pv 2) pa_nil)) (pa_cons pe_non (pa_cons (pe_lst pa_nil) (pa_cons pe_str (pa_cons pe_int (pa_cons pe_dnewK (pa_cons pe_bl (pa_cons (pe_slice sl_list (pe_op op_rep (pv 2) pe_int) po_none (po_some pe_int)) (pa_cons (pe_lst (pa_cons (pv 2) pa_nil)) (pa_cons (pe_disp (pps_cons pe_int pe_int pps_nil) (by rfl) (by rfl) (fun z => by cases z) (by decide)) pa_nil))))))))))))))
    (pss_cons (ps_set (i := 9) sc_law.nd rfl (Or.inl rfl) (pe_ix ix_list (pv 8) (pe_op op_mod (pe_op op_fdiv (pv 4) pe_int) pe_int) (fun _ _ => rfl)))
    (pss_cons (ps_if (PW.pt (pw_or (pt_cmpR op_notBl (pe_call (ok_is_die T) (hr.mono (by decide)) (by rfl) T.g_is_die T.f_is_die.kp T.b_is_die .nil pass0 (pa_cons (pv 9) pa_nil)) pe_bl (nomark _)) (pw_or (pt_cmpR (op_neP hr.units) (pe_call (ok_law_refused T) (hr.mono (by decide)) (by rfl) T.g_law_refused T.f_law_refused.kp T.b_law_refused .nil pass0 (pa_cons pe_int (pa_cons (pv 9) pa_nil))) (pe_lst (pa_cons pe_str pa_nil)) (nomark _)) (pw_or1 (pt_cmpR (op_neP hr.units) (pe_call (ok_law_refused T) (hr.mono (by decide)) (by rfl) T.g_law_refused T.f_law_refused.kp T.b_law_refused .nil pass0 (pa_cons pe_int (pa_cons (pv 9) pa_nil))) (pe_lst (pa_cons pe_str pa_nil)) (nomark _)))))) (pss_one (ps_ret pe_bl)) pss_nil)
    (pss_cons (ps_set (i := 10) sc_law.nd rfl (Or.inl rfl) (pe_op op_mulW (pe_op op_mul (pe_op op_mul (pv 4) (pv 4)) (pv 4)) (pe_ix ix_list (pe_lst (pa_cons pe_int (pa_cons pe_int (pa_cons (pe_op op_pow pe_int pe_int) pa_nil)))) (pv 1) (fun _ _ => rfl))))
    (pss_cons (ps_set (i := 11) sc_law.nd rfl (Or.inl rfl) (pe_op op_add pe_int (pe_op op_mul (pe_call (ok_law_draw T) (hr.mono (by decide)) (by rfl) T.g_law_draw T.f_law_draw.kp T.b_law_draw .nil pass0 (pa_cons (pv 0) (pa_cons (pe_op op_add pe_int (pv 1)) pa_nil))) (pe_ix ix_list (pe_lst (pa_cons pe_int (pa_cons (pe_op op_pow pe_int pe_int) (pa_cons pe_int pa_nil)))) (pv 1) (fun _ _ => rfl)))))
    (pss_cons (ps_set (i := 12) sc_law.nd rfl (Or.inl rfl) (pe_op op_add pe_int (pe_op op_mod (pe_op op_fdiv (pv 4) pe_int) pe_int)))
    (pss_one (ps_if (PW.pt (pw_or (pt_not (pt_val (pe_call (ok_law_is T) (hr.mono (by decide)) (by rfl) T.g_law_is T.f_law_is.kp T.b_law_is .nil pass0 (pa_cons (pe_call (ok_share T) (hr.mono (by decide)) (by rfl) T.g_share T.f_share.kp T.b_share .nil pass0 (pa_cons (pe_op op_mul (pv 12) (pv 10)) (pa_cons (pe_op op_mul (pv 12) (pv 11)) pa_nil))) (pa_cons (pe_call (ok_law_lowest T) (hr.mono (by decide)) (by rfl) T.g_law_lowest T.f_law_lowest.kp T.b_law_lowest .nil pass0 (pa_cons (pv 10) (pa_cons (pv 11) pa_nil))) pa_nil))))) (pw_or1 (pt_not (pt_val (pe_call (ok_law_is T) (hr.mono (by decide)) (by rfl) T.g_law_is T.f_law_is.kp T.b_law_is .nil pass0 (pa_cons (pe_call (ok_share T) (hr.mono (by decide)) (by rfl) T.g_share T.f_share.kp T.b_share .nil pass0 (pa_cons pe_int (pa_cons (pv 11) pa_nil))) (pa_cons (pe_tup (pa_cons pe_int (pa_cons pe_int pa_nil))) pa_nil)))))))) (pss_one (ps_ret pe_bl)) pss_nil))))))))))))))))))
    (pss_one (ps_ret pe_bl))), ?_⟩
    refine ⟨3, rfl, by decide, by decide, for_range (lo := 0) (n := 3)
      (fun i σ H' => Same H H' ∧ ∃ y1 y2 y3 y4 y5 y6 y7 y8 y9 y10 y11 y12, σ = [some (.ref a), y1, y2, y3, y4, y5, y6, y7, y8, y9, y10, y11, y12])
      ⟨Same.refl H, _, _, _, _, _, _, _, _, _, _, _, _, rfl⟩ ?_ (fun σ H' _ => q H')⟩
    rintro i σ H2 hi ⟨e2, y1, y2, y3, y4, y5, y6, y7, y8, y9, y10, y11, y12, rfl⟩
    have h63 : ns.length ≤ 1000 := by omega
    -- the die
    obtain ⟨tp, tp0, tp1, hat⟩ : ∃ tp : Int, 0 ≤ tp ∧ tp ≤ 99 ∧ atI [V.int 99, .int 9, .int 2] ((0 : Int) + (i : Int)) = some (.int tp) := by
      obtain h | h | h : i = 0 ∨ i = 1 ∨ i = 2 := by omega
      · subst h
        exact ⟨99, by decide, by decide, at_of (j := 0) rfl rfl⟩
      · subst h
        exact ⟨9, by decide, by decide, at_of (j := 1) rfl rfl⟩
      · subst h
        exact ⟨2, by decide, by decide, at_of (j := 2) rfl rfl⟩
    refine ⟨_, rfl, _, rfl, 20, _, rfl, rfl, .inl (by decide), sz_ok (show 3 ≤ 1000000 by decide), fun q1 m1 => ⟨_, rfl, q1, _, _, .int tp, rfl, rfl, sq_of upd_same, hat, ?_⟩⟩
    have e3 := e2.trans (same_new (o := .lst [.int 99, .int 9, .int 2]) m1)
    refine ⟨a, ns, _, 8, tp, rfl, e3.seq hS, h63, by omega, by omega, by decide, by decide, tp0, by omega, fun H4 p1 e4 np1 hp1 => ?_⟩
    obtain ⟨fl1, fl2⟩ := dieL_len ns (20 * ((0 : Int) + (i : Int))) tp (most := 8) (by decide)
    have fm := dieL_mem ns (k := 20 * ((0 : Int) + (i : Int))) (most := 8) tp0
    generalize hD : dieL ns (20 * ((0 : Int) + (i : Int))) 8 tp = die at *
    have e4 := e3.trans e4
    have hdie : dieB (die.map V.int) = true := dieB_ints fl1 (by omega) fun f hf => ⟨(fm f hf).1, Int.le_trans (fm f hf).2 tp1⟩
    -- handed
    refine ⟨_, rfl, p1, _, rfl, .inl (sq_of hp1), fun p2 np2 => ?_⟩
    have s5 := same_new (o := .lst (die.map V.int)) np2
    have e5 := e4.trans s5
    have h2 : (upd H4 p2 (.lst (die.map V.int))) p2 = some (.lst (die.map V.int)) := upd_same
    have h1 := s5 _ _ hp1
    generalize upd H4 p2 (.lst (die.map V.int)) = H5 at *
    have good : ∀ H' : Hp, Same H5 H' → Thing H' (.ref p2) ∧ dieV H' (.ref p2) = true := fun H' e => by
      have z := e _ _ h2
      refine ⟨⟨⟨_, .lst z⟩, fun ys ey => ?_⟩, ?_⟩
      · rw [lstOf_ref z] at ey
        cases ey
        exact kd_ints
      · unfold dieV
        rw [lstOf_ref z]
        exact hdie
    -- is_die(handed) is not True or need_die(handed) is not None
    refine ⟨_, rfl, _, rfl, (good H5 (Same.refl H5)).1, fun H6 e6 => ?_⟩
    refine ⟨_, true, rfl, rfl, _, rfl, ?_⟩
    rw [(good H5 (Same.refl H5)).2]
    refine iteF ⟨_, rfl, _, rfl, (good H6 e6).1, fun _ H7 e7 => ⟨rfl, _, rfl, iteF ?_⟩, fun z => ?_⟩
    · have e57 := e6.trans e7
      -- not _law_is(mean(handed), _law_lowest(sum(die), len(die))) or handed != die
      refine ⟨_, rfl, _, rfl, (good H7 e57).1, fun b ms eb hb _ H8 p3 e8 np3 hp3 => ?_, fun z => ?_⟩
      · cases eb
        have hms : ms = die := by
          rw [e57 _ _ h2] at hb
          have := HO.lst.inj (Option.some.inj hb)
          exact (List.map_inj_right (fun _ _ z => V.int.inj z)).mp this.symm
        subst hms
        have e58 := e57.trans e8
        refine ⟨_, rfl, p1, ms, rfl, sq_of (e58 _ _ h1), _, rfl, p1, _, rfl, .inl (sq_of (e58 _ _ h1)), ?_⟩
        have hpos : (0 : Int) < ((ms.map V.int).length : Nat) := by rw [List.length_map]; omega
        have hsum : 0 ≤ ms.sum := by
          have : ∀ l : List Int, (∀ f ∈ l, 0 ≤ f) → 0 ≤ l.sum := by
            intro l
            induction l with
            | nil => intro _; exact Int.le_refl 0
            | cons x r ih =>
              intro h
              have h1 := h x List.mem_cons_self
              have h2 := ih fun f hf => h f (List.mem_cons_of_mem _ hf)
              rw [List.sum_cons]
              omega
          exact this ms fun f hf => (fm f hf).1
        refine ⟨ms.sum, _, rfl, hsum, hpos, small_len (by rw [List.length_map]; omega), fun p4 np4 => ?_⟩
        have s9 := same_new (o := .tup ((shareL ms.sum ((ms.map V.int).length : Nat)).map V.int)) np4
        refine ⟨p3, p4, shareL ms.sum ms.length, _, rfl, s9 _ _ hp3, upd_same, share_len _ _, fun H9 e9 => ⟨_, rfl, ?_⟩⟩
        rw [List.length_map, decide_eq_true rfl]
        have e59 := (e58.trans s9).trans e9
        -- handed != die
        refine iteF ⟨_, rfl, _, rfl, ne_is (is_ints (sq_of (e59 _ _ h2))) (is_ints (sq_of (e59 _ _ h1))) ⟨_, rfl, ?_⟩⟩
        rw [decide_eq_true rfl]
        refine iteF ?_
        -- not _law_is(mean(die[::-1]), ..)
        refine ⟨_, rfl, p1, _, rfl, sq_of (e59 _ _ h1), fun p5 np5 => ?_⟩
        have e10 := e59.trans (same_new (o := .lst (ms.map V.int).reverse) np5)
        have h5 : (upd H9 p5 (.lst (ms.map V.int).reverse)) p5 = some (.lst (ms.reverse.map V.int)) := by
          rw [upd_same, List.map_reverse]
        generalize upd H9 p5 (.lst (ms.map V.int).reverse) = H10 at *
        have hrev : dieB (ms.reverse.map V.int) = true := dieB_ints (by rw [List.length_reverse]; exact fl1) (by rw [List.length_reverse]; omega) fun f hf => by
          have := fm f (List.mem_reverse.mp hf)
          exact ⟨this.1, Int.le_trans this.2 tp1⟩
        refine ⟨_, rfl, ⟨⟨_, .lst h5⟩, fun ys ey => ?_⟩, fun b rs eb hb _ H11 p6 e11 np6 hp6 => ?_, fun z => ?_⟩
        · rw [lstOf_ref h5] at ey
          cases ey
          exact kd_ints
        · cases eb
          have hrs : rs = ms.reverse := by
            rw [h5] at hb
            have := HO.lst.inj (Option.some.inj hb)
            exact (List.map_inj_right (fun _ _ z => V.int.inj z)).mp this.symm
          subst hrs
          have e511 := e10.trans e11
          refine ⟨_, rfl, p1, ms, rfl, sq_of (e511 _ _ h1), _, rfl, p1, _, rfl, .inl (sq_of (e511 _ _ h1)), ?_⟩
          refine ⟨ms.sum, _, rfl, hsum, hpos, small_len (by rw [List.length_map]; omega), fun p7 np7 => ?_⟩
          have s12 := same_new (o := .tup ((shareL ms.sum ((ms.map V.int).length : Nat)).map V.int)) np7
          refine ⟨p6, p7, _, _, rfl, s12 _ _ hp6, upd_same, share_len _ _, fun H13 e13 => ⟨_, rfl, ?_⟩⟩
          rw [decide_eq_true (by rw [List.length_map, List.length_reverse, List.sum_reverse])]
          refine iteF ?_
          have e513 := (e511.trans s12).trans e13
          have e2_13 := e5.trans e513
          -- a number, a thing that is no die
          have hz : (0 : Int) + (i : Int) = (i : Int) := by omega
          rw [hz]
          refine ⟨_, rfl, _, rfl, 60, _, rfl, rfl, a, ns, 60 + (i : Int), rfl, e2_13.seq hS, h63, by omega, by omega, fun H14 e14 => ?_⟩
          obtain ⟨num0, num1⟩ := draw_range ns (60 + (i : Int))
          generalize drawN ns (60 + (i : Int)) = num at *
          have e514 := e513.trans e14
          -- the odd face
          refine ⟨1, rfl, sz_ok (show 1 ≤ 1000000 by decide), fun o1 mo1 => ⟨sz_ok (show 1 ≤ 1000000 by decide), fun o2 mo2 => ⟨10, 60, rfl, rfl, ⟨by decide, by decide, by decide⟩, sz_ok (show 9 ≤ 1000000 by decide), fun o3 mo3 => ?_⟩⟩⟩
          have t1 := same_new (o := .lst [.int 5]) mo1
          have t2 := same_new (o := .tup [.int 5]) mo2
          have t3 := same_new (o := .lst [.int (-1), .int 100, .bl true, .non, .str "5", .ref o1, .ref o2, .bl false, .int (10 ^ (60 : Int).toNat)]) mo3
          have ho1 := t3 _ _ (t2 _ _ (upd_same (H := H14) (a := o1) (o := .lst [.int 5])))
          have ho2 := t3 _ _ (upd_same (a := o2) (o := .tup [.int 5]))
          have ho3 := upd_same (H := upd (upd H14 o1 (.lst [.int 5])) o2 (.tup [.int 5])) (a := o3) (o := .lst [.int (-1), .int 100, .bl true, .non, .str "5", .ref o1, .ref o2, .bl false, .int (10 ^ (60 : Int).toNat)])
          have e15 := ((e514.trans t1).trans t2).trans t3
          generalize upd (upd (upd H14 o1 (.lst [.int 5])) o2 (.tup [.int 5])) o3 (.lst [.int (-1), .int 100, .bl true, .non, .str "5", .ref o1, .ref o2, .bl false, .int (10 ^ (60 : Int).toNat)]) = H15 at *
          obtain ⟨odd, hodd, hof, hok⟩ : ∃ v, ([.int (-1), .int 100, .bl true, .non, .str "5", .ref o1, .ref o2, .bl false, .int (10 ^ (60 : Int).toNat)] : List V)[(num % 9).toNat]? = some v ∧ faceB v = false ∧ ∃ n, Kd H15 v n :=
            pick (show (num % 9).toNat < 9 by omega) (by
              refine List.forall_mem_cons.mpr ⟨⟨rfl, _, .int _⟩, List.forall_mem_cons.mpr ⟨⟨rfl, _, .int _⟩, List.forall_mem_cons.mpr ⟨⟨rfl, _, .bl _⟩, List.forall_mem_cons.mpr ⟨⟨rfl, _, .non⟩, List.forall_mem_cons.mpr ⟨⟨rfl, _, .str _⟩,
                List.forall_mem_cons.mpr ⟨⟨rfl, _, .lst ho1⟩, List.forall_mem_cons.mpr ⟨⟨rfl, _, .tup ho2⟩, List.forall_mem_cons.mpr ⟨⟨rfl, _, .bl _⟩, List.forall_mem_cons.mpr ⟨⟨?_, _, .int _⟩, List.forall_mem_nil _⟩⟩⟩⟩⟩⟩⟩⟩⟩
              decide +kernel)
          refine ⟨_, rfl, num, 9, rfl, rfl, md rfl, o3, _, _, odd, rfl, rfl, sq_of ho3, at_of (by omega) hodd, ?_⟩
          -- at
          have hl0 : (0 : Int) < (ms.length : Nat) := by omega
          have hat0 := Int.emod_nonneg (num / 9) (show ((ms.length : Nat) : Int) ≠ 0 by omega)
          have hat1 := Int.emod_lt_of_pos (num / 9) hl0
          refine ⟨_, rfl, num, 9, rfl, rfl, dv rfl, _, rfl, p1, _, rfl, .inl (sq_of (e15 _ _ h1)), _, _, rfl, rfl, (by rw [List.length_map]; exact hl0), ?_⟩
          rw [List.length_map]
          dsimp only
          generalize num / 9 % ((ms.length : Nat) : Int) = at_ at *
          -- bent
          refine ⟨_, rfl, _, rfl, at_, rfl, p1, _, rfl, sq_of (e15 _ _ h1), fun b1 nb1 => ?_⟩
          have u1 := same_new (o := .lst (cutV (ms.map V.int) none (some at_))) nb1
          refine ⟨_, rfl, sz_ok (show 1 ≤ 1000000 by decide), fun b2 nb2 => ?_⟩
          have u2 := same_new (o := .lst [odd]) nb2
          have len1 := cutV_length (ms.map V.int) none (some at_)
          have len2 := cutV_length (ms.map V.int) (some (at_ + 1)) none
          rw [List.length_map] at len1 len2
          refine ⟨b1, b2, _, _, rfl, rfl, u2 _ _ upd_same, upd_same, sz_ok (by show _ + 1 ≤ _; omega), fun b3 nb3 => ?_⟩
          have u3 := same_new (o := .lst (cutV (ms.map V.int) none (some at_) ++ [odd])) nb3
          have e16 := ((e15.trans u1).trans u2).trans u3
          have e515 := (u1.trans u2).trans u3
          have hb3 := upd_same (H := upd (upd H15 b1 (.lst (cutV (ms.map V.int) none (some at_)))) b2 (.lst [odd])) (a := b3) (o := .lst (cutV (ms.map V.int) none (some at_) ++ [odd]))
          generalize upd (upd (upd H15 b1 (.lst (cutV (ms.map V.int) none (some at_)))) b2 (.lst [odd])) b3 (.lst (cutV (ms.map V.int) none (some at_) ++ [odd])) = H16 at *
          refine ⟨_, rfl, _, rfl, at_, 1, rfl, rfl, _, rfl, p1, _, rfl, sq_of (e16 _ _ h1), fun b4 nb4 => ?_⟩
          have u4 := same_new (o := .lst (cutV (ms.map V.int) (some (at_ + 1)) none)) nb4
          refine ⟨b3, b4, _, _, rfl, rfl, u4 _ _ hb3, upd_same, sz_ok (by rw [List.length_append]; show _ + 1 + _ ≤ _; omega), fun b5 nb5 => ?_⟩
          have u5 := same_new (o := .lst (cutV (ms.map V.int) none (some at_) ++ [odd] ++ cutV (ms.map V.int) (some (at_ + 1)) none)) nb5
          have hb5 := upd_same (H := upd H16 b4 (.lst (cutV (ms.map V.int) (some (at_ + 1)) none))) (a := b5) (o := .lst (cutV (ms.map V.int) none (some at_) ++ [odd] ++ cutV (ms.map V.int) (some (at_ + 1)) none))
          have e17 := (e16.trans u4).trans u5
          have hodd17 : ∃ n, Kd (upd (upd H16 b4 (.lst (cutV (ms.map V.int) (some (at_ + 1)) none))) b5 (.lst (cutV (ms.map V.int) none (some at_) ++ [odd] ++ cutV (ms.map V.int) (some (at_ + 1)) none))) odd n := by
            obtain ⟨n, k⟩ := hok
            exact ⟨n, k.mono ((e515.trans u4).trans u5)⟩
          generalize upd (upd H16 b4 (.lst (cutV (ms.map V.int) (some (at_ + 1)) none))) b5 (.lst (cutV (ms.map V.int) none (some at_) ++ [odd] ++ cutV (ms.map V.int) (some (at_ + 1)) none)) = H17 at *
          have badB : ∀ H' : Hp, Same H17 H' → Bad H' (.ref b5) := fun H' e => by
            refine bad_list (e _ _ hb5) (fun x hx => ?_) (dieB_mem (x := odd) (by simp) hof)
            rcases List.mem_append.mp hx with hx | hx
            · rcases List.mem_append.mp hx with hx | hx
              · exact kd_ints x (cutV_mem hx)
              · rw [List.mem_singleton.mp hx]
                obtain ⟨n, k⟩ := hodd17
                exact ⟨n, k.mono e⟩
            · exact kd_ints x (cutV_mem hx)
          -- some
          refine ⟨_, rfl, _, rfl, _, rfl, p1, _, rfl, .inl ⟨sq_of (e17 _ _ h1), fun c1 nc1 => ?_⟩⟩
          have v1 := same_new (o := .tup (ms.map V.int)) nc1
          refine ⟨Nat.zero_le _, fun c2 nc2 => ?_⟩
          have v2 := same_new (o := .lst []) nc2
          refine fun c3 nc3 => ?_
          have v3 := same_new (o := .dK []) nc3
          have v123 := (v1.trans v2).trans v3
          have e18 := e17.trans v123
          have hc1 := v3 _ _ (v2 _ _ (upd_same (H := H17) (a := c1) (o := .tup (ms.map V.int))))
          have hc2 := v3 _ _ (upd_same (H := upd H17 c1 (.tup (ms.map V.int))) (a := c2) (o := .lst []))
          have hc3 := upd_same (H := upd (upd H17 c1 (.tup (ms.map V.int))) c2 (.lst [])) (a := c3) (o := .dK [])
          generalize upd (upd (upd H17 c1 (.tup (ms.map V.int))) c2 (.lst [])) c3 (.dK []) = H18 at *
          refine ⟨_, rfl, p1, 9, _, rfl, rfl, e18 _ _ h1, by decide, by decide, sz_ok (by rw [List.length_map]; show ms.length * 9 ≤ _; omega), fun c4 nc4 => ?_⟩
          have w4 := same_new (o := .lst (List.replicate (9 : Int).toNat (ms.map V.int)).flatten) nc4
          have hc4 := upd_same (H := H18) (a := c4) (o := .lst (List.replicate (9 : Int).toNat (ms.map V.int)).flatten)
          refine ⟨9, rfl, c4, _, rfl, sq_of hc4, fun c5 nc5 => ?_⟩
          have w5 := same_new (o := .lst (cutV (List.replicate (9 : Int).toNat (ms.map V.int)).flatten none (some 9))) nc5
          have e19 := (e18.trans w4).trans w5
          have f19 := (v123.trans w4).trans w5
          have hc5 := upd_same (H := upd H18 c4 (.lst (List.replicate (9 : Int).toNat (ms.map V.int)).flatten)) (a := c5) (o := .lst (cutV (List.replicate (9 : Int).toNat (ms.map V.int)).flatten none (some 9)))
          have hc1 := w5 _ _ (w4 _ _ hc1)
          have hc2 := w5 _ _ (w4 _ _ hc2)
          have hc3 := w5 _ _ (w4 _ _ hc3)
          generalize upd (upd H18 c4 (.lst (List.replicate (9 : Int).toNat (ms.map V.int)).flatten)) c5 (.lst (cutV (List.replicate (9 : Int).toNat (ms.map V.int)).flatten none (some 9))) = H19 at *
          refine ⟨_, rfl, sz_ok (show 1 ≤ 1000000 by decide), fun c6 nc6 => ?_⟩
          have w6 := same_new (o := .lst [.ref p1]) nc6
          refine fun c7 nc7 => ?_
          have w7 := same_new (o := .dK []) nc7
          refine ⟨upd_same, [(Sum.inl 5, .int 1)], rfl, by decide, ?_⟩
          have w8 : Same (upd H19 c6 (.lst [.ref p1])) (upd (upd (upd H19 c6 (.lst [.ref p1])) c7 (.dK [])) c7 (.dK (mergeK [] [(Sum.inl 5, .int 1)]))) := same_old w7 nc7
          have e20 := (e19.trans w6).trans w8
          have f20 := (f19.trans w6).trans w8
          have hc1 := w8 _ _ (w6 _ _ hc1)
          have hc2 := w8 _ _ (w6 _ _ hc2)
          have hc3 := w8 _ _ (w6 _ _ hc3)
          have hc5 := w8 _ _ (w6 _ _ hc5)
          have hc6 := w8 _ _ (upd_same (H := H19) (a := c6) (o := .lst [.ref p1]))
          have hc7 := upd_same (H := upd (upd H19 c6 (.lst [.ref p1])) c7 (.dK [])) (a := c7) (o := .dK (mergeK [] [(Sum.inl 5, .int 1)]))
          generalize upd (upd (upd H19 c6 (.lst [.ref p1])) c7 (.dK [])) c7 (.dK (mergeK [] [(Sum.inl 5, .int 1)])) = H20 at *
          refine ⟨sz_ok (show 12 ≤ 1000000 by decide), fun c8 nc8 => ?_⟩
          have w9 := same_new (o := .lst [.ref b5, .ref b5, .ref c1, .non, .ref c2, .str "5", .int 5, .ref c3, .bl true, .ref c5, .ref c6, .ref c7]) nc8
          have e21 := e20.trans w9
          have f21 := f20.trans w9
          have hc1 := w9 _ _ hc1
          have hc2 := w9 _ _ hc2
          have hc3 := w9 _ _ hc3
          have hc5 := w9 _ _ hc5
          have hc6 := w9 _ _ hc6
          have hc7 := w9 _ _ hc7
          have hc8 := upd_same (H := H20) (a := c8) (o := .lst [.ref b5, .ref b5, .ref c1, .non, .ref c2, .str "5", .int 5, .ref c3, .bl true, .ref c5, .ref c6, .ref c7])
          generalize upd H20 c8 (.lst [.ref b5, .ref b5, .ref c1, .non, .ref c2, .str "5", .int 5, .ref c3, .bl true, .ref c5, .ref c6, .ref c7]) = H21 at *
          -- wrong
          obtain ⟨wrong, hwr, hbad⟩ : ∃ v, ([.ref b5, .ref b5, .ref c1, .non, .ref c2, .str "5", .int 5, .ref c3, .bl true, .ref c5, .ref c6, .ref c7] : List V)[(num / 128 % 12).toNat]? = some v ∧ ∀ H', Same H21 H' → Bad H' v :=
            pick (show (num / 128 % 12).toNat < 12 by omega) (by
              refine List.forall_mem_cons.mpr ⟨fun H' e => badB H' (f21.trans e), List.forall_mem_cons.mpr ⟨fun H' e => badB H' (f21.trans e), List.forall_mem_cons.mpr ⟨fun H' e => bad_non (.tup (e _ _ hc1)) (lstOf_tup (e _ _ hc1)),
                List.forall_mem_cons.mpr ⟨fun H' e => bad_non .non rfl, List.forall_mem_cons.mpr ⟨fun H' e => bad_list (e _ _ hc2) (fun x hx => by cases hx) rfl, List.forall_mem_cons.mpr ⟨fun H' e => bad_non (.str _) rfl,
                List.forall_mem_cons.mpr ⟨fun H' e => bad_non (.int _) rfl, List.forall_mem_cons.mpr ⟨fun H' e => bad_non (.dct (e _ _ hc3)) (lstOf_dct (e _ _ hc3)), List.forall_mem_cons.mpr ⟨fun H' e => bad_non (.bl _) rfl,
                List.forall_mem_cons.mpr ⟨fun H' e => bad_list (e _ _ hc5) (fun x hx => ?_) (dieB_not fun z => ?_), List.forall_mem_cons.mpr ⟨fun H' e => bad_list (e _ _ hc6) (fun x hx => ?_) rfl, List.forall_mem_cons.mpr ⟨fun H' e => bad_non (.dct (e _ _ hc7)) (lstOf_dct (e _ _ hc7)), List.forall_mem_nil _⟩⟩⟩⟩⟩⟩⟩⟩⟩⟩⟩⟩
              · have := cutV_mem hx
                obtain ⟨l, hl, hxl⟩ := List.mem_flatten.mp this
                rw [List.eq_of_mem_replicate hl] at hxl
                exact kd_ints x hxl
              · have hn : (cutV (List.replicate (9 : Int).toNat (ms.map V.int)).flatten none (some 9)).length = 9 := by
                  have hfl : (List.replicate (9 : Int).toNat (ms.map V.int)).flatten.length = 9 * ms.length := by
                    rw [rep_len, List.length_map]
                    rfl
                  unfold cutV
                  rw [HT.sIx_none, hfl, show HT.sIx (9 * ms.length) (9 * ms.length) (some 9) = min 9 (9 * ms.length) from HT.sIx_nat _ _ 9, List.length_take, List.length_drop, hfl]
                  omega
                have := z.2.1
                omega
              · rw [List.mem_singleton.mp hx]
                exact ⟨_, .lst ((e21.trans e) _ _ h1)⟩)
          refine ⟨_, rfl, _, rfl, num, 128, rfl, rfl, dv rfl, _, _, rfl, rfl, md rfl, c8, _, _, wrong, rfl, rfl, sq_of hc8, at_of (by omega) hwr, ?_⟩
          refine ⟨_, rfl, wrong, rfl, (hbad _ (Same.refl _)).th, fun H22 e22 => ⟨_, false, rfl, rfl, _, rfl, ?_⟩⟩
          rw [(hbad _ (Same.refl _)).no]
          refine iteF ⟨_, rfl, 0, wrong, rfl, (hbad _ e22).th, (hbad _ e22).no, fun H23 r1 e23 nr1 hr1 => ⟨sz_ok (show 1 ≤ 1000000 by decide), fun l1 nl1 => ?_⟩⟩
          have x1 := same_new (o := .lst [.str "die"]) nl1
          refine ne_is (is_list (sq_of (x1 _ _ hr1)) (.strs [("die" : Str)])) (is_list (sq_of upd_same) (.strs [("die" : Str)])) ⟨_, rfl, ?_⟩
          rw [decide_eq_true rfl]
          have e24 := (e22.trans e23).trans x1
          refine iteF ⟨_, rfl, 1, wrong, rfl, (hbad _ e24).th, (hbad _ e24).no, fun H25 r2 e25 nr2 hr2 => ⟨sz_ok (show 1 ≤ 1000000 by decide), fun l2 nl2 => ?_⟩⟩
          have x2 := same_new (o := .lst [.str "die"]) nl2
          refine ne_is (is_list (sq_of (x2 _ _ hr2)) (.strs [("die" : Str)])) (is_list (sq_of upd_same) (.strs [("die" : Str)])) ⟨_, rfl, ?_⟩
          rw [decide_eq_true rfl]
          refine iteF ?_
          have e26 := (e21.trans (e24.trans e25)).trans x2
          generalize upd H25 l2 (.lst [.str "die"]) = H26 at *
          have hnum : num.natAbs < 2 ^ 27 := by omega
          have h64 : -(2 ^ 64) < num ∧ num < 2 ^ 64 := by omega
          -- n
          obtain ⟨m, hm0, hm1, hatm⟩ : ∃ m : Int, 1 ≤ m ∧ m.natAbs < 2 ^ 100 ∧ atI [V.int 1, .int 1, .int (10 ^ (30 : Int).toNat)] (i : Int) = some (.int m) := by
            obtain h | h | h : i = 0 ∨ i = 1 ∨ i = 2 := by omega
            · subst h
              exact ⟨1, by decide, by decide +kernel, at_of (j := 0) rfl rfl⟩
            · subst h
              exact ⟨1, by decide, by decide +kernel, at_of (j := 1) rfl rfl⟩
            · subst h
              exact ⟨10 ^ (30 : Int).toNat, by decide +kernel, by decide +kernel, at_of (j := 2) rfl rfl⟩
          refine ⟨_, rfl, _, rfl, num, num, rfl, rfl, .inl h64, _, rfl, _, num, rfl, rfl, .inr h64, 10, 30, rfl, rfl, ⟨by decide, by decide, by decide⟩, sz_ok (show 3 ≤ 1000000 by decide), fun g1 ng1 => ?_⟩
          refine ⟨_, rfl, g1, _, _, .int m, rfl, rfl, sq_of upd_same, hatm, _, m, rfl, rfl, wide_mul (wide_lt (wide_lt hnum hnum) hnum) hm1 (by decide) (by decide) (by decide), ?_⟩
          have e27 := e26.trans (same_new (o := .lst [.int 1, .int 1, .int (10 ^ (30 : Int).toNat)]) ng1)
          generalize upd H26 g1 (.lst [.int 1, .int 1, .int (10 ^ (30 : Int).toNat)]) = H27 at *
          -- d
          obtain ⟨m2, hm20, hm21, hatm2⟩ : ∃ m : Int, 1 ≤ m ∧ m.natAbs < 2 ^ 100 ∧ atI [V.int 1, .int (10 ^ (20 : Int).toNat), .int 1] (i : Int) = some (.int m) := by
            obtain h | h | h : i = 0 ∨ i = 1 ∨ i = 2 := by omega
            · subst h
              exact ⟨1, by decide, by decide +kernel, at_of (j := 0) rfl rfl⟩
            · subst h
              exact ⟨10 ^ (20 : Int).toNat, by decide +kernel, by decide +kernel, at_of (j := 1) rfl rfl⟩
            · subst h
              exact ⟨1, by decide, by decide +kernel, at_of (j := 2) rfl rfl⟩
          refine ⟨_, rfl, _, rfl, 70, _, rfl, rfl, a, ns, 70 + (i : Int), rfl, (e5.trans e27).seq hS, h63, by omega, by omega, fun H28 e28 => ?_⟩
          obtain ⟨dn0, dn1⟩ := draw_range ns (70 + (i : Int))
          generalize drawN ns (70 + (i : Int)) = dn at *
          have hdn : dn.natAbs < 2 ^ 27 := by omega
          refine ⟨10, 20, rfl, rfl, ⟨by decide, by decide, by decide⟩, sz_ok (show 3 ≤ 1000000 by decide), fun g2 ng2 => ?_⟩
          refine ⟨_, rfl, g2, _, _, .int m2, rfl, rfl, sq_of upd_same, hatm2, dn, m2, rfl, rfl, .inl ⟨by omega, by omega⟩, 1, _, rfl, rfl, ?_⟩
          have e29 := (e27.trans e28).trans (same_new (o := .lst [.int 1, .int (10 ^ (20 : Int).toNat), .int 1]) ng2)
          generalize upd H28 g2 (.lst [.int 1, .int (10 ^ (20 : Int).toNat), .int 1]) = H29 at *
          dsimp only
          have hN0 : 0 ≤ num * num * num * m := Int.mul_nonneg (Int.mul_nonneg (Int.mul_nonneg num0 num0) num0) (by omega)
          have hdm : (dn * m2).natAbs < 2 ^ (27 + 100) := wide_lt hdn hm21
          have hdm0 : 0 ≤ dn * m2 := Int.mul_nonneg dn0 (by omega)
          have hD0 : 0 < 1 + dn * m2 := by omega
          have hD1 : (1 + dn * m2).natAbs < 2 ^ 200 := by
            have : (2 : Nat) ^ (27 + 100) + 1 ≤ 2 ^ 200 := by decide +kernel
            omega
          generalize num * num * num * m = nn at *
          generalize 1 + dn * m2 = dd at *
          -- by
          refine ⟨_, rfl, num, 7, rfl, rfl, dv rfl, _, _, rfl, rfl, md rfl, 1, _, rfl, rfl, ?_⟩
          dsimp only
          have hby : 1 ≤ 1 + num / 7 % 99 ∧ 1 + num / 7 % 99 ≤ 99 := by omega
          generalize 1 + num / 7 % 99 = by_ at *
          have hbd : (by_ * dd).natAbs < 2 ^ 8000 := by
            have h7 : by_.natAbs < 2 ^ 7 := by omega
            exact Nat.lt_of_lt_of_le (wide_lt h7 hD1) (Nat.pow_le_pow_right (by decide) (by decide))
          have hdd : dd.natAbs < 2 ^ 8000 := Nat.lt_of_lt_of_le hD1 (Nat.pow_le_pow_right (by decide) (by decide))
          -- the last test
          refine ⟨_, rfl, _, rfl, by_, nn, rfl, rfl, .inl ⟨by omega, by omega⟩, _, rfl, _, rfl, by_, dd, rfl, rfl, .inl ⟨by omega, by omega⟩, ?_⟩
          refine ⟨by_ * nn, by_ * dd, rfl, Int.mul_pos (by omega) hD0, hbd, fun p8 np8 => ?_⟩
          have z1 := same_new (o := .tup ((shareL (by_ * nn) (by_ * dd)).map V.int)) np8
          refine ⟨_, rfl, _, rfl, nn, dd, rfl, hN0, hD0, hdd, fun p9 np9 => ?_⟩
          have z2 := same_new (o := .tup ((shareL nn dd).map V.int)) np9
          refine ⟨p8, p9, shareL (by_ * nn) (by_ * dd), shareL nn dd, rfl, z2 _ _ upd_same, upd_same, share_len _ _, fun H30 e30 => ⟨_, rfl, ?_⟩⟩
          rw [decide_eq_true (share_scale (by omega))]
          refine iteF ⟨_, rfl, 0, dd, rfl, hD0, hdd, fun p10 np10 => ?_⟩
          have z3 := same_new (o := .tup ((shareL 0 dd).map V.int)) np10
          refine ⟨two_ok, fun p11 np11 => ?_⟩
          have z4 := same_new (o := .tup [.int 0, .int 1]) np11
          refine ⟨p10, p11, shareL 0 dd, [0, 1], rfl, z4 _ _ upd_same, upd_same, share_len _ _, fun H31 e31 => ⟨_, rfl, ?_⟩⟩
          rw [decide_eq_true (share_zero hD0)]
          exact iteF ⟨e5.trans ((((((e29.trans z1).trans z2).trans e30).trans z3).trans z4).trans e31), _, _, _, _, _, _, _, _, _, _, _, _, rfl⟩
        · unfold dieV at z
          rw [lstOf_ref h5] at z
          have z2 : dieB (ms.reverse.map V.int) = false := z
          rw [hrev] at z2
          cases z2
      · rw [(good H7 e57).2] at z
        cases z
    · rw [(good H6 e6).2] at z
      cases z
end
end My

namespace My
open PySem PySem.Spec PyProof.Rows L2
def lay_mk {K : PySem.W.Frag} {h : Heap} {mg : Str → Option Value} (X : K.In h) (G : h.Ns mainGlobals mg)
    {t_MOST_FACES : Tok}
    {t_GREATEST_FACE : Tok}
    {a_DiceError : Addr}
    {a_BadDie : Addr}
    {a_BadDice : Addr}
    {a_BadNumber : Addr}
    {a_BadCounts : Addr}
    {a_BadText : Addr}
    {o_is_number : Option Addr} {w_is_number : Option Addr} {q_is_number : Array (Option Value)} {i_is_number j_is_number u_is_number v_is_number r_is_number y_is_number : Value} {a_is_number : Addr}
    {o_is_face : Option Addr} {w_is_face : Option Addr} {q_is_face : Array (Option Value)} {i_is_face j_is_face u_is_face v_is_face r_is_face y_is_face : Value} {a_is_face : Addr}
    {o_is_die : Option Addr} {w_is_die : Option Addr} {q_is_die : Array (Option Value)} {i_is_die j_is_die u_is_die v_is_die r_is_die y_is_die : Value} {a_is_die : Addr}
    {o_need_die : Option Addr} {w_need_die : Option Addr} {q_need_die : Array (Option Value)} {i_need_die j_need_die u_need_die v_need_die r_need_die y_need_die : Value} {a_need_die : Addr}
    {o_share : Option Addr} {w_share : Option Addr} {q_share : Array (Option Value)} {i_share j_share u_share v_share r_share y_share : Value} {a_share : Addr}
    {o_mean : Option Addr} {w_mean : Option Addr} {q_mean : Array (Option Value)} {i_mean j_mean u_mean v_mean r_mean y_mean : Value} {a_mean : Addr}
    {o_law_draw : Option Addr} {w_law_draw : Option Addr} {q_law_draw : Array (Option Value)} {i_law_draw j_law_draw u_law_draw v_law_draw r_law_draw y_law_draw : Value} {a_law_draw : Addr}
    {o_law_word : Option Addr} {w_law_word : Option Addr} {q_law_word : Array (Option Value)} {i_law_word j_law_word u_law_word v_law_word r_law_word y_law_word : Value} {a_law_word : Addr}
    {o_law_whole : Option Addr} {w_law_whole : Option Addr} {q_law_whole : Array (Option Value)} {i_law_whole j_law_whole u_law_whole v_law_whole r_law_whole y_law_whole : Value} {a_law_whole : Addr}
    {o_law_die : Option Addr} {w_law_die : Option Addr} {q_law_die : Array (Option Value)} {i_law_die j_law_die u_law_die v_law_die r_law_die y_law_die : Value} {a_law_die : Addr}
    {o_law_is : Option Addr} {w_law_is : Option Addr} {q_law_is : Array (Option Value)} {i_law_is j_law_is u_law_is v_law_is r_law_is y_law_is : Value} {a_law_is : Addr}
    {o_law_lowest : Option Addr} {w_law_lowest : Option Addr} {q_law_lowest : Array (Option Value)} {i_law_lowest j_law_lowest u_law_lowest v_law_lowest r_law_lowest y_law_lowest : Value} {a_law_lowest : Addr}
    {o_law_refused : Option Addr} {w_law_refused : Option Addr} {q_law_refused : Array (Option Value)} {i_law_refused j_law_refused u_law_refused v_law_refused r_law_refused y_law_refused : Value} {a_law_refused : Addr}
    {o_law : Option Addr} {w_law : Option Addr} {q_law : Array (Option Value)} {i_law j_law u_law v_law r_law y_law : Value} {a_law : Addr}
    (n_isinstance : PySem.W.nsIn K mainGlobals "isinstance" = some none)
    (n_int : PySem.W.nsIn K mainGlobals "int" = some none)
    (n_bool : PySem.W.nsIn K mainGlobals "bool" = some none)
    (n_list : PySem.W.nsIn K mainGlobals "list" = some none)
    (n_len : PySem.W.nsIn K mainGlobals "len" = some none)
    (n_all : PySem.W.nsIn K mainGlobals "all" = some none)
    (n_sum : PySem.W.nsIn K mainGlobals "sum" = some none)
    (n_ValueError : PySem.W.nsIn K mainGlobals "ValueError" = some none)
    (n_range : PySem.W.nsIn K mainGlobals "range" = some none)
    (n_tuple : PySem.W.nsIn K mainGlobals "tuple" = some none)
    (n_max : PySem.W.nsIn K mainGlobals "max" = some none)
    (n_min : PySem.W.nsIn K mainGlobals "min" = some none)
    (m_gcd : PySem.W.nsIn K mainGlobals "gcd" = some (some (.builtin "math.gcd")))
    (c_MOST_FACES : PySem.W.nsIn K mainGlobals "MOST_FACES" = some (some (.int 8 t_MOST_FACES)))
    (c_GREATEST_FACE : PySem.W.nsIn K mainGlobals "GREATEST_FACE" = some (some (.int 99 t_GREATEST_FACE)))
    (hn : PySem.W.specialIn K (.builtin "object.__class__") "__get__" = some (some (.builtin "getset_descriptor.__get__")))
    (ht : PySem.W.takesIn K (.builtin "object.__class__") = some true)
    (g_DiceError : PySem.W.nsIn K mainGlobals "DiceError" = some (some (.ref a_DiceError)))
    (x_DiceError : PySem.W.excIn K a_DiceError [.type "ValueError", .type "Exception", .type "BaseException", .type "object"] "ValueError.__new__" = true)
    (k_DiceError : PySem.W.keepIn K (.ref a_DiceError) = true)
    (b_DiceError : PySem.W.subIn K (.ref a_DiceError) (.type "BaseException") = some true)
    (t_DiceError : PySem.W.typeIn K (.ref a_DiceError) = some (.type "type"))
    (hg_DiceError : PySem.W.findIn K (.ref a_DiceError) "__getattribute__" = some (some (.builtin "BaseException.__getattribute__")))
    (hk_DiceError : PySem.W.findIn K (.ref a_DiceError) "__getattr__" = some none)
    (hd_DiceError : PySem.W.hasDictIn K a_DiceError = true)
    (ha_DiceError : PySem.W.findIn K (.ref a_DiceError) "__class__" = some (some (.builtin "object.__class__")))
    (hm_DiceError : PySem.W.mroIn K a_DiceError (.type "object") = some true)
    (g_BadDie : PySem.W.nsIn K mainGlobals "BadDie" = some (some (.ref a_BadDie)))
    (x_BadDie : PySem.W.excIn K a_BadDie [.type "ValueError", .type "Exception", .type "BaseException", .type "object"] "ValueError.__new__" = true)
    (k_BadDie : PySem.W.keepIn K (.ref a_BadDie) = true)
    (b_BadDie : PySem.W.subIn K (.ref a_BadDie) (.type "BaseException") = some true)
    (t_BadDie : PySem.W.typeIn K (.ref a_BadDie) = some (.type "type"))
    (hg_BadDie : PySem.W.findIn K (.ref a_BadDie) "__getattribute__" = some (some (.builtin "BaseException.__getattribute__")))
    (hk_BadDie : PySem.W.findIn K (.ref a_BadDie) "__getattr__" = some none)
    (hd_BadDie : PySem.W.hasDictIn K a_BadDie = true)
    (ha_BadDie : PySem.W.findIn K (.ref a_BadDie) "__class__" = some (some (.builtin "object.__class__")))
    (hm_BadDie : PySem.W.mroIn K a_BadDie (.type "object") = some true)
    (g_BadDice : PySem.W.nsIn K mainGlobals "BadDice" = some (some (.ref a_BadDice)))
    (x_BadDice : PySem.W.excIn K a_BadDice [.type "ValueError", .type "Exception", .type "BaseException", .type "object"] "ValueError.__new__" = true)
    (k_BadDice : PySem.W.keepIn K (.ref a_BadDice) = true)
    (b_BadDice : PySem.W.subIn K (.ref a_BadDice) (.type "BaseException") = some true)
    (t_BadDice : PySem.W.typeIn K (.ref a_BadDice) = some (.type "type"))
    (hg_BadDice : PySem.W.findIn K (.ref a_BadDice) "__getattribute__" = some (some (.builtin "BaseException.__getattribute__")))
    (hk_BadDice : PySem.W.findIn K (.ref a_BadDice) "__getattr__" = some none)
    (hd_BadDice : PySem.W.hasDictIn K a_BadDice = true)
    (ha_BadDice : PySem.W.findIn K (.ref a_BadDice) "__class__" = some (some (.builtin "object.__class__")))
    (hm_BadDice : PySem.W.mroIn K a_BadDice (.type "object") = some true)
    (g_BadNumber : PySem.W.nsIn K mainGlobals "BadNumber" = some (some (.ref a_BadNumber)))
    (x_BadNumber : PySem.W.excIn K a_BadNumber [.type "ValueError", .type "Exception", .type "BaseException", .type "object"] "ValueError.__new__" = true)
    (k_BadNumber : PySem.W.keepIn K (.ref a_BadNumber) = true)
    (b_BadNumber : PySem.W.subIn K (.ref a_BadNumber) (.type "BaseException") = some true)
    (t_BadNumber : PySem.W.typeIn K (.ref a_BadNumber) = some (.type "type"))
    (hg_BadNumber : PySem.W.findIn K (.ref a_BadNumber) "__getattribute__" = some (some (.builtin "BaseException.__getattribute__")))
    (hk_BadNumber : PySem.W.findIn K (.ref a_BadNumber) "__getattr__" = some none)
    (hd_BadNumber : PySem.W.hasDictIn K a_BadNumber = true)
    (ha_BadNumber : PySem.W.findIn K (.ref a_BadNumber) "__class__" = some (some (.builtin "object.__class__")))
    (hm_BadNumber : PySem.W.mroIn K a_BadNumber (.type "object") = some true)
    (g_BadCounts : PySem.W.nsIn K mainGlobals "BadCounts" = some (some (.ref a_BadCounts)))
    (x_BadCounts : PySem.W.excIn K a_BadCounts [.type "ValueError", .type "Exception", .type "BaseException", .type "object"] "ValueError.__new__" = true)
    (k_BadCounts : PySem.W.keepIn K (.ref a_BadCounts) = true)
    (b_BadCounts : PySem.W.subIn K (.ref a_BadCounts) (.type "BaseException") = some true)
    (t_BadCounts : PySem.W.typeIn K (.ref a_BadCounts) = some (.type "type"))
    (hg_BadCounts : PySem.W.findIn K (.ref a_BadCounts) "__getattribute__" = some (some (.builtin "BaseException.__getattribute__")))
    (hk_BadCounts : PySem.W.findIn K (.ref a_BadCounts) "__getattr__" = some none)
    (hd_BadCounts : PySem.W.hasDictIn K a_BadCounts = true)
    (ha_BadCounts : PySem.W.findIn K (.ref a_BadCounts) "__class__" = some (some (.builtin "object.__class__")))
    (hm_BadCounts : PySem.W.mroIn K a_BadCounts (.type "object") = some true)
    (g_BadText : PySem.W.nsIn K mainGlobals "BadText" = some (some (.ref a_BadText)))
    (x_BadText : PySem.W.excIn K a_BadText [.type "ValueError", .type "Exception", .type "BaseException", .type "object"] "ValueError.__new__" = true)
    (k_BadText : PySem.W.keepIn K (.ref a_BadText) = true)
    (b_BadText : PySem.W.subIn K (.ref a_BadText) (.type "BaseException") = some true)
    (t_BadText : PySem.W.typeIn K (.ref a_BadText) = some (.type "type"))
    (hg_BadText : PySem.W.findIn K (.ref a_BadText) "__getattribute__" = some (some (.builtin "BaseException.__getattribute__")))
    (hk_BadText : PySem.W.findIn K (.ref a_BadText) "__getattr__" = some none)
    (hd_BadText : PySem.W.hasDictIn K a_BadText = true)
    (ha_BadText : PySem.W.findIn K (.ref a_BadText) "__class__" = some (some (.builtin "object.__class__")))
    (hm_BadText : PySem.W.mroIn K a_BadText (.type "object") = some true)
    (s_BadDie_DiceError : PySem.W.kitOne K (.ref a_BadDie) (.ref a_DiceError) = some true)
    (e_BadDie_DiceError : PySem.W.subIn K (.ref a_BadDie) (.ref a_DiceError) = some true)
    (s_BadDie_BadDie : PySem.W.kitOne K (.ref a_BadDie) (.ref a_BadDie) = some true)
    (e_BadDie_BadDie : PySem.W.subIn K (.ref a_BadDie) (.ref a_BadDie) = some true)
    (s_BadDie_BadDice : PySem.W.kitOne K (.ref a_BadDie) (.ref a_BadDice) = some false)
    (e_BadDie_BadDice : PySem.W.subIn K (.ref a_BadDie) (.ref a_BadDice) = some false)
    (s_BadDie_BadNumber : PySem.W.kitOne K (.ref a_BadDie) (.ref a_BadNumber) = some false)
    (e_BadDie_BadNumber : PySem.W.subIn K (.ref a_BadDie) (.ref a_BadNumber) = some false)
    (s_BadDie_BadCounts : PySem.W.kitOne K (.ref a_BadDie) (.ref a_BadCounts) = some false)
    (e_BadDie_BadCounts : PySem.W.subIn K (.ref a_BadDie) (.ref a_BadCounts) = some false)
    (s_BadDie_BadText : PySem.W.kitOne K (.ref a_BadDie) (.ref a_BadText) = some false)
    (e_BadDie_BadText : PySem.W.subIn K (.ref a_BadDie) (.ref a_BadText) = some false)
    (z_DiceError : PySem.W.kitOne K (.type "NoneType") (.ref a_DiceError) = some false)
    (v_DiceError : PySem.W.kitOne K (.ref a_DiceError) (.type "ValueError") = some true)
    (z_BadDie : PySem.W.kitOne K (.type "NoneType") (.ref a_BadDie) = some false)
    (v_BadDie : PySem.W.kitOne K (.ref a_BadDie) (.type "ValueError") = some true)
    (z_BadDice : PySem.W.kitOne K (.type "NoneType") (.ref a_BadDice) = some false)
    (v_BadDice : PySem.W.kitOne K (.ref a_BadDice) (.type "ValueError") = some true)
    (z_BadNumber : PySem.W.kitOne K (.type "NoneType") (.ref a_BadNumber) = some false)
    (v_BadNumber : PySem.W.kitOne K (.ref a_BadNumber) (.type "ValueError") = some true)
    (z_BadCounts : PySem.W.kitOne K (.type "NoneType") (.ref a_BadCounts) = some false)
    (v_BadCounts : PySem.W.kitOne K (.ref a_BadCounts) (.type "ValueError") = some true)
    (z_BadText : PySem.W.kitOne K (.type "NoneType") (.ref a_BadText) = some false)
    (v_BadText : PySem.W.kitOne K (.ref a_BadText) (.type "ValueError") = some true)
    (g_is_number : PySem.W.nsIn K mainGlobals "is_number" = some (some (.ref a_is_number)))
    (l_is_number : K.lookup a_is_number = some ⟨i_is_number, o_is_number, .func (PySem.W.fnOf "is_number" "is_number" (defArgs st_is_number) (defBody st_is_number) (defScope st_is_number) .none j_is_number u_is_number v_is_number w_is_number r_is_number y_is_number), q_is_number⟩)
    (p_is_number : PySem.W.codeIn K r_is_number "is_number" = true)
    (k_is_number : PySem.W.keepIn K (.ref a_is_number) = true)
    (g_is_face : PySem.W.nsIn K mainGlobals "is_face" = some (some (.ref a_is_face)))
    (l_is_face : K.lookup a_is_face = some ⟨i_is_face, o_is_face, .func (PySem.W.fnOf "is_face" "is_face" (defArgs st_is_face) (defBody st_is_face) (defScope st_is_face) .none j_is_face u_is_face v_is_face w_is_face r_is_face y_is_face), q_is_face⟩)
    (p_is_face : PySem.W.codeIn K r_is_face "is_face" = true)
    (k_is_face : PySem.W.keepIn K (.ref a_is_face) = true)
    (g_is_die : PySem.W.nsIn K mainGlobals "is_die" = some (some (.ref a_is_die)))
    (l_is_die : K.lookup a_is_die = some ⟨i_is_die, o_is_die, .func (PySem.W.fnOf "is_die" "is_die" (defArgs st_is_die) (defBody st_is_die) (defScope st_is_die) .none j_is_die u_is_die v_is_die w_is_die r_is_die y_is_die), q_is_die⟩)
    (p_is_die : PySem.W.codeIn K r_is_die "is_die" = true)
    (k_is_die : PySem.W.keepIn K (.ref a_is_die) = true)
    (g_need_die : PySem.W.nsIn K mainGlobals "need_die" = some (some (.ref a_need_die)))
    (l_need_die : K.lookup a_need_die = some ⟨i_need_die, o_need_die, .func (PySem.W.fnOf "need_die" "need_die" (defArgs st_need_die) (defBody st_need_die) (defScope st_need_die) .none j_need_die u_need_die v_need_die w_need_die r_need_die y_need_die), q_need_die⟩)
    (p_need_die : PySem.W.codeIn K r_need_die "need_die" = true)
    (k_need_die : PySem.W.keepIn K (.ref a_need_die) = true)
    (g_share : PySem.W.nsIn K mainGlobals "share" = some (some (.ref a_share)))
    (l_share : K.lookup a_share = some ⟨i_share, o_share, .func (PySem.W.fnOf "share" "share" (defArgs st_share) (defBody st_share) (defScope st_share) .none j_share u_share v_share w_share r_share y_share), q_share⟩)
    (p_share : PySem.W.codeIn K r_share "share" = true)
    (k_share : PySem.W.keepIn K (.ref a_share) = true)
    (g_mean : PySem.W.nsIn K mainGlobals "mean" = some (some (.ref a_mean)))
    (l_mean : K.lookup a_mean = some ⟨i_mean, o_mean, .func (PySem.W.fnOf "mean" "mean" (defArgs st_mean) (defBody st_mean) (defScope st_mean) .none j_mean u_mean v_mean w_mean r_mean y_mean), q_mean⟩)
    (p_mean : PySem.W.codeIn K r_mean "mean" = true)
    (k_mean : PySem.W.keepIn K (.ref a_mean) = true)
    (g_law_draw : PySem.W.nsIn K mainGlobals "_law_draw" = some (some (.ref a_law_draw)))
    (l_law_draw : K.lookup a_law_draw = some ⟨i_law_draw, o_law_draw, .func (PySem.W.fnOf "_law_draw" "_law_draw" (defArgs st_law_draw) (defBody st_law_draw) (defScope st_law_draw) .none j_law_draw u_law_draw v_law_draw w_law_draw r_law_draw y_law_draw), q_law_draw⟩)
    (p_law_draw : PySem.W.codeIn K r_law_draw "_law_draw" = true)
    (k_law_draw : PySem.W.keepIn K (.ref a_law_draw) = true)
    (g_law_word : PySem.W.nsIn K mainGlobals "_law_word" = some (some (.ref a_law_word)))
    (l_law_word : K.lookup a_law_word = some ⟨i_law_word, o_law_word, .func (PySem.W.fnOf "_law_word" "_law_word" (defArgs st_law_word) (defBody st_law_word) (defScope st_law_word) .none j_law_word u_law_word v_law_word w_law_word r_law_word y_law_word), q_law_word⟩)
    (p_law_word : PySem.W.codeIn K r_law_word "_law_word" = true)
    (k_law_word : PySem.W.keepIn K (.ref a_law_word) = true)
    (g_law_whole : PySem.W.nsIn K mainGlobals "_law_whole" = some (some (.ref a_law_whole)))
    (l_law_whole : K.lookup a_law_whole = some ⟨i_law_whole, o_law_whole, .func (PySem.W.fnOf "_law_whole" "_law_whole" (defArgs st_law_whole) (defBody st_law_whole) (defScope st_law_whole) .none j_law_whole u_law_whole v_law_whole w_law_whole r_law_whole y_law_whole), q_law_whole⟩)
    (p_law_whole : PySem.W.codeIn K r_law_whole "_law_whole" = true)
    (k_law_whole : PySem.W.keepIn K (.ref a_law_whole) = true)
    (g_law_die : PySem.W.nsIn K mainGlobals "_law_die" = some (some (.ref a_law_die)))
    (l_law_die : K.lookup a_law_die = some ⟨i_law_die, o_law_die, .func (PySem.W.fnOf "_law_die" "_law_die" (defArgs st_law_die) (defBody st_law_die) (defScope st_law_die) .none j_law_die u_law_die v_law_die w_law_die r_law_die y_law_die), q_law_die⟩)
    (p_law_die : PySem.W.codeIn K r_law_die "_law_die" = true)
    (k_law_die : PySem.W.keepIn K (.ref a_law_die) = true)
    (g_law_is : PySem.W.nsIn K mainGlobals "_law_is" = some (some (.ref a_law_is)))
    (l_law_is : K.lookup a_law_is = some ⟨i_law_is, o_law_is, .func (PySem.W.fnOf "_law_is" "_law_is" (defArgs st_law_is) (defBody st_law_is) (defScope st_law_is) .none j_law_is u_law_is v_law_is w_law_is r_law_is y_law_is), q_law_is⟩)
    (p_law_is : PySem.W.codeIn K r_law_is "_law_is" = true)
    (k_law_is : PySem.W.keepIn K (.ref a_law_is) = true)
    (g_law_lowest : PySem.W.nsIn K mainGlobals "_law_lowest" = some (some (.ref a_law_lowest)))
    (l_law_lowest : K.lookup a_law_lowest = some ⟨i_law_lowest, o_law_lowest, .func (PySem.W.fnOf "_law_lowest" "_law_lowest" (defArgs st_law_lowest) (defBody st_law_lowest) (defScope st_law_lowest) .none j_law_lowest u_law_lowest v_law_lowest w_law_lowest r_law_lowest y_law_lowest), q_law_lowest⟩)
    (p_law_lowest : PySem.W.codeIn K r_law_lowest "_law_lowest" = true)
    (k_law_lowest : PySem.W.keepIn K (.ref a_law_lowest) = true)
    (g_law_refused : PySem.W.nsIn K mainGlobals "_law_refused" = some (some (.ref a_law_refused)))
    (l_law_refused : K.lookup a_law_refused = some ⟨i_law_refused, o_law_refused, .func (PySem.W.fnOf "_law_refused" "_law_refused" (defArgs st_law_refused) (defBody st_law_refused) (defScope st_law_refused) .none j_law_refused u_law_refused v_law_refused w_law_refused r_law_refused y_law_refused), q_law_refused⟩)
    (p_law_refused : PySem.W.codeIn K r_law_refused "_law_refused" = true)
    (k_law_refused : PySem.W.keepIn K (.ref a_law_refused) = true)
    (g_law : PySem.W.nsIn K mainGlobals "law" = some (some (.ref a_law)))
    (l_law : K.lookup a_law = some ⟨i_law, o_law, .func (PySem.W.fnOf "law" "law" (defArgs st_law) (defBody st_law) (defScope st_law) .none j_law u_law v_law w_law r_law y_law), q_law⟩)
    (p_law : PySem.W.codeIn K r_law "law" = true)
    (k_law : PySem.W.keepIn K (.ref a_law) = true) : Lay K mg :=
  { n_isinstance := PySem.W.mg_none_of X G n_isinstance,
    n_int := PySem.W.mg_none_of X G n_int,
    n_bool := PySem.W.mg_none_of X G n_bool,
    n_list := PySem.W.mg_none_of X G n_list,
    n_len := PySem.W.mg_none_of X G n_len,
    n_all := PySem.W.mg_none_of X G n_all,
    n_sum := PySem.W.mg_none_of X G n_sum,
    n_ValueError := PySem.W.mg_none_of X G n_ValueError,
    n_range := PySem.W.mg_none_of X G n_range,
    n_tuple := PySem.W.mg_none_of X G n_tuple,
    n_max := PySem.W.mg_none_of X G n_max,
    n_min := PySem.W.mg_none_of X G n_min,
    m_gcd := PySem.W.mg_of X G m_gcd,
    t_MOST_FACES := _, c_MOST_FACES := PySem.W.mg_of X G c_MOST_FACES,
    t_GREATEST_FACE := _, c_GREATEST_FACE := PySem.W.mg_of X G c_GREATEST_FACE,
    a_DiceError := _, g_DiceError := PySem.W.mg_of X G g_DiceError, x_DiceError := { x := x_DiceError, k := k_DiceError, b := b_DiceError, t := t_DiceError, c := { hg := hg_DiceError, hk := hk_DiceError, hs := b_DiceError, hd := hd_DiceError, ha := ha_DiceError, hn := hn, ht := ht, hm := hm_DiceError } },
    a_BadDie := _, g_BadDie := PySem.W.mg_of X G g_BadDie, x_BadDie := { x := x_BadDie, k := k_BadDie, b := b_BadDie, t := t_BadDie, c := { hg := hg_BadDie, hk := hk_BadDie, hs := b_BadDie, hd := hd_BadDie, ha := ha_BadDie, hn := hn, ht := ht, hm := hm_BadDie } },
    a_BadDice := _, g_BadDice := PySem.W.mg_of X G g_BadDice, x_BadDice := { x := x_BadDice, k := k_BadDice, b := b_BadDice, t := t_BadDice, c := { hg := hg_BadDice, hk := hk_BadDice, hs := b_BadDice, hd := hd_BadDice, ha := ha_BadDice, hn := hn, ht := ht, hm := hm_BadDice } },
    a_BadNumber := _, g_BadNumber := PySem.W.mg_of X G g_BadNumber, x_BadNumber := { x := x_BadNumber, k := k_BadNumber, b := b_BadNumber, t := t_BadNumber, c := { hg := hg_BadNumber, hk := hk_BadNumber, hs := b_BadNumber, hd := hd_BadNumber, ha := ha_BadNumber, hn := hn, ht := ht, hm := hm_BadNumber } },
    a_BadCounts := _, g_BadCounts := PySem.W.mg_of X G g_BadCounts, x_BadCounts := { x := x_BadCounts, k := k_BadCounts, b := b_BadCounts, t := t_BadCounts, c := { hg := hg_BadCounts, hk := hk_BadCounts, hs := b_BadCounts, hd := hd_BadCounts, ha := ha_BadCounts, hn := hn, ht := ht, hm := hm_BadCounts } },
    a_BadText := _, g_BadText := PySem.W.mg_of X G g_BadText, x_BadText := { x := x_BadText, k := k_BadText, b := b_BadText, t := t_BadText, c := { hg := hg_BadText, hk := hk_BadText, hs := b_BadText, hd := hd_BadText, ha := ha_BadText, hn := hn, ht := ht, hm := hm_BadText } },
    s_BadDie_DiceError := s_BadDie_DiceError, e_BadDie_DiceError := e_BadDie_DiceError,
    s_BadDie_BadDie := s_BadDie_BadDie, e_BadDie_BadDie := e_BadDie_BadDie,
    s_BadDie_BadDice := s_BadDie_BadDice, e_BadDie_BadDice := e_BadDie_BadDice,
    s_BadDie_BadNumber := s_BadDie_BadNumber, e_BadDie_BadNumber := e_BadDie_BadNumber,
    s_BadDie_BadCounts := s_BadDie_BadCounts, e_BadDie_BadCounts := e_BadDie_BadCounts,
    s_BadDie_BadText := s_BadDie_BadText, e_BadDie_BadText := e_BadDie_BadText,
    z_DiceError := z_DiceError,
    v_DiceError := v_DiceError,
    z_BadDie := z_BadDie,
    v_BadDie := v_BadDie,
    z_BadDice := z_BadDice,
    v_BadDice := v_BadDice,
    z_BadNumber := z_BadNumber,
    v_BadNumber := v_BadNumber,
    z_BadCounts := z_BadCounts,
    v_BadCounts := v_BadCounts,
    z_BadText := z_BadText,
    v_BadText := v_BadText,
    a_is_number := _, d_is_number := _, g_is_number := PySem.W.mg_of X G g_is_number, f_is_number := fun_mk (st := st_is_number) l_is_number p_is_number k_is_number, b_is_number := (fun_mk (st := st_is_number) l_is_number p_is_number k_is_number).binds (ps := ["thing"]) fun _ _ _ _ _ _ us hl => match us, hl with | [_], _ => rfl,
    a_is_face := _, d_is_face := _, g_is_face := PySem.W.mg_of X G g_is_face, f_is_face := fun_mk (st := st_is_face) l_is_face p_is_face k_is_face, b_is_face := (fun_mk (st := st_is_face) l_is_face p_is_face k_is_face).binds (ps := ["thing"]) fun _ _ _ _ _ _ us hl => match us, hl with | [_], _ => rfl,
    a_is_die := _, d_is_die := _, g_is_die := PySem.W.mg_of X G g_is_die, f_is_die := fun_mk (st := st_is_die) l_is_die p_is_die k_is_die, b_is_die := (fun_mk (st := st_is_die) l_is_die p_is_die k_is_die).binds (ps := ["thing"]) fun _ _ _ _ _ _ us hl => match us, hl with | [_], _ => rfl,
    a_need_die := _, d_need_die := _, g_need_die := PySem.W.mg_of X G g_need_die, f_need_die := fun_mk (st := st_need_die) l_need_die p_need_die k_need_die, b_need_die := (fun_mk (st := st_need_die) l_need_die p_need_die k_need_die).binds (ps := ["thing"]) fun _ _ _ _ _ _ us hl => match us, hl with | [_], _ => rfl,
    a_share := _, d_share := _, g_share := PySem.W.mg_of X G g_share, f_share := fun_mk (st := st_share) l_share p_share k_share, b_share := (fun_mk (st := st_share) l_share p_share k_share).binds (ps := ["n", "d"]) fun _ _ _ _ _ _ us hl => match us, hl with | [_, _], _ => rfl,
    a_mean := _, d_mean := _, g_mean := PySem.W.mg_of X G g_mean, f_mean := fun_mk (st := st_mean) l_mean p_mean k_mean, b_mean := (fun_mk (st := st_mean) l_mean p_mean k_mean).binds (ps := ["die"]) fun _ _ _ _ _ _ us hl => match us, hl with | [_], _ => rfl,
    a_law_draw := _, d_law_draw := _, g_law_draw := PySem.W.mg_of X G g_law_draw, f_law_draw := fun_mk (st := st_law_draw) l_law_draw p_law_draw k_law_draw, b_law_draw := (fun_mk (st := st_law_draw) l_law_draw p_law_draw k_law_draw).binds (ps := ["_law_script", "_law_k"]) fun _ _ _ _ _ _ us hl => match us, hl with | [_, _], _ => rfl,
    a_law_word := _, d_law_word := _, g_law_word := PySem.W.mg_of X G g_law_word, f_law_word := fun_mk (st := st_law_word) l_law_word p_law_word k_law_word, b_law_word := (fun_mk (st := st_law_word) l_law_word p_law_word k_law_word).binds (ps := ["_law_e"]) fun _ _ _ _ _ _ us hl => match us, hl with | [_], _ => rfl,
    a_law_whole := _, d_law_whole := _, g_law_whole := PySem.W.mg_of X G g_law_whole, f_law_whole := fun_mk (st := st_law_whole) l_law_whole p_law_whole k_law_whole, b_law_whole := (fun_mk (st := st_law_whole) l_law_whole p_law_whole k_law_whole).binds (ps := ["_law_found"]) fun _ _ _ _ _ _ us hl => match us, hl with | [_], _ => rfl,
    a_law_die := _, d_law_die := _, g_law_die := PySem.W.mg_of X G g_law_die, f_law_die := fun_mk (st := st_law_die) l_law_die p_law_die k_law_die, b_law_die := (fun_mk (st := st_law_die) l_law_die p_law_die k_law_die).binds (ps := ["_law_script", "_law_k", "_law_most", "_law_top"]) fun _ _ _ _ _ _ us hl => match us, hl with | [_, _, _, _], _ => rfl,
    a_law_is := _, d_law_is := _, g_law_is := PySem.W.mg_of X G g_law_is, f_law_is := fun_mk (st := st_law_is) l_law_is p_law_is k_law_is, b_law_is := (fun_mk (st := st_law_is) l_law_is p_law_is k_law_is).binds (ps := ["_law_found", "_law_due"]) fun _ _ _ _ _ _ us hl => match us, hl with | [_, _], _ => rfl,
    a_law_lowest := _, d_law_lowest := _, g_law_lowest := PySem.W.mg_of X G g_law_lowest, f_law_lowest := fun_mk (st := st_law_lowest) l_law_lowest p_law_lowest k_law_lowest, b_law_lowest := (fun_mk (st := st_law_lowest) l_law_lowest p_law_lowest k_law_lowest).binds (ps := ["_law_n", "_law_d"]) fun _ _ _ _ _ _ us hl => match us, hl with | [_, _], _ => rfl,
    a_law_refused := _, d_law_refused := _, g_law_refused := PySem.W.mg_of X G g_law_refused, f_law_refused := fun_mk (st := st_law_refused) l_law_refused p_law_refused k_law_refused, b_law_refused := (fun_mk (st := st_law_refused) l_law_refused p_law_refused k_law_refused).binds (ps := ["_law_way", "_law_thing"]) fun _ _ _ _ _ _ us hl => match us, hl with | [_, _], _ => rfl,
    a_law := _, d_law := _, g_law := PySem.W.mg_of X G g_law, f_law := fun_mk (st := st_law) l_law p_law k_law, b_law := (fun_mk (st := st_law) l_law p_law k_law).binds (ps := ["_law_script"]) fun _ _ _ _ _ _ us hl => match us, hl with | [_], _ => rfl }
theorem all_mk {l : PySem.W.OpenLaw} {w : World} {K : PySem.W.Frag} {h : Heap} {mg : Str → Option Value} {fa : Addr} (X : K.In h) (G : h.Ns mainGlobals mg) (hfa : mg "law" = some (.ref fa))
    {t_MOST_FACES : Tok}
    {t_GREATEST_FACE : Tok}
    {a_DiceError : Addr}
    {a_BadDie : Addr}
    {a_BadDice : Addr}
    {a_BadNumber : Addr}
    {a_BadCounts : Addr}
    {a_BadText : Addr}
    {o_is_number : Option Addr} {w_is_number : Option Addr} {q_is_number : Array (Option Value)} {i_is_number j_is_number u_is_number v_is_number r_is_number y_is_number : Value} {a_is_number : Addr}
    {o_is_face : Option Addr} {w_is_face : Option Addr} {q_is_face : Array (Option Value)} {i_is_face j_is_face u_is_face v_is_face r_is_face y_is_face : Value} {a_is_face : Addr}
    {o_is_die : Option Addr} {w_is_die : Option Addr} {q_is_die : Array (Option Value)} {i_is_die j_is_die u_is_die v_is_die r_is_die y_is_die : Value} {a_is_die : Addr}
    {o_need_die : Option Addr} {w_need_die : Option Addr} {q_need_die : Array (Option Value)} {i_need_die j_need_die u_need_die v_need_die r_need_die y_need_die : Value} {a_need_die : Addr}
    {o_share : Option Addr} {w_share : Option Addr} {q_share : Array (Option Value)} {i_share j_share u_share v_share r_share y_share : Value} {a_share : Addr}
    {o_mean : Option Addr} {w_mean : Option Addr} {q_mean : Array (Option Value)} {i_mean j_mean u_mean v_mean r_mean y_mean : Value} {a_mean : Addr}
    {o_law_draw : Option Addr} {w_law_draw : Option Addr} {q_law_draw : Array (Option Value)} {i_law_draw j_law_draw u_law_draw v_law_draw r_law_draw y_law_draw : Value} {a_law_draw : Addr}
    {o_law_word : Option Addr} {w_law_word : Option Addr} {q_law_word : Array (Option Value)} {i_law_word j_law_word u_law_word v_law_word r_law_word y_law_word : Value} {a_law_word : Addr}
    {o_law_whole : Option Addr} {w_law_whole : Option Addr} {q_law_whole : Array (Option Value)} {i_law_whole j_law_whole u_law_whole v_law_whole r_law_whole y_law_whole : Value} {a_law_whole : Addr}
    {o_law_die : Option Addr} {w_law_die : Option Addr} {q_law_die : Array (Option Value)} {i_law_die j_law_die u_law_die v_law_die r_law_die y_law_die : Value} {a_law_die : Addr}
    {o_law_is : Option Addr} {w_law_is : Option Addr} {q_law_is : Array (Option Value)} {i_law_is j_law_is u_law_is v_law_is r_law_is y_law_is : Value} {a_law_is : Addr}
    {o_law_lowest : Option Addr} {w_law_lowest : Option Addr} {q_law_lowest : Array (Option Value)} {i_law_lowest j_law_lowest u_law_lowest v_law_lowest r_law_lowest y_law_lowest : Value} {a_law_lowest : Addr}
    {o_law_refused : Option Addr} {w_law_refused : Option Addr} {q_law_refused : Array (Option Value)} {i_law_refused j_law_refused u_law_refused v_law_refused r_law_refused y_law_refused : Value} {a_law_refused : Addr}
    {o_law : Option Addr} {w_law : Option Addr} {q_law : Array (Option Value)} {i_law j_law u_law v_law r_law y_law : Value} {a_law : Addr}
    (n_isinstance : PySem.W.nsIn K mainGlobals "isinstance" = some none)
    (n_int : PySem.W.nsIn K mainGlobals "int" = some none)
    (n_bool : PySem.W.nsIn K mainGlobals "bool" = some none)
    (n_list : PySem.W.nsIn K mainGlobals "list" = some none)
    (n_len : PySem.W.nsIn K mainGlobals "len" = some none)
    (n_all : PySem.W.nsIn K mainGlobals "all" = some none)
    (n_sum : PySem.W.nsIn K mainGlobals "sum" = some none)
    (n_ValueError : PySem.W.nsIn K mainGlobals "ValueError" = some none)
    (n_range : PySem.W.nsIn K mainGlobals "range" = some none)
    (n_tuple : PySem.W.nsIn K mainGlobals "tuple" = some none)
    (n_max : PySem.W.nsIn K mainGlobals "max" = some none)
    (n_min : PySem.W.nsIn K mainGlobals "min" = some none)
    (m_gcd : PySem.W.nsIn K mainGlobals "gcd" = some (some (.builtin "math.gcd")))
    (c_MOST_FACES : PySem.W.nsIn K mainGlobals "MOST_FACES" = some (some (.int 8 t_MOST_FACES)))
    (c_GREATEST_FACE : PySem.W.nsIn K mainGlobals "GREATEST_FACE" = some (some (.int 99 t_GREATEST_FACE)))
    (hn : PySem.W.specialIn K (.builtin "object.__class__") "__get__" = some (some (.builtin "getset_descriptor.__get__")))
    (ht : PySem.W.takesIn K (.builtin "object.__class__") = some true)
    (g_DiceError : PySem.W.nsIn K mainGlobals "DiceError" = some (some (.ref a_DiceError)))
    (x_DiceError : PySem.W.excIn K a_DiceError [.type "ValueError", .type "Exception", .type "BaseException", .type "object"] "ValueError.__new__" = true)
    (k_DiceError : PySem.W.keepIn K (.ref a_DiceError) = true)
    (b_DiceError : PySem.W.subIn K (.ref a_DiceError) (.type "BaseException") = some true)
    (t_DiceError : PySem.W.typeIn K (.ref a_DiceError) = some (.type "type"))
    (hg_DiceError : PySem.W.findIn K (.ref a_DiceError) "__getattribute__" = some (some (.builtin "BaseException.__getattribute__")))
    (hk_DiceError : PySem.W.findIn K (.ref a_DiceError) "__getattr__" = some none)
    (hd_DiceError : PySem.W.hasDictIn K a_DiceError = true)
    (ha_DiceError : PySem.W.findIn K (.ref a_DiceError) "__class__" = some (some (.builtin "object.__class__")))
    (hm_DiceError : PySem.W.mroIn K a_DiceError (.type "object") = some true)
    (g_BadDie : PySem.W.nsIn K mainGlobals "BadDie" = some (some (.ref a_BadDie)))
    (x_BadDie : PySem.W.excIn K a_BadDie [.type "ValueError", .type "Exception", .type "BaseException", .type "object"] "ValueError.__new__" = true)
    (k_BadDie : PySem.W.keepIn K (.ref a_BadDie) = true)
    (b_BadDie : PySem.W.subIn K (.ref a_BadDie) (.type "BaseException") = some true)
    (t_BadDie : PySem.W.typeIn K (.ref a_BadDie) = some (.type "type"))
    (hg_BadDie : PySem.W.findIn K (.ref a_BadDie) "__getattribute__" = some (some (.builtin "BaseException.__getattribute__")))
    (hk_BadDie : PySem.W.findIn K (.ref a_BadDie) "__getattr__" = some none)
    (hd_BadDie : PySem.W.hasDictIn K a_BadDie = true)
    (ha_BadDie : PySem.W.findIn K (.ref a_BadDie) "__class__" = some (some (.builtin "object.__class__")))
    (hm_BadDie : PySem.W.mroIn K a_BadDie (.type "object") = some true)
    (g_BadDice : PySem.W.nsIn K mainGlobals "BadDice" = some (some (.ref a_BadDice)))
    (x_BadDice : PySem.W.excIn K a_BadDice [.type "ValueError", .type "Exception", .type "BaseException", .type "object"] "ValueError.__new__" = true)
    (k_BadDice : PySem.W.keepIn K (.ref a_BadDice) = true)
    (b_BadDice : PySem.W.subIn K (.ref a_BadDice) (.type "BaseException") = some true)
    (t_BadDice : PySem.W.typeIn K (.ref a_BadDice) = some (.type "type"))
    (hg_BadDice : PySem.W.findIn K (.ref a_BadDice) "__getattribute__" = some (some (.builtin "BaseException.__getattribute__")))
    (hk_BadDice : PySem.W.findIn K (.ref a_BadDice) "__getattr__" = some none)
    (hd_BadDice : PySem.W.hasDictIn K a_BadDice = true)
    (ha_BadDice : PySem.W.findIn K (.ref a_BadDice) "__class__" = some (some (.builtin "object.__class__")))
    (hm_BadDice : PySem.W.mroIn K a_BadDice (.type "object") = some true)
    (g_BadNumber : PySem.W.nsIn K mainGlobals "BadNumber" = some (some (.ref a_BadNumber)))
    (x_BadNumber : PySem.W.excIn K a_BadNumber [.type "ValueError", .type "Exception", .type "BaseException", .type "object"] "ValueError.__new__" = true)
    (k_BadNumber : PySem.W.keepIn K (.ref a_BadNumber) = true)
    (b_BadNumber : PySem.W.subIn K (.ref a_BadNumber) (.type "BaseException") = some true)
    (t_BadNumber : PySem.W.typeIn K (.ref a_BadNumber) = some (.type "type"))
    (hg_BadNumber : PySem.W.findIn K (.ref a_BadNumber) "__getattribute__" = some (some (.builtin "BaseException.__getattribute__")))
    (hk_BadNumber : PySem.W.findIn K (.ref a_BadNumber) "__getattr__" = some none)
    (hd_BadNumber : PySem.W.hasDictIn K a_BadNumber = true)
    (ha_BadNumber : PySem.W.findIn K (.ref a_BadNumber) "__class__" = some (some (.builtin "object.__class__")))
    (hm_BadNumber : PySem.W.mroIn K a_BadNumber (.type "object") = some true)
    (g_BadCounts : PySem.W.nsIn K mainGlobals "BadCounts" = some (some (.ref a_BadCounts)))
    (x_BadCounts : PySem.W.excIn K a_BadCounts [.type "ValueError", .type "Exception", .type "BaseException", .type "object"] "ValueError.__new__" = true)
    (k_BadCounts : PySem.W.keepIn K (.ref a_BadCounts) = true)
    (b_BadCounts : PySem.W.subIn K (.ref a_BadCounts) (.type "BaseException") = some true)
    (t_BadCounts : PySem.W.typeIn K (.ref a_BadCounts) = some (.type "type"))
    (hg_BadCounts : PySem.W.findIn K (.ref a_BadCounts) "__getattribute__" = some (some (.builtin "BaseException.__getattribute__")))
    (hk_BadCounts : PySem.W.findIn K (.ref a_BadCounts) "__getattr__" = some none)
    (hd_BadCounts : PySem.W.hasDictIn K a_BadCounts = true)
    (ha_BadCounts : PySem.W.findIn K (.ref a_BadCounts) "__class__" = some (some (.builtin "object.__class__")))
    (hm_BadCounts : PySem.W.mroIn K a_BadCounts (.type "object") = some true)
    (g_BadText : PySem.W.nsIn K mainGlobals "BadText" = some (some (.ref a_BadText)))
    (x_BadText : PySem.W.excIn K a_BadText [.type "ValueError", .type "Exception", .type "BaseException", .type "object"] "ValueError.__new__" = true)
    (k_BadText : PySem.W.keepIn K (.ref a_BadText) = true)
    (b_BadText : PySem.W.subIn K (.ref a_BadText) (.type "BaseException") = some true)
    (t_BadText : PySem.W.typeIn K (.ref a_BadText) = some (.type "type"))
    (hg_BadText : PySem.W.findIn K (.ref a_BadText) "__getattribute__" = some (some (.builtin "BaseException.__getattribute__")))
    (hk_BadText : PySem.W.findIn K (.ref a_BadText) "__getattr__" = some none)
    (hd_BadText : PySem.W.hasDictIn K a_BadText = true)
    (ha_BadText : PySem.W.findIn K (.ref a_BadText) "__class__" = some (some (.builtin "object.__class__")))
    (hm_BadText : PySem.W.mroIn K a_BadText (.type "object") = some true)
    (s_BadDie_DiceError : PySem.W.kitOne K (.ref a_BadDie) (.ref a_DiceError) = some true)
    (e_BadDie_DiceError : PySem.W.subIn K (.ref a_BadDie) (.ref a_DiceError) = some true)
    (s_BadDie_BadDie : PySem.W.kitOne K (.ref a_BadDie) (.ref a_BadDie) = some true)
    (e_BadDie_BadDie : PySem.W.subIn K (.ref a_BadDie) (.ref a_BadDie) = some true)
    (s_BadDie_BadDice : PySem.W.kitOne K (.ref a_BadDie) (.ref a_BadDice) = some false)
    (e_BadDie_BadDice : PySem.W.subIn K (.ref a_BadDie) (.ref a_BadDice) = some false)
    (s_BadDie_BadNumber : PySem.W.kitOne K (.ref a_BadDie) (.ref a_BadNumber) = some false)
    (e_BadDie_BadNumber : PySem.W.subIn K (.ref a_BadDie) (.ref a_BadNumber) = some false)
    (s_BadDie_BadCounts : PySem.W.kitOne K (.ref a_BadDie) (.ref a_BadCounts) = some false)
    (e_BadDie_BadCounts : PySem.W.subIn K (.ref a_BadDie) (.ref a_BadCounts) = some false)
    (s_BadDie_BadText : PySem.W.kitOne K (.ref a_BadDie) (.ref a_BadText) = some false)
    (e_BadDie_BadText : PySem.W.subIn K (.ref a_BadDie) (.ref a_BadText) = some false)
    (z_DiceError : PySem.W.kitOne K (.type "NoneType") (.ref a_DiceError) = some false)
    (v_DiceError : PySem.W.kitOne K (.ref a_DiceError) (.type "ValueError") = some true)
    (z_BadDie : PySem.W.kitOne K (.type "NoneType") (.ref a_BadDie) = some false)
    (v_BadDie : PySem.W.kitOne K (.ref a_BadDie) (.type "ValueError") = some true)
    (z_BadDice : PySem.W.kitOne K (.type "NoneType") (.ref a_BadDice) = some false)
    (v_BadDice : PySem.W.kitOne K (.ref a_BadDice) (.type "ValueError") = some true)
    (z_BadNumber : PySem.W.kitOne K (.type "NoneType") (.ref a_BadNumber) = some false)
    (v_BadNumber : PySem.W.kitOne K (.ref a_BadNumber) (.type "ValueError") = some true)
    (z_BadCounts : PySem.W.kitOne K (.type "NoneType") (.ref a_BadCounts) = some false)
    (v_BadCounts : PySem.W.kitOne K (.ref a_BadCounts) (.type "ValueError") = some true)
    (z_BadText : PySem.W.kitOne K (.type "NoneType") (.ref a_BadText) = some false)
    (v_BadText : PySem.W.kitOne K (.ref a_BadText) (.type "ValueError") = some true)
    (g_is_number : PySem.W.nsIn K mainGlobals "is_number" = some (some (.ref a_is_number)))
    (l_is_number : K.lookup a_is_number = some ⟨i_is_number, o_is_number, .func (PySem.W.fnOf "is_number" "is_number" (defArgs st_is_number) (defBody st_is_number) (defScope st_is_number) .none j_is_number u_is_number v_is_number w_is_number r_is_number y_is_number), q_is_number⟩)
    (p_is_number : PySem.W.codeIn K r_is_number "is_number" = true)
    (k_is_number : PySem.W.keepIn K (.ref a_is_number) = true)
    (g_is_face : PySem.W.nsIn K mainGlobals "is_face" = some (some (.ref a_is_face)))
    (l_is_face : K.lookup a_is_face = some ⟨i_is_face, o_is_face, .func (PySem.W.fnOf "is_face" "is_face" (defArgs st_is_face) (defBody st_is_face) (defScope st_is_face) .none j_is_face u_is_face v_is_face w_is_face r_is_face y_is_face), q_is_face⟩)
    (p_is_face : PySem.W.codeIn K r_is_face "is_face" = true)
    (k_is_face : PySem.W.keepIn K (.ref a_is_face) = true)
    (g_is_die : PySem.W.nsIn K mainGlobals "is_die" = some (some (.ref a_is_die)))
    (l_is_die : K.lookup a_is_die = some ⟨i_is_die, o_is_die, .func (PySem.W.fnOf "is_die" "is_die" (defArgs st_is_die) (defBody st_is_die) (defScope st_is_die) .none j_is_die u_is_die v_is_die w_is_die r_is_die y_is_die), q_is_die⟩)
    (p_is_die : PySem.W.codeIn K r_is_die "is_die" = true)
    (k_is_die : PySem.W.keepIn K (.ref a_is_die) = true)
    (g_need_die : PySem.W.nsIn K mainGlobals "need_die" = some (some (.ref a_need_die)))
    (l_need_die : K.lookup a_need_die = some ⟨i_need_die, o_need_die, .func (PySem.W.fnOf "need_die" "need_die" (defArgs st_need_die) (defBody st_need_die) (defScope st_need_die) .none j_need_die u_need_die v_need_die w_need_die r_need_die y_need_die), q_need_die⟩)
    (p_need_die : PySem.W.codeIn K r_need_die "need_die" = true)
    (k_need_die : PySem.W.keepIn K (.ref a_need_die) = true)
    (g_share : PySem.W.nsIn K mainGlobals "share" = some (some (.ref a_share)))
    (l_share : K.lookup a_share = some ⟨i_share, o_share, .func (PySem.W.fnOf "share" "share" (defArgs st_share) (defBody st_share) (defScope st_share) .none j_share u_share v_share w_share r_share y_share), q_share⟩)
    (p_share : PySem.W.codeIn K r_share "share" = true)
    (k_share : PySem.W.keepIn K (.ref a_share) = true)
    (g_mean : PySem.W.nsIn K mainGlobals "mean" = some (some (.ref a_mean)))
    (l_mean : K.lookup a_mean = some ⟨i_mean, o_mean, .func (PySem.W.fnOf "mean" "mean" (defArgs st_mean) (defBody st_mean) (defScope st_mean) .none j_mean u_mean v_mean w_mean r_mean y_mean), q_mean⟩)
    (p_mean : PySem.W.codeIn K r_mean "mean" = true)
    (k_mean : PySem.W.keepIn K (.ref a_mean) = true)
    (g_law_draw : PySem.W.nsIn K mainGlobals "_law_draw" = some (some (.ref a_law_draw)))
    (l_law_draw : K.lookup a_law_draw = some ⟨i_law_draw, o_law_draw, .func (PySem.W.fnOf "_law_draw" "_law_draw" (defArgs st_law_draw) (defBody st_law_draw) (defScope st_law_draw) .none j_law_draw u_law_draw v_law_draw w_law_draw r_law_draw y_law_draw), q_law_draw⟩)
    (p_law_draw : PySem.W.codeIn K r_law_draw "_law_draw" = true)
    (k_law_draw : PySem.W.keepIn K (.ref a_law_draw) = true)
    (g_law_word : PySem.W.nsIn K mainGlobals "_law_word" = some (some (.ref a_law_word)))
    (l_law_word : K.lookup a_law_word = some ⟨i_law_word, o_law_word, .func (PySem.W.fnOf "_law_word" "_law_word" (defArgs st_law_word) (defBody st_law_word) (defScope st_law_word) .none j_law_word u_law_word v_law_word w_law_word r_law_word y_law_word), q_law_word⟩)
    (p_law_word : PySem.W.codeIn K r_law_word "_law_word" = true)
    (k_law_word : PySem.W.keepIn K (.ref a_law_word) = true)
    (g_law_whole : PySem.W.nsIn K mainGlobals "_law_whole" = some (some (.ref a_law_whole)))
    (l_law_whole : K.lookup a_law_whole = some ⟨i_law_whole, o_law_whole, .func (PySem.W.fnOf "_law_whole" "_law_whole" (defArgs st_law_whole) (defBody st_law_whole) (defScope st_law_whole) .none j_law_whole u_law_whole v_law_whole w_law_whole r_law_whole y_law_whole), q_law_whole⟩)
    (p_law_whole : PySem.W.codeIn K r_law_whole "_law_whole" = true)
    (k_law_whole : PySem.W.keepIn K (.ref a_law_whole) = true)
    (g_law_die : PySem.W.nsIn K mainGlobals "_law_die" = some (some (.ref a_law_die)))
    (l_law_die : K.lookup a_law_die = some ⟨i_law_die, o_law_die, .func (PySem.W.fnOf "_law_die" "_law_die" (defArgs st_law_die) (defBody st_law_die) (defScope st_law_die) .none j_law_die u_law_die v_law_die w_law_die r_law_die y_law_die), q_law_die⟩)
    (p_law_die : PySem.W.codeIn K r_law_die "_law_die" = true)
    (k_law_die : PySem.W.keepIn K (.ref a_law_die) = true)
    (g_law_is : PySem.W.nsIn K mainGlobals "_law_is" = some (some (.ref a_law_is)))
    (l_law_is : K.lookup a_law_is = some ⟨i_law_is, o_law_is, .func (PySem.W.fnOf "_law_is" "_law_is" (defArgs st_law_is) (defBody st_law_is) (defScope st_law_is) .none j_law_is u_law_is v_law_is w_law_is r_law_is y_law_is), q_law_is⟩)
    (p_law_is : PySem.W.codeIn K r_law_is "_law_is" = true)
    (k_law_is : PySem.W.keepIn K (.ref a_law_is) = true)
    (g_law_lowest : PySem.W.nsIn K mainGlobals "_law_lowest" = some (some (.ref a_law_lowest)))
    (l_law_lowest : K.lookup a_law_lowest = some ⟨i_law_lowest, o_law_lowest, .func (PySem.W.fnOf "_law_lowest" "_law_lowest" (defArgs st_law_lowest) (defBody st_law_lowest) (defScope st_law_lowest) .none j_law_lowest u_law_lowest v_law_lowest w_law_lowest r_law_lowest y_law_lowest), q_law_lowest⟩)
    (p_law_lowest : PySem.W.codeIn K r_law_lowest "_law_lowest" = true)
    (k_law_lowest : PySem.W.keepIn K (.ref a_law_lowest) = true)
    (g_law_refused : PySem.W.nsIn K mainGlobals "_law_refused" = some (some (.ref a_law_refused)))
    (l_law_refused : K.lookup a_law_refused = some ⟨i_law_refused, o_law_refused, .func (PySem.W.fnOf "_law_refused" "_law_refused" (defArgs st_law_refused) (defBody st_law_refused) (defScope st_law_refused) .none j_law_refused u_law_refused v_law_refused w_law_refused r_law_refused y_law_refused), q_law_refused⟩)
    (p_law_refused : PySem.W.codeIn K r_law_refused "_law_refused" = true)
    (k_law_refused : PySem.W.keepIn K (.ref a_law_refused) = true)
    (g_law : PySem.W.nsIn K mainGlobals "law" = some (some (.ref a_law)))
    (l_law : K.lookup a_law = some ⟨i_law, o_law, .func (PySem.W.fnOf "law" "law" (defArgs st_law) (defBody st_law) (defScope st_law) .none j_law u_law v_law w_law r_law y_law), q_law⟩)
    (p_law : PySem.W.codeIn K r_law "law" = true)
    (k_law : PySem.W.keepIn K (.ref a_law) = true) :
    ∃ fd : FuncData, (∀ (s : Shared) (v : Value), BindsTo s fd ⟨[v], []⟩ [("_law_script", v)]) ∧ ∀ base : Heap, K.In base → base.Ns mainGlobals mg → FnOk l.prog w K mg base CX0 7 fa fd ["_law_script"] (spLaw K) := by
  have e := hfa.symm.trans (PySem.W.mg_of X G g_law)
  cases e
  exact ⟨(lay_mk X G n_isinstance n_int n_bool n_list n_len n_all n_sum n_ValueError n_range n_tuple n_max n_min m_gcd c_MOST_FACES c_GREATEST_FACE hn ht g_DiceError x_DiceError k_DiceError b_DiceError t_DiceError hg_DiceError hk_DiceError hd_DiceError ha_DiceError hm_DiceError g_BadDie x_BadDie k_BadDie b_BadDie t_BadDie hg_BadDie hk_BadDie hd_BadDie ha_BadDie hm_BadDie g_BadDice x_BadDice k_BadDice b_BadDice t_BadDice hg_BadDice hk_BadDice hd_BadDice ha_BadDice hm_BadDice g_BadNumber x_BadNumber k_BadNumber b_BadNumber t_BadNumber hg_BadNumber hk_BadNumber hd_BadNumber ha_BadNumber hm_BadNumber g_BadCounts x_BadCounts k_BadCounts b_BadCounts t_BadCounts hg_BadCounts hk_BadCounts hd_BadCounts ha_BadCounts hm_BadCounts g_BadText x_BadText k_BadText b_BadText t_BadText hg_BadText hk_BadText hd_BadText ha_BadText hm_BadText s_BadDie_DiceError e_BadDie_DiceError s_BadDie_BadDie e_BadDie_BadDie s_BadDie_BadDice e_BadDie_BadDice s_BadDie_BadNumber e_BadDie_BadNumber s_BadDie_BadCounts e_BadDie_BadCounts s_BadDie_BadText e_BadDie_BadText z_DiceError v_DiceError z_BadDie v_BadDie z_BadDice v_BadDice z_BadNumber v_BadNumber z_BadCounts v_BadCounts z_BadText v_BadText g_is_number l_is_number p_is_number k_is_number g_is_face l_is_face p_is_face k_is_face g_is_die l_is_die p_is_die k_is_die g_need_die l_need_die p_need_die k_need_die g_share l_share p_share k_share g_mean l_mean p_mean k_mean g_law_draw l_law_draw p_law_draw k_law_draw g_law_word l_law_word p_law_word k_law_word g_law_whole l_law_whole p_law_whole k_law_whole g_law_die l_law_die p_law_die k_law_die g_law_is l_law_is p_law_is k_law_is g_law_lowest l_law_lowest p_law_lowest k_law_lowest g_law_refused l_law_refused p_law_refused k_law_refused g_law l_law p_law k_law).d_law, fun s v => .of_eq rfl, fun base _ _ => ok_law (lay_mk X G n_isinstance n_int n_bool n_list n_len n_all n_sum n_ValueError n_range n_tuple n_max n_min m_gcd c_MOST_FACES c_GREATEST_FACE hn ht g_DiceError x_DiceError k_DiceError b_DiceError t_DiceError hg_DiceError hk_DiceError hd_DiceError ha_DiceError hm_DiceError g_BadDie x_BadDie k_BadDie b_BadDie t_BadDie hg_BadDie hk_BadDie hd_BadDie ha_BadDie hm_BadDie g_BadDice x_BadDice k_BadDice b_BadDice t_BadDice hg_BadDice hk_BadDice hd_BadDice ha_BadDice hm_BadDice g_BadNumber x_BadNumber k_BadNumber b_BadNumber t_BadNumber hg_BadNumber hk_BadNumber hd_BadNumber ha_BadNumber hm_BadNumber g_BadCounts x_BadCounts k_BadCounts b_BadCounts t_BadCounts hg_BadCounts hk_BadCounts hd_BadCounts ha_BadCounts hm_BadCounts g_BadText x_BadText k_BadText b_BadText t_BadText hg_BadText hk_BadText hd_BadText ha_BadText hm_BadText s_BadDie_DiceError e_BadDie_DiceError s_BadDie_BadDie e_BadDie_BadDie s_BadDie_BadDice e_BadDie_BadDice s_BadDie_BadNumber e_BadDie_BadNumber s_BadDie_BadCounts e_BadDie_BadCounts s_BadDie_BadText e_BadDie_BadText z_DiceError v_DiceError z_BadDie v_BadDie z_BadDice v_BadDice z_BadNumber v_BadNumber z_BadCounts v_BadCounts z_BadText v_BadText g_is_number l_is_number p_is_number k_is_number g_is_face l_is_face p_is_face k_is_face g_is_die l_is_die p_is_die k_is_die g_need_die l_need_die p_need_die k_need_die g_share l_share p_share k_share g_mean l_mean p_mean k_mean g_law_draw l_law_draw p_law_draw k_law_draw g_law_word l_law_word p_law_word k_law_word g_law_whole l_law_whole p_law_whole k_law_whole g_law_die l_law_die p_law_die k_law_die g_law_is l_law_is p_law_is k_law_is g_law_lowest l_law_lowest p_law_lowest k_law_lowest g_law_refused l_law_refused p_law_refused k_law_refused g_law l_law p_law k_law)⟩
end My
open PySem PySem.W PyProof.Rows
set_option maxHeartbeats 0 in
theorem PySem.Challenge.cw_dicepairs_k01_dice_holds : PySem.Challenge.rw_dicepairs_k01_dice.Holds := by
  w_on; o_law; k_head; (case hw => w_witness2)
  k_fill
  refine L2.walk_of (l := PySem.Challenge.rw_dicepairs_k01_dice) (n := 63) (k := 7) (x := "_law_script") (CX := fun _ => L2.CX0) (sp := fun w => My.spLaw _) rfl (by decide) rfl ⟨rfl, by decide, by decide⟩ (fun w h Y => PySem.W.kIn_of Y) ?F (fun _ _ a ns hl _ hS => ⟨a, ns, rfl, hS, hl, fun _ => rfl⟩) (fun _ _ _ _ _ h => h)
  case F =>
    intro w mg fa h KX G hmg
    refine' My.all_mk KX G hmg ?n_isinstance ?n_int ?n_bool ?n_list ?n_len ?n_all ?n_sum ?n_ValueError ?n_range ?n_tuple ?n_max ?n_min ?m_gcd ?c_MOST_FACES ?c_GREATEST_FACE ?hn ?ht ?g_DiceError ?x_DiceError ?k_DiceError ?b_DiceError ?t_DiceError ?hg_DiceError ?hk_DiceError ?hd_DiceError ?ha_DiceError ?hm_DiceError ?g_BadDie ?x_BadDie ?k_BadDie ?b_BadDie ?t_BadDie ?hg_BadDie ?hk_BadDie ?hd_BadDie ?ha_BadDie ?hm_BadDie ?g_BadDice ?x_BadDice ?k_BadDice ?b_BadDice ?t_BadDice ?hg_BadDice ?hk_BadDice ?hd_BadDice ?ha_BadDice ?hm_BadDice ?g_BadNumber ?x_BadNumber ?k_BadNumber ?b_BadNumber ?t_BadNumber ?hg_BadNumber ?hk_BadNumber ?hd_BadNumber ?ha_BadNumber ?hm_BadNumber ?g_BadCounts ?x_BadCounts ?k_BadCounts ?b_BadCounts ?t_BadCounts ?hg_BadCounts ?hk_BadCounts ?hd_BadCounts ?ha_BadCounts ?hm_BadCounts ?g_BadText ?x_BadText ?k_BadText ?b_BadText ?t_BadText ?hg_BadText ?hk_BadText ?hd_BadText ?ha_BadText ?hm_BadText ?s_BadDie_DiceError ?e_BadDie_DiceError ?s_BadDie_BadDie ?e_BadDie_BadDie ?s_BadDie_BadDice ?e_BadDie_BadDice ?s_BadDie_BadNumber ?e_BadDie_BadNumber ?s_BadDie_BadCounts ?e_BadDie_BadCounts ?s_BadDie_BadText ?e_BadDie_BadText ?z_DiceError ?v_DiceError ?z_BadDie ?v_BadDie ?z_BadDice ?v_BadDice ?z_BadNumber ?v_BadNumber ?z_BadCounts ?v_BadCounts ?z_BadText ?v_BadText ?g_is_number ?l_is_number ?p_is_number ?k_is_number ?g_is_face ?l_is_face ?p_is_face ?k_is_face ?g_is_die ?l_is_die ?p_is_die ?k_is_die ?g_need_die ?l_need_die ?p_need_die ?k_need_die ?g_share ?l_share ?p_share ?k_share ?g_mean ?l_mean ?p_mean ?k_mean ?g_law_draw ?l_law_draw ?p_law_draw ?k_law_draw ?g_law_word ?l_law_word ?p_law_word ?k_law_word ?g_law_whole ?l_law_whole ?p_law_whole ?k_law_whole ?g_law_die ?l_law_die ?p_law_die ?k_law_die ?g_law_is ?l_law_is ?p_law_is ?k_law_is ?g_law_lowest ?l_law_lowest ?p_law_lowest ?k_law_lowest ?g_law_refused ?l_law_refused ?p_law_refused ?k_law_refused ?g_law ?l_law ?p_law ?k_law
    (case n_isinstance => first | k_is | rfl)
    (case n_int => first | k_is | rfl)
    (case n_bool => first | k_is | rfl)
    (case n_list => first | k_is | rfl)
    (case n_len => first | k_is | rfl)
    (case n_all => first | k_is | rfl)
    (case n_sum => first | k_is | rfl)
    (case n_ValueError => first | k_is | rfl)
    (case n_range => first | k_is | rfl)
    (case n_tuple => first | k_is | rfl)
    (case n_max => first | k_is | rfl)
    (case n_min => first | k_is | rfl)
    (case m_gcd => first | k_is | rfl)
    (case c_MOST_FACES => first | k_is | rfl)
    (case c_GREATEST_FACE => first | k_is | rfl)
    (case hn => first | k_is | rfl)
    (case ht => first | k_is | rfl)
    (case g_DiceError => first | k_is | rfl)
    (case x_DiceError => k_exc)
    (case k_DiceError => first | k_is | rfl)
    (case b_DiceError => first | k_is | rfl)
    (case t_DiceError => first | k_is | rfl)
    (case hg_DiceError => first | k_is | rfl)
    (case hk_DiceError => first | k_is | rfl)
    (case hd_DiceError => first | k_is | rfl)
    (case ha_DiceError => first | k_is | rfl)
    (case hm_DiceError => first | k_is | rfl)
    (case g_BadDie => first | k_is | rfl)
    (case x_BadDie => k_exc)
    (case k_BadDie => first | k_is | rfl)
    (case b_BadDie => first | k_is | rfl)
    (case t_BadDie => first | k_is | rfl)
    (case hg_BadDie => first | k_is | rfl)
    (case hk_BadDie => first | k_is | rfl)
    (case hd_BadDie => first | k_is | rfl)
    (case ha_BadDie => first | k_is | rfl)
    (case hm_BadDie => first | k_is | rfl)
    (case g_BadDice => first | k_is | rfl)
    (case x_BadDice => k_exc)
    (case k_BadDice => first | k_is | rfl)
    (case b_BadDice => first | k_is | rfl)
    (case t_BadDice => first | k_is | rfl)
    (case hg_BadDice => first | k_is | rfl)
    (case hk_BadDice => first | k_is | rfl)
    (case hd_BadDice => first | k_is | rfl)
    (case ha_BadDice => first | k_is | rfl)
    (case hm_BadDice => first | k_is | rfl)
    (case g_BadNumber => first | k_is | rfl)
    (case x_BadNumber => k_exc)
    (case k_BadNumber => first | k_is | rfl)
    (case b_BadNumber => first | k_is | rfl)
    (case t_BadNumber => first | k_is | rfl)
    (case hg_BadNumber => first | k_is | rfl)
    (case hk_BadNumber => first | k_is | rfl)
    (case hd_BadNumber => first | k_is | rfl)
    (case ha_BadNumber => first | k_is | rfl)
    (case hm_BadNumber => first | k_is | rfl)
    (case g_BadCounts => first | k_is | rfl)
    (case x_BadCounts => k_exc)
    (case k_BadCounts => first | k_is | rfl)
    (case b_BadCounts => first | k_is | rfl)
    (case t_BadCounts => first | k_is | rfl)
    (case hg_BadCounts => first | k_is | rfl)
    (case hk_BadCounts => first | k_is | rfl)
    (case hd_BadCounts => first | k_is | rfl)
    (case ha_BadCounts => first | k_is | rfl)
    (case hm_BadCounts => first | k_is | rfl)
    (case g_BadText => first | k_is | rfl)
    (case x_BadText => k_exc)
    (case k_BadText => first | k_is | rfl)
    (case b_BadText => first | k_is | rfl)
    (case t_BadText => first | k_is | rfl)
    (case hg_BadText => first | k_is | rfl)
    (case hk_BadText => first | k_is | rfl)
    (case hd_BadText => first | k_is | rfl)
    (case ha_BadText => first | k_is | rfl)
    (case hm_BadText => first | k_is | rfl)
    (case s_BadDie_DiceError => first | k_is | rfl)
    (case e_BadDie_DiceError => first | k_is | rfl)
    (case s_BadDie_BadDie => first | k_is | rfl)
    (case e_BadDie_BadDie => first | k_is | rfl)
    (case s_BadDie_BadDice => first | k_is | rfl)
    (case e_BadDie_BadDice => first | k_is | rfl)
    (case s_BadDie_BadNumber => first | k_is | rfl)
    (case e_BadDie_BadNumber => first | k_is | rfl)
    (case s_BadDie_BadCounts => first | k_is | rfl)
    (case e_BadDie_BadCounts => first | k_is | rfl)
    (case s_BadDie_BadText => first | k_is | rfl)
    (case e_BadDie_BadText => first | k_is | rfl)
    (case z_DiceError => first | k_is | rfl)
    (case v_DiceError => first | k_is | rfl)
    (case z_BadDie => first | k_is | rfl)
    (case v_BadDie => first | k_is | rfl)
    (case z_BadDice => first | k_is | rfl)
    (case v_BadDice => first | k_is | rfl)
    (case z_BadNumber => first | k_is | rfl)
    (case v_BadNumber => first | k_is | rfl)
    (case z_BadCounts => first | k_is | rfl)
    (case v_BadCounts => first | k_is | rfl)
    (case z_BadText => first | k_is | rfl)
    (case v_BadText => first | k_is | rfl)
    (case g_is_number => first | k_is | rfl)
    (case l_is_number => first | k_is | rfl)
    (case p_is_number => first | k_is | rfl)
    (case k_is_number => first | k_is | rfl)
    (case g_is_face => first | k_is | rfl)
    (case l_is_face => first | k_is | rfl)
    (case p_is_face => first | k_is | rfl)
    (case k_is_face => first | k_is | rfl)
    (case g_is_die => first | k_is | rfl)
    (case l_is_die => first | k_is | rfl)
    (case p_is_die => first | k_is | rfl)
    (case k_is_die => first | k_is | rfl)
    (case g_need_die => first | k_is | rfl)
    (case l_need_die => first | k_is | rfl)
    (case p_need_die => first | k_is | rfl)
    (case k_need_die => first | k_is | rfl)
    (case g_share => first | k_is | rfl)
    (case l_share => first | k_is | rfl)
    (case p_share => first | k_is | rfl)
    (case k_share => first | k_is | rfl)
    (case g_mean => first | k_is | rfl)
    (case l_mean => first | k_is | rfl)
    (case p_mean => first | k_is | rfl)
    (case k_mean => first | k_is | rfl)
    (case g_law_draw => first | k_is | rfl)
    (case l_law_draw => first | k_is | rfl)
    (case p_law_draw => first | k_is | rfl)
    (case k_law_draw => first | k_is | rfl)
    (case g_law_word => first | k_is | rfl)
    (case l_law_word => first | k_is | rfl)
    (case p_law_word => first | k_is | rfl)
    (case k_law_word => first | k_is | rfl)
    (case g_law_whole => first | k_is | rfl)
    (case l_law_whole => first | k_is | rfl)
    (case p_law_whole => first | k_is | rfl)
    (case k_law_whole => first | k_is | rfl)
    (case g_law_die => first | k_is | rfl)
    (case l_law_die => first | k_is | rfl)
    (case p_law_die => first | k_is | rfl)
    (case k_law_die => first | k_is | rfl)
    (case g_law_is => first | k_is | rfl)
    (case l_law_is => first | k_is | rfl)
    (case p_law_is => first | k_is | rfl)
    (case k_law_is => first | k_is | rfl)
    (case g_law_lowest => first | k_is | rfl)
    (case l_law_lowest => first | k_is | rfl)
    (case p_law_lowest => first | k_is | rfl)
    (case k_law_lowest => first | k_is | rfl)
    (case g_law_refused => first | k_is | rfl)
    (case l_law_refused => first | k_is | rfl)
    (case p_law_refused => first | k_is | rfl)
    (case k_law_refused => first | k_is | rfl)
    (case g_law => first | k_is | rfl)
    (case l_law => first | k_is | rfl)
    (case p_law => first | k_is | rfl)
    (case k_law => first | k_is | rfl)
