import PyProof.Rows.All
import Wide.All
import OpenK.AllK
import Wide.FinOn
import HandS.ForExc
import HandS.TryMany
import HandS.ForMost
import HandS.Evl
import HandS.Wide
import HandS.IsInst
import HandS.TupAny
import HandS.TupMul
import HandS.ExcInit
import HandS.ExcField
import HandS.Small
import HandS.Lambda
import HandS.Gcd
import HandS.Defaults
import HandS.HeadWalk
import HandS.HeadHook4
import HandS.Head2
import HandS.Style
import KE.KMathGC
import KE.GoesEnum
import HandS.Comp
import HandS.GenList
import HandS.AnyAll
import PyProof.TupleOfGen
import HandS.Head3
import HandS.HeadEnd
import PySem.Challenge.RW_hushdrawers_k10_stores_refused
set_option Elab.async false
set_option linter.all false
set_option maxRecDepth 100000
set_option maxHeartbeats 4000000
/-! several except clauses, some with a name -/
namespace Hd
open PySem PySem.Spec PyProof.Rows L2
abbrev ClTS := Addr → Value → Option Addr → TS
/-- behind a clause with a name its slot is bare again -/
def bareAt (i : Nat) (D : Ends) : Ends :=
  ⟨fun z G => D.nx (z.set i none) G, D.rt, fun z G => D.bk (z.set i none) G, fun z G => D.ct (z.set i none) G⟩
def named (i : Nat) (t : ClTS) : ClTS := fun a c d D z G => t a c d (bareAt i D) (z.set i (some (.ref a))) G
inductive Clauses (X : Cx) : List ExceptHandler → List (Value × ClTS) → Prop
  | nil : Clauses X [] []
  | bare {x : Str} {c : Value} {t : ClTS} {b : Stmt} {bs : List Stmt} {q q' : Pos} {hs : List ExceptHandler} {l : List (Value × ClTS)} (hc : Names X x c)
      (hb : ∀ (a : Addr) (oe : Obj) (k : Value) (d : Option Addr) (pn : List (Addr × Obj)), Zc k d oe → (∃ vs, oe.data = .fields vs) → PSs (X.suite a ((a, oe) :: pn)) (b :: bs) (t a k d)) (r : Clauses X hs l) :
      Clauses X (.ExceptHandler (some (.Name x q)) none (b :: bs) q' :: hs) ((c, t) :: l)
  | as_ {x n : Str} {i : Nat} {c : Value} {t : ClTS} {b : Stmt} {bs : List Stmt} {q q' : Pos} {hs : List ExceptHandler} {l : List (Value × ClTS)} (hN : X.N.Nodup) (hi : X.N[i]? = some n) (hn : X.env.kindOf n = some .local) (hc : Names X x c)
      (hb : ∀ (a : Addr) (oe : Obj) (k : Value) (d : Option Addr) (pn : List (Addr × Obj)), Zc k d oe → (∃ vs, oe.data = .fields vs) → PSs (X.suite a ((a, oe) :: pn)) (b :: bs) (t a k d)) (r : Clauses X hs l) :
      Clauses X (.ExceptHandler (some (.Name x q)) (some n) (b :: bs) q' :: hs) ((c, named i t) :: l)
/-- the exception at a has landed in this frame at heap g; J is the state without it -/
structure Landed (X : Cx) (pins : List (Addr × Obj)) (z : L2.St) (G : Hp) (a : Addr) (B : Heap) (cls : Value) (d : Option Addr) (sI s' : Shared) (g : Heap) : Prop where
  own : X.stack = X.env :: X.outer
  frm : X.env.frame = some X.env.locals
  st : Inv X pins z G sI
  ground : ∀ b o, sI.heap.get? b = some o → b ∉ frs X.stack → B.get? b = some o
  ups : sI.heap.UpToSlots g
  out : G a = none
  os : s'.os = sI.os
  gens : AllBare s'.gens
  fly : HandSPX.FlyingZ B (X.env :: X.outer) a (Zc cls d) g
section
variable {X : Cx} {pins : List (Addr × Obj)} {z : L2.St} {G : Hp} {a : Addr} {B g : Heap} {cls : Value} {d : Option Addr} {sI s' : Shared} {D : Ends} {Wout : WX}
theorem Landed.inv (L : Landed X pins z G a B cls d sI s' g) : Inv X pins z G { s' with heap := g } :=
  L.st.landed (s' := { s' with heap := g }) L.ground L.fly.1 L.ups L.os L.gens
theorem Landed.far (L : Landed X pins z G a B cls d sI s' g) : a ≠ X.env.locals ∧ a ∉ X.fs := by
  obtain ⟨oe, vs, e1, _, e3⟩ := L.fly.there
  have no : a ∉ frs (X.env :: X.outer) := fun m => by
    obtain ⟨_, ob, e4, nf⟩ := L.fly.2.2.1.mem m
    have e5 := e1.symm.trans e4
    cases e5
    exact nf vs e3
  constructor
  · intro e
    refine no (List.mem_filterMap.mpr ⟨X.env, List.mem_cons_self, ?_⟩)
    rw [L.frm, e]
  · intro m
    obtain ⟨en, m1, m2⟩ := List.mem_filterMap.mp m
    exact no (List.mem_filterMap.mpr ⟨en, List.mem_cons_of_mem X.env m1, m2⟩)
/-- the suite of a clause is entered with the flight set to none once more -/
theorem Landed.suite (L : Landed X pins z G a B cls d sI s' g) {A : Around} {Q : Unit → Shared → Prop} {E : Value → Shared → Prop}
    (k : ∀ g' oe, Landed X pins z G a B cls d sI s' g' → g'.get? a = some oe → Zc cls d oe → (∃ vs, oe.data = .fields vs) → Inv (X.suite a ((a, oe) :: (X.pn ++ pins))) [] z G { s' with heap := g' } → Q () { s' with heap := g' }) :
    wpAny (model X.prog X.w) A (setFlight (.ref a) none) Q E { s' with heap := g } :=
  HandSPX.lands_againZ L.fly fun g' f u => by
    have L' : Landed X pins z G a B cls d sI s' g' := { L with ups := L.ups.trans u, fly := f }
    obtain ⟨oe, vs, e1, e2, e3⟩ := f.there
    exact k g' oe L' e1 e2 ⟨vs, e3⟩ (L'.inv.suite e1 e3 L.out L.far.1 L.far.2)
/-- no clause took it: it flies on -/
theorem Landed.on (L : Landed X pins z G a B cls d sI s' g) (tk : Takes X Wout) (w : Wout cls d z G) :
    wpAny (model X.prog X.w) X.A (handleBy (.ref a) X.env []) (SP X pins D) X.xe { s' with heap := g } := by
  refine wpAny_handleBy_nil ?_
  obtain ⟨oe, vs, T, oT, ts, e1, _, e3, e4, _⟩ := L.fly.2.2.2
  unfold PySem.passOn
  refine wpAny_bind (wpAny_field e1 e3 e4 ?_)
  rw [if_neg (show ¬ ((Value.ref T == Value.none) = true) by simp)]
  have go : wpAny (model X.prog X.w) X.A (setFlight (.ref a) X.env.frame) (fun _ t => wpAny (model X.prog X.w) X.A (throw (.ref a) : Sem Flow) (SP X pins D) X.xe t) X.xe { s' with heap := g } := by
    rw [L.frm]
    refine HandSPX.setFlight_upZ L.fly fun g' hh u => wpAny_throw (tk _ _ ⟨a, B, sI, pins, z, G, cls, d, rfl, L.st, L.ground, L.ups.trans u, ?_, L.out, L.os, L.gens, w⟩)
    rw [L.own]
    exact Or.inr (Or.inr hh)
  first | exact wpAny_bind (wpAny_pure (wpAny_bind go)) | exact wpAny_bind go
theorem SP.unsuite {q : Addr × Obj} {f : Flow} {s : Shared} (ok : X.Ok) (h : SP (X.suite a (q :: (X.pn ++ pins))) [] D f s) : SP X pins D f s := by
  cases f with
  | ret u => exact let ⟨v, z, G, I, r, w⟩ := h; ⟨v, z, G, I.unsuite ok, r, w⟩
  | _ => exact let ⟨z, G, I, w⟩ := h; ⟨z, G, I.unsuite ok, w⟩
/-- the clauses, one behind another -/
theorem clauses_run (L : Landed X pins z G a B cls d sI s' g) (tk : Takes X Wout) : ∀ {hs : List ExceptHandler} {l : List (Value × ClTS)}, Clauses X hs l → wMany X.K Wout D l cls d z G →
    wpAny (model X.prog X.w) X.A (handleBy (.ref a) X.env hs) (SP X pins D) X.xe { s' with heap := g } := by
  intro hs l hk
  have I3 := L.inv
  obtain ⟨oe3, vs3, e1, e2, e3⟩ := L.fly.there
  have S3 := I3.suite e1 e3 L.out L.far.1 L.far.2
  have ty : PySem.W.Looks (model X.prog X.w) g (typeOf (.ref a)) cls := fun A Q E s k q => wpAny_typeOf_ref (k a oe3 e1) (by rw [e2.1]; exact q)
  have look : ∀ {x : Str} {c : Value} {q : Pos} {Q : Value → Shared → Prop} {E : Value → Shared → Prop}, Names X x c → Q c { s' with heap := g } → wpAny (model X.prog X.w) (X.A.mark (some (.ref a))) (eval (.Name x q) X.env) Q E { s' with heap := g } := by
    intro x c q Q E hc hq
    rcases hc with ⟨n1, n2, n3 | ⟨n3, n4, n5⟩⟩
    · exact ld_glob (X := X.suite a ((a, oe3) :: (X.pn ++ pins))) S3 n1 n3 hq n2
    · exact ld_blt (X := X.suite a ((a, oe3) :: (X.pn ++ pins))) S3 n1 n3 n4 hq n5 n2
  induction hk with
  | nil => exact fun w => L.on tk w
  | bare hc hb r ih =>
    rintro ⟨y, hy, w1, w2⟩
    refine wpAny_handleBy_cons (codeAny_handlers_test (look hc ((PySem.W.exm_one (M := model X.prog X.w) I3.kIn ty hy).here ?_))) (by intro n; cases n)
    cases y with
    | false => exact ih (w2 rfl)
    | true =>
      refine codeAny_handlers_suite (L.suite fun g' oe L' f1 f2 f3 S => ?_)
      exact wpAny_mono ((hb a oe cls d _ f2 f3).run [] _ z G D S (w1 rfl a L.out)) (fun f t h => SP.unsuite I3.ok h) fun _ _ n => n.elim
  | @as_ x n i c t b bs q q' hs2 l2 hN hi hn hc hb r ih =>
    rintro ⟨y, hy, w1, w2⟩
    refine wpAny_handleBy_cons (codeAny_handlers_test (look hc ((PySem.W.exm_one (M := model X.prog X.w) I3.kIn ty hy).here ?_))) (by intro n; cases n)
    cases y with
    | false => exact ih (w2 rfl)
    | true =>
      refine codeAny_handlers_suite_as (L.suite fun g' oe L' f1 f2 f3 S => ?_)
      refine store_ok (X := X.suite a ((a, oe) :: (X.pn ++ pins))) (v := .ref a) S hN hi (.inl hn) rfl (fun s5 S5 => ?_) (.inr hn)
      refine wpAny_mono ((hb a oe cls d _ f2 f3).run [] s5 _ G (bareAt i D) S5 (w1 rfl a L.out)) (fun f t h => ?_) fun _ _ n => n.elim
      have h' := SP.unsuite I3.ok h
      cases f with
      | ret u =>
        obtain ⟨v, z6, G6, J6, r6, q6⟩ := h'
        exact gone_ok J6 hN hi hn fun s7 J7 => ⟨v, _, _, J7, r6, q6⟩
      | next =>
        obtain ⟨z6, G6, J6, q6⟩ := h'
        exact gone_ok J6 hN hi hn fun s7 J7 => ⟨_, _, J7, q6⟩
      | brk =>
        obtain ⟨z6, G6, J6, q6⟩ := h'
        exact gone_ok J6 hN hi hn fun s7 J7 => ⟨_, _, J7, q6⟩
      | cont =>
        obtain ⟨z6, G6, J6, q6⟩ := h'
        exact gone_ok J6 hN hi hn fun s7 J7 => ⟨_, _, J7, q6⟩
end
/-- try: body / except .. (as ..): .. / except ..: .. -/
theorem ps_tries {X : Cx} {body : List Stmt} {c0 : ExceptHandler} {cs : List ExceptHandler} {l : List (Value × ClTS)} {pos : Pos} {tb : WX → TS} {Wout : WX} (own : X.stack = X.env :: X.outer) (frm : X.env.frame = some X.env.locals) (tk : Takes X Wout)
    (hb : ∀ (W : WX) (pn : List (Addr × Obj)) (xe : Value → Shared → Prop), Takes (X.tr pn xe) W → PassesOwn (model X.prog X.w) X.A X.env xe → PSs (X.tr pn xe) body (tb W))
    (hh : Clauses X (c0 :: cs) l) : PS X (.Try body (c0 :: cs) [] [] pos) (fun D z G => tb (wMany X.K Wout D l) D z G) := by
  constructor
  intro pins s z G D I h
  have fr : X.A.frames = some (X.env :: X.outer) := by rw [I.ok.frames, own]
  refine wpAny_Try_except (wpAny_mono ((hb (wMany X.K Wout D l) (X.pn ++ pins) (fun e s1 => wpAny (model X.prog X.w) X.A (noteFrame e X.env) (fun _ s2 => wpAny (model X.prog X.w) X.A (setFlight e none) (fun _ s3 =>
    wpAny (model X.prog X.w) X.A (handleBy e X.env (c0 :: cs)) (SP X pins D) X.xe s3) X.xe s2) X.xe s1) (fun u s' x => ?_) PassesOwn.looking).run [] s z G D (I.toTry _) h) (fun f s1 q => ?_) fun _ _ q => q)
  · obtain ⟨a, B, sI, p', z', G', cls, d, rfl, J, nb, up, sky, na, os, ag, w⟩ := x
    refine Sky.land Zc.steady fr frm (by rw [← own]; exact sky) fun g fl u => ?_
    exact clauses_run (D := D) ⟨own, frm, J.ofTry I.ok, nb, up.trans u, na, os, ag, fl⟩ tk hh w
  · cases f with
    | ret u => exact let ⟨v, z1, G1, J, r, w⟩ := q; ⟨v, z1, G1, J.ofTry I.ok, r, w⟩
    | next => exact let ⟨z1, G1, J, w⟩ := q; wpAny_execs_nil ⟨z1, G1, J.ofTry I.ok, w⟩
    | brk => exact let ⟨z1, G1, J, w⟩ := q; ⟨z1, G1, J.ofTry I.ok, w⟩
    | cont => exact let ⟨z1, G1, J, w⟩ := q; ⟨z1, G1, J.ofTry I.ok, w⟩
end Hd

set_option maxHeartbeats 4000000
namespace Hd
open PySem PySem.Spec PyProof.Rows L2
/-! ### comb -/
def rComb : List V → Hp → VK → Prop := fun xs H Q => ∃ a b : Int, xs = [.int a, .int b] ∧ 0 ≤ a ∧ 0 ≤ b ∧ a ≤ 18000 ∧ Q (.int (PySem.W.mcComb a b)) H
theorem call_comb {X : Cx} : CallR X (.builtin "math.comb") rComb := by
  rintro pins s σ H vs us Q I r ⟨a, b, rfl, h1, h2, h3, q⟩
  obtain ⟨t, u, rfl⟩ := Vals.int2 r
  exact PySem.W.mc_comb h1 h2 (by omega) (.inr h3) fun _ => ⟨.int _, H, I.tok _, ⟨_, rfl⟩, q⟩
/-! ### X() -/
theorem pmk_own0 {X : Cx} {C : Addr} {bmB : List Value} {B newId initId : String} {x : Str} {p pos : Pos} (F : ExcBaseFacts B newId initId bmB) (q : PySem.W.excIn X.K C bmB newId = true) (gC : X.mg x = some (.ref C))
    (kC : PySem.W.keepIn X.K (.ref C) = true) (r : Raises X (.ref C)) (hg : Gl X x) (hdb : (x == ("__debug__" : Str)) = false := by decide) : PMk X (.Call (.Name x p) [] [] pos) (fun _ H Q => Q (.ref C) none H) := by
  intro pins s σ H Q I h
  refine wpAny_Call_Name_kw (ld_glob I hg gC ?_ hdb)
  refine PySem.W.callWith_K0 I.kIn kC ?_
  show wpAny _ _ (call (.ref C) []) _ _ _
  obtain ⟨bm, N, nm, qn, bs, hdct, sn, sub, ab, col, dd, k0, k1, k2, k3, k5, mN, hC, hN, hni, T⟩ := exc_obj I.kIn q
  refine wpAny_call_exc_subT F T hC hN hni (fun h' e hm => ?_) (Nat.zero_le _)
  exact mk_of I hm r h (I.hok.gone hm.new)
/-! ### isinstance by the kinds' names -/
def rIsS (K : PySem.W.Frag) : List V → Hp → VK → Prop := fun xs H Q => ∃ (x : V) (s T : String) (b : Bool), xs = [x, .ty T] ∧ TyX K H x (.type s) ∧ kitB s T = some b ∧ Q (.bl b) H
theorem call_isS {X : Cx} : CallR X (.builtin "isinstance") (rIsS X.K) := by
  rintro pins s σ H vs us Q I r ⟨x, a, T, b, rfl, h1, h2, q⟩
  exact call_isi pins s σ H _ us Q I r ⟨x, .ty T, .type a, .type T, b, rfl, .ty T, h1, kit_ty h2, q⟩
/-! ### a tuple times an int from 1 on -/
theorem tuple_once (l : Addr) (items : Array Value) (n : Nat) (dd : Option Addr) (sl : Array (Option Value)) (u : Tok) :
    Meets (Builtin.«tuple.__mul__» ⟨[.ref l, .int 1 u], []⟩) (fun _ R s => s.heap.get? l = some { cls := .type "tuple", dict := dd, data := .seq items n, slots := sl } ∧ R (.ok (.ret (Value.ref l))) s) :=
  .of_wp fun prog w A R s h => by
    obtain ⟨hp, g, d, tk, os⟩ := s
    obtain ⟨hl, h⟩ := h
    have f1 := AutoSeq1.idx_int
    have c1 : (items.isEmpty || (1 : Int) == 1) = true := by rw [Bool.or_eq_true]; exact .inr rfl
    wp_walk using wpAny_loadPart' hl
    repeat (first
      | (refine wpAny_ite_true (decide_eq_true c1) ?_; wp_walk using wpAny_loadPart' hl)
      | (rw [if_pos c1]; wp_walk using wpAny_loadPart' hl))
    exact ⟨_, rfl, h⟩
section
variable {X : Cx}
/-- t * k, k from 1 on -/
structure TimesP (K : PySem.W.Frag) (x y : V) (H : Hp) (Q : VK) : Prop where
  go : ∃ l k xs, x = .ref l ∧ y = .int k ∧ SqT K H l xs ∧ xs ≠ [] ∧ 1 ≤ k ∧ k ≤ 1000 ∧ xs.length ≤ 1000 ∧
  (k = 1 → Q (.ref l) H) ∧ (2 ≤ k → ∀ p, H p = none → Q (.ref p) (upd H p (.tup (List.replicate k.toNat xs).flatten)))
def rTimes (K : PySem.W.Frag) : R2 := fun x y H Q => TimesP K x y H Q
theorem op_times : OpR X (binaryOp .Mult) (rTimes X.K) := by
  rintro pins s σ H x y v u Q I rx ry ⟨l, k, xs, rfl, rfl, hT, ne, h1, h2, hz, q1, q2⟩
  by_cases hk : 2 ≤ k
  · exact op_repT pins s σ H _ _ v u Q I rx ry ⟨l, k, xs, rfl, rfl, hT, ne, hk, h2, hz, q2 hk⟩
  · have e : k = 1 := by omega
    subst e
    cases rx
    obtain ⟨t, rfl⟩ := ry
    obtain ⟨its, r, ⟨⟨cls, dd, data, sl⟩, ho, hc, n, hd⟩, _⟩ := I.tuple hT
    simp only at hc hd
    subst hc hd
    exact wpAny_binaryOp_repeat_ref (T := "tuple") (U := "int") (by decide) ⟨_, ho, rfl⟩ (fun s' => typeIs_int s' 1 t) noFill_tuple_mul F.fills_int_mul F.slot_int_rmul repeat_tuple F.slot_int_index.lookup
      (call_meets F.slot_int_rmul (typeIs_int s 1 t) F.entry_int_rmul (F.args_int_rmul_2 _ _) (int_rmul_tuple 1 t l its.toArray n dd sl)
        ⟨ho, rfl, ⟨_, ho, rfl⟩, call_meets F.slot_tuple_mul ⟨_, ho, rfl⟩ F.entry_tuple_mul (F.args_tuple_mul_2 _ _) (tuple_once l its.toArray n dd sl t) ⟨ho, ⟨.ref l, H, I, rfl, q1 rfl⟩⟩⟩)
/-! ### t[::-1] -/
theorem back_adjust (n : Nat) : Builtin.Slice.sliceAdjust none none (-1) (n : Int) = ((n : Int) - 1, -1) := rfl
theorem back_places (n : Nat) : Builtin.Slice.slicePlaces ((n : Int) - 1) (-1) (-1) = n := by
  unfold Builtin.Slice.slicePlaces
  rw [if_neg (by decide)]
  by_cases h : 0 < n
  · rw [if_pos (by omega), show (-(-1 : Int)) = 1 by decide, Int.ediv_one]
    omega
  · rw [if_neg (by omega)]
    omega
theorem fm_congr {α β : Type} {f g : α → Option β} : ∀ {l : List α}, (∀ a ∈ l, f a = g a) → l.filterMap f = l.filterMap g
  | [], _ => rfl
  | a :: r, h => by
    rw [List.filterMap_cons, List.filterMap_cons, h a List.mem_cons_self, fm_congr fun b hb => h b (List.mem_cons_of_mem a hb)]
theorem back_pick (xs : Array Value) : ((List.range xs.size).filterMap fun (k : Nat) => xs[(((xs.size : Int) - 1) + (k : Int) * (-1)).toNat]?).toArray = xs.toList.reverse.toArray := by
  have e : ∀ k ∈ List.range xs.size, xs[(((xs.size : Int) - 1) + (k : Int) * (-1)).toNat]? = xs[xs.size - 1 - k]? := fun k hk => by
    have := List.mem_range.mp hk
    congr 1
    omega
  rw [fm_congr e]
  have e2 : (List.range xs.size).filterMap (fun k => xs[xs.size - 1 - k]?) = ((List.range xs.size).map fun k => xs.size - 1 - k).filterMap (xs[·]?) := by rw [List.filterMap_map] <;> rfl
  rw [e2, PySem.W.krv_range, List.filterMap_reverse, PySem.W.krv_all]
section
variable {prog : Program} {w : World} {A : Around} {E : Value → Shared → Prop} {s : Shared}
theorem getItem_back {t sl : Addr} {items : Array Value} {vk : Value} {Q : Value → Shared → Prop} (ht : IsTup s.heap t items) (hs : s.heap.IsSliceOf sl .none .none vk) (pk : IsPart vk (some (-1)))
    (hsz : items.size ≤ sizeLine) (h : Q (.ref s.heap.objs.size) { s with heap := s.heap.push { cls := .type "tuple", data := .seq items.toList.reverse.toArray } }) : wpAny (model prog w) A (getItem (.ref t) (.ref sl)) Q E s := by
  obtain ⟨os, e1, e2, e3⟩ := id hs
  have ty : s.TypeIs (.ref sl) "slice" := ⟨os, e1, e2⟩
  have fits : sizeOk (.seq items.toList.reverse.toArray) := by
    show items.toList.reverse.toArray.size ≤ sizeLine
    simpa using hsz
  unfold getItem
  try with_reducible refine wpAny_holding ?_
  first | refine wpAny_bind (wpAny_pure ?_) | skip
  refine wpAny_bind (wpAny_sequenceKey ht.typeIs (by decide) ?_)
  refine wpAny_bind (wpAny_callSpecial?_slot (name := Str.ofString "__getitem__") ht.typeIs PyProof.Rows.slot_tuple_getitem (wpAny_call_entry PyProof.Rows.slot_tuple_getitem ht.typeIs entry_tuple_getitem ?_ (args_tuple_getitem _ _)))
  show wpAny _ _ (Builtin.Tuple.tupleItemsOf (.ref t) >>= _) _ _ s
  refine wpAny_bind (tupleItemsOf_ ht (wpAny_bind (wpAny_typeOf ty ?_)))
  rw [if_pos (by decide)]
  refine wpAny_bind ?_
  unfold Builtin.Slice.sliceApplied Builtin.Slice.sliceFields
  refine wpAny_bind (wpAny_bind (wpAny_field e1 e3 (x := .none) rfl (wpAny_bind (wpAny_field e1 e3 (x := .none) rfl (wpAny_bind (wpAny_field e1 e3 (x := vk) rfl (wpAny_pure ?_)))))))
  refine wpAny_bind (HT.slicePart_ pk ?_)
  show wpAny _ _ (if ((-1 : Int) == 0) = true then _ else _) _ _ s
  rw [if_neg (by decide)]
  refine wpAny_bind (slicePart_none (wpAny_bind (slicePart_none (wpAny_bind (wpAny_pure ?_)))))
  show wpAny _ _ (pure ((items.size : Int) - 1, (-1 : Int), Builtin.Slice.slicePlaces ((items.size : Int) - 1) (-1) (-1))) _ _ s
  rw [back_places]
  refine wpAny_pure ?_
  have no : ¬ (((items.size : Int) - 1 == 0 && (-1 : Int) == 1 && items.size == items.size) = true) := by
    intro q
    rw [Bool.and_eq_true, Bool.and_eq_true] at q
    exact absurd q.1.2 (by decide)
  show wpAny _ _ (if ((items.size : Int) - 1 == 0 && (-1 : Int) == 1 && items.size == items.size) = true then _ else _) _ _ s
  rw [if_neg no, back_pick]
  first
    | exact wpAny_bind (m := Builtin.Tuple.tupleExact _) (wpAny_newObj_type (wpAny_pure ⟨_, rfl, wpAny_pure h⟩) fits)
    | exact wpAny_bind (m := Builtin.Tuple.tupleExact _) (wpAny_newObj_type (wpAny_bind (wpAny_pure (wpAny_pure ⟨_, rfl, wpAny_pure h⟩))) fits)
    | exact wpAny_bind (wpAny_bind (m := Builtin.Tuple.tupleExact _) (wpAny_newObj_type (wpAny_pure (wpAny_pure ⟨_, rfl, wpAny_pure h⟩)) fits))
    | exact wpAny_bind (wpAny_bind (m := Builtin.Tuple.tupleExact _) (wpAny_newObj_type (wpAny_pure ⟨_, rfl, wpAny_pure h⟩) fits))
end
/-- t[::-1]: a new tuple -/
def tBack (K : PySem.W.Frag) (te : TE) : TE := fun σ H Q => te σ H fun x H1 => ∃ a xs, x = .ref a ∧ SqT K H1 a xs ∧ ∀ p, H1 p = none → Q (.ref p) (upd H1 p (.tup xs.reverse))
theorem pe_back {e : Expr} {te : TE} {k : Nat} {p1 p2 p3 pos : Pos} (he : PE X e te) : PE X (.Subscript e (.Slice none none (some (.UnaryOp .USub (.Constant (.int 1) k p1) p2)) p3) pos) (tBack X.K te) := by
  constructor
  intro pins s σ H Q I h
  have st : PO X (some (.UnaryOp .USub (.Constant (.int 1) k p1) p2)) (tPart (tUn (rU fun i => .int (-i)) (tC (.int 1)))) := po_some (pe_un un_neg pe_int)
  refine Subscript_ (thn (he.run pins s σ H _ I h) ?_)
  rintro v s1 ⟨x, H1, I1, r1, a, xs, rfl, hx, q⟩
  cases r1
  refine wpAny_Slice ?_
  rw [evalPart_none]
  refine wpAny_pure (wpAny_pure (thn (st.run pins s1 σ H1 (fun o G => o = some (-1) ∧ G = H1) I1 ⟨1, rfl, -1, rfl, rfl, rfl⟩) ?_))
  rintro vs s4 ⟨o, H4, I4, ps, rfl, rfl⟩
  have I5 : Inv X pins σ H4 { s4 with heap := s4.heap.push { cls := .type "slice", data := .fields #[.none, .none, vs] } } := I4.kept (t' := s4.toks) fun b ob z => Heap.get?_push_of_some _ z
  obtain ⟨its, r, ht, hz⟩ := I5.tuple hx
  have hlen := r.length
  show wpAny (model X.prog X.w) X.A (subscriptTail e (.Slice none none (some (.UnaryOp .USub (.Constant (.int 1) k p1) p2)) p3) (.ref a) (.ref s4.heap.objs.size)) (EP X pins σ Q) X.xe _
  refine tail_any (ops := [.ref a, .ref s4.heap.objs.size]) ht.typeIs PyProof.Rows.slot_tuple_getitem.lookup ?_ (by with_unfolding_all rfl)
  refine getItem_back ht (Heap.IsSliceOf.new _ .none .none vs) ps (by rw [List.size_toArray]; omega) ?_
  refine ⟨.ref _, _, I5.laid (t' := s4.toks) (o := .tup xs.reverse) (fun b ob z => Heap.get?_push_of_some _ z) (Nat.le_refl _) ?_, rfl, q _ (I5.hok.fresh (Nat.le_refl _))⟩
  exact ⟨by rw [List.length_reverse]; exact hz, _, r.reverse, IsTup.new _ _⟩
end
/-- a built-in class by its name -/
theorem pe_ty {X : Cx} (T : String) {x : Str} {pos : Pos} (hg : Gl X x) (hm : X.mg x = none) (hv : bootBuiltins x = some (.type T)) (hn : x ≠ "__name__" := by decide) (hd : (x == ("__debug__" : Str)) = false := by decide) : PE X (.Name x pos) (tC (.ty T)) := pe_bltn hg hm hv rfl hn hd
end Hd

set_option maxHeartbeats 4000000
/-! own error classes: with one field that their __init__ stores; without an __init__ -/
namespace Hd
open PySem PySem.Spec PyProof.Rows L2 Evl
/-- __init__ of such a class: self.fld = x -/
def spInit (C : Addr) (fld : Str) : Sp := fun vs H Q _ => ∃ a x, vs = [.ref a, x] ∧ H a = some (exo a C none) ∧ ∀ dx, H dx = none → dx ≠ a → Q .non (upd (upd H dx (exd dx [(fld, x)])) a (exo a C (some dx)))
structure ErrF (P : Program) (w : World) (K : PySem.W.Frag) (mg : Str → Option Value) (base : Heap) (x fld : Str) (C : Addr) : Prop where
  T : OexC K C
  F : XfC K C
  no : PySem.W.findIn K (.ref C) fld = some none
  m : mg x = some (.ref C)
  ini : ∃ (fI : Addr) (fd : FuncData), PySem.W.findIn K (.ref C) "__init__" = some (some (.ref fI)) ∧ PySem.W.typeIn K (.ref fI) = some (.type "function") ∧ FnOk P w K mg base CX0 1 fI fd ["self", fld] (spInit C fld) ∧ Binds K fd ["self", fld] []
structure ErrP (K : PySem.W.Frag) (mg : Str → Option Value) (x : Str) (C : Addr) : Prop where
  ex : PySem.W.excIn K C [.type "ValueError", .type "Exception", .type "BaseException", .type "object"] "ValueError.__new__" = true
  kC : PySem.W.keepIn K (.ref C) = true
  exC : PySem.W.subIn K (.ref C) (.type "BaseException") = some true
  tyC : PySem.W.typeIn K (.ref C) = some (.type "type")
  m : mg x = some (.ref C)
section
variable {X : Cx} {C : Addr} {x fld : Str} {W : WX}
def tRaiseF (C : Addr) (fld : Str) (W : WX) (ta : TA) : TS := fun _ σ H => ta σ H fun vs H1 => ∃ x, vs = [x] ∧ ∀ d H2, Ex H1 H2 → H1 d = none → H2 d = some (.xd [(fld, x)]) → W (.ref C) (some d) σ H2
/-- the same arguments, told by a stronger wish -/
def tByA (ta : TA) : TA := fun σ H Q => ∃ Q0, ta σ H Q0 ∧ ∀ vs H1, Q0 vs H1 → Q vs H1
theorem pa_by {es : List Expr} {ta : TA} (h : PA X es ta) : PA X es (tByA ta) := by
  refine ⟨fun pos pins s σ H Q I hq => ?_⟩
  obtain ⟨Q0, h0, h1⟩ := hq
  exact thn (h.run pos pins s σ H Q0 I h0) fun us s1 ⟨vs, H1, I1, r, q⟩ => ⟨vs, H1, I1, r, h1 vs H1 q⟩
/-- raise X(e) -/
theorem ps_raiseF {e : Expr} {ta : TA} {p pos pos2 : Pos} (Er : ErrF X.prog X.w X.K X.mg X.base x fld C) (hc : X.calm = true) (hr : Room 2 X.A) (tk : Takes X W) (hg : Gl X x) (ha : PA X [e] ta) (hdb : (x == ("__debug__" : Str)) = false := by decide)
    (he : starEach (e :: []) X.env = (false, eval e X.env) :: starEach [] X.env := by rfl) (hpl : (backTo pos (starEach [] X.env)).any (·.1) = false := by rfl) :
    PS X (.Raise (some (.Call (.Name x p) [e] [] pos)) none pos2) (tRaiseF C fld W ta) := by
  obtain ⟨fI, fd, h1, h2, h3, h4⟩ := Er.ini
  have mk : PMk X (.Call (.Name x p) [e] [] pos) _ := pmk_oex (dvs := []) (ds := []) Er.T h1 h2 h3 hr h4 .nil pass0 hg Er.m (pa_by ha) hdb he hpl
  have go := ps_raise (pos := pos2) hc tk mk
  refine ⟨fun pins s σ H D I h => go.run pins s σ H D I ⟨_, h, ?_⟩⟩
  rintro vs H1 ⟨y, rfl, q⟩
  refine ⟨by simp, fun a na => ⟨a, y, rfl, upd_same, fun dx nd ne => ⟨rfl, dx, [(fld, y)], upd_same, ?_, ?_, q dx _ (fun b o hb => ?_) ?_ upd_same⟩⟩⟩
  · rw [upd_ne ne, upd_same]
  · rw [upd_ne ne] at nd
    exact nd
  · have n1 : b ≠ a := ne_of_none hb na
    have n2 : b ≠ dx := fun z => by
      rw [z, ← upd_ne (H := H1) (o := exo a C none) ne, nd] at hb
      cases hb
    rw [upd_ne n2, del_ne n1, upd_ne n1, upd_ne n2, upd_ne n1]
    exact hb
  · rw [upd_ne ne] at nd
    exact nd
/-- raise X() -/
theorem ps_raiseP {p pos pos2 : Pos} (Er : ErrP X.K X.mg x C) (hc : X.calm = true) (tk : Takes X W) (hg : Gl X x) (hdb : (x == ("__debug__" : Str)) = false := by decide) :
    PS X (.Raise (some (.Call (.Name x p) [] [] pos)) none pos2) (fun _ σ H => W (.ref C) none σ H) :=
  ps_raise hc tk (pmk_own0 PySem.F.excBase_ValueError Er.ex Er.m Er.kC (raises_own Er.exC Er.tyC) hg hdb)
end
end Hd

set_option maxHeartbeats 4000000
/-! for i, x in enumerate(t), t a tuple -/
namespace Hd
open PySem PySem.Spec PyProof.Rows L2
theorem meets_enum1 {v : Value} {o : Obj} {Z : Heap → Prop} (B : Begins v o Z) :
    Meets (Builtin.«enumerate.__new__» ⟨[.type "enumerate", v], []⟩) (fun _ R s => Z s.heap ∧
      R (.ok (.ret (.ref (s.heap.push o).objs.size))) { s with heap := (s.heap.push o).push { cls := .type "enumerate", data := .fields #[.none, .bool false, .ref s.heap.objs.size, rawInt 0, .none, .none] } }) :=
  .of_wp fun prog w A R s h => by
    obtain ⟨hp, g, d, tk, os⟩ := s
    obtain ⟨z, q⟩ := h
    have hsub := sub_enumerate
    have it1 : ∀ {A' : Around} {E : Value → Shared → Prop} {Q : Value → Shared → Prop}, Q (.ref hp.objs.size) ⟨hp.push o, g, d, tk, os⟩ → wpAny (model prog w) A' (pyIter v) Q E ⟨hp, g, d, tk, os⟩ :=
      fun k => B.iter prog w _ _ ⟨hp, g, d, tk, os⟩ _ z k
    wp_walk using it1
    refine wpAny_stack_any fun st => wpAny_pure ?_
    split
    · rename_i c _ _ _ _ _
      cases (c == Value.type "enumerate") <;> (wp_walk using it1; exact ⟨_, rfl, q⟩)
    · wp_walk using it1
      exact ⟨_, rfl, q⟩
section
variable {prog : Program} {w : World} {A : Around} {E : Value → Shared → Prop} {s : Shared}
theorem enum_of {v : Value} {o : Obj} {Z : Heap → Prop} {Q : Value → Shared → Prop} (B : Begins v o Z) (z : Z s.heap)
    (k : ∀ g, IsEnum g (s.heap.objs.size + 1) s.heap.objs.size 0 .none → g.get? s.heap.objs.size = some o → (∀ b u, s.heap.get? b = some u → g.get? b = some u) → Q (.ref (s.heap.objs.size + 1)) { s with heap := g }) :
    wpAny (model prog w) A (call (.type "enumerate") [v]) Q E s := by
  refine callType_new F.called_enumerate (by decide) (F.typeCall_enumerate_1 _) (F.newCall_enumerate_1 _) (fun obj => F.args_object_init_2 obj _) F.entry_enumerate_new (meets_enum1 B) ⟨z, ?_⟩
  have sz : (s.heap.push o).objs.size = s.heap.objs.size + 1 := Heap.size_push ..
  have at1 := Heap.get?_push_size (s.heap.push o) (o := { cls := .type "enumerate", data := .fields #[.none, .bool false, .ref s.heap.objs.size, rawInt 0, .none, .none] }) rfl
  rw [sz] at at1
  show _ ∧ _
  rw [sz]
  exact ⟨⟨_, at1, rfl⟩, k _ at1 (Heap.get?_push_of_some _ (Heap.get?_push_size _ B.free)) fun b u e => Heap.get?_push_of_some _ (Heap.get?_push_of_some _ e)⟩
end
/-- the tuple at a as it stands, each item in a new pair -/
def Itu (K : PySem.W.Frag) (a : Addr) : It :=
  ⟨fun i H => ∃ (xs : List V) (x : V), SqT K H a xs ∧ xs[i]? = some x, fun i H v G => ∃ T x, v = .ref T ∧ H T = none ∧ G = upd H T (.tup [.int (i : Nat), x]) ∧ ∀ xs, SqT K H a xs → xs[i]? = some x, fun i H => ∃ xs : List V, SqT K H a xs ∧ xs.length ≤ i⟩
theorem turn_enumT {P : Program} {w : World} {K : PySem.W.Frag} {elts : List Expr} {kk : Nat} {tpos : Pos} (a e it : Addr) :
    Turn P w K (.Tuple elts kk tpos) (Itu K a) [e, it] e (fun i h => (∃ old, IsEnum h e it ((i : Nat) : Int) old) ∧ h.IsTupleIter it a i ∧ e ≠ it) where
  mem := by simp
  obj := fun i h st b hb => by
    obtain ⟨⟨old, he⟩, ⟨o, ho, hc, hd⟩, _⟩ := st
    rcases List.mem_cons.mp hb with z | z
    · rw [z]; exact ⟨_, he, fun v q => nomatch q⟩
    · have z' : b = it := by simpa using z
      exact ⟨o, by rw [z']; exact ho, fun v q => by rw [hd] at q; cases q⟩
  keep := fun i h h' st k => ⟨let ⟨old, he⟩ := st.1; ⟨old, k e (by simp) _ he⟩, st.2.1.at fun o q => k it (by simp) o q, st.2.2⟩
  item := by
    intro X hP hw hK hc i pins s σ H E I hf st hg
    subst hP hw hK
    obtain ⟨⟨old, he⟩, hit, hne⟩ := st
    obtain ⟨xs, x, hq, hx⟩ := hg
    obtain ⟨its, rv, p, hz⟩ := I.tuple hq
    obtain ⟨u, hu, ru⟩ := rv.get hx
    have hel : e < s.heap.objs.size := Heap.lt_size he
    have hil : it < s.heap.objs.size := by obtain ⟨_, q, _⟩ := hit; exact Heap.lt_size q
    have hlt : i < its.toArray.size := by simpa using (List.getElem?_eq_some_iff.mp hu).1
    have ta : s.heap.IsTuple a its.toArray := p
    have hai : a ≠ it := fun z => by
      obtain ⟨o1, e1, e2, _⟩ := ta
      obtain ⟨o2, e3, e4, _⟩ := hit
      rw [z, e3] at e1
      cases e1
      rw [e4] at e2
      exact absurd (Value.type.inj e2) (by decide)
    have hae : e ≠ a := fun z => by
      obtain ⟨o1, e1, e2, _⟩ := ta
      rw [← z] at e1
      have e3 : s.heap.get? e = some _ := he
      rw [e3] at e1
      cases e1
      exact absurd (Value.type.inj e2) (by decide)
    refine wpAny_pyNext_enum_itemD (Draws.tuple (A := X.A.in1) (I.ok.hd hc) it a hai its.toArray) he ⟨hit, ta⟩ hlt hne (by simp; exact ⟨hne, hae⟩) fun y h' tk hy ho st' hT hsz hk => ?_
    have ey : y = u := by
      have h1 : its.toArray[i]? = some y := hy
      rw [List.getElem?_toArray, hu] at h1
      exact (Option.some.inj h1).symm
    subst ey
    refine ⟨_, rfl, wpAny_letOwnedTupleGo_enum (s := { s with heap := h', toks := tk + 1 }) ho fun h2 he2 sb => ?_⟩
    have hT2 : h2.get? s.heap.objs.size = some { cls := .type "tuple", data := .seq #[.int i tk, y] } := (sb.2 _ (Nat.ne_of_gt hel)).trans hT
    have new : ObjOk X.prog X.w (upd H s.heap.objs.size (.tup [.int (i : Nat), x])) h2 s.heap.objs.size (.tup [.int (i : Nat), x]) :=
      ⟨by show 2 ≤ sizeLine; decide, [.int i tk, y], .cons ⟨_, rfl⟩ (.cons ru .nil), ⟨_, hT2, rfl, _, rfl⟩⟩
    have off : ∀ {b}, b ∉ [e, it] → b ≠ e ∧ b ≠ it := fun hb => ⟨fun z => hb (by simp [z]), fun z => hb (by simp [z])⟩
    have J : Inv X pins σ (upd H s.heap.objs.size (.tup [.int (i : Nat), x])) { s with heap := h2, toks := tk + 1 } :=
      I.turnedNew (ch := [e, it]) (fun b ob hb q => (sb.2 b (off hb).1).trans (hk b ob (off hb).1 (off hb).2 q)) hf (Nat.le_refl _) new
    refine ⟨.ref s.heap.objs.size, _, J, rfl, ⟨_, x, rfl, I.hok.fresh (Nat.le_refl _), rfl, fun ys hy => by rw [I.tuple_inj hy hq]; exact hx⟩, ⟨⟨y, ?_⟩, st'.1.at fun o q => (sb.2 it (Ne.symm hne)).trans q, hne⟩, fun b hb => ?_⟩
    · rw [show ((i + 1 : Nat) : Int) = (i : Int) + 1 by omega]
      exact he2
    · have hb' : b < s.heap.objs.size := by
        rcases List.mem_cons.mp hb with z | z
        · rw [z]; exact hel
        · rw [show b = it by simpa using z]; exact hil
      rw [upd_ne (Nat.ne_of_lt hb')]
      exact (hf b hb).1
  done := by
    intro X hP hw hK hc i pins s σ H E I hf st hg
    subst hP hw hK
    obtain ⟨⟨old, he⟩, hit, hne⟩ := st
    obtain ⟨xs, hq, hx⟩ := hg
    obtain ⟨its, rv, p, hz⟩ := I.tuple hq
    obtain ⟨f0, f1, f2, f3, f4, f5⟩ := hf it (by simp)
    have hT : s.TypeIs (.ref e) "enumerate" := ⟨_, he, rfl⟩
    have hl := rv.length
    have ta : s.heap.IsTuple a its.toArray := p
    unfold pyNext
    refine wpAny_bind (wpAny_attempt (wpAny_callSpecial?_slot (name := Str.ofString "__next__") hT F.slot_enumerate_next (wpAny_call_entry F.slot_enumerate_next hT F.entry_enumerate_next ?_ (F.args_enumerate_next_1 _))))
    show wpAny _ _ (field (.ref e) 2 >>= _) _ _ _
    refine wpAny_bind (wpAny_field he rfl (x := .ref it) rfl (wpAny_bind (wpAny_nextOf_tuple_end (I.ok.hd hc) hit ta (by simp; omega) fun h' x eb hx' => ?_)))
    obtain ⟨o, ho, hc'⟩ := hx'
    refine wpAny_bind (wpAny_isInstance (T := "StopIteration") (b := true) ⟨o, ho, hc'⟩ isSubtype_stop ?_)
    exact wpAny_pure ⟨rfl, I.turned (t' := s.toks) (fun b o hb q => eb b o hb q) f0 f1 f3 f4 f5⟩
  self := fun A i s Q E st h => let ⟨⟨_, he⟩, _⟩ := st; wpAny_pyIter_enum he h
def iEnumT (K : PySem.W.Frag) (ta : TA) : TI := fun σ H R => ta σ H fun vs H1 => ∃ a xs, vs = [.ref a] ∧ SqT K H1 a xs ∧ R (Itu K a) H1
theorem pi_enumT {X : Cx} {e : Expr} {ta : TA} {p pos tpos : Pos} {elts : List Expr} {kk : Nat} (hg : Gl X "enumerate") (hm : X.mg "enumerate" = none) (ha : PA X [e] ta) (hs : starEach [e] X.env = [(false, eval e X.env)] := by rfl) :
    PI X (.Tuple elts kk tpos) (.Call (.Name "enumerate" p) [e] [] pos) (iEnumT X.K ta) := by
  constructor
  intro pins s σ H R I h
  refine Call_ (ld_blt I hg hm boot_enumerate (PyProof.Rows.callWith_type1 (thn (ha.run pos pins s σ H _ I h) ?_) hs rfl))
  rintro us s1 ⟨vs, H1, I1, r1, a, xs, rfl, hq, q⟩
  cases r1 with
  | cons r rr =>
    cases rr
    cases r
    obtain ⟨its, rv, p', hz⟩ := I1.tuple hq
    refine enum_of (begins_tuple a its.toArray) p' fun g he hit hk => wpAny_pyIter_enum he ?_
    have J : Inv X pins σ H1 { s1 with heap := g } := I1.kept (t' := s1.toks) hk
    refine ⟨s1.heap.objs.size + 1, [s1.heap.objs.size + 1, s1.heap.objs.size], _, _, H1, rfl, J, turn_enumT a (s1.heap.objs.size + 1) s1.heap.objs.size, ⟨⟨.none, he⟩, ⟨_, hit, rfl, rfl⟩, Nat.succ_ne_self _⟩, fun b hb => ?_, q⟩
    have hle : s1.heap.objs.size ≤ b := by
      rcases List.mem_cons.mp hb with z | z
      · rw [z]
        exact Nat.le_add_right _ _
      · have z' : b = s1.heap.objs.size := by simpa using z
        rw [z']
        exact Nat.le_refl _
    exact I1.fpOk hle (I1.hok.fresh hle)
theorem for_enumT {K : PySem.W.Frag} {a : Addr} {xs : List V} {g : TG} {tb : TS} {D : Ends} {σ : L2.St} {H : Hp} (Pv : Nat → L2.St → Hp → Prop) (h0 : Pv 0 σ H) (hl : ∀ i σ H, i ≤ xs.length → Pv i σ H → SqT K H a xs)
    (hs : ∀ i x σ H T, xs[i]? = some x → Pv i σ H → H T = none → g (.ref T) σ (upd H T (.tup [.int (i : Nat), x])) fun σ2 H2 => tb { D with nx := Pv (i + 1), ct := Pv (i + 1), bk := D.nx } σ2 H2) (hd : ∀ σ H, Pv xs.length σ H → D.nx σ H) :
    ∃ W : Nat → Nat → L2.St → Hp → Prop, (∃ m, W 0 m σ H) ∧ ∀ i m σ H, W i m σ H →
      ((Itu K a).stop i H ∧ D.nx σ H) ∨ ((Itu K a).go i H ∧ ∃ N : L2.St → Hp → Prop, (∀ σ' H', N σ' H' → ∃ m', m' < m ∧ W (i + 1) m' σ' H') ∧ ∀ x H', (Itu K a).yld i H x H' → g x σ H' fun σ2 H2 => tb { D with nx := N, ct := N, bk := D.nx } σ2 H2) := by
  refine ⟨fun i m σ H => m + i = xs.length ∧ Pv i σ H, ⟨xs.length, rfl, h0⟩, fun i m σ G w => ?_⟩
  obtain ⟨em, p⟩ := w
  have q := hl i σ G (by omega) p
  by_cases lt : i < xs.length
  · refine .inr ⟨⟨xs, xs[i], q, List.getElem?_eq_getElem lt⟩, Pv (i + 1), fun σ' G' p' => ⟨m - 1, by omega, by omega, p'⟩, ?_⟩
    rintro _ _ ⟨T, y, rfl, nT, rfl, at_⟩
    exact hs i y σ G T (at_ xs q) p nT
  · have e : i = xs.length := by omega
    subst e
    exact .inl ⟨⟨xs, q, Nat.le_refl _⟩, hd σ G p⟩
/-- a def as the callers use it -/
structure Fn (P : Program) (w : World) (K : PySem.W.Frag) (mg : Str → Option Value) (base : Heap) (CX : CXT) (k : Nat) (x : Str) (ps : List Str) (sp : Sp) (f : Addr) (fd : FuncData) : Prop where
  G : FnOk P w K mg base CX k f fd ps sp
  m : mg x = some (.ref f)
  k : PySem.W.keepIn K (.ref f) = true
  b : Binds K fd ps []
/-- what is let out by a def that is called, let out by this one too -/
theorem passX {X : Cx} {E : XK} (own : X.stack = X.env :: X.outer) (frm : X.env.frame = some X.env.locals) (hex : X.ex = []) {E₁ : Value → Shared → Prop}
    (hx : X.xe = fun e s' => wpAny (model X.prog X.w) X.A (leaving X.env e) (fun _ s'' => L2.CX X.prog X.w X.outer X.H_0 X.s_0 E e s'') E₁ s') : Passes (L2.CX X.prog X.w) X E :=
  passes_call (takes_of own frm hex hx) fun _ _ _ _ h => h
end Hd

set_option maxHeartbeats 4000000
/-! sets of cells, their numbers -/
namespace Hd
/-- how many sets of k there are of m -/
def nck : Nat → Nat → Nat
  | _, 0 => 1
  | 0, _ + 1 => 0
  | m + 1, k + 1 => nck m k + nck m (k + 1)
/-- the sets of k of the cells c, .., c + m - 1, ascending -/
def setsN : Nat → Nat → Nat → List (List Nat)
  | _, 0, _ => [[]]
  | 0, _ + 1, _ => []
  | m + 1, k + 1, c => (setsN m k (c + 1)).map (c :: ·) ++ setsN m (k + 1) (c + 1)
theorem setsN_len : ∀ m k c, (setsN m k c).length = nck m k
  | 0, 0, _ => rfl
  | _ + 1, 0, _ => rfl
  | 0, _ + 1, _ => rfl
  | m + 1, k + 1, c => by
    show ((setsN m k (c + 1)).map (c :: ·) ++ setsN m (k + 1) (c + 1)).length = nck m k + nck m (k + 1)
    rw [List.length_append, List.length_map, setsN_len m k, setsN_len m (k + 1)]
/-- the set that a number draws -/
def drawN : Nat → Nat → Nat → Nat → List Nat
  | _, 0, _, _ => []
  | 0, _ + 1, _, _ => []
  | m + 1, k + 1, a, c => if a < nck m k then c :: drawN m k a (c + 1) else drawN m (k + 1) (a - nck m k) (c + 1)
theorem drawN_at : ∀ m k a c, a < nck m k → (setsN m k c)[a]? = some (drawN m k a c)
  | 0, 0, a, c, h => by
    have e : a = 0 := by simp [nck] at h; omega
    rw [e] <;> rfl
  | m + 1, 0, a, c, h => by
    have e : a = 0 := by simp [nck] at h; omega
    rw [e] <;> rfl
  | 0, _ + 1, a, c, h => by simp [nck] at h
  | m + 1, k + 1, a, c, h => by
    have h' : a < nck m k + nck m (k + 1) := h
    show ((setsN m k (c + 1)).map (c :: ·) ++ setsN m (k + 1) (c + 1))[a]? = some (if a < nck m k then c :: drawN m k a (c + 1) else drawN m (k + 1) (a - nck m k) (c + 1))
    by_cases ha : a < nck m k
    · rw [if_pos ha, List.getElem?_append_left (by rw [List.length_map, setsN_len]; exact ha), List.getElem?_map, drawN_at m k a (c + 1) ha] <;> rfl
    · rw [if_neg ha, List.getElem?_append_right (by rw [List.length_map, setsN_len]; omega), List.length_map, setsN_len]
      exact drawN_at m (k + 1) (a - nck m k) (c + 1) (by omega)
theorem drawN_len : ∀ m k a c, a < nck m k → (drawN m k a c).length = k
  | m, 0, a, c, _ => by cases m <;> rfl
  | 0, _ + 1, a, c, h => by simp [nck] at h
  | m + 1, k + 1, a, c, h => by
    have h' : a < nck m k + nck m (k + 1) := h
    show (if a < nck m k then c :: drawN m k a (c + 1) else drawN m (k + 1) (a - nck m k) (c + 1)).length = k + 1
    by_cases ha : a < nck m k
    · rw [if_pos ha, List.length_cons, drawN_len m k a (c + 1) ha]
    · rw [if_neg ha, drawN_len m (k + 1) (a - nck m k) (c + 1) (by omega)]
theorem nck_zero (m : Nat) : nck m 0 = 1 := by cases m <;> rfl
theorem nck_pos : ∀ {m k}, k ≤ m → 0 < nck m k
  | m, 0, _ => by rw [nck_zero]; exact Nat.one_pos
  | 0, k + 1, h => by omega
  | m + 1, k + 1, h => by
    have := nck_pos (m := m) (k := k) (by omega)
    show 0 < nck m k + nck m (k + 1)
    omega
theorem nck_out : ∀ {m k}, m < k → nck m k = 0
  | m, 0, h => by omega
  | 0, k + 1, _ => rfl
  | m + 1, k + 1, h => by
    show nck m k + nck m (k + 1) = 0
    rw [nck_out (show m < k by omega), nck_out (show m < k + 1 by omega)]
theorem comb_small : ∀ n k : Fin 13, PySem.W.mcComb ((n : Nat) : Int) ((k : Nat) : Int) = ((nck n k : Nat) : Int) := by decide +kernel
theorem comb_bin {n k : Nat} (hn : n ≤ 12) (hk : k ≤ 12) : PySem.W.mcComb (n : Int) (k : Int) = (nck n k : Nat) := comb_small ⟨n, by omega⟩ ⟨k, by omega⟩
/-- ascending from c on, below c + m -/
def asc : Nat → Nat → List Nat → Bool
  | _, _, [] => true
  | c, t, x :: r => decide (c ≤ x) && (decide (x < t) && asc (x + 1) t r)
theorem setsN_asc : ∀ m k c l, l ∈ setsN m k c → l.length = k ∧ asc c (c + m) l = true
  | 0, 0, c, l, h => by
    have e : l = [] := by simpa [setsN] using h
    rw [e] <;> exact ⟨rfl, rfl⟩
  | m + 1, 0, c, l, h => by
    have e : l = [] := by simpa [setsN] using h
    rw [e] <;> exact ⟨rfl, rfl⟩
  | 0, _ + 1, c, l, h => by simp [setsN] at h
  | m + 1, k + 1, c, l, h => by
    have h' : l ∈ (setsN m k (c + 1)).map (c :: ·) ++ setsN m (k + 1) (c + 1) := h
    rcases List.mem_append.mp h' with h1 | h1
    · obtain ⟨r, hr, e⟩ := List.mem_map.mp h1
      subst e
      obtain ⟨l1, a1⟩ := setsN_asc m k (c + 1) r hr
      refine ⟨by simp [l1], ?_⟩
      show (decide (c ≤ c) && (decide (c < c + (m + 1)) && asc (c + 1) (c + (m + 1)) r)) = true
      rw [decide_eq_true (Nat.le_refl c), decide_eq_true (show c < c + (m + 1) by omega), show c + (m + 1) = c + 1 + m by omega, a1] <;> rfl
    · obtain ⟨l1, a1⟩ := setsN_asc m (k + 1) (c + 1) l h1
      refine ⟨l1, ?_⟩
      cases l with
      | nil => rfl
      | cons x r =>
        have a2 : (decide (c + 1 ≤ x) && (decide (x < c + 1 + m) && asc (x + 1) (c + 1 + m) r)) = true := a1
        rw [Bool.and_eq_true, Bool.and_eq_true] at a2
        have h1 := of_decide_eq_true a2.1
        show (decide (c ≤ x) && (decide (x < c + (m + 1)) && asc (x + 1) (c + (m + 1)) r)) = true
        rw [show c + (m + 1) = c + 1 + m by omega, decide_eq_true (show c ≤ x by omega), a2.2.1, a2.2.2] <;> rfl
/-- the number of the sets ahead: those that go on with lesser cells, from c up to x, k more behind each; t the cells -/
def ahead (t k : Nat) : Nat → Nat → Nat
  | _, 0 => 0
  | c, n + 1 => nck (t - c - 1) k + ahead t k (c + 1) n
/-- the number that draws a set: from c on -/
def coinN (t : Nat) : Nat → List Nat → Nat
  | _, [] => 0
  | c, x :: r => ahead t r.length c (x - c) + coinN t (x + 1) r
theorem coinN_at : ∀ m k a c, a < nck m k → coinN (c + m) c (drawN m k a c) = a
  | 0, 0, a, c, h => by
    have e : a = 0 := by simp [nck] at h; omega
    rw [e] <;> rfl
  | m + 1, 0, a, c, h => by
    have e : a = 0 := by simp [nck] at h; omega
    rw [e] <;> rfl
  | 0, _ + 1, a, c, h => by simp [nck] at h
  | m + 1, k + 1, a, c, h => by
    have h' : a < nck m k + nck m (k + 1) := h
    show coinN (c + (m + 1)) c (if a < nck m k then c :: drawN m k a (c + 1) else drawN m (k + 1) (a - nck m k) (c + 1)) = a
    by_cases ha : a < nck m k
    · rw [if_pos ha]
      show ahead (c + (m + 1)) (drawN m k a (c + 1)).length c (c - c) + coinN (c + (m + 1)) (c + 1) (drawN m k a (c + 1)) = a
      rw [Nat.sub_self, show c + (m + 1) = c + 1 + m by omega, coinN_at m k a (c + 1) ha]
      show 0 + a = a
      omega
    · rw [if_neg ha]
      have hb : a - nck m k < nck m (k + 1) := by omega
      have ih := coinN_at m (k + 1) (a - nck m k) (c + 1) hb
      have hl := drawN_len m (k + 1) (a - nck m k) (c + 1) hb
      have hm := (setsN_asc m (k + 1) (c + 1) _ (List.mem_of_getElem? (drawN_at m (k + 1) (a - nck m k) (c + 1) hb))).2
      cases e : drawN m (k + 1) (a - nck m k) (c + 1) with
      | nil => rw [e] at hl; cases hl
      | cons x r =>
        rw [e] at ih hl hm
        have a2 : (decide (c + 1 ≤ x) && (decide (x < c + 1 + m) && asc (x + 1) (c + 1 + m) r)) = true := hm
        rw [Bool.and_eq_true] at a2
        have h1 := of_decide_eq_true a2.1
        have hr : r.length = k := by simpa using hl
        have ih' : ahead (c + 1 + m) r.length (c + 1) (x - (c + 1)) + coinN (c + 1 + m) (x + 1) r = a - nck m k := ih
        show ahead (c + (m + 1)) r.length c (x - c) + coinN (c + (m + 1)) (x + 1) r = a
        rw [show x - c = (x - (c + 1)) + 1 by omega, show c + (m + 1) = c + 1 + m by omega]
        show nck (c + 1 + m - c - 1) r.length + ahead (c + 1 + m) r.length (c + 1) (x - (c + 1)) + coinN (c + 1 + m) (x + 1) r = a
        rw [show c + 1 + m - c - 1 = m by omega, hr] at *
        omega
/-! ### the law's own way to the sets -/
/-- a set gone on with each greater cell -/
def lastN (l : List Nat) : Nat := l.getLast?.getD 0
def goesOn (l : List Nat) (c : Nat) : Bool := l.isEmpty || decide (lastN l < c)
def extN (n : Nat) (l : List Nat) : List (List Nat) := ((List.range n).filter (goesOn l)).map fun c => l ++ [c]
def lawSets (n : Nat) : Nat → List (List Nat)
  | 0 => [[]]
  | t + 1 => (lawSets n t).flatMap (extN n)
theorem lawSets_small : ∀ n k : Fin 13, lawSets n k = setsN n k 0 := by decide +kernel
theorem lawSets_eq {n k : Nat} (hn : n ≤ 12) (hk : k ≤ 12) : lawSets n k = setsN n k 0 := lawSets_small ⟨n, by omega⟩ ⟨k, by omega⟩
theorem nck_small : ∀ n k : Fin 13, nck n k ≤ 924 := by decide +kernel
theorem nck_le {n k : Nat} (hn : n ≤ 12) (hk : k ≤ 12) : nck n k ≤ 924 := nck_small ⟨n, by omega⟩ ⟨k, by omega⟩
theorem lawSets_len {n k : Nat} (hn : n ≤ 12) (hk : k ≤ 12) : (lawSets n k).length = nck n k := by rw [lawSets_eq hn hk, setsN_len]
/-- the first turns are no longer than all -/
theorem flat_take {α β : Type} (f : α → List β) : ∀ (l : List α) (i : Nat), ((l.take i).flatMap f).length ≤ (l.flatMap f).length
  | [], i => by simp
  | a :: r, 0 => Nat.zero_le _
  | a :: r, i + 1 => by
    have ih := flat_take f r i
    rw [List.take_succ_cons, List.flatMap_cons, List.flatMap_cons, List.length_append, List.length_append]
    omega
end Hd

set_option maxHeartbeats 4000000
/-! generator expressions whose elements call: the frame's context, its start -/
namespace Hd
open PySem PySem.Spec PyProof.Rows L2
/-- a generator expression's own names -/
structure GenOk (N : List Str) (sc scope : Scope) (own : List (Str × Nat)) : Prop where
  blk : BlkOk N sc scope own
  co : scope.isCoroutine = false
  nocell : ∀ y ∈ scope.names, y.2 ≠ .cell
  dot : scope.names.lookup (".0" : Str) = some NameKind.local
def genB (N : List Str) (sc scope : Scope) (own : List (Str × Nat)) : Bool := blkC N sc scope own && (!scope.isCoroutine && ((scope.names.all fun y => !decide (y.2 = .cell)) && decide (scope.names.lookup (".0" : Str) = some NameKind.local)))
theorem genOk_by {N : List Str} {sc scope : Scope} {own : List (Str × Nat)} (h : genB N sc scope own = true) : GenOk N sc scope own := by
  unfold genB at h
  simp only [Bool.and_eq_true, Bool.not_eq_true', decide_eq_true_eq, decide_eq_false_iff_not, List.all_eq_true] at h
  exact ⟨blkOk_by h.1, h.2.1, h.2.2.1, h.2.2.2⟩
/-- the generator's frame, run under A; pn: its own object -/
def gx (X : Cx) (A : Around) (s : Shared) (H : Hp) (cenv : Env) (fp : List Addr) (pn : List (Addr × Obj)) : Cx :=
  { X with A := A, s_0 := s, H_0 := H, env := cenv, outer := X.stack, stack := cenv :: X.stack, ex := fp, fn := fun _ => false, calm := true, pn := pn, xe := fun _ _ => False }
abbrev gcl (X : Cx) (scope : Scope) : List (Str × Addr) := cloFrom X.env.cells scope.names []
abbrev gev (X : Cx) (scope : Scope) (C : Addr) (code : Value) : Env := genEnv scope (gcl X scope) C code builtinsNs X.env
section
variable {X : Cx} {pins : List (Addr × Obj)} {σ : L2.St} {H : Hp} {s : Shared}
theorem GenOk.free {scope : Scope} {own : List (Str × Nat)} (ok : GenOk X.N X.env.scope scope own) (I : X.Ok) : ∀ y ∈ scope.names, y.2 = .free → ∃ c, X.env.cells.lookup y.1 = some c := fun y hy e => by
  rcases ok.blk.free y hy e with k | k
  · exact I.has _ (.inl k)
  · exact I.has _ (.inr k)
theorem gx_start {scope : Scope} {own : List (Str × Nat)} {fp : List Addr} {it code : Value} {A : Around} {h' : Heap} {g' : Array GenState} {tk : Nat} (I : Inv X pins σ H s) (ok : GenOk X.N X.env.scope scope own) (hN : X.N.Nodup) (hfp : ∀ b ∈ fp, FpOk X pins H b ∧ b < s.heap.objs.size)
    (hn : h'.Ns s.heap.objs.size (fun y => if y = (".0" : Str) then some it else none)) (kp : ∀ b o, s.heap.get? b = some o → h'.get? b = some o) (hg : AllBare g') (hA : A.frames = some (gev X scope s.heap.objs.size code :: X.stack)) (hh : A.handled = none) :
    Inv (gx X A s H (gev X scope s.heap.objs.size code) fp []) [] (wipe σ (own.map (·.2))) H { s with heap := h', gens := g', toks := tk } := by
  have hfree := ok.free I.ok
  -- a captured name's cell is the def's
  have back : ∀ {y c}, (gcl X scope).lookup y = some c → X.env.cells.lookup y = some c := fun {y c} e => by
    rcases cloFrom_mem (PySem.mem_of_lookup e) with hm | ⟨h1, h2⟩
    · cases hm
    · obtain ⟨c1, hc⟩ := hfree _ h1 rfl
      have hc : X.env.cells.lookup y = some c1 := hc
      have e2 : c = c1 := by rw [h2, hc] <;> rfl
      rw [e2]
      exact hc
  have forth : ∀ {y}, scope.names.lookup y = some .free → ∃ c, (gcl X scope).lookup y = some c := fun {y} hl => by
    have hy : (y, NameKind.free) ∈ scope.names := PySem.mem_of_lookup hl
    exact mem_lookup (cloFrom_has (cells := X.env.cells) (acc := []) hy)
  have old : ∀ {y c}, (gcl X scope).lookup y = some c → c < s.heap.objs.size := fun {y c} e => by
    obtain ⟨v, z⟩ := I.cell y c (back e)
    exact z.lt
  have oks : (gx X A s H (gev X scope s.heap.objs.size code) fp []).Ok :=
    { mod := I.ok.mod
      kind := ok.blk.kind
      glob := I.ok.glob
      blt := rfl
      above := Nat.le_refl _
      inj := fun y z c e1 e2 => I.ok.inj y z c (back e1) (back e2)
      has := fun y hy => by
        have hy' : scope.names.lookup y = some .cell ∨ scope.names.lookup y = some .free := hy
        rcases hy' with k | k
        · exact absurd rfl (ok.nocell _ (PySem.mem_of_lookup k))
        · exact forth k
      cab := fun y c z _ => by
        have z' : false = true := z
        cases z'
      hd := fun _ => hh
      frames := hA
      stk := .inr ⟨rfl, rfl⟩
      exf := fun b hb => ⟨Nat.ne_of_lt (hfp b hb).2, fun y c e => (hfp b hb).1.2.2.2.2.1 y c (back e)⟩
      bs := I.bs
      bsz := Nat.le_trans I.ok.bsz I.sz
      noex := fun b o e hb => by
        rcases (hfp b hb).1.2.2.2.1 with z | z
        · exact I.ok.noex b o e z
        · have l1 := Nat.lt_of_lt_of_le (Heap.lt_size e) I.ok.bsz
          exact Nat.lt_irrefl _ (Nat.lt_of_lt_of_le l1 z)
      exfs := fun b hb z => by
        rcases List.mem_cons.mp (I.stkSub b z) with q | q
        · exact (hfp b hb).1.2.1 q
        · exact (hfp b hb).1.2.2.1 q
      funs := I.stack
      frf := I.stkFree }
  refine ⟨oks, rfl, hg, Un.kept kp, ⟨_, hn, fun i y v e1 e2 e3 => ?_⟩, fun y c e => ?_, I.hok.fresh (Nat.le_refl _), fun y c e => I.freeC y c (back e), fun p hp => absurd (show p ∈ ([] : List (Addr × Obj)) ++ [] from hp) (by simp), I.hok.kept kp, by rw [wipe_length]; exact I.len⟩
  · obtain ⟨w1, w2⟩ := wipe_some e2
    have isFree : scope.names.lookup y = some .free := by
      have no : ∀ k, scope.names.lookup y = some k → k = .local ∨ k = .cell → False := fun k hk hk2 => by
        rcases ok.blk.own _ (PySem.mem_of_lookup hk) hk2 with q | q
        · obtain ⟨p, hp, hpy⟩ := List.mem_map.mp q
          have at_ := ok.blk.ix p hp
          rw [show p.1 = y from hpy] at at_
          exact w2 (List.mem_map.mpr ⟨p, hp, nodup_ix hN at_ e1⟩)
        · exact q (List.mem_of_getElem? e1)
      have e3' : Vis scope y := e3
      rcases e3' with k | k | k
      · exact (no _ k (.inl rfl)).elim
      · exact (no _ k (.inr rfl)).elim
      · exact k
    obtain ⟨m, hm, look⟩ := I.loc
    have seen : Vis X.env.scope y := (ok.blk.free _ (PySem.mem_of_lookup isFree) rfl).elim (fun k => .inr (.inl k)) (fun k => .inr (.inr k))
    obtain ⟨u, r, q⟩ := look i y v e1 w1 seen
    obtain ⟨c2, h2⟩ := forth isFree
    refine ⟨u, r, .inr ⟨.inr isFree, c2, h2, ?_⟩⟩
    have c1 := back h2
    rcases q with ⟨k, _⟩ | ⟨_, c3, e', z⟩
    · have k' : X.env.scope.names.lookup y = some .local := k
      rcases ok.blk.free _ (PySem.mem_of_lookup isFree) rfl with k2 | k2 <;> rw [show X.env.scope.names.lookup y = _ from k2] at k' <;> cases k'
    · rw [c1] at e'
      cases e'
      exact z.keeps kp
  · obtain ⟨v, z⟩ := I.cell y c (back e)
    exact ⟨v, z.keeps kp⟩
end
end Hd

set_option maxHeartbeats 4000000
/-! generator expressions: the loop of the frame -/
namespace Hd
open PySem PySem.Spec PyProof.Rows L2
/-- an item is out: P tells what its taker wants (c: what the taker holds, read off the state at the last wakening; Ss: its own objects); it goes on from any state that holds -/
def GYld {C : Type} (Z : Cx) (Gh : Shared → C → Prop) (Ss : List Addr) (P : C → V → Hp → (C → Hp → Prop) → Prop) : Protocol := fun n s₀ v s kap =>
  ∃ c y σ H ip, ∃ Nx : C → Hp → Prop, Gh s₀ c ∧ RelV y v ∧ Inv Z (pinsAt Ss s₀.heap ++ ip) σ H s ∧ (∀ p ∈ ip, p.1 ∉ Ss) ∧ P c y H Nx ∧ ∀ s' c' H', Inv Z (pinsAt Ss s'.heap ++ ip) σ H' s' → Gh s' c' → Nx c' H' → kap (.send .none) s'
def GEnd {C : Type} (Z : Cx) (Gh : Shared → C → Prop) (Ss : List Addr) (σ0 : L2.St) (Z0 : C → Hp → Prop) : GenEnd := fun n s₀ r s => ((r = .ok (.ret .none) ∨ r = .ok .next) ∧ ∃ c H, Gh s₀ c ∧ Inv Z (pinsAt Ss s₀.heap) σ0 H s ∧ Z0 c H) ∨ ∃ e, r = .error e ∧ False
abbrev gExp (elt tg iter : Expr) (ifs : List Expr) (scope : Scope) (pos : Pos) : Expr := .GeneratorExp elt [⟨tg, iter, ifs, 0⟩] scope pos
section
variable {C : Type} {Gh : Shared → C → Prop} {Ss : List Addr} {X : Cx} {B : Around} {s0 : Shared} {H0 : Hp} {cenv : Env} {fp : List Addr} {pn : List (Addr × Obj)} {elt tg iter : Expr} {ifs : List Expr} {scope : Scope} {pos : Pos} {it : Addr} {σ0 : L2.St} {vs : List Nat} {g : TG} {tt : TT} {te : TE} {J : It} {tn : Nat → Heap → Prop} {P : C → V → Hp → (C → Hp → Prop) → Prop} {Z0 : C → Hp → Prop} {W : C → Nat → Nat → Hp → Prop}
/-- one turn of the loop, as its reader sees it -/
def GTurn {C : Type} (σ : L2.St) (vs : List Nat) (g : TG) (tt : TT) (te : TE) (J : It) (P : C → V → Hp → (C → Hp → Prop) → Prop) (Z0 : C → Hp → Prop) (W : C → Nat → Nat → Hp → Prop) : Prop := ∀ c i m H, W c i m H →
  (J.stop i H ∧ Z0 c H) ∨ (J.go i H ∧ ∃ Nx : C → Hp → Prop, (∀ c' H', Nx c' H' → ∃ m', m' < m ∧ W c' (i + 1) m' H') ∧ ∀ x H', J.yld i H x H' → g x (wipe σ vs) H' fun σ2 H2 => wipe σ2 vs = wipe σ vs ∧ tt σ2 H2 fun b H3 => if b = true then te σ2 H3 fun y H4 => P c y H4 Nx else Nx c H3)
theorem seg_gx (Z : Cx) (hZ : Z = gx X (B.over (.compLoop (gExp elt tg iter ifs scope pos) 0 (.ref it) .none cenv) []) s0 H0 cenv fp pn) (hco : cenv.scope.isCoroutine = false) (T : Turn X.prog X.w X.K tg J fp it tn) (pg : PG Z tg g) (pt : PTs Z ifs tt) (pe : PE Z elt te) (turn : GTurn σ0 vs g tt te J P Z0 W) (hpn : ∀ p ∈ pn, p.1 ∉ fp) (hSs : ∀ b ∈ Ss, b ∉ fp) :
    ∀ (m n i : Nat) (c : C) (s₀ s : Shared) (H : Hp), m < n → Gh s₀ c → Inv Z (pinsAt Ss s₀.heap) (wipe σ0 vs) H s → tn i s.heap → (∀ b ∈ fp, H b = none) → W c i m H →
      Seg (model X.prog X.w) B (GEnd Z Gh Ss (wipe σ0 vs) Z0) (GYld Z Gh Ss P) n s₀ (.compLoop (gExp elt tg iter ifs scope pos) 0 (.ref it) .none cenv) ((model X.prog X.w).den (.compLoop (gExp elt tg iter ifs scope pos) 0 (.ref it) .none cenv)) [] s := by
  subst hZ
  have stat : ∀ {hp : Heap} {σ' : L2.St} {H' : Hp} {s' : Shared}, Inv (gx X (B.over (.compLoop (gExp elt tg iter ifs scope pos) 0 (.ref it) .none cenv) []) s0 H0 cenv fp pn) (pinsAt Ss hp) σ' H' s' → (∀ b ∈ fp, H' b = none) → ∀ b ∈ fp, FpOk (gx X (B.over (.compLoop (gExp elt tg iter ifs scope pos) 0 (.ref it) .none cenv) []) s0 H0 cenv fp pn) (pinsAt Ss hp) H' b := fun {hp σ' H' s'} I' hn b hb => by
    refine ⟨hn b hb, (I'.ok.exf b hb).1, I'.ok.exfs b hb, .inl hb, fun x c e => (I'.ok.exf b hb).2 x c e, fun p hq z => ?_⟩
    rcases List.mem_append.mp hq with q | q
    · exact hpn p q (by rw [z]; exact hb)
    · exact hSs p.1 (of_pinsAt q).1 (by rw [z]; exact hb)
  generalize hZ : gx X (B.over (.compLoop (gExp elt tg iter ifs scope pos) 0 (.ref it) .none cenv) []) s0 H0 cenv fp pn = Z at *
  have hAo : B.over (.compLoop (gExp elt tg iter ifs scope pos) 0 (.ref it) .none cenv) [] = Z.A := by rw [← hZ] <;> rfl
  have hp1 : Z.prog = X.prog := by rw [← hZ] <;> rfl
  have hp2 : Z.w = X.w := by rw [← hZ] <;> rfl
  have hp3 : Z.K = X.K := by rw [← hZ] <;> rfl
  have hp4 : Z.env = cenv := by rw [← hZ] <;> rfl
  have hp5 : Z.calm = true := by rw [← hZ] <;> rfl
  have hp8 : Z.xe = fun _ _ => False := by rw [← hZ] <;> rfl
  intro m
  induction m using Nat.strongRecOn with
  | _ m ih =>
    intro n i c s₀ s H hmn gh I st nf w
    show Seg _ B _ _ n s₀ _ ((compTurn (.GeneratorExp elt [⟨tg, iter, ifs, 0⟩] scope pos) 0 (.ref it) .none cenv).onRaise (leaving cenv)) [] s
    rw [compTurn_gen, Sem.onRaise_eq_wrap]
    refine seg_bind_wrap (wpAny_standAt ?_)
    rcases turn c i m H w with ⟨stop, hz⟩ | ⟨go, Nx, hNx, step⟩
    · have td := T.done Z hp1 hp2 hp3 hp5 i _ s _ H (fun _ _ => False) I (stat I nf) st stop
      rw [← hAo] at td
      refine seg_bind_wrap (wpAny_mono td (fun r s6 hr => ?_) fun _ _ e => e.elim)
      obtain ⟨rfl, I6⟩ := hr
      exact seg_end (.ok .next) (.inl ⟨.inr rfl, c, H, gh, I6, hz⟩)
    · have ti := T.item Z hp1 hp2 hp3 hp5 i _ s _ H (fun _ _ => False) I (stat I nf) st go
      rw [← hAo] at ti
      refine seg_bind_wrap (wpAny_mono ti (fun r s6 hr => ?_) fun _ _ e => e.elim)
      obtain ⟨u, rfl, h6⟩ := hr
      refine seg_bind_wrap (wpAny_mono h6 (fun _ s7 h7 => ?_) fun _ _ e => e.elim)
      obtain ⟨x, H7, I7, r7, y7, st7, n7⟩ := h7
      have I7' := I7.pinned (stat I7 n7) (T.obj _ _ st7)
      have go8 := pg.run _ s7 _ H7 x u _ I7' r7 (step x H7 y7)
      rw [hp1, hp2, hp4, hp8, ← hAo] at go8
      refine seg_bind_wrap (wpAny_mono go8 (fun _ s8 h8 => ?_) fun _ _ e => e.elim)
      obtain ⟨σ8, H8, I8, hw8, q8⟩ := h8
      have go9 := pt.run _ s8 σ8 H8 _ I8 q8
      rw [hp1, hp2, hp4, hp8, ← hAo] at go9
      refine seg_bind_wrap (wpAny_mono go9 (fun b s9 h9 => ?_) fun _ _ e => e.elim)
      obtain ⟨H9, I9, q9⟩ := h9
      -- behind the turn
      have fin : ∀ {s₀' s' : Shared} {c' : C} {H' : Hp} {n' : Nat}, m ≤ n' → Gh s₀' c' → Inv Z (pinsAt Ss s₀'.heap ++ pinsAt fp s7.heap) σ8 H' s' → Nx c' H' → Seg (model X.prog X.w) B (GEnd Z Gh Ss (wipe σ0 vs) Z0) (GYld Z Gh Ss P) n' s₀' (.compLoop (gExp elt tg iter ifs scope pos) 0 (.ref it) .none cenv) (.pure (.again (.compLoop (gExp elt tg iter ifs scope pos) 0 (.ref it) .none cenv))) [] s' := fun {s₀' s' c' H' n'} hm gh' I' nx => by
        obtain ⟨m', hm', w'⟩ := hNx c' H' nx
        have pin' : ∀ b ∈ fp, ∀ o, s7.heap.get? b = some o → s'.heap.get? b = some o ∧ H' b = none := fun b hb o e =>
          let z := I'.pin (b, o) (List.mem_append_right _ (List.mem_append_right _ (mem_pinsAt hb e)))
          ⟨z.1, z.2.1⟩
        have hl : (wipe σ0 vs).length = σ8.length := by rw [← hw8, wipe_length]
        refine seg_again rfl (ih m' hm' n' (i + 1) c' s₀' s' H' (by omega) gh' ((I'.unpinned (pins := pinsAt Ss s₀'.heap)).weak hl (fun j v e => ?_)) (T.keep _ _ _ st7 fun b hb o e => (pin' b hb o e).1) (fun b hb => ?_) w')
        · rw [← hw8] at e
          exact (wipe_some e).1
        · obtain ⟨o, e, _⟩ := T.obj _ _ st7 b hb
          exact (pin' b hb o e).2
      cases b with
      | false =>
        simp only [Bool.false_eq_true, if_false] at q9 ⊢
        exact fin (Nat.le_of_lt hmn) gh I9 q9
      | true =>
        simp only [if_true] at q9 ⊢
        have plain : ∀ v, yieldOut cenv v = yieldValue v := fun v => by
          unfold yieldOut
          rw [hco, if_neg (by decide)]
        simp only [plain]
        rw [Sem.bind_eq_wrap', Sem.bind_eq_wrap', Sem.wrap_wrap, Sem.wrap_wrap]
        have go10 := pe.run _ s9 σ8 H9 _ I9 q9
        rw [hp1, hp2, hp4, hp8, ← hAo] at go10
        refine seg_wrap (wpAny_mono go10 (fun v s10 h10 => ?_) fun _ _ e => e.elim)
        obtain ⟨y, H10, I10, r10, q10⟩ := h10
        obtain ⟨n', rfl⟩ : ∃ n', n = n' + 1 := ⟨n - 1, by omega⟩
        refine seg_at (seg_yield rfl rfl rfl ⟨c, y, σ8, H10, _, Nx, gh, r10, I10, fun p hp hm => hSs _ hm (of_pinsAt hp).1, q10, fun s' c' H' I' gh' nx => fin (by omega) gh' I' nx⟩)
end
end Hd

set_option maxHeartbeats 4000000
/-! generator expressions: what takes from them -/
namespace Hd
open PySem PySem.Spec PyProof.Rows L2 GenW
section
variable {C : Type} {Gh : Shared → C → Prop} {Ss : List Addr} {X Z : Cx} {pins ip : List (Addr × Obj)} {σ σ' : L2.St} {H H' H0 : Hp} {s s' s0 : Shared} {a : Addr} {gi : Nat} {σ0 : L2.St} {P : C → V → Hp → (C → Hp → Prop) → Prop} {Z0 : C → Hp → Prop}
/-- the loop's beginning: it may ask for the iterator once more -/
theorem seg_gs {B : Around} {R : GenEnd} {Y : Protocol} {n : Nat} {prog : Program} {w : World} {elt tg iter : Expr} {ifs : List Expr} {scope : Scope} {pos : Pos} {it : Addr} {cenv : Env} {s₀ : Shared}
    (self : ∀ (A : Around) (Q : Value → Shared → Prop) (E : Value → Shared → Prop), Q (.ref it) s → wpAny (model prog w) A (pyIter (.ref it)) Q E s)
    (loop : Seg (model prog w) B R Y n s₀ (.compLoop (gExp elt tg iter ifs scope pos) 0 (.ref it) .none cenv) ((model prog w).den (.compLoop (gExp elt tg iter ifs scope pos) 0 (.ref it) .none cenv)) [] s) :
    Seg (model prog w) B R Y n s₀ (.compStart (gExp elt tg iter ifs scope pos) 0 (.ref it) .none cenv) ((model prog w).den (.compStart (gExp elt tg iter ifs scope pos) 0 (.ref it) .none cenv)) [] s := by
  show Seg _ B _ _ n s₀ _ ((compStart (.GeneratorExp elt [⟨tg, iter, ifs, 0⟩] scope pos) 0 (.ref it) .none cenv).onRaise (leaving cenv)) [] s
  unfold compStart
  rw [Sem.onRaise_eq_wrap]
  show Seg _ B _ _ n s₀ _ ((ask >>= _).wrap _ _ _ _) [] s
  refine seg_bind_wrap (wpAny_askSetting ?_)
  split
  · exact seg_again rfl loop
  · refine seg_bind_wrap (wpAny_rule ?_)
    show Seg _ B _ _ n s₀ _ ((standAt iter.pos >>= _).wrap _ _ _ _) [] s
    exact seg_bind_wrap (wpAny_standAt (seg_bind_wrap (self _ _ _ (seg_again rfl loop))))
/-- from the generator's frame back to the def's -/
theorem z_back (I : Inv X pins σ H0 s0) {A : Around} {cenv : Env} {fp : List Addr} {pn : List (Addr × Obj)} (hfp : ∀ b ∈ fp, FpOk X pins H0 b) (J : Inv (gx X A s0 H0 cenv fp pn) ip σ' H s') : Inv X pins σ H s' :=
  I.call' (ch := fp) J.os J.base J.hok J.bare fun b hb => ⟨(hfp b hb).2.2.2.1, (hfp b hb).2.1, (hfp b hb).2.2.2.2.1, (hfp b hb).2.2.2.2.2⟩
/-- only the generators' table is another -/
theorem z_gens (J : Inv Z ip σ H s) {g' : Array GenState} (hg : AllBare g') : Inv Z ip σ H { s with gens := g' } :=
  Inv.call' (ch := []) J rfl (Un.kept fun b o e => e) J.hok hg fun b hb => absurd hb (by simp)
/-- the generator stands ready: at most n items come -/
def GSt {C : Type} (Z : Cx) (Gh : Shared → C → Prop) (Ss : List Addr) (σ0 : L2.St) (P : C → V → Hp → (C → Hp → Prop) → Prop) (Z0 : C → Hp → Prop) (B : Around) (a : Addr) (gi n : Nat) (s : Shared) : Prop :=
  s.heap.IsGen a gi ∧ s.heap.NoLimit ∧ ∃ gs, s.gens[gi]? = some gs ∧ gs.Goes (model Z.prog Z.w) B (GEnd Z Gh Ss σ0 Z0) (GYld Z Gh Ss P) n (.send .none) (s.setGen gi .running)
theorem gen_next {A : Around} {n : Nat} {Q : Option Value → Shared → Prop} {E : Value → Shared → Prop} (hGh : ∀ s s' c, s'.heap = s.heap → Gh s c → Gh s' c) (hh : A.handled = none) (hd : A.depth < recursionLimit) (hpin : ∃ go, (a, go) ∈ Z.pn ∧ ∀ h : Heap, h.get? a = some go → h.IsGen a gi) (G : GSt Z Gh Ss σ0 P Z0 A.in1 a gi n s)
    (hY : ∀ (c : C) (y : V) (v : Value) (ip : List (Addr × Obj)) (σ : L2.St) (H : Hp) (s' : Shared) (Nx : C → Hp → Prop), Gh s c → RelV y v → Inv Z (pinsAt Ss s.heap ++ ip) σ H s' → (∀ p ∈ ip, p.1 ∉ Ss) → P c y H Nx →
      (∀ s'' c' H', Inv Z (pinsAt Ss s''.heap ++ ip) σ H' s'' → Gh s'' c' → Nx c' H' → s''.gens = s'.gens → ∃ m, n = m + 1 ∧ GSt Z Gh Ss σ0 P Z0 A.in1 a gi m s'') → Q (some v) s')
    (hP : ∀ c H s', Gh s c → Inv Z (pinsAt Ss s.heap) σ0 H s' → Z0 c H → Q none s') : wpAny (model Z.prog Z.w) A (pyNext (.ref a)) Q E s := by
  obtain ⟨g1, g2, gs, g3, g4⟩ := G
  have hgl : gi < s.gens.size := (Array.getElem?_eq_some_iff.mp g3).1
  refine wpAny_gsz (n := gi + 1) hgl (next_genG (F := fun _ s₀ s₁ => ∃ c H, Gh s₀ c ∧ Inv Z (pinsAt Ss s₀.heap) σ0 H s₁ ∧ Z0 c H) (Er := fun _ _ => False) hh g2 hd g1 g3 g4 (fun v s₁ gs' hb hv hz => ?_) (fun s₁ hp h' hk hz => ?_) fun e s₁ he => he.elim)
  · obtain ⟨c, y, σ', H', ip', Nx, gh, r, J, hip, p, k⟩ := hv
    have hz1 : gi < s₁.gens.size := by
      have q : (s₁.setGen gi gs').gens.size = s₁.gens.size := setGen_size _ _ _
      omega
    have J' : Inv Z (pinsAt Ss s.heap ++ ip') σ' H' (s₁.setGen gi gs') := z_gens J (allBare_setGen J.bare hb)
    refine hY c y v ip' σ' H' _ Nx (hGh (s.setGen gi .running) s c rfl gh) r J' hip p fun s'' c'' H'' J'' gh'' nx eg => ?_
    cases n with
    | zero => exact (k s'' c'' H'' J'' gh'' nx).elim
    | succ m =>
      obtain ⟨go, h1, h2⟩ := hpin
      have eg' : s''.gens[gi]? = some gs' := by
        rw [eg]
        exact setGen_at hz1
      exact ⟨m, rfl, h2 _ (J''.pin _ (List.mem_append_left _ h1)).1, J''.nolimit, gs', eg', k (s''.setGen gi .running) c'' H'' (z_gens J'' (allBare_setGen J''.bare rfl)) (hGh s'' (s''.setGen gi .running) c'' rfl gh'') nx⟩
  · obtain ⟨c, H, gh, J, q⟩ := hp
    refine hP c H _ (hGh (s.setGen gi .running) s c rfl gh) ?_ q
    have J1 : Inv Z (pinsAt Ss s.heap) σ0 H { s₁ with heap := h' } := Inv.call' (ch := []) J rfl (Un.kept hk) (J.hok.kept hk) J.bare fun b hb => absurd hb (by simp)
    exact z_gens J1 (allBare_setGen J1.bare rfl)
/-- all of the items are true; QF: one is not -/
def PAll (QF : Hp → Prop) : Unit → V → Hp → (Unit → Hp → Prop) → Prop := fun _ y H Nx => ∃ c, y = .bl c ∧ (c = true → Nx () H) ∧ (c = false → QF H)
abbrev noGh : Shared → Unit → Prop := fun _ _ => True
theorem all_loop {A : Around} {QF QT : Hp → Prop} {R : Result → Shared → Prop} (hh : A.handled = none) (hd : A.depth < recursionLimit) (hpin : ∃ go, (a, go) ∈ Z.pn ∧ ∀ h : Heap, h.get? a = some go → h.IsGen a gi)
    (hT : ∀ H s', Inv Z [] σ0 H s' → QT H → R (.ok (.ret (.bool true))) s') (hF : ∀ ip σ H s', Inv Z ip σ H s' → QF H → R (.ok (.ret (.bool false))) s') :
    ∀ (n : Nat) (s : Shared), GSt Z noGh [] σ0 (PAll QF) (fun _ => QT) A.in1.in1 a gi n s → codeAny (model Z.prog Z.w) A (.builtin "all.loop" ⟨[.ref a], []⟩) R s := by
  intro n
  induction n with
  | zero =>
    intro s G
    refine codeAny_builtin F.entry_all_loop ?_
    rw [Around.under_plainId F.plain_all_loop _]
    show wpAny _ A.in1 (pyNext (.ref a) >>= _) _ _ s
    refine wpAny_bind (gen_next (A := A.in1) (fun _ _ _ _ h => h) hh hd hpin G (fun u y v ip σ H s' Nx _ r J _ p k => ?_) (fun u H s' _ J q => wpAny_bind (wpAny_rule (wpAny_pure (hT H s' J q)))))
    obtain ⟨c, rfl, p1, p2⟩ := p
    obtain rfl : v = Value.bool c := r
    refine wpAny_bind (wpAny_holding (wpAny_truthy_bool ?_))
    refine wpAny_bind (wpAny_letGo ?_)
    cases c with
    | false => exact wpAny_bind (wpAny_rule (wpAny_pure (hF _ σ H s' J (p2 rfl))))
    | true =>
      obtain ⟨m, e, _⟩ := k s' () H J trivial (p1 rfl) rfl
      exact absurd e (by omega)
  | succ n ih =>
    intro s G
    refine codeAny_builtin F.entry_all_loop ?_
    rw [Around.under_plainId F.plain_all_loop _]
    show wpAny _ A.in1 (pyNext (.ref a) >>= _) _ _ s
    refine wpAny_bind (gen_next (A := A.in1) (fun _ _ _ _ h => h) hh hd hpin G (fun u y v ip σ H s' Nx _ r J _ p k => ?_) (fun u H s' _ J q => wpAny_bind (wpAny_rule (wpAny_pure (hT H s' J q)))))
    obtain ⟨c, rfl, p1, p2⟩ := p
    obtain rfl : v = Value.bool c := r
    refine wpAny_bind (wpAny_holding (wpAny_truthy_bool ?_))
    refine wpAny_bind (wpAny_letGo ?_)
    cases c with
    | false => exact wpAny_bind (wpAny_rule (wpAny_pure (hF _ σ H s' J (p2 rfl))))
    | true =>
      obtain ⟨m, e, G'⟩ := k s' () H J trivial (p1 rfl) rfl
      obtain rfl : n = m := by omega
      exact wpAny_pure ⟨plainId_quiet F.plain_all_loop _, ih s' G'⟩
end
end Hd

set_option maxHeartbeats 4000000
/-! generator expressions: the making -/
namespace Hd
open PySem PySem.Spec PyProof.Rows L2 GenW
section
variable {X : Cx} {pins : List (Addr × Obj)} {σ : L2.St} {H : Hp} {s : Shared}
theorem gx_pin {A : Around} {s0 s' : Shared} {H0 H' : Hp} {cenv : Env} {fp : List Addr} {σ' : L2.St} {q : Addr × Obj} (I : Inv (gx X A s0 H0 cenv fp []) [] σ' H' s') (h1 : s'.heap.get? q.1 = some q.2) (h2 : H' q.1 = none) (h3 : q.1 ≠ cenv.locals) (h4 : q.1 ∉ frs X.stack) (h5 : ∀ v, q.2.data ≠ .cell v) :
    Inv (gx X A s0 H0 cenv fp [q]) [] σ' H' s' :=
  { ok := { mod := I.ok.mod, kind := I.ok.kind, glob := I.ok.glob, blt := I.ok.blt, above := I.ok.above, inj := I.ok.inj, has := I.ok.has, cab := I.ok.cab, hd := I.ok.hd, frames := I.ok.frames, stk := I.ok.stk, exf := I.ok.exf, bs := I.ok.bs, bsz := I.ok.bsz, noex := I.ok.noex, exfs := I.ok.exfs, funs := I.ok.funs, frf := I.ok.frf }
    os := I.os, bare := I.bare, base := I.base, loc := I.loc, cell := I.cell, free := I.free, freeC := I.freeC
    pin := fun p hp => by
      have hp' : p ∈ [q] ++ ([] : List (Addr × Obj)) := hp
      rw [List.append_nil] at hp'
      rw [List.mem_singleton.mp hp']
      exact ⟨h1, h2, h3, h4, h5⟩
    hok := I.hok, len := I.len }
/-- what is there when a generator expression has been made: its frame's start is told for each around -/
structure GMake (X : Cx) (pins : List (Addr × Obj)) (σ : L2.St) (scope : Scope) (own : List (Str × Nat)) (e : Expr) (tg : Expr) (J : It) (H2 : Hp) (a : Addr) (s5 : Shared) : Prop where
  go : ∃ (it : Addr) (fp : List Addr) (tn : Nat → Heap → Prop) (s4 : Shared) (code : Value) (gi : Nat) (go : Obj), Inv X pins σ H2 s4 ∧ Turn X.prog X.w X.K tg J fp it tn ∧ tn 0 s5.heap ∧ (∀ b ∈ fp, FpOk X pins H2 b) ∧ a ∉ fp ∧ (∀ h : Heap, h.get? a = some go → h.IsGen a gi) ∧
    s5.heap.IsGen a gi ∧ s5.heap.NoLimit ∧ s5.gens[gi]? = some (.fresh (.compStart e 0 (.ref it) .none (gev X scope s4.heap.objs.size code))) ∧ (∀ b ∈ fp, H2 b = none) ∧
    ∀ A : Around, A.frames = some (gev X scope s4.heap.objs.size code :: X.stack) → A.handled = none → Inv (gx X A s4 H2 (gev X scope s4.heap.objs.size code) fp [(a, go)]) [] (wipe σ (own.map (·.2))) H2 s5
theorem gen_made {c P : Addr} {elt tg iter : Expr} {ifs : List Expr} {pos : Pos} {scope : Scope} {own : List (Str × Nat)} {wi : TI} {k : Nat} {Q' : Value → Shared → Prop} {R : It → Hp → Prop} (hr : Room (k + 1) X.A) (TB : GxR.TabB X.base X.mg c P) (hcode : X.env.code = .ref c) (ok : GenOk X.N X.env.scope scope own) (hN : X.N.Nodup) (hi : PI X tg iter wi)
    (hs : ∀ v, genFold iter X.env v = pure v) (I : Inv X pins σ H s) (h : wi σ H fun J H1 => GxR.TabG H1 P ∧ ∀ H2, GxR.Tabbed P H1 H2 → R J H2)
    (hQ : ∀ J H2 a s5, R J H2 → GMake X pins σ scope own (gExp elt tg iter ifs scope pos) tg J H2 a s5 → Q' (.ref a) s5) :
    wpAny (model X.prog X.w) X.A (eval (gExp elt tg iter ifs scope pos) X.env) Q' X.xe s := by
  refine wpAny_GeneratorExp_make ok.co (closure_ok (ok.free I.ok)) ok.nocell ok.dot ok.blk.kind (by have := hr.dp; omega) ?_ hs
  refine thn (hi.run pins s σ H _ I h) fun xv s1 hx => thn hx fun itv s2 h2 => ?_
  obtain ⟨it, fp, tn, J, H2, rfl, I2, T, st2, f2, ⟨ps, hP, ht⟩, q⟩ := h2
  refine ⟨I2.nolimit, ?_⟩
  have hPs : s2.heap.get? P = some { cls := .none, data := .fields ps } := I2.hok P _ hP
  have cd : PySem.W.CodeHd s2.heap c P := TB.code.keeps fun b u e => I2.bk b u e
  have nP : ∀ b ∈ fp, b ≠ P := fun b hb e => by
    have := (f2 b hb).1
    rw [e, hP] at this
    cases this
  -- behind the code's look: the state, its heap
  have go : ∀ (code : Value) (s3 : Shared) (H3 : Hp), Inv X pins σ H3 s3 → GxR.Tabbed P H2 H3 → (∀ b o, b ≠ P → s2.heap.get? b = some o → s3.heap.get? b = some o) →
      wpAny (model X.prog X.w) X.A (builtinsFor X.env.globals X.env.builtins) (fun bi s₄ =>
        ∀ h', h'.Ns s₄.heap.objs.size (fun y => if y = (".0" : Str) then some (.ref it) else none) → Heap.SameBut s₄.heap.objs.size (s₄.heap.push { cls := .type "frame", data := .dict #[] }) h' →
          Q' (.ref h'.objs.size) { s₄ with gens := s₄.gens.push (.fresh (.compStart (gExp elt tg iter ifs scope pos) 0 (.ref it) .none (genEnv scope (cloFrom X.env.cells scope.names []) s₄.heap.objs.size code bi X.env))), toks := s₄.toks + 1 + 1 + 1, heap := h'.push { cls := .type "generator", data := .fields #[.int s₄.gens.size 0, .str "<genexpr>" (s₄.toks + 1), .str (X.env.qual ++ "<genexpr>") (s₄.toks + 1 + 1)] } }) X.xe s3 := by
    intro code s3 H3 I3 tb kp
    obtain ⟨bm, ob, b1, b2, _, _, b5, b6, b7, b8⟩ := TB.bm
    refine wpAny_builtinsFor (m := X.mg) (by rw [I3.ok.glob]; exact I3.mod.glob.keeps I3.bk) b1 b2 (I3.bk _ _ b5) b6 b7 b8 fun h' hn sb => ?_
    have sz : h'.objs.size = s3.heap.objs.size + 1 := by rw [sb.1, Heap.size_push]
    have kp' : ∀ b o, s3.heap.get? b = some o → h'.get? b = some o := fun b o e => sb.extBut b o (Nat.ne_of_lt (Heap.lt_size e)) (Heap.get?_push_of_some _ e)
    have f3 : ∀ b ∈ fp, FpOk X pins H3 b := fun b hb => ⟨by rw [tb.2 b (nP b hb)]; exact (f2 b hb).1, (f2 b hb).2⟩
    have old : ∀ b ∈ fp, ∃ o, s2.heap.get? b = some o ∧ s3.heap.get? b = some o := fun b hb => by
      obtain ⟨o, e, _⟩ := T.obj _ _ st2 b hb
      exact ⟨o, e, kp b o (nP b hb) e⟩
    have lt3 : ∀ b ∈ fp, b < s3.heap.objs.size := fun b hb => let ⟨o, _, e⟩ := old b hb; Heap.lt_size e
    generalize hgo : ({ cls := .type "generator", data := .fields #[.int s3.gens.size 0, .str "<genexpr>" (s3.toks + 1), .str (X.env.qual ++ "<genexpr>") (s3.toks + 1 + 1)] } : Obj) = go
    have hpg : (h'.push go).get? h'.objs.size = some go := Heap.get?_push_size _ (by rw [← hgo] <;> rfl)
    have isg : ∀ hh : Heap, hh.get? h'.objs.size = some go → hh.IsGen h'.objs.size s3.gens.size := fun hh e => ⟨go, _, _, e, by rw [← hgo], by rw [← hgo], by rw [← hgo]⟩
    have kp5 : ∀ b o, s3.heap.get? b = some o → (h'.push go).get? b = some o := fun b o e => Heap.get?_push_of_some _ (kp' b o e)
    have bare5 : AllBare (s3.gens.push (.fresh (.compStart (gExp elt tg iter ifs scope pos) 0 (.ref it) .none (gev X scope s3.heap.objs.size code)))) := AllBare.push I3.bare rfl
    refine hQ J H3 _ _ (q H3 tb) ⟨it, fp, tn, s3, code, s3.gens.size, go, I3, T, ?_, f3, fun hm => ?_, isg, isg _ hpg, ?_, Array.getElem?_push_size .., fun b hb => (f3 b hb).1, fun A hA hh => ?_⟩
    · exact T.keep _ _ _ st2 fun b hb o e => kp5 b o (kp b o (nP b hb) e)
    · have := lt3 _ hm
      rw [sz] at this
      exact Nat.lt_irrefl _ (Nat.lt_of_succ_lt this)
    · exact I3.nolimit.keeps kp5
    · have st := gx_start (it := .ref it) (code := code) (A := A) (tk := s3.toks + 1 + 1 + 1) I3 ok hN (fun b hb => ⟨f3 b hb, lt3 b hb⟩) (hn.push go) kp5 bare5 hA hh
      refine gx_pin st hpg ?_ ?_ ?_ fun v z => ?_
      · exact I3.hok.fresh (by rw [sz]; exact Nat.le_succ _)
      · show h'.objs.size ≠ s3.heap.objs.size
        rw [sz]
        exact Nat.succ_ne_self _
      · intro hm
        have l := I3.lt
        rcases List.mem_cons.mp (I3.stkSub _ hm) with z | z
        · rw [← z, sz] at l
          exact Nat.lt_irrefl _ (Nat.lt_of_succ_lt l)
        · exact I3.nofs (by rw [sz]; exact Nat.le_succ _) z
      · rw [← hgo] at z
        cases z
  cases hf : codeAmong pos ps.toList with
  | some cv =>
    refine PySem.wpAny_genexprCode_hit hcode (cd.code hPs ht) hf ?_
    exact go cv s2 H2 I2 ⟨⟨ps, hP, ht⟩, fun b _ => rfl⟩ fun b o _ e => e
  | none =>
    refine PySem.wpAny_genexprCodeX hcode (cd.code hPs ht) (cd.tab hPs) hf fun c' h' tk hx hge hlt hco' _ htab' _ => ?_
    obtain ⟨o1, vs, f1, tf, fl, tgg, inF, tx, tt, op, _, _, _, _, _, _, _, _, _, htr, _⟩ := hco'
    have I3 := GxR.inv_tab (h' := h') (g' := s2.gens) (d' := s2.drawn) (t' := tk) I2 hP (fun b u hb e => hx b u hb e) htab'.2 I2.bare
    exact go (.ref c') _ _ I3 ⟨⟨_, upd_same, htr⟩, fun b hb => upd_ne hb⟩ fun b o hb e => hx b o hb e
/-- the around of the generator's frame -/
theorem over_room {k : Nat} {A : Around} {e : Expr} {it acc : Value} {cenv : Env} (hr : Room (k + 1) A) (hc : (Code.compLoop e 0 it acc cenv).weight = 1) (hu : (Code.compLoop e 0 it acc cenv).cUnits = 3) : Room k (A.in1.in1.over (.compLoop e 0 it acc cenv) []) := by
  have h1 : (A.in1.in1.over (.compLoop e 0 it acc cenv) []).depth = A.depth + (Code.compLoop e 0 it acc cenv).weight := rfl
  have h2 : (A.in1.in1.over (.compLoop e 0 it acc cenv) []).units = A.in1.in1.units + (Code.compLoop e 0 it acc cenv).cUnits := rfl
  have h3 : A.in1.in1.units = A.units + 1 + 1 := rfl
  have d := hr.dp
  have u := hr.un
  refine ⟨hr.hd, ?_, ?_⟩
  · rw [h1, hc]
    omega
  · rw [h2, hu, h3]
    omega
def tAllG (P : Addr) (wi : TI) (g : TG) (tt : TT) (te : TE) (vs : List Nat) : TE := fun σ H Q => wi σ H fun J H1 => GxR.TabG H1 P ∧ ∀ H2, GxR.Tabbed P H1 H2 → ∃ W : Unit → Nat → Nat → Hp → Prop, (∃ m, W () 0 m H2) ∧ GTurn σ vs g tt te J (PAll (Q (.bl false))) (fun _ => Q (.bl true)) W
/-- all(elt for tg in iter if ..), the element any expression -/
theorem pe_allG {c P : Addr} {elt tg iter : Expr} {ifs : List Expr} {p pos gpos : Pos} {scope : Scope} {own : List (Str × Nat)} {wi : TI} {g : TG} {tt : TT} {te : TE} {k : Nat} (hr : Room (k + 1) X.A) (hg : Gl X "all") (hm : X.mg "all" = none) (TB : GxR.TabB X.base X.mg c P) (hcode : X.env.code = .ref c)
    (ok : GenOk X.N X.env.scope scope own) (hN : X.N.Nodup) (hi : PI X tg iter wi) (hpg : ∀ (A : Around) (s : Shared) (H : Hp) (code : Value) (fp : List Addr) (pn : List (Addr × Obj)), Room k A → PG (gx X A s H (gev X scope s.heap.objs.size code) fp pn) tg g)
    (hpt : ∀ (A : Around) (s : Shared) (H : Hp) (code : Value) (fp : List Addr) (pn : List (Addr × Obj)), Room k A → PTs (gx X A s H (gev X scope s.heap.objs.size code) fp pn) ifs tt) (hpe : ∀ (A : Around) (s : Shared) (H : Hp) (code : Value) (fp : List Addr) (pn : List (Addr × Obj)), Room k A → PE (gx X A s H (gev X scope s.heap.objs.size code) fp pn) elt te)
    (hs : ∀ v, genFold iter X.env v = pure v := by intro _; rfl) (hb : bootBuiltins "all" = some (.builtin "all") := by decide +kernel)
    (he : starEach [gExp elt tg iter ifs scope gpos] X.env = (false, eval (gExp elt tg iter ifs scope gpos) X.env) :: starEach [] X.env := by rfl) :
    PE X (.Call (.Name "all" p) [gExp elt tg iter ifs scope gpos] [] pos) (tAllG P wi g tt te (own.map (·.2))) := by
  refine ⟨fun pins s σ H Q I h => ?_⟩
  refine wpAny_Call_Name_kw (ld_blt I hg hm hb ?_)
  refine PyProof.Rows.callWith_builtin1 ?_ he (by rfl)
  rw [he]
  show wpAny _ _ (spliced ((false, eval (gExp elt tg iter ifs scope gpos) X.env) :: backTo pos (starEach [] X.env))) _ _ s
  refine Calls.spliced_cons (gen_made hr TB hcode ok hN hi hs I h fun J H2 a s5 hR G => ?_)
  obtain ⟨W, ⟨m, w0⟩, turn⟩ := hR
  obtain ⟨it, fp, tn, s4, code, gi, go, I4, T, st, hf, haf, isg, ig5, nl5, gs5, nf, inv⟩ := G.go
  refine Calls.spliced_nil ?_
  refine call_function_tree F.kind_all F.plain_all F.entry_all (F.args_all1 _) ?_
  unfold Builtin.«all»
  refine wpAny_bind (m := oneArg "all" _) (wpAny_pure (wpAny_bind (wpAny_pyIter_gen ig5 (wpAny_pure ⟨plainId_quiet F.plain_all_loop _, ?_⟩))))
  have fr : (X.A.in1.in1.over (.compLoop (gExp elt tg iter ifs scope gpos) 0 (.ref it) .none (gev X scope s4.heap.objs.size code)) []).frames = some (gev X scope s4.heap.objs.size code :: X.stack) := by
    have e : X.A.in1.in1.frames = some X.stack := I4.ok.frames
    unfold Around.over
    dsimp only
    rw [e] <;> rfl
  have rm := over_room (e := gExp elt tg iter ifs scope gpos) (it := .ref it) (acc := .none) (cenv := gev X scope s4.heap.objs.size code) hr rfl rfl
  have J5 := inv _ fr rm.hd
  have J6 := z_gens J5 (allBare_setGen (g := gi) (x := .running) J5.bare rfl)
  refine all_loop (Z := gx X (X.A.in1.in1.over (.compLoop (gExp elt tg iter ifs scope gpos) 0 (.ref it) .none (gev X scope s4.heap.objs.size code)) []) s4 H2 (gev X scope s4.heap.objs.size code) fp [(a, go)]) (σ0 := wipe σ (own.map (·.2))) (QF := Q (.bl false)) (QT := Q (.bl true)) (gi := gi) hr.hd (by have := hr.dp; omega) ⟨go, List.mem_singleton.mpr rfl, isg⟩
    (fun H' s' J q => ⟨.bl true, H', z_back I4 hf J, rfl, q⟩) (fun ip σ' H' s' J q => ⟨.bl false, H', z_back I4 hf J, rfl, q⟩) (m + 1) s5 ⟨ig5, nl5, _, gs5, rfl, ?_⟩
  refine seg_gs (fun A Q E hq => T.self A 0 _ Q E st hq) ?_
  exact seg_gx (X := X) _ rfl ok.co T (hpg _ _ _ _ _ _ rm) (hpt _ _ _ _ _ _ rm) (hpe _ _ _ _ _ _ rm) turn (fun p hp => by rw [List.mem_singleton.mp hp]; exact haf) (fun b hb => by cases hb) m (m + 1) 0 () _ _ H2 (Nat.lt_succ_self _) trivial J6 st nf w0
end
end Hd

set_option maxHeartbeats 4000000
/-! generator expressions: sum -/
namespace Hd
open PySem PySem.Spec PyProof.Rows L2 GenW
section
variable {X Z : Cx} {pins ip : List (Addr × Obj)} {σ σ0 : L2.St} {H : Hp} {s : Shared} {a S : Addr} {gi : Nat}
theorem pinsAt_one {h : Heap} {o : Obj} (e : h.get? S = some o) : pinsAt [S] h = [(S, o)] := by
  unfold pinsAt
  rw [List.filterMap_cons, e] <;> rfl
/-- the taker's own object is another; all else is kept -/
theorem z_own {o o' : Obj} {h' : Heap} {t' : Nat} (J : Inv Z (pinsAt [S] s.heap ++ ip) σ H s) (eS : s.heap.get? S = some o) (hip : ∀ p ∈ ip, p.1 ∉ [S]) (hpn : ∀ p ∈ Z.pn, p.1 ≠ S) (hy : Z.s_0.heap.objs.size ≤ S) (kp : ∀ b u, b ≠ S → s.heap.get? b = some u → h'.get? b = some u) (ho : h'.get? S = some o') (hc : ∀ v, o'.data ≠ .cell v) :
    Inv Z (pinsAt [S] h' ++ ip) σ H { s with heap := h', toks := t' } := by
  rw [pinsAt_one eS] at J
  obtain ⟨_, p2, p3, p4, p5⟩ := J.pin (S, o) (List.mem_append_right _ (List.mem_append_left _ (List.mem_singleton.mpr rfl)))
  have J0 : Inv Z ip σ H s := J.pins_of fun p hp => J.pin p (List.mem_append_right _ (List.mem_append_right _ hp))
  have nS : ∀ b u, H b = some u → b ≠ S := fun b u e z => by
    rw [z] at e
    exact absurd (e.symm.trans p2) (by simp)
  have out : ∀ b, b ∉ [S] → b ≠ S := fun b hb z => hb (List.mem_singleton.mpr z)
  have un : Un (frs Z.stack) [S] H H s.heap h' := ⟨fun b u e _ _ hx => kp b u (out b hx) e, fun b u e _ _ hx => ⟨u.slots, kp b u (out b hx) e⟩, fun b u e n _ => n, fun b u e hx => ⟨u, kp b u (out b hx) e⟩, fun b xs e => e, fun b u v e => e, fun b ps e => ⟨#[], by rw [e]; simp⟩⟩
  have hk : HOk Z.prog Z.w H h' := fun b u e => by
    refine (J0.hok b u e).stay (fun d v hd y => kp d v ?_ y) (fun _ y => y) fun _ _ y => y
    rcases hd with z | z
    · rw [z]
      exact nS b u e
    · exact nS d _ z
  have J1 : Inv Z ip σ H { s with heap := h', toks := t' } := by
    refine Inv.call' (s' := { s with heap := h', toks := t' }) (ch := [S]) J0 rfl un hk J0.bare fun b hb => ?_
    rw [List.mem_singleton.mp hb]
    refine ⟨.inr hy, p3, fun x c e z => ?_, fun p hp z => ?_⟩
    · obtain ⟨v, ob, h1, h2⟩ := J0.cell x c e
      rw [z, eS] at h1
      cases h1
      exact p5 v h2
    · rcases List.mem_append.mp hp with q | q
      · exact hpn p q z
      · exact hip p q (List.mem_singleton.mpr z)
  rw [pinsAt_one ho]
  refine J1.pins_of fun p hp => ?_
  rcases List.mem_append.mp hp with q | q
  · rw [List.mem_singleton.mp q]
    exact ⟨ho, p2, p3, p4, hc⟩
  · exact J1.pin p (List.mem_append_right _ q)
/-- the taker holds the sum so far -/
def SumGh (S : Addr) : Shared → Int → Prop := fun s c => ∃ t n, s.heap.get? S = some { cls := .type "list", dict := none, data := .seq #[.int c t] n, slots := #[] }
def fits (i : Int) : Prop := -(2 ^ 63) ≤ i ∧ i < 2 ^ 63
/-- each item an int -/
def PSum : Int → V → Hp → (Int → Hp → Prop) → Prop := fun c y H Nx => ∃ i, y = .int i ∧ fits i ∧ fits (c + i) ∧ Nx (c + i) H
theorem sum_loop {A : Around} {QS : Int → Hp → Prop} {R : Result → Shared → Prop} (hh : A.handled = none) (hd : A.depth < recursionLimit) (hpin : ∃ go, (a, go) ∈ Z.pn ∧ ∀ h : Heap, h.get? a = some go → h.IsGen a gi) (hpn : ∀ p ∈ Z.pn, p.1 ≠ S) (hy : Z.s_0.heap.objs.size ≤ S)
    (hR : ∀ c t H s', Inv Z [] σ0 H s' → QS c H → R (.ok (.ret (.int c t))) s') :
    ∀ (n : Nat) (c : Int) (s : Shared), SumGh S s c → GSt Z (SumGh S) [S] σ0 PSum QS A.in1.in1 a gi n s → codeAny (model Z.prog Z.w) A (.builtin "sum.loop" ⟨[.ref a, .ref S, rawInt 0, rawInt 0], []⟩) R s := by
  have same : ∀ {s : Shared} {c c' : Int}, SumGh S s c → SumGh S s c' → c = c' := fun {s c c'} h g => by
    obtain ⟨t, n, e⟩ := h
    obtain ⟨t', n', e'⟩ := g
    rw [e] at e'
    injection e' with e'
    injection e' with _ _ e' _
    injection e' with e' _
    injection e' with e'
    injection e' with e' _
    injection e' with e' _
  intro n
  induction n with
  | zero =>
    intro c s gh G
    obtain ⟨t0, n0, eS⟩ := id gh
    refine codeAny_builtin F.entry_sum_loop ?_
    rw [Around.under_plainId F.plain_sum_loop _]
    show wpAny _ A.in1 (seqItems? (.ref S) >>= _) _ _ s
    refine wpAny_bind (wpAny_seqItems eS rfl ?_)
    show wpAny _ A.in1 (tryCatch (pyNext (.ref a)) _ >>= _) _ _ s
    refine wpAny_bind (wpAny_tryCatch (gen_next (A := A.in1) (fun s1 s2 c e g => by unfold SumGh at g ⊢; rw [e]; exact g) hh hd hpin G (fun c' y v ip σ H s' Nx gh' r J hip p k => ?_) (fun c' H s' gh' J q => ?_)))
    · obtain ⟨i, rfl, ⟨f1, f2⟩, ⟨f3, f4⟩, nx⟩ := p
      obtain rfl := same gh gh'
      obtain ⟨t, rfl⟩ := r
      have eS' : s'.heap.get? S = some { cls := .type "list", dict := none, data := .seq #[.int c t0] n0, slots := #[] } := (J.pin _ (List.mem_append_right _ (List.mem_append_left _ (by rw [pinsAt_one eS]; exact List.mem_singleton.mpr rfl)))).1
      have hc : ((decide (-(2 ^ 63) ≤ i) && decide (i < 2 ^ 63)) && (decide (-(2 ^ 63) ≤ c + i) && decide (c + i < 2 ^ 63))) = true := by
        simp only [Bool.and_eq_true, decide_eq_true_eq]
        exact ⟨⟨f1, f2⟩, f3, f4⟩
      show wpAny _ A.in1 (if (_ : Bool) = true then (mkInt (c + i) >>= _) else _) _ _ _
      split
      · refine wpAny_bind (wpAny_mkInt ?_)
        show wpAny _ A.in1 (updateSeq S (fun _ => #[.int (c + i) s'.toks]) >>= _) _ _ _
        refine wpAny_bind (wpAny_updateSeq eS' rfl (wpAny_pure ⟨plainId_quiet F.plain_sum_loop _, ?_⟩))
        have up := Heap.get?_update_self (h := s'.heap) (a := S) (Obj.mapSeq fun _ => #[.int (c + i) s'.toks]) eS' rfl
        have J0 : Inv Z (pinsAt [S] s'.heap ++ ip) σ H s' := by
          rw [pinsAt_one eS']
          rw [pinsAt_one eS] at J
          exact J
        have J' := z_own (t' := s'.toks + 1) J0 eS' hip hpn hy (h' := s'.heap.update S (Obj.mapSeq fun _ => #[.int (c + i) s'.toks])) (fun b u hb e => (Heap.get?_update_other _ _ (Ne.symm hb)).trans e) up (fun v z => by cases z)
        have g' : SumGh S { s' with heap := s'.heap.update S (Obj.mapSeq fun _ => #[.int (c + i) s'.toks]), toks := s'.toks + 1 } (c + i) := ⟨_, _, up⟩
        obtain ⟨m, e, G'⟩ := k _ (c + i) H J' g' nx rfl
        exact absurd e (by omega)
      · rename_i hneg
        exact absurd hc hneg
    · obtain rfl := same gh gh'
      refine wpAny_pure (hR c t0 H s' (J.pins_of fun p hp => absurd hp (by simp)) q)
  | succ n ih =>
    intro c s gh G
    obtain ⟨t0, n0, eS⟩ := id gh
    refine codeAny_builtin F.entry_sum_loop ?_
    rw [Around.under_plainId F.plain_sum_loop _]
    show wpAny _ A.in1 (seqItems? (.ref S) >>= _) _ _ s
    refine wpAny_bind (wpAny_seqItems eS rfl ?_)
    show wpAny _ A.in1 (tryCatch (pyNext (.ref a)) _ >>= _) _ _ s
    refine wpAny_bind (wpAny_tryCatch (gen_next (A := A.in1) (fun s1 s2 c e g => by unfold SumGh at g ⊢; rw [e]; exact g) hh hd hpin G (fun c' y v ip σ H s' Nx gh' r J hip p k => ?_) (fun c' H s' gh' J q => ?_)))
    · obtain ⟨i, rfl, ⟨f1, f2⟩, ⟨f3, f4⟩, nx⟩ := p
      obtain rfl := same gh gh'
      obtain ⟨t, rfl⟩ := r
      have eS' : s'.heap.get? S = some { cls := .type "list", dict := none, data := .seq #[.int c t0] n0, slots := #[] } := (J.pin _ (List.mem_append_right _ (List.mem_append_left _ (by rw [pinsAt_one eS]; exact List.mem_singleton.mpr rfl)))).1
      have hc : ((decide (-(2 ^ 63) ≤ i) && decide (i < 2 ^ 63)) && (decide (-(2 ^ 63) ≤ c + i) && decide (c + i < 2 ^ 63))) = true := by
        simp only [Bool.and_eq_true, decide_eq_true_eq]
        exact ⟨⟨f1, f2⟩, f3, f4⟩
      show wpAny _ A.in1 (if (_ : Bool) = true then (mkInt (c + i) >>= _) else _) _ _ _
      split
      · refine wpAny_bind (wpAny_mkInt ?_)
        show wpAny _ A.in1 (updateSeq S (fun _ => #[.int (c + i) s'.toks]) >>= _) _ _ _
        refine wpAny_bind (wpAny_updateSeq eS' rfl (wpAny_pure ⟨plainId_quiet F.plain_sum_loop _, ?_⟩))
        have up := Heap.get?_update_self (h := s'.heap) (a := S) (Obj.mapSeq fun _ => #[.int (c + i) s'.toks]) eS' rfl
        have J0 : Inv Z (pinsAt [S] s'.heap ++ ip) σ H s' := by
          rw [pinsAt_one eS']
          rw [pinsAt_one eS] at J
          exact J
        have J' := z_own (t' := s'.toks + 1) J0 eS' hip hpn hy (h' := s'.heap.update S (Obj.mapSeq fun _ => #[.int (c + i) s'.toks])) (fun b u hb e => (Heap.get?_update_other _ _ (Ne.symm hb)).trans e) up (fun v z => by cases z)
        have g' : SumGh S { s' with heap := s'.heap.update S (Obj.mapSeq fun _ => #[.int (c + i) s'.toks]), toks := s'.toks + 1 } (c + i) := ⟨_, _, up⟩
        obtain ⟨m, e, G'⟩ := k _ (c + i) H J' g' nx rfl
        obtain rfl : n = m := by omega
        exact ih (c + i) _ g' G'
      · rename_i hneg
        exact absurd hc hneg
    · obtain rfl := same gh gh'
      refine wpAny_pure (hR c t0 H s' (J.pins_of fun p hp => absurd hp (by simp)) q)
end
end Hd

set_option maxHeartbeats 4000000
namespace Hd
open PySem PySem.Spec PyProof.Rows L2 GenW
section
variable {X : Cx}
def tSumG (P : Addr) (wi : TI) (g : TG) (tt : TT) (te : TE) (vs : List Nat) : TE := fun σ H Q => wi σ H fun J H1 => GxR.TabG H1 P ∧ ∀ H2, GxR.Tabbed P H1 H2 → ∃ W : Int → Nat → Nat → Hp → Prop, (∃ m, W 0 0 m H2) ∧ GTurn σ vs g tt te J PSum (fun c => Q (.int c)) W
/-- the frame with the taker's new object -/
theorem z_new {Z : Cx} {σ : L2.St} {H : Hp} {s : Shared} {o : Obj} {tk : Nat} (J : Inv Z [] σ H s) (hf : (s.heap.push o).get? s.heap.objs.size = some o) (hc : ∀ v, o.data ≠ .cell v) : Inv Z (pinsAt [s.heap.objs.size] (s.heap.push o)) σ H { s with heap := s.heap.push o, toks := tk } := by
  have kp : ∀ b u, s.heap.get? b = some u → (s.heap.push o).get? b = some u := fun b u e => Heap.get?_push_of_some _ e
  have J1 : Inv Z [] σ H { s with heap := s.heap.push o, toks := tk } := Inv.call' (s' := { s with heap := s.heap.push o, toks := tk }) (ch := []) J rfl (Un.kept kp) (J.hok.kept kp) J.bare fun b hb => absurd hb (by simp)
  rw [pinsAt_one hf]
  refine J1.pins_of fun p hp => ?_
  rw [List.mem_singleton.mp hp]
  exact ⟨hf, J.hok.fresh (Nat.le_refl _), Nat.ne_of_gt J.lt, J.nofs (Nat.le_refl _), hc⟩
/-- sum(elt for tg in iter if ..), all of them ints -/
theorem pe_sumG {c P : Addr} {elt tg iter : Expr} {ifs : List Expr} {p pos gpos : Pos} {scope : Scope} {own : List (Str × Nat)} {wi : TI} {g : TG} {tt : TT} {te : TE} {k : Nat} (hr : Room (k + 1) X.A) (hg : Gl X "sum") (hm : X.mg "sum" = none) (TB : GxR.TabB X.base X.mg c P) (hcode : X.env.code = .ref c)
    (ok : GenOk X.N X.env.scope scope own) (hN : X.N.Nodup) (hi : PI X tg iter wi) (hpg : ∀ (A : Around) (s : Shared) (H : Hp) (code : Value) (fp : List Addr) (pn : List (Addr × Obj)), Room k A → PG (gx X A s H (gev X scope s.heap.objs.size code) fp pn) tg g)
    (hpt : ∀ (A : Around) (s : Shared) (H : Hp) (code : Value) (fp : List Addr) (pn : List (Addr × Obj)), Room k A → PTs (gx X A s H (gev X scope s.heap.objs.size code) fp pn) ifs tt) (hpe : ∀ (A : Around) (s : Shared) (H : Hp) (code : Value) (fp : List Addr) (pn : List (Addr × Obj)), Room k A → PE (gx X A s H (gev X scope s.heap.objs.size code) fp pn) elt te)
    (hs : ∀ v, genFold iter X.env v = pure v := by intro _; rfl) (hb : bootBuiltins "sum" = some (.builtin "sum") := by decide +kernel)
    (he : starEach [gExp elt tg iter ifs scope gpos] X.env = (false, eval (gExp elt tg iter ifs scope gpos) X.env) :: starEach [] X.env := by rfl) :
    PE X (.Call (.Name "sum" p) [gExp elt tg iter ifs scope gpos] [] pos) (tSumG P wi g tt te (own.map (·.2))) := by
  refine ⟨fun pins s σ H Q I h => ?_⟩
  refine wpAny_Call_Name_kw (ld_blt I hg hm hb ?_)
  refine PyProof.Rows.callWith_builtin1 ?_ he (by rfl)
  rw [he]
  show wpAny _ _ (spliced ((false, eval (gExp elt tg iter ifs scope gpos) X.env) :: backTo pos (starEach [] X.env))) _ _ s
  refine Calls.spliced_cons (gen_made hr TB hcode ok hN hi hs I h fun J H2 a s5 hR G => ?_)
  obtain ⟨W, ⟨m, w0⟩, turn⟩ := hR
  obtain ⟨it, fp, tn, s4, code, gi, go, I4, T, st, hf, haf, isg, ig5, nl5, gs5, nf, inv⟩ := G.go
  refine Calls.spliced_nil ?_
  refine call_function_tree F.kind_sum F.plain_sum F.entry_sum (F.args_sum1 _) ?_
  unfold Builtin.«sum»
  simp only [List.length_cons, List.length_nil]
  rw [if_neg (by decide)]
  refine wpAny_bind (wpAny_of_eq (show Builtin.Builtins.bindParams "sum" ["start"] 0 { } = pure [none] from rfl) ?_)
  refine wpAny_bind (wpAny_pyIter_gen ig5 (wpAny_bind (wpAny_mkInt (wpAny_bind (wpAny_pure ?_)))))
  simp only [List.forIn_cons, List.forIn_nil]
  refine wpAny_bind (wpAny_bind (wpAny_bind (wpAny_isInstance (T := "int") (b := false) (typeIs_int _ _ _) PySem.sub_int_str ?_)))
  simp only [Bool.false_eq_true, if_false]
  refine wpAny_pure (wpAny_bind (wpAny_bind (wpAny_isInstance (T := "int") (b := false) (typeIs_int _ _ _) PySem.sub_int_bytes ?_)))
  simp only [Bool.false_eq_true, if_false]
  refine wpAny_pure (wpAny_bind (wpAny_bind (wpAny_isInstance (T := "int") (b := false) (typeIs_int _ _ _) PySem.sub_int_bytearray ?_)))
  simp only [Bool.false_eq_true, if_false]
  refine wpAny_pure (wpAny_pure ?_)
  refine wpAny_bind (wpAny_newObj_type (wpAny_pure ⟨plainId_quiet F.plain_sum_loop _, ?_⟩))
  have fr : (X.A.in1.in1.over (.compLoop (gExp elt tg iter ifs scope gpos) 0 (.ref it) .none (gev X scope s4.heap.objs.size code)) []).frames = some (gev X scope s4.heap.objs.size code :: X.stack) := by
    have e : X.A.in1.in1.frames = some X.stack := I4.ok.frames
    unfold Around.over
    dsimp only
    rw [e] <;> rfl
  have rm := over_room (e := gExp elt tg iter ifs scope gpos) (it := .ref it) (acc := .none) (cenv := gev X scope s4.heap.objs.size code) hr rfl rfl
  have J5 := inv _ fr rm.hd
  have hl : ∀ n : Nat, ∀ t : Tok, ∀ v : Option Value, ({ cls := .type "list", dict := none, data := .seq #[.int 0 t] n, slots := #[] } : Obj).data ≠ .cell v := fun n t v z => by cases z
  -- the taker's list
  have ga : a < s5.heap.objs.size := by
    obtain ⟨o, nm, qn, e, _⟩ := ig5
    exact Heap.lt_size e
  have lt5 : ∀ b ∈ fp, b < s5.heap.objs.size := fun b hb => by
    obtain ⟨o, e, _⟩ := T.obj _ _ st b hb
    exact Heap.lt_size e
  have kp : ∀ (o : Obj) b u, s5.heap.get? b = some u → (s5.heap.push o).get? b = some u := fun o b u e => Heap.get?_push_of_some _ e
  have J6 := z_new (o := { cls := .type "list", dict := none, data := .seq #[.int 0 s5.toks] 0, slots := #[] }) (tk := s5.toks + 1) J5 (Heap.get?_push_size _ rfl) (hl _ _)
  have J7 := z_gens J6 (allBare_setGen (g := gi) (x := .running) J6.bare rfl)
  have g6 : SumGh s5.heap.objs.size { s5 with heap := s5.heap.push { cls := .type "list", dict := none, data := .seq #[.int 0 s5.toks] 0, slots := #[] }, toks := s5.toks + 1 } 0 := ⟨_, _, Heap.get?_push_size _ rfl⟩
  refine sum_loop (Z := gx X (X.A.in1.in1.over (.compLoop (gExp elt tg iter ifs scope gpos) 0 (.ref it) .none (gev X scope s4.heap.objs.size code)) []) s4 H2 (gev X scope s4.heap.objs.size code) fp [(a, go)]) (σ0 := wipe σ (own.map (·.2))) (QS := fun c => Q (.int c)) (S := s5.heap.objs.size) (gi := gi) hr.hd (by have := hr.dp; omega) ⟨go, List.mem_singleton.mpr rfl, isg⟩
    (fun p hp => by rw [List.mem_singleton.mp hp]; exact Nat.ne_of_lt ga) J5.sz (fun c t H' s' J q => ⟨.int c, H', z_back I4 hf J, ⟨t, rfl⟩, q⟩) (m + 1) 0 _ g6 ⟨ig5.keeps (kp _), nl5.keeps (kp _), _, gs5, rfl, ?_⟩
  refine seg_gs (fun A Q E hq => T.self A 0 _ Q E (T.keep _ _ _ st fun b _ o e => kp _ b o e) hq) ?_
  exact seg_gx (X := X) _ rfl ok.co T (hpg _ _ _ _ _ _ rm) (hpt _ _ _ _ _ _ rm) (hpe _ _ _ _ _ _ rm) turn (fun p hp => by rw [List.mem_singleton.mp hp]; exact haf) (fun b hb z => by rw [List.mem_singleton.mp hb] at z; exact Nat.lt_irrefl _ (lt5 _ z)) m (m + 1) 0 0 _ _ H2 (Nat.lt_succ_self _) g6 J7 (T.keep _ _ _ st fun b _ o e => kp _ b o e) nf w0
end
end Hd

set_option maxHeartbeats 4000000
/-! generator expressions: tuple -/
namespace Hd
open PySem PySem.Spec PyProof.Rows L2 GenW
abbrev lob (acc : Array Value) (n : Nat) : Obj := { cls := .type "list", dict := none, data := .seq acc n, slots := #[] }
section
variable {X Z : Cx} {pins ip : List (Addr × Obj)} {σ σ0 : L2.St} {H : Hp} {s : Shared} {a S : Addr} {gi : Nat}
/-- the taker holds what has come -/
def TupGh (S : Addr) : Shared → List V → Prop := fun s ys => ∃ acc n, s.heap.get? S = some (lob acc n) ∧ Vals ys acc.toList
def PTup : List V → V → Hp → (List V → Hp → Prop) → Prop := fun ys y H Nx => ys.length < sizeLine ∧ Nx (ys ++ [y]) H
theorem ext_loop {A : Around} {QT : List V → Hp → Prop} {R : Result → Shared → Prop} {res : Value} (hh : A.handled = none) (hd : A.depth < recursionLimit) (hpin : ∃ go, (a, go) ∈ Z.pn ∧ ∀ h : Heap, h.get? a = some go → h.IsGen a gi) (hpn : ∀ p ∈ Z.pn, p.1 ≠ S) (hy : Z.s_0.heap.objs.size ≤ S)
    (hR : ∀ ys acc n H s', Inv Z [] σ0 H s' → s'.heap.get? S = some (lob acc n) → Vals ys acc.toList → QT ys H → R (.ok (.ret res)) s') :
    ∀ (n : Nat) (s : Shared), GSt Z (TupGh S) [S] σ0 PTup QT A.in1.in1 a gi n s → codeAny (model Z.prog Z.w) A (.builtin "list.extend.loop" ⟨[.ref S, .ref a, res], []⟩) R s := by
  have gh0 : ∀ (s1 s2 : Shared) (c : List V), s2.heap = s1.heap → TupGh S s1 c → TupGh S s2 c := fun s1 s2 c e g => by
    unfold TupGh at g ⊢
    rw [e]
    exact g
  have endd : ∀ {s s' : Shared} {c : List V} {H : Hp}, TupGh S s c → Inv Z (pinsAt [S] s.heap) σ0 H s' → QT c H → R (.ok (.ret res)) s' := fun {s s' c H} gh J q => by
    obtain ⟨acc, n, e, r⟩ := gh
    rw [pinsAt_one e] at J
    exact hR c acc n H s' (J.pins_of fun p hp => absurd hp (by simp)) (J.pin _ (List.mem_append_right _ (List.mem_singleton.mpr rfl))).1 r q
  intro n
  induction n with
  | zero =>
    intro s G
    refine codeAny_builtin F.entry_extend_loop ?_
    rw [Around.under_plainId F.plain_extend_loop _]
    show wpAny _ A.in1 (pyNext (.ref a) >>= _) _ _ s
    refine wpAny_bind (gen_next (A := A.in1) gh0 hh hd hpin G (fun c y v ip σ H s' Nx gh r J hip p k => ?_) (fun c H s' gh J q => wpAny_pure (endd gh J q)))
    obtain ⟨acc, c0, eS, rv⟩ := gh
    obtain ⟨hz, nx⟩ := p
    have eS' : s'.heap.get? S = some (lob acc c0) := (J.pin _ (List.mem_append_right _ (List.mem_append_left _ (by rw [pinsAt_one eS]; exact List.mem_singleton.mpr rfl)))).1
    have hl := rv.length
    show wpAny _ A.in1 (updateSeq S (·.push v) >>= _) _ _ _
    refine wpAny_bind ?_
    refine wpAny_updateSeq eS' rfl (wpAny_pure ⟨plainId_quiet F.plain_extend_loop _, ?_⟩) (by rw [← Array.length_toList, ← hl]; exact Nat.le_of_lt hz) (by show (acc.push v).size ≤ sizeLine + 1; rw [Array.size_push, ← Array.length_toList, ← hl]; omega)
    have up := Heap.get?_update_self (h := s'.heap) (a := S) (Obj.mapSeq (·.push v)) eS' rfl
    have J0 : Inv Z (pinsAt [S] s'.heap ++ ip) σ H s' := by
      rw [pinsAt_one eS']
      rw [pinsAt_one eS] at J
      exact J
    have J' := z_own (t' := s'.toks) J0 eS' hip hpn hy (h' := s'.heap.update S (Obj.mapSeq (·.push v))) (fun b u hb e => (Heap.get?_update_other _ _ (Ne.symm hb)).trans e) up (fun v z => by cases z)
    have g' : TupGh S { s' with heap := s'.heap.update S (Obj.mapSeq (·.push v)) } (c ++ [y]) := ⟨_, _, up, by rw [Array.toList_push]; exact rv.append (.cons r .nil)⟩
    obtain ⟨m, e, G'⟩ := k _ (c ++ [y]) H J' g' nx rfl
    exact absurd e (by omega)
  | succ n ih =>
    intro s G
    refine codeAny_builtin F.entry_extend_loop ?_
    rw [Around.under_plainId F.plain_extend_loop _]
    show wpAny _ A.in1 (pyNext (.ref a) >>= _) _ _ s
    refine wpAny_bind (gen_next (A := A.in1) gh0 hh hd hpin G (fun c y v ip σ H s' Nx gh r J hip p k => ?_) (fun c H s' gh J q => wpAny_pure (endd gh J q)))
    obtain ⟨acc, c0, eS, rv⟩ := gh
    obtain ⟨hz, nx⟩ := p
    have eS' : s'.heap.get? S = some (lob acc c0) := (J.pin _ (List.mem_append_right _ (List.mem_append_left _ (by rw [pinsAt_one eS]; exact List.mem_singleton.mpr rfl)))).1
    have hl := rv.length
    show wpAny _ A.in1 (updateSeq S (·.push v) >>= _) _ _ _
    refine wpAny_bind ?_
    refine wpAny_updateSeq eS' rfl (wpAny_pure ⟨plainId_quiet F.plain_extend_loop _, ?_⟩) (by rw [← Array.length_toList, ← hl]; exact Nat.le_of_lt hz) (by show (acc.push v).size ≤ sizeLine + 1; rw [Array.size_push, ← Array.length_toList, ← hl]; omega)
    have up := Heap.get?_update_self (h := s'.heap) (a := S) (Obj.mapSeq (·.push v)) eS' rfl
    have J0 : Inv Z (pinsAt [S] s'.heap ++ ip) σ H s' := by
      rw [pinsAt_one eS']
      rw [pinsAt_one eS] at J
      exact J
    have J' := z_own (t' := s'.toks) J0 eS' hip hpn hy (h' := s'.heap.update S (Obj.mapSeq (·.push v))) (fun b u hb e => (Heap.get?_update_other _ _ (Ne.symm hb)).trans e) up (fun v z => by cases z)
    have g' : TupGh S { s' with heap := s'.heap.update S (Obj.mapSeq (·.push v)) } (c ++ [y]) := ⟨_, _, up, by rw [Array.toList_push]; exact rv.append (.cons r .nil)⟩
    obtain ⟨m, e, G'⟩ := k _ (c ++ [y]) H J' g' nx rfl
    obtain rfl : n = m := by omega
    exact ih _ G'
/-- the around of the frame, four calls deep -/
theorem over_room4 {k : Nat} {A : Around} {e : Expr} {it acc : Value} {cenv : Env} (hr : Room (k + 1) A) (hc : (Code.compLoop e 0 it acc cenv).weight = 1) (hu : (Code.compLoop e 0 it acc cenv).cUnits = 3) : Room k (A.in1.in1.in1.in1.over (.compLoop e 0 it acc cenv) []) := by
  have h1 : (A.in1.in1.in1.in1.over (.compLoop e 0 it acc cenv) []).depth = A.depth + (Code.compLoop e 0 it acc cenv).weight := rfl
  have h2 : (A.in1.in1.in1.in1.over (.compLoop e 0 it acc cenv) []).units = A.in1.in1.in1.in1.units + (Code.compLoop e 0 it acc cenv).cUnits := rfl
  have h3 : A.in1.in1.in1.in1.units = A.units + 1 + 1 + 1 + 1 := rfl
  have d := hr.dp
  have u := hr.un
  refine ⟨hr.hd, ?_, ?_⟩
  · rw [h1, hc]
    omega
  · rw [h2, hu, h3]
    omega
/-- the items, collected: start tells that the generator stands ready once the taker's list at S is there -/
theorem collect_gx {A : Around} {QT : List V → Hp → Prop} {Q : List Value → Shared → Prop} {E : Value → Shared → Prop} {n : Nat} (hh : A.handled = none) (hd : A.depth < recursionLimit) (hpin : ∃ go, (a, go) ∈ Z.pn ∧ ∀ h : Heap, h.get? a = some go → h.IsGen a gi) (hpn : ∀ p ∈ Z.pn, p.1 ≠ s.heap.objs.size) (hy : Z.s_0.heap.objs.size ≤ s.heap.objs.size)
    (isg : s.heap.IsGen a gi) (start : ∀ (h' : Heap) (m : Nat), (∀ b u, s.heap.get? b = some u → h'.get? b = some u) → h'.get? s.heap.objs.size = some (lob #[] m) → GSt Z (TupGh s.heap.objs.size) [s.heap.objs.size] σ0 PTup QT A.in1.in1 a gi n { s with heap := h' })
    (hR : ∀ ys acc m H s', Inv Z [] σ0 H s' → s'.heap.get? s.heap.objs.size = some (lob acc m) → Vals ys acc.toList → QT ys H → Q acc.toList s') : wpAny (model Z.prog Z.w) A (collect (.ref a)) Q E s := by
  have ha : a < s.heap.objs.size := by
    obtain ⟨o, nm, qn, e, _⟩ := isg
    exact Heap.lt_size e
  unfold collect
  refine wpAny_bind (wpAny_runValue (codeAny_builtin F.entry_proto_collect ?_))
  rw [Around.under_plainId F.plain_proto_collect _]
  show wpAny _ A.in1 (newList [] >>= fun l => again (.builtin "list.__iadd__" ⟨[l, .ref a], []⟩)) _ _ s
  refine wpAny_bind (wpAny_newObj_type ?_)
  refine wpAny_pure ⟨plainId_quiet F.plain_list_iadd _, codeAny_builtin F.entry_list_iadd ?_⟩
  rw [Around.under_plainId F.plain_list_iadd _]
  generalize hS : s.heap.objs.size = S at *
  have e1 : (s.heap.push (lob #[] 0)).get? S = some (lob #[] 0) := by
    rw [← hS]
    exact Heap.get?_push_size _ rfl
  have k1 : ∀ b u, s.heap.get? b = some u → (s.heap.push (lob #[] 0)).get? b = some u := fun b u e => Heap.get?_push_of_some _ e
  have ty : ∀ h : Heap, (∀ b u, s.heap.get? b = some u → h.get? b = some u) → Shared.TypeIs { s with heap := h } (.ref a) "generator" := fun h k => Heap.IsGen.typeIs (s := { s with heap := h }) (isg.keeps k)
  show wpAny _ A.in1 (Builtin.List.listExtendWith (.ref S) (.ref a) (.ref S)) _ _ { s with heap := s.heap.push (lob #[] 0) }
  unfold Builtin.List.listExtendWith
  refine wpAny_bind (wpAny_typeOf (ty _ k1) ?_)
  have h1 : Builtin.List.listSameRef (.ref S) (.ref a) = false := by simp [Builtin.List.listSameRef, Nat.ne_of_gt ha]
  have h2 : (Value.type "generator" == Value.type "list") = false := by decide
  have h3 : (Value.type "generator" == Value.type "tuple") = false := by decide
  simp only [h1, h2, h3, Bool.or_false, Bool.false_eq_true, if_false]
  refine wpAny_bind (wpAny_pyIter_gen (s := { s with heap := _ }) (isg.keeps k1) ?_)
  refine wpAny_bind (wpAny_holding ?_)
  unfold Builtin.List.listLengthHint
  refine wpAny_bind (wpAny_specialOf (ty _ k1) F.gen_no_len ?_)
  show wpAny _ A.in1 (specialOf (Value.ref a) (Str.ofString "__length_hint__") >>= _) _ _ _
  refine wpAny_bind (wpAny_specialOf (ty _ k1) F.gen_no_hint ?_)
  refine wpAny_pure ?_
  show wpAny _ A.in1 (rule "list.extend.makes-room" >>= fun _ => Builtin.List.listTouch (.ref S) >>= fun _ =>
    again (.builtin "list.extend.loop" ⟨[.ref S, .ref a, .ref S], []⟩)) _ _ _
  refine wpAny_bind (wpAny_rule ?_)
  refine wpAny_bind ?_
  show wpAny _ A.in1 (updateSeq S (·.push .none) >>= fun _ => updateSeq S (·.pop)) _ _ _
  refine wpAny_bind (wpAny_updateSeq e1 rfl ?_)
  have e2 := Heap.get?_update_self (Obj.mapSeq (·.push Value.none)) e1 rfl
  refine wpAny_updateSeq (hz := by seq_fits) e2 rfl ?_
  have e3 := Heap.get?_update_self (Obj.mapSeq (·.pop)) e2 rfl
  have far : ∀ b u, s.heap.get? b = some u → S ≠ b := fun b u e z => by
    have := Heap.lt_size e
    rw [hS, z] at this
    exact Nat.lt_irrefl _ this
  have k3 : ∀ b u, s.heap.get? b = some u → (((s.heap.push (lob #[] 0)).update S (Obj.mapSeq (·.push Value.none))).update S (Obj.mapSeq (·.pop))).get? b = some u := fun b u e =>
    (Heap.get?_update_other _ _ (far b u e)).trans ((Heap.get?_update_other _ _ (far b u e)).trans (k1 b u e))
  refine wpAny_pure ⟨plainId_quiet F.plain_extend_loop _, ?_⟩
  refine ext_loop (Z := Z) (σ0 := σ0) (QT := QT) (gi := gi) (S := S) (A := A) hh hd hpin hpn hy (fun ys acc m H s' J eS r q => ?_) n _ (start _ _ k3 e3)
  show wpAny _ A (load S >>= _) _ _ s'
  refine wpAny_bind (wpAny_load eS ?_)
  exact wpAny_pure (hR ys acc m H s' J eS r q)
end
end Hd

set_option maxHeartbeats 4000000
/-! generator expressions: tuple(..) as an expression -/
namespace Hd
open PySem PySem.Spec PyProof.Rows L2 GenW
section
variable {prog : Program} {w : World} {A : Around} {E : Value → Shared → Prop} {s : Shared} {a : Addr} {gi : Nat}
theorem tup_made {Q₁ : Value → Shared → Prop} (isg : s.heap.IsGen a gi) (hc : ∀ E', wpAny (model prog w) A.in1 (collect (.ref a)) (fun l s' => l.length ≤ sizeLine ∧ Q₁ (.ref s'.heap.objs.size) { s' with heap := s'.heap.push { cls := .type "tuple", data := .seq l.toArray } }) E' s) :
    codeAny (model prog w) A (.call (.builtin "tuple.__new__") ⟨[.type "tuple", .ref a], []⟩) (wants Q₁ E) s := by
  refine codeAny_of_tree ?_
  show wpAny _ A.in1 (do checkBuiltinCall "tuple.__new__" ⟨[.type "tuple", .ref a], []⟩; again (.builtin "tuple.__new__" ⟨[.type "tuple", .ref a], []⟩)) _ _ s
  refine wpAny_bind (wpAny_of_eq (F.newCall_tuple_1 _) (wpAny_pure ⟨plainId_quiet PySem.F.plain_tuple_new _, codeAny_builtin F.entry_tuple_new ?_⟩))
  rw [Around.under_plainId PySem.F.plain_tuple_new _]
  have hsub := sub_tuple_self
  have hinit := init_tuple_lookup
  have hmh := madeHere_tuple
  have hT : s.TypeIs (.ref a) "generator" := isg.typeIs
  have go : ∀ {Q : List Value → Shared → Prop} {E' : Value → Shared → Prop}, (∀ l s', l.length ≤ sizeLine → Q₁ (.ref s'.heap.objs.size) { s' with heap := s'.heap.push { cls := .type "tuple", data := .seq l.toArray } } → Q l s') → wpAny (model prog w) A.in1 (collect (.ref a)) Q E' s := fun {Q E'} k => wpAny_mono (hc E') (fun l s' h => k l s' h.1 h.2) fun _ _ e => e
  wp_walk using wpAny_typeOf hT, go
  intro l s' hz hq
  show wpAny _ _ (Builtin.Tuple.tupleExact l.toArray >>= fun v => ret v) _ _ _
  unfold Builtin.Tuple.tupleExact
  refine wpAny_bind (wpAny_newObj_type ?_ (by show l.toArray.size ≤ sizeLine; rw [List.size_toArray]; exact hz))
  exact wpAny_pure hq
theorem call_tup {Q : Value → Shared → Prop} (isg : s.heap.IsGen a gi) (hc : ∀ E', wpAny (model prog w) A.in1.in1 (collect (.ref a)) (fun l s' => l.length ≤ sizeLine ∧ Q (.ref s'.heap.objs.size) { s' with heap := s'.heap.push { cls := .type "tuple", data := .seq l.toArray } }) E' s) :
    wpAny (model prog w) A (call (.type "tuple") [.ref a]) Q E s := by
  refine callType_codes (Q₁ := fun obj s₁ => s₁.TypeIs obj "tuple" ∧ Q obj s₁) F.called_tuple (F.typeCall_tuple_1 _) F.entry_object_init
    (tup_made isg fun E' => wpAny_mono (hc E') (fun l s' h => ⟨h.1, ⟨_, Heap.get?_push_size _ rfl, rfl⟩, h.2⟩) fun _ _ e => e) fun obj s₁ h₁ => ?_
  exact ⟨h₁.1, F.args_object_init_2 obj _, object_init_meets F.called_tuple.init.lookup F.called_tuple.made (by decide) prog w A.in1 _ s₁ ⟨h₁.1, rfl, h₁.2⟩⟩
end
end Hd

set_option maxHeartbeats 4000000
namespace Hd
open PySem PySem.Spec PyProof.Rows L2 GenW
section
variable {X : Cx}
def tTupG (P : Addr) (wi : TI) (g : TG) (tt : TT) (te : TE) (vs : List Nat) : TE := fun σ H Q => wi σ H fun J H1 => GxR.TabG H1 P ∧ ∀ H2, GxR.Tabbed P H1 H2 → ∃ W : List V → Nat → Nat → Hp → Prop, (∃ m, W [] 0 m H2) ∧ GTurn σ vs g tt te J PTup (fun ys H => ys.length ≤ sizeLine ∧ ∀ p, H p = none → Q (.ref p) (upd H p (.tup ys))) W
theorem z_new2 {Z : Cx} {σ : L2.St} {H : Hp} {s : Shared} {h' : Heap} {o : Obj} (J : Inv Z [] σ H s) (kp : ∀ b u, s.heap.get? b = some u → h'.get? b = some u) (hf : h'.get? s.heap.objs.size = some o) (hc : ∀ v, o.data ≠ .cell v) : Inv Z (pinsAt [s.heap.objs.size] h') σ H { s with heap := h' } := by
  have J1 : Inv Z [] σ H { s with heap := h' } := Inv.call' (s' := { s with heap := h' }) (ch := []) J rfl (Un.kept kp) (J.hok.kept kp) J.bare fun b hb => absurd hb (by simp)
  rw [pinsAt_one hf]
  refine J1.pins_of fun p hp => ?_
  rw [List.mem_singleton.mp hp]
  exact ⟨hf, J.hok.fresh (Nat.le_refl _), Nat.ne_of_gt J.lt, J.nofs (Nat.le_refl _), hc⟩
/-- tuple(elt for tg in iter if ..) -/
theorem pe_tupG {c P : Addr} {elt tg iter : Expr} {ifs : List Expr} {p pos gpos : Pos} {scope : Scope} {own : List (Str × Nat)} {wi : TI} {g : TG} {tt : TT} {te : TE} {k : Nat} (hr : Room (k + 1) X.A) (hg : Gl X "tuple") (hm : X.mg "tuple" = none) (TB : GxR.TabB X.base X.mg c P) (hcode : X.env.code = .ref c)
    (ok : GenOk X.N X.env.scope scope own) (hN : X.N.Nodup) (hi : PI X tg iter wi) (hpg : ∀ (A : Around) (s : Shared) (H : Hp) (code : Value) (fp : List Addr) (pn : List (Addr × Obj)), Room k A → PG (gx X A s H (gev X scope s.heap.objs.size code) fp pn) tg g)
    (hpt : ∀ (A : Around) (s : Shared) (H : Hp) (code : Value) (fp : List Addr) (pn : List (Addr × Obj)), Room k A → PTs (gx X A s H (gev X scope s.heap.objs.size code) fp pn) ifs tt) (hpe : ∀ (A : Around) (s : Shared) (H : Hp) (code : Value) (fp : List Addr) (pn : List (Addr × Obj)), Room k A → PE (gx X A s H (gev X scope s.heap.objs.size code) fp pn) elt te)
    (hs : ∀ v, genFold iter X.env v = pure v := by intro _; rfl) (hb : bootBuiltins "tuple" = some (.type "tuple") := by decide +kernel)
    (he : starEach [gExp elt tg iter ifs scope gpos] X.env = (false, eval (gExp elt tg iter ifs scope gpos) X.env) :: starEach [] X.env := by rfl) :
    PE X (.Call (.Name "tuple" p) [gExp elt tg iter ifs scope gpos] [] pos) (tTupG P wi g tt te (own.map (·.2))) := by
  refine ⟨fun pins s σ H Q I h => ?_⟩
  refine wpAny_Call_Name_kw (ld_blt I hg hm hb ?_)
  refine PyProof.Rows.callWith_type1 ?_ he (by rfl)
  rw [he]
  show wpAny _ _ (spliced ((false, eval (gExp elt tg iter ifs scope gpos) X.env) :: backTo pos (starEach [] X.env))) _ _ s
  refine Calls.spliced_cons (gen_made hr TB hcode ok hN hi hs I h fun J H2 a s5 hR G => ?_)
  obtain ⟨W, ⟨m, w0⟩, turn⟩ := hR
  obtain ⟨it, fp, tn, s4, code, gi, go, I4, T, st, hf, haf, isg, ig5, nl5, gs5, nf, inv⟩ := G.go
  refine Calls.spliced_nil ?_
  have fr : (X.A.in1.in1.in1.in1.over (.compLoop (gExp elt tg iter ifs scope gpos) 0 (.ref it) .none (gev X scope s4.heap.objs.size code)) []).frames = some (gev X scope s4.heap.objs.size code :: X.stack) := by
    have e : X.A.in1.in1.in1.in1.frames = some X.stack := I4.ok.frames
    unfold Around.over
    dsimp only
    rw [e] <;> rfl
  have rm := over_room4 (e := gExp elt tg iter ifs scope gpos) (it := .ref it) (acc := .none) (cenv := gev X scope s4.heap.objs.size code) hr rfl rfl
  have J5 := inv _ fr rm.hd
  have ga : a < s5.heap.objs.size := by
    obtain ⟨o, nm, qn, e, _⟩ := ig5
    exact Heap.lt_size e
  have lt5 : ∀ b ∈ fp, b < s5.heap.objs.size := fun b hb => by
    obtain ⟨o, e, _⟩ := T.obj _ _ st b hb
    exact Heap.lt_size e
  refine call_tup ig5 fun E' => ?_
  refine collect_gx (Z := gx X (X.A.in1.in1.in1.in1.over (.compLoop (gExp elt tg iter ifs scope gpos) 0 (.ref it) .none (gev X scope s4.heap.objs.size code)) []) s4 H2 (gev X scope s4.heap.objs.size code) fp [(a, go)]) (A := X.A.in1.in1) (σ0 := wipe σ (own.map (·.2))) (QT := fun ys H => ys.length ≤ sizeLine ∧ ∀ p, H p = none → Q (.ref p) (upd H p (.tup ys))) (gi := gi) (n := m + 1) hr.hd (by have := hr.dp; show X.A.depth < _; omega) ⟨go, List.mem_singleton.mpr rfl, isg⟩
    (fun p hp => by rw [List.mem_singleton.mp hp]; exact Nat.ne_of_lt ga) J5.sz ig5 (fun h' mm kp eS => ?_) (fun ys acc mm H' s' J _ r q => ?_)
  · have J6 := z_new2 J5 kp eS (fun v z => by cases z)
    have J7 := z_gens J6 (allBare_setGen (g := gi) (x := .running) J6.bare rfl)
    have g6 : TupGh s5.heap.objs.size { s5 with heap := h' } [] := ⟨_, _, eS, .nil⟩
    refine ⟨ig5.keeps kp, nl5.keeps kp, _, gs5, rfl, ?_⟩
    refine seg_gs (fun A Q E hq => T.self A 0 _ Q E (T.keep _ _ _ st fun b _ o e => kp b o e) hq) ?_
    exact seg_gx (X := X) _ rfl ok.co T (hpg _ _ _ _ _ _ rm) (hpt _ _ _ _ _ _ rm) (hpe _ _ _ _ _ _ rm) turn (fun p hp => by rw [List.mem_singleton.mp hp]; exact haf) (fun b hb z => by rw [List.mem_singleton.mp hb] at z; exact Nat.lt_irrefl _ (lt5 _ z)) m (m + 1) 0 [] _ _ H2 (Nat.lt_succ_self _) g6 J7 (T.keep _ _ _ st fun b _ o e => kp b o e) nf w0
  · have I6 := z_back I4 hf J
    obtain ⟨hz, hq⟩ := q
    refine ⟨by rw [← r.length]; exact hz, .ref s'.heap.objs.size, upd H' s'.heap.objs.size (.tup ys), I6.laid (t' := s'.toks) (fun b u e => Heap.get?_push_of_some _ e) (Nat.le_refl _) ⟨hz, acc.toList, r, ⟨_, Heap.get?_push_size _ rfl, rfl, _, rfl⟩⟩, rfl, hq _ (I6.hok.fresh (Nat.le_refl _))⟩
end
end Hd

set_option maxHeartbeats 4000000
namespace Hd
open PySem PySem.Spec PyProof.Rows L2
/-- the turns over a tuple -/
theorem gt_tup {C : Type} {K : PySem.W.Frag} {a : Addr} {xs : List V} {σ : L2.St} {vs : List Nat} {g : TG} {tt : TT} {te : TE} {P : C → V → Hp → (C → Hp → Prop) → Prop} {Z0 : C → Hp → Prop} (Pv : C → Nat → Hp → Prop) (hl : ∀ c i H, i ≤ xs.length → Pv c i H → SqT K H a xs)
    (hs : ∀ c i x H, xs[i]? = some x → Pv c i H → g x (wipe σ vs) H fun σ2 H2 => wipe σ2 vs = wipe σ vs ∧ tt σ2 H2 fun b H3 => if b = true then te σ2 H3 fun y H4 => P c y H4 (fun c' H' => Pv c' (i + 1) H') else Pv c (i + 1) H3) (hd : ∀ c H, Pv c xs.length H → Z0 c H) {c0 : C} {H0 : Hp} (h0 : Pv c0 0 H0) :
    ∃ W : C → Nat → Nat → Hp → Prop, (∃ m, W c0 0 m H0) ∧ GTurn σ vs g tt te (Itt K a) P Z0 W := by
  refine ⟨fun c i m H => m = xs.length - i ∧ i ≤ xs.length ∧ Pv c i H, ⟨xs.length, by simp, Nat.zero_le _, h0⟩, ?_⟩
  rintro c i m H ⟨em, hi, p⟩
  have q := hl c i H hi p
  by_cases lt : i < xs.length
  · refine .inr ⟨⟨xs, xs[i], q, List.getElem?_eq_getElem lt⟩, fun c' H' => Pv c' (i + 1) H', fun c' H' p' => ⟨m - 1, by omega, by omega, lt, p'⟩, ?_⟩
    rintro x H' ⟨rfl, at_⟩
    exact hs c i x _ (at_ xs q) p
  · have e : i = xs.length := by omega
    subst e
    exact .inl ⟨⟨xs, q, Nat.le_refl _⟩, hd c H p⟩
end Hd

set_option maxHeartbeats 4000000
/-! generator expressions of two clauses -/
namespace Hd
open PySem PySem.Spec PyProof.Rows L2 GenW
abbrev gExp2 (elt tg iter tg2 iter2 : Expr) (ifs ifs2 : List Expr) (scope : Scope) (pos : Pos) : Expr := .GeneratorExp elt [⟨tg, iter, ifs, 0⟩, ⟨tg2, iter2, ifs2, 0⟩] scope pos
section
variable {elt tg iter tg2 iter2 : Expr} {ifs ifs2 : List Expr} {scope : Scope} {pos : Pos}
theorem turn_in (it acc : Value) (env : Env) : compTurn (gExp2 elt tg iter tg2 iter2 ifs ifs2 scope pos) 1 it acc env = (do
      standAt iter2.pos
      match ← pyNext it with
      | none => pure (.done .next)
      | some v =>
        letOwnedTupleGo tg2 it v
        assign tg2 env v
        let mut go := true
        for q in ifs2 do
          if go then go ← isTrue q env (eval q env)
        if go then
          (do let z ← eval elt env; standAt elt.pos; let _ ← yieldOut env z)
        again (.compLoop (gExp2 elt tg iter tg2 iter2 ifs ifs2 scope pos) 1 it acc env)) := by rfl
theorem turn_out (it acc : Value) (env : Env) : compTurn (gExp2 elt tg iter tg2 iter2 ifs ifs2 scope pos) 0 it acc env = (do
      standAt iter.pos
      match ← pyNext it with
      | none => pure (.done .next)
      | some v =>
        letOwnedTupleGo tg it v
        assign tg env v
        let mut go := true
        for q in ifs do
          if go then go ← isTrue q env (eval q env)
        if go then
          let x ← eval iter2 env
          standAt iter2.pos
          let x ← foldedSetIterable iter2 env x
          let _ ← runOwn (.compStart (gExp2 elt tg iter tg2 iter2 ifs ifs2 scope pos) 1 (← holding [x] (pyIter x)) acc env) env
        again (.compLoop (gExp2 elt tg iter tg2 iter2 ifs ifs2 scope pos) 0 it acc env)) := by rfl
end
section
variable {C : Type} {Gh : Shared → C → Prop} {Ss : List Addr} {Z : Cx} {B : Around} {cenv : Env} {elt tg iter tg2 iter2 : Expr} {ifs ifs2 : List Expr} {scope : Scope} {pos : Pos} {it2 : Addr} {fs : List Frame} {R : GenEnd} {P : C → V → Hp → (C → Hp → Prop) → Prop} {g : TG} {tt : TT} {te : TE} {J : It} {fp : List Addr} {tn : Nat → Heap → Prop} {σ0 : L2.St} {vs : List Nat} {ip1 : List (Addr × Obj)} {W : C → Nat → Nat → Hp → Prop} {Z2 : C → Nat → Hp → Prop}
/-- one turn of the inner loop; at its end the measure is told on -/
def GTurn2 {C : Type} (σ : L2.St) (vs : List Nat) (g : TG) (tt : TT) (te : TE) (J : It) (P : C → V → Hp → (C → Hp → Prop) → Prop) (Z2 : C → Nat → Hp → Prop) (W : C → Nat → Nat → Hp → Prop) : Prop := ∀ c i m H, W c i m H →
  (J.stop i H ∧ Z2 c m H) ∨ (J.go i H ∧ ∃ Nx : C → Hp → Prop, (∀ c' H', Nx c' H' → ∃ m', m' < m ∧ W c' (i + 1) m' H') ∧ ∀ x H', J.yld i H x H' → g x (wipe σ vs) H' fun σ2 H2 => wipe σ2 vs = wipe σ vs ∧ tt σ2 H2 fun b H3 => if b = true then te σ2 H3 fun y H4 => P c y H4 Nx else Nx c H3)
theorem seg_in (hA : B.over (.compLoop (gExp2 elt tg iter tg2 iter2 ifs ifs2 scope pos) 1 (.ref it2) .none cenv) fs = Z.A) (hfs : splitAtGen fs = none) (hfg : fs.any Frame.guarded = false) (hp4 : Z.env = cenv) (hp5 : Z.calm = true) (hp8 : Z.xe = fun _ _ => False) (hco : cenv.scope.isCoroutine = false)
    (T : Turn Z.prog Z.w Z.K tg2 J fp it2 tn) (hfp : ∀ (H : Hp) (hp : Heap), (∀ b ∈ fp, H b = none) → ∀ b ∈ fp, FpOk Z (pinsAt Ss hp ++ ip1) H b) (hSs : ∀ p ∈ ip1, p.1 ∉ Ss) (hSf : ∀ b ∈ fp, b ∉ Ss) (pg : PG Z tg2 g) (pt : PTs Z ifs2 tt) (pe : PE Z elt te) (turn : GTurn2 σ0 vs g tt te J P Z2 W)
    (tail : ∀ (n : Nat) (s₀ s : Shared) (c : C) (m : Nat) (H : Hp), m < n → Gh s₀ c → Inv Z (pinsAt Ss s₀.heap ++ ip1) (wipe σ0 vs) H s → Z2 c m H → Seg (model Z.prog Z.w) B R (GYld Z Gh Ss P) n s₀ (.compLoop (gExp2 elt tg iter tg2 iter2 ifs ifs2 scope pos) 1 (.ref it2) .none cenv) (leafOf (.ok .next)) fs s) :
    ∀ (m n i : Nat) (c : C) (s₀ s : Shared) (H : Hp), m < n → Gh s₀ c → Inv Z (pinsAt Ss s₀.heap ++ ip1) (wipe σ0 vs) H s → tn i s.heap → (∀ b ∈ fp, H b = none) → W c i m H →
      Seg (model Z.prog Z.w) B R (GYld Z Gh Ss P) n s₀ (.compLoop (gExp2 elt tg iter tg2 iter2 ifs ifs2 scope pos) 1 (.ref it2) .none cenv) ((model Z.prog Z.w).den (.compLoop (gExp2 elt tg iter tg2 iter2 ifs ifs2 scope pos) 1 (.ref it2) .none cenv)) fs s := by
  intro m
  induction m using Nat.strongRecOn with
  | _ m ih =>
    intro n i c s₀ s H hmn gh I st nf w
    show Seg _ B _ _ n s₀ _ ((compTurn (gExp2 elt tg iter tg2 iter2 ifs ifs2 scope pos) 1 (.ref it2) .none cenv).onRaise _) fs s
    rw [turn_in, Sem.onRaise_eq_wrap]
    refine seg_bind_wrap (wpAny_standAt ?_)
    rcases turn c i m H w with ⟨stop, hz⟩ | ⟨go, Nx, hNx, step⟩
    · have td := T.done Z rfl rfl rfl hp5 i _ s _ H (fun _ _ => False) I (hfp H _ nf) st stop
      rw [← hA] at td
      refine seg_bind_wrap (wpAny_mono td (fun r s6 hr => ?_) fun _ _ e => e.elim)
      obtain ⟨rfl, I6⟩ := hr
      exact tail n s₀ s6 c m H hmn gh I6 hz
    · have ti := T.item Z rfl rfl rfl hp5 i _ s _ H (fun _ _ => False) I (hfp H _ nf) st go
      rw [← hA] at ti
      refine seg_bind_wrap (wpAny_mono ti (fun r s6 hr => ?_) fun _ _ e => e.elim)
      obtain ⟨u, rfl, h6⟩ := hr
      refine seg_bind_wrap (wpAny_mono h6 (fun _ s7 h7 => ?_) fun _ _ e => e.elim)
      obtain ⟨x, H7, I7, r7, y7, st7, n7⟩ := h7
      have I7' := I7.pinned (hfp H7 _ n7) (T.obj _ _ st7)
      have go8 := pg.run _ s7 _ H7 x u _ I7' r7 (step x H7 y7)
      rw [hp4, hp8, ← hA] at go8
      refine seg_bind_wrap (wpAny_mono go8 (fun _ s8 h8 => ?_) fun _ _ e => e.elim)
      obtain ⟨σ8, H8, I8, hw8, q8⟩ := h8
      have go9 := pt.run _ s8 σ8 H8 _ I8 q8
      rw [hp4, hp8, ← hA] at go9
      refine seg_bind_wrap (wpAny_mono go9 (fun b s9 h9 => ?_) fun _ _ e => e.elim)
      obtain ⟨H9, I9, q9⟩ := h9
      have fin : ∀ {s₀' s' : Shared} {c' : C} {H' : Hp} {n' : Nat}, m ≤ n' → Gh s₀' c' → Inv Z (pinsAt Ss s₀'.heap ++ (ip1 ++ pinsAt fp s7.heap)) σ8 H' s' → Nx c' H' → Seg (model Z.prog Z.w) B R (GYld Z Gh Ss P) n' s₀' (.compLoop (gExp2 elt tg iter tg2 iter2 ifs ifs2 scope pos) 1 (.ref it2) .none cenv) (.pure (.again (.compLoop (gExp2 elt tg iter tg2 iter2 ifs ifs2 scope pos) 1 (.ref it2) .none cenv))) fs s' := fun {s₀' s' c' H' n'} hm gh' I' nx => by
        obtain ⟨m', hm', w'⟩ := hNx c' H' nx
        rw [← List.append_assoc] at I'
        have pin' : ∀ b ∈ fp, ∀ o, s7.heap.get? b = some o → s'.heap.get? b = some o ∧ H' b = none := fun b hb o e =>
          let z := I'.pin (b, o) (List.mem_append_right _ (List.mem_append_right _ (mem_pinsAt hb e)))
          ⟨z.1, z.2.1⟩
        have hl : (wipe σ0 vs).length = σ8.length := by rw [← hw8, wipe_length]
        refine seg_again rfl (ih m' hm' n' (i + 1) c' s₀' s' H' (by omega) gh' ((I'.unpinned (pins := pinsAt Ss s₀'.heap ++ ip1)).weak hl (fun j v e => ?_)) (T.keep _ _ _ st7 fun b hb o e => (pin' b hb o e).1) (fun b hb => ?_) w')
        · rw [← hw8] at e
          exact (wipe_some e).1
        · obtain ⟨o, e, _⟩ := T.obj _ _ st7 b hb
          exact (pin' b hb o e).2
      cases b with
      | false =>
        simp only [Bool.false_eq_true, if_false] at q9 ⊢
        rw [List.append_assoc] at I9
        exact fin (Nat.le_of_lt hmn) gh I9 q9
      | true =>
        simp only [if_true] at q9 ⊢
        have plain : ∀ v, yieldOut cenv v = yieldValue v := fun v => by
          unfold yieldOut
          rw [hco, if_neg (by decide)]
        simp only [plain]
        rw [Sem.bind_eq_wrap', Sem.bind_eq_wrap', Sem.wrap_wrap, Sem.wrap_wrap]
        have go10 := pe.run _ s9 σ8 H9 _ I9 q9
        rw [hp4, hp8, ← hA] at go10
        refine seg_wrap (wpAny_mono go10 (fun v s10 h10 => ?_) fun _ _ e => e.elim)
        obtain ⟨y, H10, I10, r10, q10⟩ := h10
        rw [List.append_assoc] at I10
        obtain ⟨n', rfl⟩ : ∃ n', n = n' + 1 := ⟨n - 1, by omega⟩
        refine seg_at (seg_yield hfs rfl hfg ⟨c, y, σ8, H10, _, Nx, gh, r10, I10, fun p hp => ?_, q10, fun s' c' H' I' gh' nx => fin (by omega) gh' I' nx⟩)
        rcases List.mem_append.mp hp with q | q
        · exact hSs p q
        · exact hSf _ (of_pinsAt q).1
end
end Hd

set_option maxHeartbeats 4000000
namespace Hd
open PySem PySem.Spec PyProof.Rows L2 GenW
section
variable {C : Type} {Gh : Shared → C → Prop} {Ss : List Addr} {X : Cx} {B : Around} {s0 : Shared} {H0 : Hp} {cenv : Env} {fp : List Addr} {pn : List (Addr × Obj)} {elt tg iter tg2 iter2 : Expr} {ifs ifs2 : List Expr} {scope : Scope} {pos : Pos} {it : Addr} {σ0 : L2.St} {vs vs2 : List Nat} {g g2 : TG} {tt tt2 : TT} {te : TE} {J : It} {wi2 : TI} {tn : Nat → Heap → Prop} {P : C → V → Hp → (C → Hp → Prop) → Prop} {Z0 : C → Hp → Prop} {W : C → Nat → Nat → Hp → Prop}
/-- one turn of the outer loop -/
def GTurnO {C : Type} (σ : L2.St) (vs : List Nat) (g : TG) (tt : TT) (wi2 : TI) (vs2 : List Nat) (g2 : TG) (tt2 : TT) (te : TE) (J : It) (P : C → V → Hp → (C → Hp → Prop) → Prop) (Z0 : C → Hp → Prop) (W : C → Nat → Nat → Hp → Prop) : Prop := ∀ c i m H, W c i m H →
  (J.stop i H ∧ Z0 c H) ∨ (J.go i H ∧ ∀ x H', J.yld i H x H' → g x (wipe σ vs) H' fun σ2 H2 => wipe σ2 vs = wipe σ vs ∧ tt σ2 H2 fun b H3 => if b = true then wi2 σ2 H3 fun J2 H4 => ∃ W2 : C → Nat → Nat → Hp → Prop, (∃ m', m' < m ∧ W2 c 0 m' H4) ∧ GTurn2 σ2 vs2 g2 tt2 te J2 P (fun c' m' H' => m' < m ∧ W c' (i + 1) m' H') W2 else ∃ m', m' < m ∧ W c (i + 1) m' H3)
theorem seg_out (Z : Cx) (hZ : Z = gx X (B.over (.compLoop (gExp2 elt tg iter tg2 iter2 ifs ifs2 scope pos) 0 (.ref it) .none cenv) []) s0 H0 cenv fp pn) (hco : cenv.scope.isCoroutine = false) (hs2 : ∀ x, foldedSetIterable iter2 cenv x = pure x) (T : Turn X.prog X.w X.K tg J fp it tn) (pg : PG Z tg g) (pt : PTs Z ifs tt) (pi2 : PI Z tg2 iter2 wi2) (pg2 : PG Z tg2 g2) (pt2 : PTs Z ifs2 tt2) (pe : PE Z elt te)
    (turn : GTurnO σ0 vs g tt wi2 vs2 g2 tt2 te J P Z0 W) (hpn : ∀ p ∈ pn, p.1 ∉ fp) (hSs : ∀ b ∈ Ss, b ∉ fp) (hGS : ∀ s c, Gh s c → ∀ b ∈ Ss, ∃ o, s.heap.get? b = some o) (hvs : ∀ σ : L2.St, wipe (wipe σ vs2) vs = wipe σ vs) :
    ∀ (m n i : Nat) (c : C) (s₀ s : Shared) (H : Hp), m < n → Gh s₀ c → Inv Z (pinsAt Ss s₀.heap) (wipe σ0 vs) H s → tn i s.heap → (∀ b ∈ fp, H b = none) → W c i m H →
      Seg (model Z.prog Z.w) B (GEnd Z Gh Ss (wipe σ0 vs) Z0) (GYld Z Gh Ss P) n s₀ (.compLoop (gExp2 elt tg iter tg2 iter2 ifs ifs2 scope pos) 0 (.ref it) .none cenv) ((model Z.prog Z.w).den (.compLoop (gExp2 elt tg iter tg2 iter2 ifs ifs2 scope pos) 0 (.ref it) .none cenv)) [] s := by
  subst hZ
  have stat : ∀ {hp : Heap} {σ' : L2.St} {H' : Hp} {s' : Shared}, Inv (gx X (B.over (.compLoop (gExp2 elt tg iter tg2 iter2 ifs ifs2 scope pos) 0 (.ref it) .none cenv) []) s0 H0 cenv fp pn) (pinsAt Ss hp) σ' H' s' → (∀ b ∈ fp, H' b = none) → ∀ b ∈ fp, FpOk (gx X (B.over (.compLoop (gExp2 elt tg iter tg2 iter2 ifs ifs2 scope pos) 0 (.ref it) .none cenv) []) s0 H0 cenv fp pn) (pinsAt Ss hp) H' b := fun {hp σ' H' s'} I' hn b hb => by
    refine ⟨hn b hb, (I'.ok.exf b hb).1, I'.ok.exfs b hb, .inl hb, fun x c e => (I'.ok.exf b hb).2 x c e, fun p hq z => ?_⟩
    rcases List.mem_append.mp hq with q | q
    · exact hpn p q (by rw [z]; exact hb)
    · exact hSs p.1 (of_pinsAt q).1 (by rw [z]; exact hb)
  have T' : Turn (gx X (B.over (.compLoop (gExp2 elt tg iter tg2 iter2 ifs ifs2 scope pos) 0 (.ref it) .none cenv) []) s0 H0 cenv fp pn).prog (gx X (B.over (.compLoop (gExp2 elt tg iter tg2 iter2 ifs ifs2 scope pos) 0 (.ref it) .none cenv) []) s0 H0 cenv fp pn).w (gx X (B.over (.compLoop (gExp2 elt tg iter tg2 iter2 ifs ifs2 scope pos) 0 (.ref it) .none cenv) []) s0 H0 cenv fp pn).K tg J fp it tn := T
  clear T
  generalize hZ : gx X (B.over (.compLoop (gExp2 elt tg iter tg2 iter2 ifs ifs2 scope pos) 0 (.ref it) .none cenv) []) s0 H0 cenv fp pn = Z at *
  have hAo : B.over (.compLoop (gExp2 elt tg iter tg2 iter2 ifs ifs2 scope pos) 0 (.ref it) .none cenv) [] = Z.A := by rw [← hZ] <;> rfl
  have hp4 : Z.env = cenv := by rw [← hZ] <;> rfl
  have hp5 : Z.calm = true := by rw [← hZ] <;> rfl
  have hp8 : Z.xe = fun _ _ => False := by rw [← hZ] <;> rfl
  intro m
  induction m using Nat.strongRecOn with
  | _ m ih =>
    intro n i c s₀ s H hmn gh I st nf w
    show Seg _ B _ _ n s₀ _ ((compTurn (gExp2 elt tg iter tg2 iter2 ifs ifs2 scope pos) 0 (.ref it) .none cenv).onRaise _) [] s
    rw [turn_out, Sem.onRaise_eq_wrap]
    refine seg_bind_wrap (wpAny_standAt ?_)
    rcases turn c i m H w with ⟨stop, hz⟩ | ⟨go, step⟩
    · have td := T'.done Z rfl rfl rfl hp5 i _ s _ H (fun _ _ => False) I (stat I nf) st stop
      rw [← hAo] at td
      refine seg_bind_wrap (wpAny_mono td (fun r s6 hr => ?_) fun _ _ e => e.elim)
      obtain ⟨rfl, I6⟩ := hr
      exact seg_end (.ok .next) (.inl ⟨.inr rfl, c, H, gh, I6, hz⟩)
    · have ti := T'.item Z rfl rfl rfl hp5 i _ s _ H (fun _ _ => False) I (stat I nf) st go
      rw [← hAo] at ti
      refine seg_bind_wrap (wpAny_mono ti (fun r s6 hr => ?_) fun _ _ e => e.elim)
      obtain ⟨u, rfl, h6⟩ := hr
      refine seg_bind_wrap (wpAny_mono h6 (fun _ s7 h7 => ?_) fun _ _ e => e.elim)
      obtain ⟨x, H7, I7, r7, y7, st7, n7⟩ := h7
      have I7' := I7.pinned (stat I7 n7) (T'.obj _ _ st7)
      have go8 := pg.run _ s7 _ H7 x u _ I7' r7 (step x H7 y7)
      rw [hp4, hp8, ← hAo] at go8
      refine seg_bind_wrap (wpAny_mono go8 (fun _ s8 h8 => ?_) fun _ _ e => e.elim)
      obtain ⟨σ8, H8, I8, hw8, q8⟩ := h8
      have go9 := pt.run _ s8 σ8 H8 _ I8 q8
      rw [hp4, hp8, ← hAo] at go9
      refine seg_bind_wrap (wpAny_mono go9 (fun b s9 h9 => ?_) fun _ _ e => e.elim)
      obtain ⟨H9, I9, q9⟩ := h9
      have fin : ∀ {s₀' s' : Shared} {c' : C} {H' : Hp} {n' m' : Nat} {σ' : L2.St}, m' < m → m' < n' → wipe σ' vs = wipe σ0 vs → Gh s₀' c' → Inv Z (pinsAt Ss s₀'.heap ++ pinsAt fp s7.heap) σ' H' s' → W c' (i + 1) m' H' → Seg (model Z.prog Z.w) B (GEnd Z Gh Ss (wipe σ0 vs) Z0) (GYld Z Gh Ss P) n' s₀' (.compLoop (gExp2 elt tg iter tg2 iter2 ifs ifs2 scope pos) 0 (.ref it) .none cenv) (.pure (.again (.compLoop (gExp2 elt tg iter tg2 iter2 ifs ifs2 scope pos) 0 (.ref it) .none cenv))) [] s' := fun {s₀' s' c' H' n' m' σ'} hm hn' hw' gh' I' w' => by
        have pin' : ∀ b ∈ fp, ∀ o, s7.heap.get? b = some o → s'.heap.get? b = some o ∧ H' b = none := fun b hb o e =>
          let z := I'.pin (b, o) (List.mem_append_right _ (List.mem_append_right _ (mem_pinsAt hb e)))
          ⟨z.1, z.2.1⟩
        have hl : (wipe σ0 vs).length = σ'.length := by rw [← hw', wipe_length]
        refine seg_again rfl (ih m' hm n' (i + 1) c' s₀' s' H' hn' gh' ((I'.unpinned (pins := pinsAt Ss s₀'.heap)).weak hl (fun j v e => ?_)) (T'.keep _ _ _ st7 fun b hb o e => (pin' b hb o e).1) (fun b hb => ?_) w')
        · rw [← hw'] at e
          exact (wipe_some e).1
        · obtain ⟨o, e, _⟩ := T'.obj _ _ st7 b hb
          exact (pin' b hb o e).2
      cases b with
      | false =>
        simp only [Bool.false_eq_true, if_false] at q9 ⊢
        obtain ⟨m', hm', w'⟩ := q9
        exact fin hm' (by omega) hw8 gh I9 w'
      | true =>
        simp only [if_true] at q9 ⊢
        have go10 := pi2.run _ s9 σ8 H9 _ I9 q9
        rw [hp4, hp8, ← hAo] at go10
        refine seg_bind_wrap (wpAny_mono go10 (fun xv s10 h10 => ?_) fun _ _ e => e.elim)
        refine seg_bind_wrap (wpAny_standAt ?_)
        refine seg_bind_wrap (wpAny_of_eq (hs2 xv) ?_)
        refine seg_bind_wrap (wpAny_holding (wpAny_mono h10 (fun itv s11 h11 => ?_) fun _ _ e => e.elim))
        obtain ⟨it2, fp2, tn2, J2, H11, rfl, I11, T2, st11, f11, W2, ⟨m2, hm2, w2⟩, turn2⟩ := h11
        refine seg_call fun p => ?_
        have out2 : ∀ b ∈ fp2, b ∉ Ss := fun b hb hS => by
          obtain ⟨o, e⟩ := hGS s₀ c gh b hS
          exact (f11 b hb).2.2.2.2.2 (b, o) (List.mem_append_right _ (List.mem_append_left _ (mem_pinsAt hS e))) rfl
        have ok2 : ∀ (H : Hp) (hp : Heap), (∀ b ∈ fp2, H b = none) → ∀ b ∈ fp2, FpOk Z (pinsAt Ss hp ++ pinsAt fp s7.heap) H b := fun H hp hn b hb => by
          obtain ⟨_, a2, a3, a4, a5, a6⟩ := f11 b hb
          refine ⟨hn b hb, a2, a3, a4, a5, fun p hq z => ?_⟩
          rcases List.mem_append.mp hq with q | q
          · exact a6 p (List.mem_append_left _ q) z
          · rcases List.mem_append.mp q with q | q
            · exact out2 b hb (by rw [← z]; exact (of_pinsAt q).1)
            · exact a6 p (List.mem_append_right _ (List.mem_append_right _ q)) z
        have I12 : Inv Z (pinsAt Ss s₀.heap ++ pinsAt fp s7.heap) (wipe σ8 vs2) H11 s11 := I11.weak (wipe_length _ _) fun j v e => (wipe_some e).1
        show Seg _ B _ _ n s₀ _ ((compStart (gExp2 elt tg iter tg2 iter2 ifs ifs2 scope pos) 1 (.ref it2) .none cenv).onRaise _) _ s11
        unfold compStart
        rw [Sem.onRaise_eq_wrap]
        show Seg _ B _ _ n s₀ _ ((ask >>= _).wrap _ _ _ _) _ s11
        refine seg_bind_wrap (wpAny_askSetting ?_)
        split
        · exact seg_again rfl (seg_in (Z := Z) (B := B) (Gh := Gh) (Ss := Ss) (elt := elt) (tg := tg) (iter := iter) (tg2 := tg2) (iter2 := iter2) (ifs := ifs) (ifs2 := ifs2) (scope := scope) (pos := pos) (it2 := it2) (cenv := cenv) (R := GEnd Z Gh Ss (wipe σ0 vs) Z0) (P := P) (σ0 := σ8) (vs := vs2) (ip1 := pinsAt fp s7.heap) (fp := fp2) (Z2 := fun c' m' H' => m' < m ∧ W c' (i + 1) m' H') ((over_loop rfl rfl).trans hAo) rfl rfl hp4 hp5 hp8 hco T2 ok2 (fun p hp hm => hSs _ hm (of_pinsAt hp).1) out2 pg2 pt2 pe turn2
          (fun n' s₀' s' c' m' H' hn' gh' J' z => seg_leaf (.ok .next) (fin z.1 hn' ((hvs σ8).trans hw8) gh' J' z.2)) m2 n 0 c s₀ s11 H11 (by omega) gh I12 st11 (fun b hb => (f11 b hb).1) w2)
        · refine seg_bind_wrap (wpAny_rule ?_)
          show Seg _ B _ _ n s₀ _ ((standAt iter2.pos >>= _).wrap _ _ _ _) _ s11
          exact seg_bind_wrap (wpAny_standAt (seg_bind_wrap (T2.self _ _ _ _ _ st11 (seg_again rfl (seg_in (Z := Z) (B := B) (Gh := Gh) (Ss := Ss) (elt := elt) (tg := tg) (iter := iter) (tg2 := tg2) (iter2 := iter2) (ifs := ifs) (ifs2 := ifs2) (scope := scope) (pos := pos) (it2 := it2) (cenv := cenv) (R := GEnd Z Gh Ss (wipe σ0 vs) Z0) (P := P) (σ0 := σ8) (vs := vs2) (ip1 := pinsAt fp s7.heap) (fp := fp2) (Z2 := fun c' m' H' => m' < m ∧ W c' (i + 1) m' H') ((over_loop rfl rfl).trans hAo) rfl rfl hp4 hp5 hp8 hco T2 ok2 (fun p hp hm => hSs _ hm (of_pinsAt hp).1) out2 pg2 pt2 pe turn2
          (fun n' s₀' s' c' m' H' hn' gh' J' z => seg_leaf (.ok .next) (fin z.1 hn' ((hvs σ8).trans hw8) gh' J' z.2)) m2 n 0 c s₀ s11 H11 (by omega) gh I12 st11 (fun b hb => (f11 b hb).1) w2)))))
end
end Hd

set_option maxHeartbeats 4000000
namespace Hd
open PySem PySem.Spec PyProof.Rows L2 GenW
section
variable {M : Model} {A : Around} {E : Value → Shared → Prop} {s : Shared} {elt tg iter tg2 iter2 : Expr} {ifs ifs2 : List Expr} {scope : Scope} {pos : Pos} {env : Env}
theorem eval_two (hco : scope.isCoroutine = false) : eval (gExp2 elt tg iter tg2 iter2 ifs ifs2 scope pos) env = (do
    let y ← eval iter env
    standAt iter.pos
    let y ← genFold iter env y
    let i1 ← holding [y] (pyIter y)
    enterFrame
    let kl ← closureFor scope env
    let kode ← genexprCode env pos (env.qual ++ "<genexpr>") scope
    let blt ← builtinsFor env.globals env.builtins
    let genv ← newFunctionEnv scope env.globals kl [(".0", i1)] (env.qual ++ "<genexpr>.") none kode none blt
    newGenerator (.compStart (gExp2 elt tg iter tg2 iter2 ifs ifs2 scope pos) 0 i1 .none genv) "<genexpr>" (env.qual ++ "<genexpr>")) := by
  rw [arm_eval_GeneratorExp]
  simp only [hco, Bool.false_eq_true, if_false]
  cases iter <;> rfl
theorem make_two {kl : List (Str × Addr)} {Q : Value → Shared → Prop} (hco : scope.isCoroutine = false) (hclos : closureFor scope env = pure kl) (hcell : ∀ y ∈ scope.names, y.2 ≠ .cell) (h0 : scope.names.lookup (".0" : Str) = some NameKind.local) (hkind : scope.kind = .function) (hroom : A.depth < recursionLimit)
    (h : wpAny M A (eval iter env) (fun xv s₁ => wpAny M A (pyIter xv) (fun i1 s₂ => s₂.heap.NoLimit ∧ wpAny M A (genexprCode env pos (env.qual ++ "<genexpr>") scope) (fun kode s₃ => wpAny M A (builtinsFor env.globals env.builtins) (fun blt s₄ =>
        ∀ h', h'.Ns s₄.heap.objs.size (fun y => if y = (".0" : Str) then some i1 else none) → Heap.SameBut s₄.heap.objs.size (s₄.heap.push { cls := .type "frame", data := .dict #[] }) h' →
          Q (.ref h'.objs.size) { s₄ with gens := s₄.gens.push (.fresh (.compStart (gExp2 elt tg iter tg2 iter2 ifs ifs2 scope pos) 0 i1 .none (genEnv scope kl s₄.heap.objs.size kode blt env))), toks := s₄.toks + 1 + 1 + 1, heap := h'.push { cls := .type "generator", data := .fields #[.int s₄.gens.size 0, .str "<genexpr>" (s₄.toks + 1), .str (env.qual ++ "<genexpr>") (s₄.toks + 1 + 1)] } }) E s₃) E s₂) E s₁) E s)
    (hs : ∀ x, genFold iter env x = pure x) : wpAny M A (eval (gExp2 elt tg iter tg2 iter2 ifs ifs2 scope pos) env) Q E s := by
  rw [eval_two hco, hclos]
  refine wpAny_bind (wpAny_mono h (fun xv s₁ g1 => wpAny_bind (wpAny_standAt (wpAny_bind (wpAny_of_eq (hs xv) ?_)))) fun _ _ e => e)
  refine wpAny_bind (wpAny_holding (wpAny_mono g1 (fun i1 s₂ g2 => wpAny_bind (wpAny_enterFrame g2.1 hroom (wpAny_bind (wpAny_pure ?_)))) fun _ _ e => e))
  refine wpAny_bind (wpAny_mono g2.2 (fun kode s₃ g3 => wpAny_bind (wpAny_mono g3 (fun blt s₄ g4 => ?_) fun _ _ e => e)) fun _ _ e => e)
  have one : ∀ y ∈ ([((".0" : Str), i1)] : List (Str × Value)), scope.names.lookup y.1 = some NameKind.local := fun y hy => by
    rw [List.mem_singleton.mp hy]
    exact h0
  refine wpAny_bind (wpAny_newFunctionEnv hcell one (fun h' hn sb => ?_) hkind)
  have e : (fun y : Str => ([((".0" : Str), i1)] : List (Str × Value)).reverse.lookup y) = fun y : Str => if y = (".0" : Str) then some i1 else none := by
    funext y
    by_cases hy : y = (".0" : Str)
    · rw [hy, if_pos rfl] <;> rfl
    · rw [if_neg hy]
      have ne : (y == (".0" : Str)) = false := by simpa using hy
      simp [List.lookup, ne]
  rw [e] at hn
  simp only [newGenerator, newFields]
  exact wpAny_bind (wpAny_newGen (wpAny_bind (wpAny_mkText (wpAny_bind (wpAny_mkText (wpAny_newObj_type (g4 h' hn sb) (by size_fits)))))))
end
end Hd

set_option maxHeartbeats 4000000
/-! all(.. for .. in .. for .. in ..) -/
namespace Hd
open PySem PySem.Spec PyProof.Rows L2 GenW
section
variable {X : Cx} {pins : List (Addr × Obj)} {σ : L2.St} {H : Hp} {s : Shared}
theorem seg_gs2 {B : Around} {R : GenEnd} {Y : Protocol} {n : Nat} {prog : Program} {w : World} {elt tg iter tg2 iter2 : Expr} {ifs ifs2 : List Expr} {scope : Scope} {pos : Pos} {it : Addr} {cenv : Env} {s₀ : Shared}
    (self : ∀ (A : Around) (Q : Value → Shared → Prop) (E : Value → Shared → Prop), Q (.ref it) s → wpAny (model prog w) A (pyIter (.ref it)) Q E s)
    (loop : Seg (model prog w) B R Y n s₀ (.compLoop (gExp2 elt tg iter tg2 iter2 ifs ifs2 scope pos) 0 (.ref it) .none cenv) ((model prog w).den (.compLoop (gExp2 elt tg iter tg2 iter2 ifs ifs2 scope pos) 0 (.ref it) .none cenv)) [] s) :
    Seg (model prog w) B R Y n s₀ (.compStart (gExp2 elt tg iter tg2 iter2 ifs ifs2 scope pos) 0 (.ref it) .none cenv) ((model prog w).den (.compStart (gExp2 elt tg iter tg2 iter2 ifs ifs2 scope pos) 0 (.ref it) .none cenv)) [] s := by
  show Seg _ B _ _ n s₀ _ ((compStart (gExp2 elt tg iter tg2 iter2 ifs ifs2 scope pos) 0 (.ref it) .none cenv).onRaise (leaving cenv)) [] s
  unfold compStart
  rw [Sem.onRaise_eq_wrap]
  show Seg _ B _ _ n s₀ _ ((ask >>= _).wrap _ _ _ _) [] s
  refine seg_bind_wrap (wpAny_askSetting ?_)
  split
  · exact seg_again rfl loop
  · refine seg_bind_wrap (wpAny_rule ?_)
    show Seg _ B _ _ n s₀ _ ((standAt iter.pos >>= _).wrap _ _ _ _) [] s
    exact seg_bind_wrap (wpAny_standAt (seg_bind_wrap (self _ _ _ (seg_again rfl loop))))
theorem gen_made2 {c P : Addr} {elt tg iter tg2 iter2 : Expr} {ifs ifs2 : List Expr} {pos : Pos} {scope : Scope} {own : List (Str × Nat)} {wi : TI} {k : Nat} {Q' : Value → Shared → Prop} {R : It → Hp → Prop} (hr : Room (k + 1) X.A) (TB : GxR.TabB X.base X.mg c P) (hcode : X.env.code = .ref c) (ok : GenOk X.N X.env.scope scope own) (hN : X.N.Nodup) (hi : PI X tg iter wi)
    (hs : ∀ v, genFold iter X.env v = pure v) (I : Inv X pins σ H s) (h : wi σ H fun J H1 => GxR.TabG H1 P ∧ ∀ H2, GxR.Tabbed P H1 H2 → R J H2)
    (hQ : ∀ J H2 a s5, R J H2 → GMake X pins σ scope own (gExp2 elt tg iter tg2 iter2 ifs ifs2 scope pos) tg J H2 a s5 → Q' (.ref a) s5) :
    wpAny (model X.prog X.w) X.A (eval (gExp2 elt tg iter tg2 iter2 ifs ifs2 scope pos) X.env) Q' X.xe s := by
  refine make_two ok.co (closure_ok (ok.free I.ok)) ok.nocell ok.dot ok.blk.kind (by have := hr.dp; omega) ?_ hs
  refine thn (hi.run pins s σ H _ I h) fun xv s1 hx => thn hx fun itv s2 h2 => ?_
  obtain ⟨it, fp, tn, J, H2, rfl, I2, T, st2, f2, ⟨ps, hP, ht⟩, q⟩ := h2
  refine ⟨I2.nolimit, ?_⟩
  have hPs : s2.heap.get? P = some { cls := .none, data := .fields ps } := I2.hok P _ hP
  have cd : PySem.W.CodeHd s2.heap c P := TB.code.keeps fun b u e => I2.bk b u e
  have nP : ∀ b ∈ fp, b ≠ P := fun b hb e => by
    have := (f2 b hb).1
    rw [e, hP] at this
    cases this
  -- behind the code's look: the state, its heap
  have go : ∀ (code : Value) (s3 : Shared) (H3 : Hp), Inv X pins σ H3 s3 → GxR.Tabbed P H2 H3 → (∀ b o, b ≠ P → s2.heap.get? b = some o → s3.heap.get? b = some o) →
      wpAny (model X.prog X.w) X.A (builtinsFor X.env.globals X.env.builtins) (fun bi s₄ =>
        ∀ h', h'.Ns s₄.heap.objs.size (fun y => if y = (".0" : Str) then some (.ref it) else none) → Heap.SameBut s₄.heap.objs.size (s₄.heap.push { cls := .type "frame", data := .dict #[] }) h' →
          Q' (.ref h'.objs.size) { s₄ with gens := s₄.gens.push (.fresh (.compStart (gExp2 elt tg iter tg2 iter2 ifs ifs2 scope pos) 0 (.ref it) .none (genEnv scope (cloFrom X.env.cells scope.names []) s₄.heap.objs.size code bi X.env))), toks := s₄.toks + 1 + 1 + 1, heap := h'.push { cls := .type "generator", data := .fields #[.int s₄.gens.size 0, .str "<genexpr>" (s₄.toks + 1), .str (X.env.qual ++ "<genexpr>") (s₄.toks + 1 + 1)] } }) X.xe s3 := by
    intro code s3 H3 I3 tb kp
    obtain ⟨bm, ob, b1, b2, _, _, b5, b6, b7, b8⟩ := TB.bm
    refine wpAny_builtinsFor (m := X.mg) (by rw [I3.ok.glob]; exact I3.mod.glob.keeps I3.bk) b1 b2 (I3.bk _ _ b5) b6 b7 b8 fun h' hn sb => ?_
    have sz : h'.objs.size = s3.heap.objs.size + 1 := by rw [sb.1, Heap.size_push]
    have kp' : ∀ b o, s3.heap.get? b = some o → h'.get? b = some o := fun b o e => sb.extBut b o (Nat.ne_of_lt (Heap.lt_size e)) (Heap.get?_push_of_some _ e)
    have f3 : ∀ b ∈ fp, FpOk X pins H3 b := fun b hb => ⟨by rw [tb.2 b (nP b hb)]; exact (f2 b hb).1, (f2 b hb).2⟩
    have old : ∀ b ∈ fp, ∃ o, s2.heap.get? b = some o ∧ s3.heap.get? b = some o := fun b hb => by
      obtain ⟨o, e, _⟩ := T.obj _ _ st2 b hb
      exact ⟨o, e, kp b o (nP b hb) e⟩
    have lt3 : ∀ b ∈ fp, b < s3.heap.objs.size := fun b hb => let ⟨o, _, e⟩ := old b hb; Heap.lt_size e
    generalize hgo : ({ cls := .type "generator", data := .fields #[.int s3.gens.size 0, .str "<genexpr>" (s3.toks + 1), .str (X.env.qual ++ "<genexpr>") (s3.toks + 1 + 1)] } : Obj) = go
    have hpg : (h'.push go).get? h'.objs.size = some go := Heap.get?_push_size _ (by rw [← hgo] <;> rfl)
    have isg : ∀ hh : Heap, hh.get? h'.objs.size = some go → hh.IsGen h'.objs.size s3.gens.size := fun hh e => ⟨go, _, _, e, by rw [← hgo], by rw [← hgo], by rw [← hgo]⟩
    have kp5 : ∀ b o, s3.heap.get? b = some o → (h'.push go).get? b = some o := fun b o e => Heap.get?_push_of_some _ (kp' b o e)
    have bare5 : AllBare (s3.gens.push (.fresh (.compStart (gExp2 elt tg iter tg2 iter2 ifs ifs2 scope pos) 0 (.ref it) .none (gev X scope s3.heap.objs.size code)))) := AllBare.push I3.bare rfl
    refine hQ J H3 _ _ (q H3 tb) ⟨it, fp, tn, s3, code, s3.gens.size, go, I3, T, ?_, f3, fun hm => ?_, isg, isg _ hpg, ?_, Array.getElem?_push_size .., fun b hb => (f3 b hb).1, fun A hA hh => ?_⟩
    · exact T.keep _ _ _ st2 fun b hb o e => kp5 b o (kp b o (nP b hb) e)
    · have := lt3 _ hm
      rw [sz] at this
      exact Nat.lt_irrefl _ (Nat.lt_of_succ_lt this)
    · exact I3.nolimit.keeps kp5
    · have st := gx_start (it := .ref it) (code := code) (A := A) (tk := s3.toks + 1 + 1 + 1) I3 ok hN (fun b hb => ⟨f3 b hb, lt3 b hb⟩) (hn.push go) kp5 bare5 hA hh
      refine gx_pin st hpg ?_ ?_ ?_ fun v z => ?_
      · exact I3.hok.fresh (by rw [sz]; exact Nat.le_succ _)
      · show h'.objs.size ≠ s3.heap.objs.size
        rw [sz]
        exact Nat.succ_ne_self _
      · intro hm
        have l := I3.lt
        rcases List.mem_cons.mp (I3.stkSub _ hm) with z | z
        · rw [← z, sz] at l
          exact Nat.lt_irrefl _ (Nat.lt_of_succ_lt l)
        · exact I3.nofs (by rw [sz]; exact Nat.le_succ _) z
      · rw [← hgo] at z
        cases z
  cases hf : codeAmong pos ps.toList with
  | some cv =>
    refine PySem.wpAny_genexprCode_hit hcode (cd.code hPs ht) hf ?_
    exact go cv s2 H2 I2 ⟨⟨ps, hP, ht⟩, fun b _ => rfl⟩ fun b o _ e => e
  | none =>
    refine PySem.wpAny_genexprCodeX hcode (cd.code hPs ht) (cd.tab hPs) hf fun c' h' tk hx hge hlt hco' _ htab' _ => ?_
    obtain ⟨o1, vs, f1, tf, fl, tgg, inF, tx, tt, op, _, _, _, _, _, _, _, _, _, htr, _⟩ := hco'
    have I3 := GxR.inv_tab (h' := h') (g' := s2.gens) (d' := s2.drawn) (t' := tk) I2 hP (fun b u hb e => hx b u hb e) htab'.2 I2.bare
    exact go (.ref c') _ _ I3 ⟨⟨_, upd_same, htr⟩, fun b hb => upd_ne hb⟩ fun b o hb e => hx b o hb e
def tAllG2 (P : Addr) (wi : TI) (g : TG) (tt : TT) (vs : List Nat) (wi2 : TI) (g2 : TG) (tt2 : TT) (te : TE) (vs2 : List Nat) : TE := fun σ H Q => wi σ H fun J H1 => GxR.TabG H1 P ∧ ∀ H2, GxR.Tabbed P H1 H2 → ∃ W : Unit → Nat → Nat → Hp → Prop, (∃ m, W () 0 m H2) ∧ GTurnO σ vs g tt wi2 vs2 g2 tt2 te J (PAll (Q (.bl false))) (fun _ => Q (.bl true)) W
/-- all(elt for tg in iter if ..), the element any expression -/
theorem pe_allG2 {c P : Addr} {elt tg iter tg2 iter2 : Expr} {ifs ifs2 : List Expr} {p pos gpos : Pos} {scope : Scope} {own : List (Str × Nat)} {vs2 : List Nat} {wi wi2 : TI} {g g2 : TG} {tt tt2 : TT} {te : TE} {k : Nat} (hr : Room (k + 1) X.A) (hg : Gl X "all") (hm : X.mg "all" = none) (TB : GxR.TabB X.base X.mg c P) (hcode : X.env.code = .ref c)
    (ok : GenOk X.N X.env.scope scope own) (hN : X.N.Nodup) (hi : PI X tg iter wi) (hpg : ∀ (A : Around) (s : Shared) (H : Hp) (code : Value) (fp : List Addr) (pn : List (Addr × Obj)), Room k A → PG (gx X A s H (gev X scope s.heap.objs.size code) fp pn) tg g)
    (hpt : ∀ (A : Around) (s : Shared) (H : Hp) (code : Value) (fp : List Addr) (pn : List (Addr × Obj)), Room k A → PTs (gx X A s H (gev X scope s.heap.objs.size code) fp pn) ifs tt) (hpe : ∀ (A : Around) (s : Shared) (H : Hp) (code : Value) (fp : List Addr) (pn : List (Addr × Obj)), Room k A → PE (gx X A s H (gev X scope s.heap.objs.size code) fp pn) elt te)
    (hpi2 : ∀ (A : Around) (s : Shared) (H : Hp) (code : Value) (fp : List Addr) (pn : List (Addr × Obj)), Room k A → PI (gx X A s H (gev X scope s.heap.objs.size code) fp pn) tg2 iter2 wi2) (hpg2 : ∀ (A : Around) (s : Shared) (H : Hp) (code : Value) (fp : List Addr) (pn : List (Addr × Obj)), Room k A → PG (gx X A s H (gev X scope s.heap.objs.size code) fp pn) tg2 g2) (hpt2 : ∀ (A : Around) (s : Shared) (H : Hp) (code : Value) (fp : List Addr) (pn : List (Addr × Obj)), Room k A → PTs (gx X A s H (gev X scope s.heap.objs.size code) fp pn) ifs2 tt2) (hvs : ∀ σ : L2.St, wipe (wipe σ vs2) (own.map (·.2)) = wipe σ (own.map (·.2)))
    (hs2 : ∀ (env : Env) v, foldedSetIterable iter2 env v = pure v := by intro _ _; rfl) (hs : ∀ v, genFold iter X.env v = pure v := by intro _; rfl) (hb : bootBuiltins "all" = some (.builtin "all") := by decide +kernel)
    (he : starEach [gExp2 elt tg iter tg2 iter2 ifs ifs2 scope gpos] X.env = (false, eval (gExp2 elt tg iter tg2 iter2 ifs ifs2 scope gpos) X.env) :: starEach [] X.env := by rfl) :
    PE X (.Call (.Name "all" p) [gExp2 elt tg iter tg2 iter2 ifs ifs2 scope gpos] [] pos) (tAllG2 P wi g tt (own.map (·.2)) wi2 g2 tt2 te vs2) := by
  refine ⟨fun pins s σ H Q I h => ?_⟩
  refine wpAny_Call_Name_kw (ld_blt I hg hm hb ?_)
  refine PyProof.Rows.callWith_builtin1 ?_ he (by rfl)
  rw [he]
  show wpAny _ _ (spliced ((false, eval (gExp2 elt tg iter tg2 iter2 ifs ifs2 scope gpos) X.env) :: backTo pos (starEach [] X.env))) _ _ s
  refine Calls.spliced_cons (gen_made2 hr TB hcode ok hN hi hs I h fun J H2 a s5 hR G => ?_)
  obtain ⟨W, ⟨m, w0⟩, turn⟩ := hR
  obtain ⟨it, fp, tn, s4, code, gi, go, I4, T, st, hf, haf, isg, ig5, nl5, gs5, nf, inv⟩ := G.go
  refine Calls.spliced_nil ?_
  refine call_function_tree F.kind_all F.plain_all F.entry_all (F.args_all1 _) ?_
  unfold Builtin.«all»
  refine wpAny_bind (m := oneArg "all" _) (wpAny_pure (wpAny_bind (wpAny_pyIter_gen ig5 (wpAny_pure ⟨plainId_quiet F.plain_all_loop _, ?_⟩))))
  have fr : (X.A.in1.in1.over (.compLoop (gExp2 elt tg iter tg2 iter2 ifs ifs2 scope gpos) 0 (.ref it) .none (gev X scope s4.heap.objs.size code)) []).frames = some (gev X scope s4.heap.objs.size code :: X.stack) := by
    have e : X.A.in1.in1.frames = some X.stack := I4.ok.frames
    unfold Around.over
    dsimp only
    rw [e] <;> rfl
  have rm := over_room (e := gExp2 elt tg iter tg2 iter2 ifs ifs2 scope gpos) (it := .ref it) (acc := .none) (cenv := gev X scope s4.heap.objs.size code) hr rfl rfl
  have J5 := inv _ fr rm.hd
  have J6 := z_gens J5 (allBare_setGen (g := gi) (x := .running) J5.bare rfl)
  refine all_loop (Z := gx X (X.A.in1.in1.over (.compLoop (gExp2 elt tg iter tg2 iter2 ifs ifs2 scope gpos) 0 (.ref it) .none (gev X scope s4.heap.objs.size code)) []) s4 H2 (gev X scope s4.heap.objs.size code) fp [(a, go)]) (σ0 := wipe σ (own.map (·.2))) (QF := Q (.bl false)) (QT := Q (.bl true)) (gi := gi) hr.hd (by have := hr.dp; omega) ⟨go, List.mem_singleton.mpr rfl, isg⟩
    (fun H' s' J q => ⟨.bl true, H', z_back I4 hf J, rfl, q⟩) (fun ip σ' H' s' J q => ⟨.bl false, H', z_back I4 hf J, rfl, q⟩) (m + 1) s5 ⟨ig5, nl5, _, gs5, rfl, ?_⟩
  refine seg_gs2 (fun A Q E hq => T.self A 0 _ Q E st hq) ?_
  exact seg_out (X := X) _ rfl ok.co (hs2 _) T (hpg _ _ _ _ _ _ rm) (hpt _ _ _ _ _ _ rm) (hpi2 _ _ _ _ _ _ rm) (hpg2 _ _ _ _ _ _ rm) (hpt2 _ _ _ _ _ _ rm) (hpe _ _ _ _ _ _ rm) turn (fun p hp => by rw [List.mem_singleton.mp hp]; exact haf) (fun b hb => by cases hb) (fun _ _ _ b hb => by cases hb) hvs m (m + 1) 0 () _ _ H2 (Nat.lt_succ_self _) trivial J6 st nf w0
end
end Hd

set_option maxHeartbeats 4000000
namespace Hd
open PySem PySem.Spec PyProof.Rows L2
theorem t_yes {σ : L2.St} {H : Hp} {A B : Hp → Prop} (h : A H) : tYes σ H (fun b H3 => if b = true then A H3 else B H3) := iteT (B := B H) h
/-- the turns over a tuple of tuples, each of them in a local -/
theorem gt_tup2 {C : Type} {K : PySem.W.Frag} {a : Addr} {xs : List V} {σ : L2.St} {vs vs2 : List Nat} {g g2 : TG} {tt2 : TT} {te : TE} {P : C → V → Hp → (C → Hp → Prop) → Prop} {Z0 : C → Hp → Prop} {k2 : Nat} (N : Nat) (Pv : C → Nat → Hp → Prop) (Qv : C → Nat → Nat → Hp → Prop) (hl : ∀ c i H, i ≤ xs.length → Pv c i H → SqT K H a xs)
    (hs : ∀ c i x H, xs[i]? = some x → Pv c i H → g x (wipe σ vs) H fun σ2 H2 => wipe σ2 vs = wipe σ vs ∧ ∃ a2 ys, σ2[k2]? = some (some (.ref a2)) ∧ SqT K H2 a2 ys ∧ ys.length ≤ N ∧ Qv c i 0 H2 ∧ (∀ c j H, Qv c i j H → SqT K H a2 ys) ∧ (∀ c H, Qv c i ys.length H → Pv c (i + 1) H) ∧
      ∀ c j y H, ys[j]? = some y → Qv c i j H → g2 y (wipe σ2 vs2) H fun σ3 H5 => wipe σ3 vs2 = wipe σ2 vs2 ∧ tt2 σ3 H5 fun b H6 => if b = true then te σ3 H6 fun z H7 => P c z H7 (fun c' H' => Qv c' i (j + 1) H') else Qv c i (j + 1) H6)
    (hg : ∀ x σ H (Q1 Q2 : L2.St → Hp → Prop), (∀ σ' H', Q1 σ' H' → Q2 σ' H') → g x σ H Q1 → g x σ H Q2) (hd : ∀ c H, Pv c xs.length H → Z0 c H) {c0 : C} {H0 : Hp} (h0 : Pv c0 0 H0) :
    ∃ W : C → Nat → Nat → Hp → Prop, (∃ m, W c0 0 m H0) ∧ GTurnO σ vs g tYes (iTup K (tVar k2)) vs2 g2 tt2 te (Itt K a) P Z0 W := by
  refine ⟨fun c i m H => m = (xs.length - i) * (N + 1) ∧ i ≤ xs.length ∧ Pv c i H, ⟨_, rfl, Nat.zero_le _, h0⟩, ?_⟩
  rintro c i m H ⟨em, hi, p⟩
  have q := hl c i H hi p
  by_cases lt : i < xs.length
  · obtain ⟨r, hr⟩ : ∃ r, xs.length - i = r + 1 := ⟨xs.length - i - 1, by omega⟩
    have hr2 : xs.length - (i + 1) = r := by omega
    have em' : m = r * (N + 1) + (N + 1) := by rw [em, hr, Nat.succ_mul]
    refine .inr ⟨⟨xs, xs[i], q, List.getElem?_eq_getElem lt⟩, ?_⟩
    rintro x H' ⟨rfl, at_⟩
    refine hg _ _ _ _ _ (fun σ2 H2 hh => ?_) (hs c i x _ (at_ xs q) p)
    obtain ⟨h1, a2, ys, e1, e2, e3, e4, e5, e6, e7⟩ := hh
    refine ⟨h1, t_yes ?_⟩
    refine ⟨.ref a2, e1, a2, rfl, ⟨ys, e2⟩, fun c j m' H => m' = r * (N + 1) + (ys.length - j) ∧ j ≤ ys.length ∧ Qv c i j H, ⟨_, by omega, rfl, Nat.zero_le _, e4⟩, ?_⟩
    rintro c' j m' H' ⟨f1, f2, f3⟩
    have q2 := e5 c' j H' f3
    by_cases lt2 : j < ys.length
    · refine .inr ⟨⟨ys, ys[j], q2, List.getElem?_eq_getElem lt2⟩, fun c'' H'' => Qv c'' i (j + 1) H'', fun c'' H'' z => ⟨m' - 1, by omega, by omega, lt2, z⟩, ?_⟩
      rintro y H'' ⟨rfl, at2⟩
      exact e7 c' j y _ (at2 ys q2) f3
    · have ej : j = ys.length := by omega
      subst ej
      exact .inl ⟨⟨ys, q2, Nat.le_refl _⟩, by omega, by rw [hr2]; omega, lt, e6 c' H' f3⟩
  · have e : i = xs.length := by omega
    subst e
    exact .inl ⟨⟨xs, q, Nat.le_refl _⟩, hd c H p⟩
end Hd

set_option maxHeartbeats 4000000
/-! a lambda handed to a def: only the maker's own table changes -/
namespace Hd
open PySem PySem.Spec PyProof.Rows L2 LamX Evl
/-- all stays but the table at P -/
def OffP (P : Addr) (H H' : Hp) : Prop := ∀ b o, b ≠ P → H b = some o → H' b = some o
theorem OffP.refl {P : Addr} {H : Hp} : OffP P H H := fun _ _ _ e => e
theorem OffP.trans {P : Addr} {H H1 H2 : Hp} (a : OffP P H H1) (b : OffP P H1 H2) : OffP P H H2 := fun c o n e => b c o n (a c o n e)
theorem OffP.ex {P : Addr} {H H1 : Hp} (e : Ex H H1) : OffP P H H1 := fun c o _ h => e c o h
section
variable {X : Cx} {pins : List (Addr × Obj)} {σ : L2.St} {H : Hp} {s : Shared}
abbrev lamQ (X : Cx) : Str := X.env.qual ++ "<lambda>"
abbrev lamO (X : Cx) (params : Arguments) (body : Expr) (scope : Scope) (pm : Value) (c' : Addr) (ctv : Value) : Obj :=
  PySem.W.kla_obj "<lambda>" (lamQ X) params body scope (cloFrom X.env.cells scope.names []) pm c' ctv
/-- what is known when the lambda f of code c' has been made -/
structure LamMade (X : Cx) (pins : List (Addr × Obj)) (σ : L2.St) (H : Hp) (P : Addr) (params : Arguments) (body : Expr) (scope : Scope) (f c' : Addr) (pm ctv : Value) (H1 : Hp) (s' : Shared) : Prop where
  inv : Inv X pins σ H1 s'
  off : OffP P H H1
  tab : TabS H1 P (lamQ X)
  at_ : s'.heap.get? f = some (lamO X params body scope pm c' ctv)
  free : H1 f = none
  nofr : f ∉ frs X.stack
  code : H1 c' = some (CodeO c' (lamQ X))
theorem lam_made3 {c P : Addr} {params : Arguments} {body : Expr} {scope : Scope} {pos : Pos} {E : Value → Shared → Prop} {Q : Value → Shared → Prop}
    (I : Inv X pins σ H s) (tbl : TabB X.base X.mg c P) (own : X.env.code = .ref c) (T : TabS H P (lamQ X)) (nodef : defaultsOf params X.env = ([], []))
    (clo : ∀ y ∈ scope.names, y.2 = .free → ∃ c, X.env.cells.lookup y.1 = some c)
    (k : ∀ f c' pm ctv H1 s', LamMade X pins σ H P params body scope f c' pm ctv H1 s' → Q (.ref f) s') :
    wpAny (model X.prog X.w) X.A (eval (.Lambda params body scope pos) X.env) Q E s := by
  obtain ⟨ps, eP, tri, among⟩ := T
  have realP : s.heap.get? P = some { cls := .none, data := .fields ps } := I.hok P _ eP
  have high : ∀ g, s.heap.objs.size ≤ g → g ∉ frs X.stack := fun g hg m => by
    rcases List.mem_cons.mp (I.stkSub _ m) with e | e
    · exact absurd (e ▸ I.lt) (Nat.not_lt.mpr hg)
    · exact I.nofs hg e
  refine PySem.W.kla_eval nodef ?_
  cases hit : codeAmong pos ps.toList with
  | some cv =>
    obtain ⟨c1, rfl, h1⟩ := among pos cv hit
    exact PySem.W.kla_makeFunctionHit (mg := X.mg) (c := c) (P := P) (ps := ps) (closure_ok clo) I.ok.glob (I.mod.glob.keeps I.bk) own (tbl.code.keeps I.bk) realP tri hit (tbl.bm.keeps I.bk)
      fun ctv h' tk grow big => k _ c1 _ ctv H _
        ⟨I.kept fun b o e => Heap.get?_push_of_some _ (grow b o e), OffP.refl, ⟨ps, eP, tri, among⟩, Heap.get?_push_size _ rfl, I.hok.fresh big, high _ big, h1⟩
  | none =>
    refine PySem.W.kla_makeFunction (mg := X.mg) (c := c) (P := P) (ps := ps) (closure_ok clo) I.ok.glob (I.mod.glob.keeps I.bk) own
      (tbl.code.keeps I.bk) realP tri hit tbl.gP (tbl.bm.keeps I.bk) fun c1 ctv h' tk grow ge lt rec tab1 => ?_
    obtain ⟨c2, oc, vs, t, e2, look, dat, nam⟩ := rec
    cases e2
    have big : s.heap.objs.size ≤ h'.objs.size := Nat.le_trans ge (Nat.le_of_lt lt)
    have none1 : H c1 = none := I.hok.fresh ge
    have pc : P ≠ c1 := ne_of_none eP none1
    generalize hmore : (#[rawInt pos.line, rawInt pos.col, Value.ref c1] : Array Value) = more at tab1
    have off : OffP P H (upd (upd H P (.tbl (ps ++ more))) c1 (CodeO c1 (lamQ X))) := fun b o n e => by
      rw [upd_ne (ne_of_none e none1), upd_ne n]
      exact e
    have lst : (ps ++ more).toList = ps.toList ++ [rawInt pos.line, rawInt pos.col, .ref c1] := by rw [← hmore] <;> simp
    refine k _ c1 _ ctv _ _ ⟨inv_table (t' := tk) (more := more) I eP (fun b o n e => Heap.get?_push_of_some _ (grow b o n e)) (Heap.get?_push_of_some _ tab1) ge
      ⟨oc, vs, t, Heap.get?_push_of_some _ look, dat, nam⟩, off, ⟨ps ++ more, ?_, ?_, fun p' cv hcv => ?_⟩, Heap.get?_push_size _ rfl, ?_, high _ big, upd_same⟩
    · rw [upd_ne pc, upd_same]
    · rw [lst]
      exact PySem.TriplesOk_snoc _ _ _ _ tri
    · rw [lst] at hcv
      rcases among_app _ tri hcv with z | rfl
      · obtain ⟨c0, e1, e2⟩ := among p' cv z
        have ncP : c0 ≠ P := fun e => by
          rw [e, eP] at e2
          exact codeO_ne _ (Option.some.inj e2).symm
        exact ⟨c0, e1, off _ _ ncP e2⟩
      · exact ⟨c1, rfl, upd_same⟩
    · rw [upd_ne (Nat.ne_of_gt lt), upd_ne (Nat.ne_of_gt (Nat.lt_of_lt_of_le (Heap.lt_size realP) big))]
      exact I.hok.fresh big
end
/-- x(lambda: body): the maker's table at P alone may change ahead of the call -/
def tLamP (P : Addr) (q : Str) (TT : (XK → Hp → VK → Prop) → Hp → VK → Prop) (t : XK → TE) : TE := fun σ H Q =>
  TabS H P q ∧ ∀ H1, OffP P H H1 → TabS H1 P q → TT (fun E H' Q' => t E σ H' Q') H1 Q
section
variable {X : Cx}
theorem pe_lamP {TT : (XK → Hp → VK → Prop) → Hp → VK → Prop} {x a : Str} {g c P : Addr} {k : Nat} {pg : Arguments} {bg : List Stmt} {sg : Scope} {dV kV doc pm cdv ct oc : Value} {an od : Option Addr}
    {osl : Array (Option Value)} {Ng : List Str} {params : Arguments} {body : Expr} {scope : Scope} {t : XK → TE} {p lpos pos : Pos}
    (hg : Gl X x) (hm : X.mg x = some (.ref g)) (hk : PySem.W.keepIn X.K (.ref g) = true)
    (lk : X.K.lookup g = some ⟨oc, od, .func (PySem.W.fnOf x x pg bg sg dV kV doc pm an cdv ct), osl⟩) (cdn : PySem.W.codeIn X.K cdv x = true)
    (bnd : L2.Binds X.K (PySem.W.fnOf x x pg bg sg dV kV doc pm an cdv ct) [a] []) (Sg : FnScope Ng [a] sg) (first : Ng[0]? = some a) (vis : Vis sg a)
    (gives : GivesTo X Ng x sg g cdv bg a (lamQ X) TT) (TB : TabB X.base X.mg c P) (own : X.env.code = .ref c)
    (hr : Room (k + 2) X.A) (L : LamS X.env.scope scope) (nodef : defaultsOf params X.env = ([], []))
    (nobind : ∀ (q : Str) (cl : List (Str × Addr)) (pm cv ctv : Value), bindArgs (PySem.W.kla_fn "<lambda>" q params body scope cl pm cv ctv) ⟨[], []⟩ = pure [])
    (inner : ∀ (A : Around) (outer : List Env) (s : Shared) (H : Hp) (E : XK) (f c' : Addr), Room k (A.deeper (lamEnv X scope s.heap.objs.size f c')) → PE (lamCx X A outer s H E scope f c') body (t E))
    (nb1 : (x == ("__debug__" : Str)) = false := by decide) (nb2 : (a == ("__debug__" : Str)) = false := by decide) (nb3 : (a == ("__classdict__" : Str)) = false := by decide) :
    PE X (.Call (.Name x p) [.Lambda params body scope lpos] [] pos) (tLamP P (lamQ X) TT t) := by
  constructor
  intro pins s σ H Q I h
  obtain ⟨T, h⟩ := h
  refine wpAny_Call_Name_kw (ld_glob I hg hm ?_ nb1)
  refine PySem.W.callWith_K (h₀ := X.base) I.ok.mod.kin hk ?_ (by rfl) (by rfl)
  change wpAny _ _ (spliced ((false, eval (.Lambda params body scope lpos) X.env) :: backTo pos (starEach [] X.env))) _ _ s
  refine Calls.spliced_cons (lam_made3 I TB own T nodef (L.has I.ok) fun f c1 pm1 ctv H1 s1 M => ?_)
  have I1 := M.inv
  refine Calls.spliced_nil ⟨I1.kIn, wpAny_call (codeAny_mono (R := CR C8.CX0 X.stack X.prog X.w H1 s1 Q C8.E0) ?_ fun r s2 hq => ?_)⟩
  · refine run_ofS (N := Ng) (ps := [a]) (us := [.ref f]) (vs := [.ref f]) lk cdn Sg hr I1.env0 (bnd s1 [.ref f] I1.kIn rfl) (.cons rfl .nil) rfl fun room => ?_
    obtain ⟨t1, a1, a2⟩ := gives f c1 s1 H1 Q (fun E H' Q' => t E σ H' Q')
      (fun W pn xe E p1 p2 tk hW => pe_act (i := 0) I1 L M.at_ M.free M.nofr (nobind _ _ _ _ _) tk hW room (fun A outer s H r2 => inner A outer s H E f c1 r2) first vis nb2 nb3)
      M.code (h H1 M.off M.tab)
    exact ⟨t1, a1.nox, a2⟩
  · match r, hq with
    | .ok (.ret u), hq => exact I1.after hq
end
end Hd

set_option maxHeartbeats 4000000
/-! a law's statements; a local that is one of some defs -/
namespace Hd
open PySem PySem.Spec PyProof.Rows L2 Evl
/-! ### one statement, told by what holds before and behind it -/
def Does (X : Cx) (st : Stmt) (Pre Post : L2.St → Hp → Prop) : Prop := ∃ t, PS X st t ∧ ∀ D σ H, Pre σ H → (∀ σ' H', Post σ' H' → D.nx σ' H') → t D σ H
theorem does_cons {X : Cx} {st : Stmt} {rest : List Stmt} {Pre Mid : L2.St → Hp → Prop} {F : Ends → Prop} (h1 : Does X st Pre Mid) (h2 : ∃ t, PSs X rest t ∧ ∀ D σ H, Mid σ H → F D → t D σ H) : ∃ t, PSs X (st :: rest) t ∧ ∀ D σ H, Pre σ H → F D → t D σ H := by
  obtain ⟨t1, p1, q1⟩ := h1
  obtain ⟨t2, p2, q2⟩ := h2
  exact ⟨_, pss_cut p1 p2, fun D σ H pre f => ⟨Mid, q1 _ σ H pre fun σ' H' m => m, fun σ' H' m => q2 D σ' H' m f⟩⟩
theorem Fn.r {P : Program} {w : World} {K : PySem.W.Frag} {mg : Str → Option Value} {base : Heap} {CX : CXT} {k : Nat} {x : Str} {ps : List Str} {sp : Sp} {f : Addr} {fd : FuncData} (F : Fn P w K mg base CX k x ps sp f fd) : FnR P w K mg base CX k f sp := by
  have h := FnOk.raw F.G F.b (dvs := []) .nil
  simpa only [List.append_nil] using h
/-! ### a local that is one of some defs -/
def tCallAny (i : Nat) (fs : List (Addr × Sp)) (E : XK) (t : TA) : TE := fun σ H Q => ∃ p ∈ fs, σ[i]? = some (some (.ref p.1)) ∧ t σ H fun vs H1 => p.2 vs H1 Q E
theorem pe_callAny {X : Cx} {CX : CXT} {k i : Nat} {fs : List (Addr × Sp)} {E : XK} {x : Str} {e : Expr} {es : List Expr} {t : TA} {p pos : Pos} (F : ∀ q ∈ fs, FnR X.prog X.w X.K X.mg X.base CX k q.1 q.2) (hr : Room k X.A) (hk : ∀ q ∈ fs, PySem.W.keepIn X.K (.ref q.1) = true)
    (hx : Passes CX X E) (ha : PA X (e :: es) t) (hN : X.N[i]? = some x := by rfl) (hv : Vis X.env.scope x := by first | exact Or.inl rfl | exact Or.inr (Or.inl rfl) | exact Or.inr (Or.inr rfl)) (hd : (x == ("__debug__" : Str)) = false := by decide) (hcd : (x == ("__classdict__" : Str)) = false := by decide)
    (he : starEach (e :: es) X.env = (false, eval e X.env) :: starEach es X.env := by rfl) (hpl : (backTo pos (starEach es X.env)).any (·.1) = false := by rfl) : PE X (.Call (.Name x p) (e :: es) [] pos) (tCallAny i fs E t) := by
  refine ⟨fun pins s σ H Q I h => ?_⟩
  obtain ⟨q, hq, hs, h⟩ := h
  refine wpAny_Call_Name_kw (thn ((pe_var (pos := p) (i := i) hN hv hd hcd).run pins s σ H (fun v H1 => v = .ref q.1 ∧ H1 = H) I ⟨.ref q.1, hs, rfl, rfl⟩) fun u s1 ⟨v, H1, I1, r1, ev, eH⟩ => ?_)
  subst ev
  rw [eH] at I1
  cases r1
  refine PySem.W.callWith_K (h₀ := X.base) I.ok.mod.kin (hk q hq) (thn (ha.run pos pins s1 σ H _ I1 h) fun us s2 ⟨vs, H2, I2, r, z⟩ => ⟨I2.kIn, ?_⟩) he hpl
  exact wpAny_call (run_fnR (F q hq) hr hx I2 r z)
end Hd

set_option maxHeartbeats 4000000
/-! a head's facts over chosen objects alone; its equation in three parts -/
namespace Hd
open PySem PySem.Spec PyProof.Rows L2 He
/-- what the objects at as name -/
def nextO (g : Addr → Option Obj) (as : List Addr) : List Addr := as.flatMap fun a => match g a with
  | some o => refsD o
  | none => []
/-- some names' objects (defs, tuples) and what they name; some classes to their methods' code -/
def asS (g : Addr → Option Obj) (ds cs : List Str) : List Addr :=
  let d := ds.map (ga (frG g [mainGlobals]))
  let c := cs.map (ga (frG g [mainGlobals]))
  mainGlobals :: (d ++ (nextO g d ++ (c ++ (nextO g c ++ (nextO g (nextO g c) ++ nextO g (nextO g (nextO g c)))))))
structure Ask where
  fa : List Fa
  fn : List DefD
  tf : List Defn
  ex : PySem.W.Frag → Bool
  ds : List Str
  cs : List Str
def Ask.K (q : Ask) (g : Addr → Option Obj) : PySem.W.Frag := frT g (asS g q.ds q.cs)
def Ask.obs (q : Ask) (g : Addr → Option Obj) : AlX := (obsT q.fa q.fn [] (q.K g), q.ex (q.K g) && tabsB g q.tf (q.K g))
theorem Ask.says {q : Ask} {w : World} {h : Heap} (e : q.obs h.get? = valX q.fn [] w) : SaysX q.fa q.fn [] q.tf q.ex w h (q.K h.get?) := by
  obtain ⟨e1, e2⟩ := Prod.mk.inj (show (obsT q.fa q.fn [] (q.K h.get?), q.ex (q.K h.get?) && tabsB h.get? q.tf (q.K h.get?)) = (valT q.fn [] w, true) from e)
  rw [Bool.and_eq_true] at e2
  have each : ∀ p ∈ q.tf, PySem.W.codeHdIn (q.K h.get?) (cT (q.K h.get?) p).1 (cT (q.K h.get?) p).2 = true ∧ ∃ o, h.get? (cT (q.K h.get?) p).2 = some o ∧ emptyTab o = true := by
    intro p m
    have z := List.all_eq_true.mp e2.2 p m
    rw [Bool.and_eq_true] at z
    refine ⟨z.1, ?_⟩
    have z2 := z.2
    split at z2
    · rename_i o ho
      exact ⟨o, ho, z2⟩
    · cases z2
  constructor
  · exact e1
  · exact e2.1
  · exact fun p m => (each p m).1
  · exact fun p m => let ⟨_, o, a, b⟩ := each p m; frT_none a b
  · exact fun p m => let ⟨_, o, a, b⟩ := each p m; by rw [a, emptyTab_eq b]
def Ask.hook (q : Ask) : PySem.W.Hook where
  α := AlX
  obs := fun s => q.obs s.heap.get?
  val := fun w => valX q.fn [] w
  says := fun w h => ∃ K : PySem.W.Frag, K.In h ∧ SaysX q.fa q.fn [] q.tf q.ex w h K
  of := fun _ _ e => ⟨_, frT_in, Ask.says e⟩
  keeps := fun _ _ _ z k => z.elim fun K ⟨a, c⟩ => ⟨K, PySem.W.Frag.In.keeps a k, { c with empty := fun p m => k _ _ (c.empty p m) }⟩
def Ask.ob (q : Ask) (s : PySem.W.SharedT) : AlX := q.obs (HandSHeadRun.getT s)
theorem Ask.ob_eq (q : Ask) (s : PySem.W.SharedT) : q.ob s = q.hook.obs s.abs := by
  have e : HandSHeadRun.getT s = s.abs.heap.get? := funext (HandSHeadRun.getT_eq s)
  show q.obs (HandSHeadRun.getT s) = q.obs s.abs.heap.get?
  rw [e]
/-- three looks at one run -/
theorem three {β γ1 γ2 γ3 : Type} {o : Option β} {f1 : β → γ1} {f2 : β → γ2} {f3 : β → γ3} {a1 : γ1} {a2 : γ2} {a3 : γ3} (h1 : o.map f1 = some a1) (h2 : o.map f2 = some a2) (h3 : o.map f3 = some a3) : o.map (fun x => (f1 x, f2 x, f3 x)) = some (a1, a2, a3) := by
  cases o with
  | none => cases h1
  | some x =>
    cases h1
    cases h2
    cases h3
    rfl
noncomputable abbrev headRun (r : PySem.W.OpenRow) (M : Nat) (w : World) : Option (Shared × PySem.W.SharedT) := HandSHeadRun.wholeF (fun p => HandSHeadRun.stepQ (HandSHeadRun.denQ HandSHeadRun.tabQ) p w) HandSHeadRun.fenceQ M r.prog
end Hd

set_option maxHeartbeats 4000000
namespace Hd
open PySem PySem.Spec PyProof.Rows L2 Evl
/-! ### own error classes with a field, by Bools -/
def ownExcB (K : PySem.W.Frag) (C : Addr) : Bool := match K.lookup C with
  | some o => (match o.cls, o.data with
    | .type t, .cls cd => decide (t = "type") && ((match cd.mro with | .ref z :: bm => decide (z = C) && PySem.HandSPX.refsVE bm | _ => false) && ((match o.slots.toList with | [_, _, _, _, some (.builtin z), _] => decide (z = "ValueError.__new__") | _ => false) && (cd.hasDict && !cd.hasDel)))
    | _, _ => false)
  | none => false
theorem ownExcB_ok {K : PySem.W.Frag} {C : Addr} (h : ownExcB K C = true) : ∃ nm q N bs bm sn sub ab col dd k0 k1 k2 k3 k5, K.lookup C = some (excClassObj nm q C N bs bm true sn sub ab col dd k0 k1 k2 k3 k5 "ValueError.__new__") ∧ PySem.HandSPX.refsVE bm = true := by
  unfold ownExcB at h
  cases e : K.lookup C with
  | none =>
    rw [e] at h
    cases h
  | some o =>
    rw [e] at h
    obtain ⟨oc, od, dt, osl⟩ := o
    cases oc with
    | type t =>
      cases dt with
      | cls cd =>
        simp only [Bool.and_eq_true, decide_eq_true_eq] at h
        obtain ⟨rfl, h1, h2, h3, h4⟩ := h
        obtain ⟨nm, bs, mro, N, qn, hd, sn, sub, ab, col, del⟩ := cd
        simp only at h1 h2 h3 h4
        subst h3
        have h4' : del = false := by simpa using h4
        subst h4'
        split at h1
        · rename_i z bm
          rw [Bool.and_eq_true] at h1
          obtain ⟨g1, g2⟩ := h1
          have g1' := of_decide_eq_true g1
          subst g1'
          split at h2
          · rename_i k0 k1 k2 k3 z5 k5 hs
            have g5 := of_decide_eq_true h2
            subst g5
            have hsl : osl = #[k0, k1, k2, k3, some (.builtin "ValueError.__new__"), k5] := by
              obtain ⟨l⟩ := osl
              exact congrArg Array.mk hs
            subst hsl
            exact ⟨nm, qn, N, bs, bm, sn, sub, ab, col, od, k0, k1, k2, k3, k5, rfl, g2⟩
          · cases h2
        · cases h1
      | _ => cases h
    | _ => cases dt <;> cases h
def oexB (K : PySem.W.Frag) (C : Addr) : Bool := ownExcB K C && (decide (PySem.W.findIn K (.ref C) "__setattr__" = some (some (.builtin "object.__setattr__"))) && (decide (PySem.W.subIn K (.ref C) (.type "BaseException") = some true) && (decide (PySem.W.typeIn K (.ref C) = some (.type "type")) && PySem.W.keepIn K (.ref C))))
theorem oexB_ok {K : PySem.W.Frag} {C : Addr} (h : oexB K C = true) : OexC K C := by
  unfold oexB at h
  simp only [Bool.and_eq_true, decide_eq_true_eq] at h
  obtain ⟨h1, h2, h3, h4, h5⟩ := h
  exact ⟨ownExcB_ok h1, h2, h3, h4, h5⟩
/-- a whole number at a name of the module -/
def gIntB (K : PySem.W.Frag) (x : Str) (i : Int) : Bool := match PySem.W.nsIn K mainGlobals x with
  | some (some (.int j _)) => decide (j = i)
  | _ => false
theorem gIntB_ok {K : PySem.W.Frag} {mg : Str → Option Value} {h : Heap} {x : Str} {i : Int} (X : K.In h) (G : h.Ns mainGlobals mg) (e : gIntB K x i = true) : ∃ tk, mg x = some (.int i tk) := by
  unfold gIntB at e
  split at e
  · rename_i j tk hj
    obtain rfl := of_decide_eq_true e
    exact ⟨tk, PySem.W.mg_of X G hj⟩
  · cases e
/-- a built-in of another module at a name -/
def gBltB (K : PySem.W.Frag) (x : Str) (b : String) : Bool := decide (PySem.W.nsIn K mainGlobals x = some (some (.builtin b)))
theorem gBltB_ok {K : PySem.W.Frag} {mg : Str → Option Value} {h : Heap} {x : Str} {b : String} (X : K.In h) (G : h.Ns mainGlobals mg) (e : gBltB K x b = true) : mg x = some (.builtin b) := PySem.W.mg_of X G (of_decide_eq_true e)
/-- an own error class with one field, and its __init__ -/
def ownB (K : PySem.W.Frag) (x : Str) : Bool := oexB K (He.ga K x) && (xfB K (He.ga K x) && decide (PySem.W.typeIn K (.ref (He.ma K (He.ga K x) "__init__")) = some (.type "function")))
theorem ownB_ok {K : PySem.W.Frag} {x : Str} (e : ownB K x = true) : OexC K (He.ga K x) ∧ XfC K (He.ga K x) ∧ PySem.W.typeIn K (.ref (He.ma K (He.ga K x) "__init__")) = some (.type "function") := by
  unfold ownB at e
  simp only [Bool.and_eq_true, decide_eq_true_eq] at e
  exact ⟨oexB_ok e.1, xfB_ok e.2.1, e.2.2⟩
end Hd

set_option maxHeartbeats 4000000
namespace K10
open PySem PySem.Spec PyProof.Rows L2 Hd
/-! ### the text -/
def topS (i : Nat) : Stmt := PySem.Challenge.pw_hushdrawers_k10_stores_refused.main.body.getD i (.Pass ⟨0, 0, 0, 0⟩)
abbrev c_DrawerError : Stmt := topS 2
abbrev c_BadHouse : Stmt := topS 3
abbrev s_BadHouse___init__ : Stmt := inClass (topS 3) 0
abbrev n_BadHouse___init__ : List Str := ["self", "word"]
theorem sc_BadHouse___init__ : FnScope n_BadHouse___init__ ["self", "word"] (defScope s_BadHouse___init__) := ⟨rfl, rfl, rfl, by decide +kernel, rfl, by decide +kernel, by decide +kernel⟩
abbrev c_BadStory : Stmt := topS 4
abbrev s_BadStory___init__ : Stmt := inClass (topS 4) 0
abbrev n_BadStory___init__ : List Str := ["self", "index"]
theorem sc_BadStory___init__ : FnScope n_BadStory___init__ ["self", "index"] (defScope s_BadStory___init__) := ⟨rfl, rfl, rfl, by decide +kernel, rfl, by decide +kernel, by decide +kernel⟩
abbrev c_BadLife : Stmt := topS 5
abbrev s_BadLife___init__ : Stmt := inClass (topS 5) 0
abbrev n_BadLife___init__ : List Str := ["self", "index"]
theorem sc_BadLife___init__ : FnScope n_BadLife___init__ ["self", "index"] (defScope s_BadLife___init__) := ⟨rfl, rfl, rfl, by decide +kernel, rfl, by decide +kernel, by decide +kernel⟩
abbrev c_BadCoins : Stmt := topS 6
abbrev s_BadCoins___init__ : Stmt := inClass (topS 6) 0
abbrev n_BadCoins___init__ : List Str := ["self", "index"]
theorem sc_BadCoins___init__ : FnScope n_BadCoins___init__ ["self", "index"] (defScope s_BadCoins___init__) := ⟨rfl, rfl, rfl, by decide +kernel, rfl, by decide +kernel, by decide +kernel⟩
abbrev c_BadDrawer : Stmt := topS 7
abbrev c_BadPage : Stmt := topS 8
abbrev c_BadTimes : Stmt := topS 9
abbrev c_BadNumber : Stmt := topS 10
abbrev c_TooMany : Stmt := topS 11
abbrev s_TooMany___init__ : Stmt := inClass (topS 11) 0
abbrev n_TooMany___init__ : List Str := ["self", "most"]
theorem sc_TooMany___init__ : FnScope n_TooMany___init__ ["self", "most"] (defScope s_TooMany___init__) := ⟨rfl, rfl, rfl, by decide +kernel, rfl, by decide +kernel, by decide +kernel⟩
abbrev s_is_number : Stmt := topS 15
abbrev n_is_number : List Str := ["value", "least", "most"]
theorem sc_is_number : FnScope n_is_number ["value", "least", "most"] (defScope s_is_number) := ⟨rfl, rfl, rfl, by decide +kernel, rfl, by decide +kernel, by decide +kernel⟩
abbrev s_check_number : Stmt := topS 16
abbrev n_check_number : List Str := ["value", "least", "most"]
theorem sc_check_number : FnScope n_check_number ["value", "least", "most"] (defScope s_check_number) := ⟨rfl, rfl, rfl, by decide +kernel, rfl, by decide +kernel, by decide +kernel⟩
abbrev s_wrong_word : Stmt := topS 17
abbrev n_wrong_word : List Str := ["value", "cells", "sealed", "drawers", "pages", "copies"]
theorem sc_wrong_word : FnScope n_wrong_word ["value"] (defScope s_wrong_word) := ⟨rfl, rfl, rfl, by decide +kernel, rfl, by decide +kernel, by decide +kernel⟩
abbrev s_check_house : Stmt := topS 18
abbrev n_check_house : List Str := ["house", "word"]
theorem sc_check_house : FnScope n_check_house ["house"] (defScope s_check_house) := ⟨rfl, rfl, rfl, by decide +kernel, rfl, by decide +kernel, by decide +kernel⟩
abbrev s_is_drawer : Stmt := topS 19
abbrev n_is_drawer : List Str := ["house", "value"]
theorem sc_is_drawer : FnScope n_is_drawer ["house", "value"] (defScope s_is_drawer) := ⟨rfl, rfl, rfl, by decide +kernel, rfl, by decide +kernel, by decide +kernel⟩
abbrev s_check_drawer : Stmt := topS 20
abbrev n_check_drawer : List Str := ["house", "drawer"]
theorem sc_check_drawer : FnScope n_check_drawer ["house", "drawer"] (defScope s_check_drawer) := ⟨rfl, rfl, rfl, by decide +kernel, rfl, by decide +kernel, by decide +kernel⟩
abbrev s_is_page : Stmt := topS 21
abbrev n_is_page : List Str := ["house", "value"]
theorem sc_is_page : FnScope n_is_page ["house", "value"] (defScope s_is_page) := ⟨rfl, rfl, rfl, by decide +kernel, rfl, by decide +kernel, by decide +kernel⟩
abbrev s_check_page : Stmt := topS 22
abbrev n_check_page : List Str := ["house", "page"]
theorem sc_check_page : FnScope n_check_page ["house", "page"] (defScope s_check_page) := ⟨rfl, rfl, rfl, by decide +kernel, rfl, by decide +kernel, by decide +kernel⟩
abbrev s_coin_count : Stmt := topS 23
abbrev n_coin_count : List Str := ["house"]
theorem sc_coin_count : FnScope n_coin_count ["house"] (defScope s_coin_count) := ⟨rfl, rfl, rfl, by decide +kernel, rfl, by decide +kernel, by decide +kernel⟩
abbrev s_is_coin : Stmt := topS 24
abbrev n_is_coin : List Str := ["house", "value"]
theorem sc_is_coin : FnScope n_is_coin ["house", "value"] (defScope s_is_coin) := ⟨rfl, rfl, rfl, by decide +kernel, rfl, by decide +kernel, by decide +kernel⟩
abbrev s_drawn : Stmt := topS 25
abbrev n_drawn : List Str := ["house", "coin", "cells", "sealed", "chosen", "ahead", "cell", "many"]
theorem sc_drawn : FnScope n_drawn ["house", "coin"] (defScope s_drawn) := ⟨rfl, rfl, rfl, by decide +kernel, rfl, by decide +kernel, by decide +kernel⟩
abbrev s_is_cell_set : Stmt := topS 26
abbrev n_is_cell_set : List Str := ["house", "value", "least", "cell"]
theorem sc_is_cell_set : FnScope n_is_cell_set ["house", "value"] (defScope s_is_cell_set) := ⟨rfl, rfl, rfl, by decide +kernel, rfl, by decide +kernel, by decide +kernel⟩
abbrev s_coin_of : Stmt := topS 27
abbrev n_coin_of : List Str := ["house", "cells", "coin", "least", "at", "cell", "lesser"]
theorem sc_coin_of : FnScope n_coin_of ["house", "cells"] (defScope s_coin_of) := ⟨rfl, rfl, rfl, by decide +kernel, rfl, by decide +kernel, by decide +kernel⟩
abbrev s_power : Stmt := topS 29
abbrev n_power : List Str := ["base", "many", "result", "_"]
theorem sc_power : FnScope n_power ["base", "many"] (defScope s_power) := ⟨rfl, rfl, rfl, by decide +kernel, rfl, by decide +kernel, by decide +kernel⟩
abbrev s_rows_of : Stmt := topS 30
abbrev n_rows_of : List Str := ["values", "many", "rows", "_", "row", "value"]
theorem sc_rows_of : FnScope n_rows_of ["values", "many"] (defScope s_rows_of) := ⟨rfl, rfl, rfl, by decide +kernel, rfl, by decide +kernel, by decide +kernel⟩
abbrev s_coin_rows : Stmt := topS 31
abbrev n_coin_rows : List Str := ["house", "many"]
theorem sc_coin_rows : FnScope n_coin_rows ["house", "many"] (defScope s_coin_rows) := ⟨rfl, rfl, rfl, by decide +kernel, rfl, by decide +kernel, by decide +kernel⟩
abbrev s_lowest : Stmt := topS 32
abbrev n_lowest : List Str := ["numerator", "denominator", "shared"]
theorem sc_lowest : FnScope n_lowest ["numerator", "denominator"] (defScope s_lowest) := ⟨rfl, rfl, rfl, by decide +kernel, rfl, by decide +kernel, by decide +kernel⟩
abbrev s_is_deed : Stmt := topS 37
abbrev n_is_deed : List Str := ["house", "value", "drawer", "page", "content"]
theorem sc_is_deed : FnScope n_is_deed ["house", "value"] (defScope s_is_deed) := ⟨rfl, rfl, rfl, by decide +kernel, rfl, by decide +kernel, by decide +kernel⟩
abbrev s_is_moment : Stmt := topS 38
abbrev n_is_moment : List Str := ["house", "value", "deed"]
theorem sc_is_moment : FnScope n_is_moment ["house", "value"] (defScope s_is_moment) := ⟨rfl, rfl, rfl, by decide +kernel, rfl, by decide +kernel, by decide +kernel⟩
abbrev s_check_story : Stmt := topS 39
abbrev n_check_story : List Str := ["house", "story", "at", "moment"]
theorem sc_check_story : FnScope n_check_story ["house", "story"] (defScope s_check_story) := ⟨rfl, rfl, rfl, by decide +kernel, rfl, by decide +kernel, by decide +kernel⟩
abbrev s_is_story : Stmt := topS 40
abbrev n_is_story : List Str := ["house", "value"]
theorem sc_is_story : FnScope n_is_story ["house", "value"] (defScope s_is_story) := ⟨rfl, rfl, rfl, by decide +kernel, rfl, by decide +kernel, by decide +kernel⟩
abbrev s_is_session : Stmt := topS 41
abbrev n_is_session : List Str := ["house", "value", "deepest", "story", "moment", "deed"]
theorem sc_is_session : FnScope n_is_session ["house", "value"] (defScope s_is_session) := ⟨rfl, rfl, rfl, by decide +kernel, rfl, by decide +kernel, by decide +kernel⟩
abbrev s_check_life : Stmt := topS 42
abbrev n_check_life : List Str := ["house", "life", "moments", "at", "session"]
theorem sc_check_life : FnScope n_check_life ["house", "life"] (defScope s_check_life) := ⟨rfl, rfl, rfl, by decide +kernel, rfl, by decide +kernel, by decide +kernel⟩
abbrev s_is_life : Stmt := topS 43
abbrev n_is_life : List Str := ["house", "value"]
theorem sc_is_life : FnScope n_is_life ["house", "value"] (defScope s_is_life) := ⟨rfl, rfl, rfl, by decide +kernel, rfl, by decide +kernel, by decide +kernel⟩
abbrev s_moment_count : Stmt := topS 44
abbrev n_moment_count : List Str := ["life", "session"]
theorem sc_moment_count : FnScope n_moment_count ["life"] (defScope s_moment_count) := ⟨rfl, rfl, rfl, by decide +kernel, rfl, by decide +kernel, by decide +kernel⟩
abbrev s_check_coins : Stmt := topS 45
abbrev n_check_coins : List Str := ["house", "life", "coins", "at", "coin"]
theorem sc_check_coins : FnScope n_check_coins ["house", "life", "coins"] (defScope s_check_coins) := ⟨rfl, rfl, rfl, by decide +kernel, rfl, by decide +kernel, by decide +kernel⟩
abbrev s_upper_moment : Stmt := topS 46
abbrev n_upper_moment : List Str := ["moment", "drawer", "deed"]
theorem sc_upper_moment : FnScope n_upper_moment ["moment", "drawer"] (defScope s_upper_moment) := ⟨rfl, rfl, rfl, by decide +kernel, rfl, by decide +kernel, by decide +kernel⟩
abbrev s_above : Stmt := topS 47
abbrev n_above : List Str := ["life", "drawer", "sessions", "deepest", "story", "moments", "moment"]
theorem sc_above : FnScope n_above ["life", "drawer"] (defScope s_above) := ⟨rfl, rfl, rfl, by decide +kernel, rfl, by decide +kernel, by decide +kernel⟩
abbrev s_upper : Stmt := topS 48
abbrev n_upper : List Str := ["house", "life", "drawer"]
theorem sc_upper : FnScope n_upper ["house", "life", "drawer"] (defScope s_upper) := ⟨rfl, rfl, rfl, by decide +kernel, rfl, by decide +kernel, by decide +kernel⟩
abbrev s_alike_above : Stmt := topS 49
abbrev n_alike_above : List Str := ["house", "one", "other", "drawer"]
theorem sc_alike_above : FnScope n_alike_above ["house", "one", "other", "drawer"] (defScope s_alike_above) := ⟨rfl, rfl, rfl, by decide +kernel, rfl, by decide +kernel, by decide +kernel⟩
abbrev s_check_way : Stmt := topS 52
abbrev n_check_way : List Str := ["way"]
theorem sc_check_way : FnScope n_check_way ["way"] (defScope s_check_way) := ⟨rfl, rfl, rfl, by decide +kernel, rfl, by decide +kernel, by decide +kernel⟩
abbrev c_Store : Stmt := topS 53
abbrev s_Store___init__ : Stmt := inClass (topS 53) 0
abbrev n_Store___init__ : List Str := ["self", "house", "way", "cells", "_", "pages", "copies"]
theorem sc_Store___init__ : FnScope n_Store___init__ ["self", "house", "way"] (defScope s_Store___init__) := ⟨rfl, rfl, rfl, by decide +kernel, rfl, by decide +kernel, by decide +kernel⟩
abbrev s_Store_begin : Stmt := inClass (topS 53) 1
abbrev n_Store_begin : List Str := ["self", "deepest", "held", "drawer"]
theorem sc_Store_begin : FnScope n_Store_begin ["self", "deepest"] (defScope s_Store_begin) := ⟨rfl, rfl, rfl, by decide +kernel, rfl, by decide +kernel, by decide +kernel⟩
abbrev s_Store_learn : Stmt := inClass (topS 53) 2
abbrev n_Store_learn : List Str := ["self", "held", "drawer", "page", "version", "content"]
theorem sc_Store_learn : FnScope n_Store_learn ["self", "held"] (defScope s_Store_learn) := ⟨rfl, rfl, rfl, by decide +kernel, rfl, by decide +kernel, by decide +kernel⟩
abbrev s_Store_missing : Stmt := inClass (topS 53) 3
abbrev n_Store_missing : List Str := ["self", "drawer", "live", "row", "page", "cell", "held"]
theorem sc_Store_missing : FnScope n_Store_missing ["self", "drawer"] (defScope s_Store_missing) := ⟨rfl, rfl, rfl, by decide +kernel, rfl, by decide +kernel, by decide +kernel⟩
abbrev s_Store_is_live : Stmt := inClass (topS 53) 4
abbrev n_Store_is_live : List Str := ["self", "cell", "drawer", "page", "version", "content"]
theorem sc_Store_is_live : FnScope n_Store_is_live ["self", "cell"] (defScope s_Store_is_live) := ⟨rfl, rfl, rfl, by decide +kernel, rfl, by decide +kernel, by decide +kernel⟩
abbrev s_Store_put : Stmt := inClass (topS 53) 5
abbrev n_Store_put : List Str := ["self", "drawer", "page", "content", "version", "_", "row"]
theorem sc_Store_put : FnScope n_Store_put ["self", "drawer", "page", "content"] (defScope s_Store_put) := ⟨rfl, rfl, rfl, by decide +kernel, rfl, by decide +kernel, by decide +kernel⟩
abbrev s_Store_seal : Stmt := inClass (topS 53) 6
abbrev n_Store_seal : List Str := ["self", "drawn_cells", "fresh", "live", "taken", "drawer", "cell"]
theorem sc_Store_seal : FnScope n_Store_seal ["self", "drawn_cells"] (defScope s_Store_seal) := ⟨rfl, rfl, rfl, by decide +kernel, rfl, by decide +kernel, by decide +kernel⟩
abbrev s_Store_sealed_of : Stmt := inClass (topS 53) 7
abbrev n_Store_sealed_of : List Str := ["self", "drawn_cells", "many", "row", "cell"]
theorem sc_Store_sealed_of : FnScope n_Store_sealed_of ["self", "drawn_cells"] (defScope s_Store_sealed_of) := ⟨rfl, rfl, rfl, by decide +kernel, rfl, by decide +kernel, by decide +kernel⟩
abbrev s_Store_sequence : Stmt := inClass (topS 53) 8
abbrev n_Store_sequence : List Str := ["self", "drawers"]
theorem sc_Store_sequence : FnScope n_Store_sequence ["self"] (defScope s_Store_sequence) := ⟨rfl, rfl, rfl, by decide +kernel, rfl, by decide +kernel, by decide +kernel⟩
abbrev s_Store_take_again : Stmt := inClass (topS 53) 9
abbrev n_Store_take_again : List Str := ["self", "drawer", "live", "taken", "cell", "held"]
theorem sc_Store_take_again : FnScope n_Store_take_again ["self", "drawer", "live", "taken"] (defScope s_Store_take_again) := ⟨rfl, rfl, rfl, by decide +kernel, rfl, by decide +kernel, by decide +kernel⟩
abbrev s_Store_take_bare : Stmt := inClass (topS 53) 10
abbrev n_Store_take_bare : List Str := ["self", "drawer", "fresh", "live", "taken", "row", "cell", "is_shut", "page", "version", "content"]
theorem sc_Store_take_bare : FnScope n_Store_take_bare ["self", "drawer", "fresh", "live", "taken"] (defScope s_Store_take_bare) := ⟨rfl, rfl, rfl, by decide +kernel, rfl, by decide +kernel, by decide +kernel⟩
abbrev s_check_run : Stmt := topS 55
abbrev n_check_run : List Str := ["house", "way", "life", "coins"]
theorem sc_check_run : FnScope n_check_run ["house", "way", "life", "coins"] (defScope s_check_run) := ⟨rfl, rfl, rfl, by decide +kernel, rfl, by decide +kernel, by decide +kernel⟩
abbrev s_check_key : Stmt := topS 56
abbrev n_check_key : List Str := ["house", "life", "drawer"]
theorem sc_check_key : FnScope n_check_key ["house", "life", "drawer"] (defScope s_check_key) := ⟨rfl, rfl, rfl, by decide +kernel, rfl, by decide +kernel, by decide +kernel⟩
abbrev s_run : Stmt := topS 57
abbrev n_run : List Str := ["house", "way", "life", "coins", "store", "history", "deepest", "story", "moment", "drawer", "page", "content", "coin", "sealed"]
theorem sc_run : FnScope n_run ["house", "way", "life", "coins"] (defScope s_run) := ⟨rfl, rfl, rfl, by decide +kernel, rfl, by decide +kernel, by decide +kernel⟩
abbrev s_read : Stmt := topS 58
abbrev n_read : List Str := ["house", "way", "life", "coins", "drawer", "page", "store", "_"]
theorem sc_read : FnScope n_read ["house", "way", "life", "coins", "drawer", "page"] (defScope s_read) := ⟨rfl, rfl, rfl, by decide +kernel, rfl, by decide +kernel, by decide +kernel⟩
abbrev s_waiting : Stmt := topS 59
abbrev n_waiting : List Str := ["house", "way", "life", "coins", "drawer", "store", "_"]
theorem sc_waiting : FnScope n_waiting ["house", "way", "life", "coins", "drawer"] (defScope s_waiting) := ⟨rfl, rfl, rfl, by decide +kernel, rfl, by decide +kernel, by decide +kernel⟩
abbrev s_places : Stmt := topS 60
abbrev n_places : List Str := ["house", "way", "life", "coins", "drawer", "store", "_", "found", "cell", "held"]
theorem sc_places : FnScope n_places ["house", "way", "life", "coins", "drawer"] (defScope s_places) := ⟨rfl, rfl, rfl, by decide +kernel, rfl, by decide +kernel, by decide +kernel⟩
abbrev s_found_later : Stmt := topS 61
abbrev n_found_later : List Str := ["house", "way", "life", "coins", "drawer", "page", "store", "_"]
theorem sc_found_later : FnScope n_found_later ["house", "way", "life", "coins", "drawer", "page"] (defScope s_found_later) := ⟨rfl, rfl, rfl, by decide +kernel, rfl, by decide +kernel, by decide +kernel⟩
abbrev s_check_times : Stmt := topS 62
abbrev n_check_times : List Str := ["life", "times", "least", "at"]
theorem sc_check_times : FnScope n_check_times ["life", "times"] (defScope s_check_times) := ⟨rfl, rfl, rfl, by decide +kernel, rfl, by decide +kernel, by decide +kernel⟩
abbrev s_opened : Stmt := topS 63
abbrev n_opened : List Str := ["cells", "drawer", "held"]
theorem sc_opened : FnScope n_opened ["cells", "drawer"] (defScope s_opened) := ⟨rfl, rfl, rfl, by decide +kernel, rfl, by decide +kernel, by decide +kernel⟩
abbrev s_seen : Stmt := topS 64
abbrev n_seen : List Str := ["history", "drawer", "times", "shown", "before", "at", "since", "state", "cell"]
theorem sc_seen : FnScope n_seen ["history", "drawer", "times"] (defScope s_seen) := ⟨rfl, rfl, rfl, by decide +kernel, rfl, by decide +kernel, by decide +kernel⟩
abbrev s_view : Stmt := topS 65
abbrev n_view : List Str := ["house", "way", "life", "coins", "drawer", "times", "_", "history"]
theorem sc_view : FnScope n_view ["house", "way", "life", "coins", "drawer", "times"] (defScope s_view) := ⟨rfl, rfl, rfl, by decide +kernel, rfl, by decide +kernel, by decide +kernel⟩
abbrev s_looks : Stmt := topS 66
abbrev n_looks : List Str := ["house", "way", "life", "coins", "drawer", "_", "history"]
theorem sc_looks : FnScope n_looks ["house", "way", "life", "coins", "drawer"] (defScope s_looks) := ⟨rfl, rfl, rfl, by decide +kernel, rfl, by decide +kernel, by decide +kernel⟩
abbrev s_check_rows : Stmt := topS 72
abbrev n_check_rows : List Str := ["house", "moments"]
theorem sc_check_rows : FnScope n_check_rows ["house", "moments"] (defScope s_check_rows) := ⟨rfl, rfl, rfl, by decide +kernel, rfl, by decide +kernel, by decide +kernel⟩
abbrev s_row_count : Stmt := topS 73
abbrev n_row_count : List Str := ["house", "life"]
theorem sc_row_count : FnScope n_row_count ["house", "life"] (defScope s_row_count) := ⟨rfl, rfl, rfl, by decide +kernel, rfl, by decide +kernel, by decide +kernel⟩
abbrev s_check_viewer : Stmt := topS 74
abbrev n_check_viewer : List Str := ["house", "way", "life", "drawer", "times"]
theorem sc_check_viewer : FnScope n_check_viewer ["house", "way", "life", "drawer", "times"] (defScope s_check_viewer) := ⟨rfl, rfl, rfl, by decide +kernel, rfl, by decide +kernel, by decide +kernel⟩
abbrev s_view_counts : Stmt := topS 75
abbrev n_view_counts : List Str := ["house", "way", "life", "drawer", "times", "counts", "coins", "_", "history", "told"]
theorem sc_view_counts : FnScope n_view_counts ["house", "way", "life", "drawer", "times"] (defScope s_view_counts) := ⟨rfl, rfl, rfl, by decide +kernel, rfl, by decide +kernel, by decide +kernel⟩
abbrev s_view_count : Stmt := topS 76
abbrev n_view_count : List Str := ["house", "way", "life", "drawer", "times"]
theorem sc_view_count : FnScope n_view_count ["house", "way", "life", "drawer", "times"] (defScope s_view_count) := ⟨rfl, rfl, rfl, by decide +kernel, rfl, by decide +kernel, by decide +kernel⟩
abbrev s_best_guess : Stmt := topS 77
abbrev n_best_guess : List Str := ["house", "way", "one", "other", "drawer", "times", "first", "second", "right", "told", "many"]
theorem sc_best_guess : FnScope n_best_guess ["house", "way", "one", "other", "drawer", "times"] (defScope s_best_guess) := ⟨rfl, rfl, rfl, by decide +kernel, rfl, by decide +kernel, by decide +kernel⟩
abbrev s_wait_counts : Stmt := topS 78
abbrev n_wait_counts : List Str := ["house", "way", "story", "drawer", "life", "counts", "coins", "store", "_", "many"]
theorem sc_wait_counts : FnScope n_wait_counts ["house", "way", "story", "drawer"] (defScope s_wait_counts) := ⟨rfl, rfl, rfl, by decide +kernel, rfl, by decide +kernel, by decide +kernel⟩
abbrev s_check_waits : Stmt := topS 79
abbrev n_check_waits : List Str := ["house", "way", "story", "drawer"]
theorem sc_check_waits : FnScope n_check_waits ["house", "way", "story", "drawer"] (defScope s_check_waits) := ⟨rfl, rfl, rfl, by decide +kernel, rfl, by decide +kernel, by decide +kernel⟩
abbrev s_waiting_counts : Stmt := topS 80
abbrev n_waiting_counts : List Str := ["house", "way", "story", "drawer"]
theorem sc_waiting_counts : FnScope n_waiting_counts ["house", "way", "story", "drawer"] (defScope s_waiting_counts) := ⟨rfl, rfl, rfl, by decide +kernel, rfl, by decide +kernel, by decide +kernel⟩
abbrev s_more_wait : Stmt := topS 81
abbrev n_more_wait : List Str := ["house", "way", "story", "drawer", "many", "counts"]
theorem sc_more_wait : FnScope n_more_wait ["house", "way", "story", "drawer", "many"] (defScope s_more_wait) := ⟨rfl, rfl, rfl, by decide +kernel, rfl, by decide +kernel, by decide +kernel⟩
abbrev s_last_content : Stmt := topS 82
abbrev n_last_content : List Str := ["life", "drawer", "page", "found", "_", "story", "moment", "deed"]
theorem sc_last_content : FnScope n_last_content ["life", "drawer", "page"] (defScope s_last_content) := ⟨rfl, rfl, rfl, by decide +kernel, rfl, by decide +kernel, by decide +kernel⟩
abbrev s_loss_chance : Stmt := topS 83
abbrev n_loss_chance : List Str := ["house", "life", "drawer", "page", "content", "rows", "lost", "coins", "store", "_", "found"]
theorem sc_loss_chance : FnScope n_loss_chance ["house", "life", "drawer", "page"] (defScope s_loss_chance) := ⟨rfl, rfl, rfl, by decide +kernel, rfl, by decide +kernel, by decide +kernel⟩
abbrev s_lives_on : Stmt := topS 84
abbrev n_lives_on : List Str := ["house", "copies", "moments", "cells", "sealed", "whole", "left", "sign", "many"]
theorem sc_lives_on : FnScope n_lives_on ["house", "copies", "moments"] (defScope s_lives_on) := ⟨rfl, rfl, rfl, by decide +kernel, rfl, by decide +kernel, by decide +kernel⟩
abbrev s_least_cells : Stmt := topS 85
abbrev n_least_cells : List Str := ["house", "story", "drawer", "many", "top", "bottom", "cells", "other", "counts"]
theorem sc_least_cells : FnScope n_least_cells ["house", "story", "drawer", "many", "top", "bottom"] (defScope s_least_cells) := ⟨rfl, rfl, rfl, by decide +kernel, rfl, by decide +kernel, by decide +kernel⟩
abbrev s_check_often : Stmt := topS 89
abbrev n_check_often : List Str := ["is_often"]
theorem sc_check_often : FnScope n_check_often ["is_often"] (defScope s_check_often) := ⟨rfl, rfl, rfl, by decide +kernel, rfl, by decide +kernel, by decide +kernel⟩
abbrev s_shown : Stmt := topS 90
abbrev n_shown : List Str := ["house", "way", "life", "coins", "drawer", "is_often", "_", "history", "times"]
theorem sc_shown : FnScope n_shown ["house", "way", "life", "coins", "drawer", "is_often"] (defScope s_shown) := ⟨rfl, rfl, rfl, by decide +kernel, rfl, by decide +kernel, by decide +kernel⟩
abbrev s_differs : Stmt := topS 91
abbrev n_differs : List Str := ["house", "way", "life", "coins", "drawer", "is_often", "bare", "told"]
theorem sc_differs : FnScope n_differs ["house", "way", "life", "coins", "drawer", "is_often"] (defScope s_differs) := ⟨rfl, rfl, rfl, by decide +kernel, rfl, by decide +kernel, by decide +kernel⟩
abbrev s_is_parted : Stmt := topS 92
abbrev n_is_parted : List Str := ["house", "way", "life", "coins", "drawer", "is_often"]
theorem sc_is_parted : FnScope n_is_parted ["house", "way", "life", "coins", "drawer", "is_often"] (defScope s_is_parted) := ⟨rfl, rfl, rfl, by decide +kernel, rfl, by decide +kernel, by decide +kernel⟩
abbrev s_check_search : Stmt := topS 93
abbrev n_check_search : List Str := ["house", "drawer", "moments", "is_often"]
theorem sc_check_search : FnScope n_check_search ["house", "drawer", "moments", "is_often"] (defScope s_check_search) := ⟨rfl, rfl, rfl, by decide +kernel, rfl, by decide +kernel, by decide +kernel⟩
abbrev s_small_moments : Stmt := topS 94
abbrev n_small_moments : List Str := ["house", "deeds", "drawer", "page", "deed"]
theorem sc_small_moments : FnScope n_small_moments ["house"] (defScope s_small_moments) := ⟨rfl, rfl, rfl, by decide +kernel, rfl, by decide +kernel, by decide +kernel⟩
abbrev s_first_parting : Stmt := topS 95
abbrev n_first_parting : List Str := ["house", "way", "drawer", "moments", "is_often", "many", "rows", "story", "life", "coins"]
theorem sc_first_parting : FnScope n_first_parting ["house", "way", "drawer", "moments", "is_often"] (defScope s_first_parting) := ⟨rfl, rfl, rfl, by decide +kernel, rfl, by decide +kernel, by decide +kernel⟩
abbrev s_parting : Stmt := topS 96
abbrev n_parting : List Str := ["house", "way", "drawer", "moments", "is_often"]
theorem sc_parting : FnScope n_parting ["house", "way", "drawer", "moments", "is_often"] (defScope s_parting) := ⟨rfl, rfl, rfl, by decide +kernel, rfl, by decide +kernel, by decide +kernel⟩
abbrev s_safe_ways : Stmt := topS 97
abbrev n_safe_ways : List Str := ["house", "drawer", "moments", "is_often", "safe", "way"]
theorem sc_safe_ways : FnScope n_safe_ways ["house", "drawer", "moments", "is_often"] (defScope s_safe_ways) := ⟨rfl, rfl, rfl, by decide +kernel, rfl, by decide +kernel, by decide +kernel⟩
abbrev s_deed_text : Stmt := topS 99
abbrev n_deed_text : List Str := ["drawer", "page", "content"]
theorem sc_deed_text : FnScope n_deed_text ["drawer", "page", "content"] (defScope s_deed_text) := ⟨rfl, rfl, rfl, by decide +kernel, rfl, by decide +kernel, by decide +kernel⟩
abbrev s_moment_text : Stmt := topS 100
abbrev n_moment_text : List Str := ["moment", "drawer", "page", "content"]
theorem sc_moment_text : FnScope n_moment_text ["moment"] (defScope s_moment_text) := ⟨rfl, rfl, rfl, by decide +kernel, rfl, by decide +kernel, by decide +kernel⟩
abbrev s_session_lines : Stmt := topS 101
abbrev n_session_lines : List Str := ["session", "deepest", "story", "moment"]
theorem sc_session_lines : FnScope n_session_lines ["session"] (defScope s_session_lines) := ⟨rfl, rfl, rfl, by decide +kernel, rfl, by decide +kernel, by decide +kernel⟩
abbrev s_written : Stmt := topS 102
abbrev n_written : List Str := ["house", "life", "lines", "session", "number", "line"]
theorem sc_written : FnScope n_written ["house", "life"] (defScope s_written) := ⟨rfl, rfl, rfl, by decide +kernel, rfl, by decide +kernel, by decide +kernel⟩
abbrev s__law_taken : Stmt := topS 104
abbrev n__law_taken : List Str := ["row", "many", "found", "cell"]
theorem sc__law_taken : FnScope n__law_taken ["row", "many"] (defScope s__law_taken) := ⟨rfl, rfl, rfl, by decide +kernel, rfl, by decide +kernel, by decide +kernel⟩
abbrev s__law_pick : Stmt := topS 105
abbrev n__law_pick : List Str := ["row", "things"]
theorem sc__law_pick : FnScope n__law_pick ["row", "things"] (defScope s__law_pick) := ⟨rfl, rfl, rfl, by decide +kernel, rfl, by decide +kernel, by decide +kernel⟩
abbrev s__law_alike : Stmt := topS 106
abbrev n__law_alike : List Str := ["found", "due", "k"]
theorem sc__law_alike : FnScope n__law_alike ["found", "due"] (defScope s__law_alike) := ⟨rfl, rfl, rfl, by decide +kernel, rfl, by decide +kernel, by decide +kernel⟩
abbrev s__law_word : Stmt := topS 107
abbrev n__law_word : List Str := ["work", "e"]
theorem sc__law_word : FnScope n__law_word ["work"] (defScope s__law_word) := ⟨rfl, rfl, rfl, by decide +kernel, rfl, by decide +kernel, by decide +kernel⟩
abbrev s__law_houses_refused : Stmt := topS 108
abbrev n__law_houses_refused : List Str := ["bad", "word", "told", "some", "ask"]
theorem sc__law_houses_refused : FnScope n__law_houses_refused ["bad", "word"] (defScope s__law_houses_refused) := ⟨rfl, rfl, rfl, by decide +kernel, rfl, by decide +kernel, by decide +kernel⟩
abbrev s_law : Stmt := topS 109
abbrev n_law : List Str := ["script", "row", "house", "life", "coins", "some", "bad", "word", "none", "index", "told", "ask", "value"]
theorem sc_law : FnScope n_law ["script"] (defScope s_law) := ⟨rfl, rfl, rfl, by decide +kernel, rfl, by decide +kernel, by decide +kernel⟩
end K10

set_option maxHeartbeats 4000000
namespace K10
open PySem PySem.Spec PyProof.Rows L2 Hd
abbrev FnP (K : PySem.W.Frag) (x : Str) (st : Stmt) (f : Addr) (fd : FuncData) : Prop := FunD K x x (defArgs st) (defBody st) (defScope st) [] [] f fd
/-- the built-in names that the module leaves free -/
structure Blt (mg : Str → Option Value) : Prop where
  isinstance : mg "isinstance" = none
  int : mg "int" = none
  bool : mg "bool" = none
  str : mg "str" = none
  tuple : mg "tuple" = none
  list : mg "list" = none
  len : mg "len" = none
  range : mg "range" = none
  enumerate : mg "enumerate" = none
  min : mg "min" = none
  sum : mg "sum" = none
  comb : mg "comb" = some (.builtin "math.comb")
  least : ∃ tk, mg "LEAST_CELLS" = some (.int 2 tk)
  most : ∃ tk, mg "MOST_CELLS" = some (.int 12 tk)
/-! ### values -/
/-- an integer from lo to hi -/
def isNum : V → Int → Int → Bool
  | .int i, lo, hi => decide (lo ≤ i) && decide (i ≤ hi)
  | _, _, _ => false
/-- None, a bool, an int, a text, a list, a tuple: the kind's name -/
inductive KindV (K : PySem.W.Frag) (H : Hp) : V → String → Prop
  | non : KindV K H .non "NoneType"
  | bl (b : Bool) : KindV K H (.bl b) "bool"
  | int (i : Int) : KindV K H (.int i) "int"
  | str (x : Str) : KindV K H (.str x) "str"
  | lst {a : Addr} {xs : List V} (h : H a = some (.lst xs)) : KindV K H (.ref a) "list"
  | tup {a : Addr} {xs : List V} (h : H a = some (.tup xs)) : KindV K H (.ref a) "tuple"
theorem KindV.ty {K : PySem.W.Frag} {H : Hp} {v : V} {s : String} (k : KindV K H v s) : TyX K H v (.type s) := by
  cases k with
  | non => exact .base .non
  | bl b => exact .base (.bl b)
  | int i => exact .base (.int i)
  | str x => exact .base (.str x)
  | lst h => exact .base (.lst h)
  | tup h => exact .base (.tup h)
/-- whether a kind is another -/
def isK (s T : String) : Bool := s == T || (s == "bool" && T == "int")
theorem KindV.is {K : PySem.W.Frag} {H : Hp} {v : V} {s : String} (k : KindV K H v s) (T : String) (hT : T = "int" ∨ T = "bool" ∨ T = "tuple" ∨ T = "list" ∨ T = "str") : kitB s T = some (isK s T) := by
  rcases hT with rfl | rfl | rfl | rfl | rfl <;> cases k <;> decide +kernel
theorem KindV.isI {K : PySem.W.Frag} {H : Hp} {v : V} {s : String} (k : KindV K H v s) : kitB s "int" = some (isK s "int") := k.is "int" (by simp)
theorem KindV.isB {K : PySem.W.Frag} {H : Hp} {v : V} {s : String} (k : KindV K H v s) : kitB s "bool" = some (isK s "bool") := k.is "bool" (by simp)
theorem KindV.isT {K : PySem.W.Frag} {H : Hp} {v : V} {s : String} (k : KindV K H v s) : kitB s "tuple" = some (isK s "tuple") := k.is "tuple" (by simp)
theorem KindV.isL {K : PySem.W.Frag} {H : Hp} {v : V} {s : String} (k : KindV K H v s) : kitB s "list" = some (isK s "list") := k.is "list" (by simp)
theorem KindV.isS {K : PySem.W.Frag} {H : Hp} {v : V} {s : String} (k : KindV K H v s) : kitB s "str" = some (isK s "str") := k.is "str" (by simp)
section
variable {CX : CXT} {P : Program} {w : World} {K : PySem.W.Frag} {mg : Str → Option Value} {base : Heap}
/-! ### is_number -/
def spNumber (K : PySem.W.Frag) : Sp := fun vs H Q _ => ∃ v s lo hi, vs = [v, .int lo, .int hi] ∧ KindV K H v s ∧ Q (.bl (isNum v lo hi)) H
theorem ok_number {f : Addr} {fd : FuncData} (F : FnP K "is_number" s_is_number f fd) (B : Blt mg) : FnOk P w K mg base CX 1 f fd ["value", "least", "most"] (spNumber K) := by
  refine F.ok (CX := CX) sc_is_number (fun vs H Q E h => ?_) (fun cdv A outer s H vs Q E hr h => ?_)
  · obtain ⟨v, k, lo, hi, rfl, _⟩ := h
    rfl
  · obtain ⟨v, k, lo, hi, rfl, hk, q⟩ := h
    refine ⟨_, (pss_one (ps_ret (pe_and (pe_callB call_isS (by rfl) B.isinstance (by decide +kernel) (pa_cons (pv 0) (pa_cons (pe_ty "int" (by rfl) B.int (by decide +kernel)) pa_nil)))
      (pe_and (pe_not (pe_callB call_isS (by rfl) B.isinstance (by decide +kernel) (pa_cons (pv 0) (pa_cons (pe_ty "bool" (by rfl) B.bool (by decide +kernel)) pa_nil)))) (pe_one (pe_chain op_le op_le (pv 1) (pv 0) (pv 2))))))), ?_⟩
    refine ⟨_, rfl, _, _, "int", _, rfl, hk.ty, hk.isI, _, rfl, ?_⟩
    cases hk with
    | non => exact iteF q
    | str x => exact iteF q
    | lst h => exact iteF q
    | tup h => exact iteF q
    | bl b => exact iteT ⟨_, rfl, _, _, "bool", _, rfl, (KindV.bl b).ty, (KindV.bl (K := K) (H := H) b).isB, _, rfl, _, rfl, iteF q⟩
    | int i =>
      refine iteT ⟨_, rfl, _, _, "bool", _, rfl, (KindV.int i).ty, (KindV.int (K := K) (H := H) i).isB, _, rfl, _, rfl, iteT ⟨_, rfl, _, rfl, _, _, rfl, rfl, _, rfl, ?_⟩⟩
      have e : isNum (.int i) lo hi = (decide (lo ≤ i) && decide (i ≤ hi)) := rfl
      rw [e] at q
      refine ite2 (fun h => ⟨_, rfl, _, _, rfl, rfl, ?_⟩) (fun h => ?_)
      · rw [h] at q
        exact q
      · rw [Bool.not_eq_true] at h
        rw [h] at q
        exact q
end
end K10

set_option maxHeartbeats 4000000
namespace K10
open PySem PySem.Spec PyProof.Rows L2 Hd
/-! ### what is wrong with a house -/
def vInt : V → Int
  | .int i => i
  | _ => 0
def optV : Option Str → V
  | none => .non
  | some x => .str x
def wrongOf (c s d p n : V) : Option Str :=
  if isNum c 2 12 = false then some "cells" else if isNum s 1 (vInt c) = false then some "sealed" else if isNum d 1 4 = false then some "drawers" else if isNum p 1 6 = false then some "pages" else if isNum n 1 3 = false then some "copies" else none
def wrong5 : List V → Option Str
  | [c, s, d, p, n] => wrongOf c s d p n
  | _ => some "form"
inductive Wr (K : PySem.W.Frag) (H : Hp) : V → Option Str → Prop
  | out {v : V} {s : String} (k : KindV K H v s) (h : isK s "tuple" = false) : Wr K H v (some "form")
  | tup {a : Addr} {xs : List V} (h : H a = some (.tup xs)) (all : ∀ x ∈ xs, ∃ s, KindV K H x s) : Wr K H (.ref a) (wrong5 xs)
theorem isNum_int {v : V} {lo hi : Int} (h : isNum v lo hi = true) : v = .int (vInt v) := by
  cases v <;> first | rfl | cases h
section
variable {CX : CXT} {P : Program} {w : World} {K : PySem.W.Frag} {mg : Str → Option Value} {base : Heap}
def spWrong (K : PySem.W.Frag) : Sp := fun vs H Q _ => ∃ v o, vs = [v] ∧ Wr K H v o ∧ Q (optV o) H
structure TNum (P : Program) (w : World) (K : PySem.W.Frag) (mg : Str → Option Value) (base : Heap) (f : Addr) (fd : FuncData) : Prop where
  G : FnOk P w K mg base CX0 1 f fd ["value", "least", "most"] (spNumber K)
  m : mg "is_number" = some (.ref f)
  k : PySem.W.keepIn K (.ref f) = true
  b : Binds K fd ["value", "least", "most"] []
theorem ok_wrong {f fN : Addr} {fd fdN : FuncData} (F : FnP K "wrong_word" s_wrong_word f fd) (B : Blt mg) (T : TNum P w K mg base fN fdN) : FnOk P w K mg base CX 2 f fd ["value"] (spWrong K) := by
  refine F.ok (CX := CX) sc_wrong_word (fun vs H Q E h => ?_) (fun cdv A outer s H vs Q E hr h => ?_)
  · obtain ⟨v, o, rfl, _⟩ := h
    rfl
  · obtain ⟨v, o, rfl, hw, q⟩ := h
    obtain ⟨tk2, hl2⟩ := B.least
    obtain ⟨tk12, hl12⟩ := B.most
    refine ⟨_, (pss_cons (ps_if (PW.pt (pw_or (pt_not (pt_val (pe_callB call_isS (by rfl) B.isinstance (by decide +kernel) (pa_cons (pv 0) (pa_cons (pe_ty "tuple" (by rfl) B.tuple (by decide +kernel)) pa_nil))))) (pw_or1 (pt_cmpR op_ne (pe_callB call_len_seq (by rfl) B.len (by decide +kernel) (pa_cons (pv 0) pa_nil)) pe_int (nomark _))))) (pss_one (ps_ret pe_str)) pss_nil)
    (pss_cons (ps_asg (pv 0) (pg_tup rfl (pgs_cons (pg_name (i := 1) sc_wrong_word.nd rfl (Or.inl rfl)) (pgs_cons (pg_name (i := 2) sc_wrong_word.nd rfl (Or.inl rfl)) (pgs_cons (pg_name (i := 3) sc_wrong_word.nd rfl (Or.inl rfl)) (pgs_cons (pg_name (i := 4) sc_wrong_word.nd rfl (Or.inl rfl)) (pgs_cons (pg_name (i := 5) sc_wrong_word.nd rfl (Or.inl rfl)) pgs_nil)))))))
    (pss_cons (ps_if (pt_not (pt_val (pe_call T.G hr (by rfl) T.m T.k T.b .nil pass0 (pa_cons (pv 1) (pa_cons (pe_glob (v := .int 2) rfl hl2 ⟨tk2, rfl⟩) (pa_cons (pe_glob (v := .int 12) rfl hl12 ⟨tk12, rfl⟩) pa_nil)))))) (pss_one (ps_ret pe_str)) pss_nil)
    (pss_cons (ps_if (pt_not (pt_val (pe_call T.G hr (by rfl) T.m T.k T.b .nil pass0 (pa_cons (pv 2) (pa_cons pe_int (pa_cons (pv 1) pa_nil)))))) (pss_one (ps_ret pe_str)) pss_nil)
    (pss_cons (ps_if (pt_not (pt_val (pe_call T.G hr (by rfl) T.m T.k T.b .nil pass0 (pa_cons (pv 3) (pa_cons pe_int (pa_cons pe_int pa_nil)))))) (pss_one (ps_ret pe_str)) pss_nil)
    (pss_cons (ps_if (pt_not (pt_val (pe_call T.G hr (by rfl) T.m T.k T.b .nil pass0 (pa_cons (pv 4) (pa_cons pe_int (pa_cons pe_int pa_nil)))))) (pss_one (ps_ret pe_str)) pss_nil)
    (pss_cons (ps_if (pt_not (pt_val (pe_call T.G hr (by rfl) T.m T.k T.b .nil pass0 (pa_cons (pv 5) (pa_cons pe_int (pa_cons pe_int pa_nil)))))) (pss_one (ps_ret pe_str)) pss_nil)
    (pss_one (ps_ret pe_non))))))))), ?_⟩
    cases hw with
    | @out v sk k hk =>
      refine ⟨_, rfl, _, _, "tuple", _, rfl, k.ty, k.isT, _, rfl, ?_⟩
      rw [hk]
      exact iteT (iteT q)
    | @tup a xs ha all =>
      refine ⟨_, rfl, _, _, "tuple", _, rfl, (KindV.tup ha).ty, (KindV.tup (K := K) ha).isT, _, rfl, iteF ?_⟩
      refine ⟨_, rfl, a, xs, rfl, .inr (SqT.of ha), rfl, _, rfl, ?_⟩
      by_cases h5 : xs.length = 5
      · match xs, h5 with
        | [x1, x2, x3, x4, x5], _ =>
          refine iteF ⟨_, rfl, a, _, rfl, SqT.of ha, rfl, _, _, rfl, _, _, rfl, _, _, rfl, _, _, rfl, _, _, rfl, rfl, ?_⟩
          obtain ⟨k1, g1⟩ := all x1 (by simp)
          obtain ⟨k2, g2⟩ := all x2 (by simp)
          obtain ⟨k3, g3⟩ := all x3 (by simp)
          obtain ⟨k4, g4⟩ := all x4 (by simp)
          obtain ⟨k5, g5⟩ := all x5 (by simp)
          change Q (optV (wrongOf x1 x2 x3 x4 x5)) H at q
          unfold wrongOf at q
          refine ⟨x1, rfl, x1, k1, 2, 12, rfl, g1, _, rfl, ?_⟩
          cases e1 : isNum x1 2 12 with
          | false =>
            rw [if_pos e1] at q
            exact iteT q
          | true =>
            rw [if_neg (by rw [e1]; decide)] at q
            refine iteF ⟨x2, rfl, x1, rfl, x2, k2, 1, vInt x1, by rw [← isNum_int e1] <;> rfl, g2, _, rfl, ?_⟩
            cases e2 : isNum x2 1 (vInt x1) with
            | false =>
              rw [if_pos e2] at q
              exact iteT q
            | true =>
              rw [if_neg (by rw [e2]; decide)] at q
              refine iteF ⟨x3, rfl, x3, k3, 1, 4, rfl, g3, _, rfl, ?_⟩
              cases e3 : isNum x3 1 4 with
              | false =>
                rw [if_pos e3] at q
                exact iteT q
              | true =>
                rw [if_neg (by rw [e3]; decide)] at q
                refine iteF ⟨x4, rfl, x4, k4, 1, 6, rfl, g4, _, rfl, ?_⟩
                cases e4 : isNum x4 1 6 with
                | false =>
                  rw [if_pos e4] at q
                  exact iteT q
                | true =>
                  rw [if_neg (by rw [e4]; decide)] at q
                  refine iteF ⟨x5, rfl, x5, k5, 1, 3, rfl, g5, _, rfl, ?_⟩
                  cases e5 : isNum x5 1 3 with
                  | false =>
                    rw [if_pos e5] at q
                    exact iteT q
                  | true =>
                    rw [if_neg (by rw [e5]; decide)] at q
                    exact iteF q
      · have e : (!decide (V.int (xs.length : Int) = V.int 5)) = true := by
          rw [decide_eq_false (fun z => h5 (by injection z with z; omega))] <;> rfl
        rw [e]
        have e2 : wrong5 xs = some "form" := by
          match xs, h5 with
          | [], _ => rfl
          | [_], _ => rfl
          | [_, _], _ => rfl
          | [_, _, _], _ => rfl
          | [_, _, _, _], _ => rfl
          | [_, _, _, _, _], h => exact absurd rfl h
          | _ :: _ :: _ :: _ :: _ :: _ :: _, _ => rfl
        rw [e2] at q
        exact iteT q
end
end K10

set_option maxHeartbeats 4000000
namespace K10
open PySem PySem.Spec PyProof.Rows L2 Hd Evl
/-! ### houses -/
structure HouseAt (H : Hp) (a : Addr) (n k d p c : Nat) : Prop where
  at_ : H a = some (.tup [.int n, .int k, .int d, .int p, .int c])
  n2 : 2 ≤ n
  n12 : n ≤ 12
  k1 : 1 ≤ k
  kn : k ≤ n
  d1 : 1 ≤ d
  d4 : d ≤ 4
  p1 : 1 ≤ p
  p6 : p ≤ 6
  c1 : 1 ≤ c
  c3 : c ≤ 3
theorem HouseAt.ex {H H' : Hp} {a : Addr} {n k d p c : Nat} (h : HouseAt H a n k d p c) (e : Ex H H') : HouseAt H' a n k d p c := { h with at_ := e _ _ h.at_ }
theorem num_of {v : V} {lo hi : Int} (h : isNum v lo hi = true) (h0 : 0 ≤ lo) : ∃ i : Nat, v = .int i ∧ lo ≤ i ∧ (i : Int) ≤ hi := by
  cases v with
  | int i =>
    have h1 : (decide (lo ≤ i) && decide (i ≤ hi)) = true := h
    rw [Bool.and_eq_true] at h1
    have a := of_decide_eq_true h1.1
    have b := of_decide_eq_true h1.2
    exact ⟨i.toNat, by rw [Int.toNat_of_nonneg (by omega)], by omega, by omega⟩
  | _ => cases h
theorem isNum_nat {i : Nat} {lo hi : Int} : isNum (.int (i : Int)) lo hi = (decide (lo ≤ (i : Int)) && decide ((i : Int) ≤ hi)) := rfl
theorem wrongOf_none {c s d p n : V} (h : wrongOf c s d p n = none) : isNum c 2 12 = true ∧ isNum s 1 (vInt c) = true ∧ isNum d 1 4 = true ∧ isNum p 1 6 = true ∧ isNum n 1 3 = true := by
  unfold wrongOf at h
  cases e1 : isNum c 2 12 <;> rw [e1] at h <;> first | cases h | skip
  cases e2 : isNum s 1 (vInt c) <;> rw [e2] at h <;> first | cases h | skip
  cases e3 : isNum d 1 4 <;> rw [e3] at h <;> first | cases h | skip
  cases e4 : isNum p 1 6 <;> rw [e4] at h <;> first | cases h | skip
  cases e5 : isNum n 1 3 <;> rw [e5] at h <;> first | cases h | skip
  exact ⟨rfl, rfl, rfl, rfl, rfl⟩
theorem Wr.house {K : PySem.W.Frag} {H : Hp} {v : V} (h : Wr K H v none) : ∃ a n k d p c, v = .ref a ∧ HouseAt H a n k d p c := by
  generalize e : (none : Option Str) = o at h
  cases h with
  | out k h => cases e
  | @tup a xs ha all =>
    match xs with
    | [x1, x2, x3, x4, x5] =>
      have e' : none = wrongOf x1 x2 x3 x4 x5 := e
      obtain ⟨h1, h2, h3, h4, h5⟩ := wrongOf_none e'.symm
      obtain ⟨n, rfl, a1, b1⟩ := num_of h1 (by decide)
      obtain ⟨k, rfl, a2, b2⟩ := num_of h2 (by decide)
      obtain ⟨d, rfl, a3, b3⟩ := num_of h3 (by decide)
      obtain ⟨p, rfl, a4, b4⟩ := num_of h4 (by decide)
      obtain ⟨c, rfl, a5, b5⟩ := num_of h5 (by decide)
      have b2' : (k : Int) ≤ (n : Int) := b2
      exact ⟨a, n, k, d, p, c, rfl, ⟨ha, by omega, by omega, by omega, by omega, by omega, by omega, by omega, by omega, by omega, by omega⟩⟩
    | [] => cases e
    | [_] => cases e
    | [_, _] => cases e
    | [_, _, _] => cases e
    | [_, _, _, _] => cases e
    | _ :: _ :: _ :: _ :: _ :: _ :: _ => cases e
theorem HouseAt.wr {K : PySem.W.Frag} {H : Hp} {a : Addr} {n k d p c : Nat} (h : HouseAt H a n k d p c) : Wr K H (.ref a) none := by
  have e : wrong5 [.int n, .int k, .int d, .int p, .int c] = none := by
    show wrongOf (.int n) (.int k) (.int d) (.int p) (.int c) = none
    unfold wrongOf
    have t : ∀ {i : Nat} {lo hi : Int}, lo ≤ i → (i : Int) ≤ hi → isNum (.int (i : Int)) lo hi = true := fun h1 h2 => by
      rw [isNum_nat, decide_eq_true h1, decide_eq_true h2] <;> rfl
    have := h.n2; have := h.n12; have := h.k1; have := h.kn; have := h.d1; have := h.d4; have := h.p1; have := h.p6; have := h.c1; have := h.c3
    rw [t (i := n) (lo := 2) (hi := 12) (by omega) (by omega), t (i := k) (lo := 1) (hi := vInt (.int n)) (by omega) (by show (k : Int) ≤ (n : Int); omega), t (i := d) (lo := 1) (hi := 4) (by omega) (by omega), t (i := p) (lo := 1) (hi := 6) (by omega) (by omega), t (i := c) (lo := 1) (hi := 3) (by omega) (by omega)] <;> rfl
  rw [← e]
  refine .tup h.at_ fun x hx => ?_
  simp only [List.mem_cons, List.mem_nil_iff, or_false] at hx
  rcases hx with rfl | rfl | rfl | rfl | rfl <;> exact ⟨_, .int _⟩
/-- BadHouse(x) leaves a def -/
def Refuses (CB : Addr) (E : XK) (H : Hp) (x : Str) : Prop := ∀ d H', Ex H H' → H d = none → H' d = some (.xd [("word", .str x)]) → E (.ref CB) (some d) H'
section
variable {CX : CXT} {P : Program} {w : World} {K : PySem.W.Frag} {mg : Str → Option Value} {base : Heap} {CB CN : Addr}
/-! ### BadHouse.__init__ -/
theorem ok_BadHouse_init {f : Addr} {fd : FuncData} (F : FunD K "__init__" "BadHouse.__init__" (defArgs s_BadHouse___init__) (defBody s_BadHouse___init__) (defScope s_BadHouse___init__) [] [] f fd) (T : OexC K CB) (no : PySem.W.findIn K (.ref CB) "word" = some none) :
    FnOk P w K mg base CX 1 f fd ["self", "word"] (spInit CB "word") := by
  refine F.ok (CX := CX) sc_BadHouse___init__ (fun vs H Q E h => ?_) (fun cdv A outer s H vs Q E hr h => ?_)
  · obtain ⟨a, x, rfl, _⟩ := h
    rfl
  · obtain ⟨a, x, rfl, ha, q⟩ := h
    exact ⟨_, pss_one (ps_ost (pv 0) (pv 1)), x, rfl, .ref a, rfl, a, CB, rfl, T, no, .inl ⟨ha, fun dx n1 n2 => q dx n1 n2⟩⟩
/-! ### is_house, check_house -/
def spIsHouse (K : PySem.W.Frag) : Sp := fun vs H Q _ => ∃ v o, vs = [v] ∧ Wr K H v o ∧ Q (.bl (o == none)) H
def spCheck (K : PySem.W.Frag) (CB : Addr) : Sp := fun vs H Q E => ∃ v o, vs = [v] ∧ Wr K H v o ∧ (o = none → Q .non H) ∧ ∀ x, o = some x → Refuses CB E H x
theorem ok_check {f fW : Addr} {fd fdW : FuncData} (F : FnP K "check_house" s_check_house f fd) (T : Fn P w K mg base CX0 2 "wrong_word" ["value"] (spWrong K) fW fdW) (B : ErrF P w K mg base "BadHouse" "word" CB) :
    FnOk P w K mg base (L2.CX P w) 3 f fd ["house"] (spCheck K CB) := by
  refine F.ok (CX := L2.CX P w) sc_check_house (fun vs H Q E h => ?_) (fun cdv A outer s H vs Q E hr h => ?_)
  · obtain ⟨v, o, rfl, _⟩ := h
    rfl
  · obtain ⟨v, o, rfl, hw, q0, q1⟩ := h
    refine ⟨_, pss_cons (ps_set (i := 1) sc_check_house.nd rfl (Or.inl rfl) (pe_call T.G hr (by rfl) T.m T.k T.b .nil pass0 (pa_cons (pv 0) pa_nil)))
      (pss_one (ps_if (pt_cmpR op_notN (pv 1) pe_non (nomark _)) (pss_one (ps_raiseF B rfl hr (takes_of rfl rfl rfl rfl) (by rfl) (pa_cons (pv 1) pa_nil))) pss_nil)), ?_⟩
    refine ⟨v, rfl, v, o, rfl, hw, optV o, rfl, rfl, _, rfl, ?_⟩
    cases o with
    | none => exact iteF (q0 rfl)
    | some x => exact iteT ⟨_, rfl, .str x, rfl, fun d H2 e n a => q1 x rfl d H2 e n a⟩
/-! ### coin_count, is_coin -/
theorem comb_le {n k : Nat} (h : n ≤ 12) (h2 : k ≤ n) : PySem.W.mcComb (n : Int) (k : Int) = (nck n k : Nat) := comb_bin h (by omega)
def spCount (K : PySem.W.Frag) (CB : Addr) : Sp := fun vs H Q E => ∃ v o, vs = [v] ∧ Wr K H v o ∧ (∀ a n k d p c, v = .ref a → HouseAt H a n k d p c → Q (.int (nck n k : Nat)) H) ∧ ∀ x, o = some x → Refuses CB E H x
theorem ok_count {f fC : Addr} {fd fdC : FuncData} (F : FnP K "coin_count" s_coin_count f fd) (T : Fn P w K mg base (L2.CX P w) 3 "check_house" ["house"] (spCheck K CB) fC fdC) (B : Blt mg) : FnOk P w K mg base (L2.CX P w) 4 f fd ["house"] (spCount K CB) := by
  refine F.ok (CX := L2.CX P w) sc_coin_count (fun vs H Q E h => ?_) (fun cdv A outer s H vs Q E hr h => ?_)
  · obtain ⟨v, o, rfl, _⟩ := h
    rfl
  · obtain ⟨v, o, rfl, hw, q0, q1⟩ := h
    refine ⟨_, pss_cons (ps_expr (pe_call T.G hr (by rfl) T.m T.k T.b .nil (passX (E := E) rfl rfl rfl rfl) (pa_cons (pv 0) pa_nil)))
      (pss_one (ps_ret (pe_callBfun call_comb (by rfl) B.comb (pa_cons (pe_ix ix_tup (pv 0) pe_int (fun _ _ => rfl)) (pa_cons (pe_ix ix_tup (pv 0) pe_int (fun _ _ => rfl)) pa_nil))))), ?_⟩
    refine ⟨v, rfl, v, o, rfl, hw, fun e => ?_, q1⟩
    subst e
    obtain ⟨a, n, k, d, p, c, rfl, h⟩ := hw.house
    have := h.n12; have := h.kn
    refine ⟨.ref a, rfl, a, _, _, .int n, rfl, rfl, SqT.of h.at_, atI_nat (j := 0) rfl, .ref a, rfl, a, _, _, .int k, rfl, rfl, SqT.of h.at_, atI_nat (j := 1) rfl, (n : Int), (k : Int), rfl, by omega, by omega, by omega, ?_⟩
    rw [comb_le (by omega) (by omega)]
    exact q0 a n k d p c rfl h
def spIsCoin (K : PySem.W.Frag) : Sp := fun vs H Q _ => ∃ a n k d p c v s, vs = [.ref a, v] ∧ HouseAt H a n k d p c ∧ KindV K H v s ∧ Q (.bl (isNum v 0 ((nck n k : Nat) - 1))) H
theorem ok_is_coin {f fN : Addr} {fd fdN : FuncData} (F : FnP K "is_coin" s_is_coin f fd) (T : Fn P w K mg base CX0 1 "is_number" ["value", "least", "most"] (spNumber K) fN fdN) (B : Blt mg) : FnOk P w K mg base CX 2 f fd ["house", "value"] (spIsCoin K) := by
  refine F.ok (CX := CX) sc_is_coin (fun vs H Q E h => ?_) (fun cdv A outer s H vs Q E hr h => ?_)
  · obtain ⟨a, n, k, d, p, c, v, s, rfl, _⟩ := h
    rfl
  · obtain ⟨a, n, k, d, p, c, v, sk, rfl, h, hk, q⟩ := h
    refine ⟨_, (pss_one (ps_ret (pe_call T.G hr (by rfl) T.m T.k T.b .nil pass0 (pa_cons (pv 1) (pa_cons pe_int (pa_cons (pe_op op_sub (pe_callBfun call_comb (by rfl) B.comb (pa_cons (pe_ix ix_tup (pv 0) pe_int (fun _ _ => rfl)) (pa_cons (pe_ix ix_tup (pv 0) pe_int (fun _ _ => rfl)) pa_nil))) pe_int) pa_nil)))))), ?_⟩
    have := h.n12; have := h.kn
    refine ⟨v, rfl, .ref a, rfl, a, _, _, .int n, rfl, rfl, SqT.of h.at_, atI_nat (j := 0) rfl, .ref a, rfl, a, _, _, .int k, rfl, rfl, SqT.of h.at_, atI_nat (j := 1) rfl, (n : Int), (k : Int), rfl, by omega, by omega, by omega, _, _, rfl, rfl, v, sk, _, _, rfl, hk, ?_⟩
    rw [comb_le (by omega) (by omega)]
    exact q
end
end K10

set_option maxHeartbeats 4000000
namespace K10
open PySem PySem.Spec PyProof.Rows L2 Hd Evl
abbrev iV (c : Nat) : V := .int (c : Int)
/-- a new tuple -/
def RetT (xs : List V) (H : Hp) (Q : VK) : Prop := ∀ p H2, H p = none → Ex H H2 → H2 p = some (.tup xs) → Q (.ref p) H2
section
variable {CX : CXT} {P : Program} {w : World} {K : PySem.W.Frag} {mg : Str → Option Value} {base : Heap} {CB CN : Addr}
/-! ### drawn -/
structure DrawnP (K : PySem.W.Frag) (CB CN : Addr) (vs : List V) (H : Hp) (Q : VK) (E : XK) : Prop where
  go : ∃ v x o, vs = [v, x] ∧ Wr K H v o ∧ (∀ y, o = some y → Refuses CB E H y) ∧
  ∀ a n k d p c, v = .ref a → HouseAt H a n k d p c → (∃ s, KindV K H x s) ∧ (isNum x 0 ((nck n k : Nat) - 1) = false → E (.ref CN) none H) ∧ ∀ i : Nat, x = .int i → i < nck n k → RetT ((drawN n k i 0).map iV) H Q
def spDrawn (K : PySem.W.Frag) (CB CN : Addr) : Sp := fun vs H Q E => DrawnP K CB CN vs H Q E
theorem ok_drawn {f fC fI : Addr} {fd fdC fdI : FuncData} (F : FnP K "drawn" s_drawn f fd) (T : Fn P w K mg base (L2.CX P w) 3 "check_house" ["house"] (spCheck K CB) fC fdC) (TI : Fn P w K mg base CX0 2 "is_coin" ["house", "value"] (spIsCoin K) fI fdI) (N : ErrP K mg "BadNumber" CN) (B : Blt mg) :
    FnOk P w K mg base (L2.CX P w) 4 f fd ["house", "coin"] (spDrawn K CB CN) := by
  refine F.ok (CX := L2.CX P w) sc_drawn (fun vs H Q E h => ?_) (fun cdv A outer s H vs Q E hr h => ?_)
  · obtain ⟨v, x, o, rfl, _⟩ := h
    rfl
  · obtain ⟨v, x, o, rfl, hw, q1, q⟩ := h
    refine ⟨_, (pss_cons (ps_expr (pe_call T.G hr (by rfl) T.m T.k T.b .nil (passX (E := E) rfl rfl rfl rfl) (pa_cons (pv 0) pa_nil)))
    (pss_cons (ps_if (pt_not (pt_val (pe_call TI.G (hr.mono (by decide)) (by rfl) TI.m TI.k TI.b .nil pass0 (pa_cons (pv 0) (pa_cons (pv 1) pa_nil))))) (pss_one (ps_raiseP N rfl (takes_of (E := E) rfl rfl rfl rfl) (by rfl))) pss_nil)
    (pss_cons (ps_par (i := 2) (j := 3) (by rfl) sc_drawn.nd rfl rfl (by decide) rfl rfl (pa_cons (pe_ix ix_tup (pv 0) pe_int (fun _ _ => rfl)) (pa_cons (pe_ix ix_tup (pv 0) pe_int (fun _ _ => rfl)) pa_nil)) (by rfl))
    (pss_cons (ps_set (i := 4) sc_drawn.nd rfl (Or.inl rfl) (pe_lst pa_nil))
    (pss_cons (ps_set (i := 5) sc_drawn.nd rfl (Or.inl rfl) (pv 1))
    (pss_cons (ps_set (i := 6) sc_drawn.nd rfl (Or.inl rfl) pe_int)
    (pss_cons (ps_while (passes_of rfl) (pt_cmpR op_lt (pe_callB call_len_seq (by rfl) B.len (by decide +kernel) (pa_cons (pv 4) pa_nil)) (pv 3) (nomark _)) (pss_cons (ps_set (i := 7) sc_drawn.nd rfl (Or.inl rfl) (pe_callBfun call_comb (by rfl) B.comb (pa_cons (pe_op op_sub (pe_op op_sub (pv 2) (pv 6)) pe_int) (pa_cons (pe_op op_sub (pe_op op_sub (pv 3) (pe_callB call_len_seq (by rfl) B.len (by decide +kernel) (pa_cons (pv 4) pa_nil))) pe_int) pa_nil))))
    (pss_cons (ps_if (pt_cmpR op_lt (pv 5) (pv 7) (nomark _)) (pss_one (ps_expr (pe_bm PySem.F.plainAttrs_list PySem.F.slot_list_append PySem.F.type_list_append mt_append (pv 4) (pa_cons (pv 6) pa_nil)))) (pss_one (ps_aug (i := 5) sc_drawn.nd rfl (Or.inl rfl) (pv 7) ip_sub)))
    (pss_one (ps_aug (i := 6) sc_drawn.nd rfl (Or.inl rfl) pe_int ip_add)))))
    (pss_one (ps_ret (pe_callTy call_tuple_of (by rfl) B.tuple (by decide +kernel) (pa_cons (pv 4) pa_nil))))))))))), ?_⟩
    refine ⟨v, rfl, v, o, rfl, hw, fun e => ?_, q1⟩
    subst e
    obtain ⟨a, n, k, d, p, c, rfl, h⟩ := hw.house
    obtain ⟨⟨sk, hk⟩, q2, q3⟩ := q a n k d p c rfl h
    have n12 := h.n12; have kn := h.kn
    refine ⟨.ref a, rfl, x, rfl, a, n, k, d, p, c, x, sk, rfl, h, hk, _, rfl, ?_⟩
    cases eb : isNum x 0 ((nck n k : Nat) - 1) with
    | false => exact iteT (q2 eb)
    | true =>
      obtain ⟨i, rfl, _, hi⟩ := num_of eb (by decide)
      have hi' : i < nck n k := by have := nck_pos kn; omega
      refine iteF ⟨.ref a, rfl, a, _, _, .int n, rfl, rfl, SqT.of h.at_, atI_nat (j := 0) rfl, .ref a, rfl, a, _, _, .int k, rfl, rfl, SqT.of h.at_, atI_nat (j := 1) rfl, _, _, rfl, ?_⟩
      refine ⟨Nat.zero_le _, fun l nl => ⟨_, rfl, ?_⟩⟩
      refine ⟨fun m σ G => ∃ (ch : List Nat) (ah cell : Nat) (mv : Option V), σ = [some (.ref a), some (.int i), some (iV n), some (iV k), some (.ref l), some (iV ah), some (iV cell), mv] ∧ Ex H G ∧ G l = some (.lst (ch.map iV)) ∧ m + cell = n ∧ ch.length ≤ k ∧
        ah < nck (n - cell) (k - ch.length) ∧ ch ++ drawN (n - cell) (k - ch.length) ah cell = drawN n k i 0, ⟨n, [], i, 0, none, rfl, Ex.new nl, upd_same, rfl, Nat.zero_le _, hi', rfl⟩, ?_⟩
      rintro m σ G ⟨ch, ah, cell, mv, rfl, ex, el, em, lk, lah, eq⟩
      have hL : SqL K G l (ch.map iV) := SqL.of el
      refine ⟨.ref l, rfl, l, _, rfl, .inl hL, .int k, rfl, _, _, rfl, rfl, _, rfl, ite2 (fun e => ?_) (fun e => ?_)⟩
      · have e1 : ch.length < k := by
          have := of_decide_eq_true e
          rw [List.length_map] at this
          omega
        have cn : cell < n := by
          rcases Nat.lt_or_ge cell n with z | z
          · exact z
          · rw [show n - cell = 0 by omega, show k - ch.length = (k - ch.length - 1) + 1 by omega] at lah
            exact absurd lah (by simp [nck])
        obtain ⟨mm, e2⟩ : ∃ mm, n - cell = mm + 1 := ⟨n - cell - 1, by omega⟩
        obtain ⟨kk, e3⟩ : ∃ kk, k - ch.length = kk + 1 := ⟨k - ch.length - 1, by omega⟩
        rw [e2, e3] at lah eq
        have lah' : ah < nck mm kk + nck mm (kk + 1) := lah
        have eq' : ch ++ (if ah < nck mm kk then cell :: drawN mm kk ah (cell + 1) else drawN mm (kk + 1) (ah - nck mm kk) (cell + 1)) = drawN n k i 0 := eq
        refine ⟨fun σ' G' => ∃ (ch' : List Nat) (ah' : Nat) (mv' : Option V), σ' = [some (.ref a), some (.int i), some (iV n), some (iV k), some (.ref l), some (iV ah'), some (iV (cell + 1)), mv'] ∧ Ex H G' ∧ G' l = some (.lst (ch'.map iV)) ∧ ch'.length ≤ k ∧
          ah' < nck (n - (cell + 1)) (k - ch'.length) ∧ ch' ++ drawN (n - (cell + 1)) (k - ch'.length) ah' (cell + 1) = drawN n k i 0, ?_, ?_⟩
        · rintro σ' G' ⟨ch', ah', mv', r1, r2, r3, r4, r5, r6⟩
          exact ⟨m - 1, by omega, ch', ah', cell + 1, mv', r1, r2, r3, by omega, r4, r5, r6⟩
        refine ⟨.int n, rfl, iV cell, rfl, _, _, rfl, rfl, _, _, rfl, rfl, .int k, rfl, .ref l, rfl, l, _, rfl, .inl hL, _, _, rfl, rfl, _, _, rfl, rfl, (mm : Int), (kk : Int), ?_, by omega, by omega, by omega, ?_⟩
        · show [V.int ((n : Int) - (cell : Int) - 1), V.int ((k : Int) - ((ch.map iV).length : Int) - 1)] = _
          rw [List.length_map, show (n : Int) - (cell : Int) - 1 = (mm : Int) by omega, show (k : Int) - (ch.length : Int) - 1 = (kk : Int) by omega]
        rw [comb_bin (show mm ≤ 12 by omega) (show kk ≤ 12 by omega)]
        refine ⟨iV ah, rfl, iV (nck mm kk), rfl, _, _, rfl, rfl, _, rfl, ite2 (fun e4 => ?_) (fun e4 => ?_)⟩
        · have e5 : ah < nck mm kk := by have := of_decide_eq_true e4; omega
          rw [if_pos e5] at eq'
          refine ⟨.ref l, rfl, .inl ⟨rfl, _, hL⟩, iV cell, rfl, l, _, _, rfl, rfl, el, ?_, ?_⟩
          · rw [List.length_map]
            exact small1000 (by omega)
          · refine ⟨iV cell, rfl, _, _, rfl, rfl, ch ++ [cell], ah, _, rfl, ex.mut nl, ?_, ?_, ?_, ?_⟩
            · rw [upd_same, List.map_append] <;> rfl
            · rw [List.length_append, List.length_singleton]
              omega
            · rw [List.length_append, List.length_singleton, show n - (cell + 1) = mm by omega, show k - (ch.length + 1) = kk by omega]
              exact e5
            · rw [List.length_append, List.length_singleton, show n - (cell + 1) = mm by omega, show k - (ch.length + 1) = kk by omega, List.append_assoc]
              exact eq'
        · have e5 : ¬ ah < nck mm kk := fun z => e4 (decide_eq_true (by omega))
          rw [if_neg e5] at eq'
          refine ⟨iV ah, rfl, iV (nck mm kk), rfl, _, _, rfl, rfl, iV cell, rfl, _, _, rfl, rfl, ch, ah - nck mm kk, some (iV (nck mm kk)), ?_, ex, el, lk, ?_, ?_⟩
          · have : ((ah - nck mm kk : Nat) : Int) = (ah : Int) - (nck mm kk : Int) := by omega
            show _ = [some (V.ref a), some (.int i), some (iV n), some (iV k), some (.ref l), some (V.int ((ah - nck mm kk : Nat) : Int)), some (V.int ((cell + 1 : Nat) : Int)), some (iV (nck mm kk))]
            rw [this] <;> rfl
          · rw [show n - (cell + 1) = mm by omega, e3]
            omega
          · rw [show n - (cell + 1) = mm by omega, e3]
            exact eq'
      · have e1 : ch.length = k := by
          have : ¬ ch.length < k := fun z => e (decide_eq_true (by rw [List.length_map]; omega))
          omega
        rw [e1, Nat.sub_self] at eq
        have e2 : ch = drawN n k i 0 := by
          rw [← eq]
          cases n - cell <;> simp [drawN]
        refine ⟨.ref l, rfl, l, _, rfl, .inl ⟨hL, fun t nt => ?_⟩⟩
        rw [e2]
        exact q3 i rfl hi' t _ (fresh_back ex nt) (ex.trans (Ex.new nt)) upd_same
end
end K10

set_option maxHeartbeats 4000000
namespace K10
open PySem PySem.Spec PyProof.Rows L2 Hd Evl
/-! ### what is a set of cells -/
/-- ascending ints from c to below n -/
def ascV (n : Int) : Int → List V → Bool
  | _, [] => true
  | c, x :: r => isNum x c (n - 1) && ascV n (vInt x + 1) r
inductive SetV (K : PySem.W.Frag) (H : Hp) (n k : Nat) : V → Bool → Prop
  | out {v : V} {s : String} (h : KindV K H v s) (hs : isK s "tuple" = false) : SetV K H n k v false
  | tup {a : Addr} {xs : List V} (h : H a = some (.tup xs)) (all : ∀ x ∈ xs, ∃ s, KindV K H x s) : SetV K H n k (.ref a) (decide (xs.length = k) && ascV n 0 xs)
theorem KindV.ex {K : PySem.W.Frag} {H H' : Hp} {v : V} {s : String} (h : KindV K H v s) (e : Ex H H') : KindV K H' v s := by
  cases h with
  | non => exact .non
  | bl b => exact .bl b
  | int i => exact .int i
  | str x => exact .str x
  | lst h => exact .lst (e _ _ h)
  | tup h => exact .tup (e _ _ h)
theorem ascV_of : ∀ {n c : Nat} {xs : List V}, ascV n c xs = true → ∃ l : List Nat, xs = l.map iV ∧ asc c n l = true
  | n, c, [], _ => ⟨[], rfl, rfl⟩
  | n, c, x :: r, h => by
    have h' : (isNum x c ((n : Int) - 1) && ascV n (vInt x + 1) r) = true := h
    rw [Bool.and_eq_true] at h'
    obtain ⟨i, rfl, h1, h2⟩ := num_of h'.1 (by omega)
    have h3 : ascV n ((i + 1 : Nat) : Int) r = true := h'.2
    obtain ⟨l, e, g⟩ := ascV_of h3
    refine ⟨i :: l, by rw [e] <;> rfl, ?_⟩
    show (decide (c ≤ i) && (decide (i < n) && asc (i + 1) n l)) = true
    rw [decide_eq_true (show c ≤ i by omega), decide_eq_true (show i < n by omega), g] <;> rfl
theorem ascV_nat : ∀ {n c : Nat} {l : List Nat}, asc c n l = true → ascV n c (l.map iV) = true
  | n, c, [], _ => rfl
  | n, c, x :: r, h => by
    have h' : (decide (c ≤ x) && (decide (x < n) && asc (x + 1) n r)) = true := h
    rw [Bool.and_eq_true, Bool.and_eq_true] at h'
    have h1 := of_decide_eq_true h'.1
    have h2 := of_decide_eq_true h'.2.1
    have h3 := ascV_nat h'.2.2
    show (isNum (iV x) c ((n : Int) - 1) && ascV n (((x : Nat) : Int) + 1) (r.map iV)) = true
    rw [show ((x : Nat) : Int) + 1 = ((x + 1 : Nat) : Int) by omega, h3]
    show ((decide ((c : Int) ≤ (x : Int)) && decide ((x : Int) ≤ (n : Int) - 1)) && true) = true
    rw [decide_eq_true (show (c : Int) ≤ (x : Int) by omega), decide_eq_true (show (x : Int) ≤ (n : Int) - 1 by omega)] <;> rfl
section
variable {CX : CXT} {P : Program} {w : World} {K : PySem.W.Frag} {mg : Str → Option Value} {base : Heap} {CB CN : Addr}
def spCells (K : PySem.W.Frag) : Sp := fun vs H Q _ => ∃ a n k d p c v b, vs = [.ref a, v] ∧ HouseAt H a n k d p c ∧ SetV K H n k v b ∧ Q (.bl b) H
theorem ok_cells {f fN : Addr} {fd fdN : FuncData} (F : FnP K "is_cell_set" s_is_cell_set f fd) (T : Fn P w K mg base CX0 1 "is_number" ["value", "least", "most"] (spNumber K) fN fdN) (B : Blt mg) : FnOk P w K mg base (L2.CX P w) 2 f fd ["house", "value"] (spCells K) := by
  refine F.ok (CX := L2.CX P w) sc_is_cell_set (fun vs H Q E h => ?_) (fun cdv A outer s H vs Q E hr h => ?_)
  · obtain ⟨a, n, k, d, p, c, v, b, rfl, _⟩ := h
    rfl
  · obtain ⟨a, n, k, d, p, c, v, b, rfl, h, hs, q⟩ := h
    refine ⟨_, (pss_cons (ps_if (PW.pt (pw_or (pt_not (pt_val (pe_callB call_isS (by rfl) B.isinstance (by decide +kernel) (pa_cons (pv 1) (pa_cons (pe_ty "tuple" (by rfl) B.tuple (by decide +kernel)) pa_nil))))) (pw_or1 (pt_cmpR op_ne (pe_callB call_len_seq (by rfl) B.len (by decide +kernel) (pa_cons (pv 1) pa_nil)) (pe_ix ix_tup (pv 0) pe_int (fun _ _ => rfl)) (nomark _))))) (pss_one (ps_ret pe_bl)) pss_nil)
    (pss_cons (ps_set (i := 2) sc_is_cell_set.nd rfl (Or.inl rfl) pe_int)
    (pss_cons (ps_for (passes_of rfl) rfl (pi_tup (pv 1)) (pg_name (i := 3) sc_is_cell_set.nd rfl (Or.inl rfl)) (pss_cons (ps_if (pt_not (pt_val (pe_call T.G (hr.mono (by decide)) (by rfl) T.m T.k T.b .nil pass0 (pa_cons (pv 3) (pa_cons (pv 2) (pa_cons (pe_op op_sub (pe_ix ix_tup (pv 0) pe_int (fun _ _ => rfl)) pe_int) pa_nil)))))) (pss_one (ps_ret pe_bl)) pss_nil)
    (pss_one (ps_set (i := 2) sc_is_cell_set.nd rfl (Or.inl rfl) (pe_op op_add (pv 3) pe_int)))))
    (pss_one (ps_ret pe_bl))))), ?_⟩
    cases hs with
    | @out v sk hk e =>
      refine ⟨_, rfl, _, _, "tuple", _, rfl, hk.ty, hk.isT, _, rfl, ?_⟩
      rw [e]
      exact iteT (iteT q)
    | @tup t xs ht all =>
      refine ⟨_, rfl, _, _, "tuple", _, rfl, (KindV.tup ht).ty, (KindV.tup (K := K) ht).isT, _, rfl, iteF ?_⟩
      refine ⟨_, rfl, t, xs, rfl, .inr (SqT.of ht), .ref a, rfl, a, _, _, .int k, rfl, rfl, SqT.of h.at_, atI_nat (j := 1) rfl, rfl, _, rfl, ?_⟩
      by_cases hk : xs.length = k
      · have e : (!decide (V.int (xs.length : Int) = V.int (k : Int))) = false := by
          rw [decide_eq_true (by rw [hk])] <;> rfl
        rw [e]
        rw [decide_eq_true hk, Bool.true_and] at q
        refine iteF ⟨.ref t, rfl, t, rfl, ⟨xs, SqT.of ht⟩, for_tup (xs := xs) (fun i σ G => G = H ∧ ∃ (least : Int) (cv : Option V), σ = [some (.ref a), some (.ref t), some (.int least), cv] ∧ 0 ≤ least ∧ ascV n 0 xs = ascV n least (xs.drop i))
          ⟨rfl, 0, none, rfl, Int.le_refl _, rfl⟩ (fun i σ G _ w => by rw [w.1]; exact SqT.of ht) (fun i x σ G hx w => ?_) (fun σ G w => ?_)⟩
        · obtain ⟨rfl, least, cv, rfl, l0, eq⟩ := w
          have dr : xs.drop i = x :: xs.drop (i + 1) := by
            have hi := (List.getElem?_eq_some_iff.mp hx)
            obtain ⟨hi, ex⟩ := hi
            rw [List.drop_eq_getElem_cons hi, ex]
          rw [dr] at eq
          have eq' : ascV n 0 xs = (isNum x least ((n : Int) - 1) && ascV n (vInt x + 1) (xs.drop (i + 1))) := eq
          obtain ⟨sk, hkx⟩ := all x (List.mem_of_getElem? hx)
          refine ⟨x, rfl, .int least, rfl, .ref a, rfl, a, _, _, .int n, rfl, rfl, SqT.of h.at_, atI_nat (j := 0) rfl, _, _, rfl, rfl, x, sk, least, (n : Int) - 1, rfl, hkx, _, rfl, ?_⟩
          cases eb : isNum x least ((n : Int) - 1) with
          | false =>
            rw [eb, Bool.false_and] at eq'
            rw [eq'] at q
            exact iteT q
          | true =>
            obtain ⟨y, rfl, y1, y2⟩ := num_of eb l0
            rw [eb, Bool.true_and] at eq'
            exact iteF ⟨iV y, rfl, _, _, rfl, rfl, rfl, (y : Int) + 1, some (iV y), rfl, by omega, eq'⟩
        · obtain ⟨rfl, least, cv, rfl, l0, eq⟩ := w
          rw [List.drop_of_length_le (Nat.le_refl _)] at eq
          have eq' : ascV n 0 xs = true := eq
          rw [eq'] at q
          exact q
      · have e : (!decide (V.int (xs.length : Int) = V.int (k : Int))) = true := by
          rw [decide_eq_false (fun z => hk (by injection z with z; omega))] <;> rfl
        rw [e]
        rw [decide_eq_false hk, Bool.false_and] at q
        exact iteT q
end
end K10

set_option maxHeartbeats 4000000
namespace K10
open PySem PySem.Spec PyProof.Rows L2 Hd Evl
/-! ### the law's reader of the script -/
/-- at a the ints of the script, whatever is written at r -/
def Src (K : PySem.W.Frag) (r a : Addr) (ns : List Int) (H : Hp) : Prop := (∀ G, SqL K G a (ns.map V.int)) ∨ (a ≠ r ∧ Rd H a (.lst (ns.map V.int)))
section
variable {K : PySem.W.Frag} {r a : Addr} {ns : List Int} {H H' : Hp}
theorem Src.sq (h : Src K r a ns H) : SqL K H a (ns.map V.int) := h.elim (fun q => q H) fun q => .inl q.2
theorem Src.ex (h : Src K r a ns H) (e : Ex H H') : Src K r a ns H' := h.elim .inl fun q => .inr ⟨q.1, ex_rd e q.2⟩
theorem Src.row {o : HO} (h : Src K r a ns H) : Src K r a ns (upd H r o) := h.elim .inl fun q => .inr ⟨q.1, by
  rcases q.2 with z | ⟨u, z⟩
  · exact .inl (by rw [upd_ne q.1]; exact z)
  · exact .inr ⟨u, by rw [upd_ne q.1]; exact z⟩⟩
/-- a new address -/
theorem Src.new (h : SqL K H a (ns.map V.int)) (n : H r = none) : Src K r a ns H := by
  rcases h with h | h
  · refine .inr ⟨fun e => ?_, h⟩
    rw [e] at h
    rcases h with z | ⟨u, z⟩ <;> rw [n] at z <;> cases z
  · exact .inl fun G => .inr h
end
abbrev rowV (a : Addr) (i sd rs : Int) : List V := [.ref a, .int i, .int sd, .int rs]
section
variable {CX : CXT} {P : Program} {w : World} {K : PySem.W.Frag} {mg : Str → Option Value} {base : Heap}
structure TakenP (K : PySem.W.Frag) (vs : List V) (H : Hp) (Q : VK) (E : XK) : Prop where
  go : ∃ (r a : Addr) (ns : List Int) (i sd rs : Int) (many : Nat), vs = [.ref r, .int many] ∧ H r = some (.lst (rowV a i sd rs)) ∧ Src K r a ns H ∧ 0 ≤ i ∧ 0 ≤ sd ∧ sd < 2147483647 ∧ 1 ≤ many ∧ many < 2 ^ 60 ∧
  ∀ (i' sd' rs' : Int) (x : Nat), 0 ≤ i' → 0 ≤ sd' → sd' < 2147483647 → x < many → Q (iV x) (upd H r (.lst (rowV a i' sd' rs')))
def spTaken (K : PySem.W.Frag) : Sp := fun vs H Q E => TakenP K vs H Q E
theorem modN {i : Int} {m : Nat} (h : 1 ≤ m) : ∃ x : Nat, i % (m : Int) = (x : Int) ∧ x < m := by
  have h1 : 0 ≤ i % (m : Int) := Int.emod_nonneg i (by omega)
  have h2 : i % (m : Int) < (m : Int) := Int.emod_lt_of_pos i (by omega)
  exact ⟨(i % (m : Int)).toNat, by omega, by omega⟩
theorem modM (i : Int) : 0 ≤ i % 2147483647 ∧ i % 2147483647 < 2147483647 := ⟨Int.emod_nonneg i (by decide), Int.emod_lt_of_pos i (by decide)⟩
theorem divOk {m : Nat} (h : 1 ≤ m) (h2 : m < 2 ^ 60) (i : Int) : CDivW i (m : Int) := wide_div (b := 60) (by omega) (by simpa using h2) (by decide) (by decide)
theorem ok_taken {f : Addr} {fd : FuncData} (F : FnP K "_law_taken" s__law_taken f fd) (B : Blt mg) : FnOk P w K mg base CX 1 f fd ["row", "many"] (spTaken K) := by
  refine F.ok (CX := CX) sc__law_taken (fun vs H Q E h => ?_) (fun cdv A outer s H vs Q E hr h => ?_)
  · obtain ⟨r, a, ns, i, sd, rs, many, rfl, _⟩ := h
    rfl
  · obtain ⟨r, a, ns, i, sd, rs, many, rfl, hr0, src, i0, s0, s1, m1, m2, q⟩ := h
    refine ⟨_, (pss_cons (ps_if (pt_cmpR op_gt (pe_ix ix_list (pv 0) pe_int (fun _ _ => rfl)) pe_int (nomark _)) (pss_cons (ps_set (i := 2) sc__law_taken.nd rfl (Or.inl rfl) (pe_op op_mod (pe_callTy call_int1 (by rfl) B.int (by decide +kernel) (pa_cons (pe_ix ix_list (pv 0) pe_int (fun _ _ => rfl)) pa_nil)) (pv 1)))
    (pss_cons (ps_asg (pe_op op_fdivW (pe_ix ix_list (pv 0) pe_int (fun _ _ => rfl)) (pv 1)) (pg_sub (pv 0) pe_int set_list))
    (pss_one (ps_ret (pv 2))))) pss_nil)
    (pss_cons (ps_asg (pe_op op_add (pe_ix ix_list (pv 0) pe_int (fun _ _ => rfl)) pe_int) (pg_sub (pv 0) pe_int set_list))
    (pss_cons (ps_if (pt_cmpR op_gt (pe_ix ix_list (pv 0) pe_int (fun _ _ => rfl)) (pe_callB call_len_seq (by rfl) B.len (by decide +kernel) (pa_cons (pe_ix ix_list (pv 0) pe_int (fun _ _ => rfl)) pa_nil)) (nomark _)) (pss_cons (ps_asg (pe_op op_mod (pe_callTy call_int1 (by rfl) B.int (by decide +kernel) (pa_cons (pe_op op_add (pe_op op_mul (pe_ix ix_list (pv 0) pe_int (fun _ _ => rfl)) pe_int) pe_int) pa_nil)) pe_int) (pg_sub (pv 0) pe_int set_list))
    (pss_one (ps_ret (pe_op op_mod (pe_callTy call_int1 (by rfl) B.int (by decide +kernel) (pa_cons (pe_op op_fdivW (pe_ix ix_list (pv 0) pe_int (fun _ _ => rfl)) pe_int) pa_nil)) (pv 1))))) pss_nil)
    (pss_cons (ps_set (i := 3) sc__law_taken.nd rfl (Or.inl rfl) (pe_ix ix_list (pe_ix ix_list (pv 0) pe_int (fun _ _ => rfl)) (pe_op op_sub (pe_ix ix_list (pv 0) pe_int (fun _ _ => rfl)) pe_int) (fun _ _ => rfl)))
    (pss_cons (ps_asg (pe_op op_mod (pe_callTy call_int1 (by rfl) B.int (by decide +kernel) (pa_cons (pe_op op_add (pe_op op_add (pe_op op_mul (pe_ix ix_list (pv 0) pe_int (fun _ _ => rfl)) pe_int) (pv 3)) pe_int) pa_nil)) pe_int) (pg_sub (pv 0) pe_int set_list))
    (pss_cons (ps_if (pt_cmpR op_ge (pv 3) (pe_op op_pow pe_int pe_int) (nomark _)) (pss_one (ps_asg (pe_op op_fdivW (pv 3) (pv 1)) (pg_sub (pv 0) pe_int set_list))) pss_nil)
    (pss_one (ps_ret (pe_op op_mod (pe_callTy call_int1 (by rfl) B.int (by decide +kernel) (pa_cons (pv 3) pa_nil)) (pv 1)))))))))), ?_⟩
    have rd : ∀ {G : Hp} {xs : List V}, G r = some (.lst xs) → SqL K G r xs := fun h => SqL.of h
    refine ⟨.ref r, rfl, r, _, _, .int rs, rfl, rfl, rd hr0, atI_nat (j := 3) rfl, _, _, rfl, rfl, _, rfl, ite2 (fun _ => ?_) (fun _ => ?_)⟩
    · -- a great cell's digits
      obtain ⟨x, ex, lx⟩ := modN (i := rs) m1
      refine ⟨.ref r, rfl, r, _, _, .int rs, rfl, rfl, rd hr0, atI_nat (j := 3) rfl, .inl ⟨_, rfl, .int many, rfl, _, _, rfl, rfl, by omega, ?_⟩⟩
      dsimp only
      rw [ex]
      refine ⟨.ref r, rfl, r, _, _, .int rs, rfl, rfl, rd hr0, atI_nat (j := 3) rfl, .int many, rfl, _, _, rfl, rfl, divOk m1 m2 rs, .ref r, rfl, r, _, _, 3, rfl, rfl, hr0, rfl, iV x, rfl, ?_⟩
      exact q i sd (rs / (many : Int)) x i0 s0 s1 lx
    · refine ⟨.ref r, rfl, r, _, _, .int i, rfl, rfl, rd hr0, atI_nat (j := 1) rfl, _, _, rfl, rfl, .ref r, rfl, r, _, _, 1, rfl, rfl, hr0, rfl, ?_⟩
      have h1 : upd H r (.lst ((rowV a i sd rs).set 1 (.int (i + 1)))) r = some (.lst (rowV a (i + 1) sd rs)) := upd_same
      have src1 : Src K r a ns (upd H r (.lst ((rowV a i sd rs).set 1 (.int (i + 1))))) := src.row
      generalize hG : upd H r (.lst ((rowV a i sd rs).set 1 (.int (i + 1)))) = G at h1 src1
      have up : ∀ o, upd G r o = upd H r o := fun o => by rw [← hG, upd_upd]
      refine ⟨.ref r, rfl, r, _, _, .int (i + 1), rfl, rfl, rd h1, atI_nat (j := 1) rfl, .ref r, rfl, r, _, _, .ref a, rfl, rfl, rd h1, atI_nat (j := 0) rfl, a, _, rfl, .inl src1.sq, _, _, rfl, rfl, _, rfl, ite2 (fun e => ?_) (fun e => ?_)⟩
      · -- the script is done
        refine ⟨.ref r, rfl, r, _, _, .int sd, rfl, rfl, rd h1, atI_nat (j := 2) rfl, _, _, rfl, rfl, .inl ⟨by omega, by omega⟩, _, _, rfl, rfl, .inl ⟨_, rfl, _, _, rfl, rfl, (by show (0 : Int) < 2147483647; decide), .ref r, rfl, r, _, _, 2, rfl, rfl, h1, rfl, ?_⟩⟩
        have b := modM (sd * 48271 + 11)
        dsimp only
        rw [up]
        have h2 : upd H r (.lst ((rowV a (i + 1) sd rs).set 2 (.int ((sd * 48271 + 11) % 2147483647)))) r = some (.lst (rowV a (i + 1) ((sd * 48271 + 11) % 2147483647) rs)) := upd_same
        obtain ⟨x, ex, lx⟩ := modN (i := (sd * 48271 + 11) % 2147483647 / 7) m1
        refine ⟨.ref r, rfl, r, _, _, _, rfl, rfl, rd h2, atI_nat (j := 2) rfl, _, _, rfl, rfl, ⟨by decide, by decide⟩, .inl ⟨_, rfl, .int many, rfl, _, _, rfl, rfl, by omega, ?_⟩⟩
        dsimp only
        rw [ex]
        exact q (i + 1) _ rs x (by omega) b.1 b.2 lx
      · -- the next cell
        have hlt : i < ns.length := by
          have : ¬ (((ns.map V.int).length : Int) < i + 1) := fun z => e (decide_eq_true z)
          rw [List.length_map] at this
          omega
        obtain ⟨j, rfl⟩ : ∃ j : Nat, i = j := ⟨i.toNat, by omega⟩
        have hj : j < ns.length := by omega
        have g : (ns.map V.int)[j]? = some (.int ns[j]) := by rw [List.getElem?_map, List.getElem?_eq_getElem hj] <;> rfl
        have ga : atI (ns.map V.int) ((j : Int) + 1 - 1) = some (.int ns[j]) := by
          rw [show (j : Int) + 1 - 1 = (j : Int) by omega]
          exact atI_nat g
        refine ⟨.ref r, rfl, r, _, _, .ref a, rfl, rfl, rd h1, atI_nat (j := 0) rfl, .ref r, rfl, r, _, _, .int ((j : Int) + 1), rfl, rfl, rd h1, atI_nat (j := 1) rfl, _, _, rfl, rfl, a, _, _, .int ns[j], rfl, rfl, src1.sq, ga, ?_⟩
        generalize ns[j] = z
        refine ⟨.ref r, rfl, r, _, _, .int sd, rfl, rfl, rd h1, atI_nat (j := 2) rfl, _, _, rfl, rfl, .inl ⟨by omega, by omega⟩, .int z, rfl, _, _, rfl, rfl, _, _, rfl, rfl, .inl ⟨_, rfl, _, _, rfl, rfl, (by show (0 : Int) < 2147483647; decide), .ref r, rfl, r, _, _, 2, rfl, rfl, h1, rfl, ?_⟩⟩
        have b := modM (sd * 48271 + z + 11)
        dsimp only
        rw [up]
        have h2 : upd H r (.lst ((rowV a ((j : Int) + 1) sd rs).set 2 (.int ((sd * 48271 + z + 11) % 2147483647)))) r = some (.lst (rowV a ((j : Int) + 1) ((sd * 48271 + z + 11) % 2147483647) rs)) := upd_same
        obtain ⟨x, ex, lx⟩ := modN (i := z) m1
        refine ⟨.int z, rfl, _, _, rfl, rfl, ⟨by decide, by decide, by decide⟩, _, _, rfl, rfl, _, rfl, ite2 (fun _ => ?_) (fun _ => ?_)⟩
        · refine ⟨.int z, rfl, .int many, rfl, _, _, rfl, rfl, divOk m1 m2 z, .ref r, rfl, r, _, _, 3, rfl, rfl, h2, rfl, ?_⟩
          refine ⟨.int z, rfl, .inl ⟨_, rfl, .int many, rfl, _, _, rfl, rfl, by omega, ?_⟩⟩
          dsimp only
          rw [ex, upd_upd]
          exact q ((j : Int) + 1) _ (z / (many : Int)) x (by omega) b.1 b.2 lx
        · refine ⟨.int z, rfl, .inl ⟨_, rfl, .int many, rfl, _, _, rfl, rfl, by omega, ?_⟩⟩
          dsimp only
          rw [ex]
          exact q ((j : Int) + 1) _ rs x (by omega) b.1 b.2 lx
end
end K10

set_option maxHeartbeats 4000000
namespace K10
open PySem PySem.Spec PyProof.Rows L2 Hd Evl
/-! ### what stays while the program runs: tuples, lists -/
/-- the defs of the program whose own tables change: generator expressions -/
def progTabs : List He.Defn := [("is_moment", none), ("is_session", none), ("moment_count", none), ("upper_moment", none), ("above", none), ("opened", none), ("Store", some "sealed_of")]
def Sk (K : PySem.W.Frag) (P : Addr) : Prop := ∃ p ∈ progTabs, P = (He.cT K p).2
/-- tuples stay, lists are lists -/
structure Kw (H H' : Hp) : Prop where
  t : ∀ b xs, H b = some (.tup xs) → H' b = some (.tup xs)
  l : ∀ b xs, H b = some (.lst xs) → ∃ ys, H' b = some (.lst ys)
theorem Kw.refl {H : Hp} : Kw H H := ⟨fun _ _ h => h, fun _ _ h => ⟨_, h⟩⟩
theorem Kw.trans {H H1 H2 : Hp} (a : Kw H H1) (b : Kw H1 H2) : Kw H H2 := ⟨fun c xs h => b.t c xs (a.t c xs h), fun c xs h => let ⟨ys, g⟩ := a.l c xs h; b.l c ys g⟩
theorem Kw.ex {H H1 : Hp} (e : Ex H H1) : Kw H H1 := ⟨fun c xs h => e _ _ h, fun c xs h => ⟨_, e _ _ h⟩⟩
theorem Kw.put {H : Hp} {D : Addr} {xs ys : List V} (h : H D = some (.lst xs)) : Kw H (upd H D (.lst ys)) := ⟨fun c zs g => by
  rw [upd_ne (fun e => by rw [e, h] at g; cases g)]
  exact g, fun c zs g => by
  by_cases e : c = D
  · exact ⟨ys, by rw [e, upd_same]⟩
  · exact ⟨zs, by rw [upd_ne e]; exact g⟩⟩
/-- all stays but tables in S; tables are tables -/
structure Kl (S : Addr → Prop) (H H' : Hp) : Prop where
  e : ∀ b o, H b = some o → (∀ ps, o ≠ .tbl ps) → H' b = some o
  s : ∀ b o, ¬ S b → H b = some o → H' b = some o
  g : ∀ P, GxR.TabG H P → GxR.TabG H' P
abbrev Ks (K : PySem.W.Frag) (H H' : Hp) : Prop := Kl (Sk K) H H'
theorem tab_ex {Pt : Addr} {H H' : Hp} (g : GxR.TabG H Pt) (e : Ex H H') : GxR.TabG H' Pt := let ⟨ps, h1, h2⟩ := g; ⟨ps, e _ _ h1, h2⟩
section
variable {S : Addr → Prop} {K : PySem.W.Frag}
theorem Kl.t {H H' : Hp} (a : Kl S H H') (b : Addr) (xs : List V) (h : H b = some (.tup xs)) : H' b = some (.tup xs) := a.e b _ h fun ps z => by cases z
theorem Kl.l {H H' : Hp} (a : Kl S H H') (b : Addr) (xs : List V) (h : H b = some (.lst xs)) : H' b = some (.lst xs) := a.e b _ h fun ps z => by cases z
theorem Kl.w {H H' : Hp} (a : Kl S H H') : Kw H H' := ⟨a.t, fun b xs h => ⟨xs, a.l b xs h⟩⟩
theorem Kl.refl {H : Hp} : Kl S H H := ⟨fun _ _ h _ => h, fun _ _ _ h => h, fun _ h => h⟩
theorem Kl.trans {H H1 H2 : Hp} (a : Kl S H H1) (b : Kl S H1 H2) : Kl S H H2 := ⟨fun c o h n => b.e c o (a.e c o h n) n, fun c o n h => b.s c o n (a.s c o n h), fun c h => b.g c (a.g c h)⟩
theorem Kl.ex {H H1 : Hp} (e : Ex H H1) : Kl S H H1 := ⟨fun c xs h _ => e _ _ h, fun c xs _ h => e _ _ h, fun c h => tab_ex h e⟩
theorem Kl.mono {S' : Addr → Prop} {H H1 : Hp} (a : Kl S H H1) (f : ∀ b, S b → S' b) : Kl S' H H1 := ⟨a.e, fun b o n h => a.s b o (fun z => n (f b z)) h, a.g⟩
theorem Ks.refl {H : Hp} : Ks K H H := Kl.refl
theorem Ks.trans {H H1 H2 : Hp} (a : Ks K H H1) (b : Ks K H1 H2) : Ks K H H2 := Kl.trans a b
theorem Ks.ex {H H1 : Hp} (e : Ex H H1) : Ks K H H1 := Kl.ex e
theorem Ks.tab {P : Addr} {H H1 : Hp} (k : Sk K P) (g : GxR.TabG H P) (t : GxR.Tabbed P H H1) : Ks K H H1 := by
  obtain ⟨ps, hP, _⟩ := g
  refine ⟨fun c o h n => ?_, fun c o n h => ?_, fun c h => ?_⟩
  · rw [t.2 c (fun e => by rw [e, hP] at h; exact n ps (Option.some.inj h).symm)]
    exact h
  · rw [t.2 c (fun e => n (e ▸ k))]
    exact h
  · by_cases e : c = P
    · rw [e]
      exact t.1
    · obtain ⟨qs, h1, h2⟩ := h
      exact ⟨qs, (t.2 c e).trans h1, h2⟩
end
theorem HouseAt.kw {H H' : Hp} {a : Addr} {n k d p c : Nat} (h : HouseAt H a n k d p c) (e : Kw H H') : HouseAt H' a n k d p c := { h with at_ := e.t _ _ h.at_ }
theorem HouseAt.ks {S : Addr → Prop} {H H' : Hp} {a : Addr} {n k d p c : Nat} (h : HouseAt H a n k d p c) (e : Kl S H H') : HouseAt H' a n k d p c := h.kw e.w
theorem KindV.kw {K : PySem.W.Frag} {H H' : Hp} {v : V} {s : String} (h : KindV K H v s) (e : Kw H H') : KindV K H' v s := by
  cases h with
  | non => exact .non
  | bl b => exact .bl b
  | int i => exact .int i
  | str x => exact .str x
  | lst h => exact (let ⟨ys, g⟩ := e.l _ _ h; .lst g)
  | tup h => exact .tup (e.t _ _ h)
theorem KindV.ks {S : Addr → Prop} {K : PySem.W.Frag} {H H' : Hp} {v : V} {s : String} (h : KindV K H v s) (e : Kl S H H') : KindV K H' v s := h.kw e.w
/-! ### deeds, moments -/
def deedB (d p : Nat) : List V → Bool
  | [x, y, z] => isNum x 0 ((d : Int) - 1) && (isNum y 0 ((p : Int) - 1) && isNum z 0 9)
  | _ => false
inductive DeedV (K : PySem.W.Frag) (H : Hp) (d p : Nat) : V → Bool → Prop
  | out {v : V} {s : String} (h : KindV K H v s) (hs : isK s "tuple" = false) : DeedV K H d p v false
  | tup {a : Addr} {xs : List V} (h : H a = some (.tup xs)) (all : ∀ x ∈ xs, ∃ s, KindV K H x s) : DeedV K H d p (.ref a) (deedB d p xs)
theorem DeedV.kw {K : PySem.W.Frag} {H H' : Hp} {d p : Nat} {v : V} {b : Bool} (h : DeedV K H d p v b) (e : Kw H H') : DeedV K H' d p v b := by
  cases h with
  | out h hs => exact .out (h.kw e) hs
  | tup h all => exact .tup (e.t _ _ h) fun x hx => let ⟨s, q⟩ := all x hx; ⟨s, q.kw e⟩
theorem DeedV.ks {S : Addr → Prop} {K : PySem.W.Frag} {H H' : Hp} {d p : Nat} {v : V} {b : Bool} (h : DeedV K H d p v b) (e : Kl S H H') : DeedV K H' d p v b := h.kw e.w
inductive MomentV (K : PySem.W.Frag) (H : Hp) (d p : Nat) : V → Bool → Prop
  | out {v : V} {s : String} (h : KindV K H v s) (hs : isK s "tuple" = false) : MomentV K H d p v false
  | tup {a : Addr} {xs : List V} {bs : List Bool} (h : H a = some (.tup xs)) (hb : Paired (DeedV K H d p) xs bs) : MomentV K H d p (.ref a) (decide (xs.length ≤ 6) && bs.all id)
section
variable {CX : CXT} {P : Program} {w : World} {K : PySem.W.Frag} {mg : Str → Option Value} {base : Heap} {CB CN : Addr}
def spDrawer (K : PySem.W.Frag) : Sp := fun vs H Q _ => ∃ a n k d p c v s, vs = [.ref a, v] ∧ HouseAt H a n k d p c ∧ KindV K H v s ∧ Q (.bl (isNum v 0 ((d : Int) - 1))) H
theorem ok_is_drawer {f fN : Addr} {fd fdN : FuncData} (F : FnP K "is_drawer" s_is_drawer f fd) (T : Fn P w K mg base CX0 1 "is_number" ["value", "least", "most"] (spNumber K) fN fdN) : FnOk P w K mg base CX 2 f fd ["house", "value"] (spDrawer K) := by
  refine F.ok (CX := CX) sc_is_drawer (fun vs H Q E h => ?_) (fun cdv A outer s H vs Q E hr h => ?_)
  · obtain ⟨a, n, k, d, p, c, v, s, rfl, _⟩ := h
    rfl
  · obtain ⟨a, n, k, d, p, c, v, sk, rfl, h, hk, q⟩ := h
    exact ⟨_, pss_one (ps_ret (pe_call T.G hr (by rfl) T.m T.k T.b .nil pass0 (pa_cons (pv 1) (pa_cons pe_int (pa_cons (pe_op op_sub (pe_ix ix_tup (pv 0) pe_int (fun _ _ => rfl)) pe_int) pa_nil))))),
      v, rfl, .ref a, rfl, a, _, _, .int d, rfl, rfl, SqT.of h.at_, atI_nat (j := 2) rfl, _, _, rfl, rfl, v, sk, _, _, rfl, hk, q⟩
def spPage (K : PySem.W.Frag) : Sp := fun vs H Q _ => ∃ a n k d p c v s, vs = [.ref a, v] ∧ HouseAt H a n k d p c ∧ KindV K H v s ∧ Q (.bl (isNum v 0 ((p : Int) - 1))) H
theorem ok_is_page {f fN : Addr} {fd fdN : FuncData} (F : FnP K "is_page" s_is_page f fd) (T : Fn P w K mg base CX0 1 "is_number" ["value", "least", "most"] (spNumber K) fN fdN) : FnOk P w K mg base CX 2 f fd ["house", "value"] (spPage K) := by
  refine F.ok (CX := CX) sc_is_page (fun vs H Q E h => ?_) (fun cdv A outer s H vs Q E hr h => ?_)
  · obtain ⟨a, n, k, d, p, c, v, s, rfl, _⟩ := h
    rfl
  · obtain ⟨a, n, k, d, p, c, v, sk, rfl, h, hk, q⟩ := h
    exact ⟨_, pss_one (ps_ret (pe_call T.G hr (by rfl) T.m T.k T.b .nil pass0 (pa_cons (pv 1) (pa_cons pe_int (pa_cons (pe_op op_sub (pe_ix ix_tup (pv 0) pe_int (fun _ _ => rfl)) pe_int) pa_nil))))),
      v, rfl, .ref a, rfl, a, _, _, .int p, rfl, rfl, SqT.of h.at_, atI_nat (j := 3) rfl, _, _, rfl, rfl, v, sk, _, _, rfl, hk, q⟩
def spDeed (K : PySem.W.Frag) : Sp := fun vs H Q _ => ∃ a n k d p c v b, vs = [.ref a, v] ∧ HouseAt H a n k d p c ∧ DeedV K H d p v b ∧ Q (.bl b) H
theorem ok_is_deed {f fN fD fP : Addr} {fd fdN fdD fdP : FuncData} (F : FnP K "is_deed" s_is_deed f fd) (B : Blt mg) (T : Fn P w K mg base CX0 1 "is_number" ["value", "least", "most"] (spNumber K) fN fdN) (TD : Fn P w K mg base CX0 2 "is_drawer" ["house", "value"] (spDrawer K) fD fdD) (TP : Fn P w K mg base CX0 2 "is_page" ["house", "value"] (spPage K) fP fdP) :
    FnOk P w K mg base CX 3 f fd ["house", "value"] (spDeed K) := by
  refine F.ok (CX := CX) sc_is_deed (fun vs H Q E h => ?_) (fun cdv A outer s H vs Q E hr h => ?_)
  · obtain ⟨a, n, k, d, p, c, v, b, rfl, _⟩ := h
    rfl
  · obtain ⟨a, n, k, d, p, c, v, b, rfl, h, hv, q⟩ := h
    refine ⟨_, (pss_cons (ps_if (PW.pt (pw_or (pt_not (pt_val (pe_callB call_isS (by rfl) B.isinstance (by decide +kernel) (pa_cons (pv 1) (pa_cons (pe_ty "tuple" (by rfl) B.tuple (by decide +kernel)) pa_nil))))) (pw_or1 (pt_cmpR op_ne (pe_callB call_len_seq (by rfl) B.len (by decide +kernel) (pa_cons (pv 1) pa_nil)) pe_int (nomark _))))) (pss_one (ps_ret pe_bl)) pss_nil)
    (pss_cons (ps_asg (pv 1) (pg_tup rfl (pgs_cons (pg_name (i := 2) sc_is_deed.nd rfl (Or.inl rfl)) (pgs_cons (pg_name (i := 3) sc_is_deed.nd rfl (Or.inl rfl)) (pgs_cons (pg_name (i := 4) sc_is_deed.nd rfl (Or.inl rfl)) pgs_nil)))))
    (pss_one (ps_ret (pe_and (pe_call TD.G hr (by rfl) TD.m TD.k TD.b .nil pass0 (pa_cons (pv 0) (pa_cons (pv 2) pa_nil))) (pe_and (pe_call TP.G hr (by rfl) TP.m TP.k TP.b .nil pass0 (pa_cons (pv 0) (pa_cons (pv 3) pa_nil))) (pe_one (pe_call T.G (hr.mono (by decide)) (by rfl) T.m T.k T.b .nil pass0 (pa_cons (pv 4) (pa_cons pe_int (pa_cons pe_int pa_nil))))))))))), ?_⟩
    cases hv with
    | @out v sk hk e =>
      refine ⟨_, rfl, _, _, "tuple", _, rfl, hk.ty, hk.isT, _, rfl, ?_⟩
      rw [e]
      exact iteT (iteT q)
    | @tup t xs ht all =>
      refine ⟨_, rfl, _, _, "tuple", _, rfl, (KindV.tup ht).ty, (KindV.tup (K := K) ht).isT, _, rfl, iteF ?_⟩
      refine ⟨_, rfl, t, xs, rfl, .inr (SqT.of ht), rfl, _, rfl, ?_⟩
      by_cases h3 : xs.length = 3
      · match xs, h3 with
        | [x, y, z], _ =>
          refine iteF ⟨_, rfl, t, _, rfl, SqT.of ht, rfl, _, _, rfl, _, _, rfl, _, _, rfl, rfl, ?_⟩
          obtain ⟨k1, g1⟩ := all x (by simp)
          obtain ⟨k2, g2⟩ := all y (by simp)
          obtain ⟨k3, g3⟩ := all z (by simp)
          change Q (.bl (isNum x 0 ((d : Int) - 1) && (isNum y 0 ((p : Int) - 1) && isNum z 0 9))) H at q
          refine ⟨.ref a, rfl, x, rfl, a, n, k, d, p, c, x, k1, rfl, h, g1, _, rfl, ite2 (fun e => ?_) (fun e => ?_)⟩
          · rw [e, Bool.true_and] at q
            refine ⟨.ref a, rfl, y, rfl, a, n, k, d, p, c, y, k2, rfl, h, g2, _, rfl, ite2 (fun e2 => ?_) (fun e2 => ?_)⟩
            · rw [e2, Bool.true_and] at q
              exact ⟨z, rfl, z, k3, 0, 9, rfl, g3, q⟩
            · rw [Bool.not_eq_true] at e2
              rw [e2, Bool.false_and] at q
              exact q
          · rw [Bool.not_eq_true] at e
            rw [e, Bool.false_and] at q
            exact q
      · have e : (!decide (V.int (xs.length : Int) = V.int 3)) = true := by
          rw [decide_eq_false (fun z => h3 (by injection z with z; omega))] <;> rfl
        rw [e]
        have e2 : deedB d p xs = false := by
          match xs, h3 with
          | [], _ => rfl
          | [_], _ => rfl
          | [_, _], _ => rfl
          | [_, _, _], h => exact absurd rfl h
          | _ :: _ :: _ :: _ :: _, _ => rfl
        rw [e2] at q
        exact iteT q
end
end K10

set_option maxHeartbeats 4000000
namespace K10
open PySem PySem.Spec PyProof.Rows L2 Hd Evl
section
variable {CX : CXT} {P : Program} {w : World} {K : PySem.W.Frag} {mg : Str → Option Value} {base : Heap} {CB CN : Addr}
/-- the def's code object stands at c, its table at Pt -/
structure CodeAt (K : PySem.W.Frag) (mg : Str → Option Value) (base : Heap) (fd : FuncData) (c Pt : Addr) : Prop where
  e : fd.code = .ref c
  tb : GxR.TabB base mg c Pt
  sk : Sk K Pt
def spMoment (K : PySem.W.Frag) (Pt : Addr) : Sp := fun vs H Q _ => ∃ a n k d p c v b, vs = [.ref a, v] ∧ HouseAt H a n k d p c ∧ MomentV K H d p v b ∧ GxR.TabG H Pt ∧ ∀ H2, Ks K H H2 → GxR.TabG H2 Pt → Q (.bl b) H2
theorem yes_go {σ : L2.St} {H : Hp} {A B : Hp → Prop} (h : A H) : tYes σ H (fun b H3 => if b = true then A H3 else B H3) := iteT (B := B H) h
theorem paired_at {α β : Type} {R : α → β → Prop} : ∀ {xs : List α} {ys : List β} {i : Nat} {x : α}, Paired R xs ys → xs[i]? = some x → ∃ y, ys[i]? = some y ∧ R x y
  | _, _, i, x, .nil, e => by simp at e
  | _, _, 0, x, .cons h t, e => ⟨_, rfl, by have := Option.some.inj (by simpa using e); rw [← this]; exact h⟩
  | _, _, i + 1, x, .cons h t, e => by
    obtain ⟨y, e1, e2⟩ := paired_at (i := i) t (by simpa using e)
    exact ⟨y, by simpa using e1, e2⟩
theorem ok_is_moment {f fD c Pt : Addr} {fd fdD : FuncData} {tk : Tok} (F : FnP K "is_moment" s_is_moment f fd) (B : Blt mg) (hall : mg "all" = none) (hM : mg "MOST_DEEDS" = some (.int 6 tk)) (CA : CodeAt K mg base fd c Pt) (TD : Fn P w K mg base CX0 3 "is_deed" ["house", "value"] (spDeed K) fD fdD) :
    FnOk P w K mg base CX 5 f fd ["house", "value"] (spMoment K Pt) := by
  obtain ⟨oc, od, dV, kV, doc, pm, an, cdv, ct, osl, rfl, lk, hcd, _, _⟩ := F.ex
  obtain rfl : cdv = .ref c := CA.e
  refine fn_of (k := 4) lk hcd sc_is_moment (fun vs H Q E h => ?_) (fun A outer s H vs Q E hr h => ?_)
  · obtain ⟨a, n, k, d, p, c, v, b, rfl, _⟩ := h
    rfl
  · obtain ⟨a, n, k, d, p, c', v, b, rfl, h, hv, hT, q⟩ := h
    refine ⟨_, (pss_cons (ps_if (PW.pt (pw_or (pt_not (pt_val (pe_callB call_isS (by rfl) B.isinstance (by decide +kernel) (pa_cons (pv 1) (pa_cons (pe_ty "tuple" (by rfl) B.tuple (by decide +kernel)) pa_nil))))) (pw_or1 (pt_cmpR op_gt (pe_callB call_len_seq (by rfl) B.len (by decide +kernel) (pa_cons (pv 1) pa_nil)) (pe_glob (v := .int 6) rfl hM ⟨tk, rfl⟩) (nomark _))))) (pss_one (ps_ret pe_bl)) pss_nil)
    (pss_one (ps_ret (pe_allG (own := [("deed", 2)]) (g := gName 2) (k := 3) hr (by rfl) hall CA.tb rfl (genOk_by (by rfl)) sc_is_moment.nd (pi_tup (pv 1)) (fun A s H code fp pn r => pg_name (i := 2) sc_is_moment.nd rfl (Or.inl rfl)) (fun A s H code fp pn r => pts_nil)
      (fun A s H code fp pn r => pe_call TD.G r (by rfl) TD.m TD.k TD.b .nil pass0 (pa_cons (pv 0) (pa_cons (pv 2) pa_nil))))))), ?_⟩
    cases hv with
    | @out v sk hk e =>
      refine ⟨_, rfl, _, _, "tuple", _, rfl, hk.ty, hk.isT, _, rfl, ?_⟩
      rw [e]
      exact iteT (iteT (q H Ks.refl hT))
    | @tup t xs bs ht hb =>
      refine ⟨_, rfl, _, _, "tuple", _, rfl, (KindV.tup ht).ty, (KindV.tup (K := K) ht).isT, _, rfl, iteF ?_⟩
      refine ⟨_, rfl, t, xs, rfl, .inr (SqT.of ht), _, _, rfl, rfl, _, rfl, ite2 (fun e => ?_) (fun e => ?_)⟩
      · have e6 : ¬ xs.length ≤ 6 := by have := of_decide_eq_true e; omega
        rw [decide_eq_false e6, Bool.false_and] at q
        exact q H Ks.refl hT
      · have e6 : xs.length ≤ 6 := by
          rw [decide_eq_true_eq] at e
          omega
        rw [decide_eq_true e6, Bool.true_and] at q
        have hlen := Paired.length hb
        refine ⟨.ref t, rfl, t, rfl, ⟨xs, SqT.of ht⟩, hT, fun H2 tb => gt_tup (xs := xs) (fun _ i H' => Ks K H H' ∧ GxR.TabG H' Pt ∧ (bs.take i).all id = true) (fun _ i H' _ w => SqT.of (w.1.t _ _ ht)) (fun u i x H' hx w => ?_) (fun u H' w => ?_) (c0 := ()) ⟨Ks.tab CA.sk hT tb, tb.1, rfl⟩⟩
        · obtain ⟨ks, tg, al⟩ := w
          obtain ⟨b, eb, dv⟩ := paired_at hb hx
          refine ⟨rfl, yes_go ⟨.ref a, rfl, x, rfl, a, n, k, d, p, c', x, b, rfl, h.ks ks, dv.ks ks, b, rfl, fun z => ⟨ks, tg, ?_⟩, fun z => ?_⟩⟩
          · rw [List.take_succ, eb, z, List.all_append, al] <;> rfl
          · have ef : bs.all id = false := by
              rw [List.all_eq_false]
              exact ⟨b, List.mem_of_getElem? eb, by rw [z]; decide⟩
            rw [ef] at q
            exact q H' ks tg
        · obtain ⟨ks, tg, al⟩ := w
          rw [hlen, List.take_length] at al
          rw [al] at q
          exact q H' ks tg
end
end K10

set_option maxHeartbeats 4000000
namespace K10
open PySem PySem.Spec PyProof.Rows L2 Hd Evl
/-! ### stories -/
theorem paired_imp {α β : Type} {R S : α → β → Prop} (f : ∀ a b, R a b → S a b) : ∀ {xs : List α} {ys : List β}, Paired R xs ys → Paired S xs ys
  | _, _, .nil => .nil
  | _, _, .cons h t => .cons (f _ _ h) (paired_imp f t)
theorem MomentV.kw {K : PySem.W.Frag} {H H' : Hp} {d p : Nat} {v : V} {b : Bool} (h : MomentV K H d p v b) (e : Kw H H') : MomentV K H' d p v b := by
  cases h with
  | out h hs => exact .out (h.kw e) hs
  | tup h hb => exact .tup (e.t _ _ h) (paired_imp (fun _ _ q => q.kw e) hb)
theorem MomentV.ks {S : Addr → Prop} {K : PySem.W.Frag} {H H' : Hp} {d p : Nat} {v : V} {b : Bool} (h : MomentV K H d p v b) (e : Kl S H H') : MomentV K H' d p v b := h.kw e.w
inductive StoryV (K : PySem.W.Frag) (H : Hp) (d p : Nat) : V → Option (List Bool) → Prop
  | out {v : V} {s : String} (h : KindV K H v s) (hs : isK s "tuple" = false) : StoryV K H d p v none
  | long {a : Addr} {xs : List V} (h : H a = some (.tup xs)) (hl : 40 < xs.length) : StoryV K H d p (.ref a) none
  | tup {a : Addr} {xs : List V} {bs : List Bool} (h : H a = some (.tup xs)) (hl : xs.length ≤ 40) (hb : Paired (MomentV K H d p) xs bs) : StoryV K H d p (.ref a) (some bs)
/-- C(x), its field named f, leaves a def -/
def Out (K : PySem.W.Frag) (C : Addr) (f : Str) (Pt : Addr) (E : XK) (H : Hp) (x : V) : Prop := ∀ dd H', Ks K H H' → GxR.TabG H' Pt → H' dd = some (.xd [(f, x)]) → E (.ref C) (some dd) H'
section
variable {CX : CXT} {P : Program} {w : World} {K : PySem.W.Frag} {mg : Str → Option Value} {base : Heap} {CB CN CS : Addr}
def spStory (K : PySem.W.Frag) (CS Pt : Addr) : Sp := fun vs H Q E => ∃ a n k d p c v o, vs = [.ref a, v] ∧ HouseAt H a n k d p c ∧ StoryV K H d p v o ∧ GxR.TabG H Pt ∧ (o = none → Out K CS "index" Pt E H .non) ∧
  ∀ bs, o = some bs → (bs.all id = true → ∀ H2, Ks K H H2 → GxR.TabG H2 Pt → Q .non H2) ∧ ∀ i : Nat, bs[i]? = some false → (bs.take i).all id = true → Out K CS "index" Pt E H (.int i)
theorem ok_check_story {f fM Pt : Addr} {fd fdM : FuncData} {tk : Tok} (F : FnP K "check_story" s_check_story f fd) (B : Blt mg) (hM : mg "MOST_MOMENTS" = some (.int 40 tk)) (TM : Fn P w K mg base CX0 5 "is_moment" ["house", "value"] (spMoment K Pt) fM fdM) (ES : ErrF P w K mg base "BadStory" "index" CS) :
    FnOk P w K mg base (L2.CX P w) 6 f fd ["house", "story"] (spStory K CS Pt) := by
  refine F.ok (CX := L2.CX P w) sc_check_story (fun vs H Q E h => ?_) (fun cdv A outer s H vs Q E hr h => ?_)
  · obtain ⟨a, n, k, d, p, c, v, o, rfl, _⟩ := h
    rfl
  · obtain ⟨a, n, k, d, p, c, v, o, rfl, h, hv, hT, q1, q2⟩ := h
    have h2 := hr.mono (show 2 ≤ 5 by decide)
    refine ⟨_, (pss_cons (ps_if (PW.pt (pw_or (pt_not (pt_val (pe_callB call_isS (by rfl) B.isinstance (by decide +kernel) (pa_cons (pv 1) (pa_cons (pe_ty "tuple" (by rfl) B.tuple (by decide +kernel)) pa_nil))))) (pw_or1 (pt_cmpR op_gt (pe_callB call_len_seq (by rfl) B.len (by decide +kernel) (pa_cons (pv 1) pa_nil)) (pe_glob (v := .int 40) rfl hM ⟨tk, rfl⟩) (nomark _))))) (pss_one (ps_raiseF ES rfl h2 (takes_of (E := E) rfl rfl rfl rfl) (by rfl) (pa_cons pe_non pa_nil))) pss_nil)
    (pss_one (ps_for (passes_of rfl) rfl (pi_enumT (by rfl) B.enumerate (pa_cons (pv 1) pa_nil)) (pg_tup rfl (pgs_cons (pg_name (i := 2) sc_check_story.nd rfl (Or.inl rfl)) (pgs_cons (pg_name (i := 3) sc_check_story.nd rfl (Or.inl rfl)) pgs_nil)))
      (pss_one (ps_if (pt_not (pt_val (pe_call TM.G hr (by rfl) TM.m TM.k TM.b .nil pass0 (pa_cons (pv 0) (pa_cons (pv 3) pa_nil))))) (pss_one (ps_raiseF ES rfl h2 (takes_of (E := E) rfl rfl rfl rfl) (by rfl) (pa_cons (pv 2) pa_nil))) pss_nil))))), ?_⟩
    have bad0 : o = none → ∀ (d : Addr) (H2 : Hp), Ex H H2 → H d = none → H2 d = some (.xd [("index", .non)]) → E (.ref CS) (some d) H2 := fun eo dd H2 e _ x => q1 eo dd H2 (Ks.ex e) (tab_ex hT e) x
    cases hv with
    | @out v sk hk e =>
      refine ⟨_, rfl, _, _, "tuple", _, rfl, hk.ty, hk.isT, _, rfl, ?_⟩
      rw [e]
      exact iteT (iteT ⟨.non, rfl, fun dd H2 e n x => bad0 rfl dd H2 e n x⟩)
    | @long t xs ht hl =>
      refine ⟨_, rfl, _, _, "tuple", _, rfl, (KindV.tup ht).ty, (KindV.tup (K := K) ht).isT, _, rfl, iteF ?_⟩
      refine ⟨_, rfl, t, xs, rfl, .inr (SqT.of ht), _, _, rfl, rfl, _, rfl, ?_⟩
      rw [decide_eq_true (show (40 : Int) < (xs.length : Int) by omega)]
      exact iteT ⟨.non, rfl, fun dd H2 e n x => bad0 rfl dd H2 e n x⟩
    | @tup t xs bs ht hl hb =>
      refine ⟨_, rfl, _, _, "tuple", _, rfl, (KindV.tup ht).ty, (KindV.tup (K := K) ht).isT, _, rfl, iteF ?_⟩
      refine ⟨_, rfl, t, xs, rfl, .inr (SqT.of ht), _, _, rfl, rfl, _, rfl, ?_⟩
      rw [decide_eq_false (show ¬ (40 : Int) < (xs.length : Int) by omega)]
      obtain ⟨qn, qi⟩ := q2 bs rfl
      have hlen := Paired.length hb
      refine iteF ⟨.ref t, rfl, t, xs, rfl, SqT.of ht, ?_⟩
      refine for_enumT (xs := xs) (fun i σ G => ∃ y2 y3 : Option V, σ = [some (.ref a), some (.ref t), y2, y3] ∧ Ks K H G ∧ GxR.TabG G Pt ∧ (bs.take i).all id = true) ⟨none, none, rfl, Ks.refl, hT, rfl⟩ (fun i σ G _ w => by obtain ⟨_, _, _, ks, _⟩ := w; exact SqT.of (ks.t _ _ ht)) (fun i x σ G T2 hx w nT => ?_) (fun σ G w => ?_)
      · obtain ⟨y2, y3, rfl, ks, tg, al⟩ := w
        obtain ⟨b, eb, mv⟩ := paired_at hb hx
        have e1 := Ex.new (o := .tup [V.int (i : Nat), x]) nT
        have k1 := ks.trans (Ks.ex e1)
        refine ⟨T2, _, rfl, SqT.of upd_same, rfl, _, _, rfl, _, _, rfl, rfl, ?_⟩
        refine ⟨.ref a, rfl, x, rfl, a, n, k, d, p, c, x, b, rfl, h.ks k1, mv.ks k1, tab_ex tg e1, fun G2 k2 t2 => ⟨b, rfl, ?_⟩⟩
        cases b with
        | true =>
          refine iteF ⟨_, _, rfl, k1.trans k2, t2, ?_⟩
          rw [List.take_succ, eb, List.all_append, al] <;> rfl
        | false => exact iteT ⟨.int i, rfl, .int i, rfl, fun dd H2 e nd xd => qi i eb al dd H2 ((k1.trans k2).trans (Ks.ex e)) (tab_ex t2 e) xd⟩
      · obtain ⟨y2, y3, rfl, ks, tg, al⟩ := w
        rw [hlen, List.take_length] at al
        exact qn al G ks tg
end
end K10

set_option maxHeartbeats 4000000
namespace K10
open PySem PySem.Spec PyProof.Rows L2 Hd Evl
def okS : Option (List Bool) → Bool
  | none => false
  | some bs => bs.all id
section
variable {CX : CXT} {P : Program} {w : World} {K : PySem.W.Frag} {mg : Str → Option Value} {base : Heap} {CB CN CS : Addr}
def spIsStory (K : PySem.W.Frag) (Pt : Addr) : Sp := fun vs H Q E => ∃ a n k d p c v o, vs = [.ref a, v] ∧ HouseAt H a n k d p c ∧ StoryV K H d p v o ∧ GxR.TabG H Pt ∧ ∀ H2, Ks K H H2 → GxR.TabG H2 Pt → Q (.bl (okS o)) H2
theorem first_bad : ∀ {bs : List Bool}, bs.all id = false → ∃ i : Nat, bs[i]? = some false ∧ (bs.take i).all id = true
  | [], h => by cases h
  | false :: r, _ => ⟨0, rfl, rfl⟩
  | true :: r, h => by
    obtain ⟨i, h1, h2⟩ := first_bad (bs := r) h
    exact ⟨i + 1, h1, h2⟩
theorem ok_is_story {f fC fS Pt : Addr} {fd fdC fdS : FuncData} (F : FnP K "is_story" s_is_story f fd) (TC : Fn P w K mg base (L2.CX P w) 3 "check_house" ["house"] (spCheck K CB) fC fdC) (TS : Fn P w K mg base (L2.CX P w) 6 "check_story" ["house", "story"] (spStory K CS Pt) fS fdS) (mS : mg "BadStory" = some (.ref CS))
    (x1 : PySem.W.exmOne K (.ref CS) (.ref CS) = some true) : FnOk P w K mg base (L2.CX P w) 7 f fd ["house", "value"] (spIsStory K Pt) := by
  refine F.ok (CX := L2.CX P w) sc_is_story (fun vs H Q E h => ?_) (fun cdv A outer s H vs Q E hr h => ?_)
  · obtain ⟨a, n, k, d, p, c, v, o, rfl, _⟩ := h
    rfl
  · obtain ⟨a, n, k, d, p, c, v, o, rfl, h, hv, hT, q⟩ := h
    let X0 : Cx := cxOf (L2.CX P w) P w K mg base n_is_story "is_story" (defScope s_is_story) f cdv A outer s H E
    refine ⟨_, (pss_cons (ps_expr (pe_call TC.G (hr.mono (by decide)) (by rfl) TC.m TC.k TC.b .nil (passX (E := E) rfl rfl rfl rfl) (pa_cons (pv 0) pa_nil)))
      (pss_cons (ps_tries (X := X0) (tb := fun W D σ H => ∃ Ech : XK, (∀ cls d σ' H', Ech cls d H' → W cls d σ' H') ∧ tCall (spStory K CS Pt) [] Ech (tCons (tVar 0) (tCons (tVar 1) tNil)) σ H fun _ H1 => D.nx σ H1) rfl rfl (takes_of (E := E) rfl rfl rfl rfl)
          (fun W pn xe tk _ => ⟨fun pins s' σ H' D I h' => ?_⟩) (Clauses.bare ⟨by rfl, by decide, .inl mS⟩ (fun a oe k d pn z _ => pss_one (ps_ret pe_bl)) .nil))
      (pss_one (ps_ret pe_bl)))), ?_⟩
    · obtain ⟨Ech, hW, h1⟩ := h'
      exact (pss_one (ps_expr (pe_call TS.G hr (by rfl) TS.m TS.k TS.b .nil (passes_call tk hW) (pa_cons (pv 0) (pa_cons (pv 1) pa_nil))))).run pins s' σ H' D I h1
    · refine ⟨.ref a, rfl, .ref a, none, rfl, h.wr, fun _ => ?_, (fun x e => by cases e)⟩
      refine ⟨fun cls _ H' => cls = .ref CS ∧ Q (.bl false) H', fun cls d' σ' H' he => ?_, .ref a, rfl, v, rfl, a, n, k, d, p, c, v, o, rfl, h, hv, hT, fun eo dd H' ks tg _ => ⟨rfl, ?_⟩, fun bs eo => ⟨fun al H2 ks tg => ?_, fun i hi hal dd H' ks tg _ => ⟨rfl, ?_⟩⟩⟩
      · obtain ⟨rfl, hq⟩ := he
        exact ⟨true, x1, fun _ a _ => hq, fun z => by cases z⟩
      · rw [eo] at q
        exact q H' ks tg
      · rw [eo] at q
        have e : okS (some bs) = true := al
        rw [e] at q
        exact q H2 ks tg
      · rw [eo] at q
        have e : okS (some bs) = false := by
          show bs.all id = false
          rw [List.all_eq_false]
          exact ⟨false, List.mem_of_getElem? hi, by decide⟩
        rw [e] at q
        exact q H' ks tg
end
end K10

set_option maxHeartbeats 4000000
namespace K10
open PySem PySem.Spec PyProof.Rows L2 Hd Evl
/-! ### moments counted -/
/-- a session whose story has l moments -/
def SessL (H : Hp) (v : V) (l : Nat) : Prop := ∃ t dp u us, v = .ref t ∧ H t = some (.tup [dp, .ref u]) ∧ H u = some (.tup us) ∧ us.length = l
def rLenK (K : PySem.W.Frag) : List V → Hp → VK → Prop := fun xs H Q => ∃ p ys, xs = [.ref p] ∧ (SqL K H p ys ∨ SqT K H p ys) ∧ Q (.int ys.length) H
section
variable {CX : CXT} {P : Program} {w : World} {K : PySem.W.Frag} {mg : Str → Option Value} {base : Heap} {CB CN CS : Addr}
def spMany (K : PySem.W.Frag) (Pt : Addr) : Sp := fun vs H Q _ => ∃ a ss ls, vs = [.ref a] ∧ H a = some (.tup ss) ∧ Paired (SessL H) ss ls ∧ ls.sum ≤ 1000000 ∧ GxR.TabG H Pt ∧ ∀ H2, Ks K H H2 → GxR.TabG H2 Pt → Q (.int (ls.sum : Nat)) H2
theorem sum_take : ∀ (ls : List Nat) (i : Nat), (ls.take i).sum ≤ ls.sum
  | [], i => by simp
  | x :: r, 0 => by simp
  | x :: r, i + 1 => by
    have := sum_take r i
    simp only [List.take_succ_cons, List.sum_cons]
    omega
theorem ok_many {f c Pt : Addr} {fd : FuncData} (F : FnP K "moment_count" s_moment_count f fd) (B : Blt mg) (CA : CodeAt K mg base fd c Pt) : FnOk P w K mg base CX 2 f fd ["life"] (spMany K Pt) := by
  obtain ⟨oc, od, dV, kV, doc, pm, an, cdv, ct, osl, rfl, lk, hcd, _, _⟩ := F.ex
  obtain rfl : cdv = .ref c := CA.e
  refine fn_of (k := 1) lk hcd sc_moment_count (fun vs H Q E h => ?_) (fun A outer s H vs Q E hr h => ?_)
  · obtain ⟨a, ss, ls, rfl, _⟩ := h
    rfl
  · obtain ⟨a, ss, ls, rfl, ha, hp, hz, hT, q⟩ := h
    refine ⟨_, pss_one (ps_ret (pe_sumG (own := [("session", 1)]) (g := gName 1) (k := 0) hr (by rfl) B.sum CA.tb rfl (genOk_by (by rfl)) sc_moment_count.nd (pi_tup (pv 0)) (fun A s H code fp pn r => pg_name (i := 1) sc_moment_count.nd rfl (Or.inl rfl)) (fun A s H code fp pn r => pts_nil)
      (fun A s H code fp pn r => pe_callB (call_len_seq : CallR _ _ (rLenK K)) (by rfl) B.len (by decide +kernel) (pa_cons (pe_ix (ix_tup : IxR _ (rIxT K)) (pv 1) pe_int (fun _ _ => rfl)) pa_nil)))), ?_⟩
    have hlen := Paired.length hp
    refine ⟨.ref a, rfl, a, rfl, ⟨ss, SqT.of ha⟩, hT, fun H2 tb => gt_tup (xs := ss) (fun (c : Int) i H' => c = ((ls.take i).sum : Nat) ∧ Ks K H H' ∧ GxR.TabG H' Pt) (fun _ i H' _ w => SqT.of (w.2.1.t _ _ ha)) (fun c i x H' hx w => ?_) (fun c H' w => ?_) (c0 := 0) ⟨rfl, Ks.tab CA.sk hT tb, tb.1⟩⟩
    · obtain ⟨rfl, ks, tg⟩ := w
      obtain ⟨l, el, t, dp, u, us, rfl, h1, h2, h3⟩ := paired_at hp hx
      have e : (ls.take (i + 1)).sum = (ls.take i).sum + l := by
        rw [List.take_succ, el, List.sum_append] <;> simp
      have b1 := sum_take ls (i + 1)
      rw [e] at b1
      refine ⟨rfl, yes_go ⟨.ref t, rfl, t, _, _, .ref u, rfl, rfl, SqT.of (ks.t _ _ h1), atI_nat (j := 1) rfl, u, us, rfl, .inr (SqT.of (ks.t _ _ h2)), us.length, rfl, ⟨by omega, by omega⟩, ⟨by omega, by omega⟩, ?_, ks, tg⟩⟩
      rw [e, h3]
      omega
    · obtain ⟨rfl, ks, tg⟩ := w
      rw [hlen, List.take_length]
      exact q H' ks tg
end
end K10

set_option maxHeartbeats 4000000
namespace K10
open PySem PySem.Spec PyProof.Rows L2 Hd Evl
/-! ### coins -/
inductive CoinV (K : PySem.W.Frag) (H : Hp) (m : Nat) : V → Bool → Prop
  | mk {v : V} {s : String} (h : KindV K H v s) : CoinV K H m v (isNum v 0 ((m : Int) - 1))
theorem CoinV.kw {K : PySem.W.Frag} {H H' : Hp} {m : Nat} {v : V} {b : Bool} (h : CoinV K H m v b) (e : Kw H H') : CoinV K H' m v b := by
  cases h with
  | mk h => exact .mk (h.kw e)
theorem CoinV.ks {S : Addr → Prop} {K : PySem.W.Frag} {H H' : Hp} {m : Nat} {v : V} {b : Bool} (h : CoinV K H m v b) (e : Kl S H H') : CoinV K H' m v b := h.kw e.w
/-- m coins of a house's row, each one of t; none: no such tuple -/
inductive CoinsV (K : PySem.W.Frag) (H : Hp) (t m : Nat) : V → Option (List Bool) → Prop
  | out {v : V} {s : String} (h : KindV K H v s) (hs : isK s "tuple" = false) : CoinsV K H t m v none
  | len {a : Addr} {xs : List V} (h : H a = some (.tup xs)) (hl : xs.length ≠ m) : CoinsV K H t m (.ref a) none
  | tup {a : Addr} {xs : List V} {bs : List Bool} (h : H a = some (.tup xs)) (hl : xs.length = m) (hb : Paired (CoinV K H t) xs bs) : CoinsV K H t m (.ref a) (some bs)
theorem CoinsV.kw {K : PySem.W.Frag} {H H' : Hp} {t m : Nat} {v : V} {o : Option (List Bool)} (h : CoinsV K H t m v o) (e : Kw H H') : CoinsV K H' t m v o := by
  cases h with
  | out h hs => exact .out (h.kw e) hs
  | len h hl => exact .len (e.t _ _ h) hl
  | tup h hl hb => exact .tup (e.t _ _ h) hl (paired_imp (fun _ _ q => q.kw e) hb)
section
variable {CX : CXT} {P : Program} {w : World} {K : PySem.W.Frag} {mg : Str → Option Value} {base : Heap} {CB CN CS : Addr}
def spCoins (K : PySem.W.Frag) (CS Pt : Addr) : Sp := fun vs H Q E => ∃ a n k d p c l ss ls v o, vs = [.ref a, .ref l, v] ∧ HouseAt H a n k d p c ∧ H l = some (.tup ss) ∧ Paired (SessL H) ss ls ∧ ls.sum ≤ 1000000 ∧ CoinsV K H (nck n k) ls.sum v o ∧ GxR.TabG H Pt ∧ (o = none → Out K CS "index" Pt E H .non) ∧
  ∀ bs, o = some bs → (bs.all id = true → ∀ H2, Ks K H H2 → GxR.TabG H2 Pt → Q .non H2) ∧ ∀ i : Nat, bs[i]? = some false → (bs.take i).all id = true → Out K CS "index" Pt E H (.int i)
theorem ok_check_coins {f fM fI Pt : Addr} {fd fdM fdI : FuncData} (F : FnP K "check_coins" s_check_coins f fd) (B : Blt mg) (TM : Fn P w K mg base CX0 2 "moment_count" ["life"] (spMany K Pt) fM fdM) (TI : Fn P w K mg base CX0 2 "is_coin" ["house", "value"] (spIsCoin K) fI fdI) (ES : ErrF P w K mg base "BadCoins" "index" CS) :
    FnOk P w K mg base (L2.CX P w) 3 f fd ["house", "life", "coins"] (spCoins K CS Pt) := by
  refine F.ok (CX := L2.CX P w) sc_check_coins (fun vs H Q E h => ?_) (fun cdv A outer s H vs Q E hr h => ?_)
  · obtain ⟨a, n, k, d, p, c, l, ss, ls, v, o, rfl, _⟩ := h
    rfl
  · obtain ⟨a, n, k, d, p, c, l, ss, ls, v, o, rfl, h, hl, hss, hz, hv, hT, q1, q2⟩ := h
    refine ⟨_, (pss_cons (ps_if (PW.pt (pw_or (pt_not (pt_val (pe_callB call_isS (by rfl) B.isinstance (by decide +kernel) (pa_cons (pv 2) (pa_cons (pe_ty "tuple" (by rfl) B.tuple (by decide +kernel)) pa_nil))))) (pw_or1 (pt_cmpR op_ne (pe_callB call_len_seq (by rfl) B.len (by decide +kernel) (pa_cons (pv 2) pa_nil)) (pe_call TM.G hr (by rfl) TM.m TM.k TM.b .nil pass0 (pa_cons (pv 1) pa_nil)) (nomark _))))) (pss_one (ps_raiseF ES rfl hr (takes_of (E := E) rfl rfl rfl rfl) (by rfl) (pa_cons pe_non pa_nil))) pss_nil)
    (pss_one (ps_for (passes_of rfl) rfl (pi_enumT (by rfl) B.enumerate (pa_cons (pv 2) pa_nil)) (pg_tup rfl (pgs_cons (pg_name (i := 3) sc_check_coins.nd rfl (Or.inl rfl)) (pgs_cons (pg_name (i := 4) sc_check_coins.nd rfl (Or.inl rfl)) pgs_nil)))
      (pss_one (ps_if (pt_not (pt_val (pe_call TI.G hr (by rfl) TI.m TI.k TI.b .nil pass0 (pa_cons (pv 0) (pa_cons (pv 4) pa_nil))))) (pss_one (ps_raiseF ES rfl hr (takes_of (E := E) rfl rfl rfl rfl) (by rfl) (pa_cons (pv 3) pa_nil))) pss_nil))))), ?_⟩
    cases hv with
    | @out v sk hk e =>
      refine ⟨_, rfl, _, _, "tuple", _, rfl, hk.ty, hk.isT, _, rfl, ?_⟩
      rw [e]
      exact iteT (iteT ⟨.non, rfl, fun dd H2 e n x => q1 rfl dd H2 (Ks.ex e) (tab_ex hT e) x⟩)
    | @len t xs ht hne =>
      refine ⟨_, rfl, _, _, "tuple", _, rfl, (KindV.tup ht).ty, (KindV.tup (K := K) ht).isT, _, rfl, iteF ?_⟩
      refine ⟨_, rfl, t, xs, rfl, .inr (SqT.of ht), .ref l, rfl, l, ss, ls, rfl, hl, hss, hz, hT, fun H2 ks tg => ⟨rfl, _, rfl, ?_⟩⟩
      have e : (!decide (V.int (xs.length : Int) = V.int (ls.sum : Nat))) = true := by
        rw [decide_eq_false (fun z => hne (by injection z with z; omega))] <;> rfl
      rw [e]
      exact iteT ⟨.non, rfl, fun dd H3 e n x => q1 rfl dd H3 (ks.trans (Ks.ex e)) (tab_ex tg e) x⟩
    | @tup t xs bs ht hx hb =>
      refine ⟨_, rfl, _, _, "tuple", _, rfl, (KindV.tup ht).ty, (KindV.tup (K := K) ht).isT, _, rfl, iteF ?_⟩
      refine ⟨_, rfl, t, xs, rfl, .inr (SqT.of ht), .ref l, rfl, l, ss, ls, rfl, hl, hss, hz, hT, fun H1 ks1 tg1 => ⟨rfl, _, rfl, ?_⟩⟩
      rw [hx, decide_eq_true rfl]
      obtain ⟨qn, qi⟩ := q2 bs rfl
      have hlen := Paired.length hb
      refine iteF ⟨.ref t, rfl, t, xs, rfl, SqT.of (ks1.t _ _ ht), ?_⟩
      refine for_enumT (xs := xs) (fun i σ G => ∃ y3 y4 : Option V, σ = [some (.ref a), some (.ref l), some (.ref t), y3, y4] ∧ Ks K H G ∧ GxR.TabG G Pt ∧ (bs.take i).all id = true) ⟨none, none, rfl, ks1, tg1, rfl⟩ (fun i σ G _ w => by obtain ⟨_, _, _, ks, _⟩ := w; exact SqT.of (ks.t _ _ ht)) (fun i x σ G T2 hx w nT => ?_) (fun σ G w => ?_)
      · obtain ⟨y3, y4, rfl, ks, tg, al⟩ := w
        obtain ⟨b, eb, cv⟩ := paired_at hb hx
        have e1 := Ex.new (o := .tup [V.int (i : Nat), x]) nT
        have k1 := ks.trans (Ks.ex e1)
        have cv' := cv.ks k1
        obtain ⟨sk, kx⟩ : ∃ sk, KindV K (upd G T2 (.tup [V.int (i : Nat), x])) x sk := by
          cases cv' with
          | mk h => exact ⟨_, h⟩
        have eb' : isNum x 0 ((nck n k : Nat) - 1) = b := by cases cv'; rfl
        refine ⟨T2, _, rfl, SqT.of upd_same, rfl, _, _, rfl, _, _, rfl, rfl, ?_⟩
        refine ⟨.ref a, rfl, x, rfl, a, n, k, d, p, c, x, sk, rfl, h.ks k1, kx, _, rfl, ?_⟩
        rw [eb']
        cases b with
        | true =>
          refine iteF ⟨_, _, rfl, k1, tab_ex tg e1, ?_⟩
          rw [List.take_succ, eb, List.all_append, al] <;> rfl
        | false => exact iteT ⟨.int i, rfl, .int i, rfl, fun dd H2 e nd xd => qi i eb al dd H2 (k1.trans (Ks.ex e)) (tab_ex (tab_ex tg e1) e) xd⟩
      · obtain ⟨y3, y4, rfl, ks, tg, al⟩ := w
        rw [hlen, List.take_length] at al
        exact qn al G ks tg
end
end K10

set_option maxHeartbeats 4000000
namespace K10
open PySem PySem.Spec PyProof.Rows L2 Hd Evl
section
variable {CX : CXT} {P : Program} {w : World} {K : PySem.W.Frag} {mg : Str → Option Value} {base : Heap} {CB CN CD CP : Addr}
/-! ### check_drawer, check_page -/
def spChk (K : PySem.W.Frag) (top : Nat → Nat → Nat) (C : Addr) : Sp := fun vs H Q E => ∃ a n k d p c v s, vs = [.ref a, v] ∧ HouseAt H a n k d p c ∧ KindV K H v s ∧ (isNum v 0 ((top d p : Nat) - 1) = true → Q .non H) ∧ (isNum v 0 ((top d p : Nat) - 1) = false → E (.ref C) none H)
theorem ok_check_drawer {f fD : Addr} {fd fdD : FuncData} (F : FnP K "check_drawer" s_check_drawer f fd) (TD : Fn P w K mg base CX0 2 "is_drawer" ["house", "value"] (spDrawer K) fD fdD) (N : ErrP K mg "BadDrawer" CD) : FnOk P w K mg base (L2.CX P w) 3 f fd ["house", "drawer"] (spChk K (fun d _ => d) CD) := by
  refine F.ok (CX := L2.CX P w) sc_check_drawer (fun vs H Q E h => ?_) (fun cdv A outer s H vs Q E hr h => ?_)
  · obtain ⟨a, n, k, d, p, c, v, s, rfl, _⟩ := h
    rfl
  · obtain ⟨a, n, k, d, p, c, v, sk, rfl, h, hk, q1, q2⟩ := h
    refine ⟨_, pss_one (ps_if (pt_not (pt_val (pe_call TD.G hr (by rfl) TD.m TD.k TD.b .nil pass0 (pa_cons (pv 0) (pa_cons (pv 1) pa_nil))))) (pss_one (ps_raiseP N rfl (takes_of (E := E) rfl rfl rfl rfl) (by rfl))) pss_nil), ?_⟩
    refine ⟨.ref a, rfl, v, rfl, a, n, k, d, p, c, v, sk, rfl, h, hk, _, rfl, ?_⟩
    cases e : isNum v 0 ((d : Int) - 1) with
    | true => exact iteF (q1 e)
    | false => exact iteT (q2 e)
theorem ok_check_page {f fD : Addr} {fd fdD : FuncData} (F : FnP K "check_page" s_check_page f fd) (TD : Fn P w K mg base CX0 2 "is_page" ["house", "value"] (spPage K) fD fdD) (N : ErrP K mg "BadPage" CP) : FnOk P w K mg base (L2.CX P w) 3 f fd ["house", "page"] (spChk K (fun _ p => p) CP) := by
  refine F.ok (CX := L2.CX P w) sc_check_page (fun vs H Q E h => ?_) (fun cdv A outer s H vs Q E hr h => ?_)
  · obtain ⟨a, n, k, d, p, c, v, s, rfl, _⟩ := h
    rfl
  · obtain ⟨a, n, k, d, p, c, v, sk, rfl, h, hk, q1, q2⟩ := h
    refine ⟨_, pss_one (ps_if (pt_not (pt_val (pe_call TD.G hr (by rfl) TD.m TD.k TD.b .nil pass0 (pa_cons (pv 0) (pa_cons (pv 1) pa_nil))))) (pss_one (ps_raiseP N rfl (takes_of (E := E) rfl rfl rfl rfl) (by rfl))) pss_nil), ?_⟩
    refine ⟨.ref a, rfl, v, rfl, a, n, k, d, p, c, v, sk, rfl, h, hk, _, rfl, ?_⟩
    cases e : isNum v 0 ((p : Int) - 1) with
    | true => exact iteF (q1 e)
    | false => exact iteT (q2 e)
end
end K10

set_option maxHeartbeats 4000000
namespace K10
open PySem PySem.Spec PyProof.Rows L2 Hd Evl
def waysL : List Str := ["true", "free", "idle", "kept", "need", "lower"]
def waysV : List V := waysL.map V.str
theorem inV_str (x : Str) : ∀ l : List Str, inV (.str x) (l.map V.str) = l.contains x
  | [] => rfl
  | y :: r => by
    have ih := inV_str x r
    unfold inV at ih ⊢
    rw [List.map_cons, List.any_cons, ih, List.contains_cons]
    congr 1
    show (y == x) = (x == y)
    exact Bool.eq_iff_iff.mpr ⟨fun h => by rw [beq_iff_eq] at h ⊢; exact h.symm, fun h => by rw [beq_iff_eq] at h ⊢; exact h.symm⟩
section
variable {CX : CXT} {P : Program} {w : World} {K : PySem.W.Frag} {mg : Str → Option Value} {base : Heap} {CB CN CD CP : Addr}
def wayOk : V → Bool
  | .str x => waysL.contains x
  | _ => false
def spWay (K : PySem.W.Frag) (CB : Addr) : Sp := fun vs H Q E => ∃ v s, vs = [v] ∧ KindV K H v s ∧ (wayOk v = true → Q .non H) ∧ (wayOk v = false → Refuses CB E H "way")
theorem ok_check_way {f aW : Addr} {fd : FuncData} (F : FnP K "check_way" s_check_way f fd) (B : Blt mg) (hW : mg "WAYS" = some (.ref aW)) (hS : ∀ H, SqT K H aW waysV) (EB : ErrF P w K mg base "BadHouse" "word" CB) : FnOk P w K mg base (L2.CX P w) 3 f fd ["way"] (spWay K CB) := by
  refine F.ok (CX := L2.CX P w) sc_check_way (fun vs H Q E h => ?_) (fun cdv A outer s H vs Q E hr h => ?_)
  · obtain ⟨v, s, rfl, _⟩ := h
    rfl
  · obtain ⟨v, sk, rfl, hk, q1, q2⟩ := h
    refine ⟨_, (pss_one (ps_if (PW.pt (pw_or (pt_not (pt_val (pe_callB call_isS (by rfl) B.isinstance (by decide +kernel) (pa_cons (pv 0) (pa_cons (pe_ty "str" (by rfl) B.str (by decide +kernel)) pa_nil))))) (pw_or1 (pt_cmpR op_notIn_seq (pv 0) (pe_glob (v := .ref aW) rfl hW rfl) (by rfl))))) (pss_one (ps_raiseF EB rfl hr (takes_of (E := E) rfl rfl rfl rfl) (by rfl) (pa_cons pe_str pa_nil))) pss_nil)), ?_⟩
    refine ⟨v, rfl, v, sk, "str", _, rfl, hk.ty, hk.isS, _, rfl, ?_⟩
    cases hk with
    | non => exact iteT (iteT ⟨_, rfl, fun dd H2 e n x => q2 rfl dd H2 e n x⟩)
    | bl b => exact iteT (iteT ⟨_, rfl, fun dd H2 e n x => q2 rfl dd H2 e n x⟩)
    | int i => exact iteT (iteT ⟨_, rfl, fun dd H2 e n x => q2 rfl dd H2 e n x⟩)
    | lst h => exact iteT (iteT ⟨_, rfl, fun dd H2 e n x => q2 rfl dd H2 e n x⟩)
    | tup h => exact iteT (iteT ⟨_, rfl, fun dd H2 e n x => q2 rfl dd H2 e n x⟩)
    | str x =>
      refine iteF ⟨.str x, rfl, aW, waysV, rfl, .inr (hS H), rfl, rfl, _, rfl, ?_⟩
      have e : inV (.str x) waysV = wayOk (.str x) := inV_str x waysL
      show (if (!inV (.str x) waysV) = true then _ else _)
      rw [e]
      cases ew : wayOk (.str x) with
      | true => exact iteF (q1 ew)
      | false => exact iteT ⟨_, rfl, fun dd H2 e n y => q2 ew dd H2 e n y⟩
end
end K10

set_option maxHeartbeats 4000000
namespace K10
open PySem PySem.Spec PyProof.Rows L2 Hd Evl
/-! ### sessions -/
/-- whether the deeds' drawers are at most u -/
def DeedLow (H : Hp) (u : Int) (e : V) (z : Bool) : Prop := ∃ t y ys, e = .ref t ∧ H t = some (.tup (.int y :: ys)) ∧ z = decide (y ≤ u)
def MomentLow (H : Hp) (u : Int) (m : V) (c : Bool) : Prop := ∃ t ds cs, m = .ref t ∧ H t = some (.tup ds) ∧ ds.length ≤ 6 ∧ c = cs.all id ∧ Paired (DeedLow H u) ds cs
def StoryLow (H : Hp) (u : Int) (v : V) (b : Bool) : Prop := ∃ t ms bs, v = .ref t ∧ H t = some (.tup ms) ∧ b = bs.all id ∧ Paired (MomentLow H u) ms bs
inductive SessV (K : PySem.W.Frag) (H : Hp) (d p : Nat) : V → Bool → Prop
  | out {v : V} {s : String} (h : KindV K H v s) (hs : isK s "tuple" = false) : SessV K H d p v false
  | len {a : Addr} {xs : List V} (h : H a = some (.tup xs)) (hl : xs.length ≠ 2) : SessV K H d p (.ref a) false
  | bad {a : Addr} {u v : V} {s : String} {o : Option (List Bool)} (h : H a = some (.tup [u, v])) (ku : KindV K H u s) (sv : StoryV K H d p v o) (hb : (isNum u 0 ((d : Int) - 1) && okS o) = false) : SessV K H d p (.ref a) false
  | good {a : Addr} {u : Int} {v : V} {o : Option (List Bool)} {b : Bool} (h : H a = some (.tup [.int u, v])) (hu : isNum (.int u) 0 ((d : Int) - 1) = true) (sv : StoryV K H d p v o) (ho : okS o = true) (lo : StoryLow H u v b) : SessV K H d p (.ref a) b
section
variable {CX : CXT} {P : Program} {w : World} {K : PySem.W.Frag} {mg : Str → Option Value} {base : Heap} {CB CN CD CP : Addr}
def spSession (K : PySem.W.Frag) (Pm Ps : Addr) : Sp := fun vs H Q _ => ∃ a n k d p c v b, vs = [.ref a, v] ∧ HouseAt H a n k d p c ∧ SessV K H d p v b ∧ GxR.TabG H Pm ∧ GxR.TabG H Ps ∧ ∀ H2, Ks K H H2 → Q (.bl b) H2
theorem ok_is_session {f fD fS c Pm Ps : Addr} {fd fdD fdS : FuncData} (F : FnP K "is_session" s_is_session f fd) (B : Blt mg) (hall : mg "all" = none) (CA : CodeAt K mg base fd c Ps) (TD : Fn P w K mg base CX0 2 "is_drawer" ["house", "value"] (spDrawer K) fD fdD) (TS : Fn P w K mg base (L2.CX P w) 7 "is_story" ["house", "value"] (spIsStory K Pm) fS fdS) :
    FnOk P w K mg base (L2.CX P w) 8 f fd ["house", "value"] (spSession K Pm Ps) := by
  obtain ⟨oc, od, dV, kV, doc, pm, an, cdv, ct, osl, rfl, lk, hcd, _, _⟩ := F.ex
  obtain rfl : cdv = .ref c := CA.e
  refine fn_of (k := 7) lk hcd sc_is_session (fun vs H Q E h => ?_) (fun A outer s H vs Q E hr h => ?_)
  · obtain ⟨a, n, k, d, p, c, v, b, rfl, _⟩ := h
    rfl
  · obtain ⟨a, n, k, d, p, c', v, b, rfl, h, hv, hT, hT2, q⟩ := h
    refine ⟨_, (pss_cons (ps_if (PW.pt (pw_or (pt_not (pt_val (pe_callB call_isS (by rfl) B.isinstance (by decide +kernel) (pa_cons (pv 1) (pa_cons (pe_ty "tuple" (by rfl) B.tuple (by decide +kernel)) pa_nil))))) (pw_or1 (pt_cmpR op_ne (pe_callB call_len_seq (by rfl) B.len (by decide +kernel) (pa_cons (pv 1) pa_nil)) pe_int (nomark _))))) (pss_one (ps_ret pe_bl)) pss_nil)
    (pss_cons (ps_asg (pv 1) (pg_tup rfl (pgs_cons (pg_name (i := 2) sc_is_session.nd rfl (Or.inr rfl)) (pgs_cons (pg_name (i := 3) sc_is_session.nd rfl (Or.inl rfl)) pgs_nil))))
    (pss_cons (ps_if (PW.pt (pw_or (pt_not (pt_val (pe_call TD.G (hr.mono (by decide)) (by rfl) TD.m TD.k TD.b .nil pass0 (pa_cons (pv 0) (pa_cons (pv 2) pa_nil))))) (pw_or1 (pt_not (pt_val (pe_call TS.G hr (by rfl) TS.m TS.k TS.b .nil (passX (E := E) rfl rfl rfl rfl) (pa_cons (pv 0) (pa_cons (pv 3) pa_nil)))))))) (pss_one (ps_ret pe_bl)) pss_nil)
    (pss_one (ps_ret (pe_allG2 (own := [("moment", 4), ("deed", 5)]) (vs2 := [5]) (g := gName 4) (g2 := gName 5) (k := 6) hr (by rfl) hall CA.tb rfl (genOk_by (by rfl)) sc_is_session.nd (pi_tup (pv 3)) (fun A s H code fp pn r => pg_name (i := 4) sc_is_session.nd rfl (Or.inl rfl)) (fun A s H code fp pn r => pts_nil)
      (fun A s H code fp pn r => pe_cmpR op_le (pe_ix (ix_tup : IxR _ (rIxT K)) (pv 5) pe_int (fun _ _ => rfl)) (pv 2) (nomark _)) (fun A s H code fp pn r => (pi_tup (pv 4) : PI _ _ _ (iTup K (tVar 4)))) (fun A s H code fp pn r => pg_name (i := 5) sc_is_session.nd rfl (Or.inl rfl)) (fun A s H code fp pn r => pts_nil) (fun σ => by show (((σ.set 5 none).set 5 none).set 4 none) = _; rw [List.set_set] <;> rfl))))))), ?_⟩
    cases hv with
    | @out v sk hk e =>
      refine ⟨_, rfl, _, _, "tuple", _, rfl, hk.ty, hk.isT, _, rfl, ?_⟩
      rw [e]
      exact iteT (iteT (q H Ks.refl))
    | @len t xs ht hl =>
      refine ⟨_, rfl, _, _, "tuple", _, rfl, (KindV.tup ht).ty, (KindV.tup (K := K) ht).isT, _, rfl, iteF ?_⟩
      refine ⟨_, rfl, t, xs, rfl, .inr (SqT.of ht), rfl, _, rfl, ?_⟩
      have e : (!decide (V.int (xs.length : Int) = V.int 2)) = true := by
        rw [decide_eq_false (fun z => hl (by injection z with z; omega))] <;> rfl
      rw [e]
      exact iteT (q H Ks.refl)
    | @bad t u v sk o ht ku sv hb =>
      refine ⟨_, rfl, _, _, "tuple", _, rfl, (KindV.tup ht).ty, (KindV.tup (K := K) ht).isT, _, rfl, iteF ?_⟩
      refine ⟨_, rfl, t, _, rfl, .inr (SqT.of ht), rfl, _, rfl, iteF ⟨_, rfl, t, _, rfl, SqT.of ht, rfl, _, _, rfl, _, _, rfl, rfl, ?_⟩⟩
      refine ⟨.ref a, rfl, u, rfl, a, n, k, d, p, c', u, sk, rfl, h, ku, _, rfl, ?_⟩
      cases eu : isNum u 0 ((d : Int) - 1) with
      | false => exact iteT (iteT (q H Ks.refl))
      | true =>
        rw [eu, Bool.true_and] at hb
        refine iteF ⟨.ref a, rfl, v, rfl, a, n, k, d, p, c', v, o, rfl, h, sv, hT, fun H2 ks tg => ⟨_, rfl, ?_⟩⟩
        rw [hb]
        exact iteT (q H2 ks)
    | @good t u v o b ht hu sv ho lo =>
      refine ⟨_, rfl, _, _, "tuple", _, rfl, (KindV.tup ht).ty, (KindV.tup (K := K) ht).isT, _, rfl, iteF ?_⟩
      refine ⟨_, rfl, t, _, rfl, .inr (SqT.of ht), rfl, _, rfl, iteF ⟨_, rfl, t, _, rfl, SqT.of ht, rfl, _, _, rfl, _, _, rfl, rfl, ?_⟩⟩
      refine ⟨.ref a, rfl, .int u, rfl, a, n, k, d, p, c', .int u, _, rfl, h, .int u, _, rfl, ?_⟩
      rw [hu]
      refine iteF ⟨.ref a, rfl, v, rfl, a, n, k, d, p, c', v, o, rfl, h, sv, hT, fun H2 ks tg => ⟨_, rfl, ?_⟩⟩
      rw [ho]
      obtain ⟨t2, ms, bs, rfl, hm, rfl, hp⟩ := lo
      refine iteF ⟨.ref t2, rfl, t2, rfl, ⟨ms, SqT.of (ks.t _ _ hm)⟩, ks.g _ hT2, fun H3 tb => ?_⟩
      have k3 := ks.trans (Ks.tab CA.sk (ks.g _ hT2) tb)
      have hlen := Paired.length hp
      refine gt_tup2 (xs := ms) (k2 := 4) (g := gName 4) (g2 := gName 5) (K := K) 6 (fun _ i G => Ks K H G ∧ (bs.take i).all id = true) (fun _ i j G => Ks K H G ∧ (bs.take i).all id = true ∧ ∃ t ds cs, ms[i]? = some (.ref t) ∧ H t = some (.tup ds) ∧ Paired (DeedLow H u) ds cs ∧ bs[i]? = some (cs.all id) ∧ (cs.take j).all id = true)
        (fun _ i G _ w => SqT.of (w.1.t _ _ hm)) (fun _ i x G hx w => ?_) (fun x σ G Q1 Q2 hq h1 => hq _ _ h1) (fun _ G w => ?_) (c0 := ()) ⟨k3, rfl⟩
      · obtain ⟨kG, al⟩ := w
        obtain ⟨bi, eb, t3, ds, cs, rfl, hd, hl6, rfl, hc⟩ := paired_at hp hx
        refine ⟨rfl, t3, ds, rfl, SqT.of (kG.t _ _ hd), hl6, ⟨kG, al, t3, ds, cs, hx, hd, hc, eb, rfl⟩, fun _ j G' w => ?_, fun _ G' w => ?_, fun _ j y G' hy w => ?_⟩
        · exact SqT.of (w.1.t _ _ hd)
        · obtain ⟨kG', al', t4, ds', cs', hx', hd', hc', eb', al2⟩ := w
          rw [hx] at hx'
          cases hx'
          rw [hd] at hd'
          cases hd'
          have l1 := Paired.length hc'
          rw [l1, List.take_length] at al2
          refine ⟨kG', ?_⟩
          rw [List.take_succ, eb', List.all_append, al', al2] <;> rfl
        · obtain ⟨kG', al', t4, ds', cs', hx', hd', hc', eb', al2⟩ := w
          rw [hx] at hx'
          cases hx'
          rw [hd] at hd'
          cases hd'
          obtain ⟨z, ez, t5, y0, ys0, rfl, h5, rfl⟩ := paired_at hc' hy
          refine ⟨rfl, t_yes ⟨.ref t5, rfl, t5, _, _, .int y0, rfl, rfl, SqT.of (kG'.t _ _ h5), atI_nat (j := 0) rfl, .int u, rfl, _, _, rfl, rfl, _, rfl, fun z => ?_, fun z => ?_⟩⟩
          · refine ⟨kG', al', t3, ds, cs', hx, hd, hc', eb', ?_⟩
            rw [List.take_succ, ez, z, List.all_append, al2] <;> rfl
          · have f1 : cs'.all id = false := by
              rw [List.all_eq_false]
              exact ⟨_, List.mem_of_getElem? ez, by rw [z]; decide⟩
            have f2 : bs.all id = false := by
              rw [List.all_eq_false]
              exact ⟨_, List.mem_of_getElem? eb', by rw [f1]; decide⟩
            rw [f2] at q
            exact q G' kG'
      · obtain ⟨kG, al⟩ := w
        rw [hlen, List.take_length] at al
        rw [al] at q
        exact q G kG
end
end K10

set_option maxHeartbeats 4000000
namespace K10
open PySem PySem.Spec PyProof.Rows L2 Hd Evl
/-! ### lives -/
section
variable {K : PySem.W.Frag} {H H' : Hp} {d p : Nat} {u : Int} {v : V} {b : Bool}
theorem StoryV.kw {o : Option (List Bool)} (h : StoryV K H d p v o) (e : Kw H H') : StoryV K H' d p v o := by
  cases h with
  | out h hs => exact .out (h.kw e) hs
  | long h hl => exact .long (e.t _ _ h) hl
  | tup h hl hb => exact .tup (e.t _ _ h) hl (paired_imp (fun _ _ q => q.kw e) hb)
theorem StoryV.ks {S : Addr → Prop} {o : Option (List Bool)} (h : StoryV K H d p v o) (e : Kl S H H') : StoryV K H' d p v o := h.kw e.w
theorem StoryLow.kw (h : StoryLow H u v b) (e : Kw H H') : StoryLow H' u v b := by
  obtain ⟨t, ms, bs, h1, h2, h3, h4⟩ := h
  refine ⟨t, ms, bs, h1, e.t _ _ h2, h3, paired_imp (fun m c hm => ?_) h4⟩
  obtain ⟨t', ds, cs, a1, a2, a3, a4, a5⟩ := hm
  refine ⟨t', ds, cs, a1, e.t _ _ a2, a3, a4, paired_imp (fun x z hz => ?_) a5⟩
  obtain ⟨t'', y, ys, b1, b2, b3⟩ := hz
  exact ⟨t'', y, ys, b1, e.t _ _ b2, b3⟩
theorem StoryLow.ks {S : Addr → Prop} (h : StoryLow H u v b) (e : Kl S H H') : StoryLow H' u v b := h.kw e.w
theorem SessV.kw (h : SessV K H d p v b) (e : Kw H H') : SessV K H' d p v b := by
  cases h with
  | out h hs => exact .out (h.kw e) hs
  | len h hl => exact .len (e.t _ _ h) hl
  | bad h ku sv hb => exact .bad (e.t _ _ h) (ku.kw e) (sv.kw e) hb
  | good h hu sv ho lo => exact .good (e.t _ _ h) hu (sv.kw e) ho (lo.kw e)
theorem SessV.ks {S : Addr → Prop} (h : SessV K H d p v b) (e : Kl S H H') : SessV K H' d p v b := h.kw e.w
theorem SessL.kw {l : Nat} (h : SessL H v l) (e : Kw H H') : SessL H' v l := by
  obtain ⟨t, dp, w, us, h1, h2, h3, h4⟩ := h
  exact ⟨t, dp, w, us, h1, e.t _ _ h2, e.t _ _ h3, h4⟩
theorem SessL.ks {S : Addr → Prop} {l : Nat} (h : SessL H v l) (e : Kl S H H') : SessL H' v l := h.kw e.w
end
/-- a session, whether it is one, and then how many moments it has -/
def SessN (K : PySem.W.Frag) (H : Hp) (d p : Nat) (v : V) (x : Bool × Nat) : Prop := SessV K H d p v x.1 ∧ (x.1 = true → SessL H v x.2)
theorem SessN.kw {K : PySem.W.Frag} {H H' : Hp} {d p : Nat} {v : V} {x : Bool × Nat} (h : SessN K H d p v x) (e : Kw H H') : SessN K H' d p v x := ⟨h.1.kw e, fun z => (h.2 z).kw e⟩
theorem SessN.ks {S : Addr → Prop} {K : PySem.W.Frag} {H H' : Hp} {d p : Nat} {v : V} {x : Bool × Nat} (h : SessN K H d p v x) (e : Kl S H H') : SessN K H' d p v x := h.kw e.w
inductive LifeV (K : PySem.W.Frag) (H : Hp) (d p : Nat) : V → Option (List (Bool × Nat)) → Prop
  | out {v : V} {s : String} (h : KindV K H v s) (hs : isK s "tuple" = false) : LifeV K H d p v none
  | len {a : Addr} {xs : List V} (h : H a = some (.tup xs)) (hl : xs.length = 0 ∨ 6 < xs.length) : LifeV K H d p (.ref a) none
  | tup {a : Addr} {xs : List V} {l : List (Bool × Nat)} (h : H a = some (.tup xs)) (h1 : 1 ≤ xs.length) (h6 : xs.length ≤ 6) (hb : Paired (SessN K H d p) xs l) : LifeV K H d p (.ref a) (some l)
theorem LifeV.kw {K : PySem.W.Frag} {H H' : Hp} {d p : Nat} {v : V} {o : Option (List (Bool × Nat))} (h : LifeV K H d p v o) (e : Kw H H') : LifeV K H' d p v o := by
  cases h with
  | out h hs => exact .out (h.kw e) hs
  | len h hl => exact .len (e.t _ _ h) hl
  | tup h h1 h6 hb => exact .tup (e.t _ _ h) h1 h6 (paired_imp (fun _ _ q => q.kw e) hb)
def GoodL (l : List (Bool × Nat)) (i : Nat) : Prop := (l.take i).all (·.1) = true ∧ ((l.take i).map (·.2)).sum ≤ 40
section
variable {CX : CXT} {P : Program} {w : World} {K : PySem.W.Frag} {mg : Str → Option Value} {base : Heap} {CB CN CL : Addr}
def spLife (K : PySem.W.Frag) (CL Pm Ps : Addr) : Sp := fun vs H Q E => ∃ a n k d p c v o, vs = [.ref a, v] ∧ HouseAt H a n k d p c ∧ LifeV K H d p v o ∧ GxR.TabG H Pm ∧ GxR.TabG H Ps ∧ (o = none → Out K CL "index" Pm E H .non) ∧
  ∀ l, o = some l → (GoodL l l.length → ∀ H2, Ks K H H2 → Q .non H2) ∧ ∀ i : Nat, GoodL l i → (∀ x, l[i]? = some x → x.1 = false ∨ ¬ GoodL l (i + 1)) → i < l.length → Out K CL "index" Pm E H (.int i)
theorem ok_check_life {f fS Pm Ps : Addr} {fd fdS : FuncData} {t6 t40 : Tok} (F : FnP K "check_life" s_check_life f fd) (B : Blt mg) (h6 : mg "MOST_SESSIONS" = some (.int 6 t6)) (h40 : mg "MOST_MOMENTS" = some (.int 40 t40)) (TS : Fn P w K mg base (L2.CX P w) 8 "is_session" ["house", "value"] (spSession K Pm Ps) fS fdS) (EL : ErrF P w K mg base "BadLife" "index" CL) :
    FnOk P w K mg base (L2.CX P w) 9 f fd ["house", "life"] (spLife K CL Pm Ps) := by
  refine F.ok (CX := L2.CX P w) sc_check_life (fun vs H Q E h => ?_) (fun cdv A outer s H vs Q E hr h => ?_)
  · obtain ⟨a, n, k, d, p, c, v, o, rfl, _⟩ := h
    rfl
  · obtain ⟨a, n, k, d, p, c, v, o, rfl, h, hv, hT, hT2, q1, q2⟩ := h
    have h2 := hr.mono (show 2 ≤ 8 by decide)
    refine ⟨_, (pss_cons (ps_if (PW.pt (pw_or (pt_not (pt_val (pe_callB call_isS (by rfl) B.isinstance (by decide +kernel) (pa_cons (pv 1) (pa_cons (pe_ty "tuple" (by rfl) B.tuple (by decide +kernel)) pa_nil))))) (pw_or1 (pt_not (pt_chain op_le op_le pe_int (pe_callB call_len_seq (by rfl) B.len (by decide +kernel) (pa_cons (pv 1) pa_nil)) (pe_glob (v := .int 6) rfl h6 ⟨t6, rfl⟩)))))) (pss_one (ps_raiseF EL rfl h2 (takes_of (E := E) rfl rfl rfl rfl) (by rfl) (pa_cons pe_non pa_nil))) pss_nil)
    (pss_cons (ps_set (i := 2) sc_check_life.nd rfl (Or.inl rfl) pe_int)
    (pss_one (ps_for (passes_of rfl) rfl (pi_enumT (by rfl) B.enumerate (pa_cons (pv 1) pa_nil)) (pg_tup rfl (pgs_cons (pg_name (i := 3) sc_check_life.nd rfl (Or.inl rfl)) (pgs_cons (pg_name (i := 4) sc_check_life.nd rfl (Or.inl rfl)) pgs_nil))) (pss_cons (ps_if (pt_not (pt_val (pe_call TS.G hr (by rfl) TS.m TS.k TS.b .nil (passX (E := E) rfl rfl rfl rfl) (pa_cons (pv 0) (pa_cons (pv 4) pa_nil))))) (pss_one (ps_raiseF EL rfl h2 (takes_of (E := E) rfl rfl rfl rfl) (by rfl) (pa_cons (pv 3) pa_nil))) pss_nil)
    (pss_cons (ps_aug (i := 2) sc_check_life.nd rfl (Or.inl rfl) (pe_callB call_len_seq (by rfl) B.len (by decide +kernel) (pa_cons (pe_ix ix_tup (pv 4) pe_int (fun _ _ => rfl)) pa_nil)) ip_add)
    (pss_one (ps_if (pt_cmpR op_gt (pv 2) (pe_glob (v := .int 40) rfl h40 ⟨t40, rfl⟩) (nomark _)) (pss_one (ps_raiseF EL rfl h2 (takes_of (E := E) rfl rfl rfl rfl) (by rfl) (pa_cons (pv 3) pa_nil))) pss_nil)))))))), ?_⟩
    cases hv with
    | @out v sk hk e =>
      refine ⟨_, rfl, _, _, "tuple", _, rfl, hk.ty, hk.isT, _, rfl, ?_⟩
      rw [e]
      exact iteT (iteT ⟨.non, rfl, fun dd H2 e n x => q1 rfl dd H2 (Ks.ex e) (tab_ex hT e) x⟩)
    | @len t xs ht hl =>
      refine ⟨_, rfl, _, _, "tuple", _, rfl, (KindV.tup ht).ty, (KindV.tup (K := K) ht).isT, _, rfl, iteF ?_⟩
      refine ⟨_, rfl, t, xs, rfl, .inr (SqT.of ht), _, _, rfl, rfl, _, rfl, ite2 (fun e1 => ⟨_, _, rfl, rfl, _, rfl, ?_⟩) (fun e1 => ⟨_, rfl, iteT ⟨.non, rfl, fun dd H2 e n x => q1 rfl dd H2 (Ks.ex e) (tab_ex hT e) x⟩⟩)⟩
      have l1 := of_decide_eq_true e1
      rw [decide_eq_false (show ¬ (xs.length : Int) ≤ 6 by omega)]
      exact iteT ⟨.non, rfl, fun dd H2 e n x => q1 rfl dd H2 (Ks.ex e) (tab_ex hT e) x⟩
    | @tup t xs l ht g1 g6 hb =>
      refine ⟨_, rfl, _, _, "tuple", _, rfl, (KindV.tup ht).ty, (KindV.tup (K := K) ht).isT, _, rfl, iteF ?_⟩
      refine ⟨_, rfl, t, xs, rfl, .inr (SqT.of ht), _, _, rfl, rfl, _, rfl, ite2 (fun e1 => ⟨_, _, rfl, rfl, _, rfl, ?_⟩) (fun e1 => absurd (decide_eq_true (show (1 : Int) ≤ (xs.length : Int) by omega)) e1)⟩
      rw [decide_eq_true (show (xs.length : Int) ≤ 6 by omega)]
      obtain ⟨qn, qi⟩ := q2 l rfl
      have hlen := Paired.length hb
      refine iteF ⟨.ref t, rfl, t, xs, rfl, SqT.of ht, ?_⟩
      refine for_enumT (xs := xs) (fun i σ G => ∃ y3 y4 : Option V, σ = [some (.ref a), some (.ref t), some (.int (((l.take i).map (·.2)).sum : Nat)), y3, y4] ∧ Ks K H G ∧ GoodL l i) ⟨none, none, rfl, Ks.refl, rfl, Nat.zero_le _⟩ (fun i σ G _ w => by obtain ⟨_, _, _, ks, _⟩ := w; exact SqT.of (ks.t _ _ ht)) (fun i x σ G T2 hx w nT => ?_) (fun σ G w => ?_)
      · obtain ⟨y3, y4, rfl, ks, gd⟩ := w
        obtain ⟨⟨b, m⟩, eb, sv, sl⟩ := paired_at hb hx
        have hi : i < l.length := (List.getElem?_eq_some_iff.mp eb).1
        have e1 := Ex.new (o := .tup [V.int (i : Nat), x]) nT
        have k1 := ks.trans (Ks.ex e1)
        have es : ((l.take (i + 1)).map (·.2)).sum = ((l.take i).map (·.2)).sum + m := by
          rw [List.take_succ, eb, List.map_append, List.sum_append] <;> simp
        refine ⟨T2, _, rfl, SqT.of upd_same, rfl, _, _, rfl, _, _, rfl, rfl, ?_⟩
        refine ⟨.ref a, rfl, x, rfl, a, n, k, d, p, c, x, b, rfl, h.ks k1, sv.ks k1, k1.g _ hT, k1.g _ hT2, fun G2 k2 => ⟨b, rfl, ?_⟩⟩
        have k12 := k1.trans k2
        cases b with
        | false => exact iteT ⟨.int i, rfl, .int i, rfl, fun dd H2 e nd xd => qi i gd (fun x ex => .inl (by rw [eb] at ex; cases ex; rfl)) hi dd H2 (k12.trans (Ks.ex e)) (tab_ex (k12.g _ hT) e) xd⟩
        | true =>
          obtain ⟨t3, dp, u, us, rfl, s1, s2, s3⟩ := sl rfl
          refine iteF ⟨_, rfl, .ref t3, rfl, t3, _, _, .ref u, rfl, rfl, SqT.of (k12.t _ _ s1), atI_nat (j := 1) rfl, u, us, rfl, .inr (SqT.of (k12.t _ _ s2)), _, _, rfl, rfl, ?_⟩
          refine ⟨_, rfl, _, _, rfl, rfl, _, rfl, ite2 (fun e4 => ?_) (fun e4 => ?_)⟩
          · have big : ¬ GoodL l (i + 1) := fun z => by
              have z2 := z.2
              have q4 : (40 : Int) < ((((l.take i).map (·.2)).sum : Nat) : Int) + (us.length : Int) := of_decide_eq_true e4
              rw [es] at z2
              omega
            exact ⟨.int i, rfl, .int i, rfl, fun dd H2 e nd xd => qi i gd (fun x ex => .inr big) hi dd H2 (k12.trans (Ks.ex e)) (tab_ex (k12.g _ hT) e) xd⟩
          · refine ⟨some (.int i), some (.ref t3), ?_, k12, ?_, ?_⟩
            · rw [es]
              show _ = [some (V.ref a), some (.ref t), some (.int ((((l.take i).map (·.2)).sum + m : Nat) : Int)), some (.int i), some (.ref t3)]
              rw [show ((((l.take i).map (·.2)).sum + m : Nat) : Int) = ((((l.take i).map (·.2)).sum : Nat) : Int) + (us.length : Int) by omega] <;> rfl
            · rw [List.take_succ, eb, List.all_append, gd.1] <;> rfl
            · rw [es]
              have : ¬ (40 : Int) < ((((l.take i).map (·.2)).sum : Nat) : Int) + (us.length : Int) := fun z => e4 (decide_eq_true z)
              omega
      · obtain ⟨y3, y4, rfl, ks, gd⟩ := w
        rw [hlen] at gd
        exact qn gd G ks
end
end K10

set_option maxHeartbeats 4000000
namespace K10
open PySem PySem.Spec PyProof.Rows L2 Hd Evl
/-! ### check_times -/
/-- times of a life of m moments -/
inductive TimesV (K : PySem.W.Frag) (H : Hp) (m : Nat) : V → Bool → Prop
  | out {v : V} {s : String} (h : KindV K H v s) (hs : isK s "tuple" = false) : TimesV K H m v false
  | nil {a : Addr} (h : H a = some (.tup [])) : TimesV K H m (.ref a) false
  | tup {a : Addr} {x : V} {r : List V} (h : H a = some (.tup (x :: r))) (all : ∀ y ∈ x :: r, ∃ s, KindV K H y s) : TimesV K H m (.ref a) (ascV ((m : Int) + 1) 0 (x :: r))
theorem TimesV.kw {K : PySem.W.Frag} {H H' : Hp} {m : Nat} {v : V} {b : Bool} (h : TimesV K H m v b) (e : Kw H H') : TimesV K H' m v b := by
  cases h with
  | out h hs => exact .out (h.kw e) hs
  | nil h => exact .nil (e.t _ _ h)
  | tup h all => exact .tup (e.t _ _ h) fun y hy => let ⟨s, q⟩ := all y hy; ⟨s, q.kw e⟩
section
variable {CX : CXT} {P : Program} {w : World} {K : PySem.W.Frag} {mg : Str → Option Value} {base : Heap} {CT : Addr}
/-- C() leaves a def -/
def OutP (K : PySem.W.Frag) (C : Addr) (E : XK) (H : Hp) : Prop := ∀ H', Ks K H H' → E (.ref C) none H'
def spTimes (K : PySem.W.Frag) (CT Pt : Addr) : Sp := fun vs H Q E => ∃ l ss ls v b, vs = [.ref l, v] ∧ H l = some (.tup ss) ∧ Paired (SessL H) ss ls ∧ ls.sum ≤ 1000000 ∧ TimesV K H ls.sum v b ∧ GxR.TabG H Pt ∧ (b = true → ∀ H2, Ks K H H2 → Q .non H2) ∧ (b = false → OutP K CT E H)
theorem ok_check_times {f fM fI Pt : Addr} {fd fdM fdI : FuncData} (F : FnP K "check_times" s_check_times f fd) (B : Blt mg) (TM : Fn P w K mg base CX0 2 "moment_count" ["life"] (spMany K Pt) fM fdM) (TI : Fn P w K mg base CX0 1 "is_number" ["value", "least", "most"] (spNumber K) fI fdI) (ET : ErrP K mg "BadTimes" CT) :
    FnOk P w K mg base (L2.CX P w) 3 f fd ["life", "times"] (spTimes K CT Pt) := by
  refine F.ok (CX := L2.CX P w) sc_check_times (fun vs H Q E h => ?_) (fun cdv A outer s H vs Q E hr h => ?_)
  · obtain ⟨l, ss, ls, v, b, rfl, _⟩ := h
    rfl
  · obtain ⟨l, ss, ls, v, b, rfl, hl, hss, hz, hv, hT, q1, q2⟩ := h
    refine ⟨_, (pss_cons (ps_if (PW.pt (pw_or (pt_not (pt_val (pe_callB call_isS (by rfl) B.isinstance (by decide +kernel) (pa_cons (pv 1) (pa_cons (pe_ty "tuple" (by rfl) B.tuple (by decide +kernel)) pa_nil))))) (pw_or1 (pt_not (pt_truth (pv 1) (by intro _; rfl)))))) (pss_one (ps_raiseP ET rfl (takes_of (E := E) rfl rfl rfl rfl) (by rfl))) pss_nil)
    (pss_cons (ps_set (i := 2) sc_check_times.nd rfl (Or.inl rfl) pe_int)
    (pss_one (ps_for (passes_of rfl) rfl (pi_tup (pv 1)) (pg_name (i := 3) sc_check_times.nd rfl (Or.inl rfl)) (pss_cons (ps_if (pt_not (pt_val (pe_call TI.G (hr.mono (by decide)) (by rfl) TI.m TI.k TI.b .nil pass0 (pa_cons (pv 3) (pa_cons (pv 2) (pa_cons (pe_call TM.G hr (by rfl) TM.m TM.k TM.b .nil pass0 (pa_cons (pv 0) pa_nil)) pa_nil)))))) (pss_one (ps_raiseP ET rfl (takes_of (E := E) rfl rfl rfl rfl) (by rfl))) pss_nil)
    (pss_one (ps_set (i := 2) sc_check_times.nd rfl (Or.inl rfl) (pe_op op_add (pv 3) pe_int)))))))), ?_⟩
    cases hv with
    | @out v sk hk e =>
      refine ⟨_, rfl, _, _, "tuple", _, rfl, hk.ty, hk.isT, _, rfl, ?_⟩
      rw [e]
      exact iteT (iteT (q2 rfl H Ks.refl))
    | @nil t ht =>
      refine ⟨_, rfl, _, _, "tuple", _, rfl, (KindV.tup ht).ty, (KindV.tup (K := K) ht).isT, _, rfl, iteF ?_⟩
      exact ⟨.ref t, rfl, false, .inr (.inl ⟨[], SqT.of ht, rfl⟩), iteT (q2 rfl H Ks.refl)⟩
    | @tup t x0 r0 ht all =>
      refine ⟨_, rfl, _, _, "tuple", _, rfl, (KindV.tup ht).ty, (KindV.tup (K := K) ht).isT, _, rfl, iteF ?_⟩
      refine ⟨.ref t, rfl, true, .inr (.inl ⟨x0 :: r0, SqT.of ht, rfl⟩), iteF ?_⟩
      generalize hxs : x0 :: r0 = xs at ht all q1 q2
      refine ⟨.ref t, rfl, t, rfl, ⟨xs, SqT.of ht⟩, for_tup (xs := xs) (fun i σ G => Ks K H G ∧ ∃ (least : Int) (cv : Option V), σ = [some (.ref l), some (.ref t), some (.int least), cv] ∧ 0 ≤ least ∧ ascV ((ls.sum : Nat) + 1) 0 xs = ascV ((ls.sum : Nat) + 1) least (xs.drop i))
          ⟨Ks.refl, 0, none, rfl, Int.le_refl _, rfl⟩ (fun i σ G _ w => SqT.of (w.1.t _ _ ht)) (fun i x σ G hx w => ?_) (fun σ G w => ?_)⟩
      · obtain ⟨ks, least, cv, rfl, l0, eq⟩ := w
        have dr : xs.drop i = x :: xs.drop (i + 1) := by
          obtain ⟨hi, ex⟩ := List.getElem?_eq_some_iff.mp hx
          rw [List.drop_eq_getElem_cons hi, ex]
        rw [dr] at eq
        have eq' : ascV ((ls.sum : Nat) + 1) 0 xs = (isNum x least (((ls.sum : Nat) : Int) + 1 - 1) && ascV ((ls.sum : Nat) + 1) (vInt x + 1) (xs.drop (i + 1))) := eq
        rw [show ((ls.sum : Nat) : Int) + 1 - 1 = ((ls.sum : Nat) : Int) by omega] at eq'
        obtain ⟨sk, hkx⟩ := all x (List.mem_of_getElem? hx)
        have tm := ks.g _ hT
        refine ⟨x, rfl, .int least, rfl, .ref l, rfl, l, ss, ls, rfl, ks.t _ _ hl, paired_imp (fun _ _ z => z.ks ks) hss, hz, tm, fun G2 k2 t2 => ?_⟩
        have k12 := ks.trans k2
        refine ⟨x, sk, least, (ls.sum : Nat), rfl, hkx.ks k12, _, rfl, ?_⟩
        cases eb : isNum x least ((ls.sum : Nat) : Int) with
        | false =>
          rw [eb, Bool.false_and] at eq'
          exact iteT (q2 eq' _ k12)
        | true =>
          obtain ⟨y, rfl, y1, y2⟩ := num_of eb l0
          rw [eb, Bool.true_and] at eq'
          exact iteF ⟨iV y, rfl, _, _, rfl, rfl, k12, (y : Int) + 1, some (iV y), rfl, by omega, eq'⟩
      · obtain ⟨ks, least, cv, rfl, l0, eq⟩ := w
        rw [List.drop_of_length_le (Nat.le_refl _)] at eq
        exact q1 eq _ ks
end
end K10

set_option maxHeartbeats 4000000
namespace K10
open PySem PySem.Spec PyProof.Rows L2 Hd Evl
/-- the error classes -/
structure Cs where
  B : Addr
  S : Addr
  L : Addr
  C : Addr
  D : Addr
  P : Addr
  T : Addr
  N : Addr
  Z : Addr
/-- the program's own tables -/
structure Tb where
  m : Addr
  s : Addr
  n : Addr
theorem pss_never {X : Cx} {l : List Stmt} : PSs X l (fun _ _ _ => False) := ⟨fun _ _ _ _ _ _ h => h.elim⟩
section
variable {K : PySem.W.Frag} {H : Hp} {vs : List V} {Q Q' : VK} {E : XK} {cs : Cs} {tb : Tb}
theorem mono_house {C : Addr} (h : spCheck K C vs H Q E) (f : ∀ v H1, Q v H1 → Q' v H1) : spCheck K C vs H Q' E := by
  obtain ⟨v, o, e, w, q1, q2⟩ := h
  exact ⟨v, o, e, w, fun z => f _ _ (q1 z), q2⟩
theorem mono_life {C Pm Ps : Addr} (h : spLife K C Pm Ps vs H Q E) (f : ∀ v H1, Q v H1 → Q' v H1) : spLife K C Pm Ps vs H Q' E := by
  obtain ⟨a, n, k, d, p, c, v, o, e, h1, h2, h3, h4, q1, q2⟩ := h
  exact ⟨a, n, k, d, p, c, v, o, e, h1, h2, h3, h4, q1, fun l el => ⟨fun g H2 k2 => f _ _ ((q2 l el).1 g H2 k2), (q2 l el).2⟩⟩
theorem mono_story {C Pm : Addr} (h : spStory K C Pm vs H Q E) (f : ∀ v H1, Q v H1 → Q' v H1) : spStory K C Pm vs H Q' E := by
  obtain ⟨a, n, k, d, p, c, v, o, e, h1, h2, h3, q1, q2⟩ := h
  exact ⟨a, n, k, d, p, c, v, o, e, h1, h2, h3, q1, fun l el => ⟨fun g H2 k2 t2 => f _ _ ((q2 l el).1 g H2 k2 t2), (q2 l el).2⟩⟩
theorem mono_way {C : Addr} (h : spWay K C vs H Q E) (f : ∀ v H1, Q v H1 → Q' v H1) : spWay K C vs H Q' E := by
  obtain ⟨v, s, e, k, q1, q2⟩ := h
  exact ⟨v, s, e, k, fun z => f _ _ (q1 z), q2⟩
theorem mono_coins {C Pn : Addr} (h : spCoins K C Pn vs H Q E) (f : ∀ v H1, Q v H1 → Q' v H1) : spCoins K C Pn vs H Q' E := by
  obtain ⟨a, n, k, d, p, c, l, ss, ls, v, o, e, h1, h2, h3, h4, h5, h6, q1, q2⟩ := h
  exact ⟨a, n, k, d, p, c, l, ss, ls, v, o, e, h1, h2, h3, h4, h5, h6, q1, fun l el => ⟨fun g H2 k2 t2 => f _ _ ((q2 l el).1 g H2 k2 t2), (q2 l el).2⟩⟩
theorem mono_chk {top : Nat → Nat → Nat} {C : Addr} (h : spChk K top C vs H Q E) (f : ∀ v H1, Q v H1 → Q' v H1) : spChk K top C vs H Q' E := by
  obtain ⟨a, n, k, d, p, c, v, s, e, h1, h2, q1, q2⟩ := h
  exact ⟨a, n, k, d, p, c, v, s, e, h1, h2, fun z => f _ _ (q1 z), q2⟩
theorem mono_times {C Pn : Addr} (h : spTimes K C Pn vs H Q E) (f : ∀ v H1, Q v H1 → Q' v H1) : spTimes K C Pn vs H Q' E := by
  obtain ⟨l, ss, ls, v, b, e, h1, h2, h3, h4, h5, q1, q2⟩ := h
  exact ⟨l, ss, ls, v, b, e, h1, h2, h3, h4, h5, fun z H2 k2 => f _ _ (q1 z H2 k2), q2⟩
end
/-- the checks -/
structure Ch (P : Program) (w : World) (K : PySem.W.Frag) (mg : Str → Option Value) (base : Heap) (cs : Cs) (tb : Tb) : Type where
  fH : Addr
  dH : FuncData
  H : Fn P w K mg base (L2.CX P w) 3 "check_house" ["house"] (spCheck K cs.B) fH dH
  fL : Addr
  dL : FuncData
  L : Fn P w K mg base (L2.CX P w) 9 "check_life" ["house", "life"] (spLife K cs.L tb.m tb.s) fL dL
  fS : Addr
  dS : FuncData
  S : Fn P w K mg base (L2.CX P w) 6 "check_story" ["house", "story"] (spStory K cs.S tb.m) fS dS
  fW : Addr
  dW : FuncData
  W : Fn P w K mg base (L2.CX P w) 3 "check_way" ["way"] (spWay K cs.B) fW dW
  fC : Addr
  dC : FuncData
  C : Fn P w K mg base (L2.CX P w) 3 "check_coins" ["house", "life", "coins"] (spCoins K cs.C tb.n) fC dC
  fD : Addr
  dD : FuncData
  D : Fn P w K mg base (L2.CX P w) 3 "check_drawer" ["house", "drawer"] (spChk K (fun d _ => d) cs.D) fD dD
  fG : Addr
  dG : FuncData
  G : Fn P w K mg base (L2.CX P w) 3 "check_page" ["house", "page"] (spChk K (fun _ p => p) cs.P) fG dG
  fT : Addr
  dT : FuncData
  T : Fn P w K mg base (L2.CX P w) 3 "check_times" ["life", "times"] (spTimes K cs.T tb.n) fT dT
section
variable {P : Program} {w : World} {K : PySem.W.Frag} {mg : Str → Option Value} {base : Heap} {cs : Cs} {tb : Tb}
def sp_check_run (K : PySem.W.Frag) (cs : Cs) (tb : Tb) : Sp := fun vs H Q E => ∃ v0 v1 v2 v3, vs = [v0, v1, v2, v3] ∧ spCheck K cs.B [v0] H (fun _ H1 => spLife K cs.L tb.m tb.s [v0, v2] H1 (fun _ H2 => spWay K cs.B [v1] H2 (fun _ H3 => spCoins K cs.C tb.n [v0, v2, v3] H3 (fun _ H4 => Q .non H4) E) E) E) E
theorem ok_check_run {f : Addr} {fd : FuncData} (F : FnP K "check_run" s_check_run f fd) (c : Ch P w K mg base cs tb) : FnOk P w K mg base (L2.CX P w) 10 f fd ["house", "way", "life", "coins"] (sp_check_run K cs tb) := by
  refine F.ok (CX := L2.CX P w) sc_check_run (fun vs H Q E h => ?_) (fun cdv A outer s H vs Q E hr h => ?_)
  · obtain ⟨v0, v1, v2, v3, rfl, _⟩ := h
    rfl
  · obtain ⟨v0, v1, v2, v3, rfl, h⟩ := h
    refine ⟨_, (pss_cons (ps_expr (pe_call c.H.G (hr.mono (by decide)) (by rfl) c.H.m c.H.k c.H.b .nil (passX (E := E) rfl rfl rfl rfl) (pa_cons (pv 0) pa_nil))) (pss_cons (ps_expr (pe_call c.L.G (hr.mono (by decide)) (by rfl) c.L.m c.L.k c.L.b .nil (passX (E := E) rfl rfl rfl rfl) (pa_cons (pv 0) (pa_cons (pv 2) pa_nil)))) (pss_cons (ps_expr (pe_call c.W.G (hr.mono (by decide)) (by rfl) c.W.m c.W.k c.W.b .nil (passX (E := E) rfl rfl rfl rfl) (pa_cons (pv 1) pa_nil))) (pss_one (ps_expr (pe_call c.C.G (hr.mono (by decide)) (by rfl) c.C.m c.C.k c.C.b .nil (passX (E := E) rfl rfl rfl rfl) (pa_cons (pv 0) (pa_cons (pv 2) (pa_cons (pv 3) pa_nil))))))))), ?_⟩
    refine ⟨v0, rfl, ?_⟩
    dsimp only [tNil, tCall, List.append_nil]
    refine mono_house h (fun _ H1 h1 => ?_)
    refine ⟨v0, rfl, v2, rfl, ?_⟩
    dsimp only [tNil, tCall, List.append_nil]
    refine mono_life h1 (fun _ H2 h2 => ?_)
    refine ⟨v1, rfl, ?_⟩
    dsimp only [tNil, tCall, List.append_nil]
    refine mono_way h2 (fun _ H3 h3 => ?_)
    refine ⟨v0, rfl, v2, rfl, v3, rfl, ?_⟩
    dsimp only [tNil, tCall, List.append_nil]
    exact mono_coins h3 (fun _ _ z => z)
theorem mono_check_run {vs : List V} {H : Hp} {Q Q' : VK} {E : XK} (h : sp_check_run K cs tb vs H Q E) (f : ∀ v H1, Q v H1 → Q' v H1) : sp_check_run K cs tb vs H Q' E := by
  obtain ⟨v0, v1, v2, v3, e, h⟩ := h
  exact ⟨v0, v1, v2, v3, e, mono_house h (fun _ H1 h1 => mono_life h1 (fun _ H2 h2 => mono_way h2 (fun _ H3 h3 => mono_coins h3 (fun _ _ z => f _ _ z))))⟩
def sp_check_key (K : PySem.W.Frag) (cs : Cs) (tb : Tb) : Sp := fun vs H Q E => ∃ v0 v1 v2, vs = [v0, v1, v2] ∧ spChk K (fun d _ => d) cs.D [v0, v2] H (fun _ _ => False) E
theorem ok_check_key {f : Addr} {fd : FuncData} (F : FnP K "check_key" s_check_key f fd) (c : Ch P w K mg base cs tb) : FnOk P w K mg base (L2.CX P w) 10 f fd ["house", "life", "drawer"] (sp_check_key K cs tb) := by
  refine F.ok (CX := L2.CX P w) sc_check_key (fun vs H Q E h => ?_) (fun cdv A outer s H vs Q E hr h => ?_)
  · obtain ⟨v0, v1, v2, rfl, _⟩ := h
    rfl
  · obtain ⟨v0, v1, v2, rfl, h⟩ := h
    refine ⟨_, (pss_cons (ps_expr (pe_call c.D.G (hr.mono (by decide)) (by rfl) c.D.m c.D.k c.D.b .nil (passX (E := E) rfl rfl rfl rfl) (pa_cons (pv 0) (pa_cons (pv 2) pa_nil)))) pss_never), ?_⟩
    refine ⟨v0, rfl, v2, rfl, ?_⟩
    dsimp only [tNil, tCall, List.append_nil]
    exact mono_chk h (fun _ _ z => z)
theorem mono_check_key {vs : List V} {H : Hp} {Q Q' : VK} {E : XK} (h : sp_check_key K cs tb vs H Q E) (f : ∀ v H1, Q v H1 → Q' v H1) : sp_check_key K cs tb vs H Q' E := by
  obtain ⟨v0, v1, v2, e, h⟩ := h
  exact ⟨v0, v1, v2, e, mono_chk h (fun _ _ z => z)⟩
def sp_check_search (K : PySem.W.Frag) (cs : Cs) (tb : Tb) : Sp := fun vs H Q E => ∃ v0 v1 v2 v3, vs = [v0, v1, v2, v3] ∧ spChk K (fun d _ => d) cs.D [v0, v1] H (fun _ _ => False) E
theorem ok_check_search {f : Addr} {fd : FuncData} (F : FnP K "check_search" s_check_search f fd) (c : Ch P w K mg base cs tb) : FnOk P w K mg base (L2.CX P w) 10 f fd ["house", "drawer", "moments", "is_often"] (sp_check_search K cs tb) := by
  refine F.ok (CX := L2.CX P w) sc_check_search (fun vs H Q E h => ?_) (fun cdv A outer s H vs Q E hr h => ?_)
  · obtain ⟨v0, v1, v2, v3, rfl, _⟩ := h
    rfl
  · obtain ⟨v0, v1, v2, v3, rfl, h⟩ := h
    refine ⟨_, (pss_cons (ps_expr (pe_call c.D.G (hr.mono (by decide)) (by rfl) c.D.m c.D.k c.D.b .nil (passX (E := E) rfl rfl rfl rfl) (pa_cons (pv 0) (pa_cons (pv 1) pa_nil)))) pss_never), ?_⟩
    refine ⟨v0, rfl, v1, rfl, ?_⟩
    dsimp only [tNil, tCall, List.append_nil]
    exact mono_chk h (fun _ _ z => z)
theorem mono_check_search {vs : List V} {H : Hp} {Q Q' : VK} {E : XK} (h : sp_check_search K cs tb vs H Q E) (f : ∀ v H1, Q v H1 → Q' v H1) : sp_check_search K cs tb vs H Q' E := by
  obtain ⟨v0, v1, v2, v3, e, h⟩ := h
  exact ⟨v0, v1, v2, v3, e, mono_chk h (fun _ _ z => z)⟩
def sp_check_waits (K : PySem.W.Frag) (cs : Cs) (tb : Tb) : Sp := fun vs H Q E => ∃ v0 v1 v2 v3, vs = [v0, v1, v2, v3] ∧ spCheck K cs.B [v0] H (fun _ H1 => spStory K cs.S tb.m [v0, v2] H1 (fun _ H2 => spWay K cs.B [v1] H2 (fun _ H3 => spChk K (fun d _ => d) cs.D [v0, v3] H3 (fun _ _ => False) E) E) E) E
theorem ok_check_waits {f : Addr} {fd : FuncData} (F : FnP K "check_waits" s_check_waits f fd) (c : Ch P w K mg base cs tb) : FnOk P w K mg base (L2.CX P w) 10 f fd ["house", "way", "story", "drawer"] (sp_check_waits K cs tb) := by
  refine F.ok (CX := L2.CX P w) sc_check_waits (fun vs H Q E h => ?_) (fun cdv A outer s H vs Q E hr h => ?_)
  · obtain ⟨v0, v1, v2, v3, rfl, _⟩ := h
    rfl
  · obtain ⟨v0, v1, v2, v3, rfl, h⟩ := h
    refine ⟨_, (pss_cons (ps_expr (pe_call c.H.G (hr.mono (by decide)) (by rfl) c.H.m c.H.k c.H.b .nil (passX (E := E) rfl rfl rfl rfl) (pa_cons (pv 0) pa_nil))) (pss_cons (ps_expr (pe_call c.S.G (hr.mono (by decide)) (by rfl) c.S.m c.S.k c.S.b .nil (passX (E := E) rfl rfl rfl rfl) (pa_cons (pv 0) (pa_cons (pv 2) pa_nil)))) (pss_cons (ps_expr (pe_call c.W.G (hr.mono (by decide)) (by rfl) c.W.m c.W.k c.W.b .nil (passX (E := E) rfl rfl rfl rfl) (pa_cons (pv 1) pa_nil))) (pss_cons (ps_expr (pe_call c.D.G (hr.mono (by decide)) (by rfl) c.D.m c.D.k c.D.b .nil (passX (E := E) rfl rfl rfl rfl) (pa_cons (pv 0) (pa_cons (pv 3) pa_nil)))) pss_never)))), ?_⟩
    refine ⟨v0, rfl, ?_⟩
    dsimp only [tNil, tCall, List.append_nil]
    refine mono_house h (fun _ H1 h1 => ?_)
    refine ⟨v0, rfl, v2, rfl, ?_⟩
    dsimp only [tNil, tCall, List.append_nil]
    refine mono_story h1 (fun _ H2 h2 => ?_)
    refine ⟨v1, rfl, ?_⟩
    dsimp only [tNil, tCall, List.append_nil]
    refine mono_way h2 (fun _ H3 h3 => ?_)
    refine ⟨v0, rfl, v3, rfl, ?_⟩
    dsimp only [tNil, tCall, List.append_nil]
    exact mono_chk h3 (fun _ _ z => z)
theorem mono_check_waits {vs : List V} {H : Hp} {Q Q' : VK} {E : XK} (h : sp_check_waits K cs tb vs H Q E) (f : ∀ v H1, Q v H1 → Q' v H1) : sp_check_waits K cs tb vs H Q' E := by
  obtain ⟨v0, v1, v2, v3, e, h⟩ := h
  exact ⟨v0, v1, v2, v3, e, mono_house h (fun _ H1 h1 => mono_story h1 (fun _ H2 h2 => mono_way h2 (fun _ H3 h3 => mono_chk h3 (fun _ _ z => z))))⟩
def sp_check_viewer (K : PySem.W.Frag) (cs : Cs) (tb : Tb) : Sp := fun vs H Q E => ∃ v0 v1 v2 v3 v4, vs = [v0, v1, v2, v3, v4] ∧ spCheck K cs.B [v0] H (fun _ H1 => spLife K cs.L tb.m tb.s [v0, v2] H1 (fun _ H2 => spWay K cs.B [v1] H2 (fun _ H3 => spChk K (fun d _ => d) cs.D [v0, v3] H3 (fun _ H4 => spTimes K cs.T tb.n [v2, v4] H4 (fun _ H5 => Q .non H5) E) E) E) E) E
theorem ok_check_viewer {f : Addr} {fd : FuncData} (F : FnP K "check_viewer" s_check_viewer f fd) (c : Ch P w K mg base cs tb) : FnOk P w K mg base (L2.CX P w) 10 f fd ["house", "way", "life", "drawer", "times"] (sp_check_viewer K cs tb) := by
  refine F.ok (CX := L2.CX P w) sc_check_viewer (fun vs H Q E h => ?_) (fun cdv A outer s H vs Q E hr h => ?_)
  · obtain ⟨v0, v1, v2, v3, v4, rfl, _⟩ := h
    rfl
  · obtain ⟨v0, v1, v2, v3, v4, rfl, h⟩ := h
    refine ⟨_, (pss_cons (ps_expr (pe_call c.H.G (hr.mono (by decide)) (by rfl) c.H.m c.H.k c.H.b .nil (passX (E := E) rfl rfl rfl rfl) (pa_cons (pv 0) pa_nil))) (pss_cons (ps_expr (pe_call c.L.G (hr.mono (by decide)) (by rfl) c.L.m c.L.k c.L.b .nil (passX (E := E) rfl rfl rfl rfl) (pa_cons (pv 0) (pa_cons (pv 2) pa_nil)))) (pss_cons (ps_expr (pe_call c.W.G (hr.mono (by decide)) (by rfl) c.W.m c.W.k c.W.b .nil (passX (E := E) rfl rfl rfl rfl) (pa_cons (pv 1) pa_nil))) (pss_cons (ps_expr (pe_call c.D.G (hr.mono (by decide)) (by rfl) c.D.m c.D.k c.D.b .nil (passX (E := E) rfl rfl rfl rfl) (pa_cons (pv 0) (pa_cons (pv 3) pa_nil)))) (pss_one (ps_expr (pe_call c.T.G (hr.mono (by decide)) (by rfl) c.T.m c.T.k c.T.b .nil (passX (E := E) rfl rfl rfl rfl) (pa_cons (pv 2) (pa_cons (pv 4) pa_nil))))))))), ?_⟩
    refine ⟨v0, rfl, ?_⟩
    dsimp only [tNil, tCall, List.append_nil]
    refine mono_house h (fun _ H1 h1 => ?_)
    refine ⟨v0, rfl, v2, rfl, ?_⟩
    dsimp only [tNil, tCall, List.append_nil]
    refine mono_life h1 (fun _ H2 h2 => ?_)
    refine ⟨v1, rfl, ?_⟩
    dsimp only [tNil, tCall, List.append_nil]
    refine mono_way h2 (fun _ H3 h3 => ?_)
    refine ⟨v0, rfl, v3, rfl, ?_⟩
    dsimp only [tNil, tCall, List.append_nil]
    refine mono_chk h3 (fun _ H4 h4 => ?_)
    refine ⟨v2, rfl, v4, rfl, ?_⟩
    dsimp only [tNil, tCall, List.append_nil]
    exact mono_times h4 (fun _ _ z => z)
theorem mono_check_viewer {vs : List V} {H : Hp} {Q Q' : VK} {E : XK} (h : sp_check_viewer K cs tb vs H Q E) (f : ∀ v H1, Q v H1 → Q' v H1) : sp_check_viewer K cs tb vs H Q' E := by
  obtain ⟨v0, v1, v2, v3, v4, e, h⟩ := h
  exact ⟨v0, v1, v2, v3, v4, e, mono_house h (fun _ H1 h1 => mono_life h1 (fun _ H2 h2 => mono_way h2 (fun _ H3 h3 => mono_chk h3 (fun _ H4 h4 => mono_times h4 (fun _ _ z => f _ _ z)))))⟩
end
/-- the checks, and those made of them -/
structure Ch2 (P : Program) (w : World) (K : PySem.W.Frag) (mg : Str → Option Value) (base : Heap) (cs : Cs) (tb : Tb) : Type extends Ch P w K mg base cs tb where
  fR : Addr
  dR : FuncData
  R : Fn P w K mg base (L2.CX P w) 10 "check_run" ["house", "way", "life", "coins"] (sp_check_run K cs tb) fR dR
  fY : Addr
  dY : FuncData
  Y : Fn P w K mg base (L2.CX P w) 10 "check_key" ["house", "life", "drawer"] (sp_check_key K cs tb) fY dY
  fQ : Addr
  dQ : FuncData
  Q : Fn P w K mg base (L2.CX P w) 10 "check_search" ["house", "drawer", "moments", "is_often"] (sp_check_search K cs tb) fQ dQ
  fA : Addr
  dA : FuncData
  A : Fn P w K mg base (L2.CX P w) 10 "check_waits" ["house", "way", "story", "drawer"] (sp_check_waits K cs tb) fA dA
  fV : Addr
  dV : FuncData
  V : Fn P w K mg base (L2.CX P w) 10 "check_viewer" ["house", "way", "life", "drawer", "times"] (sp_check_viewer K cs tb) fV dV
end K10

set_option maxHeartbeats 4000000
namespace K10
open PySem PySem.Spec PyProof.Rows L2 Hd Evl
section
variable {P : Program} {w : World} {K : PySem.W.Frag} {mg : Str → Option Value} {base : Heap} {cs : Cs} {tb : Tb}
def sp_coin_count (K : PySem.W.Frag) (cs : Cs) (tb : Tb) : Sp := fun vs H Q E => ∃ v0, vs = [v0] ∧ spCheck K cs.B [v0] H (fun _ _ => False) E
theorem no_coin_count {f : Addr} {fd : FuncData} (F : FnP K "coin_count" s_coin_count f fd) (c : Ch2 P w K mg base cs tb) : FnOk P w K mg base (L2.CX P w) 11 f fd ["house"] (sp_coin_count K cs tb) := by
  refine F.ok (CX := L2.CX P w) sc_coin_count (fun vs H Q E h => ?_) (fun cdv A outer s H vs Q E hr h => ?_)
  · obtain ⟨v0, rfl, _⟩ := h
    rfl
  · obtain ⟨v0, rfl, h⟩ := h
    refine ⟨_, (pss_cons (ps_expr (pe_call c.H.G (hr.mono (by decide)) (by rfl) c.H.m c.H.k c.H.b .nil (passX (E := E) rfl rfl rfl rfl) (pa_cons (pv 0) pa_nil))) pss_never), ?_⟩
    refine ⟨v0, rfl, ?_⟩
    dsimp only [tNil, tCall, List.append_nil]
    exact mono_house h (fun _ _ z => z)
def sp_drawn (K : PySem.W.Frag) (cs : Cs) (tb : Tb) : Sp := fun vs H Q E => ∃ v0 v1, vs = [v0, v1] ∧ spCheck K cs.B [v0] H (fun _ _ => False) E
theorem no_drawn {f : Addr} {fd : FuncData} (F : FnP K "drawn" s_drawn f fd) (c : Ch2 P w K mg base cs tb) : FnOk P w K mg base (L2.CX P w) 11 f fd ["house", "coin"] (sp_drawn K cs tb) := by
  refine F.ok (CX := L2.CX P w) sc_drawn (fun vs H Q E h => ?_) (fun cdv A outer s H vs Q E hr h => ?_)
  · obtain ⟨v0, v1, rfl, _⟩ := h
    rfl
  · obtain ⟨v0, v1, rfl, h⟩ := h
    refine ⟨_, (pss_cons (ps_expr (pe_call c.H.G (hr.mono (by decide)) (by rfl) c.H.m c.H.k c.H.b .nil (passX (E := E) rfl rfl rfl rfl) (pa_cons (pv 0) pa_nil))) pss_never), ?_⟩
    refine ⟨v0, rfl, ?_⟩
    dsimp only [tNil, tCall, List.append_nil]
    exact mono_house h (fun _ _ z => z)
def sp_coin_of (K : PySem.W.Frag) (cs : Cs) (tb : Tb) : Sp := fun vs H Q E => ∃ v0 v1, vs = [v0, v1] ∧ spCheck K cs.B [v0] H (fun _ _ => False) E
theorem no_coin_of {f : Addr} {fd : FuncData} (F : FnP K "coin_of" s_coin_of f fd) (c : Ch2 P w K mg base cs tb) : FnOk P w K mg base (L2.CX P w) 11 f fd ["house", "cells"] (sp_coin_of K cs tb) := by
  refine F.ok (CX := L2.CX P w) sc_coin_of (fun vs H Q E h => ?_) (fun cdv A outer s H vs Q E hr h => ?_)
  · obtain ⟨v0, v1, rfl, _⟩ := h
    rfl
  · obtain ⟨v0, v1, rfl, h⟩ := h
    refine ⟨_, (pss_cons (ps_expr (pe_call c.H.G (hr.mono (by decide)) (by rfl) c.H.m c.H.k c.H.b .nil (passX (E := E) rfl rfl rfl rfl) (pa_cons (pv 0) pa_nil))) pss_never), ?_⟩
    refine ⟨v0, rfl, ?_⟩
    dsimp only [tNil, tCall, List.append_nil]
    exact mono_house h (fun _ _ z => z)
def sp_is_story (K : PySem.W.Frag) (cs : Cs) (tb : Tb) : Sp := fun vs H Q E => ∃ v0 v1, vs = [v0, v1] ∧ spCheck K cs.B [v0] H (fun _ _ => False) E
theorem no_is_story {f : Addr} {fd : FuncData} (F : FnP K "is_story" s_is_story f fd) (c : Ch2 P w K mg base cs tb) : FnOk P w K mg base (L2.CX P w) 11 f fd ["house", "value"] (sp_is_story K cs tb) := by
  refine F.ok (CX := L2.CX P w) sc_is_story (fun vs H Q E h => ?_) (fun cdv A outer s H vs Q E hr h => ?_)
  · obtain ⟨v0, v1, rfl, _⟩ := h
    rfl
  · obtain ⟨v0, v1, rfl, h⟩ := h
    refine ⟨_, (pss_cons (ps_expr (pe_call c.H.G (hr.mono (by decide)) (by rfl) c.H.m c.H.k c.H.b .nil (passX (E := E) rfl rfl rfl rfl) (pa_cons (pv 0) pa_nil))) pss_never), ?_⟩
    refine ⟨v0, rfl, ?_⟩
    dsimp only [tNil, tCall, List.append_nil]
    exact mono_house h (fun _ _ z => z)
def sp_is_life (K : PySem.W.Frag) (cs : Cs) (tb : Tb) : Sp := fun vs H Q E => ∃ v0 v1, vs = [v0, v1] ∧ spCheck K cs.B [v0] H (fun _ _ => False) E
theorem no_is_life {f : Addr} {fd : FuncData} (F : FnP K "is_life" s_is_life f fd) (c : Ch2 P w K mg base cs tb) : FnOk P w K mg base (L2.CX P w) 11 f fd ["house", "value"] (sp_is_life K cs tb) := by
  refine F.ok (CX := L2.CX P w) sc_is_life (fun vs H Q E h => ?_) (fun cdv A outer s H vs Q E hr h => ?_)
  · obtain ⟨v0, v1, rfl, _⟩ := h
    rfl
  · obtain ⟨v0, v1, rfl, h⟩ := h
    refine ⟨_, (pss_cons (ps_expr (pe_call c.H.G (hr.mono (by decide)) (by rfl) c.H.m c.H.k c.H.b .nil (passX (E := E) rfl rfl rfl rfl) (pa_cons (pv 0) pa_nil))) pss_never), ?_⟩
    refine ⟨v0, rfl, ?_⟩
    dsimp only [tNil, tCall, List.append_nil]
    exact mono_house h (fun _ _ z => z)
def sp_row_count (K : PySem.W.Frag) (cs : Cs) (tb : Tb) : Sp := fun vs H Q E => ∃ v0 v1, vs = [v0, v1] ∧ spCheck K cs.B [v0] H (fun _ H1 => spLife K cs.L tb.m tb.s [v0, v1] H1 (fun _ _ => False) E) E
theorem no_row_count {f : Addr} {fd : FuncData} (F : FnP K "row_count" s_row_count f fd) (c : Ch2 P w K mg base cs tb) : FnOk P w K mg base (L2.CX P w) 11 f fd ["house", "life"] (sp_row_count K cs tb) := by
  refine F.ok (CX := L2.CX P w) sc_row_count (fun vs H Q E h => ?_) (fun cdv A outer s H vs Q E hr h => ?_)
  · obtain ⟨v0, v1, rfl, _⟩ := h
    rfl
  · obtain ⟨v0, v1, rfl, h⟩ := h
    refine ⟨_, (pss_cons (ps_expr (pe_call c.H.G (hr.mono (by decide)) (by rfl) c.H.m c.H.k c.H.b .nil (passX (E := E) rfl rfl rfl rfl) (pa_cons (pv 0) pa_nil))) (pss_cons (ps_expr (pe_call c.L.G (hr.mono (by decide)) (by rfl) c.L.m c.L.k c.L.b .nil (passX (E := E) rfl rfl rfl rfl) (pa_cons (pv 0) (pa_cons (pv 1) pa_nil)))) pss_never)), ?_⟩
    refine ⟨v0, rfl, ?_⟩
    dsimp only [tNil, tCall, List.append_nil]
    refine mono_house h (fun _ H1 h1 => ?_)
    refine ⟨v0, rfl, v1, rfl, ?_⟩
    dsimp only [tNil, tCall, List.append_nil]
    exact mono_life h1 (fun _ _ z => z)
def sp_written (K : PySem.W.Frag) (cs : Cs) (tb : Tb) : Sp := fun vs H Q E => ∃ v0 v1, vs = [v0, v1] ∧ spCheck K cs.B [v0] H (fun _ H1 => spLife K cs.L tb.m tb.s [v0, v1] H1 (fun _ _ => False) E) E
theorem no_written {f : Addr} {fd : FuncData} (F : FnP K "written" s_written f fd) (c : Ch2 P w K mg base cs tb) : FnOk P w K mg base (L2.CX P w) 11 f fd ["house", "life"] (sp_written K cs tb) := by
  refine F.ok (CX := L2.CX P w) sc_written (fun vs H Q E h => ?_) (fun cdv A outer s H vs Q E hr h => ?_)
  · obtain ⟨v0, v1, rfl, _⟩ := h
    rfl
  · obtain ⟨v0, v1, rfl, h⟩ := h
    refine ⟨_, (pss_cons (ps_expr (pe_call c.H.G (hr.mono (by decide)) (by rfl) c.H.m c.H.k c.H.b .nil (passX (E := E) rfl rfl rfl rfl) (pa_cons (pv 0) pa_nil))) (pss_cons (ps_expr (pe_call c.L.G (hr.mono (by decide)) (by rfl) c.L.m c.L.k c.L.b .nil (passX (E := E) rfl rfl rfl rfl) (pa_cons (pv 0) (pa_cons (pv 1) pa_nil)))) pss_never)), ?_⟩
    refine ⟨v0, rfl, ?_⟩
    dsimp only [tNil, tCall, List.append_nil]
    refine mono_house h (fun _ H1 h1 => ?_)
    refine ⟨v0, rfl, v1, rfl, ?_⟩
    dsimp only [tNil, tCall, List.append_nil]
    exact mono_life h1 (fun _ _ z => z)
def sp_upper (K : PySem.W.Frag) (cs : Cs) (tb : Tb) : Sp := fun vs H Q E => ∃ v0 v1 v2, vs = [v0, v1, v2] ∧ spCheck K cs.B [v0] H (fun _ H1 => spLife K cs.L tb.m tb.s [v0, v1] H1 (fun _ _ => False) E) E
theorem no_upper {f : Addr} {fd : FuncData} (F : FnP K "upper" s_upper f fd) (c : Ch2 P w K mg base cs tb) : FnOk P w K mg base (L2.CX P w) 11 f fd ["house", "life", "drawer"] (sp_upper K cs tb) := by
  refine F.ok (CX := L2.CX P w) sc_upper (fun vs H Q E h => ?_) (fun cdv A outer s H vs Q E hr h => ?_)
  · obtain ⟨v0, v1, v2, rfl, _⟩ := h
    rfl
  · obtain ⟨v0, v1, v2, rfl, h⟩ := h
    refine ⟨_, (pss_cons (ps_expr (pe_call c.H.G (hr.mono (by decide)) (by rfl) c.H.m c.H.k c.H.b .nil (passX (E := E) rfl rfl rfl rfl) (pa_cons (pv 0) pa_nil))) (pss_cons (ps_expr (pe_call c.L.G (hr.mono (by decide)) (by rfl) c.L.m c.L.k c.L.b .nil (passX (E := E) rfl rfl rfl rfl) (pa_cons (pv 0) (pa_cons (pv 1) pa_nil)))) pss_never)), ?_⟩
    refine ⟨v0, rfl, ?_⟩
    dsimp only [tNil, tCall, List.append_nil]
    refine mono_house h (fun _ H1 h1 => ?_)
    refine ⟨v0, rfl, v1, rfl, ?_⟩
    dsimp only [tNil, tCall, List.append_nil]
    exact mono_life h1 (fun _ _ z => z)
def sp_lives_on (K : PySem.W.Frag) (cs : Cs) (tb : Tb) : Sp := fun vs H Q E => ∃ v0 v1 v2, vs = [v0, v1, v2] ∧ spCheck K cs.B [v0] H (fun _ _ => False) E
theorem no_lives_on {f : Addr} {fd : FuncData} (F : FnP K "lives_on" s_lives_on f fd) (c : Ch2 P w K mg base cs tb) : FnOk P w K mg base (L2.CX P w) 11 f fd ["house", "copies", "moments"] (sp_lives_on K cs tb) := by
  refine F.ok (CX := L2.CX P w) sc_lives_on (fun vs H Q E h => ?_) (fun cdv A outer s H vs Q E hr h => ?_)
  · obtain ⟨v0, v1, v2, rfl, _⟩ := h
    rfl
  · obtain ⟨v0, v1, v2, rfl, h⟩ := h
    refine ⟨_, (pss_cons (ps_expr (pe_call c.H.G (hr.mono (by decide)) (by rfl) c.H.m c.H.k c.H.b .nil (passX (E := E) rfl rfl rfl rfl) (pa_cons (pv 0) pa_nil))) pss_never), ?_⟩
    refine ⟨v0, rfl, ?_⟩
    dsimp only [tNil, tCall, List.append_nil]
    exact mono_house h (fun _ _ z => z)
def sp_alike_above (K : PySem.W.Frag) (cs : Cs) (tb : Tb) : Sp := fun vs H Q E => ∃ v0 v1 v2 v3, vs = [v0, v1, v2, v3] ∧ spCheck K cs.B [v0] H (fun _ H1 => spLife K cs.L tb.m tb.s [v0, v1] H1 (fun _ H2 => spLife K cs.L tb.m tb.s [v0, v2] H2 (fun _ _ => False) E) E) E
theorem no_alike_above {f : Addr} {fd : FuncData} (F : FnP K "alike_above" s_alike_above f fd) (c : Ch2 P w K mg base cs tb) : FnOk P w K mg base (L2.CX P w) 11 f fd ["house", "one", "other", "drawer"] (sp_alike_above K cs tb) := by
  refine F.ok (CX := L2.CX P w) sc_alike_above (fun vs H Q E h => ?_) (fun cdv A outer s H vs Q E hr h => ?_)
  · obtain ⟨v0, v1, v2, v3, rfl, _⟩ := h
    rfl
  · obtain ⟨v0, v1, v2, v3, rfl, h⟩ := h
    refine ⟨_, (pss_cons (ps_expr (pe_call c.H.G (hr.mono (by decide)) (by rfl) c.H.m c.H.k c.H.b .nil (passX (E := E) rfl rfl rfl rfl) (pa_cons (pv 0) pa_nil))) (pss_cons (ps_expr (pe_call c.L.G (hr.mono (by decide)) (by rfl) c.L.m c.L.k c.L.b .nil (passX (E := E) rfl rfl rfl rfl) (pa_cons (pv 0) (pa_cons (pv 1) pa_nil)))) (pss_cons (ps_expr (pe_call c.L.G (hr.mono (by decide)) (by rfl) c.L.m c.L.k c.L.b .nil (passX (E := E) rfl rfl rfl rfl) (pa_cons (pv 0) (pa_cons (pv 2) pa_nil)))) pss_never))), ?_⟩
    refine ⟨v0, rfl, ?_⟩
    dsimp only [tNil, tCall, List.append_nil]
    refine mono_house h (fun _ H1 h1 => ?_)
    refine ⟨v0, rfl, v1, rfl, ?_⟩
    dsimp only [tNil, tCall, List.append_nil]
    refine mono_life h1 (fun _ H2 h2 => ?_)
    refine ⟨v0, rfl, v2, rfl, ?_⟩
    dsimp only [tNil, tCall, List.append_nil]
    exact mono_life h2 (fun _ _ z => z)
def sp_safe_ways (K : PySem.W.Frag) (cs : Cs) (tb : Tb) : Sp := fun vs H Q E => ∃ v0 v1 v2 v3, vs = [v0, v1, v2, v3] ∧ spCheck K cs.B [v0] H (fun _ H1 => sp_check_search K cs tb [v0, v1, v2, v3] H1 (fun _ _ => False) E) E
theorem no_safe_ways {f : Addr} {fd : FuncData} (F : FnP K "safe_ways" s_safe_ways f fd) (c : Ch2 P w K mg base cs tb) : FnOk P w K mg base (L2.CX P w) 11 f fd ["house", "drawer", "moments", "is_often"] (sp_safe_ways K cs tb) := by
  refine F.ok (CX := L2.CX P w) sc_safe_ways (fun vs H Q E h => ?_) (fun cdv A outer s H vs Q E hr h => ?_)
  · obtain ⟨v0, v1, v2, v3, rfl, _⟩ := h
    rfl
  · obtain ⟨v0, v1, v2, v3, rfl, h⟩ := h
    refine ⟨_, (pss_cons (ps_expr (pe_call c.H.G (hr.mono (by decide)) (by rfl) c.H.m c.H.k c.H.b .nil (passX (E := E) rfl rfl rfl rfl) (pa_cons (pv 0) pa_nil))) (pss_cons (ps_expr (pe_call c.Q.G (hr.mono (by decide)) (by rfl) c.Q.m c.Q.k c.Q.b .nil (passX (E := E) rfl rfl rfl rfl) (pa_cons (pv 0) (pa_cons (pv 1) (pa_cons (pv 2) (pa_cons (pv 3) pa_nil)))))) pss_never)), ?_⟩
    refine ⟨v0, rfl, ?_⟩
    dsimp only [tNil, tCall, List.append_nil]
    refine mono_house h (fun _ H1 h1 => ?_)
    refine ⟨v0, rfl, v1, rfl, v2, rfl, v3, rfl, ?_⟩
    dsimp only [tNil, tCall, List.append_nil]
    exact mono_check_search h1 (fun _ _ z => z)
def sp_loss_chance (K : PySem.W.Frag) (cs : Cs) (tb : Tb) : Sp := fun vs H Q E => ∃ v0 v1 v2 v3, vs = [v0, v1, v2, v3] ∧ spCheck K cs.B [v0] H (fun _ H1 => spLife K cs.L tb.m tb.s [v0, v1] H1 (fun _ H2 => spChk K (fun d _ => d) cs.D [v0, v2] H2 (fun _ H3 => spChk K (fun _ p => p) cs.P [v0, v3] H3 (fun _ _ => False) E) E) E) E
theorem no_loss_chance {f : Addr} {fd : FuncData} (F : FnP K "loss_chance" s_loss_chance f fd) (c : Ch2 P w K mg base cs tb) : FnOk P w K mg base (L2.CX P w) 11 f fd ["house", "life", "drawer", "page"] (sp_loss_chance K cs tb) := by
  refine F.ok (CX := L2.CX P w) sc_loss_chance (fun vs H Q E h => ?_) (fun cdv A outer s H vs Q E hr h => ?_)
  · obtain ⟨v0, v1, v2, v3, rfl, _⟩ := h
    rfl
  · obtain ⟨v0, v1, v2, v3, rfl, h⟩ := h
    refine ⟨_, (pss_cons (ps_expr (pe_call c.H.G (hr.mono (by decide)) (by rfl) c.H.m c.H.k c.H.b .nil (passX (E := E) rfl rfl rfl rfl) (pa_cons (pv 0) pa_nil))) (pss_cons (ps_expr (pe_call c.L.G (hr.mono (by decide)) (by rfl) c.L.m c.L.k c.L.b .nil (passX (E := E) rfl rfl rfl rfl) (pa_cons (pv 0) (pa_cons (pv 1) pa_nil)))) (pss_cons (ps_expr (pe_call c.D.G (hr.mono (by decide)) (by rfl) c.D.m c.D.k c.D.b .nil (passX (E := E) rfl rfl rfl rfl) (pa_cons (pv 0) (pa_cons (pv 2) pa_nil)))) (pss_cons (ps_expr (pe_call c.G.G (hr.mono (by decide)) (by rfl) c.G.m c.G.k c.G.b .nil (passX (E := E) rfl rfl rfl rfl) (pa_cons (pv 0) (pa_cons (pv 3) pa_nil)))) pss_never)))), ?_⟩
    refine ⟨v0, rfl, ?_⟩
    dsimp only [tNil, tCall, List.append_nil]
    refine mono_house h (fun _ H1 h1 => ?_)
    refine ⟨v0, rfl, v1, rfl, ?_⟩
    dsimp only [tNil, tCall, List.append_nil]
    refine mono_life h1 (fun _ H2 h2 => ?_)
    refine ⟨v0, rfl, v2, rfl, ?_⟩
    dsimp only [tNil, tCall, List.append_nil]
    refine mono_chk h2 (fun _ H3 h3 => ?_)
    refine ⟨v0, rfl, v3, rfl, ?_⟩
    dsimp only [tNil, tCall, List.append_nil]
    exact mono_chk h3 (fun _ _ z => z)
def sp_waiting_counts (K : PySem.W.Frag) (cs : Cs) (tb : Tb) : Sp := fun vs H Q E => ∃ v0 v1 v2 v3, vs = [v0, v1, v2, v3] ∧ sp_check_waits K cs tb [v0, v1, v2, v3] H (fun _ _ => False) E
theorem no_waiting_counts {f : Addr} {fd : FuncData} (F : FnP K "waiting_counts" s_waiting_counts f fd) (c : Ch2 P w K mg base cs tb) : FnOk P w K mg base (L2.CX P w) 11 f fd ["house", "way", "story", "drawer"] (sp_waiting_counts K cs tb) := by
  refine F.ok (CX := L2.CX P w) sc_waiting_counts (fun vs H Q E h => ?_) (fun cdv A outer s H vs Q E hr h => ?_)
  · obtain ⟨v0, v1, v2, v3, rfl, _⟩ := h
    rfl
  · obtain ⟨v0, v1, v2, v3, rfl, h⟩ := h
    refine ⟨_, (pss_cons (ps_expr (pe_call c.A.G (hr.mono (by decide)) (by rfl) c.A.m c.A.k c.A.b .nil (passX (E := E) rfl rfl rfl rfl) (pa_cons (pv 0) (pa_cons (pv 1) (pa_cons (pv 2) (pa_cons (pv 3) pa_nil)))))) pss_never), ?_⟩
    refine ⟨v0, rfl, v1, rfl, v2, rfl, v3, rfl, ?_⟩
    dsimp only [tNil, tCall, List.append_nil]
    exact mono_check_waits h (fun _ _ z => z)
def sp_looks (K : PySem.W.Frag) (cs : Cs) (tb : Tb) : Sp := fun vs H Q E => ∃ v0 v1 v2 v3 v4, vs = [v0, v1, v2, v3, v4] ∧ sp_check_run K cs tb [v0, v1, v2, v3] H (fun _ H1 => spChk K (fun d _ => d) cs.D [v0, v4] H1 (fun _ _ => False) E) E
theorem no_looks {f : Addr} {fd : FuncData} (F : FnP K "looks" s_looks f fd) (c : Ch2 P w K mg base cs tb) : FnOk P w K mg base (L2.CX P w) 11 f fd ["house", "way", "life", "coins", "drawer"] (sp_looks K cs tb) := by
  refine F.ok (CX := L2.CX P w) sc_looks (fun vs H Q E h => ?_) (fun cdv A outer s H vs Q E hr h => ?_)
  · obtain ⟨v0, v1, v2, v3, v4, rfl, _⟩ := h
    rfl
  · obtain ⟨v0, v1, v2, v3, v4, rfl, h⟩ := h
    refine ⟨_, (pss_cons (ps_expr (pe_call c.R.G (hr.mono (by decide)) (by rfl) c.R.m c.R.k c.R.b .nil (passX (E := E) rfl rfl rfl rfl) (pa_cons (pv 0) (pa_cons (pv 1) (pa_cons (pv 2) (pa_cons (pv 3) pa_nil)))))) (pss_cons (ps_expr (pe_call c.D.G (hr.mono (by decide)) (by rfl) c.D.m c.D.k c.D.b .nil (passX (E := E) rfl rfl rfl rfl) (pa_cons (pv 0) (pa_cons (pv 4) pa_nil)))) pss_never)), ?_⟩
    refine ⟨v0, rfl, v1, rfl, v2, rfl, v3, rfl, ?_⟩
    dsimp only [tNil, tCall, List.append_nil]
    refine mono_check_run h (fun _ H1 h1 => ?_)
    refine ⟨v0, rfl, v4, rfl, ?_⟩
    dsimp only [tNil, tCall, List.append_nil]
    exact mono_chk h1 (fun _ _ z => z)
def sp_waiting (K : PySem.W.Frag) (cs : Cs) (tb : Tb) : Sp := fun vs H Q E => ∃ v0 v1 v2 v3 v4, vs = [v0, v1, v2, v3, v4] ∧ sp_check_run K cs tb [v0, v1, v2, v3] H (fun _ H1 => sp_check_key K cs tb [v0, v2, v4] H1 (fun _ _ => False) E) E
theorem no_waiting {f : Addr} {fd : FuncData} (F : FnP K "waiting" s_waiting f fd) (c : Ch2 P w K mg base cs tb) : FnOk P w K mg base (L2.CX P w) 11 f fd ["house", "way", "life", "coins", "drawer"] (sp_waiting K cs tb) := by
  refine F.ok (CX := L2.CX P w) sc_waiting (fun vs H Q E h => ?_) (fun cdv A outer s H vs Q E hr h => ?_)
  · obtain ⟨v0, v1, v2, v3, v4, rfl, _⟩ := h
    rfl
  · obtain ⟨v0, v1, v2, v3, v4, rfl, h⟩ := h
    refine ⟨_, (pss_cons (ps_expr (pe_call c.R.G (hr.mono (by decide)) (by rfl) c.R.m c.R.k c.R.b .nil (passX (E := E) rfl rfl rfl rfl) (pa_cons (pv 0) (pa_cons (pv 1) (pa_cons (pv 2) (pa_cons (pv 3) pa_nil)))))) (pss_cons (ps_expr (pe_call c.Y.G (hr.mono (by decide)) (by rfl) c.Y.m c.Y.k c.Y.b .nil (passX (E := E) rfl rfl rfl rfl) (pa_cons (pv 0) (pa_cons (pv 2) (pa_cons (pv 4) pa_nil))))) pss_never)), ?_⟩
    refine ⟨v0, rfl, v1, rfl, v2, rfl, v3, rfl, ?_⟩
    dsimp only [tNil, tCall, List.append_nil]
    refine mono_check_run h (fun _ H1 h1 => ?_)
    refine ⟨v0, rfl, v2, rfl, v4, rfl, ?_⟩
    dsimp only [tNil, tCall, List.append_nil]
    exact mono_check_key h1 (fun _ _ z => z)
def sp_places (K : PySem.W.Frag) (cs : Cs) (tb : Tb) : Sp := fun vs H Q E => ∃ v0 v1 v2 v3 v4, vs = [v0, v1, v2, v3, v4] ∧ sp_check_run K cs tb [v0, v1, v2, v3] H (fun _ H1 => sp_check_key K cs tb [v0, v2, v4] H1 (fun _ _ => False) E) E
theorem no_places {f : Addr} {fd : FuncData} (F : FnP K "places" s_places f fd) (c : Ch2 P w K mg base cs tb) : FnOk P w K mg base (L2.CX P w) 11 f fd ["house", "way", "life", "coins", "drawer"] (sp_places K cs tb) := by
  refine F.ok (CX := L2.CX P w) sc_places (fun vs H Q E h => ?_) (fun cdv A outer s H vs Q E hr h => ?_)
  · obtain ⟨v0, v1, v2, v3, v4, rfl, _⟩ := h
    rfl
  · obtain ⟨v0, v1, v2, v3, v4, rfl, h⟩ := h
    refine ⟨_, (pss_cons (ps_expr (pe_call c.R.G (hr.mono (by decide)) (by rfl) c.R.m c.R.k c.R.b .nil (passX (E := E) rfl rfl rfl rfl) (pa_cons (pv 0) (pa_cons (pv 1) (pa_cons (pv 2) (pa_cons (pv 3) pa_nil)))))) (pss_cons (ps_expr (pe_call c.Y.G (hr.mono (by decide)) (by rfl) c.Y.m c.Y.k c.Y.b .nil (passX (E := E) rfl rfl rfl rfl) (pa_cons (pv 0) (pa_cons (pv 2) (pa_cons (pv 4) pa_nil))))) pss_never)), ?_⟩
    refine ⟨v0, rfl, v1, rfl, v2, rfl, v3, rfl, ?_⟩
    dsimp only [tNil, tCall, List.append_nil]
    refine mono_check_run h (fun _ H1 h1 => ?_)
    refine ⟨v0, rfl, v2, rfl, v4, rfl, ?_⟩
    dsimp only [tNil, tCall, List.append_nil]
    exact mono_check_key h1 (fun _ _ z => z)
def sp_parting (K : PySem.W.Frag) (cs : Cs) (tb : Tb) : Sp := fun vs H Q E => ∃ v0 v1 v2 v3 v4, vs = [v0, v1, v2, v3, v4] ∧ spCheck K cs.B [v0] H (fun _ H1 => spWay K cs.B [v1] H1 (fun _ H2 => sp_check_search K cs tb [v0, v2, v3, v4] H2 (fun _ _ => False) E) E) E
theorem no_parting {f : Addr} {fd : FuncData} (F : FnP K "parting" s_parting f fd) (c : Ch2 P w K mg base cs tb) : FnOk P w K mg base (L2.CX P w) 11 f fd ["house", "way", "drawer", "moments", "is_often"] (sp_parting K cs tb) := by
  refine F.ok (CX := L2.CX P w) sc_parting (fun vs H Q E h => ?_) (fun cdv A outer s H vs Q E hr h => ?_)
  · obtain ⟨v0, v1, v2, v3, v4, rfl, _⟩ := h
    rfl
  · obtain ⟨v0, v1, v2, v3, v4, rfl, h⟩ := h
    refine ⟨_, (pss_cons (ps_expr (pe_call c.H.G (hr.mono (by decide)) (by rfl) c.H.m c.H.k c.H.b .nil (passX (E := E) rfl rfl rfl rfl) (pa_cons (pv 0) pa_nil))) (pss_cons (ps_expr (pe_call c.W.G (hr.mono (by decide)) (by rfl) c.W.m c.W.k c.W.b .nil (passX (E := E) rfl rfl rfl rfl) (pa_cons (pv 1) pa_nil))) (pss_cons (ps_expr (pe_call c.Q.G (hr.mono (by decide)) (by rfl) c.Q.m c.Q.k c.Q.b .nil (passX (E := E) rfl rfl rfl rfl) (pa_cons (pv 0) (pa_cons (pv 2) (pa_cons (pv 3) (pa_cons (pv 4) pa_nil)))))) pss_never))), ?_⟩
    refine ⟨v0, rfl, ?_⟩
    dsimp only [tNil, tCall, List.append_nil]
    refine mono_house h (fun _ H1 h1 => ?_)
    refine ⟨v1, rfl, ?_⟩
    dsimp only [tNil, tCall, List.append_nil]
    refine mono_way h1 (fun _ H2 h2 => ?_)
    refine ⟨v0, rfl, v2, rfl, v3, rfl, v4, rfl, ?_⟩
    dsimp only [tNil, tCall, List.append_nil]
    exact mono_check_search h2 (fun _ _ z => z)
def sp_view_count (K : PySem.W.Frag) (cs : Cs) (tb : Tb) : Sp := fun vs H Q E => ∃ v0 v1 v2 v3 v4, vs = [v0, v1, v2, v3, v4] ∧ sp_check_viewer K cs tb [v0, v1, v2, v3, v4] H (fun _ _ => False) E
theorem no_view_count {f : Addr} {fd : FuncData} (F : FnP K "view_count" s_view_count f fd) (c : Ch2 P w K mg base cs tb) : FnOk P w K mg base (L2.CX P w) 11 f fd ["house", "way", "life", "drawer", "times"] (sp_view_count K cs tb) := by
  refine F.ok (CX := L2.CX P w) sc_view_count (fun vs H Q E h => ?_) (fun cdv A outer s H vs Q E hr h => ?_)
  · obtain ⟨v0, v1, v2, v3, v4, rfl, _⟩ := h
    rfl
  · obtain ⟨v0, v1, v2, v3, v4, rfl, h⟩ := h
    refine ⟨_, (pss_cons (ps_expr (pe_call c.V.G (hr.mono (by decide)) (by rfl) c.V.m c.V.k c.V.b .nil (passX (E := E) rfl rfl rfl rfl) (pa_cons (pv 0) (pa_cons (pv 1) (pa_cons (pv 2) (pa_cons (pv 3) (pa_cons (pv 4) pa_nil))))))) pss_never), ?_⟩
    refine ⟨v0, rfl, v1, rfl, v2, rfl, v3, rfl, v4, rfl, ?_⟩
    dsimp only [tNil, tCall, List.append_nil]
    exact mono_check_viewer h (fun _ _ z => z)
def sp_more_wait (K : PySem.W.Frag) (cs : Cs) (tb : Tb) : Sp := fun vs H Q E => ∃ v0 v1 v2 v3 v4, vs = [v0, v1, v2, v3, v4] ∧ sp_check_waits K cs tb [v0, v1, v2, v3] H (fun _ _ => False) E
theorem no_more_wait {f : Addr} {fd : FuncData} (F : FnP K "more_wait" s_more_wait f fd) (c : Ch2 P w K mg base cs tb) : FnOk P w K mg base (L2.CX P w) 11 f fd ["house", "way", "story", "drawer", "many"] (sp_more_wait K cs tb) := by
  refine F.ok (CX := L2.CX P w) sc_more_wait (fun vs H Q E h => ?_) (fun cdv A outer s H vs Q E hr h => ?_)
  · obtain ⟨v0, v1, v2, v3, v4, rfl, _⟩ := h
    rfl
  · obtain ⟨v0, v1, v2, v3, v4, rfl, h⟩ := h
    refine ⟨_, (pss_cons (ps_expr (pe_call c.A.G (hr.mono (by decide)) (by rfl) c.A.m c.A.k c.A.b .nil (passX (E := E) rfl rfl rfl rfl) (pa_cons (pv 0) (pa_cons (pv 1) (pa_cons (pv 2) (pa_cons (pv 3) pa_nil)))))) pss_never), ?_⟩
    refine ⟨v0, rfl, v1, rfl, v2, rfl, v3, rfl, ?_⟩
    dsimp only [tNil, tCall, List.append_nil]
    exact mono_check_waits h (fun _ _ z => z)
def sp_view (K : PySem.W.Frag) (cs : Cs) (tb : Tb) : Sp := fun vs H Q E => ∃ v0 v1 v2 v3 v4 v5, vs = [v0, v1, v2, v3, v4, v5] ∧ sp_check_run K cs tb [v0, v1, v2, v3] H (fun _ H1 => spChk K (fun d _ => d) cs.D [v0, v4] H1 (fun _ _ => False) E) E
theorem no_view {f : Addr} {fd : FuncData} (F : FnP K "view" s_view f fd) (c : Ch2 P w K mg base cs tb) : FnOk P w K mg base (L2.CX P w) 11 f fd ["house", "way", "life", "coins", "drawer", "times"] (sp_view K cs tb) := by
  refine F.ok (CX := L2.CX P w) sc_view (fun vs H Q E h => ?_) (fun cdv A outer s H vs Q E hr h => ?_)
  · obtain ⟨v0, v1, v2, v3, v4, v5, rfl, _⟩ := h
    rfl
  · obtain ⟨v0, v1, v2, v3, v4, v5, rfl, h⟩ := h
    refine ⟨_, (pss_cons (ps_expr (pe_call c.R.G (hr.mono (by decide)) (by rfl) c.R.m c.R.k c.R.b .nil (passX (E := E) rfl rfl rfl rfl) (pa_cons (pv 0) (pa_cons (pv 1) (pa_cons (pv 2) (pa_cons (pv 3) pa_nil)))))) (pss_cons (ps_expr (pe_call c.D.G (hr.mono (by decide)) (by rfl) c.D.m c.D.k c.D.b .nil (passX (E := E) rfl rfl rfl rfl) (pa_cons (pv 0) (pa_cons (pv 4) pa_nil)))) pss_never)), ?_⟩
    refine ⟨v0, rfl, v1, rfl, v2, rfl, v3, rfl, ?_⟩
    dsimp only [tNil, tCall, List.append_nil]
    refine mono_check_run h (fun _ H1 h1 => ?_)
    refine ⟨v0, rfl, v4, rfl, ?_⟩
    dsimp only [tNil, tCall, List.append_nil]
    exact mono_chk h1 (fun _ _ z => z)
def sp_read (K : PySem.W.Frag) (cs : Cs) (tb : Tb) : Sp := fun vs H Q E => ∃ v0 v1 v2 v3 v4 v5, vs = [v0, v1, v2, v3, v4, v5] ∧ sp_check_run K cs tb [v0, v1, v2, v3] H (fun _ H1 => sp_check_key K cs tb [v0, v2, v4] H1 (fun _ _ => False) E) E
theorem no_read {f : Addr} {fd : FuncData} (F : FnP K "read" s_read f fd) (c : Ch2 P w K mg base cs tb) : FnOk P w K mg base (L2.CX P w) 11 f fd ["house", "way", "life", "coins", "drawer", "page"] (sp_read K cs tb) := by
  refine F.ok (CX := L2.CX P w) sc_read (fun vs H Q E h => ?_) (fun cdv A outer s H vs Q E hr h => ?_)
  · obtain ⟨v0, v1, v2, v3, v4, v5, rfl, _⟩ := h
    rfl
  · obtain ⟨v0, v1, v2, v3, v4, v5, rfl, h⟩ := h
    refine ⟨_, (pss_cons (ps_expr (pe_call c.R.G (hr.mono (by decide)) (by rfl) c.R.m c.R.k c.R.b .nil (passX (E := E) rfl rfl rfl rfl) (pa_cons (pv 0) (pa_cons (pv 1) (pa_cons (pv 2) (pa_cons (pv 3) pa_nil)))))) (pss_cons (ps_expr (pe_call c.Y.G (hr.mono (by decide)) (by rfl) c.Y.m c.Y.k c.Y.b .nil (passX (E := E) rfl rfl rfl rfl) (pa_cons (pv 0) (pa_cons (pv 2) (pa_cons (pv 4) pa_nil))))) pss_never)), ?_⟩
    refine ⟨v0, rfl, v1, rfl, v2, rfl, v3, rfl, ?_⟩
    dsimp only [tNil, tCall, List.append_nil]
    refine mono_check_run h (fun _ H1 h1 => ?_)
    refine ⟨v0, rfl, v2, rfl, v4, rfl, ?_⟩
    dsimp only [tNil, tCall, List.append_nil]
    exact mono_check_key h1 (fun _ _ z => z)
def sp_found_later (K : PySem.W.Frag) (cs : Cs) (tb : Tb) : Sp := fun vs H Q E => ∃ v0 v1 v2 v3 v4 v5, vs = [v0, v1, v2, v3, v4, v5] ∧ sp_check_run K cs tb [v0, v1, v2, v3] H (fun _ H1 => spChk K (fun d _ => d) cs.D [v0, v4] H1 (fun _ _ => False) E) E
theorem no_found_later {f : Addr} {fd : FuncData} (F : FnP K "found_later" s_found_later f fd) (c : Ch2 P w K mg base cs tb) : FnOk P w K mg base (L2.CX P w) 11 f fd ["house", "way", "life", "coins", "drawer", "page"] (sp_found_later K cs tb) := by
  refine F.ok (CX := L2.CX P w) sc_found_later (fun vs H Q E h => ?_) (fun cdv A outer s H vs Q E hr h => ?_)
  · obtain ⟨v0, v1, v2, v3, v4, v5, rfl, _⟩ := h
    rfl
  · obtain ⟨v0, v1, v2, v3, v4, v5, rfl, h⟩ := h
    refine ⟨_, (pss_cons (ps_expr (pe_call c.R.G (hr.mono (by decide)) (by rfl) c.R.m c.R.k c.R.b .nil (passX (E := E) rfl rfl rfl rfl) (pa_cons (pv 0) (pa_cons (pv 1) (pa_cons (pv 2) (pa_cons (pv 3) pa_nil)))))) (pss_cons (ps_expr (pe_call c.D.G (hr.mono (by decide)) (by rfl) c.D.m c.D.k c.D.b .nil (passX (E := E) rfl rfl rfl rfl) (pa_cons (pv 0) (pa_cons (pv 4) pa_nil)))) pss_never)), ?_⟩
    refine ⟨v0, rfl, v1, rfl, v2, rfl, v3, rfl, ?_⟩
    dsimp only [tNil, tCall, List.append_nil]
    refine mono_check_run h (fun _ H1 h1 => ?_)
    refine ⟨v0, rfl, v4, rfl, ?_⟩
    dsimp only [tNil, tCall, List.append_nil]
    exact mono_chk h1 (fun _ _ z => z)
def sp_is_parted (K : PySem.W.Frag) (cs : Cs) (tb : Tb) : Sp := fun vs H Q E => ∃ v0 v1 v2 v3 v4 v5, vs = [v0, v1, v2, v3, v4, v5] ∧ sp_check_run K cs tb [v0, v1, v2, v3] H (fun _ H1 => spChk K (fun d _ => d) cs.D [v0, v4] H1 (fun _ _ => False) E) E
theorem no_is_parted {f : Addr} {fd : FuncData} (F : FnP K "is_parted" s_is_parted f fd) (c : Ch2 P w K mg base cs tb) : FnOk P w K mg base (L2.CX P w) 11 f fd ["house", "way", "life", "coins", "drawer", "is_often"] (sp_is_parted K cs tb) := by
  refine F.ok (CX := L2.CX P w) sc_is_parted (fun vs H Q E h => ?_) (fun cdv A outer s H vs Q E hr h => ?_)
  · obtain ⟨v0, v1, v2, v3, v4, v5, rfl, _⟩ := h
    rfl
  · obtain ⟨v0, v1, v2, v3, v4, v5, rfl, h⟩ := h
    refine ⟨_, (pss_cons (ps_expr (pe_call c.R.G (hr.mono (by decide)) (by rfl) c.R.m c.R.k c.R.b .nil (passX (E := E) rfl rfl rfl rfl) (pa_cons (pv 0) (pa_cons (pv 1) (pa_cons (pv 2) (pa_cons (pv 3) pa_nil)))))) (pss_cons (ps_expr (pe_call c.D.G (hr.mono (by decide)) (by rfl) c.D.m c.D.k c.D.b .nil (passX (E := E) rfl rfl rfl rfl) (pa_cons (pv 0) (pa_cons (pv 4) pa_nil)))) pss_never)), ?_⟩
    refine ⟨v0, rfl, v1, rfl, v2, rfl, v3, rfl, ?_⟩
    dsimp only [tNil, tCall, List.append_nil]
    refine mono_check_run h (fun _ H1 h1 => ?_)
    refine ⟨v0, rfl, v4, rfl, ?_⟩
    dsimp only [tNil, tCall, List.append_nil]
    exact mono_chk h1 (fun _ _ z => z)
def sp_best_guess (K : PySem.W.Frag) (cs : Cs) (tb : Tb) : Sp := fun vs H Q E => ∃ v0 v1 v2 v3 v4 v5, vs = [v0, v1, v2, v3, v4, v5] ∧ sp_check_viewer K cs tb [v0, v1, v2, v4, v5] H (fun _ H1 => spLife K cs.L tb.m tb.s [v0, v3] H1 (fun _ _ => False) E) E
theorem no_best_guess {f : Addr} {fd : FuncData} (F : FnP K "best_guess" s_best_guess f fd) (c : Ch2 P w K mg base cs tb) : FnOk P w K mg base (L2.CX P w) 11 f fd ["house", "way", "one", "other", "drawer", "times"] (sp_best_guess K cs tb) := by
  refine F.ok (CX := L2.CX P w) sc_best_guess (fun vs H Q E h => ?_) (fun cdv A outer s H vs Q E hr h => ?_)
  · obtain ⟨v0, v1, v2, v3, v4, v5, rfl, _⟩ := h
    rfl
  · obtain ⟨v0, v1, v2, v3, v4, v5, rfl, h⟩ := h
    refine ⟨_, (pss_cons (ps_expr (pe_call c.V.G (hr.mono (by decide)) (by rfl) c.V.m c.V.k c.V.b .nil (passX (E := E) rfl rfl rfl rfl) (pa_cons (pv 0) (pa_cons (pv 1) (pa_cons (pv 2) (pa_cons (pv 4) (pa_cons (pv 5) pa_nil))))))) (pss_cons (ps_expr (pe_call c.L.G (hr.mono (by decide)) (by rfl) c.L.m c.L.k c.L.b .nil (passX (E := E) rfl rfl rfl rfl) (pa_cons (pv 0) (pa_cons (pv 3) pa_nil)))) pss_never)), ?_⟩
    refine ⟨v0, rfl, v1, rfl, v2, rfl, v4, rfl, v5, rfl, ?_⟩
    dsimp only [tNil, tCall, List.append_nil]
    refine mono_check_viewer h (fun _ H1 h1 => ?_)
    refine ⟨v0, rfl, v3, rfl, ?_⟩
    dsimp only [tNil, tCall, List.append_nil]
    exact mono_life h1 (fun _ _ z => z)
def sp_least_cells (K : PySem.W.Frag) (cs : Cs) (tb : Tb) : Sp := fun vs H Q E => ∃ v0 v1 v2 v3 v4 v5, vs = [v0, v1, v2, v3, v4, v5] ∧ spCheck K cs.B [v0] H (fun _ H1 => spStory K cs.S tb.m [v0, v1] H1 (fun _ _ => False) E) E
theorem no_least_cells {f : Addr} {fd : FuncData} (F : FnP K "least_cells" s_least_cells f fd) (c : Ch2 P w K mg base cs tb) : FnOk P w K mg base (L2.CX P w) 11 f fd ["house", "story", "drawer", "many", "top", "bottom"] (sp_least_cells K cs tb) := by
  refine F.ok (CX := L2.CX P w) sc_least_cells (fun vs H Q E h => ?_) (fun cdv A outer s H vs Q E hr h => ?_)
  · obtain ⟨v0, v1, v2, v3, v4, v5, rfl, _⟩ := h
    rfl
  · obtain ⟨v0, v1, v2, v3, v4, v5, rfl, h⟩ := h
    refine ⟨_, (pss_cons (ps_expr (pe_call c.H.G (hr.mono (by decide)) (by rfl) c.H.m c.H.k c.H.b .nil (passX (E := E) rfl rfl rfl rfl) (pa_cons (pv 0) pa_nil))) (pss_cons (ps_expr (pe_call c.S.G (hr.mono (by decide)) (by rfl) c.S.m c.S.k c.S.b .nil (passX (E := E) rfl rfl rfl rfl) (pa_cons (pv 0) (pa_cons (pv 1) pa_nil)))) pss_never)), ?_⟩
    refine ⟨v0, rfl, ?_⟩
    dsimp only [tNil, tCall, List.append_nil]
    refine mono_house h (fun _ H1 h1 => ?_)
    refine ⟨v0, rfl, v1, rfl, ?_⟩
    dsimp only [tNil, tCall, List.append_nil]
    exact mono_story h1 (fun _ _ z => z)
end
end K10

set_option maxHeartbeats 4000000
namespace K10
open PySem PySem.Spec PyProof.Rows L2 Hd Evl
/-! ### what a call refuses -/
inductive Er where
  | house (x : Str) | story (i : Option Nat) | life (i : Option Nat) | coins (i : Option Nat) | drawer | page | times
def ixV : Option Nat → V
  | none => .non
  | some i => .int (i : Nat)
def ixW : Option Nat → Str
  | none => "None"
  | some i => toString ((i : Nat) : Int)
def Er.word : Er → Str
  | .house x => x
  | .story i => "story" ++ ixW i
  | .life i => "life" ++ ixW i
  | .coins i => "coins" ++ ixW i
  | .drawer => "drawer"
  | .page => "page"
  | .times => "times"
/-- the field f of the error holds v -/
def Fld (f : Str) (v : V) (d : Option Addr) (H : Hp) : Prop := ∃ dd, d = some dd ∧ H dd = some (.xd [(f, v)])
def smallO (o : Option Nat) : Prop := ∀ i, o = some i → i < 1000
def Er.is (cs : Cs) : Er → Value → Option Addr → Hp → Prop
  | .house x, c, d, H => c = .ref cs.B ∧ Fld "word" (.str x) d H
  | .story i, c, d, H => c = .ref cs.S ∧ Fld "index" (ixV i) d H ∧ smallO i
  | .life i, c, d, H => c = .ref cs.L ∧ Fld "index" (ixV i) d H ∧ smallO i
  | .coins i, c, d, H => c = .ref cs.C ∧ Fld "index" (ixV i) d H ∧ smallO i
  | .drawer, c, _, _ => c = .ref cs.D
  | .page, c, _, _ => c = .ref cs.P
  | .times, c, _, _ => c = .ref cs.T
section
variable {K : PySem.W.Frag} {H : Hp} {cs : Cs} {tb : Tb} {er : Er} {sp sp1 sp2 : Sp} {vs vs1 vs2 : List V}
def Told (K : PySem.W.Frag) (cs : Cs) (sp : Sp) (vs : List V) (H : Hp) (er : Er) : Prop := ∀ (Q : VK) (E : XK), (∀ cls d H', Ks K H H' → er.is cs cls d H' → E cls d H') → sp vs H Q E
def Pass (K : PySem.W.Frag) (sp : Sp) (vs : List V) (H : Hp) : Prop := ∀ (Q : VK) (E : XK), (∀ H', Ks K H H' → Q .non H') → sp vs H Q E
theorem snd_told (p : Pass K sp1 vs1 H) (t : ∀ H', Ks K H H' → Told K cs sp2 vs2 H' er) (Q : VK) (E : XK) (h : ∀ cls d H', Ks K H H' → er.is cs cls d H' → E cls d H') : sp1 vs1 H (fun _ H1 => sp2 vs2 H1 Q E) E :=
  p _ _ fun H1 k1 => t H1 k1 Q E fun cls d H2 k2 i => h cls d H2 (k1.trans k2) i
theorem snd_pass (p : Pass K sp1 vs1 H) (t : ∀ H', Ks K H H' → Pass K sp2 vs2 H') (Q : VK) (E : XK) (h : ∀ H', Ks K H H' → Q .non H') : sp1 vs1 H (fun _ H1 => sp2 vs2 H1 Q E) E :=
  p _ _ fun H1 k1 => t H1 k1 Q E fun H2 k2 => h H2 (k1.trans k2)
/-! #### the checks -/
theorem t_house {v : V} {x : Str} (w : Wr K H v (some x)) : Told K cs (spCheck K cs.B) [v] H (.house x) := fun Q E h =>
  ⟨v, some x, rfl, w, fun z => (by cases z), fun y ey d H' e _ hd => by
    cases ey
    exact h _ _ _ (Ks.ex e) ⟨rfl, d, rfl, hd⟩⟩
theorem p_house {a : Addr} {n k d p c : Nat} (hh : HouseAt H a n k d p c) : Pass K (spCheck K cs.B) [.ref a] H := fun Q E h =>
  ⟨.ref a, none, rfl, hh.wr, fun _ => h H Ks.refl, fun y ey => by cases ey⟩
theorem GoodL.le {l : List (Bool × Nat)} {i j : Nat} (g : GoodL l j) (h : i ≤ j) : GoodL l i := by
  have e : l.take i = (l.take j).take i := by rw [List.take_take, Nat.min_eq_left h]
  refine ⟨List.all_eq_true.mpr fun x hx => ?_, ?_⟩
  · rw [e] at hx
    exact List.all_eq_true.mp g.1 x (List.mem_of_mem_take hx)
  · rw [e, List.map_take]
    exact Nat.le_trans (sum_take _ _) g.2
theorem GoodL.fst {l : List (Bool × Nat)} {i j : Nat} (g : GoodL l j) (h : i < j) {x : Bool × Nat} (hx : l[i]? = some x) : x.1 = true := by
  refine List.all_eq_true.mp g.1 x ?_
  exact List.mem_of_getElem? (i := i) (by rw [List.getElem?_take_of_lt h]; exact hx)
/-- a life at v: good, or wrong at a place -/
structure LifeOf (K : PySem.W.Frag) (H : Hp) (d p : Nat) (tb : Tb) (v : V) (o : Option (List (Bool × Nat))) : Prop where
  v : LifeV K H d p v o
  m : GxR.TabG H tb.m
  s : GxR.TabG H tb.s
theorem p_life {a : Addr} {n k d p c : Nat} {v : V} {l : List (Bool × Nat)} (hh : HouseAt H a n k d p c) (L : LifeOf K H d p tb v (some l)) (g : GoodL l l.length) : Pass K (spLife K cs.L tb.m tb.s) [.ref a, v] H := fun Q E h =>
  ⟨a, n, k, d, p, c, v, some l, rfl, hh, L.v, L.m, L.s, fun z => (by cases z), fun l' el => by
    cases el
    refine ⟨fun _ => h, fun i _ b hi => ?_⟩
    obtain ⟨x, hx⟩ : ∃ x, l[i]? = some x := ⟨l[i], List.getElem?_eq_getElem hi⟩
    rcases b x hx with z | z
    · rw [g.fst hi hx] at z
      cases z
    · exact (z (g.le hi)).elim⟩
theorem t_life {a : Addr} {n k d p c : Nat} {v : V} (hh : HouseAt H a n k d p c) (L : LifeOf K H d p tb v none) : Told K cs (spLife K cs.L tb.m tb.s) [.ref a, v] H (.life none) := fun Q E h =>
  ⟨a, n, k, d, p, c, v, none, rfl, hh, L.v, L.m, L.s, fun _ dd H' k' _ hd => h _ _ _ k' ⟨rfl, ⟨dd, rfl, hd⟩, fun i z => by cases z⟩, fun l' el => by cases el⟩
theorem t_lifeAt {a : Addr} {n k d p c i : Nat} {v : V} {l : List (Bool × Nat)} (hh : HouseAt H a n k d p c) (L : LifeOf K H d p tb v (some l)) (g : GoodL l i) {m : Nat} (b : l[i]? = some (false, m)) (si : i < 1000) : Told K cs (spLife K cs.L tb.m tb.s) [.ref a, v] H (.life (some i)) := fun Q E h =>
  ⟨a, n, k, d, p, c, v, some l, rfl, hh, L.v, L.m, L.s, fun z => (by cases z), fun l' el => by
    cases el
    have hi : i < l.length := (List.getElem?_eq_some_iff.mp b).1
    refine ⟨fun g2 => ?_, fun j gj bj hj dd H' k' _ hd => ?_⟩
    · have := g2.fst hi b
      cases this
    · have e : j = i := by
        rcases Nat.lt_trichotomy j i with z | z | z
        · obtain ⟨x, hx⟩ : ∃ x, l[j]? = some x := ⟨l[j], List.getElem?_eq_getElem hj⟩
          rcases bj x hx with y | y
          · rw [g.fst z hx] at y
            cases y
          · exact (y (g.le z)).elim
        · exact z
        · have := gj.fst z b
          cases this
      rw [e] at hd
      exact h _ _ _ k' ⟨rfl, ⟨dd, rfl, hd⟩, fun q eq => by cases eq; exact si⟩⟩
theorem t_way {v : V} {s : String} (k : KindV K H v s) (b : wayOk v = false) : Told K cs (spWay K cs.B) [v] H (.house "way") := fun Q E h =>
  ⟨v, s, rfl, k, fun z => (by rw [b] at z; cases z), fun _ d H' e _ hd => h _ _ _ (Ks.ex e) ⟨rfl, d, rfl, hd⟩⟩
theorem p_way {x : Str} (b : wayOk (.str x) = true) : Pass K (spWay K cs.B) [.str x] H := fun Q E h =>
  ⟨.str x, "str", rfl, .str x, fun _ => h H Ks.refl, fun z => by rw [b] at z; cases z⟩
theorem t_chk {top : Nat → Nat → Nat} {C : Addr} {er : Er} {a : Addr} {n k d p c : Nat} {v : V} {s : String} (hh : HouseAt H a n k d p c) (kv : KindV K H v s) (b : isNum v 0 ((top d p : Nat) - 1) = false) (e : ∀ d H', er.is cs (.ref C) d H') : Told K cs (spChk K top C) [.ref a, v] H er := fun Q E h =>
  ⟨a, n, k, d, p, c, v, s, rfl, hh, kv, fun z => (by rw [b] at z; cases z), fun _ => h _ _ _ Ks.refl (e _ _)⟩
theorem p_chk {top : Nat → Nat → Nat} {C : Addr} {a : Addr} {n k d p c : Nat} {v : V} {s : String} (hh : HouseAt H a n k d p c) (kv : KindV K H v s) (b : isNum v 0 ((top d p : Nat) - 1) = true) : Pass K (spChk K top C) [.ref a, v] H := fun Q E h =>
  ⟨a, n, k, d, p, c, v, s, rfl, hh, kv, fun _ => h H Ks.refl, fun z => by rw [b] at z; cases z⟩
/-- the moments of a life at l -/
structure SessOf (H : Hp) (tb : Tb) (l : Addr) (m : Nat) : Prop where
  go : ∃ ss ls, H l = some (.tup ss) ∧ Paired (SessL H) ss ls ∧ ls.sum = m ∧ m ≤ 1000
  n : GxR.TabG H tb.n
theorem t_coins {a l : Addr} {n k d p c m i : Nat} {v : V} {bs : List Bool} (hh : HouseAt H a n k d p c) (S : SessOf H tb l m) (cv : CoinsV K H (nck n k) m v (some bs)) (g : (bs.take i).all id = true) (b : bs[i]? = some false) (si : i < 1000) : Told K cs (spCoins K cs.C tb.n) [.ref a, .ref l, v] H (.coins (some i)) := fun Q E h => by
  obtain ⟨ss, ls, h1, h2, h3, h4⟩ := S.go
  subst h3
  refine ⟨a, n, k, d, p, c, l, ss, ls, v, some bs, rfl, hh, h1, h2, Nat.le_trans h4 (by decide), cv, S.n, fun z => (by cases z), fun bs' el => ?_⟩
  cases el
  have hi : i < bs.length := (List.getElem?_eq_some_iff.mp b).1
  refine ⟨fun al => ?_, fun j bj gj dd H' k' _ hd => ?_⟩
  · have := List.all_eq_true.mp al false (List.mem_of_getElem? b)
    cases this
  · have e : j = i := by
      rcases Nat.lt_trichotomy j i with z | z | z
      · have := List.all_eq_true.mp g false (List.mem_of_getElem? (i := j) (by rw [List.getElem?_take_of_lt z]; exact bj))
        cases this
      · exact z
      · have := List.all_eq_true.mp gj false (List.mem_of_getElem? (i := i) (by rw [List.getElem?_take_of_lt z]; exact b))
        cases this
    rw [e] at hd
    exact h _ _ _ k' ⟨rfl, ⟨dd, rfl, hd⟩, fun q eq => by cases eq; exact si⟩
theorem p_coins {a l : Addr} {n k d p c m : Nat} {v : V} {bs : List Bool} (hh : HouseAt H a n k d p c) (S : SessOf H tb l m) (cv : CoinsV K H (nck n k) m v (some bs)) (g : bs.all id = true) : Pass K (spCoins K cs.C tb.n) [.ref a, .ref l, v] H := fun Q E h => by
  obtain ⟨ss, ls, h1, h2, h3, h4⟩ := S.go
  subst h3
  refine ⟨a, n, k, d, p, c, l, ss, ls, v, some bs, rfl, hh, h1, h2, Nat.le_trans h4 (by decide), cv, S.n, fun z => (by cases z), fun bs' el => ?_⟩
  cases el
  refine ⟨fun _ H2 k2 _ => h H2 k2, fun j bj _ => ?_⟩
  have := List.all_eq_true.mp g false (List.mem_of_getElem? bj)
  cases this
theorem t_times {l : Addr} {m : Nat} {v : V} (S : SessOf H tb l m) (tv : TimesV K H m v false) : Told K cs (spTimes K cs.T tb.n) [.ref l, v] H .times := fun Q E h => by
  obtain ⟨ss, ls, h1, h2, h3, h4⟩ := S.go
  subst h3
  exact ⟨l, ss, ls, v, false, rfl, h1, h2, Nat.le_trans h4 (by decide), tv, S.n, fun z => (by cases z), fun _ H' k' => h _ _ _ k' rfl⟩
theorem p_times {l : Addr} {m : Nat} {v : V} (S : SessOf H tb l m) (tv : TimesV K H m v true) : Pass K (spTimes K cs.T tb.n) [.ref l, v] H := fun Q E h => by
  obtain ⟨ss, ls, h1, h2, h3, h4⟩ := S.go
  subst h3
  exact ⟨l, ss, ls, v, true, rfl, h1, h2, Nat.le_trans h4 (by decide), tv, S.n, fun _ H' k' => h H' k', fun z => by cases z⟩
theorem t_story {a : Addr} {n k d p c : Nat} {v : V} (hh : HouseAt H a n k d p c) (sv : StoryV K H d p v none) (tg : GxR.TabG H tb.m) : Told K cs (spStory K cs.S tb.m) [.ref a, v] H (.story none) := fun Q E h =>
  ⟨a, n, k, d, p, c, v, none, rfl, hh, sv, tg, fun _ dd H' k' _ hd => h _ _ _ k' ⟨rfl, ⟨dd, rfl, hd⟩, fun i z => by cases z⟩, fun l' el => by cases el⟩
theorem t_storyAt {a : Addr} {n k d p c i : Nat} {v : V} {bs : List Bool} (hh : HouseAt H a n k d p c) (sv : StoryV K H d p v (some bs)) (tg : GxR.TabG H tb.m) (g : (bs.take i).all id = true) (b : bs[i]? = some false) (si : i < 1000) : Told K cs (spStory K cs.S tb.m) [.ref a, v] H (.story (some i)) := fun Q E h => by
  refine ⟨a, n, k, d, p, c, v, some bs, rfl, hh, sv, tg, fun z => (by cases z), fun bs' el => ?_⟩
  cases el
  refine ⟨fun al => ?_, fun j bj gj dd H' k' _ hd => ?_⟩
  · have := List.all_eq_true.mp al false (List.mem_of_getElem? b)
    cases this
  · have e : j = i := by
      rcases Nat.lt_trichotomy j i with z | z | z
      · have := List.all_eq_true.mp g false (List.mem_of_getElem? (i := j) (by rw [List.getElem?_take_of_lt z]; exact bj))
        cases this
      · exact z
      · have := List.all_eq_true.mp gj false (List.mem_of_getElem? (i := i) (by rw [List.getElem?_take_of_lt z]; exact b))
        cases this
    rw [e] at hd
    exact h _ _ _ k' ⟨rfl, ⟨dd, rfl, hd⟩, fun q eq => by cases eq; exact si⟩
theorem p_story {a : Addr} {n k d p c : Nat} {v : V} {bs : List Bool} (hh : HouseAt H a n k d p c) (sv : StoryV K H d p v (some bs)) (tg : GxR.TabG H tb.m) (g : bs.all id = true) : Pass K (spStory K cs.S tb.m) [.ref a, v] H := fun Q E h => by
  refine ⟨a, n, k, d, p, c, v, some bs, rfl, hh, sv, tg, fun z => (by cases z), fun bs' el => ?_⟩
  cases el
  refine ⟨fun _ H2 k2 _ => h H2 k2, fun j bj _ => ?_⟩
  have := List.all_eq_true.mp g false (List.mem_of_getElem? bj)
  cases this
end
/-! ### the law's word for an error -/
section
variable {X : Cx}
theorem log_small {i : Nat} (h : i < 1000) : ((i : Nat) : Int).natAbs.log2 < 1920 := by
  rw [Int.natAbs_natCast]
  by_cases e : i = 0
  · rw [e]
    decide
  · exact (Nat.log2_lt e).mpr (Nat.lt_of_lt_of_le h (by decide +kernel))
theorem call_str_ix : CallR X (.type "str") (fun xs H Q => ∃ o, xs = [ixV o] ∧ smallO o ∧ Q (.str (ixW o)) H) := by
  intro pins s σ H xs us Q I r h
  obtain ⟨o, rfl, hz, q⟩ := h
  cases o with
  | none =>
    obtain ⟨u, rfl, rr⟩ := vals1 r
    cases rr
    exact PySem.P.str_of_none ⟨.str _, H, I.tok _, ⟨_, rfl⟩, q⟩
  | some i =>
    obtain ⟨u, rfl, t, rfl⟩ := vals1 r
    exact PySem.P.str_of_int (log_small (hz i rfl)) ⟨.str _, H, I.tok _, ⟨_, rfl⟩, q⟩
end
end K10

set_option maxHeartbeats 4000000
namespace K10
open PySem PySem.Spec PyProof.Rows L2 Hd Evl
def Cs.at (cs : Cs) : Nat → Addr
  | 0 => cs.B
  | 1 => cs.S
  | 2 => cs.L
  | 3 => cs.C
  | 4 => cs.D
  | 5 => cs.P
  | 6 => cs.T
  | _ => cs.N
/-- the word of what the lambda raises, or none -/
def TWord (cs : Cs) : (XK → Hp → VK → Prop) → Hp → VK → Prop := fun tl H Q =>
  tl (fun cls d H' => ∃ er : Er, er.is cs cls d H' ∧ er.word.length ≤ 100 ∧ Q (.str er.word) H') H (fun _ H' => Q (.str "none") H')
structure WordF (K : PySem.W.Frag) (mg : Str → Option Value) (cs : Cs) : Prop where
  str : mg "str" = none
  gB : mg "BadHouse" = some (.ref cs.B)
  gS : mg "BadStory" = some (.ref cs.S)
  gL : mg "BadLife" = some (.ref cs.L)
  gC : mg "BadCoins" = some (.ref cs.C)
  gD : mg "BadDrawer" = some (.ref cs.D)
  gP : mg "BadPage" = some (.ref cs.P)
  gT : mg "BadTimes" = some (.ref cs.T)
  gN : mg "BadNumber" = some (.ref cs.N)
  gZ : mg "DrawerError" = some (.ref cs.Z)
  XB : XfC K cs.B
  XS : XfC K cs.S
  XL : XfC K cs.L
  XC : XfC K cs.C
  nB : PySem.W.findIn K (.ref cs.B) "word" = some none
  nS : PySem.W.findIn K (.ref cs.S) "index" = some none
  nL : PySem.W.findIn K (.ref cs.L) "index" = some none
  nC : PySem.W.findIn K (.ref cs.C) "index" = some none
  x : ∀ i j, i < 7 → j ≤ i → PySem.W.exmOne K (.ref (cs.at i)) (.ref (cs.at j)) = some (i == j)
section
variable {P : Program} {w : World} {K : PySem.W.Frag} {mg : Str → Option Value} {base : Heap} {cs : Cs}
theorem takes_len {X : Cx} {W : WX} (t : Takes X W) : Takes X (fun c d σ H => σ.length = X.N.length → W c d σ H) := fun u s' ⟨a, B, sI, pins, σ, H, cls, d, e, I, nb, up, sky, na, os, ag, w⟩ =>
  t u s' ⟨a, B, sI, pins, σ, H, cls, d, e, I, nb, up, sky, na, os, ag, w I.len⟩
theorem cat_len {x : Str} {o : Option Nat} (h : (x ++ ixW o).length ≤ 100) : x.length + (ixW o).length ≤ sizeLine := by
  have e : (x ++ ixW o).length = x.length + (ixW o).length := Str.length_append ..
  rw [e] at h
  exact Nat.le_trans h (by decide)
theorem word_gives {X : Cx} {q : Str} {g : Addr} {cdg : Value} (W : WordF X.K X.mg cs) :
    LamX.GivesTo X n__law_word "_law_word" (defScope s__law_word) g cdg (defBody s__law_word) "work" q (TWord cs) := by
  intro f c' s H Q tl act hc h
  let X0 : Cx := (cxOf C8.CX0 X.prog X.w X.K X.mg X.base n__law_word "_law_word" (defScope s__law_word) g cdg X.A X.stack s H C8.E0).nox
  refine ⟨_, pss_cons (ps_tries (X := X0)
      (tb := fun W D σ H => ∃ Ech : XK, (∀ cls d σ' H', Ech cls d H' → σ'.length = 2 → W cls d σ' H') ∧ σ[0]? = some (some (.ref f)) ∧ H c' = some (LamX.CodeO c' q) ∧ tl Ech H (fun _ H1 => D.nx σ H1))
      rfl rfl LamX.takes0 (fun W pn xe tk _ => ⟨fun pins s' σ H' D I h' => ?_⟩)
      (Clauses.as_ (i := 1) sc__law_word.nd rfl rfl ⟨by rfl, by decide, .inl W.gB⟩ (fun a oe k d pn z hf => pss_one (ps_ret (pe_xf W.XB W.nB z hf (pv 1))))
      (Clauses.as_ (i := 1) sc__law_word.nd rfl rfl ⟨by rfl, by decide, .inl W.gS⟩ (fun a oe k d pn z hf => pss_one (ps_ret (pe_op op_add_str pe_str (pe_callTy call_str_ix (by rfl) W.str (by decide +kernel) (pa_cons (pe_xf W.XS W.nS z hf (pv 1)) pa_nil)))))
      (Clauses.as_ (i := 1) sc__law_word.nd rfl rfl ⟨by rfl, by decide, .inl W.gL⟩ (fun a oe k d pn z hf => pss_one (ps_ret (pe_op op_add_str pe_str (pe_callTy call_str_ix (by rfl) W.str (by decide +kernel) (pa_cons (pe_xf W.XL W.nL z hf (pv 1)) pa_nil)))))
      (Clauses.as_ (i := 1) sc__law_word.nd rfl rfl ⟨by rfl, by decide, .inl W.gC⟩ (fun a oe k d pn z hf => pss_one (ps_ret (pe_op op_add_str pe_str (pe_callTy call_str_ix (by rfl) W.str (by decide +kernel) (pa_cons (pe_xf W.XC W.nC z hf (pv 1)) pa_nil)))))
      (Clauses.bare ⟨by rfl, by decide, .inl W.gD⟩ (fun a oe k d pn z _ => pss_one (ps_ret pe_str))
      (Clauses.bare ⟨by rfl, by decide, .inl W.gP⟩ (fun a oe k d pn z _ => pss_one (ps_ret pe_str))
      (Clauses.bare ⟨by rfl, by decide, .inl W.gT⟩ (fun a oe k d pn z _ => pss_one (ps_ret pe_str))
      (Clauses.bare ⟨by rfl, by decide, .inl W.gN⟩ (fun a oe k d pn z _ => pss_one (ps_ret pe_str))
      (Clauses.bare ⟨by rfl, by decide, .inl W.gZ⟩ (fun a oe k d pn z _ => pss_one (ps_ret pe_str)) .nil))))))))))
    (pss_one (ps_ret pe_str)), ?_⟩
  · obtain ⟨Ech, hW, h1, h2, h3⟩ := h'
    have hp := fun p1 p2 => act (fun c d σ H => σ.length = 2 → W c d σ H) pn xe Ech p1 p2 (takes_len tk) hW
    exact (pss_one (ps_expr (hp _ _))).run pins s' σ H' D I ⟨h1, h2, h3⟩
  · refine ⟨fun cls d H' => ∃ er : Er, er.is cs cls d H' ∧ er.word.length ≤ 100 ∧ Q (.str er.word) H', ?_, rfl, hc, h⟩
    intro cls d σ' H' hE hl
    have no : ∀ i j, i < 7 → j < i → PySem.W.exmOne X.K (.ref (cs.at i)) (.ref (cs.at j)) = some false := fun i j h1 h2 => by
      rw [W.x i j h1 (Nat.le_of_lt h2)]
      congr 1
      exact beq_eq_false_iff_ne.mpr (Nat.ne_of_gt h2)
    have yes : ∀ i, i < 7 → PySem.W.exmOne X.K (.ref (cs.at i)) (.ref (cs.at i)) = some true := fun i h1 => by
      rw [W.x i i h1 (Nat.le_refl _), beq_self_eq_true]
    match σ', hl with
    | [y1, y2], _ =>
      obtain ⟨er, hi, lw, hq⟩ := hE
      cases er with
      | house x =>
        obtain ⟨rfl, dd, rfl, hx⟩ := hi
        exact ⟨true, yes 0 (by decide), fun _ a _ => ⟨.ref a, rfl, rfl, rfl, dd, _, .str x, rfl, hx, rfl, hq⟩, fun z => by cases z⟩
      | story o =>
        obtain ⟨rfl, ⟨dd, rfl, hx⟩, so⟩ := hi
        exact ⟨false, no 1 0 (by decide) (by decide), fun z => (by cases z), fun _ => ⟨true, yes 1 (by decide), fun _ a _ => ⟨.ref a, rfl, rfl, rfl, dd, _, ixV o, rfl, hx, rfl, o, rfl, so, _, _, rfl, rfl, cat_len lw, hq⟩, fun z => by cases z⟩⟩
      | life o =>
        obtain ⟨rfl, ⟨dd, rfl, hx⟩, so⟩ := hi
        exact ⟨false, no 2 0 (by decide) (by decide), fun z => (by cases z), fun _ => ⟨false, no 2 1 (by decide) (by decide), fun z => (by cases z), fun _ => ⟨true, yes 2 (by decide), fun _ a _ => ⟨.ref a, rfl, rfl, rfl, dd, _, ixV o, rfl, hx, rfl, o, rfl, so, _, _, rfl, rfl, cat_len lw, hq⟩, fun z => by cases z⟩⟩⟩
      | coins o =>
        obtain ⟨rfl, ⟨dd, rfl, hx⟩, so⟩ := hi
        exact ⟨false, no 3 0 (by decide) (by decide), fun z => (by cases z), fun _ => ⟨false, no 3 1 (by decide) (by decide), fun z => (by cases z), fun _ => ⟨false, no 3 2 (by decide) (by decide), fun z => (by cases z), fun _ => ⟨true, yes 3 (by decide), fun _ a _ => ⟨.ref a, rfl, rfl, rfl, dd, _, ixV o, rfl, hx, rfl, o, rfl, so, _, _, rfl, rfl, cat_len lw, hq⟩, fun z => by cases z⟩⟩⟩⟩
      | drawer =>
        obtain rfl := hi
        exact ⟨false, no 4 0 (by decide) (by decide), fun z => (by cases z), fun _ => ⟨false, no 4 1 (by decide) (by decide), fun z => (by cases z), fun _ => ⟨false, no 4 2 (by decide) (by decide), fun z => (by cases z), fun _ => ⟨false, no 4 3 (by decide) (by decide), fun z => (by cases z), fun _ => ⟨true, yes 4 (by decide), fun _ a _ => hq, fun z => by cases z⟩⟩⟩⟩⟩
      | page =>
        obtain rfl := hi
        exact ⟨false, no 5 0 (by decide) (by decide), fun z => (by cases z), fun _ => ⟨false, no 5 1 (by decide) (by decide), fun z => (by cases z), fun _ => ⟨false, no 5 2 (by decide) (by decide), fun z => (by cases z), fun _ => ⟨false, no 5 3 (by decide) (by decide), fun z => (by cases z), fun _ => ⟨false, no 5 4 (by decide) (by decide), fun z => (by cases z), fun _ => ⟨true, yes 5 (by decide), fun _ a _ => hq, fun z => by cases z⟩⟩⟩⟩⟩⟩
      | times =>
        obtain rfl := hi
        exact ⟨false, no 6 0 (by decide) (by decide), fun z => (by cases z), fun _ => ⟨false, no 6 1 (by decide) (by decide), fun z => (by cases z), fun _ => ⟨false, no 6 2 (by decide) (by decide), fun z => (by cases z), fun _ => ⟨false, no 6 3 (by decide) (by decide), fun z => (by cases z), fun _ => ⟨false, no 6 4 (by decide) (by decide), fun z => (by cases z), fun _ => ⟨false, no 6 5 (by decide) (by decide), fun z => (by cases z), fun _ => ⟨true, yes 6 (by decide), fun _ a _ => hq, fun z => by cases z⟩⟩⟩⟩⟩⟩⟩
end
end K10

set_option maxHeartbeats 4000000
namespace K10
open PySem PySem.Spec PyProof.Rows L2 Hd Evl
/-! ### the law's tools -/
/-- the tables that a call may change: the program's, the caller's own -/
def S1 (K : PySem.W.Frag) (P : Addr) : Addr → Prop := fun b => Sk K b ∨ b = P
section
variable {S : Addr → Prop} {K : PySem.W.Frag} {P : Addr} {q : Str} {H H' H1 : Hp}
theorem tabS_kl (n : ¬ S P) (T : LamX.TabS H P q) (k : Kl S H H') : LamX.TabS H' P q := by
  obtain ⟨ps, h1, h2, h3⟩ := T
  exact ⟨ps, k.s _ _ n h1, h2, fun pos cv hc => let ⟨c, e1, e2⟩ := h3 pos cv hc; ⟨c, e1, k.e _ _ e2 LamX.codeO_ne⟩⟩
theorem tabG_of (T : LamX.TabS H P q) : GxR.TabG H P := let ⟨ps, h1, h2, _⟩ := T; ⟨ps, h1, h2⟩
theorem off_kl (T : LamX.TabS H P q) (T1 : LamX.TabS H1 P q) (o : OffP P H H1) : Kl (S1 K P) H H1 := by
  obtain ⟨ps, hP, _, _⟩ := id T
  refine ⟨fun b o' h n => o b o' (fun e => by rw [e, hP] at h; exact n ps (Option.some.inj h).symm) h, fun b o' n h => o b o' (fun e => n (.inr e)) h, fun P' h => ?_⟩
  by_cases e : P' = P
  · rw [e]
    exact tabG_of T1
  · obtain ⟨qs, h1, h2⟩ := h
    exact ⟨qs, o _ _ e h1, h2⟩
theorem tabS_put {D : Addr} {xs ys : List V} (T : LamX.TabS H P q) (hD : H D = some (.lst xs)) : LamX.TabS (upd H D (.lst ys)) P q := by
  obtain ⟨ps, h1, h2, h3⟩ := T
  refine ⟨ps, ?_, h2, fun pos cv hc => ?_⟩
  · rw [upd_ne (fun e => by rw [e, hD] at h1; cases h1)]
    exact h1
  · obtain ⟨c, e1, e2⟩ := h3 pos cv hc
    refine ⟨c, e1, ?_⟩
    rw [upd_ne (fun e => by rw [e, hD] at e2; unfold LamX.CodeO at e2; cases e2)]
    exact e2
theorem ks_s1 (k : Ks K H H') : Kl (S1 K P) H H' := k.mono fun _ h => .inl h
/-- tuples stay, lists and tables are lists and tables -/
structure Kv (H H' : Hp) : Prop where
  w : Kw H H'
  g : ∀ P, GxR.TabG H P → GxR.TabG H' P
theorem Kl.v (k : Kl S H H') : Kv H H' := ⟨k.w, k.g⟩
theorem Kv.refl : Kv H H := ⟨Kw.refl, fun _ h => h⟩
theorem Kv.trans (a : Kv H H') (b : Kv H' H1) : Kv H H1 := ⟨a.w.trans b.w, fun P h => b.g P (a.g P h)⟩
theorem Kv.ex (e : Ex H H1) : Kv H H1 := ⟨Kw.ex e, fun _ h => tab_ex h e⟩
theorem Kv.put {D : Addr} {xs ys : List V} (h : H D = some (.lst xs)) : Kv H (upd H D (.lst ys)) := ⟨Kw.put h, fun P ⟨qs, h1, h2⟩ => ⟨qs, by
  rw [upd_ne (fun e => by rw [e, h] at h1; cases h1)]
  exact h1, h2⟩⟩
end
/-- the def that tells the word of an error -/
structure WordD (K : PySem.W.Frag) (mg : Str → Option Value) (cs : Cs) : Type where
  f : Addr
  fd : FuncData
  F : FnP K "_law_word" s__law_word f fd
  m : mg "_law_word" = some (.ref f)
  b : Binds K fd ["work"] []
  w : WordF K mg cs
section
variable {cs : Cs}
theorem pe_word {X : Cx} {c Pa : Addr} {k : Nat} {params : Arguments} {body : Expr} {scope : Scope} {t : XK → TE} {p lpos pos : Pos} (W : WordD X.K X.mg cs) (q : Str) (TB : LamX.TabB X.base X.mg c Pa) (hq : lamQ X = q) (hcode : X.env.code = .ref c) (hg : Gl X "_law_word") (hr : Room (k + 2) X.A) (L : LamX.LamS X.env.scope scope)
    (hbody : ∀ (A : Around) (outer : List Env) (s : Shared) (H : Hp) (E : XK) (f c' : Addr), Room k (A.deeper (LamX.lamEnv X scope s.heap.objs.size f c')) → PE (LamX.lamCx X A outer s H E scope f c') body (t E))
    (hdef : defaultsOf params X.env = ([], [])) (hbind : ∀ (q : Str) (cl : List (Str × Addr)) (pm cv ctv : Value), bindArgs (PySem.W.kla_fn "<lambda>" q params body scope cl pm cv ctv) ⟨[], []⟩ = pure []) :
    PE X (.Call (.Name "_law_word" p) [.Lambda params body scope lpos] [] pos) (tLamP Pa q (TWord cs) t) := by
  subst hq
  obtain ⟨oc, od, dV, kV, doc, pm, an, cdv, ct, osl, e, lk, hcd, _, _⟩ := W.F.ex
  have lk' := lk
  rw [e] at lk'
  have hb := W.b
  rw [e] at hb
  exact pe_lamP hg W.m W.F.kp lk' hcd hb sc__law_word rfl (Or.inl rfl) (word_gives W.w) TB hcode hr L hdef hbind hbody
end
section
variable {K : PySem.W.Frag} {P : Addr} {q : Str} {H H' H1 : Hp} {cs : Cs} {er : Er} {σ : L2.St}
theorem word_go {t : XK → TE} {Q : VK} (T : LamX.TabS H P q) (len : er.word.length ≤ 100)
    (h : ∀ H1 (Qn : VK) (E : XK), Kl (S1 K P) H H1 → LamX.TabS H1 P q → (∀ cls d H3, Kl (S1 K P) H H3 → LamX.TabS H3 P q → er.is cs cls d H3 → E cls d H3) → t E σ H1 Qn)
    (hq : ∀ H3, Kl (S1 K P) H H3 → LamX.TabS H3 P q → Q (.str er.word) H3) : tLamP P q (TWord cs) t σ H Q :=
  ⟨T, fun H1 o T1 => h H1 _ _ (off_kl T T1 o) T1 fun cls d H3 k3 T3 i => ⟨er, i, len, hq H3 k3 T3⟩⟩
theorem word_fin {E : XK} {H2 : Hp} (nS : ¬ Sk K P) (hE : ∀ cls d H3, Kl (S1 K P) H H3 → LamX.TabS H3 P q → er.is cs cls d H3 → E cls d H3) (k1 : Kl (S1 K P) H H1) (T1 : LamX.TabS H1 P q) (e : Ex H1 H2) (cls : Value) (d : Option Addr) (H3 : Hp) (k3 : Ks K H2 H3) (i : er.is cs cls d H3) : E cls d H3 :=
  hE cls d H3 ((k1.trans (Kl.ex e)).trans (ks_s1 k3)) (tabS_kl nS (T1.ext e) k3) i
/-- the words of some defs, one behind another -/
theorem lc_words {fs : List (Addr × Sp)} {targs : TA} {i : Nat} {H0 : Hp} {l D : Addr} {vsn : List Nat} {Qd : Hp → Prop} (F : Hp → Prop) (pins : List (Addr × List V))
    (nD : H0 D = none) (hl : H0 l = some (.lst (fs.map fun p => .ref p.1))) (T : LamX.TabS H0 P q) (nS : ¬ Sk K P) (len : er.word.length ≤ 100) (lf : fs.length ≤ 100) (hF : F H0) (hp : ∀ p ∈ pins, H0 p.1 = some (.lst p.2))
    (kv : ∀ G G', F G → Kv G G' → F G') (wip : wipe ((wipe σ vsn).set i none) vsn = wipe σ vsn) (wip2 : ∀ v, wipe ((wipe σ vsn).set i (some v)) vsn = wipe σ vsn) (sel : ∀ v, ((wipe σ vsn).set i (some v))[i]? = some (some v))
    (step : ∀ p ∈ fs, ∀ G (Q : VK) (E : XK) , F G → (∀ cls d H2 H3, Ex G H2 → Ks K H2 H3 → er.is cs cls d H3 → E cls d H3) → targs ((wipe σ vsn).set i (some (.ref p.1))) G (fun vs G1 => p.2 vs G1 Q E))
    (hd : ∀ G, F G → LamX.TabS G P q → Kl (S1 K P) H0 G → G D = some (.lst (List.replicate fs.length (.str er.word))) → (∀ p ∈ pins, G p.1 = some (.lst p.2)) → Qd G) :
    ∃ W : Nat → Nat → Hp → Prop, (∃ m, W 0 m (upd H0 D (.lst []))) ∧ ∀ i' m H, W i' m H →
      ((Itl K l).stop i' H ∧ Qd H) ∨ ((Itl K l).go i' H ∧ ∃ Nx : Hp → Prop, (∀ H', Nx H' → ∃ m', m' < m ∧ W (i' + 1) m' H') ∧ ∀ x H', (Itl K l).yld i' H x H' → gName i x (wipe σ vsn) H' fun σ2 H2 => wipe σ2 vsn = wipe σ vsn ∧ tYes σ2 H2 fun b H3 =>
        if b = true then tLamP P q (TWord cs) (fun E => tCallAny i fs E targs) σ2 H3 fun y H4 => ∃ acc, H4 D = some (.lst acc) ∧ acc.length < sizeLine ∧ Nx (upd H4 D (.lst (acc ++ [y]))) else Nx H3) := by
  have e0 : Ex H0 (upd H0 D (.lst [])) := Ex.new nD
  have far : ∀ (b : Addr) (o : HO), H0 b = some o → b ≠ D := fun b o h e => by rw [e, nD] at h; cases h
  refine lc_list (xs := fs.map fun p => .ref p.1) (fun j G => G D = some (.lst (List.replicate j (.str er.word))) ∧ F G ∧ LamX.TabS G P q ∧ (∀ b o, b ≠ D → (∀ ps, o ≠ .tbl ps) → H0 b = some o → G b = some o) ∧ (∀ b o, b ≠ D → ¬ S1 K P b → H0 b = some o → G b = some o) ∧ (∀ P', GxR.TabG H0 P' → GxR.TabG G P')) ?_ (fun j G _ w => ?_) (fun j x G hx w => ?_) (fun G w => ?_)
  · exact ⟨upd_same, kv _ _ hF (Kv.ex e0), T.ext e0, fun b o n _ h => e0 _ _ h, fun b o n _ h => e0 _ _ h, fun P' h => tab_ex h e0⟩
  · exact SqL.of (w.2.2.2.1 l _ (far _ _ hl) (fun ps z => by cases z) hl)
  · obtain ⟨gD, fG, tG, e1, s1, g1⟩ := w
    rw [List.getElem?_map] at hx
    obtain ⟨p, hp1, rfl⟩ := Option.map_eq_some_iff.mp hx
    have hm := List.mem_of_getElem? hp1
    have jl : j < fs.length := (List.getElem?_eq_some_iff.mp hp1).1
    refine ⟨wip2 _, yes_go ?_⟩
    refine word_go (K := K) (er := er) tG len (fun H1 Qn E k1 T1 hE => ⟨p, hm, sel _, ?_⟩) fun H3 k3 T3 => ?_
    · exact step p hm H1 Qn E (kv _ _ fG k1.v) fun cls d H2 H3 e k i => word_fin nS hE k1 T1 e cls d H3 k i
    · have g3 : H3 D = some (.lst (List.replicate j (.str er.word))) := k3.l _ _ gD
      refine ⟨_, g3, by rw [List.length_replicate]; exact Nat.lt_of_lt_of_le (Nat.lt_of_lt_of_le jl lf) (by decide), ?_, kv _ _ (kv _ _ fG k3.v) (Kv.put g3), tabS_put T3 g3, fun b o n nt h => ?_, fun b o n nt h => ?_, fun P' h => (Kv.put g3).g _ (k3.g _ (g1 P' h))⟩
      · rw [upd_same, ← List.replicate_succ'] <;> rfl
      · rw [upd_ne n]
        exact k3.e _ _ (e1 b o n nt h) nt
      · rw [upd_ne n]
        exact k3.s _ _ nt (s1 b o n nt h)
  · obtain ⟨gD, fG, tG, e1, s1, g1⟩ := w
    rw [List.length_map] at gD
    exact hd G fG tG ⟨fun b o h n => e1 b o (far _ _ h) n h, fun b o n h => s1 b o (far _ _ h) n h, g1⟩ gD fun p hp1 => e1 _ _ (far _ _ (hp p hp1)) (fun ps z => by cases z) (hp p hp1)
end
end K10

set_option maxHeartbeats 4000000
namespace K10
open PySem PySem.Spec PyProof.Rows L2 Hd Evl
/-- the program's calls -/
structure Al (P : Program) (w : World) (K : PySem.W.Frag) (mg : Str → Option Value) (base : Heap) (cs : Cs) (tb : Tb) : Type where
  f_coin_count : Addr
  d_coin_count : FuncData
  coin_count : Fn P w K mg base (L2.CX P w) 11 "coin_count" ["house"] (sp_coin_count K cs tb) f_coin_count d_coin_count
  f_drawn : Addr
  d_drawn : FuncData
  drawn : Fn P w K mg base (L2.CX P w) 11 "drawn" ["house", "coin"] (sp_drawn K cs tb) f_drawn d_drawn
  f_coin_of : Addr
  d_coin_of : FuncData
  coin_of : Fn P w K mg base (L2.CX P w) 11 "coin_of" ["house", "cells"] (sp_coin_of K cs tb) f_coin_of d_coin_of
  f_is_story : Addr
  d_is_story : FuncData
  is_story : Fn P w K mg base (L2.CX P w) 11 "is_story" ["house", "value"] (sp_is_story K cs tb) f_is_story d_is_story
  f_is_life : Addr
  d_is_life : FuncData
  is_life : Fn P w K mg base (L2.CX P w) 11 "is_life" ["house", "value"] (sp_is_life K cs tb) f_is_life d_is_life
  f_row_count : Addr
  d_row_count : FuncData
  row_count : Fn P w K mg base (L2.CX P w) 11 "row_count" ["house", "life"] (sp_row_count K cs tb) f_row_count d_row_count
  f_written : Addr
  d_written : FuncData
  written : Fn P w K mg base (L2.CX P w) 11 "written" ["house", "life"] (sp_written K cs tb) f_written d_written
  f_upper : Addr
  d_upper : FuncData
  upper : Fn P w K mg base (L2.CX P w) 11 "upper" ["house", "life", "drawer"] (sp_upper K cs tb) f_upper d_upper
  f_lives_on : Addr
  d_lives_on : FuncData
  lives_on : Fn P w K mg base (L2.CX P w) 11 "lives_on" ["house", "copies", "moments"] (sp_lives_on K cs tb) f_lives_on d_lives_on
  f_alike_above : Addr
  d_alike_above : FuncData
  alike_above : Fn P w K mg base (L2.CX P w) 11 "alike_above" ["house", "one", "other", "drawer"] (sp_alike_above K cs tb) f_alike_above d_alike_above
  f_safe_ways : Addr
  d_safe_ways : FuncData
  safe_ways : Fn P w K mg base (L2.CX P w) 11 "safe_ways" ["house", "drawer", "moments", "is_often"] (sp_safe_ways K cs tb) f_safe_ways d_safe_ways
  f_loss_chance : Addr
  d_loss_chance : FuncData
  loss_chance : Fn P w K mg base (L2.CX P w) 11 "loss_chance" ["house", "life", "drawer", "page"] (sp_loss_chance K cs tb) f_loss_chance d_loss_chance
  f_waiting_counts : Addr
  d_waiting_counts : FuncData
  waiting_counts : Fn P w K mg base (L2.CX P w) 11 "waiting_counts" ["house", "way", "story", "drawer"] (sp_waiting_counts K cs tb) f_waiting_counts d_waiting_counts
  f_looks : Addr
  d_looks : FuncData
  looks : Fn P w K mg base (L2.CX P w) 11 "looks" ["house", "way", "life", "coins", "drawer"] (sp_looks K cs tb) f_looks d_looks
  f_waiting : Addr
  d_waiting : FuncData
  waiting : Fn P w K mg base (L2.CX P w) 11 "waiting" ["house", "way", "life", "coins", "drawer"] (sp_waiting K cs tb) f_waiting d_waiting
  f_places : Addr
  d_places : FuncData
  places : Fn P w K mg base (L2.CX P w) 11 "places" ["house", "way", "life", "coins", "drawer"] (sp_places K cs tb) f_places d_places
  f_parting : Addr
  d_parting : FuncData
  parting : Fn P w K mg base (L2.CX P w) 11 "parting" ["house", "way", "drawer", "moments", "is_often"] (sp_parting K cs tb) f_parting d_parting
  f_view_count : Addr
  d_view_count : FuncData
  view_count : Fn P w K mg base (L2.CX P w) 11 "view_count" ["house", "way", "life", "drawer", "times"] (sp_view_count K cs tb) f_view_count d_view_count
  f_more_wait : Addr
  d_more_wait : FuncData
  more_wait : Fn P w K mg base (L2.CX P w) 11 "more_wait" ["house", "way", "story", "drawer", "many"] (sp_more_wait K cs tb) f_more_wait d_more_wait
  f_view : Addr
  d_view : FuncData
  view : Fn P w K mg base (L2.CX P w) 11 "view" ["house", "way", "life", "coins", "drawer", "times"] (sp_view K cs tb) f_view d_view
  f_read : Addr
  d_read : FuncData
  read : Fn P w K mg base (L2.CX P w) 11 "read" ["house", "way", "life", "coins", "drawer", "page"] (sp_read K cs tb) f_read d_read
  f_found_later : Addr
  d_found_later : FuncData
  found_later : Fn P w K mg base (L2.CX P w) 11 "found_later" ["house", "way", "life", "coins", "drawer", "page"] (sp_found_later K cs tb) f_found_later d_found_later
  f_is_parted : Addr
  d_is_parted : FuncData
  is_parted : Fn P w K mg base (L2.CX P w) 11 "is_parted" ["house", "way", "life", "coins", "drawer", "is_often"] (sp_is_parted K cs tb) f_is_parted d_is_parted
  f_best_guess : Addr
  d_best_guess : FuncData
  best_guess : Fn P w K mg base (L2.CX P w) 11 "best_guess" ["house", "way", "one", "other", "drawer", "times"] (sp_best_guess K cs tb) f_best_guess d_best_guess
  f_least_cells : Addr
  d_least_cells : FuncData
  least_cells : Fn P w K mg base (L2.CX P w) 11 "least_cells" ["house", "story", "drawer", "many", "top", "bottom"] (sp_least_cells K cs tb) f_least_cells d_least_cells
section
variable {P : Program} {w : World} {K : PySem.W.Frag} {mg : Str → Option Value} {base : Heap} {cs : Cs} {tb : Tb}
theorem Fn_k {x : Str} {ps : List Str} {sp : Sp} {f : Addr} {fd : FuncData} {k : Nat} {CX : CXT} (F : Fn P w K mg base CX k x ps sp f fd) : FnR P w K mg base CX k (f, sp).1 (f, sp).2 ∧ PySem.W.keepIn K (.ref (f, sp).1) = true := ⟨Fn.r F, F.k⟩
abbrev Al.g1 (A : Al P w K mg base cs tb) : List (Addr × Sp) := [(A.f_drawn, sp_drawn K cs tb), (A.f_coin_of, sp_coin_of K cs tb), (A.f_is_life, sp_is_life K cs tb), (A.f_is_story, sp_is_story K cs tb), (A.f_row_count, sp_row_count K cs tb), (A.f_written, sp_written K cs tb)]
theorem Al.ok_g1 (A : Al P w K mg base cs tb) : ∀ q ∈ A.g1, FnR P w K mg base (L2.CX P w) 11 q.1 q.2 ∧ PySem.W.keepIn K (.ref q.1) = true := fun q hq => by
  simp only [Al.g1, List.mem_cons, List.mem_nil_iff, or_false] at hq
  rcases hq with rfl | rfl | rfl | rfl | rfl | rfl
  · exact Fn_k A.drawn
  · exact Fn_k A.coin_of
  · exact Fn_k A.is_life
  · exact Fn_k A.is_story
  · exact Fn_k A.row_count
  · exact Fn_k A.written
abbrev Al.g2 (A : Al P w K mg base cs tb) : List (Addr × Sp) := [(A.f_upper, sp_upper K cs tb), (A.f_lives_on, sp_lives_on K cs tb)]
theorem Al.ok_g2 (A : Al P w K mg base cs tb) : ∀ q ∈ A.g2, FnR P w K mg base (L2.CX P w) 11 q.1 q.2 ∧ PySem.W.keepIn K (.ref q.1) = true := fun q hq => by
  simp only [Al.g2, List.mem_cons, List.mem_nil_iff, or_false] at hq
  rcases hq with rfl | rfl
  · exact Fn_k A.upper
  · exact Fn_k A.lives_on
abbrev Al.g3 (A : Al P w K mg base cs tb) : List (Addr × Sp) := [(A.f_alike_above, sp_alike_above K cs tb), (A.f_safe_ways, sp_safe_ways K cs tb), (A.f_loss_chance, sp_loss_chance K cs tb), (A.f_waiting_counts, sp_waiting_counts K cs tb)]
theorem Al.ok_g3 (A : Al P w K mg base cs tb) : ∀ q ∈ A.g3, FnR P w K mg base (L2.CX P w) 11 q.1 q.2 ∧ PySem.W.keepIn K (.ref q.1) = true := fun q hq => by
  simp only [Al.g3, List.mem_cons, List.mem_nil_iff, or_false] at hq
  rcases hq with rfl | rfl | rfl | rfl
  · exact Fn_k A.alike_above
  · exact Fn_k A.safe_ways
  · exact Fn_k A.loss_chance
  · exact Fn_k A.waiting_counts
abbrev Al.g4 (A : Al P w K mg base cs tb) : List (Addr × Sp) := [(A.f_looks, sp_looks K cs tb), (A.f_waiting, sp_waiting K cs tb), (A.f_places, sp_places K cs tb), (A.f_parting, sp_parting K cs tb), (A.f_view_count, sp_view_count K cs tb), (A.f_more_wait, sp_more_wait K cs tb)]
theorem Al.ok_g4 (A : Al P w K mg base cs tb) : ∀ q ∈ A.g4, FnR P w K mg base (L2.CX P w) 11 q.1 q.2 ∧ PySem.W.keepIn K (.ref q.1) = true := fun q hq => by
  simp only [Al.g4, List.mem_cons, List.mem_nil_iff, or_false] at hq
  rcases hq with rfl | rfl | rfl | rfl | rfl | rfl
  · exact Fn_k A.looks
  · exact Fn_k A.waiting
  · exact Fn_k A.places
  · exact Fn_k A.parting
  · exact Fn_k A.view_count
  · exact Fn_k A.more_wait
abbrev Al.g5 (A : Al P w K mg base cs tb) : List (Addr × Sp) := [(A.f_view, sp_view K cs tb), (A.f_read, sp_read K cs tb), (A.f_found_later, sp_found_later K cs tb), (A.f_is_parted, sp_is_parted K cs tb), (A.f_best_guess, sp_best_guess K cs tb), (A.f_least_cells, sp_least_cells K cs tb)]
theorem Al.ok_g5 (A : Al P w K mg base cs tb) : ∀ q ∈ A.g5, FnR P w K mg base (L2.CX P w) 11 q.1 q.2 ∧ PySem.W.keepIn K (.ref q.1) = true := fun q hq => by
  simp only [Al.g5, List.mem_cons, List.mem_nil_iff, or_false] at hq
  rcases hq with rfl | rfl | rfl | rfl | rfl | rfl
  · exact Fn_k A.view
  · exact Fn_k A.read
  · exact Fn_k A.found_later
  · exact Fn_k A.is_parted
  · exact Fn_k A.best_guess
  · exact Fn_k A.least_cells
abbrev Al.l1 (A : Al P w K mg base cs tb) : List (Addr × Sp) := [(A.f_row_count, sp_row_count K cs tb), (A.f_written, sp_written K cs tb)]
theorem Al.ok_l1 (A : Al P w K mg base cs tb) : ∀ q ∈ A.l1, FnR P w K mg base (L2.CX P w) 11 q.1 q.2 ∧ PySem.W.keepIn K (.ref q.1) = true := fun q hq => by
  simp only [Al.l1, List.mem_cons, List.mem_nil_iff, or_false] at hq
  rcases hq with rfl | rfl
  · exact Fn_k A.row_count
  · exact Fn_k A.written
abbrev Al.l2 (A : Al P w K mg base cs tb) : List (Addr × Sp) := [(A.f_looks, sp_looks K cs tb), (A.f_waiting, sp_waiting K cs tb), (A.f_places, sp_places K cs tb), (A.f_view_count, sp_view_count K cs tb)]
theorem Al.ok_l2 (A : Al P w K mg base cs tb) : ∀ q ∈ A.l2, FnR P w K mg base (L2.CX P w) 11 q.1 q.2 ∧ PySem.W.keepIn K (.ref q.1) = true := fun q hq => by
  simp only [Al.l2, List.mem_cons, List.mem_nil_iff, or_false] at hq
  rcases hq with rfl | rfl | rfl | rfl
  · exact Fn_k A.looks
  · exact Fn_k A.waiting
  · exact Fn_k A.places
  · exact Fn_k A.view_count
abbrev Al.l3 (A : Al P w K mg base cs tb) : List (Addr × Sp) := [(A.f_view, sp_view K cs tb), (A.f_read, sp_read K cs tb), (A.f_found_later, sp_found_later K cs tb), (A.f_is_parted, sp_is_parted K cs tb)]
theorem Al.ok_l3 (A : Al P w K mg base cs tb) : ∀ q ∈ A.l3, FnR P w K mg base (L2.CX P w) 11 q.1 q.2 ∧ PySem.W.keepIn K (.ref q.1) = true := fun q hq => by
  simp only [Al.l3, List.mem_cons, List.mem_nil_iff, or_false] at hq
  rcases hq with rfl | rfl | rfl | rfl
  · exact Fn_k A.view
  · exact Fn_k A.read
  · exact Fn_k A.found_later
  · exact Fn_k A.is_parted
abbrev Al.l4 (A : Al P w K mg base cs tb) : List (Addr × Sp) := [(A.f_looks, sp_looks K cs tb), (A.f_waiting, sp_waiting K cs tb), (A.f_places, sp_places K cs tb)]
theorem Al.ok_l4 (A : Al P w K mg base cs tb) : ∀ q ∈ A.l4, FnR P w K mg base (L2.CX P w) 11 q.1 q.2 ∧ PySem.W.keepIn K (.ref q.1) = true := fun q hq => by
  simp only [Al.l4, List.mem_cons, List.mem_nil_iff, or_false] at hq
  rcases hq with rfl | rfl | rfl
  · exact Fn_k A.looks
  · exact Fn_k A.waiting
  · exact Fn_k A.places
/-! ### lists of words -/
theorem dp_words (H : Hp) : ∀ ws : List Str, DpAll K H (ws.map V.str) (ws.map PyData.str)
  | [] => .nil
  | x :: r => .cons (.str x) (dp_words H r)
theorem lay_words : ∀ ws : List Str, (∀ x ∈ ws, PyData.strOk x = true) → PyData.canLayAll0 (ws.map PyData.str) = true ∧ PyData.depthAll (ws.map PyData.str) ≤ 1
  | [], _ => by constructor <;> simp [PyData.canLayAll0, PyData.depthAll]
  | x :: r, h => by
    obtain ⟨a, b⟩ := lay_words r fun y hy => h y (List.mem_cons_of_mem _ hy)
    have hx := h x List.mem_cons_self
    constructor
    · simp [PyData.canLayAll0, PyData.canLay0, hx, a]
    · simp only [List.map_cons, PyData.depthAll, PyData.depth]
      omega
theorem words_eqv {ws : List Str} (h : ∀ x ∈ ws, PyData.strOk x = true) : SeqAt.shaped (.list (ws.map PyData.str)) = true ∧ PyData.eqv (.list (ws.map PyData.str)) (.list (ws.map PyData.str)) = true := by
  obtain ⟨a, b⟩ := lay_words ws h
  have hs : SeqAt.shaped (.list (ws.map PyData.str)) = true := by
    unfold SeqAt.shaped
    rw [Bool.and_eq_true]
    refine ⟨by simpa [PyData.canLay0] using a, decide_eq_true ?_⟩
    simp only [PyData.depth]
    omega
  exact ⟨hs, SeqAt.eqv_refl _ (SeqAt.canLay_of_shaped hs)⟩
/-- two lists of the same words -/
theorem eq_words {a b : Addr} {ws : List Str} {H : Hp} {Q : VK} (h : ∀ x ∈ ws, PyData.strOk x = true) (ha : H a = some (.lst (ws.map V.str))) (hb : H b = some (.lst (ws.map V.str))) (q : Q (.bl true) H) : rEqD K (.ref a) (.ref b) H Q := by
  obtain ⟨s1, s2⟩ := words_eqv h
  exact ⟨.list (ws.map PyData.str), .list (ws.map PyData.str), .lst (SqL.of ha) (dp_words H ws), .lst (SqL.of hb) (dp_words H ws), s1, s1, by rw [s2]; exact q⟩
theorem ne_words {a b : Addr} {ws : List Str} {H : Hp} {Q : VK} (h : ∀ x ∈ ws, PyData.strOk x = true) (ha : H a = some (.lst (ws.map V.str))) (hb : H b = some (.lst (ws.map V.str))) (q : Q (.bl false) H) : rNeD K (.ref a) (.ref b) H Q := by
  obtain ⟨s1, s2⟩ := words_eqv h
  exact ⟨.list (ws.map PyData.str), .list (ws.map PyData.str), .lst (SqL.of ha) (dp_words H ws), .lst (SqL.of hb) (dp_words H ws), s1, s1, by rw [s2]; exact q⟩
theorem rep_words {x : Str} {n : Nat} : List.replicate n (V.str x) = (List.replicate n x).map V.str := by rw [List.map_replicate]
end
/-! ### every function refuses what is no house -/
abbrev hrSt (i : Nat) : Stmt := (defBody s__law_houses_refused).getD i (.Pass ⟨0, 0, 0, 0⟩)
abbrev hrQ : Str := (envOfC "_law_houses_refused" (defScope s__law_houses_refused) 0 0 (.ref 0)).qual ++ "<lambda>"
abbrev HX (P : Program) (w : World) (K : PySem.W.Frag) (mg : Str → Option Value) (base : Heap) (f c : Addr) (A : Around) (outer : List Env) (s : Shared) (H : Hp) (E : XK) : Cx := cxOf (L2.CX P w) P w K mg base n__law_houses_refused "_law_houses_refused" (defScope s__law_houses_refused) f (.ref c) A outer s H E
theorem hr_body : defBody s__law_houses_refused = [hrSt 0, hrSt 1, hrSt 2, hrSt 3, hrSt 4, hrSt 5, hrSt 6] := rfl
/-- the value that is no house, the word -/
structure BadH (K : PySem.W.Frag) (H : Hp) (v : V) (x : Str) : Prop where
  go : ∀ H', Kv H H' → Wr K H' v (some x)
theorem BadH.kv {K : PySem.W.Frag} {H H' : Hp} {v : V} {x : Str} (h : BadH K H v x) (k : Kv H H') : BadH K H' v x := ⟨fun H2 k2 => h.go H2 (k.trans k2)⟩
theorem BadH.wr {K : PySem.W.Frag} {H : Hp} {v : V} {x : Str} (h : BadH K H v x) : Wr K H v (some x) := h.go H Kv.refl
/-- ahead of a statement: n words told -/
def HrAt (K : PySem.W.Frag) (Pb : Addr) (v : V) (x : Str) (H0 : Hp) (n : Nat) (y2 : Bool) (y3 : Option (List V)) (σ : L2.St) (H : Hp) : Prop :=
  BadH K H v x ∧ LamX.TabS H Pb hrQ ∧ Kl (S1 K Pb) H0 H ∧ ∃ z2 z3, σ = [some v, some (.str x), z2, z3, none] ∧ (y2 = true → ∃ T, z2 = some (.ref T) ∧ H T = some (.lst (List.replicate n (.str x)))) ∧ (∀ xs, y3 = some xs → ∃ l, z3 = some (.ref l) ∧ H l = some (.lst xs))
section
variable {P : Program} {w : World} {K : PySem.W.Frag} {mg : Str → Option Value} {base : Heap} {cs : Cs} {tb : Tb} {f c Pb : Addr} {A : Around} {outer : List Env} {s : Shared} {H0 H1 : Hp} {E0 : XK} {v : V} {x : Str}
theorem bad_g1 (al : Al P w K mg base cs tb) {G : Hp} (hw : Wr K G v (some x)) : ∀ p ∈ al.g1, Told K cs p.2 [v, .non] G (.house x) := fun p hp Q E hE => by
  simp only [Al.g1, List.mem_cons, List.mem_nil_iff, or_false] at hp
  rcases hp with rfl | rfl | rfl | rfl | rfl | rfl
  · exact ⟨_, _, rfl, t_house hw _ _ hE⟩
  · exact ⟨_, _, rfl, t_house hw _ _ hE⟩
  · exact ⟨_, _, rfl, t_house hw _ _ hE⟩
  · exact ⟨_, _, rfl, t_house hw _ _ hE⟩
  · exact ⟨_, _, rfl, t_house hw _ _ hE⟩
  · exact ⟨_, _, rfl, t_house hw _ _ hE⟩
theorem bad_g2 (al : Al P w K mg base cs tb) {G : Hp} (hw : Wr K G v (some x)) : ∀ p ∈ al.g2, Told K cs p.2 [v, .non, .non] G (.house x) := fun p hp Q E hE => by
  simp only [Al.g2, List.mem_cons, List.mem_nil_iff, or_false] at hp
  rcases hp with rfl | rfl
  · exact ⟨_, _, _, rfl, t_house hw _ _ hE⟩
  · exact ⟨_, _, _, rfl, t_house hw _ _ hE⟩
theorem bad_g3 (al : Al P w K mg base cs tb) {G : Hp} (hw : Wr K G v (some x)) : ∀ p ∈ al.g3, Told K cs p.2 [v, .non, .non, .non] G (.house x) := fun p hp Q E hE => by
  simp only [Al.g3, List.mem_cons, List.mem_nil_iff, or_false] at hp
  rcases hp with rfl | rfl | rfl | rfl
  · exact ⟨_, _, _, _, rfl, t_house hw _ _ hE⟩
  · exact ⟨_, _, _, _, rfl, t_house hw _ _ hE⟩
  · exact ⟨_, _, _, _, rfl, t_house hw _ _ hE⟩
  · exact ⟨_, _, _, _, rfl, ⟨_, _, _, _, rfl, t_house hw _ _ hE⟩⟩
theorem bad_g4 (al : Al P w K mg base cs tb) {G : Hp} (hw : Wr K G v (some x)) : ∀ p ∈ al.g4, Told K cs p.2 [v, .non, .non, .non, .non] G (.house x) := fun p hp Q E hE => by
  simp only [Al.g4, List.mem_cons, List.mem_nil_iff, or_false] at hp
  rcases hp with rfl | rfl | rfl | rfl | rfl | rfl
  · exact ⟨_, _, _, _, _, rfl, ⟨_, _, _, _, rfl, t_house hw _ _ hE⟩⟩
  · exact ⟨_, _, _, _, _, rfl, ⟨_, _, _, _, rfl, t_house hw _ _ hE⟩⟩
  · exact ⟨_, _, _, _, _, rfl, ⟨_, _, _, _, rfl, t_house hw _ _ hE⟩⟩
  · exact ⟨_, _, _, _, _, rfl, t_house hw _ _ hE⟩
  · exact ⟨_, _, _, _, _, rfl, ⟨_, _, _, _, _, rfl, t_house hw _ _ hE⟩⟩
  · exact ⟨_, _, _, _, _, rfl, ⟨_, _, _, _, rfl, t_house hw _ _ hE⟩⟩
theorem bad_g5 (al : Al P w K mg base cs tb) {G : Hp} (hw : Wr K G v (some x)) : ∀ p ∈ al.g5, Told K cs p.2 [v, .non, .non, .non, .non, .non] G (.house x) := fun p hp Q E hE => by
  simp only [Al.g5, List.mem_cons, List.mem_nil_iff, or_false] at hp
  rcases hp with rfl | rfl | rfl | rfl | rfl | rfl
  · exact ⟨_, _, _, _, _, _, rfl, ⟨_, _, _, _, rfl, t_house hw _ _ hE⟩⟩
  · exact ⟨_, _, _, _, _, _, rfl, ⟨_, _, _, _, rfl, t_house hw _ _ hE⟩⟩
  · exact ⟨_, _, _, _, _, _, rfl, ⟨_, _, _, _, rfl, t_house hw _ _ hE⟩⟩
  · exact ⟨_, _, _, _, _, _, rfl, ⟨_, _, _, _, rfl, t_house hw _ _ hE⟩⟩
  · exact ⟨_, _, _, _, _, _, rfl, ⟨_, _, _, _, _, rfl, t_house hw _ _ hE⟩⟩
  · exact ⟨_, _, _, _, _, _, rfl, t_house hw _ _ hE⟩
theorem hr0 (al : Al P w K mg base cs tb) (W : WordD K mg cs) (TB : LamX.TabB base mg c Pb) (nS : ¬ Sk K Pb) (lx : x.length ≤ 100) (hr : Room 13 (A.deeper (envOfC "_law_houses_refused" (defScope s__law_houses_refused) s.heap.objs.size f (.ref c)))) :
    Does (HX P w K mg base f c A outer s H0 E0) (hrSt 0) (HrAt K Pb v x H1 0 false none) (HrAt K Pb v x H1 0 false none) := by
  refine ⟨_, ps_if (pt_cmpR op_ne (pe_word W hrQ TB rfl rfl (by rfl) (k := 11) hr (LamX.lamS_by (by rfl)) (fun A' outer' s' H' E' f' c' hr' => pe_call al.coin_count.G hr' (by rfl) al.coin_count.m al.coin_count.k al.coin_count.b .nil (passX (E := E') rfl rfl rfl rfl) (pa_cons (pv 0) pa_nil)) (by rfl) (fun _ _ _ _ _ => by rfl)) (pv 1) (nomark _)) (pss_one (ps_ret pe_bl)) pss_nil, fun D σ H pre post => ?_⟩
  obtain ⟨bh, tS, kl, z2, z3, rfl, h2, h3⟩ := pre
  refine word_go (K := K) (er := .house x) (q := hrQ) tS lx (fun G Qn E k1 T1 hE => ⟨v, rfl, ?_⟩) fun H3 k3 T3 => ?_
  · exact ⟨v, rfl, t_house (bh.kv k1.v).wr _ _ fun cls d H3 k i => word_fin nS hE k1 T1 (Ex.refl _) cls d H3 k i⟩
  · refine ⟨.str x, rfl, rfl, _, rfl, ?_⟩
    rw [show (!decide (V.str (Er.house x).word = V.str x)) = false by simp [Er.word]]
    exact iteF (post _ _ ⟨bh.kv k3.v, T3, kl.trans k3, z2, z3, rfl, fun z => (by cases z), fun xs e => let ⟨l, e1, e2⟩ := h3 xs e; ⟨l, e1, k3.l _ _ e2⟩⟩)
theorem hr1 (al : Al P w K mg base cs tb) (W : WordD K mg cs) (TB : LamX.TabB base mg c Pb) (nS : ¬ Sk K Pb) (lx : x.length ≤ 100) (hr : Room 13 (A.deeper (envOfC "_law_houses_refused" (defScope s__law_houses_refused) s.heap.objs.size f (.ref c)))) :
    Does (HX P w K mg base f c A outer s H0 E0) (hrSt 1) (HrAt K Pb v x H1 0 false none) (HrAt K Pb v x H1 6 true none) := by
  refine ⟨_, ps_setLc (i := 2) (own := [("ask", 4)]) (g := gName 4) (by rfl) sc__law_houses_refused.nd rfl rfl (sw_true rfl rfl (by rfl) (by decide +kernel)) (pi_list (pe_lst (pa_cons (pe_glob (v := .ref al.f_drawn) rfl al.drawn.m rfl) (pa_cons (pe_glob (v := .ref al.f_coin_of) rfl al.coin_of.m rfl) (pa_cons (pe_glob (v := .ref al.f_is_life) rfl al.is_life.m rfl) (pa_cons (pe_glob (v := .ref al.f_is_story) rfl al.is_story.m rfl) (pa_cons (pe_glob (v := .ref al.f_row_count) rfl al.row_count.m rfl) (pa_cons (pe_glob (v := .ref al.f_written) rfl al.written.m rfl) pa_nil)))))))) (blkOk_by (own := [("ask", 4)]) (N := n__law_houses_refused) (sc := defScope s__law_houses_refused) (by decide +kernel)) (fun _ _ _ _ _ => pg_name (i := 4) sc__law_houses_refused.nd rfl (Or.inr rfl)) (fun _ _ _ _ _ => pts_nil)
        (fun _ _ _ _ _ => pe_word W hrQ TB rfl rfl (by rfl) (k := 11) hr (LamX.lamS_by (by rfl)) (fun A' outer' s' H' E' f' c' hr' => pe_callAny (i := 4) (fs := al.g1) (fun q hq => (al.ok_g1 q hq).1) hr' (fun q hq => (al.ok_g1 q hq).2) (passX (E := E') rfl rfl rfl rfl) (pa_cons (pv 0) (pa_cons pe_non pa_nil))) (by rfl) (fun _ _ _ _ _ => by rfl)), fun D σ H pre post => ?_⟩
  obtain ⟨bh, tS, kl, z2, z3, rfl, h2, h3⟩ := pre
  refine ⟨by show 6 ≤ sizeLine; decide, fun l nl => ⟨l, rfl, ⟨_, SqL.of upd_same⟩, fun D nD => ?_⟩⟩
  have e1 := Ex.new (o := .lst (al.g1.map fun p => V.ref p.1)) nl
  refine lc_words (K := K) (er := .house x) (q := hrQ) (fun G => BadH K G v x) [] nD upd_same (tS.ext e1) nS lx (by show 6 ≤ 100; decide) (bh.kv (Kv.ex e1)) (fun p hp => by cases hp) (fun G G' h k => h.kv k) rfl (fun _ => rfl) (fun _ => rfl) (fun p hp G Q E fG hE => ⟨v, rfl, ?_⟩) fun G fG tG kG gD _ => ?_
  · exact bad_g1 al fG.wr p hp Q E fun cls d H3 k i => hE cls d G H3 (Ex.refl _) k i
  · exact post _ _ ⟨fG, tG, (kl.trans (Kl.ex e1)).trans kG, _, _, rfl, fun _ => ⟨D, rfl, gD⟩, fun xs e => let ⟨l, a1, a2⟩ := h3 xs e; ⟨l, a1, kG.l _ _ (e1 _ _ a2)⟩⟩
theorem hr2 (al : Al P w K mg base cs tb) (W : WordD K mg cs) (TB : LamX.TabB base mg c Pb) (nS : ¬ Sk K Pb) (lx : x.length ≤ 100) (hr : Room 13 (A.deeper (envOfC "_law_houses_refused" (defScope s__law_houses_refused) s.heap.objs.size f (.ref c)))) :
    Does (HX P w K mg base f c A outer s H0 E0) (hrSt 2) (HrAt K Pb v x H1 6 true none) (HrAt K Pb v x H1 8 true none) := by
  refine ⟨_, ps_set (i := 2) sc__law_houses_refused.nd rfl (Or.inl rfl) (pe_op op_cat (pv 2) (pe_lc (own := [("ask", 4)]) (g := gName 4) (by rfl) sc__law_houses_refused.nd (pi_list (pe_lst (pa_cons (pe_glob (v := .ref al.f_upper) rfl al.upper.m rfl) (pa_cons (pe_glob (v := .ref al.f_lives_on) rfl al.lives_on.m rfl) pa_nil)))) (blkOk_by (own := [("ask", 4)]) (N := n__law_houses_refused) (sc := defScope s__law_houses_refused) (by decide +kernel)) (fun _ _ _ _ _ => pg_name (i := 4) sc__law_houses_refused.nd rfl (Or.inr rfl)) (fun _ _ _ _ _ => pts_nil)
        (fun _ _ _ _ _ => pe_word W hrQ TB rfl rfl (by rfl) (k := 11) hr (LamX.lamS_by (by rfl)) (fun A' outer' s' H' E' f' c' hr' => pe_callAny (i := 4) (fs := al.g2) (fun q hq => (al.ok_g2 q hq).1) hr' (fun q hq => (al.ok_g2 q hq).2) (passX (E := E') rfl rfl rfl rfl) (pa_cons (pv 0) (pa_cons pe_non (pa_cons pe_non pa_nil)))) (by rfl) (fun _ _ _ _ _ => by rfl)))), fun D σ H pre post => ?_⟩
  obtain ⟨bh, tS, kl, z2, z3, rfl, h2, h3⟩ := pre
  obtain ⟨T, rfl, hT⟩ := h2 rfl
  refine ⟨.ref T, rfl, by show 2 ≤ sizeLine; decide, fun l nl => ⟨l, rfl, ⟨_, SqL.of upd_same⟩, fun D nD => ?_⟩⟩
  have e1 := Ex.new (o := .lst (al.g2.map fun p => V.ref p.1)) nl
  refine lc_words (K := K) (er := .house x) (q := hrQ) (fun G => BadH K G v x) [(T, List.replicate 6 (.str x))] nD upd_same (tS.ext e1) nS lx (by show 2 ≤ 100; decide) (bh.kv (Kv.ex e1)) (fun p hp => by rw [List.mem_singleton.mp hp]; exact e1 _ _ hT) (fun G G' h k => h.kv k) rfl (fun _ => rfl) (fun _ => rfl) (fun p hp G Q E fG hE => ⟨v, rfl, ?_⟩) fun G fG tG kG gD pin => ?_
  · exact bad_g2 al fG.wr p hp Q E fun cls d H3 k i => hE cls d G H3 (Ex.refl _) k i
  · refine ⟨T, D, _, _, rfl, rfl, pin _ List.mem_cons_self, gD, by rw [List.length_replicate, List.length_replicate]; show 6 + 2 ≤ sizeLine; decide, fun p np => ?_⟩
    have e2 := Ex.new (o := .lst (List.replicate 6 (.str x) ++ List.replicate 2 (V.str x))) np
    exact post _ _ ⟨fG.kv (Kv.ex e2), tG.ext e2, ((kl.trans (Kl.ex e1)).trans kG).trans (Kl.ex e2), _, _, rfl, fun _ => ⟨p, rfl, upd_same.trans (show some (HO.lst (List.replicate 6 (V.str x) ++ List.replicate 2 (V.str x))) = some (HO.lst (List.replicate 8 (V.str x))) from by rw [List.replicate_append_replicate])⟩, fun xs e => by cases e⟩
theorem hr3 (al : Al P w K mg base cs tb) (W : WordD K mg cs) (TB : LamX.TabB base mg c Pb) (nS : ¬ Sk K Pb) (lx : x.length ≤ 100) (hr : Room 13 (A.deeper (envOfC "_law_houses_refused" (defScope s__law_houses_refused) s.heap.objs.size f (.ref c)))) :
    Does (HX P w K mg base f c A outer s H0 E0) (hrSt 3) (HrAt K Pb v x H1 8 true none) (HrAt K Pb v x H1 12 true none) := by
  refine ⟨_, ps_set (i := 2) sc__law_houses_refused.nd rfl (Or.inl rfl) (pe_op op_cat (pv 2) (pe_lc (own := [("ask", 4)]) (g := gName 4) (by rfl) sc__law_houses_refused.nd (pi_list (pe_lst (pa_cons (pe_glob (v := .ref al.f_alike_above) rfl al.alike_above.m rfl) (pa_cons (pe_glob (v := .ref al.f_safe_ways) rfl al.safe_ways.m rfl) (pa_cons (pe_glob (v := .ref al.f_loss_chance) rfl al.loss_chance.m rfl) (pa_cons (pe_glob (v := .ref al.f_waiting_counts) rfl al.waiting_counts.m rfl) pa_nil)))))) (blkOk_by (own := [("ask", 4)]) (N := n__law_houses_refused) (sc := defScope s__law_houses_refused) (by decide +kernel)) (fun _ _ _ _ _ => pg_name (i := 4) sc__law_houses_refused.nd rfl (Or.inr rfl)) (fun _ _ _ _ _ => pts_nil)
        (fun _ _ _ _ _ => pe_word W hrQ TB rfl rfl (by rfl) (k := 11) hr (LamX.lamS_by (by rfl)) (fun A' outer' s' H' E' f' c' hr' => pe_callAny (i := 4) (fs := al.g3) (fun q hq => (al.ok_g3 q hq).1) hr' (fun q hq => (al.ok_g3 q hq).2) (passX (E := E') rfl rfl rfl rfl) (pa_cons (pv 0) (pa_cons pe_non (pa_cons pe_non (pa_cons pe_non pa_nil))))) (by rfl) (fun _ _ _ _ _ => by rfl)))), fun D σ H pre post => ?_⟩
  obtain ⟨bh, tS, kl, z2, z3, rfl, h2, h3⟩ := pre
  obtain ⟨T, rfl, hT⟩ := h2 rfl
  refine ⟨.ref T, rfl, by show 4 ≤ sizeLine; decide, fun l nl => ⟨l, rfl, ⟨_, SqL.of upd_same⟩, fun D nD => ?_⟩⟩
  have e1 := Ex.new (o := .lst (al.g3.map fun p => V.ref p.1)) nl
  refine lc_words (K := K) (er := .house x) (q := hrQ) (fun G => BadH K G v x) [(T, List.replicate 8 (.str x))] nD upd_same (tS.ext e1) nS lx (by show 4 ≤ 100; decide) (bh.kv (Kv.ex e1)) (fun p hp => by rw [List.mem_singleton.mp hp]; exact e1 _ _ hT) (fun G G' h k => h.kv k) rfl (fun _ => rfl) (fun _ => rfl) (fun p hp G Q E fG hE => ⟨v, rfl, ?_⟩) fun G fG tG kG gD pin => ?_
  · exact bad_g3 al fG.wr p hp Q E fun cls d H3 k i => hE cls d G H3 (Ex.refl _) k i
  · refine ⟨T, D, _, _, rfl, rfl, pin _ List.mem_cons_self, gD, by rw [List.length_replicate, List.length_replicate]; show 8 + 4 ≤ sizeLine; decide, fun p np => ?_⟩
    have e2 := Ex.new (o := .lst (List.replicate 8 (.str x) ++ List.replicate 4 (V.str x))) np
    exact post _ _ ⟨fG.kv (Kv.ex e2), tG.ext e2, ((kl.trans (Kl.ex e1)).trans kG).trans (Kl.ex e2), _, _, rfl, fun _ => ⟨p, rfl, upd_same.trans (show some (HO.lst (List.replicate 8 (V.str x) ++ List.replicate 4 (V.str x))) = some (HO.lst (List.replicate 12 (V.str x))) from by rw [List.replicate_append_replicate])⟩, fun xs e => by cases e⟩
theorem hr4 (al : Al P w K mg base cs tb) (W : WordD K mg cs) (TB : LamX.TabB base mg c Pb) (nS : ¬ Sk K Pb) (lx : x.length ≤ 100) (hr : Room 13 (A.deeper (envOfC "_law_houses_refused" (defScope s__law_houses_refused) s.heap.objs.size f (.ref c)))) :
    Does (HX P w K mg base f c A outer s H0 E0) (hrSt 4) (HrAt K Pb v x H1 12 true none) (HrAt K Pb v x H1 18 true none) := by
  refine ⟨_, ps_set (i := 2) sc__law_houses_refused.nd rfl (Or.inl rfl) (pe_op op_cat (pv 2) (pe_lc (own := [("ask", 4)]) (g := gName 4) (by rfl) sc__law_houses_refused.nd (pi_list (pe_lst (pa_cons (pe_glob (v := .ref al.f_looks) rfl al.looks.m rfl) (pa_cons (pe_glob (v := .ref al.f_waiting) rfl al.waiting.m rfl) (pa_cons (pe_glob (v := .ref al.f_places) rfl al.places.m rfl) (pa_cons (pe_glob (v := .ref al.f_parting) rfl al.parting.m rfl) (pa_cons (pe_glob (v := .ref al.f_view_count) rfl al.view_count.m rfl) (pa_cons (pe_glob (v := .ref al.f_more_wait) rfl al.more_wait.m rfl) pa_nil)))))))) (blkOk_by (own := [("ask", 4)]) (N := n__law_houses_refused) (sc := defScope s__law_houses_refused) (by decide +kernel)) (fun _ _ _ _ _ => pg_name (i := 4) sc__law_houses_refused.nd rfl (Or.inr rfl)) (fun _ _ _ _ _ => pts_nil)
        (fun _ _ _ _ _ => pe_word W hrQ TB rfl rfl (by rfl) (k := 11) hr (LamX.lamS_by (by rfl)) (fun A' outer' s' H' E' f' c' hr' => pe_callAny (i := 4) (fs := al.g4) (fun q hq => (al.ok_g4 q hq).1) hr' (fun q hq => (al.ok_g4 q hq).2) (passX (E := E') rfl rfl rfl rfl) (pa_cons (pv 0) (pa_cons pe_non (pa_cons pe_non (pa_cons pe_non (pa_cons pe_non pa_nil)))))) (by rfl) (fun _ _ _ _ _ => by rfl)))), fun D σ H pre post => ?_⟩
  obtain ⟨bh, tS, kl, z2, z3, rfl, h2, h3⟩ := pre
  obtain ⟨T, rfl, hT⟩ := h2 rfl
  refine ⟨.ref T, rfl, by show 6 ≤ sizeLine; decide, fun l nl => ⟨l, rfl, ⟨_, SqL.of upd_same⟩, fun D nD => ?_⟩⟩
  have e1 := Ex.new (o := .lst (al.g4.map fun p => V.ref p.1)) nl
  refine lc_words (K := K) (er := .house x) (q := hrQ) (fun G => BadH K G v x) [(T, List.replicate 12 (.str x))] nD upd_same (tS.ext e1) nS lx (by show 6 ≤ 100; decide) (bh.kv (Kv.ex e1)) (fun p hp => by rw [List.mem_singleton.mp hp]; exact e1 _ _ hT) (fun G G' h k => h.kv k) rfl (fun _ => rfl) (fun _ => rfl) (fun p hp G Q E fG hE => ⟨v, rfl, ?_⟩) fun G fG tG kG gD pin => ?_
  · exact bad_g4 al fG.wr p hp Q E fun cls d H3 k i => hE cls d G H3 (Ex.refl _) k i
  · refine ⟨T, D, _, _, rfl, rfl, pin _ List.mem_cons_self, gD, by rw [List.length_replicate, List.length_replicate]; show 12 + 6 ≤ sizeLine; decide, fun p np => ?_⟩
    have e2 := Ex.new (o := .lst (List.replicate 12 (.str x) ++ List.replicate 6 (V.str x))) np
    exact post _ _ ⟨fG.kv (Kv.ex e2), tG.ext e2, ((kl.trans (Kl.ex e1)).trans kG).trans (Kl.ex e2), _, _, rfl, fun _ => ⟨p, rfl, upd_same.trans (show some (HO.lst (List.replicate 12 (V.str x) ++ List.replicate 6 (V.str x))) = some (HO.lst (List.replicate 18 (V.str x))) from by rw [List.replicate_append_replicate])⟩, fun xs e => by cases e⟩
theorem hr5 (al : Al P w K mg base cs tb) (W : WordD K mg cs) (TB : LamX.TabB base mg c Pb) (nS : ¬ Sk K Pb) (lx : x.length ≤ 100) (hr : Room 13 (A.deeper (envOfC "_law_houses_refused" (defScope s__law_houses_refused) s.heap.objs.size f (.ref c)))) :
    Does (HX P w K mg base f c A outer s H0 E0) (hrSt 5) (HrAt K Pb v x H1 18 true none) (HrAt K Pb v x H1 18 true (some (al.g5.map fun p => V.ref p.1))) := by
  refine ⟨_, ps_set (i := 3) sc__law_houses_refused.nd rfl (Or.inl rfl) (pe_lst (pa_cons (pe_glob (v := .ref al.f_view) rfl al.view.m rfl) (pa_cons (pe_glob (v := .ref al.f_read) rfl al.read.m rfl) (pa_cons (pe_glob (v := .ref al.f_found_later) rfl al.found_later.m rfl) (pa_cons (pe_glob (v := .ref al.f_is_parted) rfl al.is_parted.m rfl) (pa_cons (pe_glob (v := .ref al.f_best_guess) rfl al.best_guess.m rfl) (pa_cons (pe_glob (v := .ref al.f_least_cells) rfl al.least_cells.m rfl) pa_nil))))))), fun D σ H pre post => ?_⟩
  obtain ⟨bh, tS, kl, z2, z3, rfl, h2, h3⟩ := pre
  refine ⟨by show 6 ≤ sizeLine; decide, fun l nl => ?_⟩
  have e1 := Ex.new (o := .lst (al.g5.map fun p => V.ref p.1)) nl
  exact post _ _ ⟨bh.kv (Kv.ex e1), tS.ext e1, kl.trans (Kl.ex e1), _, _, rfl, fun z => let ⟨T, a1, a2⟩ := h2 z; ⟨T, a1, e1 _ _ a2⟩, fun xs e => ⟨l, rfl, by cases e; exact upd_same⟩⟩
theorem hr6 (al : Al P w K mg base cs tb) (W : WordD K mg cs) (TB : LamX.TabB base mg c Pb) (nS : ¬ Sk K Pb) (lx : x.length ≤ 100) (ok : PyData.strOk x = true) (hr : Room 13 (A.deeper (envOfC "_law_houses_refused" (defScope s__law_houses_refused) s.heap.objs.size f (.ref c)))) :
    ∃ t, PSs (HX P w K mg base f c A outer s H0 E0) [hrSt 6] t ∧ ∀ (D : Ends) σ H, HrAt K Pb v x H1 18 true (some (al.g5.map fun p => V.ref p.1)) σ H → (∀ H', Kl (S1 K Pb) H1 H' → LamX.TabS H' Pb hrQ → D.rt (.bl true) H') → t D σ H := by
  have un : (A.deeper (envOfC "_law_houses_refused" (defScope s__law_houses_refused) s.heap.objs.size f (.ref c))).units + 64 < cLine := by have := hr.un; omega
  refine ⟨_, pss_one (ps_ret (pe_cmpR (op_eqD un) (pe_op op_cat (pv 2) (pe_lc (own := [("ask", 4)]) (g := gName 4) (by rfl) sc__law_houses_refused.nd (pi_list (pv 3)) (blkOk_by (own := [("ask", 4)]) (N := n__law_houses_refused) (sc := defScope s__law_houses_refused) (by decide +kernel)) (fun _ _ _ _ _ => pg_name (i := 4) sc__law_houses_refused.nd rfl (Or.inr rfl)) (fun _ _ _ _ _ => pts_nil)
        (fun _ _ _ _ _ => pe_word W hrQ TB rfl rfl (by rfl) (k := 11) hr (LamX.lamS_by (by rfl)) (fun A' outer' s' H' E' f' c' hr' => pe_callAny (i := 4) (fs := al.g5) (fun q hq => (al.ok_g5 q hq).1) hr' (fun q hq => (al.ok_g5 q hq).2) (passX (E := E') rfl rfl rfl rfl) (pa_cons (pv 0) (pa_cons pe_non (pa_cons pe_non (pa_cons pe_non (pa_cons pe_non (pa_cons pe_non pa_nil))))))) (by rfl) (fun _ _ _ _ _ => by rfl)))) (pe_op op_rep (pe_lst (pa_cons (pv 1) pa_nil)) pe_int) (nomark _))), fun D σ H pre post => ?_⟩
  obtain ⟨bh, tS, kl, z2, z3, rfl, h2, h3⟩ := pre
  obtain ⟨T, rfl, hT⟩ := h2 rfl
  obtain ⟨l, rfl, hl⟩ := h3 _ rfl
  refine ⟨.ref T, rfl, .ref l, rfl, l, rfl, ⟨_, SqL.of hl⟩, fun D2 nD => ?_⟩
  refine lc_words (K := K) (er := .house x) (q := hrQ) (fun G => BadH K G v x) [(T, List.replicate 18 (.str x))] nD hl tS nS lx (by show 6 ≤ 100; decide) bh (fun p hp => by rw [List.mem_singleton.mp hp]; exact hT) (fun G G' h k => h.kv k) rfl (fun _ => rfl) (fun _ => rfl) (fun p hp G Q E fG hE => ⟨v, rfl, ?_⟩) fun G fG tG kG gD pin => ?_
  · exact bad_g5 al fG.wr p hp Q E fun cls d H3 k i => hE cls d G H3 (Ex.refl _) k i
  · refine ⟨T, D2, _, _, rfl, rfl, pin _ List.mem_cons_self, gD, by rw [List.length_replicate, List.length_replicate]; show 18 + 6 ≤ sizeLine; decide, fun p np => ?_⟩
    have e2 := Ex.new (o := .lst (List.replicate 18 (.str x) ++ List.replicate 6 (V.str x))) np
    refine ⟨.str x, rfl, by show 1 ≤ sizeLine; decide, fun l2 n2 => ⟨l2, 24, [.str x], rfl, rfl, upd_same, by decide, by decide, (by show 1 * 24 ≤ sizeLine; decide), fun z nz => ?_⟩⟩
    have e3 := (Ex.new (o := .lst [.str x]) n2).trans (Ex.new (o := .lst (List.replicate 24 [V.str x]).flatten) nz)
    refine eq_words (ws := List.replicate 24 x) (fun y hy => by rw [(List.mem_replicate.mp hy).2]; exact ok) (e3 _ _ (upd_same.trans (show some (HO.lst (List.replicate 18 (V.str x) ++ List.replicate 6 (V.str x))) = _ from by rw [List.replicate_append_replicate, rep_words]))) (upd_same.trans (show some (HO.lst (List.replicate 24 [V.str x]).flatten) = _ from by rw [List.flatten_replicate_singleton, rep_words])) (post _ ?_ ?_)
    · exact (kl.trans kG).trans (Kl.ex (e2.trans e3))
    · exact tG.ext (e2.trans e3)
theorem hr_all (al : Al P w K mg base cs tb) (W : WordD K mg cs) (TB : LamX.TabB base mg c Pb) (nS : ¬ Sk K Pb) (lx : x.length ≤ 100) (ok : PyData.strOk x = true) (hr : Room 13 (A.deeper (envOfC "_law_houses_refused" (defScope s__law_houses_refused) s.heap.objs.size f (.ref c)))) :
    ∃ t, PSs (HX P w K mg base f c A outer s H0 E0) (defBody s__law_houses_refused) t ∧ ∀ (D : Ends) σ H, HrAt K Pb v x H1 0 false none σ H → (∀ H', Kl (S1 K Pb) H1 H' → LamX.TabS H' Pb hrQ → D.rt (.bl true) H') → t D σ H := by
  rw [hr_body]
  exact does_cons (F := fun D => ∀ H', Kl (S1 K Pb) H1 H' → LamX.TabS H' Pb hrQ → D.rt (.bl true) H') (hr0 al W TB nS lx hr) (does_cons (hr1 al W TB nS lx hr) (does_cons (hr2 al W TB nS lx hr) (does_cons (hr3 al W TB nS lx hr) (does_cons (hr4 al W TB nS lx hr) (does_cons (hr5 al W TB nS lx hr) (hr6 al W TB nS lx ok hr))))))
def spHr (K : PySem.W.Frag) (Pb : Addr) : Sp := fun vs H Q _ => ∃ v x, vs = [v, .str x] ∧ BadH K H v x ∧ x.length ≤ 100 ∧ PyData.strOk x = true ∧ LamX.TabS H Pb hrQ ∧ ∀ H', Kl (S1 K Pb) H H' → LamX.TabS H' Pb hrQ → Q (.bl true) H'
theorem ok_hr {fd : FuncData} (F : FnP K "_law_houses_refused" s__law_houses_refused f fd) (al : Al P w K mg base cs tb) (W : WordD K mg cs) (hc : fd.code = .ref c) (TB : LamX.TabB base mg c Pb) (nS : ¬ Sk K Pb) : FnOk P w K mg base (L2.CX P w) 14 f fd ["bad", "word"] (spHr K Pb) := by
  obtain ⟨oc, od, dV, kV, doc, pm, an, cdv, ct, osl, rfl, lk, hcd, _, _⟩ := F.ex
  obtain rfl : cdv = .ref c := hc
  refine fn_of (k := 13) lk hcd sc__law_houses_refused (fun vs H Q E h => ?_) (fun A outer s H vs Q E hr h => ?_)
  · obtain ⟨v, x, rfl, _⟩ := h
    rfl
  · obtain ⟨v, x, rfl, bh, lx, ok, tS, q⟩ := h
    obtain ⟨t, p, k⟩ := hr_all (v := v) (x := x) (outer := outer) (H0 := H) (H1 := H) (E0 := E) al W TB nS lx ok hr
    exact ⟨t, p, k _ _ _ ⟨bh, tS, Kl.refl, none, none, rfl, fun z => (by cases z), fun xs e => by cases e⟩ q⟩
end
end K10

set_option maxHeartbeats 4000000
namespace K10
open PySem PySem.Spec PyProof.Rows L2 Hd Evl
/-! ### the draws -/
structure Rw (K : PySem.W.Frag) (r a : Addr) (ns : List Int) (H : Hp) : Prop where
  row : ∃ i sd rs, H r = some (.lst (rowV a i sd rs)) ∧ 0 ≤ i ∧ 0 ≤ sd ∧ sd < 2147483647
  src : Src K r a ns H
section
variable {S : Addr → Prop} {K : PySem.W.Frag} {r a : Addr} {ns : List Int} {H H1 : Hp}
theorem Rw.kl (W : Rw K r a ns H) (e : Kl S H H1) : Rw K r a ns H1 := by
  obtain ⟨i, sd, rs, h, b⟩ := W.row
  refine ⟨⟨i, sd, rs, e.l _ _ h, b⟩, ?_⟩
  rcases W.src with q | ⟨n, q | ⟨o, q⟩⟩
  · exact .inl q
  · exact .inr ⟨n, .inl (e.l _ _ q)⟩
  · exact .inr ⟨n, .inr ⟨o, e.e _ _ q (fun ps z => by cases z)⟩⟩
theorem Rw.ex (W : Rw K r a ns H) (e : Ex H H1) : Rw K r a ns H1 := W.kl (S := fun _ => False) (Kl.ex e)
theorem Rw.upd (W : Rw K r a ns H) {i sd rs : Int} (h1 : 0 ≤ i) (h2 : 0 ≤ sd) (h3 : sd < 2147483647) : Rw K r a ns (upd H r (.lst (rowV a i sd rs))) := by
  obtain ⟨_, _, _, h, _⟩ := W.row
  exact ⟨⟨i, sd, rs, upd_same, h1, h2, h3⟩, W.src.row⟩
theorem Rw.put (W : Rw K r a ns H) : ∃ xs, H r = some (.lst xs) := let ⟨_, _, _, h, _⟩ := W.row; ⟨_, h⟩
/-- only the row has changed -/
def RowOnly (r : Addr) (H H' : Hp) : Prop := ∃ xs ys, H r = some (.lst xs) ∧ H' = upd H r (.lst ys)
theorem RowOnly.kv (o : RowOnly r H H1) : Kv H H1 := by
  obtain ⟨xs, ys, h, rfl⟩ := o
  exact Kv.put h
theorem RowOnly.tab {P : Addr} {q : Str} (o : RowOnly r H H1) (T : LamX.TabS H P q) : LamX.TabS H1 P q := by
  obtain ⟨xs, ys, h, rfl⟩ := o
  exact tabS_put T h
/-- things[_law_taken(row, len(things))] -/
structure PickP (K : PySem.W.Frag) (vs : List V) (H : Hp) (Q : VK) : Prop where
  go : ∃ (r a l : Addr) (ns : List Int) (xs : List V), vs = [.ref r, .ref l] ∧ Rw K r a ns H ∧ H l = some (.lst xs) ∧ l ≠ r ∧ 1 ≤ xs.length ∧ xs.length ≤ 1000 ∧ ∀ v ∈ xs, ∀ H', RowOnly r H H' → Rw K r a ns H' → Q v H'
def spPick (K : PySem.W.Frag) : Sp := fun vs H Q _ => PickP K vs H Q
end
section
variable {CX : CXT} {P : Program} {w : World} {K : PySem.W.Frag} {mg : Str → Option Value} {base : Heap}
theorem ok_pick {f fT : Addr} {fd fdT : FuncData} (F : FnP K "_law_pick" s__law_pick f fd) (B : Blt mg) (T : Fn P w K mg base CX0 1 "_law_taken" ["row", "many"] (spTaken K) fT fdT) : FnOk P w K mg base CX 2 f fd ["row", "things"] (spPick K) := by
  refine F.ok (CX := CX) sc__law_pick (fun vs H Q E h => ?_) (fun cdv A outer s H vs Q E hr h => ?_)
  · obtain ⟨r, a, l, ns, xs, rfl, _⟩ := h
    rfl
  · obtain ⟨r, a, l, ns, xs, rfl, W, hl, nl, l1, l2, q⟩ := h
    refine ⟨_, pss_one (ps_ret (pe_ix ix_list (pv 1) (pe_call T.G hr (by rfl) T.m T.k T.b .nil pass0 (pa_cons (pv 0) (pa_cons (pe_callB call_len_seq (by rfl) B.len (by decide +kernel) (pa_cons (pv 1) pa_nil)) pa_nil))) (fun _ _ => rfl))), ?_⟩
    obtain ⟨i, sd, rs, h, b1, b2, b3⟩ := W.row
    refine ⟨.ref l, rfl, .ref r, rfl, .ref l, rfl, l, xs, rfl, .inl (SqL.of hl), r, a, ns, i, sd, rs, xs.length, rfl, h, W.src, b1, b2, b3, l1, by omega, fun i' sd' rs' x c1 c2 c3 c4 => ?_⟩
    have g : L2.upd H r (.lst (rowV a i' sd' rs')) l = some (.lst xs) := by rw [upd_ne nl]; exact hl
    obtain ⟨v, hv⟩ : ∃ v, xs[x]? = some v := ⟨xs[x], List.getElem?_eq_getElem c4⟩
    exact ⟨l, xs, _, v, rfl, rfl, SqL.of g, atI_nat hv, q v (List.mem_of_getElem? hv) _ ⟨_, _, h, rfl⟩ (W.upd c1 c2 c3)⟩
end
end K10

set_option maxHeartbeats 4000000
namespace K10
open PySem PySem.Spec PyProof.Rows L2 Hd Evl
theorem times_q {K : PySem.W.Frag} {H : Hp} {l : Addr} {v : V} {m : Nat} {z : Int} {Q : VK} (h : H l = some (.tup [v])) (e : z = (m : Int)) (h1 : 1 ≤ m) (h2 : m ≤ 100) (q : ∀ p H', Ex H H' → H' p = some (.tup (List.replicate m v)) → Q (.ref p) H') : rTimes K (.ref l) (.int z) H Q := by
  subst e
  refine ⟨l, m, [v], rfl, rfl, SqT.of h, by simp, by omega, by omega, (by show 1 ≤ 1000; decide), fun e => q l H (Ex.refl H) ?_, fun _ p np => q p _ (Ex.new np) ?_⟩
  · rw [show m = 1 by omega]
    exact h
  · rw [upd_same, Int.toNat_natCast, List.flatten_replicate_singleton]
abbrev lawSt (i : Nat) : Stmt := (defBody s_law).getD i (.Pass ⟨0, 0, 0, 0⟩)
abbrev lawQ : Str := (envOfC "law" (defScope s_law) 0 0 (.ref 0)).qual ++ "<lambda>"
abbrev LX (P : Program) (w : World) (K : PySem.W.Frag) (mg : Str → Option Value) (base : Heap) (f c : Addr) (A : Around) (outer : List Env) (s : Shared) (H : Hp) (E : XK) : Cx := cxOf (L2.CX P w) P w K mg base n_law "law" (defScope s_law) f (.ref c) A outer s H E
/-- the tables -/
structure Tbs (tb : Tb) (Pa Pb : Addr) (H : Hp) : Prop where
  m : GxR.TabG H tb.m
  s : GxR.TabG H tb.s
  n : GxR.TabG H tb.n
  a : LamX.TabS H Pa lawQ
  b : LamX.TabS H Pb hrQ
section
variable {K : PySem.W.Frag} {tb : Tb} {cs : Cs} {Pa Pb r hs lf cn : Addr} {H H1 : Hp} {v : V} {x : Str}
theorem Tbs.ex (T : Tbs tb Pa Pb H) (e : Ex H H1) : Tbs tb Pa Pb H1 := ⟨tab_ex T.m e, tab_ex T.s e, tab_ex T.n e, T.a.ext e, T.b.ext e⟩
theorem Tbs.row (T : Tbs tb Pa Pb H) (e : RowOnly r H H1) : Tbs tb Pa Pb H1 := ⟨e.kv.g _ T.m, e.kv.g _ T.s, e.kv.g _ T.n, e.tab T.a, e.tab T.b⟩
/-- the house, the life, the coins -/
def Sh (hs lf cn : Addr) (H : Hp) : Prop := ∃ t2 t3 t4 t5 t6 : Addr, H hs = some (.tup [V.int 3, V.int 1, V.int 2, V.int 1, V.int 1]) ∧ H t2 = some (.tup []) ∧ H t3 = some (.tup [V.int 1, V.int 0, V.int 5]) ∧ H t4 = some (.tup [V.ref t3]) ∧ H t5 = some (.tup [V.ref t2, V.ref t4]) ∧ H t6 = some (.tup [V.int 1, V.ref t5]) ∧ H lf = some (.tup [V.ref t6]) ∧ H cn = some (.tup [V.int 0, V.int 2])
theorem Sh.kw (h : Sh hs lf cn H) (k : Kw H H1) : Sh hs lf cn H1 := by
  obtain ⟨t2, t3, t4, t5, t6, a1, a2, a3, a4, a5, a6, a7, a8⟩ := h
  exact ⟨t2, t3, t4, t5, t6, k.t _ _ a1, k.t _ _ a2, k.t _ _ a3, k.t _ _ a4, k.t _ _ a5, k.t _ _ a6, k.t _ _ a7, k.t _ _ a8⟩
/-- what the calls ask of the state -/
structure Ev (K : PySem.W.Frag) (tb : Tb) (hs lf cn : Addr) (H : Hp) : Prop where
  sh : Sh hs lf cn H
  m : GxR.TabG H tb.m
  s : GxR.TabG H tb.s
  n : GxR.TabG H tb.n
theorem Ev.kv (h : Ev K tb hs lf cn H) (k : Kv H H1) : Ev K tb hs lf cn H1 := ⟨h.sh.kw k.w, k.g _ h.m, k.g _ h.s, k.g _ h.n⟩
theorem Ev.ks (h : Ev K tb hs lf cn H) (k : Ks K H H1) : Ev K tb hs lf cn H1 := h.kv k.v
theorem house3 (h : H hs = some (.tup [V.int 3, V.int 1, V.int 2, V.int 1, V.int 1])) : HouseAt H hs 3 1 2 1 1 := ⟨h, by decide, by decide, by decide, by decide, by decide, by decide, by decide, by decide, by decide, by decide⟩
theorem Ev.hh (h : Ev K tb hs lf cn H) : HouseAt H hs 3 1 2 1 1 := let ⟨_, _, _, _, _, a1, _⟩ := h.sh; house3 a1
theorem moment0 {t : Addr} (h : H t = some (.tup [])) : MomentV K H 2 1 (.ref t) true := (show MomentV K H 2 1 (.ref t) (decide (([] : List V).length ≤ 6) && ([] : List Bool).all id) from .tup h .nil)
theorem Ev.li (h : Ev K tb hs lf cn H) : LifeOf K H 2 1 tb (.ref lf) (some [(true, 2)]) := by
  obtain ⟨t2, t3, t4, t5, t6, a1, a2, a3, a4, a5, a6, a7, a8⟩ := h.sh
  have d3 : DeedV K H 2 1 (.ref t3) true := (show DeedV K H 2 1 (.ref t3) (deedB 2 1 [V.int 1, V.int 0, V.int 5]) from .tup a3 fun y hy => by
    simp only [List.mem_cons, List.mem_nil_iff, or_false] at hy
    rcases hy with rfl | rfl | rfl <;> exact ⟨_, .int _⟩)
  have m4 : MomentV K H 2 1 (.ref t4) true := (show MomentV K H 2 1 (.ref t4) (decide (([V.ref t3] : List V).length ≤ 6) && [true].all id) from .tup a4 (.cons d3 .nil))
  have s5 : StoryV K H 2 1 (.ref t5) (some [true, true]) := .tup a5 (Nat.le_of_ble_eq_true rfl) (.cons (moment0 a2) (.cons m4 .nil))
  have lo : StoryLow H 1 (.ref t5) true := ⟨t5, _, [true, true], rfl, a5, rfl, .cons ⟨t2, [], [], rfl, a2, (Nat.le_of_ble_eq_true rfl), rfl, .nil⟩ (.cons ⟨t4, _, [true], rfl, a4, (Nat.le_of_ble_eq_true rfl), rfl, .cons ⟨t3, 1, _, rfl, a3, rfl⟩ .nil⟩ .nil)⟩
  exact ⟨.tup a7 (Nat.le_of_ble_eq_true rfl) (Nat.le_of_ble_eq_true rfl) (.cons ⟨.good a6 rfl s5 rfl lo, fun _ => ⟨t6, _, t5, _, rfl, a6, a5, rfl⟩⟩ .nil), h.m, h.s⟩
theorem good2 : GoodL [(true, 2)] [(true, 2)].length := ⟨rfl, by decide⟩
theorem Ev.se (h : Ev K tb hs lf cn H) : SessOf H tb lf 2 := by
  obtain ⟨t2, t3, t4, t5, t6, a1, a2, a3, a4, a5, a6, a7, a8⟩ := h.sh
  exact ⟨⟨[.ref t6], [2], a7, .cons ⟨t6, _, t5, _, rfl, a6, a5, rfl⟩ .nil, rfl, by decide⟩, h.n⟩
theorem coinV3 {i : Int} {b : Bool} (h : isNum (.int i) 0 ((nck 3 1 : Nat) - 1) = b) : CoinV K H (nck 3 1) (.int i) b := by
  rw [← h]
  exact .mk (.int i)
theorem Ev.co (h : Ev K tb hs lf cn H) : CoinsV K H (nck 3 1) 2 (.ref cn) (some [true, true]) := by
  obtain ⟨t2, t3, t4, t5, t6, a1, a2, a3, a4, a5, a6, a7, a8⟩ := h.sh
  exact .tup a8 rfl (.cons (coinV3 (by decide +kernel)) (.cons (coinV3 (by decide +kernel)) .nil))
/-! #### wrong houses -/
def hWords : List Str := ["form", "cells", "sealed", "drawers", "pages", "copies"]
theorem bh_non : BadH K H .non "form" := ⟨fun H' _ => .out .non (by decide)⟩
theorem bh_lst {b : Addr} {xs : List V} (h : H b = some (.lst xs)) : BadH K H (.ref b) "form" := ⟨fun H' k => let ⟨ys, g⟩ := k.w.l _ _ h; .out (.lst g) (by decide)⟩
theorem bh_tup {b : Addr} {xs : List V} {x : Str} (h : H b = some (.tup xs)) (al : ∀ y ∈ xs, ∃ i, y = .int i) (e : wrong5 xs = some x) : BadH K H (.ref b) x := ⟨fun H' k => by
  rw [← e]
  exact .tup (k.w.t _ _ h) fun y hy => let ⟨i, q⟩ := al y hy; ⟨"int", by rw [q]; exact .int i⟩⟩
theorem ints5 {a b c d e : Int} : ∀ y ∈ [V.int a, V.int b, V.int c, V.int d, V.int e], ∃ i, y = .int i := fun y hy => by
  simp only [List.mem_cons, List.mem_nil_iff, or_false] at hy
  rcases hy with rfl | rfl | rfl | rfl | rfl <;> exact ⟨_, rfl⟩
/-- a pair of such a value and its word -/
def PairH (K : PySem.W.Frag) (H : Hp) (e : V) : Prop := ∃ t v x, e = .ref t ∧ H t = some (.tup [v, .str x]) ∧ BadH K H v x ∧ x ∈ hWords
theorem PairH.kv {e : V} (h : PairH K H e) (k : Kv H H1) : PairH K H1 e := let ⟨t, v, x, a, b, c, d⟩ := h; ⟨t, v, x, a, k.w.t _ _ b, c.kv k, d⟩
theorem hWords_ok {x : Str} (h : x ∈ hWords) : x.length ≤ 100 ∧ PyData.strOk x = true := by
  simp only [hWords, List.mem_cons, List.mem_nil_iff, or_false] at h
  rcases h with rfl | rfl | rfl | rfl | rfl | rfl <;> exact ⟨by decide +kernel, by decide +kernel⟩
/-! #### wrong lives -/
/-- a value that is no life: what is told -/
structure NoL (K : PySem.W.Frag) (cs : Cs) (tb : Tb) (hs : Addr) (H : Hp) (v : V) (er : Er) : Prop where
  go : ∀ H', Kv H H' → Told K cs (spLife K cs.L tb.m tb.s) [.ref hs, v] H' er
theorem NoL.kv {er : Er} (h : NoL K cs tb hs H v er) (k : Kv H H1) : NoL K cs tb hs H1 v er := ⟨fun H2 k2 => h.go H2 (k.trans k2)⟩
theorem nl_none (E : Ev K tb hs lf cn H) (h : ∀ H', Kw H H' → LifeV K H' 2 1 v none) : NoL K cs tb hs H v (.life none) := ⟨fun H' k => t_life (E.kv k).hh ⟨h H' k.w, k.g _ E.m, k.g _ E.s⟩⟩
theorem nl_at (E : Ev K tb hs lf cn H) {l : List (Bool × Nat)} {i m : Nat} (h : ∀ H', Kw H H' → LifeV K H' 2 1 v (some l)) (g : GoodL l i) (b : l[i]? = some (false, m)) (si : i < 1000) : NoL K cs tb hs H v (.life (some i)) := ⟨fun H' k => t_lifeAt (E.kv k).hh ⟨h H' k.w, k.g _ E.m, k.g _ E.s⟩ g b si⟩
def erOk (e : Er) : Prop := (∃ i, e = .life i) ∧ e.word ∈ (["lifeNone", "life0", "life1"] : List Str)
def PairL (K : PySem.W.Frag) (cs : Cs) (tb : Tb) (hs : Addr) (H : Hp) (e : V) : Prop := ∃ t v er, e = .ref t ∧ H t = some (.tup [v, .str er.word]) ∧ NoL K cs tb hs H v er ∧ er.word ∈ (["lifeNone", "life0", "life1"] : List Str)
theorem PairL.kv {e : V} (h : PairL K cs tb hs H e) (k : Kv H H1) : PairL K cs tb hs H1 e := let ⟨t, v, er, a, b, c, d⟩ := h; ⟨t, v, er, a, k.w.t _ _ b, c.kv k, d⟩
theorem lWords_ok {x : Str} (h : x ∈ (["lifeNone", "life0", "life1"] : List Str)) : x.length ≤ 100 ∧ PyData.strOk x = true := by
  simp only [List.mem_cons, List.mem_nil_iff, or_false] at h
  rcases h with rfl | rfl | rfl <;> exact ⟨by decide +kernel, by decide +kernel⟩
theorem pairL_mk {t : Addr} {er : Er} (h : H t = some (.tup [v, .str x])) (e : er.word = x) (n : NoL K cs tb hs H v er) (hx : x ∈ (["lifeNone", "life0", "life1"] : List Str)) : PairL K cs tb hs H (.ref t) := ⟨t, v, er, rfl, by rw [e]; exact h, n, by rw [e]; exact hx⟩
theorem sess_low {t u : Addr} (h : H t = some (.tup [V.int 2, V.ref u])) (hu : H u = some (.tup [])) : SessN K H 2 1 (.ref t) (false, 0) := ⟨.bad h (.int 2) (o := some []) (.tup hu (Nat.le_of_ble_eq_true rfl) .nil) rfl, fun z => by cases z⟩
end
/-- what the law's run leans on -/
structure Lw (P : Program) (w : World) (K : PySem.W.Frag) (mg : Str → Option Value) (base : Heap) (cs : Cs) (tb : Tb) (Pa Pb : Addr) : Type where
  B : Blt mg
  W : WordD K mg cs
  al : Al P w K mg base cs tb
  na : ¬ Sk K Pa
  nb : ¬ Sk K Pb
  ab : Pa ≠ Pb
  fp : Addr
  dp : FuncData
  pk : Fn P w K mg base CX0 2 "_law_pick" ["row", "things"] (spPick K) fp dp
  fh : Addr
  dh : FuncData
  hr : Fn P w K mg base (L2.CX P w) 14 "_law_houses_refused" ["bad", "word"] (spHr K Pb) fh dh
section
variable {P : Program} {w : World} {K : PySem.W.Frag} {mg : Str → Option Value} {base : Heap} {cs : Cs} {tb : Tb} {f c Pa Pb a : Addr} {ns : List Int} {A : Around} {outer : List Env} {s : Shared} {H0 : Hp} {E0 : XK}
def At0 (K : PySem.W.Frag) (tb : Tb) (Pa Pb a : Addr) (ns : List Int) (σ : L2.St) (H : Hp) : Prop := σ = [some (.ref a), none, none, none, none, none, none, none, none, none, none, none, none] ∧ SqL K H a (ns.map V.int) ∧ Tbs tb Pa Pb H
def At1 (K : PySem.W.Frag) (tb : Tb) (Pa Pb a : Addr) (ns : List Int) (σ : L2.St) (H : Hp) : Prop := ∃ r, σ = [some (.ref a), some (.ref r), none, none, none, none, none, none, none, none, none, none, none] ∧ Rw K r a ns H ∧ Tbs tb Pa Pb H
/-- behind the house, the life, the coins -/
def AtA (K : PySem.W.Frag) (tb : Tb) (Pa Pb a : Addr) (ns : List Int) (F : Addr → Addr → Addr → Addr → Hp → Option V → Option V → Option V → Prop) (σ : L2.St) (H : Hp) : Prop := ∃ r hs lf cn y5 y6 y7, σ = [some (.ref a), some (.ref r), some (.ref hs), some (.ref lf), some (.ref cn), y5, y6, y7, none, none, none, none, none] ∧ Rw K r a ns H ∧ Tbs tb Pa Pb H ∧ Sh hs lf cn H ∧ F r hs lf cn H y5 y6 y7
theorem ev_of {hs lf cn : Addr} {H : Hp} (T : Tbs tb Pa Pb H) (h : Sh hs lf cn H) : Ev K tb hs lf cn H := ⟨h, T.m, T.s, T.n⟩
abbrev LRoom (A : Around) (s : Shared) (f c : Addr) : Prop := Room 14 (A.deeper (envOfC "law" (defScope s_law) s.heap.objs.size f (.ref c)))
theorem st0 (L : Lw P w K mg base cs tb Pa Pb) : Does (LX P w K mg base f c A outer s H0 E0) (lawSt 0) (At0 K tb Pa Pb a ns) (At1 K tb Pa Pb a ns) := by
  refine ⟨_, ps_set (i := 1) sc_law.nd rfl (Or.inl rfl) (pe_lst (pa_cons (pv 0) (pa_cons pe_int (pa_cons pe_int (pa_cons pe_int pa_nil))))), fun D σ H pre post => ?_⟩
  obtain ⟨rfl, ha, hT⟩ := pre
  refine ⟨.ref a, rfl, by show 4 ≤ sizeLine; decide, fun l nl => post _ _ ⟨l, rfl, ⟨⟨0, 18010, 0, upd_same, by decide, by decide, by decide⟩, ?_⟩, hT.ex (Ex.new nl)⟩⟩
  exact (Src.new ha nl).ex (Ex.new nl)
theorem st1 (L : Lw P w K mg base cs tb Pa Pb) : Does (LX P w K mg base f c A outer s H0 E0) (lawSt 1) (At1 K tb Pa Pb a ns) (AtA K tb Pa Pb a ns fun _ _ _ _ _ y5 y6 y7 => True) := by
  refine ⟨_, ps_asg (pe_tup (pa_cons (pe_tup (pa_cons pe_int (pa_cons pe_int (pa_cons pe_int (pa_cons pe_int (pa_cons pe_int pa_nil)))))) (pa_cons (pe_tup (pa_cons (pe_tup (pa_cons pe_int (pa_cons (pe_tup (pa_cons (pe_tup pa_nil) (pa_cons (pe_tup (pa_cons (pe_tup (pa_cons pe_int (pa_cons pe_int (pa_cons pe_int pa_nil)))) pa_nil)) pa_nil))) pa_nil))) pa_nil)) (pa_cons (pe_tup (pa_cons pe_int (pa_cons pe_int pa_nil))) pa_nil)))) (pg_tup rfl (pgs_cons (pg_name (i := 2) sc_law.nd rfl (Or.inr rfl)) (pgs_cons (pg_name (i := 3) sc_law.nd rfl (Or.inr rfl)) (pgs_cons (pg_name (i := 4) sc_law.nd rfl (Or.inr rfl)) pgs_nil)))), fun D σ H pre post => ?_⟩
  obtain ⟨r, rfl, W, hT⟩ := pre
  refine ⟨by show 5 ≤ sizeLine; decide, fun t1 n1 => ?_⟩
  have e1 := Ex.new (o := HO.tup [V.int 3, V.int 1, V.int 2, V.int 1, V.int 1]) n1
  refine ⟨by show 0 ≤ sizeLine; decide, fun t2 n2 => ?_⟩
  have e2 := Ex.new (o := HO.tup []) n2
  refine ⟨by show 3 ≤ sizeLine; decide, fun t3 n3 => ?_⟩
  have e3 := Ex.new (o := HO.tup [V.int 1, V.int 0, V.int 5]) n3
  refine ⟨by show 1 ≤ sizeLine; decide, fun t4 n4 => ?_⟩
  have e4 := Ex.new (o := HO.tup [V.ref t3]) n4
  refine ⟨by show 2 ≤ sizeLine; decide, fun t5 n5 => ?_⟩
  have e5 := Ex.new (o := HO.tup [V.ref t2, V.ref t4]) n5
  refine ⟨by show 2 ≤ sizeLine; decide, fun t6 n6 => ?_⟩
  have e6 := Ex.new (o := HO.tup [V.int 1, V.ref t5]) n6
  refine ⟨by show 1 ≤ sizeLine; decide, fun t7 n7 => ?_⟩
  have e7 := Ex.new (o := HO.tup [V.ref t6]) n7
  refine ⟨by show 2 ≤ sizeLine; decide, fun t8 n8 => ?_⟩
  have e8 := Ex.new (o := HO.tup [V.int 0, V.int 2]) n8
  refine ⟨by show 3 ≤ sizeLine; decide, fun t9 n9 => ?_⟩
  have e9 := Ex.new (o := HO.tup [V.ref t1, V.ref t7, V.ref t8]) n9
  have eN := (e1.trans (e2.trans (e3.trans (e4.trans (e5.trans (e6.trans (e7.trans (e8.trans e9))))))))
  refine ⟨t9, _, rfl, SqT.of upd_same, rfl, _, _, rfl, _, _, rfl, _, _, rfl, rfl, post _ _ ⟨r, t1, t7, t8, none, none, none, rfl, W.ex eN, hT.ex eN, ⟨t2, t3, t4, t5, t6, ((e2.trans (e3.trans (e4.trans (e5.trans (e6.trans (e7.trans (e8.trans e9))))))) _ _ upd_same), ((e3.trans (e4.trans (e5.trans (e6.trans (e7.trans (e8.trans e9)))))) _ _ upd_same), ((e4.trans (e5.trans (e6.trans (e7.trans (e8.trans e9))))) _ _ upd_same), ((e5.trans (e6.trans (e7.trans (e8.trans e9)))) _ _ upd_same), ((e6.trans (e7.trans (e8.trans e9))) _ _ upd_same), ((e7.trans (e8.trans e9)) _ _ upd_same), ((e8.trans e9) _ _ upd_same), (e9 _ _ upd_same)⟩, True.intro⟩⟩
/-- some pairs of wrong houses -/
def SomeH (K : PySem.W.Frag) (n : Nat) (r hs lf cn : Addr) (H : Hp) (y5 y6 y7 : Option V) : Prop := ∃ l xs, y5 = some (.ref l) ∧ H l = some (.lst xs) ∧ l ≠ r ∧ xs.length = n ∧ ∀ e ∈ xs, PairH K H e
theorem st2 (L : Lw P w K mg base cs tb Pa Pb) : Does (LX P w K mg base f c A outer s H0 E0) (lawSt 2) (AtA K tb Pa Pb a ns fun _ _ _ _ _ y5 y6 y7 => True) (AtA K tb Pa Pb a ns (SomeH K 4)) := by
  refine ⟨_, ps_set (i := 5) sc_law.nd rfl (Or.inl rfl) (pe_lst (pa_cons (pe_tup (pa_cons pe_non (pa_cons pe_str pa_nil))) (pa_cons (pe_tup (pa_cons (pe_lst (pa_cons pe_int (pa_cons pe_int (pa_cons pe_int (pa_cons pe_int (pa_cons pe_int pa_nil)))))) (pa_cons pe_str pa_nil))) (pa_cons (pe_tup (pa_cons (pe_tup (pa_cons pe_int (pa_cons pe_int (pa_cons pe_int (pa_cons pe_int (pa_cons pe_int pa_nil)))))) (pa_cons pe_str pa_nil))) (pa_cons (pe_tup (pa_cons (pe_tup (pa_cons pe_int (pa_cons pe_int (pa_cons pe_int (pa_cons pe_int (pa_cons pe_int pa_nil)))))) (pa_cons pe_str pa_nil))) pa_nil))))), fun D σ H pre post => ?_⟩
  obtain ⟨r, hs, lf, cn, y5, y6, y7, rfl, W, hT, hS, _⟩ := pre
  refine ⟨by show 2 ≤ sizeLine; decide, fun t1 n1 => ?_⟩
  have e1 := Ex.new (o := HO.tup [V.non, V.str "form"]) n1
  refine ⟨by show 5 ≤ sizeLine; decide, fun t2 n2 => ?_⟩
  have e2 := Ex.new (o := HO.lst [V.int 3, V.int 1, V.int 2, V.int 1, V.int 1]) n2
  refine ⟨by show 2 ≤ sizeLine; decide, fun t3 n3 => ?_⟩
  have e3 := Ex.new (o := HO.tup [V.ref t2, V.str "form"]) n3
  refine ⟨by show 5 ≤ sizeLine; decide, fun t4 n4 => ?_⟩
  have e4 := Ex.new (o := HO.tup [V.int 1, V.int 1, V.int 1, V.int 1, V.int 1]) n4
  refine ⟨by show 2 ≤ sizeLine; decide, fun t5 n5 => ?_⟩
  have e5 := Ex.new (o := HO.tup [V.ref t4, V.str "cells"]) n5
  refine ⟨by show 5 ≤ sizeLine; decide, fun t6 n6 => ?_⟩
  have e6 := Ex.new (o := HO.tup [V.int 3, V.int 4, V.int 1, V.int 1, V.int 1]) n6
  refine ⟨by show 2 ≤ sizeLine; decide, fun t7 n7 => ?_⟩
  have e7 := Ex.new (o := HO.tup [V.ref t6, V.str "sealed"]) n7
  refine ⟨by show 4 ≤ sizeLine; decide, fun t8 n8 => ?_⟩
  have e8 := Ex.new (o := HO.lst [V.ref t1, V.ref t3, V.ref t5, V.ref t7]) n8
  have eN := (e1.trans (e2.trans (e3.trans (e4.trans (e5.trans (e6.trans (e7.trans e8)))))))
  obtain ⟨xr, hxr⟩ := (W.ex (e1.trans (e2.trans (e3.trans (e4.trans (e5.trans (e6.trans e7))))))).put
  refine post _ _ ⟨r, hs, lf, cn, _, y6, y7, rfl, W.ex eN, hT.ex eN, hS.kw (Kw.ex eN), t8, _, rfl, upd_same, (ne_of_none hxr n8).symm, rfl, fun e he => ?_⟩
  simp only [List.mem_cons, List.mem_nil_iff, or_false] at he
  rcases he with rfl | rfl | rfl | rfl
  · exact ⟨t1, _, _, rfl, ((e2.trans (e3.trans (e4.trans (e5.trans (e6.trans (e7.trans e8)))))) _ _ upd_same), bh_non, List.mem_of_getElem? (i := 0) rfl⟩
  · exact ⟨t3, _, _, rfl, ((e4.trans (e5.trans (e6.trans (e7.trans e8)))) _ _ upd_same), bh_lst ((e3.trans (e4.trans (e5.trans (e6.trans (e7.trans e8))))) _ _ upd_same), List.mem_of_getElem? (i := 0) rfl⟩
  · exact ⟨t5, _, _, rfl, ((e6.trans (e7.trans e8)) _ _ upd_same), bh_tup ((e5.trans (e6.trans (e7.trans e8))) _ _ upd_same) ints5 (by decide +kernel), List.mem_of_getElem? (i := 1) rfl⟩
  · exact ⟨t7, _, _, rfl, (e8 _ _ upd_same), bh_tup ((e7.trans e8) _ _ upd_same) ints5 (by decide +kernel), List.mem_of_getElem? (i := 2) rfl⟩
/-- the wrong house that was drawn -/
def BadAt (K : PySem.W.Frag) (r hs lf cn : Addr) (H : Hp) (y5 y6 y7 : Option V) : Prop := ∃ v x, y6 = some v ∧ y7 = some (.str x) ∧ BadH K H v x ∧ x ∈ hWords
theorem st3 (L : Lw P w K mg base cs tb Pa Pb) (hr : LRoom A s f c) : Does (LX P w K mg base f c A outer s H0 E0) (lawSt 3) (AtA K tb Pa Pb a ns (SomeH K 4)) (AtA K tb Pa Pb a ns (BadAt K)) := by
  refine ⟨_, ps_asg (pe_call L.pk.G (hr.mono (by decide)) (by rfl) L.pk.m L.pk.k L.pk.b .nil pass0 (pa_cons (pv 1) (pa_cons (pe_op op_cat (pv 5) (pe_lst (pa_cons (pe_tup (pa_cons (pe_tup (pa_cons pe_int (pa_cons pe_int (pa_cons pe_int (pa_cons pe_int (pa_cons pe_int pa_nil)))))) (pa_cons pe_str pa_nil))) (pa_cons (pe_tup (pa_cons (pe_tup (pa_cons pe_int (pa_cons pe_int (pa_cons pe_int (pa_cons pe_int (pa_cons pe_int pa_nil)))))) (pa_cons pe_str pa_nil))) (pa_cons (pe_tup (pa_cons (pe_tup (pa_cons pe_int (pa_cons pe_int (pa_cons pe_int (pa_cons pe_int (pa_cons pe_int pa_nil)))))) (pa_cons pe_str pa_nil))) pa_nil))))) pa_nil))) (pg_tup rfl (pgs_cons (pg_name (i := 6) sc_law.nd rfl (Or.inl rfl)) (pgs_cons (pg_name (i := 7) sc_law.nd rfl (Or.inl rfl)) pgs_nil))), fun D σ H pre post => ?_⟩
  obtain ⟨r, hs, lf, cn, y5, y6, y7, rfl, W, hT, hS, l0, xs, rfl, hl0, nl0, len, hx⟩ := pre
  refine ⟨.ref r, rfl, .ref l0, rfl, ?_⟩
  refine ⟨by show 5 ≤ sizeLine; decide, fun t1 n1 => ?_⟩
  have e1 := Ex.new (o := HO.tup [V.int 3, V.int 1, V.int 5, V.int 1, V.int 1]) n1
  refine ⟨by show 2 ≤ sizeLine; decide, fun t2 n2 => ?_⟩
  have e2 := Ex.new (o := HO.tup [V.ref t1, V.str "drawers"]) n2
  refine ⟨by show 5 ≤ sizeLine; decide, fun t3 n3 => ?_⟩
  have e3 := Ex.new (o := HO.tup [V.int 3, V.int 1, V.int 1, V.int 0, V.int 1]) n3
  refine ⟨by show 2 ≤ sizeLine; decide, fun t4 n4 => ?_⟩
  have e4 := Ex.new (o := HO.tup [V.ref t3, V.str "pages"]) n4
  refine ⟨by show 5 ≤ sizeLine; decide, fun t5 n5 => ?_⟩
  have e5 := Ex.new (o := HO.tup [V.int 3, V.int 1, V.int 1, V.int 1, V.int 4]) n5
  refine ⟨by show 2 ≤ sizeLine; decide, fun t6 n6 => ?_⟩
  have e6 := Ex.new (o := HO.tup [V.ref t5, V.str "copies"]) n6
  refine ⟨by show 3 ≤ sizeLine; decide, fun t7 n7 => ?_⟩
  have e7 := Ex.new (o := HO.lst [V.ref t2, V.ref t4, V.ref t6]) n7
  have eN := (e1.trans (e2.trans (e3.trans (e4.trans (e5.trans (e6.trans e7))))))
  refine ⟨l0, t7, xs, _, rfl, rfl, eN _ _ hl0, upd_same, by rw [len]; show 4 + 3 ≤ sizeLine; decide, fun z nz => ?_⟩
  have ez := Ex.new (o := HO.lst (xs ++ [V.ref t2, V.ref t4, V.ref t6])) nz
  have eA := eN.trans ez
  have WA := W.ex eA
  obtain ⟨xr, hxr⟩ := (W.ex eN).put
  have all : ∀ e ∈ xs ++ [V.ref t2, V.ref t4, V.ref t6], PairH K _ e := fun e he => by
    rcases List.mem_append.mp he with h | h
    · exact (hx e h).kv (Kv.ex eA)
    · simp only [List.mem_cons, List.mem_nil_iff, or_false] at h
      rcases h with rfl | rfl | rfl
      · exact PairH.kv (H := _) ⟨t2, _, _, rfl, ((e3.trans (e4.trans (e5.trans (e6.trans e7)))) _ _ upd_same), bh_tup ((e2.trans (e3.trans (e4.trans (e5.trans (e6.trans e7))))) _ _ upd_same) ints5 (by decide +kernel), List.mem_of_getElem? (i := 3) rfl⟩ (Kv.ex ez)
      · exact PairH.kv (H := _) ⟨t4, _, _, rfl, ((e5.trans (e6.trans e7)) _ _ upd_same), bh_tup ((e4.trans (e5.trans (e6.trans e7))) _ _ upd_same) ints5 (by decide +kernel), List.mem_of_getElem? (i := 4) rfl⟩ (Kv.ex ez)
      · exact PairH.kv (H := _) ⟨t6, _, _, rfl, (e7 _ _ upd_same), bh_tup ((e6.trans e7) _ _ upd_same) ints5 (by decide +kernel), List.mem_of_getElem? (i := 5) rfl⟩ (Kv.ex ez)
  refine ⟨r, a, z, ns, _, rfl, WA, upd_same, (ne_of_none hxr nz).symm, by simp, by rw [List.length_append, len]; show 4 + 3 ≤ 1000; decide, fun v hv H' ro W' => ?_⟩
  obtain ⟨t, v', x, rfl, ht, bh, hw⟩ := (all v hv).kv ro.kv
  exact ⟨t, _, rfl, SqT.of ht, rfl, _, _, rfl, _, _, rfl, rfl, post _ _ ⟨r, hs, lf, cn, _, _, _, rfl, W', (hT.ex eA).row ro, (hS.kw (Kw.ex eA)).kw ro.kv.w, v', x, rfl, rfl, bh, hw⟩⟩
theorem st4 (L : Lw P w K mg base cs tb Pa Pb) (hr : LRoom A s f c) : Does (LX P w K mg base f c A outer s H0 E0) (lawSt 4) (AtA K tb Pa Pb a ns (BadAt K)) (AtA K tb Pa Pb a ns fun _ _ _ _ _ y5 y6 y7 => True) := by
  refine ⟨_, ps_if (pt_not (pt_val (pe_call L.hr.G hr (by rfl) L.hr.m L.hr.k L.hr.b .nil (passX (E := E0) rfl rfl rfl rfl) (pa_cons (pv 6) (pa_cons (pv 7) pa_nil))))) (pss_one (ps_ret pe_bl)) pss_nil, fun D σ H pre post => ?_⟩
  obtain ⟨r, hs, lf, cn, y5, y6, y7, rfl, W, hT, hS, v, x, rfl, rfl, bh, hw⟩ := pre
  obtain ⟨lx, ok⟩ := hWords_ok hw
  refine ⟨v, rfl, .str x, rfl, v, x, rfl, bh, lx, ok, hT.b, fun H' k Tb => ⟨true, rfl, iteF ?_⟩⟩
  have nPa : ¬ S1 K Pb Pa := fun z => z.elim L.na L.ab
  exact post _ _ ⟨r, hs, lf, cn, _, _, _, rfl, W.kl k, ⟨k.g _ hT.m, k.g _ hT.s, k.g _ hT.n, tabS_kl nPa hT.a k, Tb⟩, hS.kw k.w, True.intro⟩
/-- some pairs of wrong lives -/
def SomeL (K : PySem.W.Frag) (cs : Cs) (tb : Tb) (n : Nat) (r hs lf cn : Addr) (H : Hp) (y5 y6 y7 : Option V) : Prop := ∃ l xs, y5 = some (.ref l) ∧ H l = some (.lst xs) ∧ l ≠ r ∧ xs.length = n ∧ ∀ e ∈ xs, PairL K cs tb hs H e
theorem st5 (L : Lw P w K mg base cs tb Pa Pb) : Does (LX P w K mg base f c A outer s H0 E0) (lawSt 5) (AtA K tb Pa Pb a ns fun _ _ _ _ _ y5 y6 y7 => True) (AtA K tb Pa Pb a ns (SomeL K cs tb 4)) := by
  refine ⟨_, ps_set (i := 5) sc_law.nd rfl (Or.inl rfl) (pe_lst (pa_cons (pe_tup (pa_cons pe_non (pa_cons pe_str pa_nil))) (pa_cons (pe_tup (pa_cons (pe_tup pa_nil) (pa_cons pe_str pa_nil))) (pa_cons (pe_tup (pa_cons (pe_lst pa_nil) (pa_cons pe_str pa_nil))) (pa_cons (pe_tup (pa_cons (pe_tup (pa_cons (pe_tup (pa_cons pe_int (pa_cons (pe_tup pa_nil) pa_nil))) pa_nil)) (pa_cons pe_str pa_nil))) pa_nil))))), fun D σ H pre post => ?_⟩
  obtain ⟨r, hs, lf, cn, y5, y6, y7, rfl, W, hT, hS, _⟩ := pre
  refine ⟨by show 2 ≤ sizeLine; decide, fun t1 n1 => ?_⟩
  have e1 := Ex.new (o := HO.tup [V.non, V.str "lifeNone"]) n1
  refine ⟨by show 0 ≤ sizeLine; decide, fun t2 n2 => ?_⟩
  have e2 := Ex.new (o := HO.tup []) n2
  refine ⟨by show 2 ≤ sizeLine; decide, fun t3 n3 => ?_⟩
  have e3 := Ex.new (o := HO.tup [V.ref t2, V.str "lifeNone"]) n3
  refine ⟨by show 0 ≤ sizeLine; decide, fun t4 n4 => ?_⟩
  have e4 := Ex.new (o := HO.lst []) n4
  refine ⟨by show 2 ≤ sizeLine; decide, fun t5 n5 => ?_⟩
  have e5 := Ex.new (o := HO.tup [V.ref t4, V.str "lifeNone"]) n5
  refine ⟨by show 0 ≤ sizeLine; decide, fun t6 n6 => ?_⟩
  have e6 := Ex.new (o := HO.tup []) n6
  refine ⟨by show 2 ≤ sizeLine; decide, fun t7 n7 => ?_⟩
  have e7 := Ex.new (o := HO.tup [V.int 2, V.ref t6]) n7
  refine ⟨by show 1 ≤ sizeLine; decide, fun t8 n8 => ?_⟩
  have e8 := Ex.new (o := HO.tup [V.ref t7]) n8
  refine ⟨by show 2 ≤ sizeLine; decide, fun t9 n9 => ?_⟩
  have e9 := Ex.new (o := HO.tup [V.ref t8, V.str "life0"]) n9
  refine ⟨by show 4 ≤ sizeLine; decide, fun t10 n10 => ?_⟩
  have e10 := Ex.new (o := HO.lst [V.ref t1, V.ref t3, V.ref t5, V.ref t9]) n10
  have eN := (e1.trans (e2.trans (e3.trans (e4.trans (e5.trans (e6.trans (e7.trans (e8.trans (e9.trans e10)))))))))
  obtain ⟨xr, hxr⟩ := (W.ex (e1.trans (e2.trans (e3.trans (e4.trans (e5.trans (e6.trans (e7.trans (e8.trans e9))))))))).put
  have ev := ev_of (K := K) (hT.ex eN) (hS.kw (Kw.ex eN))
  refine post _ _ ⟨r, hs, lf, cn, _, y6, y7, rfl, W.ex eN, hT.ex eN, hS.kw (Kw.ex eN), t10, _, rfl, upd_same, (ne_of_none hxr n10).symm, rfl, fun e he => ?_⟩
  simp only [List.mem_cons, List.mem_nil_iff, or_false] at he
  rcases he with rfl | rfl | rfl | rfl
  · exact pairL_mk ((e2.trans (e3.trans (e4.trans (e5.trans (e6.trans (e7.trans (e8.trans (e9.trans e10)))))))) _ _ upd_same) (er := .life none) (by decide +kernel) (nl_none ev fun H' k => .out .non (by decide)) (List.mem_of_getElem? (i := 0) rfl)
  · exact pairL_mk ((e4.trans (e5.trans (e6.trans (e7.trans (e8.trans (e9.trans e10)))))) _ _ upd_same) (er := .life none) (by decide +kernel) (nl_none ev fun H' k => .len (k.t _ _ ((e3.trans (e4.trans (e5.trans (e6.trans (e7.trans (e8.trans (e9.trans e10))))))) _ _ upd_same)) (.inl rfl)) (List.mem_of_getElem? (i := 0) rfl)
  · exact pairL_mk ((e6.trans (e7.trans (e8.trans (e9.trans e10)))) _ _ upd_same) (er := .life none) (by decide +kernel) (nl_none ev fun H' k => (let ⟨ys, g⟩ := k.l _ _ ((e5.trans (e6.trans (e7.trans (e8.trans (e9.trans e10))))) _ _ upd_same); .out (.lst g) (by decide))) (List.mem_of_getElem? (i := 0) rfl)
  · exact pairL_mk (e10 _ _ upd_same) (er := .life (some 0)) (by decide +kernel) (nl_at ev (l := [(false, 0)]) (i := 0) (m := 0) (fun H' k => .tup (k.t _ _ ((e9.trans e10) _ _ upd_same)) (Nat.le_of_ble_eq_true rfl) (Nat.le_of_ble_eq_true rfl) (.cons (sess_low (k.t _ _ ((e8.trans (e9.trans e10)) _ _ upd_same)) (k.t _ _ ((e7.trans (e8.trans (e9.trans e10))) _ _ upd_same))) .nil)) ⟨rfl, by decide⟩ rfl (by decide)) (List.mem_of_getElem? (i := 1) rfl)
/-- the wrong life that was drawn -/
def AtB (K : PySem.W.Frag) (cs : Cs) (tb : Tb) (Pa a : Addr) (zs : Option (List Str)) (σ : L2.St) (H : Hp) : Prop := ∃ r hs lf cn y5 y6 y7 v er z, σ = [some (.ref a), some (.ref r), some (.ref hs), some (.ref lf), some (.ref cn), y5, y6, y7, some v, some (.str (Er.word er)), z, none, none] ∧ LamX.TabS H Pa lawQ ∧ Ev K tb hs lf cn H ∧ NoL K cs tb hs H v er ∧ er.word ∈ (["lifeNone", "life0", "life1"] : List Str) ∧ ∀ ws, zs = some ws → ∃ T, z = some (.ref T) ∧ H T = some (.lst (ws.map V.str))
theorem sess_deep {H : Hp} {t5 t6 t4 t3 : Addr} (h6 : H t6 = some (.tup [V.int 0, V.ref t5])) (h5 : H t5 = some (.tup [V.ref t4])) (h4 : H t4 = some (.tup [V.ref t3])) (h3 : H t3 = some (.tup [V.int 1, V.int 0, V.int 0])) : SessN K H 2 1 (.ref t6) (false, 0) := by
  have d3 : DeedV K H 2 1 (.ref t3) true := (show DeedV K H 2 1 (.ref t3) (deedB 2 1 [V.int 1, V.int 0, V.int 0]) from .tup h3 fun y hy => by
    simp only [List.mem_cons, List.mem_nil_iff, or_false] at hy
    rcases hy with rfl | rfl | rfl <;> exact ⟨_, .int _⟩)
  have m4 : MomentV K H 2 1 (.ref t4) true := (show MomentV K H 2 1 (.ref t4) (decide (([V.ref t3] : List V).length ≤ 6) && [true].all id) from .tup h4 (.cons d3 .nil))
  have lo : StoryLow H 0 (.ref t5) false := ⟨t5, _, [false], rfl, h5, rfl, .cons ⟨t4, _, [false], rfl, h4, (Nat.le_of_ble_eq_true rfl), rfl, .cons ⟨t3, 1, _, rfl, h3, rfl⟩ .nil⟩ .nil⟩
  exact ⟨.good h6 rfl (o := some [true]) (.tup h5 (Nat.le_of_ble_eq_true rfl) (.cons m4 .nil)) rfl lo, fun z => by cases z⟩
theorem sess_one {H : Hp} {t1 t2 : Addr} (h2 : H t2 = some (.tup [V.int 1, V.ref t1])) (h1 : H t1 = some (.tup [])) : SessN K H 2 1 (.ref t2) (true, 0) :=
  ⟨.good h2 rfl (o := some []) (.tup h1 (Nat.le_of_ble_eq_true rfl) .nil) rfl ⟨t1, [], [], rfl, h1, rfl, .nil⟩, fun _ => ⟨t2, _, t1, _, rfl, h2, h1, rfl⟩⟩
theorem sess_long {H : Hp} {t11 t12 t9 : Addr} (h : H t12 = some (.tup [V.int 0, V.ref t11])) (h1 : H t11 = some (.tup (List.replicate 41 (V.ref t9)))) : SessN K H 2 1 (.ref t12) (false, 0) :=
  ⟨.bad h (.int 0) (o := none) (.long h1 (by rw [List.length_replicate]; decide)) rfl, fun z => by cases z⟩
theorem st6 (L : Lw P w K mg base cs tb Pa Pb) (hr : LRoom A s f c) : Does (LX P w K mg base f c A outer s H0 E0) (lawSt 6) (AtA K tb Pa Pb a ns (SomeL K cs tb 4)) (AtB K cs tb Pa a none) := by
  refine ⟨_, ps_asg (pe_call L.pk.G (hr.mono (by decide)) (by rfl) L.pk.m L.pk.k L.pk.b .nil pass0 (pa_cons (pv 1) (pa_cons (pe_op op_cat (pv 5) (pe_lst (pa_cons (pe_tup (pa_cons (pe_tup (pa_cons (pe_tup (pa_cons pe_int (pa_cons (pe_tup pa_nil) pa_nil))) (pa_cons (pe_tup (pa_cons pe_int (pa_cons (pe_tup (pa_cons (pe_tup (pa_cons (pe_tup (pa_cons pe_int (pa_cons pe_int (pa_cons pe_int pa_nil)))) pa_nil)) pa_nil)) pa_nil))) pa_nil))) (pa_cons pe_str pa_nil))) (pa_cons (pe_tup (pa_cons (pe_tup (pa_cons (pe_tup (pa_cons pe_int (pa_cons (pe_op op_times (pe_tup (pa_cons (pe_tup pa_nil) pa_nil)) pe_int) pa_nil))) pa_nil)) (pa_cons pe_str pa_nil))) pa_nil)))) pa_nil))) (pg_tup rfl (pgs_cons (pg_name (i := 8) sc_law.nd rfl (Or.inr rfl)) (pgs_cons (pg_name (i := 9) sc_law.nd rfl (Or.inl rfl)) pgs_nil))), fun D σ H pre post => ?_⟩
  obtain ⟨r, hs, lf, cn, y5, y6, y7, rfl, W, hT, hS, l0, xs, rfl, hl0, nl0, len, hx⟩ := pre
  refine ⟨.ref r, rfl, .ref l0, rfl, ?_⟩
  refine ⟨by show 0 ≤ sizeLine; decide, fun t1 n1 => ?_⟩
  have e1 := Ex.new (o := HO.tup []) n1
  refine ⟨by show 2 ≤ sizeLine; decide, fun t2 n2 => ?_⟩
  have e2 := Ex.new (o := HO.tup [V.int 1, V.ref t1]) n2
  refine ⟨by show 3 ≤ sizeLine; decide, fun t3 n3 => ?_⟩
  have e3 := Ex.new (o := HO.tup [V.int 1, V.int 0, V.int 0]) n3
  refine ⟨by show 1 ≤ sizeLine; decide, fun t4 n4 => ?_⟩
  have e4 := Ex.new (o := HO.tup [V.ref t3]) n4
  refine ⟨by show 1 ≤ sizeLine; decide, fun t5 n5 => ?_⟩
  have e5 := Ex.new (o := HO.tup [V.ref t4]) n5
  refine ⟨by show 2 ≤ sizeLine; decide, fun t6 n6 => ?_⟩
  have e6 := Ex.new (o := HO.tup [V.int 0, V.ref t5]) n6
  refine ⟨by show 2 ≤ sizeLine; decide, fun t7 n7 => ?_⟩
  have e7 := Ex.new (o := HO.tup [V.ref t2, V.ref t6]) n7
  refine ⟨by show 2 ≤ sizeLine; decide, fun t8 n8 => ?_⟩
  have e8 := Ex.new (o := HO.tup [V.ref t7, V.str "life1"]) n8
  refine ⟨by show 0 ≤ sizeLine; decide, fun t9 n9 => ?_⟩
  have e9 := Ex.new (o := HO.tup []) n9
  refine ⟨by show 1 ≤ sizeLine; decide, fun t10 n10 => ?_⟩
  have e10 := Ex.new (o := HO.tup [V.ref t9]) n10
  refine times_q (m := 41) upd_same rfl (by decide) (by decide) fun t11 G11 e11 g11 => ?_
  refine ⟨by show 2 ≤ sizeLine; decide, fun t12 n12 => ?_⟩
  have e12 := Ex.new (o := HO.tup [V.int 0, V.ref t11]) n12
  refine ⟨by show 1 ≤ sizeLine; decide, fun t13 n13 => ?_⟩
  have e13 := Ex.new (o := HO.tup [V.ref t12]) n13
  refine ⟨by show 2 ≤ sizeLine; decide, fun t14 n14 => ?_⟩
  have e14 := Ex.new (o := HO.tup [V.ref t13, V.str "life0"]) n14
  refine ⟨by show 2 ≤ sizeLine; decide, fun t15 n15 => ?_⟩
  have e15 := Ex.new (o := HO.lst [V.ref t8, V.ref t14]) n15
  have eN := (e1.trans (e2.trans (e3.trans (e4.trans (e5.trans (e6.trans (e7.trans (e8.trans (e9.trans (e10.trans (e11.trans (e12.trans (e13.trans (e14.trans e15))))))))))))))
  refine ⟨l0, t15, xs, _, rfl, rfl, eN _ _ hl0, upd_same, by rw [len]; show 4 + 2 ≤ sizeLine; decide, fun z nz => ?_⟩
  have ez := Ex.new (o := HO.lst (xs ++ [V.ref t8, V.ref t14])) nz
  have eA := eN.trans ez
  have WA := W.ex eA
  obtain ⟨xr, hxr⟩ := (W.ex eN).put
  have ev := ev_of (K := K) (hT.ex eN) (hS.kw (Kw.ex eN))
  have all : ∀ e ∈ xs ++ [V.ref t8, V.ref t14], PairL K cs tb hs _ e := fun e he => by
    rcases List.mem_append.mp he with h | h
    · exact (hx e h).kv (Kv.ex eA)
    · simp only [List.mem_cons, List.mem_nil_iff, or_false] at h
      rcases h with rfl | rfl
      · exact (pairL_mk (cs := cs) ((e9.trans (e10.trans (e11.trans (e12.trans (e13.trans (e14.trans e15)))))) _ _ upd_same) (er := .life (some 1)) (by decide +kernel) (nl_at ev (l := [(true, 0), (false, 0)]) (i := 1) (m := 0) (fun H' k => .tup (k.t _ _ ((e8.trans (e9.trans (e10.trans (e11.trans (e12.trans (e13.trans (e14.trans e15))))))) _ _ upd_same)) (Nat.le_of_ble_eq_true rfl) (Nat.le_of_ble_eq_true rfl) (.cons (sess_one (k.t _ _ ((e3.trans (e4.trans (e5.trans (e6.trans (e7.trans (e8.trans (e9.trans (e10.trans (e11.trans (e12.trans (e13.trans (e14.trans e15)))))))))))) _ _ upd_same)) (k.t _ _ ((e2.trans (e3.trans (e4.trans (e5.trans (e6.trans (e7.trans (e8.trans (e9.trans (e10.trans (e11.trans (e12.trans (e13.trans (e14.trans e15))))))))))))) _ _ upd_same))) (.cons (sess_deep (k.t _ _ ((e7.trans (e8.trans (e9.trans (e10.trans (e11.trans (e12.trans (e13.trans (e14.trans e15)))))))) _ _ upd_same)) (k.t _ _ ((e6.trans (e7.trans (e8.trans (e9.trans (e10.trans (e11.trans (e12.trans (e13.trans (e14.trans e15))))))))) _ _ upd_same)) (k.t _ _ ((e5.trans (e6.trans (e7.trans (e8.trans (e9.trans (e10.trans (e11.trans (e12.trans (e13.trans (e14.trans e15)))))))))) _ _ upd_same)) (k.t _ _ ((e4.trans (e5.trans (e6.trans (e7.trans (e8.trans (e9.trans (e10.trans (e11.trans (e12.trans (e13.trans (e14.trans e15))))))))))) _ _ upd_same))) .nil))) ⟨rfl, by decide⟩ rfl (by decide)) (List.mem_of_getElem? (i := 2) rfl)).kv (Kv.ex ez)
      · exact (pairL_mk (cs := cs) (e15 _ _ upd_same) (er := .life (some 0)) (by decide +kernel) (nl_at ev (l := [(false, 0)]) (i := 0) (m := 0) (fun H' k => .tup (k.t _ _ ((e14.trans e15) _ _ upd_same)) (Nat.le_of_ble_eq_true rfl) (Nat.le_of_ble_eq_true rfl) (.cons (sess_long (k.t _ _ ((e13.trans (e14.trans e15)) _ _ upd_same)) (k.t _ _ ((e12.trans (e13.trans (e14.trans e15))) _ _ g11))) .nil)) ⟨rfl, by decide⟩ rfl (by decide)) (List.mem_of_getElem? (i := 1) rfl)).kv (Kv.ex ez)
  refine ⟨r, a, z, ns, _, rfl, WA, upd_same, (ne_of_none hxr nz).symm, by simp, by rw [List.length_append, len]; show 4 + 2 ≤ 1000; decide, fun v hv H' ro W' => ?_⟩
  obtain ⟨t, v', er, rfl, ht, nl, hw⟩ := (all v hv).kv ro.kv
  have T' := (hT.ex eA).row ro
  exact ⟨t, _, rfl, SqT.of ht, rfl, _, _, rfl, _, _, rfl, rfl, post _ _ ⟨r, hs, lf, cn, _, y6, y7, v', er, none, rfl, T'.a, ev_of T' ((hS.kw (Kw.ex eA)).kw ro.kv.w), nl, hw, fun ws e => by cases e⟩⟩
end
end K10

set_option maxHeartbeats 4000000
namespace K10
open PySem PySem.Spec PyProof.Rows L2 Hd Evl
section
variable {K : PySem.W.Frag} {P : Addr} {q : Str} {H H' H1 : Hp} {cs : Cs} {er : Er} {σ : L2.St}
/-- words of some values, one behind another -/
theorem lc_gen {xs : List V} {te : TE} {ww : Str} {i : Nat} {H0 : Hp} {l D : Addr} {vsn : List Nat} {Qd : Hp → Prop} (F : Hp → Prop) (pins : List (Addr × List V))
    (nD : H0 D = none) (hl : H0 l = some (.lst xs)) (T : LamX.TabS H0 P q) (lf : xs.length ≤ 100) (hF : F H0) (hp : ∀ p ∈ pins, H0 p.1 = some (.lst p.2))
    (kv : ∀ G G', F G → Kv G G' → F G') (wip2 : ∀ v, wipe ((wipe σ vsn).set i (some v)) vsn = wipe σ vsn)
    (step : ∀ x ∈ xs, ∀ G, F G → LamX.TabS G P q → ∀ Qy : VK, (∀ H3, Kl (S1 K P) G H3 → LamX.TabS H3 P q → Qy (.str ww) H3) → te ((wipe σ vsn).set i (some x)) G Qy)
    (hd : ∀ G, F G → LamX.TabS G P q → Kl (S1 K P) H0 G → G D = some (.lst (List.replicate xs.length (.str ww))) → (∀ p ∈ pins, G p.1 = some (.lst p.2)) → Qd G) :
    ∃ W : Nat → Nat → Hp → Prop, (∃ m, W 0 m (upd H0 D (.lst []))) ∧ ∀ i' m H, W i' m H →
      ((Itl K l).stop i' H ∧ Qd H) ∨ ((Itl K l).go i' H ∧ ∃ Nx : Hp → Prop, (∀ H', Nx H' → ∃ m', m' < m ∧ W (i' + 1) m' H') ∧ ∀ x H', (Itl K l).yld i' H x H' → gName i x (wipe σ vsn) H' fun σ2 H2 => wipe σ2 vsn = wipe σ vsn ∧ tYes σ2 H2 fun b H3 =>
        if b = true then te σ2 H3 fun y H4 => ∃ acc, H4 D = some (.lst acc) ∧ acc.length < sizeLine ∧ Nx (upd H4 D (.lst (acc ++ [y]))) else Nx H3) := by
  have e0 : Ex H0 (upd H0 D (.lst [])) := Ex.new nD
  have far : ∀ (b : Addr) (o : HO), H0 b = some o → b ≠ D := fun b o h e => by rw [e, nD] at h; cases h
  refine lc_list (xs := xs) (fun j G => G D = some (.lst (List.replicate j (.str ww))) ∧ F G ∧ LamX.TabS G P q ∧ (∀ b o, b ≠ D → (∀ ps, o ≠ .tbl ps) → H0 b = some o → G b = some o) ∧ (∀ b o, b ≠ D → ¬ S1 K P b → H0 b = some o → G b = some o) ∧ (∀ P', GxR.TabG H0 P' → GxR.TabG G P')) ?_ (fun j G _ w => ?_) (fun j x G hx w => ?_) (fun G w => ?_)
  · exact ⟨upd_same, kv _ _ hF (Kv.ex e0), T.ext e0, fun b o n _ h => e0 _ _ h, fun b o n _ h => e0 _ _ h, fun P' h => tab_ex h e0⟩
  · exact SqL.of (w.2.2.2.1 l _ (far _ _ hl) (fun ps z => by cases z) hl)
  · obtain ⟨gD, fG, tG, e1, s1, g1⟩ := w
    have hm := List.mem_of_getElem? hx
    have jl : j < xs.length := (List.getElem?_eq_some_iff.mp hx).1
    refine ⟨wip2 _, yes_go ?_⟩
    refine step x hm G fG tG _ fun H3 k3 T3 => ?_
    · have g3 : H3 D = some (.lst (List.replicate j (.str ww))) := k3.l _ _ gD
      refine ⟨_, g3, by rw [List.length_replicate]; exact Nat.lt_of_lt_of_le (Nat.lt_of_lt_of_le jl lf) (by decide), ?_, kv _ _ (kv _ _ fG k3.v) (Kv.put g3), tabS_put T3 g3, fun b o n nt h => ?_, fun b o n nt h => ?_, fun P' h => (Kv.put g3).g _ (k3.g _ (g1 P' h))⟩
      · rw [upd_same, ← List.replicate_succ'] <;> rfl
      · rw [upd_ne n]
        exact k3.e _ _ (e1 b o n nt h) nt
      · rw [upd_ne n]
        exact k3.s _ _ nt (s1 b o n nt h)
  · obtain ⟨gD, fG, tG, e1, s1, g1⟩ := w
    exact hd G fG tG ⟨fun b o h n => e1 b o (far _ _ h) n h, fun b o n h => s1 b o (far _ _ h) n h, g1⟩ gD fun p hp1 => e1 _ _ (far _ _ (hp p hp1)) (fun ps z => by cases z) (hp p hp1)
end
section
variable {K : PySem.W.Frag} {tb : Tb} {cs : Cs} {hs lf cn t : Addr} {H : Hp}
theorem cv03 (h : H t = some (.tup [V.int 0, V.int 3])) : CoinsV K H (nck 3 1) 2 (.ref t) (some [true, false]) := .tup h rfl (.cons (coinV3 (by decide +kernel)) (.cons (coinV3 (by decide +kernel)) .nil))
theorem tv0 (h : H t = some (.tup [V.int 0])) : TimesV K H 2 (.ref t) true := (show TimesV K H 2 (.ref t) (ascV (((2 : Nat) : Int) + 1) 0 [V.int 0]) from .tup h fun y hy => by rw [List.mem_singleton.mp hy]; exact ⟨_, .int 0⟩)
theorem tv3 (h : H t = some (.tup [V.int 3])) : TimesV K H 2 (.ref t) false := (show TimesV K H 2 (.ref t) (ascV (((2 : Nat) : Int) + 1) 0 [V.int 3]) from .tup h fun y hy => by rw [List.mem_singleton.mp hy]; exact ⟨_, .int 3⟩)
theorem st00 (h : H t = some (.tup [])) : StoryV K H 2 1 (.ref t) (some []) := .tup h (Nat.zero_le _) .nil
theorem stu {t1 : Addr} {u : V} (h : H t = some (.tup [V.ref t1, u])) (h1 : H t1 = some (.tup [])) (hu : MomentV K H 2 1 u false) : StoryV K H 2 1 (.ref t) (some [true, false]) := .tup h (Nat.le_of_ble_eq_true rfl) (.cons (moment0 h1) (.cons hu .nil))
def aWords : List Str := ["lifeNone", "life0", "life1", "way", "coins1", "drawer", "story1", "storyNone", "page", "times"]
theorem aWords_ok {x : Str} (h : x ∈ aWords) : x.length ≤ 100 ∧ PyData.strOk x = true := by
  simp only [aWords, List.mem_cons, List.mem_nil_iff, or_false] at h
  rcases h with rfl | rfl | rfl | rfl | rfl | rfl | rfl | rfl | rfl | rfl <;> exact ⟨by decide +kernel, by decide +kernel⟩
theorem w_way : Er.word (.house "way") = "way" := rfl
theorem w_coins : Er.word (.coins (some 1)) = "coins1" := by decide +kernel
theorem w_drawer : Er.word .drawer = "drawer" := rfl
theorem w_story1 : Er.word (.story (some 1)) = "story1" := by decide +kernel
theorem w_storyN : Er.word (.story none) = "storyNone" := by decide +kernel
theorem w_page : Er.word .page = "page" := rfl
theorem w_times : Er.word .times = "times" := rfl
end
section
variable {P : Program} {w : World} {K : PySem.W.Frag} {mg : Str → Option Value} {base : Heap} {cs : Cs} {tb : Tb} {f c Pa Pb a : Addr} {ns : List Int} {A : Around} {outer : List Env} {s : Shared} {H0 : Hp} {E0 : XK}
/-- behind the draws: n words w stand in told -/
def AtC (K : PySem.W.Frag) (cs : Cs) (tb : Tb) (Pa a : Addr) (zs : Er → Option (List Str)) (σ : L2.St) (H : Hp) : Prop := ∃ r hs lf cn y5 y6 y7 v er z, σ = [some (.ref a), some (.ref r), some (.ref hs), some (.ref lf), some (.ref cn), y5, y6, y7, some v, some (.str (Er.word er)), z, none, none] ∧ LamX.TabS H Pa lawQ ∧ Ev K tb hs lf cn H ∧ NoL K cs tb hs H v er ∧ er.word ∈ (["lifeNone", "life0", "life1"] : List Str) ∧ ∀ ws, zs er = some ws → ∃ T, z = some (.ref T) ∧ H T = some (.lst (ws.map V.str))
theorem atB_C {σ : L2.St} {H : Hp} (h : AtB K cs tb Pa a none σ H) : AtC K cs tb Pa a (fun _ => none) σ H := by
  obtain ⟨r, hs, lf, cn, y5, y6, y7, v, er, z, e, tS, ev, nl, hw, hz⟩ := h
  exact ⟨r, hs, lf, cn, y5, y6, y7, v, er, z, e, tS, ev, nl, hw, fun ws e => by cases e⟩
theorem st7 (L : Lw P w K mg base cs tb Pa Pb) (TB : LamX.TabB base mg c Pa) (hr : LRoom A s f c) : Does (LX P w K mg base f c A outer s H0 E0) (lawSt 7) (AtC K cs tb Pa a (fun _ => none)) (AtC K cs tb Pa a (fun e => some (List.replicate 2 (e.word)))) := by
  refine ⟨_, ps_setLc (i := 10) (own := [("ask", 11)]) (g := gName 11) (by rfl) sc_law.nd rfl rfl (sw_true rfl rfl (by rfl) (by decide +kernel)) (pi_list (pe_lst (pa_cons (pe_glob (v := .ref L.al.f_row_count) rfl L.al.row_count.m rfl) (pa_cons (pe_glob (v := .ref L.al.f_written) rfl L.al.written.m rfl) pa_nil)))) (blkOk_by (own := [("ask", 11)]) (N := n_law) (sc := defScope s_law) (by decide +kernel)) (fun _ _ _ _ _ => pg_name (i := 11) sc_law.nd rfl (Or.inr rfl)) (fun _ _ _ _ _ => pts_nil)
        (fun _ _ _ _ _ => pe_word L.W lawQ TB rfl rfl (by rfl) (k := 11) (hr.mono (by decide)) (LamX.lamS_by (by rfl)) (fun A' outer' s' H' E' f' c' hr' => pe_callAny (i := 11) (fs := L.al.l1) (fun q hq => (L.al.ok_l1 q hq).1) hr' (fun q hq => (L.al.ok_l1 q hq).2) (passX (E := E') rfl rfl rfl rfl) (pa_cons (pv 2) (pa_cons (pv 8) pa_nil))) (by rfl) (fun _ _ _ _ _ => by rfl)), fun D σ H pre post => ?_⟩
  obtain ⟨r, hs, lf, cn, y5, y6, y7, v, er, z, rfl, tS, ev, nl, hw, hz⟩ := pre
  refine ⟨by show 2 ≤ sizeLine; decide, fun l nl_ => ⟨l, rfl, ⟨_, SqL.of upd_same⟩, fun D2 nD => ?_⟩⟩
  have e1 := Ex.new (o := HO.lst (L.al.l1.map fun p => V.ref p.1)) nl_
  refine lc_words (K := K) (er := er) (q := lawQ) (fun G => Ev K tb hs lf cn G ∧ NoL K cs tb hs G v er) [] nD upd_same (tS.ext e1) L.na (lWords_ok hw).1 (by show 2 ≤ 100; decide) ⟨ev.kv (Kv.ex e1), nl.kv (Kv.ex e1)⟩ (fun p hp => by cases hp) (fun G G' h k => ⟨h.1.kv k, h.2.kv k⟩) rfl (fun _ => rfl) (fun _ => rfl) (fun p hp G Q E fG hE => ?_) fun G fG tG kG gD pin => ?_
  · obtain ⟨ev, nl⟩ := fG
    refine ⟨.ref hs, rfl, ?_⟩
    refine ⟨v, rfl, ?_⟩
    simp only [Al.l1, List.mem_cons, List.mem_nil_iff, or_false] at hp
    rcases hp with rfl | rfl
    · exact ⟨_, _, rfl, (p_house ev.hh) _ _ fun H1_ k1_ => (nl.go _ (k1_).v) _ _ fun cls d H3 k i => hE cls d _ H3 (Ex.refl _) (Ks.trans k1_ k) i⟩
    · exact ⟨_, _, rfl, (p_house ev.hh) _ _ fun H1_ k1_ => (nl.go _ (k1_).v) _ _ fun cls d H3 k i => hE cls d _ H3 (Ex.refl _) (Ks.trans k1_ k) i⟩
  · exact post _ _ ⟨r, hs, lf, cn, y5, y6, y7, v, er, _, rfl, tG, fG.1, fG.2, hw, fun ws e => by
      cases e
      exact ⟨D2, rfl, gD.trans (by rw [rep_words] <;> rfl)⟩⟩
theorem st8 (L : Lw P w K mg base cs tb Pa Pb) (TB : LamX.TabB base mg c Pa) (hr : LRoom A s f c) : Does (LX P w K mg base f c A outer s H0 E0) (lawSt 8) (AtC K cs tb Pa a (fun e => some (List.replicate 2 (e.word)))) (AtC K cs tb Pa a (fun e => some (List.replicate 3 (e.word)))) := by
  refine ⟨_, ps_expr (pe_bm PySem.F.plainAttrs_list PySem.F.slot_list_append PySem.F.type_list_append mt_append (pv 10) (pa_cons (pe_word L.W lawQ TB rfl rfl (by rfl) (k := 11) (hr.mono (by decide)) (LamX.lamS_by (by rfl)) (fun A' outer' s' H' E' f' c' hr' => pe_call L.al.upper.G hr' (by rfl) L.al.upper.m L.al.upper.k L.al.upper.b .nil (passX (E := E') rfl rfl rfl rfl) (pa_cons (pv 2) (pa_cons (pv 8) (pa_cons pe_non pa_nil)))) (by rfl) (fun _ _ _ _ _ => by rfl)) pa_nil)), fun D σ H pre post => ?_⟩
  obtain ⟨r, hs, lf, cn, y5, y6, y7, v, er, z, rfl, tS, ev, nl, hw, hz⟩ := pre
  obtain ⟨T, rfl, hT⟩ := hz _ rfl
  refine ⟨.ref T, rfl, .inl ⟨rfl, _, SqL.of hT⟩, ?_⟩
  refine word_go (K := K) (er := er) (q := lawQ) tS (lWords_ok hw).1 (fun G Qn E k1 T1 hE => ?_) fun H3 k3 T3 => ?_
  · have ev := ev.kv k1.v
    have nl := nl.kv k1.v
    refine ⟨.ref hs, rfl, ?_⟩
    refine ⟨v, rfl, ?_⟩
    exact ⟨_, _, _, rfl, (p_house ev.hh) _ _ fun H1_ k1_ => (nl.go _ (k1_).v) _ _ fun cls d H3 k i => word_fin L.na hE k1 T1 (Ex.refl _) cls d H3 (Ks.trans k1_ k) i⟩
  · have g3 := k3.l _ _ hT
    refine ⟨T, _, _, rfl, rfl, g3, by rw [List.length_map]; exact Nat.lt_of_le_of_lt (by rw [List.length_replicate]; exact Nat.le_refl 2) (by decide), ?_⟩
    exact post _ _ ⟨r, hs, lf, cn, y5, y6, y7, v, er, _, rfl, tabS_put T3 g3, (ev.kv k3.v).kv (Kv.put g3), (nl.kv k3.v).kv (Kv.put g3), hw, fun ws e => by
      cases e
      exact ⟨T, rfl, upd_same.trans (by rw [List.replicate_succ', List.map_append] <;> rfl)⟩⟩
theorem st9 (L : Lw P w K mg base cs tb Pa Pb) (TB : LamX.TabB base mg c Pa) (hr : LRoom A s f c) : Does (LX P w K mg base f c A outer s H0 E0) (lawSt 9) (AtC K cs tb Pa a (fun e => some (List.replicate 3 (e.word)))) (AtC K cs tb Pa a (fun e => some (List.replicate 4 (e.word)))) := by
  refine ⟨_, ps_expr (pe_bm PySem.F.plainAttrs_list PySem.F.slot_list_append PySem.F.type_list_append mt_append (pv 10) (pa_cons (pe_word L.W lawQ TB rfl rfl (by rfl) (k := 11) (hr.mono (by decide)) (LamX.lamS_by (by rfl)) (fun A' outer' s' H' E' f' c' hr' => pe_call L.al.loss_chance.G hr' (by rfl) L.al.loss_chance.m L.al.loss_chance.k L.al.loss_chance.b .nil (passX (E := E') rfl rfl rfl rfl) (pa_cons (pv 2) (pa_cons (pv 8) (pa_cons pe_non (pa_cons pe_non pa_nil))))) (by rfl) (fun _ _ _ _ _ => by rfl)) pa_nil)), fun D σ H pre post => ?_⟩
  obtain ⟨r, hs, lf, cn, y5, y6, y7, v, er, z, rfl, tS, ev, nl, hw, hz⟩ := pre
  obtain ⟨T, rfl, hT⟩ := hz _ rfl
  refine ⟨.ref T, rfl, .inl ⟨rfl, _, SqL.of hT⟩, ?_⟩
  refine word_go (K := K) (er := er) (q := lawQ) tS (lWords_ok hw).1 (fun G Qn E k1 T1 hE => ?_) fun H3 k3 T3 => ?_
  · have ev := ev.kv k1.v
    have nl := nl.kv k1.v
    refine ⟨.ref hs, rfl, ?_⟩
    refine ⟨v, rfl, ?_⟩
    exact ⟨_, _, _, _, rfl, (p_house ev.hh) _ _ fun H1_ k1_ => (nl.go _ (k1_).v) _ _ fun cls d H3 k i => word_fin L.na hE k1 T1 (Ex.refl _) cls d H3 (Ks.trans k1_ k) i⟩
  · have g3 := k3.l _ _ hT
    refine ⟨T, _, _, rfl, rfl, g3, by rw [List.length_map]; exact Nat.lt_of_le_of_lt (by rw [List.length_replicate]; exact Nat.le_refl 3) (by decide), ?_⟩
    exact post _ _ ⟨r, hs, lf, cn, y5, y6, y7, v, er, _, rfl, tabS_put T3 g3, (ev.kv k3.v).kv (Kv.put g3), (nl.kv k3.v).kv (Kv.put g3), hw, fun ws e => by
      cases e
      exact ⟨T, rfl, upd_same.trans (by rw [List.replicate_succ', List.map_append] <;> rfl)⟩⟩
theorem st10 (L : Lw P w K mg base cs tb Pa Pb) (TB : LamX.TabB base mg c Pa) (hr : LRoom A s f c) : Does (LX P w K mg base f c A outer s H0 E0) (lawSt 10) (AtC K cs tb Pa a (fun e => some (List.replicate 4 (e.word)))) (AtC K cs tb Pa a (fun e => some (List.replicate 5 (e.word)))) := by
  refine ⟨_, ps_expr (pe_bm PySem.F.plainAttrs_list PySem.F.slot_list_append PySem.F.type_list_append mt_append (pv 10) (pa_cons (pe_word L.W lawQ TB rfl rfl (by rfl) (k := 11) (hr.mono (by decide)) (LamX.lamS_by (by rfl)) (fun A' outer' s' H' E' f' c' hr' => pe_call L.al.alike_above.G hr' (by rfl) L.al.alike_above.m L.al.alike_above.k L.al.alike_above.b .nil (passX (E := E') rfl rfl rfl rfl) (pa_cons (pv 2) (pa_cons (pv 3) (pa_cons (pv 8) (pa_cons pe_non pa_nil))))) (by rfl) (fun _ _ _ _ _ => by rfl)) pa_nil)), fun D σ H pre post => ?_⟩
  obtain ⟨r, hs, lf, cn, y5, y6, y7, v, er, z, rfl, tS, ev, nl, hw, hz⟩ := pre
  obtain ⟨T, rfl, hT⟩ := hz _ rfl
  refine ⟨.ref T, rfl, .inl ⟨rfl, _, SqL.of hT⟩, ?_⟩
  refine word_go (K := K) (er := er) (q := lawQ) tS (lWords_ok hw).1 (fun G Qn E k1 T1 hE => ?_) fun H3 k3 T3 => ?_
  · have ev := ev.kv k1.v
    have nl := nl.kv k1.v
    refine ⟨.ref hs, rfl, ?_⟩
    refine ⟨.ref lf, rfl, ?_⟩
    refine ⟨v, rfl, ?_⟩
    exact ⟨_, _, _, _, rfl, (p_house ev.hh) _ _ fun H1_ k1_ => (p_life (ev.ks k1_).hh (ev.ks k1_).li good2) _ _ fun H2_ k2_ => (nl.go _ ((Ks.trans k1_ k2_)).v) _ _ fun cls d H3 k i => word_fin L.na hE k1 T1 (Ex.refl _) cls d H3 (Ks.trans (Ks.trans k1_ k2_) k) i⟩
  · have g3 := k3.l _ _ hT
    refine ⟨T, _, _, rfl, rfl, g3, by rw [List.length_map]; exact Nat.lt_of_le_of_lt (by rw [List.length_replicate]; exact Nat.le_refl 4) (by decide), ?_⟩
    exact post _ _ ⟨r, hs, lf, cn, y5, y6, y7, v, er, _, rfl, tabS_put T3 g3, (ev.kv k3.v).kv (Kv.put g3), (nl.kv k3.v).kv (Kv.put g3), hw, fun ws e => by
      cases e
      exact ⟨T, rfl, upd_same.trans (by rw [List.replicate_succ', List.map_append] <;> rfl)⟩⟩
theorem st11 (L : Lw P w K mg base cs tb Pa Pb) (TB : LamX.TabB base mg c Pa) (hr : LRoom A s f c) : Does (LX P w K mg base f c A outer s H0 E0) (lawSt 11) (AtC K cs tb Pa a (fun e => some (List.replicate 5 (e.word)))) (AtC K cs tb Pa a (fun e => some (List.replicate 9 (e.word)))) := by
  refine ⟨_, ps_set (i := 10) sc_law.nd rfl (Or.inl rfl) (pe_op op_cat (pv 10) (pe_lc (own := [("ask", 11)]) (g := gName 11) (by rfl) sc_law.nd (pi_list (pe_lst (pa_cons (pe_glob (v := .ref L.al.f_looks) rfl L.al.looks.m rfl) (pa_cons (pe_glob (v := .ref L.al.f_waiting) rfl L.al.waiting.m rfl) (pa_cons (pe_glob (v := .ref L.al.f_places) rfl L.al.places.m rfl) (pa_cons (pe_glob (v := .ref L.al.f_view_count) rfl L.al.view_count.m rfl) pa_nil)))))) (blkOk_by (own := [("ask", 11)]) (N := n_law) (sc := defScope s_law) (by decide +kernel)) (fun _ _ _ _ _ => pg_name (i := 11) sc_law.nd rfl (Or.inr rfl)) (fun _ _ _ _ _ => pts_nil)
        (fun _ _ _ _ _ => pe_word L.W lawQ TB rfl rfl (by rfl) (k := 11) (hr.mono (by decide)) (LamX.lamS_by (by rfl)) (fun A' outer' s' H' E' f' c' hr' => pe_callAny (i := 11) (fs := L.al.l2) (fun q hq => (L.al.ok_l2 q hq).1) hr' (fun q hq => (L.al.ok_l2 q hq).2) (passX (E := E') rfl rfl rfl rfl) (pa_cons (pv 2) (pa_cons pe_non (pa_cons (pv 8) (pa_cons pe_non (pa_cons pe_non pa_nil)))))) (by rfl) (fun _ _ _ _ _ => by rfl)))), fun D σ H pre post => ?_⟩
  obtain ⟨r, hs, lf, cn, y5, y6, y7, v, er, z, rfl, tS, ev, nl, hw, hz⟩ := pre
  obtain ⟨T, rfl, hT⟩ := hz _ rfl
  refine ⟨.ref T, rfl, ?_⟩
  refine ⟨by show 4 ≤ sizeLine; decide, fun l nl_ => ⟨l, rfl, ⟨_, SqL.of upd_same⟩, fun D2 nD => ?_⟩⟩
  have e1 := Ex.new (o := HO.lst (L.al.l2.map fun p => V.ref p.1)) nl_
  refine lc_words (K := K) (er := er) (q := lawQ) (fun G => Ev K tb hs lf cn G ∧ NoL K cs tb hs G v er) [(T, (List.replicate 5 (er.word)).map V.str)] nD upd_same (tS.ext e1) L.na (lWords_ok hw).1 (by show 4 ≤ 100; decide) ⟨ev.kv (Kv.ex e1), nl.kv (Kv.ex e1)⟩ (fun p hp => by rw [List.mem_singleton.mp hp]; exact e1 _ _ hT) (fun G G' h k => ⟨h.1.kv k, h.2.kv k⟩) rfl (fun _ => rfl) (fun _ => rfl) (fun p hp G Q E fG hE => ?_) fun G fG tG kG gD pin => ?_
  · obtain ⟨ev, nl⟩ := fG
    refine ⟨.ref hs, rfl, ?_⟩
    refine ⟨v, rfl, ?_⟩
    simp only [Al.l2, List.mem_cons, List.mem_nil_iff, or_false] at hp
    rcases hp with rfl | rfl | rfl | rfl
    · exact ⟨_, _, _, _, _, rfl, ⟨_, _, _, _, rfl, (p_house ev.hh) _ _ fun H1_ k1_ => (nl.go _ (k1_).v) _ _ fun cls d H3 k i => hE cls d _ H3 (Ex.refl _) (Ks.trans k1_ k) i⟩⟩
    · exact ⟨_, _, _, _, _, rfl, ⟨_, _, _, _, rfl, (p_house ev.hh) _ _ fun H1_ k1_ => (nl.go _ (k1_).v) _ _ fun cls d H3 k i => hE cls d _ H3 (Ex.refl _) (Ks.trans k1_ k) i⟩⟩
    · exact ⟨_, _, _, _, _, rfl, ⟨_, _, _, _, rfl, (p_house ev.hh) _ _ fun H1_ k1_ => (nl.go _ (k1_).v) _ _ fun cls d H3 k i => hE cls d _ H3 (Ex.refl _) (Ks.trans k1_ k) i⟩⟩
    · exact ⟨_, _, _, _, _, rfl, ⟨_, _, _, _, _, rfl, (p_house ev.hh) _ _ fun H1_ k1_ => (nl.go _ (k1_).v) _ _ fun cls d H3 k i => hE cls d _ H3 (Ex.refl _) (Ks.trans k1_ k) i⟩⟩
  · refine ⟨T, D2, _, _, rfl, rfl, pin _ List.mem_cons_self, gD, by rw [List.length_map, List.length_replicate, List.length_replicate]; show 5 + 4 ≤ sizeLine; decide, fun p np => ?_⟩
    have e2 := Ex.new (o := HO.lst ((List.replicate 5 (er.word)).map V.str ++ List.replicate 4 (V.str (er.word)))) np
    exact post _ _ ⟨r, hs, lf, cn, y5, y6, y7, v, er, _, rfl, tG.ext e2, fG.1.kv (Kv.ex e2), fG.2.kv (Kv.ex e2), hw, fun ws e => by
      cases e
      exact ⟨p, rfl, upd_same.trans (show some (HO.lst ((List.replicate 5 (er.word)).map V.str ++ List.replicate 4 (V.str (er.word)))) = _ from by rw [rep_words, ← List.map_append, List.replicate_append_replicate])⟩⟩
theorem st12 (L : Lw P w K mg base cs tb Pa Pb) (TB : LamX.TabB base mg c Pa) (hr : LRoom A s f c) : Does (LX P w K mg base f c A outer s H0 E0) (lawSt 12) (AtC K cs tb Pa a (fun e => some (List.replicate 9 (e.word)))) (AtC K cs tb Pa a (fun e => some (List.replicate 13 (e.word)))) := by
  refine ⟨_, ps_set (i := 10) sc_law.nd rfl (Or.inl rfl) (pe_op op_cat (pv 10) (pe_lc (own := [("ask", 11)]) (g := gName 11) (by rfl) sc_law.nd (pi_list (pe_lst (pa_cons (pe_glob (v := .ref L.al.f_view) rfl L.al.view.m rfl) (pa_cons (pe_glob (v := .ref L.al.f_read) rfl L.al.read.m rfl) (pa_cons (pe_glob (v := .ref L.al.f_found_later) rfl L.al.found_later.m rfl) (pa_cons (pe_glob (v := .ref L.al.f_is_parted) rfl L.al.is_parted.m rfl) pa_nil)))))) (blkOk_by (own := [("ask", 11)]) (N := n_law) (sc := defScope s_law) (by decide +kernel)) (fun _ _ _ _ _ => pg_name (i := 11) sc_law.nd rfl (Or.inr rfl)) (fun _ _ _ _ _ => pts_nil)
        (fun _ _ _ _ _ => pe_word L.W lawQ TB rfl rfl (by rfl) (k := 11) (hr.mono (by decide)) (LamX.lamS_by (by rfl)) (fun A' outer' s' H' E' f' c' hr' => pe_callAny (i := 11) (fs := L.al.l3) (fun q hq => (L.al.ok_l3 q hq).1) hr' (fun q hq => (L.al.ok_l3 q hq).2) (passX (E := E') rfl rfl rfl rfl) (pa_cons (pv 2) (pa_cons pe_non (pa_cons (pv 8) (pa_cons pe_non (pa_cons pe_non (pa_cons pe_non pa_nil))))))) (by rfl) (fun _ _ _ _ _ => by rfl)))), fun D σ H pre post => ?_⟩
  obtain ⟨r, hs, lf, cn, y5, y6, y7, v, er, z, rfl, tS, ev, nl, hw, hz⟩ := pre
  obtain ⟨T, rfl, hT⟩ := hz _ rfl
  refine ⟨.ref T, rfl, ?_⟩
  refine ⟨by show 4 ≤ sizeLine; decide, fun l nl_ => ⟨l, rfl, ⟨_, SqL.of upd_same⟩, fun D2 nD => ?_⟩⟩
  have e1 := Ex.new (o := HO.lst (L.al.l3.map fun p => V.ref p.1)) nl_
  refine lc_words (K := K) (er := er) (q := lawQ) (fun G => Ev K tb hs lf cn G ∧ NoL K cs tb hs G v er) [(T, (List.replicate 9 (er.word)).map V.str)] nD upd_same (tS.ext e1) L.na (lWords_ok hw).1 (by show 4 ≤ 100; decide) ⟨ev.kv (Kv.ex e1), nl.kv (Kv.ex e1)⟩ (fun p hp => by rw [List.mem_singleton.mp hp]; exact e1 _ _ hT) (fun G G' h k => ⟨h.1.kv k, h.2.kv k⟩) rfl (fun _ => rfl) (fun _ => rfl) (fun p hp G Q E fG hE => ?_) fun G fG tG kG gD pin => ?_
  · obtain ⟨ev, nl⟩ := fG
    refine ⟨.ref hs, rfl, ?_⟩
    refine ⟨v, rfl, ?_⟩
    simp only [Al.l3, List.mem_cons, List.mem_nil_iff, or_false] at hp
    rcases hp with rfl | rfl | rfl | rfl
    · exact ⟨_, _, _, _, _, _, rfl, ⟨_, _, _, _, rfl, (p_house ev.hh) _ _ fun H1_ k1_ => (nl.go _ (k1_).v) _ _ fun cls d H3 k i => hE cls d _ H3 (Ex.refl _) (Ks.trans k1_ k) i⟩⟩
    · exact ⟨_, _, _, _, _, _, rfl, ⟨_, _, _, _, rfl, (p_house ev.hh) _ _ fun H1_ k1_ => (nl.go _ (k1_).v) _ _ fun cls d H3 k i => hE cls d _ H3 (Ex.refl _) (Ks.trans k1_ k) i⟩⟩
    · exact ⟨_, _, _, _, _, _, rfl, ⟨_, _, _, _, rfl, (p_house ev.hh) _ _ fun H1_ k1_ => (nl.go _ (k1_).v) _ _ fun cls d H3 k i => hE cls d _ H3 (Ex.refl _) (Ks.trans k1_ k) i⟩⟩
    · exact ⟨_, _, _, _, _, _, rfl, ⟨_, _, _, _, rfl, (p_house ev.hh) _ _ fun H1_ k1_ => (nl.go _ (k1_).v) _ _ fun cls d H3 k i => hE cls d _ H3 (Ex.refl _) (Ks.trans k1_ k) i⟩⟩
  · refine ⟨T, D2, _, _, rfl, rfl, pin _ List.mem_cons_self, gD, by rw [List.length_map, List.length_replicate, List.length_replicate]; show 9 + 4 ≤ sizeLine; decide, fun p np => ?_⟩
    have e2 := Ex.new (o := HO.lst ((List.replicate 9 (er.word)).map V.str ++ List.replicate 4 (V.str (er.word)))) np
    exact post _ _ ⟨r, hs, lf, cn, y5, y6, y7, v, er, _, rfl, tG.ext e2, fG.1.kv (Kv.ex e2), fG.2.kv (Kv.ex e2), hw, fun ws e => by
      cases e
      exact ⟨p, rfl, upd_same.trans (show some (HO.lst ((List.replicate 9 (er.word)).map V.str ++ List.replicate 4 (V.str (er.word)))) = _ from by rw [rep_words, ← List.map_append, List.replicate_append_replicate])⟩⟩
theorem st13 (L : Lw P w K mg base cs tb Pa Pb) (TB : LamX.TabB base mg c Pa) (hr : LRoom A s f c) : Does (LX P w K mg base f c A outer s H0 E0) (lawSt 13) (AtC K cs tb Pa a (fun e => some (List.replicate 13 (e.word)))) (AtC K cs tb Pa a (fun e => some (List.replicate 14 (e.word)))) := by
  refine ⟨_, ps_expr (pe_bm PySem.F.plainAttrs_list PySem.F.slot_list_append PySem.F.type_list_append mt_append (pv 10) (pa_cons (pe_word L.W lawQ TB rfl rfl (by rfl) (k := 11) (hr.mono (by decide)) (LamX.lamS_by (by rfl)) (fun A' outer' s' H' E' f' c' hr' => pe_call L.al.best_guess.G hr' (by rfl) L.al.best_guess.m L.al.best_guess.k L.al.best_guess.b .nil (passX (E := E') rfl rfl rfl rfl) (pa_cons (pv 2) (pa_cons pe_str (pa_cons (pv 3) (pa_cons (pv 8) (pa_cons pe_int (pa_cons (pe_tup (pa_cons pe_int pa_nil)) pa_nil))))))) (by rfl) (fun _ _ _ _ _ => by rfl)) pa_nil)), fun D σ H pre post => ?_⟩
  obtain ⟨r, hs, lf, cn, y5, y6, y7, v, er, z, rfl, tS, ev, nl, hw, hz⟩ := pre
  obtain ⟨T, rfl, hT⟩ := hz _ rfl
  refine ⟨.ref T, rfl, .inl ⟨rfl, _, SqL.of hT⟩, ?_⟩
  refine word_go (K := K) (er := er) (q := lawQ) tS (lWords_ok hw).1 (fun G Qn E k1 T1 hE => ?_) fun H3 k3 T3 => ?_
  · have ev := ev.kv k1.v
    have nl := nl.kv k1.v
    refine ⟨.ref hs, rfl, ?_⟩
    refine ⟨.ref lf, rfl, ?_⟩
    refine ⟨v, rfl, ?_⟩
    refine ⟨by show 1 ≤ sizeLine; decide, fun s ns => ?_⟩
    have es := Ex.new (o := HO.tup [V.int 0]) ns
    have ev := ev.kv (Kv.ex es)
    have nl := nl.kv (Kv.ex es)
    exact ⟨_, _, _, _, _, _, rfl, ⟨_, _, _, _, _, rfl, (p_house ev.hh) _ _ fun H1_ k1_ => (p_life (ev.ks k1_).hh (ev.ks k1_).li good2) _ _ fun H2_ k2_ => (p_way (x := "true") (by decide +kernel)) _ _ fun H3_ k3_ => (p_chk (ev.ks (Ks.trans (Ks.trans k1_ k2_) k3_)).hh (.int 0) (by decide +kernel)) _ _ fun H4_ k4_ => (p_times (ev.ks (Ks.trans (Ks.trans (Ks.trans k1_ k2_) k3_) k4_)).se (tv0 ((Ks.trans (Ks.trans (Ks.trans k1_ k2_) k3_) k4_).t _ _ upd_same))) _ _ fun H5_ k5_ => (nl.go _ ((Ks.trans (Ks.trans (Ks.trans (Ks.trans k1_ k2_) k3_) k4_) k5_)).v) _ _ fun cls d H3 k i => word_fin L.na hE k1 T1 es cls d H3 (Ks.trans (Ks.trans (Ks.trans (Ks.trans (Ks.trans k1_ k2_) k3_) k4_) k5_) k) i⟩⟩
  · have g3 := k3.l _ _ hT
    refine ⟨T, _, _, rfl, rfl, g3, by rw [List.length_map]; exact Nat.lt_of_le_of_lt (by rw [List.length_replicate]; exact Nat.le_refl 13) (by decide), ?_⟩
    exact post _ _ ⟨r, hs, lf, cn, y5, y6, y7, v, er, _, rfl, tabS_put T3 g3, (ev.kv k3.v).kv (Kv.put g3), (nl.kv k3.v).kv (Kv.put g3), hw, fun ws e => by
      cases e
      exact ⟨T, rfl, upd_same.trans (by rw [List.replicate_succ', List.map_append] <;> rfl)⟩⟩
theorem st14 (L : Lw P w K mg base cs tb Pa Pb) (TB : LamX.TabB base mg c Pa) (hr : LRoom A s f c) : Does (LX P w K mg base f c A outer s H0 E0) (lawSt 14) (AtC K cs tb Pa a (fun e => some (List.replicate 14 (e.word)))) (AtC K cs tb Pa a (fun _ => none)) := by
  have un : (A.deeper (envOfC "law" (defScope s_law) s.heap.objs.size f (.ref c))).units + 64 < cLine := by have := hr.un; omega
  refine ⟨_, ps_if (pt_cmpR (op_neD un) (pv 10) (pe_op op_rep (pe_lst (pa_cons (pv 9) pa_nil)) pe_int) (nomark _)) (pss_one (ps_ret pe_bl)) pss_nil, fun D σ H pre post => ?_⟩
  obtain ⟨r, hs, lf, cn, y5, y6, y7, v, er, z, rfl, tS, ev, nl, hw, hz⟩ := pre
  obtain ⟨T, rfl, hT⟩ := hz _ rfl
  have hT : H T = some (.lst ((List.replicate 14 (er.word)).map V.str)) := hT
  refine ⟨.ref T, rfl, .str er.word, rfl, by show 1 ≤ sizeLine; decide, fun l2 n2 => ⟨l2, 14, [.str (er.word)], rfl, rfl, upd_same, by decide, by decide, (by show 1 * 14 ≤ sizeLine; decide), fun z nz => ?_⟩⟩
  have e3 := (Ex.new (o := HO.lst [V.str (er.word)]) n2).trans (Ex.new (o := HO.lst (List.replicate 14 [V.str (er.word)]).flatten) nz)
  refine ne_words (ws := List.replicate 14 (er.word)) (fun y hy => by rw [(List.mem_replicate.mp hy).2]; exact (lWords_ok hw).2) (e3 _ _ hT) (upd_same.trans (show some (HO.lst (List.replicate 14 [V.str (er.word)]).flatten) = _ from by rw [List.flatten_replicate_singleton, rep_words])) ?_
  exact ⟨_, rfl, iteF (post _ _ ⟨r, hs, lf, cn, y5, y6, y7, v, er, _, rfl, tS.ext e3, ev.kv (Kv.ex e3), nl.kv (Kv.ex e3), hw, fun ws e => by cases e⟩)⟩
theorem st15 (L : Lw P w K mg base cs tb Pa Pb) (TB : LamX.TabB base mg c Pa) (hr : LRoom A s f c) : Does (LX P w K mg base f c A outer s H0 E0) (lawSt 15) (AtC K cs tb Pa a (fun _ => none)) (AtC K cs tb Pa a (fun _ => some (List.replicate 4 (Er.word (.house "way"))))) := by
  refine ⟨_, ps_setLc (i := 10) (own := [("ask", 11)]) (g := gName 11) (by rfl) sc_law.nd rfl rfl (sw_true rfl rfl (by rfl) (by decide +kernel)) (pi_list (pe_lst (pa_cons (pe_glob (v := .ref L.al.f_looks) rfl L.al.looks.m rfl) (pa_cons (pe_glob (v := .ref L.al.f_waiting) rfl L.al.waiting.m rfl) (pa_cons (pe_glob (v := .ref L.al.f_places) rfl L.al.places.m rfl) (pa_cons (pe_glob (v := .ref L.al.f_view_count) rfl L.al.view_count.m rfl) pa_nil)))))) (blkOk_by (own := [("ask", 11)]) (N := n_law) (sc := defScope s_law) (by decide +kernel)) (fun _ _ _ _ _ => pg_name (i := 11) sc_law.nd rfl (Or.inr rfl)) (fun _ _ _ _ _ => pts_nil)
        (fun _ _ _ _ _ => pe_word L.W lawQ TB rfl rfl (by rfl) (k := 11) (hr.mono (by decide)) (LamX.lamS_by (by rfl)) (fun A' outer' s' H' E' f' c' hr' => pe_callAny (i := 11) (fs := L.al.l2) (fun q hq => (L.al.ok_l2 q hq).1) hr' (fun q hq => (L.al.ok_l2 q hq).2) (passX (E := E') rfl rfl rfl rfl) (pa_cons (pv 2) (pa_cons pe_non (pa_cons (pv 3) (pa_cons pe_non (pa_cons pe_non pa_nil)))))) (by rfl) (fun _ _ _ _ _ => by rfl)), fun D σ H pre post => ?_⟩
  obtain ⟨r, hs, lf, cn, y5, y6, y7, v, er, z, rfl, tS, ev, nl, hw, hz⟩ := pre
  refine ⟨by show 4 ≤ sizeLine; decide, fun l nl_ => ⟨l, rfl, ⟨_, SqL.of upd_same⟩, fun D2 nD => ?_⟩⟩
  have e1 := Ex.new (o := HO.lst (L.al.l2.map fun p => V.ref p.1)) nl_
  refine lc_words (K := K) (er := (.house "way")) (q := lawQ) (fun G => Ev K tb hs lf cn G ∧ NoL K cs tb hs G v er) [] nD upd_same (tS.ext e1) L.na (by rw [w_way]; exact (aWords_ok (List.mem_of_getElem? (i := 3) rfl)).1) (by show 4 ≤ 100; decide) ⟨ev.kv (Kv.ex e1), nl.kv (Kv.ex e1)⟩ (fun p hp => by cases hp) (fun G G' h k => ⟨h.1.kv k, h.2.kv k⟩) rfl (fun _ => rfl) (fun _ => rfl) (fun p hp G Q E fG hE => ?_) fun G fG tG kG gD pin => ?_
  · obtain ⟨ev, nl⟩ := fG
    refine ⟨.ref hs, rfl, ?_⟩
    refine ⟨.ref lf, rfl, ?_⟩
    simp only [Al.l2, List.mem_cons, List.mem_nil_iff, or_false] at hp
    rcases hp with rfl | rfl | rfl | rfl
    · exact ⟨_, _, _, _, _, rfl, ⟨_, _, _, _, rfl, (p_house ev.hh) _ _ fun H1_ k1_ => (p_life (ev.ks k1_).hh (ev.ks k1_).li good2) _ _ fun H2_ k2_ => (t_way .non rfl) _ _ fun cls d H3 k i => hE cls d _ H3 (Ex.refl _) (Ks.trans (Ks.trans k1_ k2_) k) i⟩⟩
    · exact ⟨_, _, _, _, _, rfl, ⟨_, _, _, _, rfl, (p_house ev.hh) _ _ fun H1_ k1_ => (p_life (ev.ks k1_).hh (ev.ks k1_).li good2) _ _ fun H2_ k2_ => (t_way .non rfl) _ _ fun cls d H3 k i => hE cls d _ H3 (Ex.refl _) (Ks.trans (Ks.trans k1_ k2_) k) i⟩⟩
    · exact ⟨_, _, _, _, _, rfl, ⟨_, _, _, _, rfl, (p_house ev.hh) _ _ fun H1_ k1_ => (p_life (ev.ks k1_).hh (ev.ks k1_).li good2) _ _ fun H2_ k2_ => (t_way .non rfl) _ _ fun cls d H3 k i => hE cls d _ H3 (Ex.refl _) (Ks.trans (Ks.trans k1_ k2_) k) i⟩⟩
    · exact ⟨_, _, _, _, _, rfl, ⟨_, _, _, _, _, rfl, (p_house ev.hh) _ _ fun H1_ k1_ => (p_life (ev.ks k1_).hh (ev.ks k1_).li good2) _ _ fun H2_ k2_ => (t_way .non rfl) _ _ fun cls d H3 k i => hE cls d _ H3 (Ex.refl _) (Ks.trans (Ks.trans k1_ k2_) k) i⟩⟩
  · exact post _ _ ⟨r, hs, lf, cn, y5, y6, y7, v, er, _, rfl, tG, fG.1, fG.2, hw, fun ws e => by
      cases e
      exact ⟨D2, rfl, gD.trans (by rw [rep_words] <;> rfl)⟩⟩
theorem st16 (L : Lw P w K mg base cs tb Pa Pb) (TB : LamX.TabB base mg c Pa) (hr : LRoom A s f c) : Does (LX P w K mg base f c A outer s H0 E0) (lawSt 16) (AtC K cs tb Pa a (fun _ => some (List.replicate 4 (Er.word (.house "way"))))) (AtC K cs tb Pa a (fun _ => some (List.replicate 8 (Er.word (.house "way"))))) := by
  refine ⟨_, ps_set (i := 10) sc_law.nd rfl (Or.inl rfl) (pe_op op_cat (pv 10) (pe_lc (own := [("ask", 11)]) (g := gName 11) (by rfl) sc_law.nd (pi_list (pe_lst (pa_cons (pe_glob (v := .ref L.al.f_view) rfl L.al.view.m rfl) (pa_cons (pe_glob (v := .ref L.al.f_read) rfl L.al.read.m rfl) (pa_cons (pe_glob (v := .ref L.al.f_found_later) rfl L.al.found_later.m rfl) (pa_cons (pe_glob (v := .ref L.al.f_is_parted) rfl L.al.is_parted.m rfl) pa_nil)))))) (blkOk_by (own := [("ask", 11)]) (N := n_law) (sc := defScope s_law) (by decide +kernel)) (fun _ _ _ _ _ => pg_name (i := 11) sc_law.nd rfl (Or.inr rfl)) (fun _ _ _ _ _ => pts_nil)
        (fun _ _ _ _ _ => pe_word L.W lawQ TB rfl rfl (by rfl) (k := 11) (hr.mono (by decide)) (LamX.lamS_by (by rfl)) (fun A' outer' s' H' E' f' c' hr' => pe_callAny (i := 11) (fs := L.al.l3) (fun q hq => (L.al.ok_l3 q hq).1) hr' (fun q hq => (L.al.ok_l3 q hq).2) (passX (E := E') rfl rfl rfl rfl) (pa_cons (pv 2) (pa_cons pe_str (pa_cons (pv 3) (pa_cons pe_non (pa_cons pe_non (pa_cons pe_non pa_nil))))))) (by rfl) (fun _ _ _ _ _ => by rfl)))), fun D σ H pre post => ?_⟩
  obtain ⟨r, hs, lf, cn, y5, y6, y7, v, er, z, rfl, tS, ev, nl, hw, hz⟩ := pre
  obtain ⟨T, rfl, hT⟩ := hz _ rfl
  refine ⟨.ref T, rfl, ?_⟩
  refine ⟨by show 4 ≤ sizeLine; decide, fun l nl_ => ⟨l, rfl, ⟨_, SqL.of upd_same⟩, fun D2 nD => ?_⟩⟩
  have e1 := Ex.new (o := HO.lst (L.al.l3.map fun p => V.ref p.1)) nl_
  refine lc_words (K := K) (er := (.house "way")) (q := lawQ) (fun G => Ev K tb hs lf cn G ∧ NoL K cs tb hs G v er) [(T, (List.replicate 4 (Er.word (.house "way"))).map V.str)] nD upd_same (tS.ext e1) L.na (by rw [w_way]; exact (aWords_ok (List.mem_of_getElem? (i := 3) rfl)).1) (by show 4 ≤ 100; decide) ⟨ev.kv (Kv.ex e1), nl.kv (Kv.ex e1)⟩ (fun p hp => by rw [List.mem_singleton.mp hp]; exact e1 _ _ hT) (fun G G' h k => ⟨h.1.kv k, h.2.kv k⟩) rfl (fun _ => rfl) (fun _ => rfl) (fun p hp G Q E fG hE => ?_) fun G fG tG kG gD pin => ?_
  · obtain ⟨ev, nl⟩ := fG
    refine ⟨.ref hs, rfl, ?_⟩
    refine ⟨.ref lf, rfl, ?_⟩
    simp only [Al.l3, List.mem_cons, List.mem_nil_iff, or_false] at hp
    rcases hp with rfl | rfl | rfl | rfl
    · exact ⟨_, _, _, _, _, _, rfl, ⟨_, _, _, _, rfl, (p_house ev.hh) _ _ fun H1_ k1_ => (p_life (ev.ks k1_).hh (ev.ks k1_).li good2) _ _ fun H2_ k2_ => (t_way (.str "open") (by decide +kernel)) _ _ fun cls d H3 k i => hE cls d _ H3 (Ex.refl _) (Ks.trans (Ks.trans k1_ k2_) k) i⟩⟩
    · exact ⟨_, _, _, _, _, _, rfl, ⟨_, _, _, _, rfl, (p_house ev.hh) _ _ fun H1_ k1_ => (p_life (ev.ks k1_).hh (ev.ks k1_).li good2) _ _ fun H2_ k2_ => (t_way (.str "open") (by decide +kernel)) _ _ fun cls d H3 k i => hE cls d _ H3 (Ex.refl _) (Ks.trans (Ks.trans k1_ k2_) k) i⟩⟩
    · exact ⟨_, _, _, _, _, _, rfl, ⟨_, _, _, _, rfl, (p_house ev.hh) _ _ fun H1_ k1_ => (p_life (ev.ks k1_).hh (ev.ks k1_).li good2) _ _ fun H2_ k2_ => (t_way (.str "open") (by decide +kernel)) _ _ fun cls d H3 k i => hE cls d _ H3 (Ex.refl _) (Ks.trans (Ks.trans k1_ k2_) k) i⟩⟩
    · exact ⟨_, _, _, _, _, _, rfl, ⟨_, _, _, _, rfl, (p_house ev.hh) _ _ fun H1_ k1_ => (p_life (ev.ks k1_).hh (ev.ks k1_).li good2) _ _ fun H2_ k2_ => (t_way (.str "open") (by decide +kernel)) _ _ fun cls d H3 k i => hE cls d _ H3 (Ex.refl _) (Ks.trans (Ks.trans k1_ k2_) k) i⟩⟩
  · refine ⟨T, D2, _, _, rfl, rfl, pin _ List.mem_cons_self, gD, by rw [List.length_map, List.length_replicate, List.length_replicate]; show 4 + 4 ≤ sizeLine; decide, fun p np => ?_⟩
    have e2 := Ex.new (o := HO.lst ((List.replicate 4 (Er.word (.house "way"))).map V.str ++ List.replicate 4 (V.str (Er.word (.house "way"))))) np
    exact post _ _ ⟨r, hs, lf, cn, y5, y6, y7, v, er, _, rfl, tG.ext e2, fG.1.kv (Kv.ex e2), fG.2.kv (Kv.ex e2), hw, fun ws e => by
      cases e
      exact ⟨p, rfl, upd_same.trans (show some (HO.lst ((List.replicate 4 (Er.word (.house "way"))).map V.str ++ List.replicate 4 (V.str (Er.word (.house "way"))))) = _ from by rw [rep_words, ← List.map_append, List.replicate_append_replicate])⟩⟩
theorem st17 (L : Lw P w K mg base cs tb Pa Pb) (TB : LamX.TabB base mg c Pa) (hr : LRoom A s f c) : Does (LX P w K mg base f c A outer s H0 E0) (lawSt 17) (AtC K cs tb Pa a (fun _ => some (List.replicate 8 (Er.word (.house "way"))))) (AtC K cs tb Pa a (fun _ => some (List.replicate 9 (Er.word (.house "way"))))) := by
  refine ⟨_, ps_expr (pe_bm PySem.F.plainAttrs_list PySem.F.slot_list_append PySem.F.type_list_append mt_append (pv 10) (pa_cons (pe_word L.W lawQ TB rfl rfl (by rfl) (k := 11) (hr.mono (by decide)) (LamX.lamS_by (by rfl)) (fun A' outer' s' H' E' f' c' hr' => pe_call L.al.waiting_counts.G hr' (by rfl) L.al.waiting_counts.m L.al.waiting_counts.k L.al.waiting_counts.b .nil (passX (E := E') rfl rfl rfl rfl) (pa_cons (pv 2) (pa_cons pe_str (pa_cons (pe_tup pa_nil) (pa_cons pe_non pa_nil))))) (by rfl) (fun _ _ _ _ _ => by rfl)) pa_nil)), fun D σ H pre post => ?_⟩
  obtain ⟨r, hs, lf, cn, y5, y6, y7, v, er, z, rfl, tS, ev, nl, hw, hz⟩ := pre
  obtain ⟨T, rfl, hT⟩ := hz _ rfl
  refine ⟨.ref T, rfl, .inl ⟨rfl, _, SqL.of hT⟩, ?_⟩
  refine word_go (K := K) (er := (.house "way")) (q := lawQ) tS (by rw [w_way]; exact (aWords_ok (List.mem_of_getElem? (i := 3) rfl)).1) (fun G Qn E k1 T1 hE => ?_) fun H3 k3 T3 => ?_
  · have ev := ev.kv k1.v
    have nl := nl.kv k1.v
    refine ⟨.ref hs, rfl, ?_⟩
    refine ⟨by show 0 ≤ sizeLine; decide, fun s ns => ?_⟩
    have es := Ex.new (o := HO.tup []) ns
    have ev := ev.kv (Kv.ex es)
    have nl := nl.kv (Kv.ex es)
    exact ⟨_, _, _, _, rfl, ⟨_, _, _, _, rfl, (p_house ev.hh) _ _ fun H1_ k1_ => (p_story (ev.ks k1_).hh (st00 (k1_.t _ _ upd_same)) (ev.ks k1_).m rfl) _ _ fun H2_ k2_ => (t_way (.str "open") (by decide +kernel)) _ _ fun cls d H3 k i => word_fin L.na hE k1 T1 es cls d H3 (Ks.trans (Ks.trans k1_ k2_) k) i⟩⟩
  · have g3 := k3.l _ _ hT
    refine ⟨T, _, _, rfl, rfl, g3, by rw [List.length_map]; exact Nat.lt_of_le_of_lt (by rw [List.length_replicate]; exact Nat.le_refl 8) (by decide), ?_⟩
    exact post _ _ ⟨r, hs, lf, cn, y5, y6, y7, v, er, _, rfl, tabS_put T3 g3, (ev.kv k3.v).kv (Kv.put g3), (nl.kv k3.v).kv (Kv.put g3), hw, fun ws e => by
      cases e
      exact ⟨T, rfl, upd_same.trans (by rw [List.replicate_succ', List.map_append] <;> rfl)⟩⟩
theorem st18 (L : Lw P w K mg base cs tb Pa Pb) (TB : LamX.TabB base mg c Pa) (hr : LRoom A s f c) : Does (LX P w K mg base f c A outer s H0 E0) (lawSt 18) (AtC K cs tb Pa a (fun _ => some (List.replicate 9 (Er.word (.house "way"))))) (AtC K cs tb Pa a (fun _ => none)) := by
  have un : (A.deeper (envOfC "law" (defScope s_law) s.heap.objs.size f (.ref c))).units + 64 < cLine := by have := hr.un; omega
  refine ⟨_, ps_if (pt_cmpR (op_neD un) (pv 10) (pe_op op_rep (pe_lst (pa_cons pe_str pa_nil)) pe_int) (nomark _)) (pss_one (ps_ret pe_bl)) pss_nil, fun D σ H pre post => ?_⟩
  obtain ⟨r, hs, lf, cn, y5, y6, y7, v, er, z, rfl, tS, ev, nl, hw, hz⟩ := pre
  obtain ⟨T, rfl, hT⟩ := hz _ rfl
  have hT : H T = some (.lst ((List.replicate 9 (("way" : Str))).map V.str)) := (by rw [w_way] at hT; exact hT)
  refine ⟨.ref T, rfl, by show 1 ≤ sizeLine; decide, fun l2 n2 => ⟨l2, 9, [.str (("way" : Str))], rfl, rfl, upd_same, by decide, by decide, (by show 1 * 9 ≤ sizeLine; decide), fun z nz => ?_⟩⟩
  have e3 := (Ex.new (o := HO.lst [V.str (("way" : Str))]) n2).trans (Ex.new (o := HO.lst (List.replicate 9 [V.str (("way" : Str))]).flatten) nz)
  refine ne_words (ws := List.replicate 9 (("way" : Str))) (fun y hy => by rw [(List.mem_replicate.mp hy).2]; exact (aWords_ok (List.mem_of_getElem? (i := 3) rfl)).2) (e3 _ _ hT) (upd_same.trans (show some (HO.lst (List.replicate 9 [V.str (("way" : Str))]).flatten) = _ from by rw [List.flatten_replicate_singleton, rep_words])) ?_
  exact ⟨_, rfl, iteF (post _ _ ⟨r, hs, lf, cn, y5, y6, y7, v, er, _, rfl, tS.ext e3, ev.kv (Kv.ex e3), nl.kv (Kv.ex e3), hw, fun ws e => by cases e⟩)⟩
theorem st19 (L : Lw P w K mg base cs tb Pa Pb) (TB : LamX.TabB base mg c Pa) (hr : LRoom A s f c) : Does (LX P w K mg base f c A outer s H0 E0) (lawSt 19) (AtC K cs tb Pa a (fun _ => none)) (AtC K cs tb Pa a (fun _ => some (List.replicate 3 (Er.word (.coins (some 1)))))) := by
  refine ⟨_, ps_setLc (i := 10) (own := [("ask", 11)]) (g := gName 11) (by rfl) sc_law.nd rfl rfl (sw_true rfl rfl (by rfl) (by decide +kernel)) (pi_list (pe_lst (pa_cons (pe_glob (v := .ref L.al.f_looks) rfl L.al.looks.m rfl) (pa_cons (pe_glob (v := .ref L.al.f_waiting) rfl L.al.waiting.m rfl) (pa_cons (pe_glob (v := .ref L.al.f_places) rfl L.al.places.m rfl) pa_nil))))) (blkOk_by (own := [("ask", 11)]) (N := n_law) (sc := defScope s_law) (by decide +kernel)) (fun _ _ _ _ _ => pg_name (i := 11) sc_law.nd rfl (Or.inr rfl)) (fun _ _ _ _ _ => pts_nil)
        (fun _ _ _ _ _ => pe_word L.W lawQ TB rfl rfl (by rfl) (k := 11) (hr.mono (by decide)) (LamX.lamS_by (by rfl)) (fun A' outer' s' H' E' f' c' hr' => pe_callAny (i := 11) (fs := L.al.l4) (fun q hq => (L.al.ok_l4 q hq).1) hr' (fun q hq => (L.al.ok_l4 q hq).2) (passX (E := E') rfl rfl rfl rfl) (pa_cons (pv 2) (pa_cons pe_str (pa_cons (pv 3) (pa_cons (pe_tup (pa_cons pe_int (pa_cons pe_int pa_nil))) (pa_cons pe_non pa_nil)))))) (by rfl) (fun _ _ _ _ _ => by rfl)), fun D σ H pre post => ?_⟩
  obtain ⟨r, hs, lf, cn, y5, y6, y7, v, er, z, rfl, tS, ev, nl, hw, hz⟩ := pre
  refine ⟨by show 3 ≤ sizeLine; decide, fun l nl_ => ⟨l, rfl, ⟨_, SqL.of upd_same⟩, fun D2 nD => ?_⟩⟩
  have e1 := Ex.new (o := HO.lst (L.al.l4.map fun p => V.ref p.1)) nl_
  refine lc_words (K := K) (er := (.coins (some 1))) (q := lawQ) (fun G => Ev K tb hs lf cn G ∧ NoL K cs tb hs G v er) [] nD upd_same (tS.ext e1) L.na (by rw [w_coins]; exact (aWords_ok (List.mem_of_getElem? (i := 4) rfl)).1) (by show 3 ≤ 100; decide) ⟨ev.kv (Kv.ex e1), nl.kv (Kv.ex e1)⟩ (fun p hp => by cases hp) (fun G G' h k => ⟨h.1.kv k, h.2.kv k⟩) rfl (fun _ => rfl) (fun _ => rfl) (fun p hp G Q E fG hE => ?_) fun G fG tG kG gD pin => ?_
  · obtain ⟨ev, nl⟩ := fG
    refine ⟨.ref hs, rfl, ?_⟩
    refine ⟨.ref lf, rfl, ?_⟩
    refine ⟨by show 2 ≤ sizeLine; decide, fun s ns => ?_⟩
    have es := Ex.new (o := HO.tup [V.int 0, V.int 3]) ns
    have ev := ev.kv (Kv.ex es)
    have nl := nl.kv (Kv.ex es)
    simp only [Al.l4, List.mem_cons, List.mem_nil_iff, or_false] at hp
    rcases hp with rfl | rfl | rfl
    · exact ⟨_, _, _, _, _, rfl, ⟨_, _, _, _, rfl, (p_house ev.hh) _ _ fun H1_ k1_ => (p_life (ev.ks k1_).hh (ev.ks k1_).li good2) _ _ fun H2_ k2_ => (p_way (x := "true") (by decide +kernel)) _ _ fun H3_ k3_ => (t_coins (ev.ks (Ks.trans (Ks.trans k1_ k2_) k3_)).hh (ev.ks (Ks.trans (Ks.trans k1_ k2_) k3_)).se (cv03 ((Ks.trans (Ks.trans k1_ k2_) k3_).t _ _ upd_same)) rfl rfl (by decide)) _ _ fun cls d H3 k i => hE cls d _ H3 es (Ks.trans (Ks.trans (Ks.trans k1_ k2_) k3_) k) i⟩⟩
    · exact ⟨_, _, _, _, _, rfl, ⟨_, _, _, _, rfl, (p_house ev.hh) _ _ fun H1_ k1_ => (p_life (ev.ks k1_).hh (ev.ks k1_).li good2) _ _ fun H2_ k2_ => (p_way (x := "true") (by decide +kernel)) _ _ fun H3_ k3_ => (t_coins (ev.ks (Ks.trans (Ks.trans k1_ k2_) k3_)).hh (ev.ks (Ks.trans (Ks.trans k1_ k2_) k3_)).se (cv03 ((Ks.trans (Ks.trans k1_ k2_) k3_).t _ _ upd_same)) rfl rfl (by decide)) _ _ fun cls d H3 k i => hE cls d _ H3 es (Ks.trans (Ks.trans (Ks.trans k1_ k2_) k3_) k) i⟩⟩
    · exact ⟨_, _, _, _, _, rfl, ⟨_, _, _, _, rfl, (p_house ev.hh) _ _ fun H1_ k1_ => (p_life (ev.ks k1_).hh (ev.ks k1_).li good2) _ _ fun H2_ k2_ => (p_way (x := "true") (by decide +kernel)) _ _ fun H3_ k3_ => (t_coins (ev.ks (Ks.trans (Ks.trans k1_ k2_) k3_)).hh (ev.ks (Ks.trans (Ks.trans k1_ k2_) k3_)).se (cv03 ((Ks.trans (Ks.trans k1_ k2_) k3_).t _ _ upd_same)) rfl rfl (by decide)) _ _ fun cls d H3 k i => hE cls d _ H3 es (Ks.trans (Ks.trans (Ks.trans k1_ k2_) k3_) k) i⟩⟩
  · exact post _ _ ⟨r, hs, lf, cn, y5, y6, y7, v, er, _, rfl, tG, fG.1, fG.2, hw, fun ws e => by
      cases e
      exact ⟨D2, rfl, gD.trans (by rw [rep_words] <;> rfl)⟩⟩
theorem st20 (L : Lw P w K mg base cs tb Pa Pb) (TB : LamX.TabB base mg c Pa) (hr : LRoom A s f c) : Does (LX P w K mg base f c A outer s H0 E0) (lawSt 20) (AtC K cs tb Pa a (fun _ => some (List.replicate 3 (Er.word (.coins (some 1)))))) (AtC K cs tb Pa a (fun _ => some (List.replicate 7 (Er.word (.coins (some 1)))))) := by
  refine ⟨_, ps_set (i := 10) sc_law.nd rfl (Or.inl rfl) (pe_op op_cat (pv 10) (pe_lc (own := [("ask", 11)]) (g := gName 11) (by rfl) sc_law.nd (pi_list (pe_lst (pa_cons (pe_glob (v := .ref L.al.f_view) rfl L.al.view.m rfl) (pa_cons (pe_glob (v := .ref L.al.f_read) rfl L.al.read.m rfl) (pa_cons (pe_glob (v := .ref L.al.f_found_later) rfl L.al.found_later.m rfl) (pa_cons (pe_glob (v := .ref L.al.f_is_parted) rfl L.al.is_parted.m rfl) pa_nil)))))) (blkOk_by (own := [("ask", 11)]) (N := n_law) (sc := defScope s_law) (by decide +kernel)) (fun _ _ _ _ _ => pg_name (i := 11) sc_law.nd rfl (Or.inr rfl)) (fun _ _ _ _ _ => pts_nil)
        (fun _ _ _ _ _ => pe_word L.W lawQ TB rfl rfl (by rfl) (k := 11) (hr.mono (by decide)) (LamX.lamS_by (by rfl)) (fun A' outer' s' H' E' f' c' hr' => pe_callAny (i := 11) (fs := L.al.l3) (fun q hq => (L.al.ok_l3 q hq).1) hr' (fun q hq => (L.al.ok_l3 q hq).2) (passX (E := E') rfl rfl rfl rfl) (pa_cons (pv 2) (pa_cons pe_str (pa_cons (pv 3) (pa_cons (pe_tup (pa_cons pe_int (pa_cons pe_int pa_nil))) (pa_cons pe_non (pa_cons pe_non pa_nil))))))) (by rfl) (fun _ _ _ _ _ => by rfl)))), fun D σ H pre post => ?_⟩
  obtain ⟨r, hs, lf, cn, y5, y6, y7, v, er, z, rfl, tS, ev, nl, hw, hz⟩ := pre
  obtain ⟨T, rfl, hT⟩ := hz _ rfl
  refine ⟨.ref T, rfl, ?_⟩
  refine ⟨by show 4 ≤ sizeLine; decide, fun l nl_ => ⟨l, rfl, ⟨_, SqL.of upd_same⟩, fun D2 nD => ?_⟩⟩
  have e1 := Ex.new (o := HO.lst (L.al.l3.map fun p => V.ref p.1)) nl_
  refine lc_words (K := K) (er := (.coins (some 1))) (q := lawQ) (fun G => Ev K tb hs lf cn G ∧ NoL K cs tb hs G v er) [(T, (List.replicate 3 (Er.word (.coins (some 1)))).map V.str)] nD upd_same (tS.ext e1) L.na (by rw [w_coins]; exact (aWords_ok (List.mem_of_getElem? (i := 4) rfl)).1) (by show 4 ≤ 100; decide) ⟨ev.kv (Kv.ex e1), nl.kv (Kv.ex e1)⟩ (fun p hp => by rw [List.mem_singleton.mp hp]; exact e1 _ _ hT) (fun G G' h k => ⟨h.1.kv k, h.2.kv k⟩) rfl (fun _ => rfl) (fun _ => rfl) (fun p hp G Q E fG hE => ?_) fun G fG tG kG gD pin => ?_
  · obtain ⟨ev, nl⟩ := fG
    refine ⟨.ref hs, rfl, ?_⟩
    refine ⟨.ref lf, rfl, ?_⟩
    refine ⟨by show 2 ≤ sizeLine; decide, fun s ns => ?_⟩
    have es := Ex.new (o := HO.tup [V.int 0, V.int 3]) ns
    have ev := ev.kv (Kv.ex es)
    have nl := nl.kv (Kv.ex es)
    simp only [Al.l3, List.mem_cons, List.mem_nil_iff, or_false] at hp
    rcases hp with rfl | rfl | rfl | rfl
    · exact ⟨_, _, _, _, _, _, rfl, ⟨_, _, _, _, rfl, (p_house ev.hh) _ _ fun H1_ k1_ => (p_life (ev.ks k1_).hh (ev.ks k1_).li good2) _ _ fun H2_ k2_ => (p_way (x := "true") (by decide +kernel)) _ _ fun H3_ k3_ => (t_coins (ev.ks (Ks.trans (Ks.trans k1_ k2_) k3_)).hh (ev.ks (Ks.trans (Ks.trans k1_ k2_) k3_)).se (cv03 ((Ks.trans (Ks.trans k1_ k2_) k3_).t _ _ upd_same)) rfl rfl (by decide)) _ _ fun cls d H3 k i => hE cls d _ H3 es (Ks.trans (Ks.trans (Ks.trans k1_ k2_) k3_) k) i⟩⟩
    · exact ⟨_, _, _, _, _, _, rfl, ⟨_, _, _, _, rfl, (p_house ev.hh) _ _ fun H1_ k1_ => (p_life (ev.ks k1_).hh (ev.ks k1_).li good2) _ _ fun H2_ k2_ => (p_way (x := "true") (by decide +kernel)) _ _ fun H3_ k3_ => (t_coins (ev.ks (Ks.trans (Ks.trans k1_ k2_) k3_)).hh (ev.ks (Ks.trans (Ks.trans k1_ k2_) k3_)).se (cv03 ((Ks.trans (Ks.trans k1_ k2_) k3_).t _ _ upd_same)) rfl rfl (by decide)) _ _ fun cls d H3 k i => hE cls d _ H3 es (Ks.trans (Ks.trans (Ks.trans k1_ k2_) k3_) k) i⟩⟩
    · exact ⟨_, _, _, _, _, _, rfl, ⟨_, _, _, _, rfl, (p_house ev.hh) _ _ fun H1_ k1_ => (p_life (ev.ks k1_).hh (ev.ks k1_).li good2) _ _ fun H2_ k2_ => (p_way (x := "true") (by decide +kernel)) _ _ fun H3_ k3_ => (t_coins (ev.ks (Ks.trans (Ks.trans k1_ k2_) k3_)).hh (ev.ks (Ks.trans (Ks.trans k1_ k2_) k3_)).se (cv03 ((Ks.trans (Ks.trans k1_ k2_) k3_).t _ _ upd_same)) rfl rfl (by decide)) _ _ fun cls d H3 k i => hE cls d _ H3 es (Ks.trans (Ks.trans (Ks.trans k1_ k2_) k3_) k) i⟩⟩
    · exact ⟨_, _, _, _, _, _, rfl, ⟨_, _, _, _, rfl, (p_house ev.hh) _ _ fun H1_ k1_ => (p_life (ev.ks k1_).hh (ev.ks k1_).li good2) _ _ fun H2_ k2_ => (p_way (x := "true") (by decide +kernel)) _ _ fun H3_ k3_ => (t_coins (ev.ks (Ks.trans (Ks.trans k1_ k2_) k3_)).hh (ev.ks (Ks.trans (Ks.trans k1_ k2_) k3_)).se (cv03 ((Ks.trans (Ks.trans k1_ k2_) k3_).t _ _ upd_same)) rfl rfl (by decide)) _ _ fun cls d H3 k i => hE cls d _ H3 es (Ks.trans (Ks.trans (Ks.trans k1_ k2_) k3_) k) i⟩⟩
  · refine ⟨T, D2, _, _, rfl, rfl, pin _ List.mem_cons_self, gD, by rw [List.length_map, List.length_replicate, List.length_replicate]; show 3 + 4 ≤ sizeLine; decide, fun p np => ?_⟩
    have e2 := Ex.new (o := HO.lst ((List.replicate 3 (Er.word (.coins (some 1)))).map V.str ++ List.replicate 4 (V.str (Er.word (.coins (some 1)))))) np
    exact post _ _ ⟨r, hs, lf, cn, y5, y6, y7, v, er, _, rfl, tG.ext e2, fG.1.kv (Kv.ex e2), fG.2.kv (Kv.ex e2), hw, fun ws e => by
      cases e
      exact ⟨p, rfl, upd_same.trans (show some (HO.lst ((List.replicate 3 (Er.word (.coins (some 1)))).map V.str ++ List.replicate 4 (V.str (Er.word (.coins (some 1)))))) = _ from by rw [rep_words, ← List.map_append, List.replicate_append_replicate])⟩⟩
theorem st21 (L : Lw P w K mg base cs tb Pa Pb) (TB : LamX.TabB base mg c Pa) (hr : LRoom A s f c) : Does (LX P w K mg base f c A outer s H0 E0) (lawSt 21) (AtC K cs tb Pa a (fun _ => some (List.replicate 7 (Er.word (.coins (some 1)))))) (AtC K cs tb Pa a (fun _ => none)) := by
  have un : (A.deeper (envOfC "law" (defScope s_law) s.heap.objs.size f (.ref c))).units + 64 < cLine := by have := hr.un; omega
  refine ⟨_, ps_if (pt_cmpR (op_neD un) (pv 10) (pe_op op_rep (pe_lst (pa_cons pe_str pa_nil)) pe_int) (nomark _)) (pss_one (ps_ret pe_bl)) pss_nil, fun D σ H pre post => ?_⟩
  obtain ⟨r, hs, lf, cn, y5, y6, y7, v, er, z, rfl, tS, ev, nl, hw, hz⟩ := pre
  obtain ⟨T, rfl, hT⟩ := hz _ rfl
  have hT : H T = some (.lst ((List.replicate 7 (("coins1" : Str))).map V.str)) := (by rw [w_coins] at hT; exact hT)
  refine ⟨.ref T, rfl, by show 1 ≤ sizeLine; decide, fun l2 n2 => ⟨l2, 7, [.str (("coins1" : Str))], rfl, rfl, upd_same, by decide, by decide, (by show 1 * 7 ≤ sizeLine; decide), fun z nz => ?_⟩⟩
  have e3 := (Ex.new (o := HO.lst [V.str (("coins1" : Str))]) n2).trans (Ex.new (o := HO.lst (List.replicate 7 [V.str (("coins1" : Str))]).flatten) nz)
  refine ne_words (ws := List.replicate 7 (("coins1" : Str))) (fun y hy => by rw [(List.mem_replicate.mp hy).2]; exact (aWords_ok (List.mem_of_getElem? (i := 4) rfl)).2) (e3 _ _ hT) (upd_same.trans (show some (HO.lst (List.replicate 7 [V.str (("coins1" : Str))]).flatten) = _ from by rw [List.flatten_replicate_singleton, rep_words])) ?_
  exact ⟨_, rfl, iteF (post _ _ ⟨r, hs, lf, cn, y5, y6, y7, v, er, _, rfl, tS.ext e3, ev.kv (Kv.ex e3), nl.kv (Kv.ex e3), hw, fun ws e => by cases e⟩)⟩
theorem st22 (L : Lw P w K mg base cs tb Pa Pb) (TB : LamX.TabB base mg c Pa) (hr : LRoom A s f c) : Does (LX P w K mg base f c A outer s H0 E0) (lawSt 22) (AtC K cs tb Pa a (fun _ => none)) (AtC K cs tb Pa a (fun _ => some (List.replicate 3 (Er.word .drawer)))) := by
  refine ⟨_, ps_setLc (i := 10) (own := [("ask", 11)]) (g := gName 11) (by rfl) sc_law.nd rfl rfl (sw_true rfl rfl (by rfl) (by decide +kernel)) (pi_list (pe_lst (pa_cons (pe_glob (v := .ref L.al.f_looks) rfl L.al.looks.m rfl) (pa_cons (pe_glob (v := .ref L.al.f_waiting) rfl L.al.waiting.m rfl) (pa_cons (pe_glob (v := .ref L.al.f_places) rfl L.al.places.m rfl) pa_nil))))) (blkOk_by (own := [("ask", 11)]) (N := n_law) (sc := defScope s_law) (by decide +kernel)) (fun _ _ _ _ _ => pg_name (i := 11) sc_law.nd rfl (Or.inr rfl)) (fun _ _ _ _ _ => pts_nil)
        (fun _ _ _ _ _ => pe_word L.W lawQ TB rfl rfl (by rfl) (k := 11) (hr.mono (by decide)) (LamX.lamS_by (by rfl)) (fun A' outer' s' H' E' f' c' hr' => pe_callAny (i := 11) (fs := L.al.l4) (fun q hq => (L.al.ok_l4 q hq).1) hr' (fun q hq => (L.al.ok_l4 q hq).2) (passX (E := E') rfl rfl rfl rfl) (pa_cons (pv 2) (pa_cons pe_str (pa_cons (pv 3) (pa_cons (pv 4) (pa_cons pe_int pa_nil)))))) (by rfl) (fun _ _ _ _ _ => by rfl)), fun D σ H pre post => ?_⟩
  obtain ⟨r, hs, lf, cn, y5, y6, y7, v, er, z, rfl, tS, ev, nl, hw, hz⟩ := pre
  refine ⟨by show 3 ≤ sizeLine; decide, fun l nl_ => ⟨l, rfl, ⟨_, SqL.of upd_same⟩, fun D2 nD => ?_⟩⟩
  have e1 := Ex.new (o := HO.lst (L.al.l4.map fun p => V.ref p.1)) nl_
  refine lc_words (K := K) (er := .drawer) (q := lawQ) (fun G => Ev K tb hs lf cn G ∧ NoL K cs tb hs G v er) [] nD upd_same (tS.ext e1) L.na (by rw [w_drawer]; exact (aWords_ok (List.mem_of_getElem? (i := 5) rfl)).1) (by show 3 ≤ 100; decide) ⟨ev.kv (Kv.ex e1), nl.kv (Kv.ex e1)⟩ (fun p hp => by cases hp) (fun G G' h k => ⟨h.1.kv k, h.2.kv k⟩) rfl (fun _ => rfl) (fun _ => rfl) (fun p hp G Q E fG hE => ?_) fun G fG tG kG gD pin => ?_
  · obtain ⟨ev, nl⟩ := fG
    refine ⟨.ref hs, rfl, ?_⟩
    refine ⟨.ref lf, rfl, ?_⟩
    refine ⟨.ref cn, rfl, ?_⟩
    simp only [Al.l4, List.mem_cons, List.mem_nil_iff, or_false] at hp
    rcases hp with rfl | rfl | rfl
    · exact ⟨_, _, _, _, _, rfl, ⟨_, _, _, _, rfl, (p_house ev.hh) _ _ fun H1_ k1_ => (p_life (ev.ks k1_).hh (ev.ks k1_).li good2) _ _ fun H2_ k2_ => (p_way (x := "true") (by decide +kernel)) _ _ fun H3_ k3_ => (p_coins (ev.ks (Ks.trans (Ks.trans k1_ k2_) k3_)).hh (ev.ks (Ks.trans (Ks.trans k1_ k2_) k3_)).se (ev.ks (Ks.trans (Ks.trans k1_ k2_) k3_)).co rfl) _ _ fun H4_ k4_ => (t_chk (cs := cs) (er := .drawer) (ev.ks (Ks.trans (Ks.trans (Ks.trans k1_ k2_) k3_) k4_)).hh (.int 2) (by decide +kernel) (fun _ _ => rfl)) _ _ fun cls d H3 k i => hE cls d _ H3 (Ex.refl _) (Ks.trans (Ks.trans (Ks.trans (Ks.trans k1_ k2_) k3_) k4_) k) i⟩⟩
    · exact ⟨_, _, _, _, _, rfl, ⟨_, _, _, _, rfl, (p_house ev.hh) _ _ fun H1_ k1_ => (p_life (ev.ks k1_).hh (ev.ks k1_).li good2) _ _ fun H2_ k2_ => (p_way (x := "true") (by decide +kernel)) _ _ fun H3_ k3_ => (p_coins (ev.ks (Ks.trans (Ks.trans k1_ k2_) k3_)).hh (ev.ks (Ks.trans (Ks.trans k1_ k2_) k3_)).se (ev.ks (Ks.trans (Ks.trans k1_ k2_) k3_)).co rfl) _ _ fun H4_ k4_ => ⟨_, _, _, rfl, (t_chk (cs := cs) (er := .drawer) (ev.ks (Ks.trans (Ks.trans (Ks.trans k1_ k2_) k3_) k4_)).hh (.int 2) (by decide +kernel) (fun _ _ => rfl)) _ _ fun cls d H3 k i => hE cls d _ H3 (Ex.refl _) (Ks.trans (Ks.trans (Ks.trans (Ks.trans k1_ k2_) k3_) k4_) k) i⟩⟩⟩
    · exact ⟨_, _, _, _, _, rfl, ⟨_, _, _, _, rfl, (p_house ev.hh) _ _ fun H1_ k1_ => (p_life (ev.ks k1_).hh (ev.ks k1_).li good2) _ _ fun H2_ k2_ => (p_way (x := "true") (by decide +kernel)) _ _ fun H3_ k3_ => (p_coins (ev.ks (Ks.trans (Ks.trans k1_ k2_) k3_)).hh (ev.ks (Ks.trans (Ks.trans k1_ k2_) k3_)).se (ev.ks (Ks.trans (Ks.trans k1_ k2_) k3_)).co rfl) _ _ fun H4_ k4_ => ⟨_, _, _, rfl, (t_chk (cs := cs) (er := .drawer) (ev.ks (Ks.trans (Ks.trans (Ks.trans k1_ k2_) k3_) k4_)).hh (.int 2) (by decide +kernel) (fun _ _ => rfl)) _ _ fun cls d H3 k i => hE cls d _ H3 (Ex.refl _) (Ks.trans (Ks.trans (Ks.trans (Ks.trans k1_ k2_) k3_) k4_) k) i⟩⟩⟩
  · exact post _ _ ⟨r, hs, lf, cn, y5, y6, y7, v, er, _, rfl, tG, fG.1, fG.2, hw, fun ws e => by
      cases e
      exact ⟨D2, rfl, gD.trans (by rw [rep_words] <;> rfl)⟩⟩
theorem st23 (L : Lw P w K mg base cs tb Pa Pb) (TB : LamX.TabB base mg c Pa) (hr : LRoom A s f c) : Does (LX P w K mg base f c A outer s H0 E0) (lawSt 23) (AtC K cs tb Pa a (fun _ => some (List.replicate 3 (Er.word .drawer)))) (AtC K cs tb Pa a (fun _ => some (List.replicate 7 (Er.word .drawer)))) := by
  refine ⟨_, ps_set (i := 10) sc_law.nd rfl (Or.inl rfl) (pe_op op_cat (pv 10) (pe_lc (own := [("ask", 11)]) (g := gName 11) (by rfl) sc_law.nd (pi_list (pe_lst (pa_cons (pe_glob (v := .ref L.al.f_view) rfl L.al.view.m rfl) (pa_cons (pe_glob (v := .ref L.al.f_read) rfl L.al.read.m rfl) (pa_cons (pe_glob (v := .ref L.al.f_found_later) rfl L.al.found_later.m rfl) (pa_cons (pe_glob (v := .ref L.al.f_is_parted) rfl L.al.is_parted.m rfl) pa_nil)))))) (blkOk_by (own := [("ask", 11)]) (N := n_law) (sc := defScope s_law) (by decide +kernel)) (fun _ _ _ _ _ => pg_name (i := 11) sc_law.nd rfl (Or.inr rfl)) (fun _ _ _ _ _ => pts_nil)
        (fun _ _ _ _ _ => pe_word L.W lawQ TB rfl rfl (by rfl) (k := 11) (hr.mono (by decide)) (LamX.lamS_by (by rfl)) (fun A' outer' s' H' E' f' c' hr' => pe_callAny (i := 11) (fs := L.al.l3) (fun q hq => (L.al.ok_l3 q hq).1) hr' (fun q hq => (L.al.ok_l3 q hq).2) (passX (E := E') rfl rfl rfl rfl) (pa_cons (pv 2) (pa_cons pe_str (pa_cons (pv 3) (pa_cons (pv 4) (pa_cons pe_int (pa_cons pe_non pa_nil))))))) (by rfl) (fun _ _ _ _ _ => by rfl)))), fun D σ H pre post => ?_⟩
  obtain ⟨r, hs, lf, cn, y5, y6, y7, v, er, z, rfl, tS, ev, nl, hw, hz⟩ := pre
  obtain ⟨T, rfl, hT⟩ := hz _ rfl
  refine ⟨.ref T, rfl, ?_⟩
  refine ⟨by show 4 ≤ sizeLine; decide, fun l nl_ => ⟨l, rfl, ⟨_, SqL.of upd_same⟩, fun D2 nD => ?_⟩⟩
  have e1 := Ex.new (o := HO.lst (L.al.l3.map fun p => V.ref p.1)) nl_
  refine lc_words (K := K) (er := .drawer) (q := lawQ) (fun G => Ev K tb hs lf cn G ∧ NoL K cs tb hs G v er) [(T, (List.replicate 3 (Er.word .drawer)).map V.str)] nD upd_same (tS.ext e1) L.na (by rw [w_drawer]; exact (aWords_ok (List.mem_of_getElem? (i := 5) rfl)).1) (by show 4 ≤ 100; decide) ⟨ev.kv (Kv.ex e1), nl.kv (Kv.ex e1)⟩ (fun p hp => by rw [List.mem_singleton.mp hp]; exact e1 _ _ hT) (fun G G' h k => ⟨h.1.kv k, h.2.kv k⟩) rfl (fun _ => rfl) (fun _ => rfl) (fun p hp G Q E fG hE => ?_) fun G fG tG kG gD pin => ?_
  · obtain ⟨ev, nl⟩ := fG
    refine ⟨.ref hs, rfl, ?_⟩
    refine ⟨.ref lf, rfl, ?_⟩
    refine ⟨.ref cn, rfl, ?_⟩
    simp only [Al.l3, List.mem_cons, List.mem_nil_iff, or_false] at hp
    rcases hp with rfl | rfl | rfl | rfl
    · exact ⟨_, _, _, _, _, _, rfl, ⟨_, _, _, _, rfl, (p_house ev.hh) _ _ fun H1_ k1_ => (p_life (ev.ks k1_).hh (ev.ks k1_).li good2) _ _ fun H2_ k2_ => (p_way (x := "true") (by decide +kernel)) _ _ fun H3_ k3_ => (p_coins (ev.ks (Ks.trans (Ks.trans k1_ k2_) k3_)).hh (ev.ks (Ks.trans (Ks.trans k1_ k2_) k3_)).se (ev.ks (Ks.trans (Ks.trans k1_ k2_) k3_)).co rfl) _ _ fun H4_ k4_ => (t_chk (cs := cs) (er := .drawer) (ev.ks (Ks.trans (Ks.trans (Ks.trans k1_ k2_) k3_) k4_)).hh (.int 2) (by decide +kernel) (fun _ _ => rfl)) _ _ fun cls d H3 k i => hE cls d _ H3 (Ex.refl _) (Ks.trans (Ks.trans (Ks.trans (Ks.trans k1_ k2_) k3_) k4_) k) i⟩⟩
    · exact ⟨_, _, _, _, _, _, rfl, ⟨_, _, _, _, rfl, (p_house ev.hh) _ _ fun H1_ k1_ => (p_life (ev.ks k1_).hh (ev.ks k1_).li good2) _ _ fun H2_ k2_ => (p_way (x := "true") (by decide +kernel)) _ _ fun H3_ k3_ => (p_coins (ev.ks (Ks.trans (Ks.trans k1_ k2_) k3_)).hh (ev.ks (Ks.trans (Ks.trans k1_ k2_) k3_)).se (ev.ks (Ks.trans (Ks.trans k1_ k2_) k3_)).co rfl) _ _ fun H4_ k4_ => ⟨_, _, _, rfl, (t_chk (cs := cs) (er := .drawer) (ev.ks (Ks.trans (Ks.trans (Ks.trans k1_ k2_) k3_) k4_)).hh (.int 2) (by decide +kernel) (fun _ _ => rfl)) _ _ fun cls d H3 k i => hE cls d _ H3 (Ex.refl _) (Ks.trans (Ks.trans (Ks.trans (Ks.trans k1_ k2_) k3_) k4_) k) i⟩⟩⟩
    · exact ⟨_, _, _, _, _, _, rfl, ⟨_, _, _, _, rfl, (p_house ev.hh) _ _ fun H1_ k1_ => (p_life (ev.ks k1_).hh (ev.ks k1_).li good2) _ _ fun H2_ k2_ => (p_way (x := "true") (by decide +kernel)) _ _ fun H3_ k3_ => (p_coins (ev.ks (Ks.trans (Ks.trans k1_ k2_) k3_)).hh (ev.ks (Ks.trans (Ks.trans k1_ k2_) k3_)).se (ev.ks (Ks.trans (Ks.trans k1_ k2_) k3_)).co rfl) _ _ fun H4_ k4_ => (t_chk (cs := cs) (er := .drawer) (ev.ks (Ks.trans (Ks.trans (Ks.trans k1_ k2_) k3_) k4_)).hh (.int 2) (by decide +kernel) (fun _ _ => rfl)) _ _ fun cls d H3 k i => hE cls d _ H3 (Ex.refl _) (Ks.trans (Ks.trans (Ks.trans (Ks.trans k1_ k2_) k3_) k4_) k) i⟩⟩
    · exact ⟨_, _, _, _, _, _, rfl, ⟨_, _, _, _, rfl, (p_house ev.hh) _ _ fun H1_ k1_ => (p_life (ev.ks k1_).hh (ev.ks k1_).li good2) _ _ fun H2_ k2_ => (p_way (x := "true") (by decide +kernel)) _ _ fun H3_ k3_ => (p_coins (ev.ks (Ks.trans (Ks.trans k1_ k2_) k3_)).hh (ev.ks (Ks.trans (Ks.trans k1_ k2_) k3_)).se (ev.ks (Ks.trans (Ks.trans k1_ k2_) k3_)).co rfl) _ _ fun H4_ k4_ => (t_chk (cs := cs) (er := .drawer) (ev.ks (Ks.trans (Ks.trans (Ks.trans k1_ k2_) k3_) k4_)).hh (.int 2) (by decide +kernel) (fun _ _ => rfl)) _ _ fun cls d H3 k i => hE cls d _ H3 (Ex.refl _) (Ks.trans (Ks.trans (Ks.trans (Ks.trans k1_ k2_) k3_) k4_) k) i⟩⟩
  · refine ⟨T, D2, _, _, rfl, rfl, pin _ List.mem_cons_self, gD, by rw [List.length_map, List.length_replicate, List.length_replicate]; show 3 + 4 ≤ sizeLine; decide, fun p np => ?_⟩
    have e2 := Ex.new (o := HO.lst ((List.replicate 3 (Er.word .drawer)).map V.str ++ List.replicate 4 (V.str (Er.word .drawer)))) np
    exact post _ _ ⟨r, hs, lf, cn, y5, y6, y7, v, er, _, rfl, tG.ext e2, fG.1.kv (Kv.ex e2), fG.2.kv (Kv.ex e2), hw, fun ws e => by
      cases e
      exact ⟨p, rfl, upd_same.trans (show some (HO.lst ((List.replicate 3 (Er.word .drawer)).map V.str ++ List.replicate 4 (V.str (Er.word .drawer)))) = _ from by rw [rep_words, ← List.map_append, List.replicate_append_replicate])⟩⟩
theorem st24 (L : Lw P w K mg base cs tb Pa Pb) (TB : LamX.TabB base mg c Pa) (hr : LRoom A s f c) : Does (LX P w K mg base f c A outer s H0 E0) (lawSt 24) (AtC K cs tb Pa a (fun _ => some (List.replicate 7 (Er.word .drawer)))) (AtC K cs tb Pa a (fun _ => some (List.replicate 8 (Er.word .drawer)))) := by
  refine ⟨_, ps_expr (pe_bm PySem.F.plainAttrs_list PySem.F.slot_list_append PySem.F.type_list_append mt_append (pv 10) (pa_cons (pe_word L.W lawQ TB rfl rfl (by rfl) (k := 11) (hr.mono (by decide)) (LamX.lamS_by (by rfl)) (fun A' outer' s' H' E' f' c' hr' => pe_call L.al.view_count.G hr' (by rfl) L.al.view_count.m L.al.view_count.k L.al.view_count.b .nil (passX (E := E') rfl rfl rfl rfl) (pa_cons (pv 2) (pa_cons pe_str (pa_cons (pv 3) (pa_cons pe_bl (pa_cons pe_non pa_nil)))))) (by rfl) (fun _ _ _ _ _ => by rfl)) pa_nil)), fun D σ H pre post => ?_⟩
  obtain ⟨r, hs, lf, cn, y5, y6, y7, v, er, z, rfl, tS, ev, nl, hw, hz⟩ := pre
  obtain ⟨T, rfl, hT⟩ := hz _ rfl
  refine ⟨.ref T, rfl, .inl ⟨rfl, _, SqL.of hT⟩, ?_⟩
  refine word_go (K := K) (er := .drawer) (q := lawQ) tS (by rw [w_drawer]; exact (aWords_ok (List.mem_of_getElem? (i := 5) rfl)).1) (fun G Qn E k1 T1 hE => ?_) fun H3 k3 T3 => ?_
  · have ev := ev.kv k1.v
    have nl := nl.kv k1.v
    refine ⟨.ref hs, rfl, ?_⟩
    refine ⟨.ref lf, rfl, ?_⟩
    exact ⟨_, _, _, _, _, rfl, ⟨_, _, _, _, _, rfl, (p_house ev.hh) _ _ fun H1_ k1_ => (p_life (ev.ks k1_).hh (ev.ks k1_).li good2) _ _ fun H2_ k2_ => (p_way (x := "true") (by decide +kernel)) _ _ fun H3_ k3_ => (t_chk (cs := cs) (er := .drawer) (ev.ks (Ks.trans (Ks.trans k1_ k2_) k3_)).hh (.bl true) (by decide +kernel) (fun _ _ => rfl)) _ _ fun cls d H3 k i => word_fin L.na hE k1 T1 (Ex.refl _) cls d H3 (Ks.trans (Ks.trans (Ks.trans k1_ k2_) k3_) k) i⟩⟩
  · have g3 := k3.l _ _ hT
    refine ⟨T, _, _, rfl, rfl, g3, by rw [List.length_map]; exact Nat.lt_of_le_of_lt (by rw [List.length_replicate]; exact Nat.le_refl 7) (by decide), ?_⟩
    exact post _ _ ⟨r, hs, lf, cn, y5, y6, y7, v, er, _, rfl, tabS_put T3 g3, (ev.kv k3.v).kv (Kv.put g3), (nl.kv k3.v).kv (Kv.put g3), hw, fun ws e => by
      cases e
      exact ⟨T, rfl, upd_same.trans (by rw [List.replicate_succ', List.map_append] <;> rfl)⟩⟩
theorem st25 (L : Lw P w K mg base cs tb Pa Pb) (TB : LamX.TabB base mg c Pa) (hr : LRoom A s f c) : Does (LX P w K mg base f c A outer s H0 E0) (lawSt 25) (AtC K cs tb Pa a (fun _ => some (List.replicate 8 (Er.word .drawer)))) (AtC K cs tb Pa a (fun _ => some (List.replicate 9 (Er.word .drawer)))) := by
  refine ⟨_, ps_expr (pe_bm PySem.F.plainAttrs_list PySem.F.slot_list_append PySem.F.type_list_append mt_append (pv 10) (pa_cons (pe_word L.W lawQ TB rfl rfl (by rfl) (k := 11) (hr.mono (by decide)) (LamX.lamS_by (by rfl)) (fun A' outer' s' H' E' f' c' hr' => pe_call L.al.loss_chance.G hr' (by rfl) L.al.loss_chance.m L.al.loss_chance.k L.al.loss_chance.b .nil (passX (E := E') rfl rfl rfl rfl) (pa_cons (pv 2) (pa_cons (pv 3) (pa_cons pe_int (pa_cons pe_non pa_nil))))) (by rfl) (fun _ _ _ _ _ => by rfl)) pa_nil)), fun D σ H pre post => ?_⟩
  obtain ⟨r, hs, lf, cn, y5, y6, y7, v, er, z, rfl, tS, ev, nl, hw, hz⟩ := pre
  obtain ⟨T, rfl, hT⟩ := hz _ rfl
  refine ⟨.ref T, rfl, .inl ⟨rfl, _, SqL.of hT⟩, ?_⟩
  refine word_go (K := K) (er := .drawer) (q := lawQ) tS (by rw [w_drawer]; exact (aWords_ok (List.mem_of_getElem? (i := 5) rfl)).1) (fun G Qn E k1 T1 hE => ?_) fun H3 k3 T3 => ?_
  · have ev := ev.kv k1.v
    have nl := nl.kv k1.v
    refine ⟨.ref hs, rfl, ?_⟩
    refine ⟨.ref lf, rfl, ?_⟩
    exact ⟨_, _, _, _, rfl, (p_house ev.hh) _ _ fun H1_ k1_ => (p_life (ev.ks k1_).hh (ev.ks k1_).li good2) _ _ fun H2_ k2_ => (t_chk (cs := cs) (er := .drawer) (ev.ks (Ks.trans k1_ k2_)).hh (.int 2) (by decide +kernel) (fun _ _ => rfl)) _ _ fun cls d H3 k i => word_fin L.na hE k1 T1 (Ex.refl _) cls d H3 (Ks.trans (Ks.trans k1_ k2_) k) i⟩
  · have g3 := k3.l _ _ hT
    refine ⟨T, _, _, rfl, rfl, g3, by rw [List.length_map]; exact Nat.lt_of_le_of_lt (by rw [List.length_replicate]; exact Nat.le_refl 8) (by decide), ?_⟩
    exact post _ _ ⟨r, hs, lf, cn, y5, y6, y7, v, er, _, rfl, tabS_put T3 g3, (ev.kv k3.v).kv (Kv.put g3), (nl.kv k3.v).kv (Kv.put g3), hw, fun ws e => by
      cases e
      exact ⟨T, rfl, upd_same.trans (by rw [List.replicate_succ', List.map_append] <;> rfl)⟩⟩
theorem st26 (L : Lw P w K mg base cs tb Pa Pb) (TB : LamX.TabB base mg c Pa) (hr : LRoom A s f c) : Does (LX P w K mg base f c A outer s H0 E0) (lawSt 26) (AtC K cs tb Pa a (fun _ => some (List.replicate 9 (Er.word .drawer)))) (AtC K cs tb Pa a (fun _ => some (List.replicate 10 (Er.word .drawer)))) := by
  refine ⟨_, ps_expr (pe_bm PySem.F.plainAttrs_list PySem.F.slot_list_append PySem.F.type_list_append mt_append (pv 10) (pa_cons (pe_word L.W lawQ TB rfl rfl (by rfl) (k := 11) (hr.mono (by decide)) (LamX.lamS_by (by rfl)) (fun A' outer' s' H' E' f' c' hr' => pe_call L.al.waiting_counts.G hr' (by rfl) L.al.waiting_counts.m L.al.waiting_counts.k L.al.waiting_counts.b .nil (passX (E := E') rfl rfl rfl rfl) (pa_cons (pv 2) (pa_cons pe_str (pa_cons (pe_tup pa_nil) (pa_cons pe_non pa_nil))))) (by rfl) (fun _ _ _ _ _ => by rfl)) pa_nil)), fun D σ H pre post => ?_⟩
  obtain ⟨r, hs, lf, cn, y5, y6, y7, v, er, z, rfl, tS, ev, nl, hw, hz⟩ := pre
  obtain ⟨T, rfl, hT⟩ := hz _ rfl
  refine ⟨.ref T, rfl, .inl ⟨rfl, _, SqL.of hT⟩, ?_⟩
  refine word_go (K := K) (er := .drawer) (q := lawQ) tS (by rw [w_drawer]; exact (aWords_ok (List.mem_of_getElem? (i := 5) rfl)).1) (fun G Qn E k1 T1 hE => ?_) fun H3 k3 T3 => ?_
  · have ev := ev.kv k1.v
    have nl := nl.kv k1.v
    refine ⟨.ref hs, rfl, ?_⟩
    refine ⟨by show 0 ≤ sizeLine; decide, fun s ns => ?_⟩
    have es := Ex.new (o := HO.tup []) ns
    have ev := ev.kv (Kv.ex es)
    have nl := nl.kv (Kv.ex es)
    exact ⟨_, _, _, _, rfl, ⟨_, _, _, _, rfl, (p_house ev.hh) _ _ fun H1_ k1_ => (p_story (ev.ks k1_).hh (st00 (k1_.t _ _ upd_same)) (ev.ks k1_).m rfl) _ _ fun H2_ k2_ => (p_way (x := "true") (by decide +kernel)) _ _ fun H3_ k3_ => (t_chk (cs := cs) (er := .drawer) (ev.ks (Ks.trans (Ks.trans k1_ k2_) k3_)).hh .non (by decide +kernel) (fun _ _ => rfl)) _ _ fun cls d H3 k i => word_fin L.na hE k1 T1 es cls d H3 (Ks.trans (Ks.trans (Ks.trans k1_ k2_) k3_) k) i⟩⟩
  · have g3 := k3.l _ _ hT
    refine ⟨T, _, _, rfl, rfl, g3, by rw [List.length_map]; exact Nat.lt_of_le_of_lt (by rw [List.length_replicate]; exact Nat.le_refl 9) (by decide), ?_⟩
    exact post _ _ ⟨r, hs, lf, cn, y5, y6, y7, v, er, _, rfl, tabS_put T3 g3, (ev.kv k3.v).kv (Kv.put g3), (nl.kv k3.v).kv (Kv.put g3), hw, fun ws e => by
      cases e
      exact ⟨T, rfl, upd_same.trans (by rw [List.replicate_succ', List.map_append] <;> rfl)⟩⟩
theorem st27 (L : Lw P w K mg base cs tb Pa Pb) (TB : LamX.TabB base mg c Pa) (hr : LRoom A s f c) : Does (LX P w K mg base f c A outer s H0 E0) (lawSt 27) (AtC K cs tb Pa a (fun _ => some (List.replicate 10 (Er.word .drawer)))) (AtC K cs tb Pa a (fun _ => some (List.replicate 11 (Er.word .drawer)))) := by
  refine ⟨_, ps_expr (pe_bm PySem.F.plainAttrs_list PySem.F.slot_list_append PySem.F.type_list_append mt_append (pv 10) (pa_cons (pe_word L.W lawQ TB rfl rfl (by rfl) (k := 11) (hr.mono (by decide)) (LamX.lamS_by (by rfl)) (fun A' outer' s' H' E' f' c' hr' => pe_call L.al.parting.G hr' (by rfl) L.al.parting.m L.al.parting.k L.al.parting.b .nil (passX (E := E') rfl rfl rfl rfl) (pa_cons (pv 2) (pa_cons pe_str (pa_cons pe_int (pa_cons pe_non (pa_cons pe_non pa_nil)))))) (by rfl) (fun _ _ _ _ _ => by rfl)) pa_nil)), fun D σ H pre post => ?_⟩
  obtain ⟨r, hs, lf, cn, y5, y6, y7, v, er, z, rfl, tS, ev, nl, hw, hz⟩ := pre
  obtain ⟨T, rfl, hT⟩ := hz _ rfl
  refine ⟨.ref T, rfl, .inl ⟨rfl, _, SqL.of hT⟩, ?_⟩
  refine word_go (K := K) (er := .drawer) (q := lawQ) tS (by rw [w_drawer]; exact (aWords_ok (List.mem_of_getElem? (i := 5) rfl)).1) (fun G Qn E k1 T1 hE => ?_) fun H3 k3 T3 => ?_
  · have ev := ev.kv k1.v
    have nl := nl.kv k1.v
    refine ⟨.ref hs, rfl, ?_⟩
    exact ⟨_, _, _, _, _, rfl, (p_house ev.hh) _ _ fun H1_ k1_ => (p_way (x := "true") (by decide +kernel)) _ _ fun H2_ k2_ => ⟨_, _, _, _, rfl, (t_chk (cs := cs) (er := .drawer) (ev.ks (Ks.trans k1_ k2_)).hh (.int 2) (by decide +kernel) (fun _ _ => rfl)) _ _ fun cls d H3 k i => word_fin L.na hE k1 T1 (Ex.refl _) cls d H3 (Ks.trans (Ks.trans k1_ k2_) k) i⟩⟩
  · have g3 := k3.l _ _ hT
    refine ⟨T, _, _, rfl, rfl, g3, by rw [List.length_map]; exact Nat.lt_of_le_of_lt (by rw [List.length_replicate]; exact Nat.le_refl 10) (by decide), ?_⟩
    exact post _ _ ⟨r, hs, lf, cn, y5, y6, y7, v, er, _, rfl, tabS_put T3 g3, (ev.kv k3.v).kv (Kv.put g3), (nl.kv k3.v).kv (Kv.put g3), hw, fun ws e => by
      cases e
      exact ⟨T, rfl, upd_same.trans (by rw [List.replicate_succ', List.map_append] <;> rfl)⟩⟩
theorem st28 (L : Lw P w K mg base cs tb Pa Pb) (TB : LamX.TabB base mg c Pa) (hr : LRoom A s f c) : Does (LX P w K mg base f c A outer s H0 E0) (lawSt 28) (AtC K cs tb Pa a (fun _ => some (List.replicate 11 (Er.word .drawer)))) (AtC K cs tb Pa a (fun _ => some (List.replicate 12 (Er.word .drawer)))) := by
  refine ⟨_, ps_expr (pe_bm PySem.F.plainAttrs_list PySem.F.slot_list_append PySem.F.type_list_append mt_append (pv 10) (pa_cons (pe_word L.W lawQ TB rfl rfl (by rfl) (k := 11) (hr.mono (by decide)) (LamX.lamS_by (by rfl)) (fun A' outer' s' H' E' f' c' hr' => pe_call L.al.safe_ways.G hr' (by rfl) L.al.safe_ways.m L.al.safe_ways.k L.al.safe_ways.b .nil (passX (E := E') rfl rfl rfl rfl) (pa_cons (pv 2) (pa_cons (pe_op op_sub pe_int pe_int) (pa_cons pe_non (pa_cons pe_non pa_nil))))) (by rfl) (fun _ _ _ _ _ => by rfl)) pa_nil)), fun D σ H pre post => ?_⟩
  obtain ⟨r, hs, lf, cn, y5, y6, y7, v, er, z, rfl, tS, ev, nl, hw, hz⟩ := pre
  obtain ⟨T, rfl, hT⟩ := hz _ rfl
  refine ⟨.ref T, rfl, .inl ⟨rfl, _, SqL.of hT⟩, ?_⟩
  refine word_go (K := K) (er := .drawer) (q := lawQ) tS (by rw [w_drawer]; exact (aWords_ok (List.mem_of_getElem? (i := 5) rfl)).1) (fun G Qn E k1 T1 hE => ?_) fun H3 k3 T3 => ?_
  · have ev := ev.kv k1.v
    have nl := nl.kv k1.v
    refine ⟨.ref hs, rfl, ?_⟩
    refine ⟨_, _, rfl, rfl, ?_⟩
    exact ⟨_, _, _, _, rfl, (p_house ev.hh) _ _ fun H1_ k1_ => ⟨_, _, _, _, rfl, (t_chk (cs := cs) (er := .drawer) (ev.ks k1_).hh (.int (0 - 1)) (by decide +kernel) (fun _ _ => rfl)) _ _ fun cls d H3 k i => word_fin L.na hE k1 T1 (Ex.refl _) cls d H3 (Ks.trans k1_ k) i⟩⟩
  · have g3 := k3.l _ _ hT
    refine ⟨T, _, _, rfl, rfl, g3, by rw [List.length_map]; exact Nat.lt_of_le_of_lt (by rw [List.length_replicate]; exact Nat.le_refl 11) (by decide), ?_⟩
    exact post _ _ ⟨r, hs, lf, cn, y5, y6, y7, v, er, _, rfl, tabS_put T3 g3, (ev.kv k3.v).kv (Kv.put g3), (nl.kv k3.v).kv (Kv.put g3), hw, fun ws e => by
      cases e
      exact ⟨T, rfl, upd_same.trans (by rw [List.replicate_succ', List.map_append] <;> rfl)⟩⟩
theorem st29 (L : Lw P w K mg base cs tb Pa Pb) (TB : LamX.TabB base mg c Pa) (hr : LRoom A s f c) : Does (LX P w K mg base f c A outer s H0 E0) (lawSt 29) (AtC K cs tb Pa a (fun _ => some (List.replicate 12 (Er.word .drawer)))) (AtC K cs tb Pa a (fun _ => none)) := by
  have un : (A.deeper (envOfC "law" (defScope s_law) s.heap.objs.size f (.ref c))).units + 64 < cLine := by have := hr.un; omega
  refine ⟨_, ps_if (pt_cmpR (op_neD un) (pv 10) (pe_op op_rep (pe_lst (pa_cons pe_str pa_nil)) pe_int) (nomark _)) (pss_one (ps_ret pe_bl)) pss_nil, fun D σ H pre post => ?_⟩
  obtain ⟨r, hs, lf, cn, y5, y6, y7, v, er, z, rfl, tS, ev, nl, hw, hz⟩ := pre
  obtain ⟨T, rfl, hT⟩ := hz _ rfl
  have hT : H T = some (.lst ((List.replicate 12 (("drawer" : Str))).map V.str)) := (by rw [w_drawer] at hT; exact hT)
  refine ⟨.ref T, rfl, by show 1 ≤ sizeLine; decide, fun l2 n2 => ⟨l2, 12, [.str (("drawer" : Str))], rfl, rfl, upd_same, by decide, by decide, (by show 1 * 12 ≤ sizeLine; decide), fun z nz => ?_⟩⟩
  have e3 := (Ex.new (o := HO.lst [V.str (("drawer" : Str))]) n2).trans (Ex.new (o := HO.lst (List.replicate 12 [V.str (("drawer" : Str))]).flatten) nz)
  refine ne_words (ws := List.replicate 12 (("drawer" : Str))) (fun y hy => by rw [(List.mem_replicate.mp hy).2]; exact (aWords_ok (List.mem_of_getElem? (i := 5) rfl)).2) (e3 _ _ hT) (upd_same.trans (show some (HO.lst (List.replicate 12 [V.str (("drawer" : Str))]).flatten) = _ from by rw [List.flatten_replicate_singleton, rep_words])) ?_
  exact ⟨_, rfl, iteF (post _ _ ⟨r, hs, lf, cn, y5, y6, y7, v, er, _, rfl, tS.ext e3, ev.kv (Kv.ex e3), nl.kv (Kv.ex e3), hw, fun ws e => by cases e⟩)⟩
theorem st30 (L : Lw P w K mg base cs tb Pa Pb) (TB : LamX.TabB base mg c Pa) (hr : LRoom A s f c) : Does (LX P w K mg base f c A outer s H0 E0) (lawSt 30) (AtC K cs tb Pa a (fun _ => none)) (AtC K cs tb Pa a (fun _ => some (List.replicate 4 (Er.word (.story (some 1)))))) := by
  refine ⟨_, ps_setLc (i := 10) (own := [("value", 12)]) (g := gName 12) (by rfl) sc_law.nd rfl rfl (sw_true rfl rfl (by rfl) (by decide +kernel)) (pi_list (pe_lst (pa_cons pe_non (pa_cons (pe_tup (pa_cons (pe_tup (pa_cons pe_int (pa_cons pe_int (pa_cons pe_int pa_nil)))) pa_nil)) (pa_cons (pe_tup (pa_cons (pe_tup (pa_cons pe_int (pa_cons pe_int (pa_cons pe_int pa_nil)))) pa_nil)) (pa_cons (pe_lst (pa_cons (pe_tup pa_nil) pa_nil)) pa_nil)))))) (blkOk_by (own := [("value", 12)]) (N := n_law) (sc := defScope s_law) (by decide +kernel)) (fun _ _ _ _ _ => pg_name (i := 12) sc_law.nd rfl (Or.inr rfl)) (fun _ _ _ _ _ => pts_nil)
        (fun _ _ _ _ _ => pe_word L.W lawQ TB rfl rfl (by rfl) (k := 11) (hr.mono (by decide)) (LamX.lamS_by (by rfl)) (fun A' outer' s' H' E' f' c' hr' => pe_call L.al.waiting_counts.G hr' (by rfl) L.al.waiting_counts.m L.al.waiting_counts.k L.al.waiting_counts.b .nil (passX (E := E') rfl rfl rfl rfl) (pa_cons (pv 2) (pa_cons pe_str (pa_cons (pe_tup (pa_cons (pe_tup pa_nil) (pa_cons (pv 12) pa_nil))) (pa_cons pe_int pa_nil))))) (by rfl) (fun _ _ _ _ _ => by rfl)), fun D σ H pre post => ?_⟩
  obtain ⟨r, hs, lf, cn, y5, y6, y7, v, er, z, rfl, tS, ev, nl, hw, hz⟩ := pre
  refine ⟨by show 3 ≤ sizeLine; decide, fun t1 n1 => ?_⟩
  have e1 := Ex.new (o := HO.tup [V.int 2, V.int 0, V.int 0]) n1
  refine ⟨by show 1 ≤ sizeLine; decide, fun t2 n2 => ?_⟩
  have e2 := Ex.new (o := HO.tup [V.ref t1]) n2
  refine ⟨by show 3 ≤ sizeLine; decide, fun t3 n3 => ?_⟩
  have e3 := Ex.new (o := HO.tup [V.int 1, V.int 1, V.int 0]) n3
  refine ⟨by show 1 ≤ sizeLine; decide, fun t4 n4 => ?_⟩
  have e4 := Ex.new (o := HO.tup [V.ref t3]) n4
  refine ⟨by show 0 ≤ sizeLine; decide, fun t5 n5 => ?_⟩
  have e5 := Ex.new (o := HO.tup []) n5
  refine ⟨by show 1 ≤ sizeLine; decide, fun t6 n6 => ?_⟩
  have e6 := Ex.new (o := HO.lst [V.ref t5]) n6
  refine ⟨by show 4 ≤ sizeLine; decide, fun l n7 => ⟨l, rfl, ⟨_, SqL.of upd_same⟩, fun D2 nD => ?_⟩⟩
  have e7 := Ex.new (o := HO.lst [V.non, V.ref t2, V.ref t4, V.ref t6]) n7
  have eN := e1.trans (e2.trans (e3.trans (e4.trans (e5.trans (e6.trans e7)))))
  have deed : ∀ {H : Hp} {t : Addr} {i j : Int}, H t = some (.tup [V.int i, V.int j, V.int 0]) → deedB 2 1 [V.int i, V.int j, V.int 0] = false → DeedV K H 2 1 (.ref t) false := fun {H t i j} h e => by
    rw [← e]
    refine .tup h fun y hy => ?_
    simp only [List.mem_cons, List.mem_nil_iff, or_false] at hy
    rcases hy with rfl | rfl | rfl <;> exact ⟨_, .int _⟩
  have mom : ∀ {H : Hp} {t t' : Addr}, H t = some (.tup [V.ref t']) → DeedV K H 2 1 (.ref t') false → MomentV K H 2 1 (.ref t) false := fun {H t t'} h d => (show MomentV K H 2 1 (.ref t) (decide (([V.ref t'] : List V).length ≤ 6) && [false].all id) from .tup h (.cons d .nil))
  refine lc_gen (K := K) (ww := Er.word (.story (some 1))) (q := lawQ) (xs := [V.non, V.ref t2, V.ref t4, V.ref t6]) (fun G => (Ev K tb hs lf cn G ∧ NoL K cs tb hs G v er) ∧ ∀ x ∈ [V.non, V.ref t2, V.ref t4, V.ref t6], MomentV K G 2 1 x false) [] nD upd_same (tS.ext eN) (by show 4 ≤ 100; decide) ⟨⟨ev.kv (Kv.ex eN), nl.kv (Kv.ex eN)⟩, fun x hx => ?_⟩ (fun p hp => by cases hp) (fun G G' h k => ⟨⟨h.1.1.kv k, h.1.2.kv k⟩, fun x hx => (h.2 x hx).kw k.w⟩) (fun _ => rfl) (fun u hx G fG tG Qy hq => ?_) fun G fG tG kG gD pin => ?_
  · simp only [List.mem_cons, List.mem_nil_iff, or_false] at hx
    rcases hx with rfl | rfl | rfl | rfl
    · exact .out .non (by decide)
    · exact mom ((e3.trans (e4.trans (e5.trans (e6.trans e7)))) _ _ upd_same) (deed ((e2.trans (e3.trans (e4.trans (e5.trans (e6.trans e7))))) _ _ upd_same) (by decide +kernel))
    · exact mom ((e5.trans (e6.trans e7)) _ _ upd_same) (deed ((e4.trans (e5.trans (e6.trans e7))) _ _ upd_same) (by decide +kernel))
    · exact .out (.lst (e7 _ _ upd_same)) (by decide)
  · have mu := fG.2 u hx
    refine word_go (K := K) (er := .story (some 1)) (q := lawQ) tG (by rw [w_story1]; exact (aWords_ok (List.mem_of_getElem? (i := 6) rfl)).1) (fun G1 Qn E k1 T1 hE => ?_) fun H3 k3 T3 => hq H3 k3 T3
    have ev := fG.1.1.kv k1.v
    refine ⟨.ref hs, rfl, by show 0 ≤ sizeLine; decide, fun s1 ns1 => ⟨u, rfl, by show 2 ≤ sizeLine; decide, fun s ns => ?_⟩⟩
    have es1 := Ex.new (o := HO.tup []) ns1
    have es := Ex.new (o := HO.tup [V.ref s1, u]) ns
    have ev := ev.kv (Kv.ex (es1.trans es))
    have hu := (mu.kw k1.w).kw (Kw.ex (es1.trans es))
    have hs1 := es _ _ (upd_same (H := G1) (a := s1) (o := HO.tup []))
    exact ⟨_, _, _, _, rfl, _, _, _, _, rfl, (p_house ev.hh) _ _ fun H1_ k1_ => (t_storyAt (ev.ks k1_).hh (stu (k1_.t _ _ upd_same) (k1_.t _ _ hs1) (hu.kw k1_.w)) (ev.ks k1_).m rfl rfl (by decide)) _ _ fun cls d H3 k i => word_fin L.na hE k1 T1 (es1.trans es) cls d H3 (Ks.trans k1_ k) i⟩
  · exact post _ _ ⟨r, hs, lf, cn, y5, y6, y7, v, er, _, rfl, tG, fG.1.1, fG.1.2, hw, fun ws e => by
      cases e
      exact ⟨D2, rfl, gD.trans (by rw [rep_words] <;> rfl)⟩⟩
theorem st31 (L : Lw P w K mg base cs tb Pa Pb) (TB : LamX.TabB base mg c Pa) (hr : LRoom A s f c) : Does (LX P w K mg base f c A outer s H0 E0) (lawSt 31) (AtC K cs tb Pa a (fun _ => some (List.replicate 4 (Er.word (.story (some 1)))))) (AtC K cs tb Pa a (fun _ => some (List.replicate 4 (Er.word (.story (some 1))) ++ [Er.word (.story none)]))) := by
  refine ⟨_, ps_expr (pe_bm PySem.F.plainAttrs_list PySem.F.slot_list_append PySem.F.type_list_append mt_append (pv 10) (pa_cons (pe_word L.W lawQ TB rfl rfl (by rfl) (k := 11) (hr.mono (by decide)) (LamX.lamS_by (by rfl)) (fun A' outer' s' H' E' f' c' hr' => pe_call L.al.least_cells.G hr' (by rfl) L.al.least_cells.m L.al.least_cells.k L.al.least_cells.b .nil (passX (E := E') rfl rfl rfl rfl) (pa_cons (pv 2) (pa_cons pe_non (pa_cons pe_int (pa_cons pe_int (pa_cons pe_int (pa_cons pe_int pa_nil))))))) (by rfl) (fun _ _ _ _ _ => by rfl)) pa_nil)), fun D σ H pre post => ?_⟩
  obtain ⟨r, hs, lf, cn, y5, y6, y7, v, er, z, rfl, tS, ev, nl, hw, hz⟩ := pre
  obtain ⟨T, rfl, hT⟩ := hz _ rfl
  refine ⟨.ref T, rfl, .inl ⟨rfl, _, SqL.of hT⟩, ?_⟩
  refine word_go (K := K) (er := (.story none)) (q := lawQ) tS (by rw [w_storyN]; exact (aWords_ok (List.mem_of_getElem? (i := 7) rfl)).1) (fun G Qn E k1 T1 hE => ?_) fun H3 k3 T3 => ?_
  · have ev := ev.kv k1.v
    have nl := nl.kv k1.v
    refine ⟨.ref hs, rfl, ?_⟩
    exact ⟨_, _, _, _, _, _, rfl, (p_house ev.hh) _ _ fun H1_ k1_ => (t_story (ev.ks k1_).hh (.out .non (by decide)) (ev.ks k1_).m) _ _ fun cls d H3 k i => word_fin L.na hE k1 T1 (Ex.refl _) cls d H3 (Ks.trans k1_ k) i⟩
  · have g3 := k3.l _ _ hT
    refine ⟨T, _, _, rfl, rfl, g3, by rw [List.length_map]; exact Nat.lt_of_le_of_lt (by rw [List.length_replicate]; exact Nat.le_refl 4) (by decide), ?_⟩
    exact post _ _ ⟨r, hs, lf, cn, y5, y6, y7, v, er, _, rfl, tabS_put T3 g3, (ev.kv k3.v).kv (Kv.put g3), (nl.kv k3.v).kv (Kv.put g3), hw, fun ws e => by
      cases e
      exact ⟨T, rfl, upd_same.trans (by simp only [List.map_append, List.append_assoc, List.map_cons, List.map_nil, List.cons_append, List.nil_append])⟩⟩
theorem st32 (L : Lw P w K mg base cs tb Pa Pb) (TB : LamX.TabB base mg c Pa) (hr : LRoom A s f c) : Does (LX P w K mg base f c A outer s H0 E0) (lawSt 32) (AtC K cs tb Pa a (fun _ => some (List.replicate 4 (Er.word (.story (some 1))) ++ [Er.word (.story none)]))) (AtC K cs tb Pa a (fun _ => some (List.replicate 4 (Er.word (.story (some 1))) ++ [Er.word (.story none), Er.word .page]))) := by
  refine ⟨_, ps_expr (pe_bm PySem.F.plainAttrs_list PySem.F.slot_list_append PySem.F.type_list_append mt_append (pv 10) (pa_cons (pe_word L.W lawQ TB rfl rfl (by rfl) (k := 11) (hr.mono (by decide)) (LamX.lamS_by (by rfl)) (fun A' outer' s' H' E' f' c' hr' => pe_call L.al.loss_chance.G hr' (by rfl) L.al.loss_chance.m L.al.loss_chance.k L.al.loss_chance.b .nil (passX (E := E') rfl rfl rfl rfl) (pa_cons (pv 2) (pa_cons (pv 3) (pa_cons pe_int (pa_cons pe_int pa_nil))))) (by rfl) (fun _ _ _ _ _ => by rfl)) pa_nil)), fun D σ H pre post => ?_⟩
  obtain ⟨r, hs, lf, cn, y5, y6, y7, v, er, z, rfl, tS, ev, nl, hw, hz⟩ := pre
  obtain ⟨T, rfl, hT⟩ := hz _ rfl
  refine ⟨.ref T, rfl, .inl ⟨rfl, _, SqL.of hT⟩, ?_⟩
  refine word_go (K := K) (er := .page) (q := lawQ) tS (by rw [w_page]; exact (aWords_ok (List.mem_of_getElem? (i := 8) rfl)).1) (fun G Qn E k1 T1 hE => ?_) fun H3 k3 T3 => ?_
  · have ev := ev.kv k1.v
    have nl := nl.kv k1.v
    refine ⟨.ref hs, rfl, ?_⟩
    refine ⟨.ref lf, rfl, ?_⟩
    exact ⟨_, _, _, _, rfl, (p_house ev.hh) _ _ fun H1_ k1_ => (p_life (ev.ks k1_).hh (ev.ks k1_).li good2) _ _ fun H2_ k2_ => (p_chk (ev.ks (Ks.trans k1_ k2_)).hh (.int 0) (by decide +kernel)) _ _ fun H3_ k3_ => (t_chk (cs := cs) (er := .page) (ev.ks (Ks.trans (Ks.trans k1_ k2_) k3_)).hh (.int 1) (by decide +kernel) (fun _ _ => rfl)) _ _ fun cls d H3 k i => word_fin L.na hE k1 T1 (Ex.refl _) cls d H3 (Ks.trans (Ks.trans (Ks.trans k1_ k2_) k3_) k) i⟩
  · have g3 := k3.l _ _ hT
    refine ⟨T, _, _, rfl, rfl, g3, by rw [List.length_map]; exact Nat.lt_of_le_of_lt (by simp only [List.length_append, List.length_replicate, List.length_cons, List.length_nil]; exact Nat.le_refl _) (by decide), ?_⟩
    exact post _ _ ⟨r, hs, lf, cn, y5, y6, y7, v, er, _, rfl, tabS_put T3 g3, (ev.kv k3.v).kv (Kv.put g3), (nl.kv k3.v).kv (Kv.put g3), hw, fun ws e => by
      cases e
      exact ⟨T, rfl, upd_same.trans (by simp only [List.map_append, List.append_assoc, List.map_cons, List.map_nil, List.cons_append, List.nil_append])⟩⟩
theorem st33 (L : Lw P w K mg base cs tb Pa Pb) (TB : LamX.TabB base mg c Pa) (hr : LRoom A s f c) : Does (LX P w K mg base f c A outer s H0 E0) (lawSt 33) (AtC K cs tb Pa a (fun _ => some (List.replicate 4 (Er.word (.story (some 1))) ++ [Er.word (.story none), Er.word .page]))) (AtC K cs tb Pa a (fun _ => some (List.replicate 4 (Er.word (.story (some 1))) ++ [Er.word (.story none), Er.word .page, Er.word .times]))) := by
  refine ⟨_, ps_expr (pe_bm PySem.F.plainAttrs_list PySem.F.slot_list_append PySem.F.type_list_append mt_append (pv 10) (pa_cons (pe_word L.W lawQ TB rfl rfl (by rfl) (k := 11) (hr.mono (by decide)) (LamX.lamS_by (by rfl)) (fun A' outer' s' H' E' f' c' hr' => pe_call L.al.view_count.G hr' (by rfl) L.al.view_count.m L.al.view_count.k L.al.view_count.b .nil (passX (E := E') rfl rfl rfl rfl) (pa_cons (pv 2) (pa_cons pe_str (pa_cons (pv 3) (pa_cons pe_int (pa_cons (pe_tup (pa_cons pe_int pa_nil)) pa_nil)))))) (by rfl) (fun _ _ _ _ _ => by rfl)) pa_nil)), fun D σ H pre post => ?_⟩
  obtain ⟨r, hs, lf, cn, y5, y6, y7, v, er, z, rfl, tS, ev, nl, hw, hz⟩ := pre
  obtain ⟨T, rfl, hT⟩ := hz _ rfl
  refine ⟨.ref T, rfl, .inl ⟨rfl, _, SqL.of hT⟩, ?_⟩
  refine word_go (K := K) (er := .times) (q := lawQ) tS (by rw [w_times]; exact (aWords_ok (List.mem_of_getElem? (i := 9) rfl)).1) (fun G Qn E k1 T1 hE => ?_) fun H3 k3 T3 => ?_
  · have ev := ev.kv k1.v
    have nl := nl.kv k1.v
    refine ⟨.ref hs, rfl, ?_⟩
    refine ⟨.ref lf, rfl, ?_⟩
    refine ⟨by show 1 ≤ sizeLine; decide, fun s ns => ?_⟩
    have es := Ex.new (o := HO.tup [V.int 3]) ns
    have ev := ev.kv (Kv.ex es)
    have nl := nl.kv (Kv.ex es)
    exact ⟨_, _, _, _, _, rfl, ⟨_, _, _, _, _, rfl, (p_house ev.hh) _ _ fun H1_ k1_ => (p_life (ev.ks k1_).hh (ev.ks k1_).li good2) _ _ fun H2_ k2_ => (p_way (x := "true") (by decide +kernel)) _ _ fun H3_ k3_ => (p_chk (ev.ks (Ks.trans (Ks.trans k1_ k2_) k3_)).hh (.int 0) (by decide +kernel)) _ _ fun H4_ k4_ => (t_times (ev.ks (Ks.trans (Ks.trans (Ks.trans k1_ k2_) k3_) k4_)).se (tv3 ((Ks.trans (Ks.trans (Ks.trans k1_ k2_) k3_) k4_).t _ _ upd_same))) _ _ fun cls d H3 k i => word_fin L.na hE k1 T1 es cls d H3 (Ks.trans (Ks.trans (Ks.trans (Ks.trans k1_ k2_) k3_) k4_) k) i⟩⟩
  · have g3 := k3.l _ _ hT
    refine ⟨T, _, _, rfl, rfl, g3, by rw [List.length_map]; exact Nat.lt_of_le_of_lt (by simp only [List.length_append, List.length_replicate, List.length_cons, List.length_nil]; exact Nat.le_refl _) (by decide), ?_⟩
    exact post _ _ ⟨r, hs, lf, cn, y5, y6, y7, v, er, _, rfl, tabS_put T3 g3, (ev.kv k3.v).kv (Kv.put g3), (nl.kv k3.v).kv (Kv.put g3), hw, fun ws e => by
      cases e
      exact ⟨T, rfl, upd_same.trans (by simp only [List.map_append, List.append_assoc, List.map_cons, List.map_nil, List.cons_append, List.nil_append])⟩⟩
end
end K10

set_option maxHeartbeats 4000000
namespace K10
open PySem PySem.Spec PyProof.Rows L2 Hd Evl
section
variable {P : Program} {w : World} {K : PySem.W.Frag} {mg : Str → Option Value} {base : Heap} {cs : Cs} {tb : Tb} {f c Pa Pb a : Addr} {ns : List Int} {A : Around} {outer : List Env} {s : Shared} {H0 : Hp} {E0 : XK}
def lastW : List Str := ["story1", "story1", "story1", "story1", "storyNone", "page", "times"]
theorem lastW_eq : List.replicate 4 (Er.word (.story (some 1))) ++ [Er.word (.story none), Er.word .page, Er.word .times] = lastW := by
  rw [w_story1, w_storyN] <;> rfl
theorem lastW_ok : ∀ x ∈ lastW, PyData.strOk x = true := fun x hx => by
  simp only [lastW, List.mem_cons, List.mem_nil_iff, or_false] at hx
  rcases hx with rfl | rfl | rfl | rfl | rfl | rfl | rfl <;> decide +kernel
theorem st34 (L : Lw P w K mg base cs tb Pa Pb) (hr : LRoom A s f c) : ∃ t, PSs (LX P w K mg base f c A outer s H0 E0) [lawSt 34] t ∧ ∀ (D : Ends) σ H, AtC K cs tb Pa a (fun _ => some (List.replicate 4 (Er.word (.story (some 1))) ++ [Er.word (.story none), Er.word .page, Er.word .times])) σ H → (∀ H', D.rt (.bl true) H') → t D σ H := by
  have un : (A.deeper (envOfC "law" (defScope s_law) s.heap.objs.size f (.ref c))).units + 64 < cLine := by have := hr.un; omega
  refine ⟨_, pss_one (ps_ret (pe_cmpR (op_eqD un) (pv 10) (pe_op op_cat (pe_op op_rep (pe_lst (pa_cons pe_str pa_nil)) pe_int) (pe_lst (pa_cons pe_str (pa_cons pe_str (pa_cons pe_str pa_nil))))) (nomark _))), fun D σ H pre post => ?_⟩
  obtain ⟨r, hs, lf, cn, y5, y6, y7, v, er, z, rfl, tS, ev, nl, hw, hz⟩ := pre
  obtain ⟨T, rfl, hT⟩ := hz _ rfl
  rw [lastW_eq] at hT
  refine ⟨.ref T, rfl, by show 1 ≤ sizeLine; decide, fun l2 n2 => ⟨l2, 4, [.str "story1"], rfl, rfl, upd_same, by decide, by decide, (by show 1 * 4 ≤ sizeLine; decide), fun z nz => ⟨by show 3 ≤ sizeLine; decide, fun l3 n3 => ?_⟩⟩⟩
  have e2 := Ex.new (o := HO.lst [V.str "story1"]) n2
  have ez := Ex.new (o := HO.lst (List.replicate 4 [V.str "story1"]).flatten) nz
  have e3 := Ex.new (o := HO.lst [V.str "storyNone", V.str "page", V.str "times"]) n3
  refine ⟨z, l3, _, _, rfl, rfl, e3 _ _ upd_same, upd_same, by show 4 + 3 ≤ sizeLine; decide, fun p np => ?_⟩
  have ep := Ex.new (o := HO.lst ((List.replicate 4 [V.str "story1"]).flatten ++ [V.str "storyNone", V.str "page", V.str "times"])) np
  exact eq_words (ws := lastW) lastW_ok ((e2.trans (ez.trans (e3.trans ep))) _ _ hT) upd_same (post _)
theorem law_body : defBody s_law = [lawSt 0, lawSt 1, lawSt 2, lawSt 3, lawSt 4, lawSt 5, lawSt 6, lawSt 7, lawSt 8, lawSt 9, lawSt 10, lawSt 11, lawSt 12, lawSt 13, lawSt 14, lawSt 15, lawSt 16, lawSt 17, lawSt 18, lawSt 19, lawSt 20, lawSt 21, lawSt 22, lawSt 23, lawSt 24, lawSt 25, lawSt 26, lawSt 27, lawSt 28, lawSt 29, lawSt 30, lawSt 31, lawSt 32, lawSt 33, lawSt 34] := rfl
theorem does_pre {X : Cx} {st : Stmt} {A B C : L2.St → Hp → Prop} (h : Does X st B C) (i : ∀ σ H, A σ H → B σ H) : Does X st A C := by
  obtain ⟨t, p, q⟩ := h
  exact ⟨t, p, fun D σ H a b => q D σ H (i σ H a) b⟩
theorem law_all (L : Lw P w K mg base cs tb Pa Pb) (TB : LamX.TabB base mg c Pa) (hr : LRoom A s f c) : ∃ t, PSs (LX P w K mg base f c A outer s H0 E0) (defBody s_law) t ∧ ∀ (D : Ends) σ H, At0 K tb Pa Pb a ns σ H → (∀ H', D.rt (.bl true) H') → t D σ H := by
  rw [law_body]
  exact does_cons (F := fun D => ∀ H', D.rt (.bl true) H') (st0 L) (does_cons (st1 L) (does_cons (st2 L) (does_cons (st3 L hr) (does_cons (st4 L hr) (does_cons (st5 L) (does_cons (st6 L hr)
    (does_cons (does_pre (st7 L TB hr) fun σ H h => atB_C h) (does_cons (st8 L TB hr) (does_cons (st9 L TB hr) (does_cons (st10 L TB hr) (does_cons (st11 L TB hr) (does_cons (st12 L TB hr) (does_cons (st13 L TB hr) (does_cons (st14 L TB hr)
    (does_cons (st15 L TB hr) (does_cons (st16 L TB hr) (does_cons (st17 L TB hr) (does_cons (st18 L TB hr) (does_cons (st19 L TB hr) (does_cons (st20 L TB hr) (does_cons (st21 L TB hr) (does_cons (st22 L TB hr) (does_cons (st23 L TB hr)
    (does_cons (st24 L TB hr) (does_cons (st25 L TB hr) (does_cons (st26 L TB hr) (does_cons (st27 L TB hr) (does_cons (st28 L TB hr) (does_cons (st29 L TB hr) (does_cons (st30 L TB hr) (does_cons (st31 L TB hr) (does_cons (st32 L TB hr) (does_cons (st33 L TB hr) (st34 L hr))))))))))))))))))))))))))))))))))
def spLaw (K : PySem.W.Frag) (ps : List Addr) (tb : Tb) (Pa Pb : Addr) : Sp := fun vs H Q _ => ∃ (a : Addr) (ns : List Int), vs = [.ref a] ∧ SqL K H a (ns.map V.int) ∧ (∀ p ∈ [Pa, Pb, tb.m, tb.s, tb.n], H p = some (.tbl #[])) ∧ ∀ H', Q (.bl true) H'
theorem tab_empty {H : Hp} {P : Addr} (h : H P = some (.tbl #[])) : GxR.TabG H P := ⟨#[], h, True.intro⟩
theorem ok_law {fd : FuncData} (F : FnP K "law" s_law f fd) (L : Lw P w K mg base cs tb Pa Pb) (hc : fd.code = .ref c) (TB : LamX.TabB base mg c Pa) : FnOk P w K mg base (L2.CX P w) 15 f fd ["script"] (spLaw K [] tb Pa Pb) := by
  obtain ⟨oc, od, dV, kV, doc, pm, an, cdv, ct, osl, rfl, lk, hcd, _, _⟩ := F.ex
  obtain rfl : cdv = .ref c := hc
  refine fn_of (k := 14) lk hcd sc_law (fun vs H Q E h => ?_) (fun A outer s H vs Q E hr h => ?_)
  · obtain ⟨a, ns, rfl, _⟩ := h
    rfl
  · obtain ⟨a, ns, rfl, ha, hP, q⟩ := h
    obtain ⟨t, p, k⟩ := law_all (a := a) (ns := ns) (outer := outer) (H0 := H) (E0 := E) L TB hr
    refine ⟨t, p, k _ _ _ ⟨rfl, ha, ⟨tab_empty (hP _ (by simp)), tab_empty (hP _ (by simp)), tab_empty (hP _ (by simp)), LamX.TabS.nil (hP _ (by simp)), LamX.TabS.nil (hP _ (by simp))⟩⟩ q⟩
end
end K10

set_option maxHeartbeats 4000000
namespace K10
open PySem PySem.Spec PyProof.Rows L2 Hd Evl
def dOf (x : Str) (st : Stmt) : He.DefD := ⟨(x, none), x, x, defArgs st, defBody st, defScope st, [], []⟩
def fnL : List He.DefD := ([dOf "is_number" s_is_number, dOf "wrong_word" s_wrong_word, dOf "check_house" s_check_house, dOf "is_drawer" s_is_drawer, dOf "check_drawer" s_check_drawer, dOf "is_page" s_is_page, dOf "check_page" s_check_page, dOf "is_coin" s_is_coin, dOf "is_deed" s_is_deed, dOf "is_moment" s_is_moment, dOf "check_story" s_check_story, dOf "is_story" s_is_story, dOf "is_session" s_is_session, dOf "check_life" s_check_life, dOf "moment_count" s_moment_count, dOf "check_coins" s_check_coins, dOf "check_way" s_check_way, dOf "check_times" s_check_times, dOf "check_run" s_check_run, dOf "check_key" s_check_key] : List He.DefD) ++ ([dOf "check_search" s_check_search, dOf "check_waits" s_check_waits, dOf "check_viewer" s_check_viewer, dOf "coin_count" s_coin_count, dOf "drawn" s_drawn, dOf "coin_of" s_coin_of, dOf "is_life" s_is_life, dOf "row_count" s_row_count, dOf "written" s_written, dOf "upper" s_upper, dOf "lives_on" s_lives_on, dOf "alike_above" s_alike_above, dOf "safe_ways" s_safe_ways, dOf "loss_chance" s_loss_chance, dOf "waiting_counts" s_waiting_counts, dOf "looks" s_looks, dOf "waiting" s_waiting, dOf "places" s_places, dOf "parting" s_parting, dOf "view_count" s_view_count] : List He.DefD) ++ ([dOf "more_wait" s_more_wait, dOf "view" s_view, dOf "read" s_read, dOf "found_later" s_found_later, dOf "is_parted" s_is_parted, dOf "best_guess" s_best_guess, dOf "least_cells" s_least_cells, dOf "_law_taken" s__law_taken, dOf "_law_pick" s__law_pick, dOf "_law_word" s__law_word, dOf "_law_houses_refused" s__law_houses_refused, dOf "law" s_law, ⟨("BadHouse", some "__init__"), "__init__", "BadHouse.__init__", defArgs s_BadHouse___init__, defBody s_BadHouse___init__, defScope s_BadHouse___init__, [], []⟩, ⟨("BadStory", some "__init__"), "__init__", "BadStory.__init__", defArgs s_BadStory___init__, defBody s_BadStory___init__, defScope s_BadStory___init__, [], []⟩, ⟨("BadLife", some "__init__"), "__init__", "BadLife.__init__", defArgs s_BadLife___init__, defBody s_BadLife___init__, defScope s_BadLife___init__, [], []⟩, ⟨("BadCoins", some "__init__"), "__init__", "BadCoins.__init__", defArgs s_BadCoins___init__, defBody s_BadCoins___init__, defScope s_BadCoins___init__, [], []⟩] : List He.DefD)
def glos : List Str := (["is_number", "wrong_word", "check_house", "is_drawer", "check_drawer", "is_page", "check_page", "is_coin", "is_deed", "is_moment", "check_story", "is_story", "is_session", "check_life", "moment_count", "check_coins", "check_way", "check_times", "check_run", "check_key"] : List Str) ++ (["check_search", "check_waits", "check_viewer", "coin_count", "drawn", "coin_of", "is_life", "row_count", "written", "upper", "lives_on", "alike_above", "safe_ways", "loss_chance", "waiting_counts", "looks", "waiting", "places", "parting", "view_count"] : List Str) ++ (["more_wait", "view", "read", "found_later", "is_parted", "best_guess", "least_cells", "_law_taken", "_law_pick", "_law_word", "_law_houses_refused", "law", "BadHouse", "BadStory", "BadLife", "BadCoins", "BadDrawer", "BadPage", "BadTimes", "BadNumber"] : List Str) ++ (["DrawerError", "WAYS"] : List Str)
def frees : List Str := (["isinstance", "int", "bool", "str", "tuple", "list", "len", "range", "enumerate", "min", "sum", "all"] : List Str)
def nm : Nat → Str
  | 0 => "BadHouse"
  | 1 => "BadStory"
  | 2 => "BadLife"
  | 3 => "BadCoins"
  | 4 => "BadDrawer"
  | 5 => "BadPage"
  | 6 => "BadTimes"
  | _ => "BadNumber"
def pairsL : List (Nat × Nat) := [(0, 0), (1, 0), (1, 1), (2, 0), (2, 1), (2, 2), (3, 0), (3, 1), (3, 2), (3, 3), (4, 0), (4, 1), (4, 2), (4, 3), (4, 4), (5, 0), (5, 1), (5, 2), (5, 3), (5, 4), (5, 5), (6, 0), (6, 1), (6, 2), (6, 3), (6, 4), (6, 5), (6, 6)]
def othL : List He.Fa := [.noat "BadHouse" "word", .noat "BadStory" "index", .noat "BadLife" "index", .noat "BadCoins" "index", .meth "BadHouse" "__init__", .meth "BadStory" "__init__", .meth "BadLife" "__init__", .meth "BadCoins" "__init__", .exc "BadDrawer", .exc "BadPage", .exc "BadTimes"]
def exmL : List He.Fa := pairsL.map fun p => .exm (nm p.1) (nm p.2) (p.1 == p.2)
def faL : List He.Fa := glos.map .glo ++ (frees.map .free ++ (othL ++ exmL))
def tfL : List He.Defn := [("law", none), ("_law_houses_refused", none), ("is_moment", none), ("is_session", none), ("moment_count", none)]
def skB (K : PySem.W.Frag) (P : Addr) : Bool := progTabs.all fun p => !decide (P = (He.cT K p).2)
theorem skB_ok {K : PySem.W.Frag} {P : Addr} (h : skB K P = true) : ¬ Sk K P := fun ⟨p, hp, e⟩ => by
  have := List.all_eq_true.mp h p hp
  rw [decide_eq_true e] at this
  cases this
def exL (K : PySem.W.Frag) : Bool := gIntB K "LEAST_CELLS" 2 && (gIntB K "MOST_CELLS" 12 && (gIntB K "MOST_DEEDS" 6 && (gIntB K "MOST_MOMENTS" 40 && (gIntB K "MOST_SESSIONS" 6 && (gBltB K "comb" "math.comb" && (He.tupB K "WAYS" [.str "true", .str "free", .str "idle", .str "kept", .str "need", .str "lower"] && (ownB K "BadHouse" && (ownB K "BadStory" && (ownB K "BadLife" && (ownB K "BadCoins" && (skB K (He.cT K ("law", none)).2 && (skB K (He.cT K ("_law_houses_refused", none)).2 && (!decide ((He.cT K ("law", none)).2 = (He.cT K ("_law_houses_refused", none)).2))))))))))))))
def askL : Ask := ⟨faL, fnL, tfL, exL, (["is_number", "wrong_word", "check_house", "is_drawer", "check_drawer", "is_page", "check_page", "is_coin", "is_deed", "is_moment", "check_story", "is_story", "is_session", "check_life", "moment_count", "check_coins", "check_way", "check_times", "check_run", "check_key"] : List Str) ++ (["check_search", "check_waits", "check_viewer", "coin_count", "drawn", "coin_of", "is_life", "row_count", "written", "upper", "lives_on", "alike_above", "safe_ways", "loss_chance", "waiting_counts", "looks", "waiting", "places", "parting", "view_count"] : List Str) ++ (["more_wait", "view", "read", "found_later", "is_parted", "best_guess", "least_cells", "_law_taken", "_law_pick", "_law_word", "_law_houses_refused", "law", "WAYS"] : List Str), (["BadHouse", "BadStory", "BadLife", "BadCoins", "BadDrawer", "BadPage", "BadTimes", "BadNumber", "DrawerError"] : List Str)⟩
def looseL : List Str := (["DrawerError", "BadHouse", "BadStory", "BadLife", "BadCoins", "BadDrawer", "BadPage", "BadTimes", "BadNumber", "TooMany", "LEAST_CELLS", "MOST_CELLS", "is_number", "check_number", "wrong_word", "check_house", "is_drawer", "check_drawer", "is_page", "check_page"] : List Str) ++ (["coin_count", "is_coin", "drawn", "is_cell_set", "coin_of", "power", "rows_of", "coin_rows", "lowest", "MOST_DEEDS", "MOST_MOMENTS", "MOST_SESSIONS", "is_deed", "is_moment", "check_story", "is_story", "is_session", "check_life", "is_life", "moment_count"] : List Str) ++ (["check_coins", "upper_moment", "above", "upper", "alike_above", "WAYS", "check_way", "Store", "check_run", "check_key", "run", "read", "waiting", "places", "found_later", "check_times", "opened", "seen", "view", "looks"] : List Str) ++ (["MOST_ROWS", "MOST_WAITING", "MOST_SEALINGS", "MOST_PART", "check_rows", "row_count", "check_viewer", "view_counts", "view_count", "best_guess", "wait_counts", "check_waits", "waiting_counts", "more_wait", "last_content", "loss_chance", "lives_on", "least_cells", "MOST_PARTED", "MOST_TRIED"] : List Str) ++ (["check_often", "shown", "differs", "is_parted", "check_search", "small_moments", "first_parting", "parting", "safe_ways", "deed_text", "moment_text", "session_lines", "written", "_law_taken", "_law_pick", "_law_alike", "_law_word", "_law_houses_refused"] : List Str)
theorem ok_BadStory_init {CX : CXT} {P : Program} {w : World} {K : PySem.W.Frag} {mg : Str → Option Value} {base : Heap} {CB : Addr} {f : Addr} {fd : FuncData} (F : FunD K "__init__" "BadStory.__init__" (defArgs s_BadStory___init__) (defBody s_BadStory___init__) (defScope s_BadStory___init__) [] [] f fd) (T : OexC K CB) (no : PySem.W.findIn K (.ref CB) "index" = some none) :
    FnOk P w K mg base CX 1 f fd ["self", "index"] (spInit CB "index") := by
  refine F.ok (CX := CX) sc_BadStory___init__ (fun vs H Q E h => ?_) (fun cdv A outer s H vs Q E hr h => ?_)
  · obtain ⟨a, x, rfl, _⟩ := h
    rfl
  · obtain ⟨a, x, rfl, ha, q⟩ := h
    exact ⟨_, pss_one (ps_ost (pv 0) (pv 1)), x, rfl, .ref a, rfl, a, CB, rfl, T, no, .inl ⟨ha, fun dx n1 n2 => q dx n1 n2⟩⟩
theorem ok_BadLife_init {CX : CXT} {P : Program} {w : World} {K : PySem.W.Frag} {mg : Str → Option Value} {base : Heap} {CB : Addr} {f : Addr} {fd : FuncData} (F : FunD K "__init__" "BadLife.__init__" (defArgs s_BadLife___init__) (defBody s_BadLife___init__) (defScope s_BadLife___init__) [] [] f fd) (T : OexC K CB) (no : PySem.W.findIn K (.ref CB) "index" = some none) :
    FnOk P w K mg base CX 1 f fd ["self", "index"] (spInit CB "index") := by
  refine F.ok (CX := CX) sc_BadLife___init__ (fun vs H Q E h => ?_) (fun cdv A outer s H vs Q E hr h => ?_)
  · obtain ⟨a, x, rfl, _⟩ := h
    rfl
  · obtain ⟨a, x, rfl, ha, q⟩ := h
    exact ⟨_, pss_one (ps_ost (pv 0) (pv 1)), x, rfl, .ref a, rfl, a, CB, rfl, T, no, .inl ⟨ha, fun dx n1 n2 => q dx n1 n2⟩⟩
theorem ok_BadCoins_init {CX : CXT} {P : Program} {w : World} {K : PySem.W.Frag} {mg : Str → Option Value} {base : Heap} {CB : Addr} {f : Addr} {fd : FuncData} (F : FunD K "__init__" "BadCoins.__init__" (defArgs s_BadCoins___init__) (defBody s_BadCoins___init__) (defScope s_BadCoins___init__) [] [] f fd) (T : OexC K CB) (no : PySem.W.findIn K (.ref CB) "index" = some none) :
    FnOk P w K mg base CX 1 f fd ["self", "index"] (spInit CB "index") := by
  refine F.ok (CX := CX) sc_BadCoins___init__ (fun vs H Q E h => ?_) (fun cdv A outer s H vs Q E hr h => ?_)
  · obtain ⟨a, x, rfl, _⟩ := h
    rfl
  · obtain ⟨a, x, rfl, ha, q⟩ := h
    exact ⟨_, pss_one (ps_ost (pv 0) (pv 1)), x, rfl, .ref a, rfl, a, CB, rfl, T, no, .inl ⟨ha, fun dx n1 n2 => q dx n1 n2⟩⟩
abbrev PP : Program := PySem.Challenge.rw_hushdrawers_k10_stores_refused.prog
section
variable {w : World} {K : PySem.W.Frag} {mg : Str → Option Value} {base h : Heap}
theorem facts {f : Addr} (X : K.In h) (G : h.Ns mainGlobals mg) (hfa : mg ("law" : Str) = some (.ref f)) (c : He.SaysX faL fnL [] tfL exL w h K) : LamX.LawAtS PySem.Challenge.rw_hushdrawers_k10_stores_refused w K (L2.CX PP w) 15 63 "script" mg f h := by
  have cd : He.SaysD faL fnL K := c.t.d
  have glo : ∀ i x, glos[i]? = some x → mg x = some (.ref (He.ga K x)) := fun i x hx => He.glo_ok X G (cd.facts (f := .glo x) (List.mem_append_left _ (List.mem_map_of_mem (List.mem_of_getElem? hx))))
  have fre : ∀ i x, frees[i]? = some x → mg x = none := fun i x hx => He.free_ok X G (cd.facts (f := .free x) (List.mem_append_right _ (List.mem_append_left _ (List.mem_map_of_mem (List.mem_of_getElem? hx)))))
  have oth : ∀ i (q : He.Fa), othL[i]? = some q → q.ok K = true := fun i q hq => cd.facts (List.mem_append_right _ (List.mem_append_right _ (List.mem_append_left _ (List.mem_of_getElem? hq))))
  have exm : ∀ p, p ∈ pairsL → PySem.W.exmOne K (.ref (He.ga K (nm p.1))) (.ref (He.ga K (nm p.2))) = some (p.1 == p.2) := fun p hp => He.exm_ok (cd.facts (f := .exm (nm p.1) (nm p.2) (p.1 == p.2)) (List.mem_append_right _ (List.mem_append_right _ (List.mem_append_right _ (List.mem_map_of_mem (f := fun p : Nat × Nat => He.Fa.exm (nm p.1) (nm p.2) (p.1 == p.2)) hp)))))
  have ex := c.more
  unfold exL at ex
  simp only [Bool.and_eq_true] at ex
  obtain ⟨x_LEAST_CELLS, x_MOST_CELLS, x_MOST_DEEDS, x_MOST_MOMENTS, x_MOST_SESSIONS, x_comb, x_WAYS, x_BadHouse, x_BadStory, x_BadLife, x_BadCoins, x_na, x_nb, x_ab⟩ := ex
  obtain ⟨tk_LEAST_CELLS, i_LEAST_CELLS⟩ := gIntB_ok X G x_LEAST_CELLS
  obtain ⟨tk_MOST_CELLS, i_MOST_CELLS⟩ := gIntB_ok X G x_MOST_CELLS
  obtain ⟨tk_MOST_DEEDS, i_MOST_DEEDS⟩ := gIntB_ok X G x_MOST_DEEDS
  obtain ⟨tk_MOST_MOMENTS, i_MOST_MOMENTS⟩ := gIntB_ok X G x_MOST_MOMENTS
  obtain ⟨tk_MOST_SESSIONS, i_MOST_SESSIONS⟩ := gIntB_ok X G x_MOST_SESSIONS
  have B : Blt mg := ⟨fre 0 _ rfl, fre 1 _ rfl, fre 2 _ rfl, fre 3 _ rfl, fre 4 _ rfl, fre 5 _ rfl, fre 6 _ rfl, fre 7 _ rfl, fre 8 _ rfl, fre 9 _ rfl, fre 10 _ rfl, gBltB_ok X G x_comb, ⟨tk_LEAST_CELLS, i_LEAST_CELLS⟩, ⟨tk_MOST_CELLS, i_MOST_CELLS⟩⟩
  obtain ⟨fd_is_number, F0_is_number⟩ := cd.def_ 0 (d := dOf "is_number" s_is_number) rfl
  have F_is_number : FnP K "is_number" s_is_number (He.ga K "is_number") fd_is_number := F0_is_number
  have b_is_number : Binds K fd_is_number ["value", "least", "most"] [] := FunD.bindsN F0_is_number (fun _ _ _ _ _ _ us hl => match us, hl with | [_, _, _], _ => rfl)
  have m_is_number := glo 0 "is_number" rfl
  obtain ⟨fd_wrong_word, F0_wrong_word⟩ := cd.def_ 1 (d := dOf "wrong_word" s_wrong_word) rfl
  have F_wrong_word : FnP K "wrong_word" s_wrong_word (He.ga K "wrong_word") fd_wrong_word := F0_wrong_word
  have b_wrong_word : Binds K fd_wrong_word ["value"] [] := FunD.bindsN F0_wrong_word (fun _ _ _ _ _ _ us hl => match us, hl with | [_], _ => rfl)
  have m_wrong_word := glo 1 "wrong_word" rfl
  obtain ⟨fd_check_house, F0_check_house⟩ := cd.def_ 2 (d := dOf "check_house" s_check_house) rfl
  have F_check_house : FnP K "check_house" s_check_house (He.ga K "check_house") fd_check_house := F0_check_house
  have b_check_house : Binds K fd_check_house ["house"] [] := FunD.bindsN F0_check_house (fun _ _ _ _ _ _ us hl => match us, hl with | [_], _ => rfl)
  have m_check_house := glo 2 "check_house" rfl
  obtain ⟨fd_is_drawer, F0_is_drawer⟩ := cd.def_ 3 (d := dOf "is_drawer" s_is_drawer) rfl
  have F_is_drawer : FnP K "is_drawer" s_is_drawer (He.ga K "is_drawer") fd_is_drawer := F0_is_drawer
  have b_is_drawer : Binds K fd_is_drawer ["house", "value"] [] := FunD.bindsN F0_is_drawer (fun _ _ _ _ _ _ us hl => match us, hl with | [_, _], _ => rfl)
  have m_is_drawer := glo 3 "is_drawer" rfl
  obtain ⟨fd_check_drawer, F0_check_drawer⟩ := cd.def_ 4 (d := dOf "check_drawer" s_check_drawer) rfl
  have F_check_drawer : FnP K "check_drawer" s_check_drawer (He.ga K "check_drawer") fd_check_drawer := F0_check_drawer
  have b_check_drawer : Binds K fd_check_drawer ["house", "drawer"] [] := FunD.bindsN F0_check_drawer (fun _ _ _ _ _ _ us hl => match us, hl with | [_, _], _ => rfl)
  have m_check_drawer := glo 4 "check_drawer" rfl
  obtain ⟨fd_is_page, F0_is_page⟩ := cd.def_ 5 (d := dOf "is_page" s_is_page) rfl
  have F_is_page : FnP K "is_page" s_is_page (He.ga K "is_page") fd_is_page := F0_is_page
  have b_is_page : Binds K fd_is_page ["house", "value"] [] := FunD.bindsN F0_is_page (fun _ _ _ _ _ _ us hl => match us, hl with | [_, _], _ => rfl)
  have m_is_page := glo 5 "is_page" rfl
  obtain ⟨fd_check_page, F0_check_page⟩ := cd.def_ 6 (d := dOf "check_page" s_check_page) rfl
  have F_check_page : FnP K "check_page" s_check_page (He.ga K "check_page") fd_check_page := F0_check_page
  have b_check_page : Binds K fd_check_page ["house", "page"] [] := FunD.bindsN F0_check_page (fun _ _ _ _ _ _ us hl => match us, hl with | [_, _], _ => rfl)
  have m_check_page := glo 6 "check_page" rfl
  obtain ⟨fd_is_coin, F0_is_coin⟩ := cd.def_ 7 (d := dOf "is_coin" s_is_coin) rfl
  have F_is_coin : FnP K "is_coin" s_is_coin (He.ga K "is_coin") fd_is_coin := F0_is_coin
  have b_is_coin : Binds K fd_is_coin ["house", "value"] [] := FunD.bindsN F0_is_coin (fun _ _ _ _ _ _ us hl => match us, hl with | [_, _], _ => rfl)
  have m_is_coin := glo 7 "is_coin" rfl
  obtain ⟨fd_is_deed, F0_is_deed⟩ := cd.def_ 8 (d := dOf "is_deed" s_is_deed) rfl
  have F_is_deed : FnP K "is_deed" s_is_deed (He.ga K "is_deed") fd_is_deed := F0_is_deed
  have b_is_deed : Binds K fd_is_deed ["house", "value"] [] := FunD.bindsN F0_is_deed (fun _ _ _ _ _ _ us hl => match us, hl with | [_, _], _ => rfl)
  have m_is_deed := glo 8 "is_deed" rfl
  obtain ⟨fd_is_moment, F0_is_moment⟩ := cd.def_ 9 (d := dOf "is_moment" s_is_moment) rfl
  have F_is_moment : FnP K "is_moment" s_is_moment (He.ga K "is_moment") fd_is_moment := F0_is_moment
  have b_is_moment : Binds K fd_is_moment ["house", "value"] [] := FunD.bindsN F0_is_moment (fun _ _ _ _ _ _ us hl => match us, hl with | [_, _], _ => rfl)
  have m_is_moment := glo 9 "is_moment" rfl
  obtain ⟨fd_check_story, F0_check_story⟩ := cd.def_ 10 (d := dOf "check_story" s_check_story) rfl
  have F_check_story : FnP K "check_story" s_check_story (He.ga K "check_story") fd_check_story := F0_check_story
  have b_check_story : Binds K fd_check_story ["house", "story"] [] := FunD.bindsN F0_check_story (fun _ _ _ _ _ _ us hl => match us, hl with | [_, _], _ => rfl)
  have m_check_story := glo 10 "check_story" rfl
  obtain ⟨fd_is_story, F0_is_story⟩ := cd.def_ 11 (d := dOf "is_story" s_is_story) rfl
  have F_is_story : FnP K "is_story" s_is_story (He.ga K "is_story") fd_is_story := F0_is_story
  have b_is_story : Binds K fd_is_story ["house", "value"] [] := FunD.bindsN F0_is_story (fun _ _ _ _ _ _ us hl => match us, hl with | [_, _], _ => rfl)
  have m_is_story := glo 11 "is_story" rfl
  obtain ⟨fd_is_session, F0_is_session⟩ := cd.def_ 12 (d := dOf "is_session" s_is_session) rfl
  have F_is_session : FnP K "is_session" s_is_session (He.ga K "is_session") fd_is_session := F0_is_session
  have b_is_session : Binds K fd_is_session ["house", "value"] [] := FunD.bindsN F0_is_session (fun _ _ _ _ _ _ us hl => match us, hl with | [_, _], _ => rfl)
  have m_is_session := glo 12 "is_session" rfl
  obtain ⟨fd_check_life, F0_check_life⟩ := cd.def_ 13 (d := dOf "check_life" s_check_life) rfl
  have F_check_life : FnP K "check_life" s_check_life (He.ga K "check_life") fd_check_life := F0_check_life
  have b_check_life : Binds K fd_check_life ["house", "life"] [] := FunD.bindsN F0_check_life (fun _ _ _ _ _ _ us hl => match us, hl with | [_, _], _ => rfl)
  have m_check_life := glo 13 "check_life" rfl
  obtain ⟨fd_moment_count, F0_moment_count⟩ := cd.def_ 14 (d := dOf "moment_count" s_moment_count) rfl
  have F_moment_count : FnP K "moment_count" s_moment_count (He.ga K "moment_count") fd_moment_count := F0_moment_count
  have b_moment_count : Binds K fd_moment_count ["life"] [] := FunD.bindsN F0_moment_count (fun _ _ _ _ _ _ us hl => match us, hl with | [_], _ => rfl)
  have m_moment_count := glo 14 "moment_count" rfl
  obtain ⟨fd_check_coins, F0_check_coins⟩ := cd.def_ 15 (d := dOf "check_coins" s_check_coins) rfl
  have F_check_coins : FnP K "check_coins" s_check_coins (He.ga K "check_coins") fd_check_coins := F0_check_coins
  have b_check_coins : Binds K fd_check_coins ["house", "life", "coins"] [] := FunD.bindsN F0_check_coins (fun _ _ _ _ _ _ us hl => match us, hl with | [_, _, _], _ => rfl)
  have m_check_coins := glo 15 "check_coins" rfl
  obtain ⟨fd_check_way, F0_check_way⟩ := cd.def_ 16 (d := dOf "check_way" s_check_way) rfl
  have F_check_way : FnP K "check_way" s_check_way (He.ga K "check_way") fd_check_way := F0_check_way
  have b_check_way : Binds K fd_check_way ["way"] [] := FunD.bindsN F0_check_way (fun _ _ _ _ _ _ us hl => match us, hl with | [_], _ => rfl)
  have m_check_way := glo 16 "check_way" rfl
  obtain ⟨fd_check_times, F0_check_times⟩ := cd.def_ 17 (d := dOf "check_times" s_check_times) rfl
  have F_check_times : FnP K "check_times" s_check_times (He.ga K "check_times") fd_check_times := F0_check_times
  have b_check_times : Binds K fd_check_times ["life", "times"] [] := FunD.bindsN F0_check_times (fun _ _ _ _ _ _ us hl => match us, hl with | [_, _], _ => rfl)
  have m_check_times := glo 17 "check_times" rfl
  obtain ⟨fd_check_run, F0_check_run⟩ := cd.def_ 18 (d := dOf "check_run" s_check_run) rfl
  have F_check_run : FnP K "check_run" s_check_run (He.ga K "check_run") fd_check_run := F0_check_run
  have b_check_run : Binds K fd_check_run ["house", "way", "life", "coins"] [] := FunD.bindsN F0_check_run (fun _ _ _ _ _ _ us hl => match us, hl with | [_, _, _, _], _ => rfl)
  have m_check_run := glo 18 "check_run" rfl
  obtain ⟨fd_check_key, F0_check_key⟩ := cd.def_ 19 (d := dOf "check_key" s_check_key) rfl
  have F_check_key : FnP K "check_key" s_check_key (He.ga K "check_key") fd_check_key := F0_check_key
  have b_check_key : Binds K fd_check_key ["house", "life", "drawer"] [] := FunD.bindsN F0_check_key (fun _ _ _ _ _ _ us hl => match us, hl with | [_, _, _], _ => rfl)
  have m_check_key := glo 19 "check_key" rfl
  obtain ⟨fd_check_search, F0_check_search⟩ := cd.def_ 20 (d := dOf "check_search" s_check_search) rfl
  have F_check_search : FnP K "check_search" s_check_search (He.ga K "check_search") fd_check_search := F0_check_search
  have b_check_search : Binds K fd_check_search ["house", "drawer", "moments", "is_often"] [] := FunD.bindsN F0_check_search (fun _ _ _ _ _ _ us hl => match us, hl with | [_, _, _, _], _ => rfl)
  have m_check_search := glo 20 "check_search" rfl
  obtain ⟨fd_check_waits, F0_check_waits⟩ := cd.def_ 21 (d := dOf "check_waits" s_check_waits) rfl
  have F_check_waits : FnP K "check_waits" s_check_waits (He.ga K "check_waits") fd_check_waits := F0_check_waits
  have b_check_waits : Binds K fd_check_waits ["house", "way", "story", "drawer"] [] := FunD.bindsN F0_check_waits (fun _ _ _ _ _ _ us hl => match us, hl with | [_, _, _, _], _ => rfl)
  have m_check_waits := glo 21 "check_waits" rfl
  obtain ⟨fd_check_viewer, F0_check_viewer⟩ := cd.def_ 22 (d := dOf "check_viewer" s_check_viewer) rfl
  have F_check_viewer : FnP K "check_viewer" s_check_viewer (He.ga K "check_viewer") fd_check_viewer := F0_check_viewer
  have b_check_viewer : Binds K fd_check_viewer ["house", "way", "life", "drawer", "times"] [] := FunD.bindsN F0_check_viewer (fun _ _ _ _ _ _ us hl => match us, hl with | [_, _, _, _, _], _ => rfl)
  have m_check_viewer := glo 22 "check_viewer" rfl
  obtain ⟨fd_coin_count, F0_coin_count⟩ := cd.def_ 23 (d := dOf "coin_count" s_coin_count) rfl
  have F_coin_count : FnP K "coin_count" s_coin_count (He.ga K "coin_count") fd_coin_count := F0_coin_count
  have b_coin_count : Binds K fd_coin_count ["house"] [] := FunD.bindsN F0_coin_count (fun _ _ _ _ _ _ us hl => match us, hl with | [_], _ => rfl)
  have m_coin_count := glo 23 "coin_count" rfl
  obtain ⟨fd_drawn, F0_drawn⟩ := cd.def_ 24 (d := dOf "drawn" s_drawn) rfl
  have F_drawn : FnP K "drawn" s_drawn (He.ga K "drawn") fd_drawn := F0_drawn
  have b_drawn : Binds K fd_drawn ["house", "coin"] [] := FunD.bindsN F0_drawn (fun _ _ _ _ _ _ us hl => match us, hl with | [_, _], _ => rfl)
  have m_drawn := glo 24 "drawn" rfl
  obtain ⟨fd_coin_of, F0_coin_of⟩ := cd.def_ 25 (d := dOf "coin_of" s_coin_of) rfl
  have F_coin_of : FnP K "coin_of" s_coin_of (He.ga K "coin_of") fd_coin_of := F0_coin_of
  have b_coin_of : Binds K fd_coin_of ["house", "cells"] [] := FunD.bindsN F0_coin_of (fun _ _ _ _ _ _ us hl => match us, hl with | [_, _], _ => rfl)
  have m_coin_of := glo 25 "coin_of" rfl
  obtain ⟨fd_is_life, F0_is_life⟩ := cd.def_ 26 (d := dOf "is_life" s_is_life) rfl
  have F_is_life : FnP K "is_life" s_is_life (He.ga K "is_life") fd_is_life := F0_is_life
  have b_is_life : Binds K fd_is_life ["house", "value"] [] := FunD.bindsN F0_is_life (fun _ _ _ _ _ _ us hl => match us, hl with | [_, _], _ => rfl)
  have m_is_life := glo 26 "is_life" rfl
  obtain ⟨fd_row_count, F0_row_count⟩ := cd.def_ 27 (d := dOf "row_count" s_row_count) rfl
  have F_row_count : FnP K "row_count" s_row_count (He.ga K "row_count") fd_row_count := F0_row_count
  have b_row_count : Binds K fd_row_count ["house", "life"] [] := FunD.bindsN F0_row_count (fun _ _ _ _ _ _ us hl => match us, hl with | [_, _], _ => rfl)
  have m_row_count := glo 27 "row_count" rfl
  obtain ⟨fd_written, F0_written⟩ := cd.def_ 28 (d := dOf "written" s_written) rfl
  have F_written : FnP K "written" s_written (He.ga K "written") fd_written := F0_written
  have b_written : Binds K fd_written ["house", "life"] [] := FunD.bindsN F0_written (fun _ _ _ _ _ _ us hl => match us, hl with | [_, _], _ => rfl)
  have m_written := glo 28 "written" rfl
  obtain ⟨fd_upper, F0_upper⟩ := cd.def_ 29 (d := dOf "upper" s_upper) rfl
  have F_upper : FnP K "upper" s_upper (He.ga K "upper") fd_upper := F0_upper
  have b_upper : Binds K fd_upper ["house", "life", "drawer"] [] := FunD.bindsN F0_upper (fun _ _ _ _ _ _ us hl => match us, hl with | [_, _, _], _ => rfl)
  have m_upper := glo 29 "upper" rfl
  obtain ⟨fd_lives_on, F0_lives_on⟩ := cd.def_ 30 (d := dOf "lives_on" s_lives_on) rfl
  have F_lives_on : FnP K "lives_on" s_lives_on (He.ga K "lives_on") fd_lives_on := F0_lives_on
  have b_lives_on : Binds K fd_lives_on ["house", "copies", "moments"] [] := FunD.bindsN F0_lives_on (fun _ _ _ _ _ _ us hl => match us, hl with | [_, _, _], _ => rfl)
  have m_lives_on := glo 30 "lives_on" rfl
  obtain ⟨fd_alike_above, F0_alike_above⟩ := cd.def_ 31 (d := dOf "alike_above" s_alike_above) rfl
  have F_alike_above : FnP K "alike_above" s_alike_above (He.ga K "alike_above") fd_alike_above := F0_alike_above
  have b_alike_above : Binds K fd_alike_above ["house", "one", "other", "drawer"] [] := FunD.bindsN F0_alike_above (fun _ _ _ _ _ _ us hl => match us, hl with | [_, _, _, _], _ => rfl)
  have m_alike_above := glo 31 "alike_above" rfl
  obtain ⟨fd_safe_ways, F0_safe_ways⟩ := cd.def_ 32 (d := dOf "safe_ways" s_safe_ways) rfl
  have F_safe_ways : FnP K "safe_ways" s_safe_ways (He.ga K "safe_ways") fd_safe_ways := F0_safe_ways
  have b_safe_ways : Binds K fd_safe_ways ["house", "drawer", "moments", "is_often"] [] := FunD.bindsN F0_safe_ways (fun _ _ _ _ _ _ us hl => match us, hl with | [_, _, _, _], _ => rfl)
  have m_safe_ways := glo 32 "safe_ways" rfl
  obtain ⟨fd_loss_chance, F0_loss_chance⟩ := cd.def_ 33 (d := dOf "loss_chance" s_loss_chance) rfl
  have F_loss_chance : FnP K "loss_chance" s_loss_chance (He.ga K "loss_chance") fd_loss_chance := F0_loss_chance
  have b_loss_chance : Binds K fd_loss_chance ["house", "life", "drawer", "page"] [] := FunD.bindsN F0_loss_chance (fun _ _ _ _ _ _ us hl => match us, hl with | [_, _, _, _], _ => rfl)
  have m_loss_chance := glo 33 "loss_chance" rfl
  obtain ⟨fd_waiting_counts, F0_waiting_counts⟩ := cd.def_ 34 (d := dOf "waiting_counts" s_waiting_counts) rfl
  have F_waiting_counts : FnP K "waiting_counts" s_waiting_counts (He.ga K "waiting_counts") fd_waiting_counts := F0_waiting_counts
  have b_waiting_counts : Binds K fd_waiting_counts ["house", "way", "story", "drawer"] [] := FunD.bindsN F0_waiting_counts (fun _ _ _ _ _ _ us hl => match us, hl with | [_, _, _, _], _ => rfl)
  have m_waiting_counts := glo 34 "waiting_counts" rfl
  obtain ⟨fd_looks, F0_looks⟩ := cd.def_ 35 (d := dOf "looks" s_looks) rfl
  have F_looks : FnP K "looks" s_looks (He.ga K "looks") fd_looks := F0_looks
  have b_looks : Binds K fd_looks ["house", "way", "life", "coins", "drawer"] [] := FunD.bindsN F0_looks (fun _ _ _ _ _ _ us hl => match us, hl with | [_, _, _, _, _], _ => rfl)
  have m_looks := glo 35 "looks" rfl
  obtain ⟨fd_waiting, F0_waiting⟩ := cd.def_ 36 (d := dOf "waiting" s_waiting) rfl
  have F_waiting : FnP K "waiting" s_waiting (He.ga K "waiting") fd_waiting := F0_waiting
  have b_waiting : Binds K fd_waiting ["house", "way", "life", "coins", "drawer"] [] := FunD.bindsN F0_waiting (fun _ _ _ _ _ _ us hl => match us, hl with | [_, _, _, _, _], _ => rfl)
  have m_waiting := glo 36 "waiting" rfl
  obtain ⟨fd_places, F0_places⟩ := cd.def_ 37 (d := dOf "places" s_places) rfl
  have F_places : FnP K "places" s_places (He.ga K "places") fd_places := F0_places
  have b_places : Binds K fd_places ["house", "way", "life", "coins", "drawer"] [] := FunD.bindsN F0_places (fun _ _ _ _ _ _ us hl => match us, hl with | [_, _, _, _, _], _ => rfl)
  have m_places := glo 37 "places" rfl
  obtain ⟨fd_parting, F0_parting⟩ := cd.def_ 38 (d := dOf "parting" s_parting) rfl
  have F_parting : FnP K "parting" s_parting (He.ga K "parting") fd_parting := F0_parting
  have b_parting : Binds K fd_parting ["house", "way", "drawer", "moments", "is_often"] [] := FunD.bindsN F0_parting (fun _ _ _ _ _ _ us hl => match us, hl with | [_, _, _, _, _], _ => rfl)
  have m_parting := glo 38 "parting" rfl
  obtain ⟨fd_view_count, F0_view_count⟩ := cd.def_ 39 (d := dOf "view_count" s_view_count) rfl
  have F_view_count : FnP K "view_count" s_view_count (He.ga K "view_count") fd_view_count := F0_view_count
  have b_view_count : Binds K fd_view_count ["house", "way", "life", "drawer", "times"] [] := FunD.bindsN F0_view_count (fun _ _ _ _ _ _ us hl => match us, hl with | [_, _, _, _, _], _ => rfl)
  have m_view_count := glo 39 "view_count" rfl
  obtain ⟨fd_more_wait, F0_more_wait⟩ := cd.def_ 40 (d := dOf "more_wait" s_more_wait) rfl
  have F_more_wait : FnP K "more_wait" s_more_wait (He.ga K "more_wait") fd_more_wait := F0_more_wait
  have b_more_wait : Binds K fd_more_wait ["house", "way", "story", "drawer", "many"] [] := FunD.bindsN F0_more_wait (fun _ _ _ _ _ _ us hl => match us, hl with | [_, _, _, _, _], _ => rfl)
  have m_more_wait := glo 40 "more_wait" rfl
  obtain ⟨fd_view, F0_view⟩ := cd.def_ 41 (d := dOf "view" s_view) rfl
  have F_view : FnP K "view" s_view (He.ga K "view") fd_view := F0_view
  have b_view : Binds K fd_view ["house", "way", "life", "coins", "drawer", "times"] [] := FunD.bindsN F0_view (fun _ _ _ _ _ _ us hl => match us, hl with | [_, _, _, _, _, _], _ => rfl)
  have m_view := glo 41 "view" rfl
  obtain ⟨fd_read, F0_read⟩ := cd.def_ 42 (d := dOf "read" s_read) rfl
  have F_read : FnP K "read" s_read (He.ga K "read") fd_read := F0_read
  have b_read : Binds K fd_read ["house", "way", "life", "coins", "drawer", "page"] [] := FunD.bindsN F0_read (fun _ _ _ _ _ _ us hl => match us, hl with | [_, _, _, _, _, _], _ => rfl)
  have m_read := glo 42 "read" rfl
  obtain ⟨fd_found_later, F0_found_later⟩ := cd.def_ 43 (d := dOf "found_later" s_found_later) rfl
  have F_found_later : FnP K "found_later" s_found_later (He.ga K "found_later") fd_found_later := F0_found_later
  have b_found_later : Binds K fd_found_later ["house", "way", "life", "coins", "drawer", "page"] [] := FunD.bindsN F0_found_later (fun _ _ _ _ _ _ us hl => match us, hl with | [_, _, _, _, _, _], _ => rfl)
  have m_found_later := glo 43 "found_later" rfl
  obtain ⟨fd_is_parted, F0_is_parted⟩ := cd.def_ 44 (d := dOf "is_parted" s_is_parted) rfl
  have F_is_parted : FnP K "is_parted" s_is_parted (He.ga K "is_parted") fd_is_parted := F0_is_parted
  have b_is_parted : Binds K fd_is_parted ["house", "way", "life", "coins", "drawer", "is_often"] [] := FunD.bindsN F0_is_parted (fun _ _ _ _ _ _ us hl => match us, hl with | [_, _, _, _, _, _], _ => rfl)
  have m_is_parted := glo 44 "is_parted" rfl
  obtain ⟨fd_best_guess, F0_best_guess⟩ := cd.def_ 45 (d := dOf "best_guess" s_best_guess) rfl
  have F_best_guess : FnP K "best_guess" s_best_guess (He.ga K "best_guess") fd_best_guess := F0_best_guess
  have b_best_guess : Binds K fd_best_guess ["house", "way", "one", "other", "drawer", "times"] [] := FunD.bindsN F0_best_guess (fun _ _ _ _ _ _ us hl => match us, hl with | [_, _, _, _, _, _], _ => rfl)
  have m_best_guess := glo 45 "best_guess" rfl
  obtain ⟨fd_least_cells, F0_least_cells⟩ := cd.def_ 46 (d := dOf "least_cells" s_least_cells) rfl
  have F_least_cells : FnP K "least_cells" s_least_cells (He.ga K "least_cells") fd_least_cells := F0_least_cells
  have b_least_cells : Binds K fd_least_cells ["house", "story", "drawer", "many", "top", "bottom"] [] := FunD.bindsN F0_least_cells (fun _ _ _ _ _ _ us hl => match us, hl with | [_, _, _, _, _, _], _ => rfl)
  have m_least_cells := glo 46 "least_cells" rfl
  obtain ⟨fd__law_taken, F0__law_taken⟩ := cd.def_ 47 (d := dOf "_law_taken" s__law_taken) rfl
  have F__law_taken : FnP K "_law_taken" s__law_taken (He.ga K "_law_taken") fd__law_taken := F0__law_taken
  have b__law_taken : Binds K fd__law_taken ["row", "many"] [] := FunD.bindsN F0__law_taken (fun _ _ _ _ _ _ us hl => match us, hl with | [_, _], _ => rfl)
  have m__law_taken := glo 47 "_law_taken" rfl
  obtain ⟨fd__law_pick, F0__law_pick⟩ := cd.def_ 48 (d := dOf "_law_pick" s__law_pick) rfl
  have F__law_pick : FnP K "_law_pick" s__law_pick (He.ga K "_law_pick") fd__law_pick := F0__law_pick
  have b__law_pick : Binds K fd__law_pick ["row", "things"] [] := FunD.bindsN F0__law_pick (fun _ _ _ _ _ _ us hl => match us, hl with | [_, _], _ => rfl)
  have m__law_pick := glo 48 "_law_pick" rfl
  obtain ⟨fd__law_word, F0__law_word⟩ := cd.def_ 49 (d := dOf "_law_word" s__law_word) rfl
  have F__law_word : FnP K "_law_word" s__law_word (He.ga K "_law_word") fd__law_word := F0__law_word
  have b__law_word : Binds K fd__law_word ["work"] [] := FunD.bindsN F0__law_word (fun _ _ _ _ _ _ us hl => match us, hl with | [_], _ => rfl)
  have m__law_word := glo 49 "_law_word" rfl
  obtain ⟨fd__law_houses_refused, F0__law_houses_refused⟩ := cd.def_ 50 (d := dOf "_law_houses_refused" s__law_houses_refused) rfl
  have F__law_houses_refused : FnP K "_law_houses_refused" s__law_houses_refused (He.ga K "_law_houses_refused") fd__law_houses_refused := F0__law_houses_refused
  have b__law_houses_refused : Binds K fd__law_houses_refused ["bad", "word"] [] := FunD.bindsN F0__law_houses_refused (fun _ _ _ _ _ _ us hl => match us, hl with | [_, _], _ => rfl)
  have m__law_houses_refused := glo 50 "_law_houses_refused" rfl
  obtain ⟨fd_law, F0_law⟩ := cd.def_ 51 (d := dOf "law" s_law) rfl
  have F_law : FnP K "law" s_law (He.ga K "law") fd_law := F0_law
  have b_law : Binds K fd_law ["script"] [] := FunD.bindsN F0_law (fun _ _ _ _ _ _ us hl => match us, hl with | [_], _ => rfl)
  have m_law := glo 51 "law" rfl
  obtain ⟨fd_BadHouse, F0_BadHouse⟩ := cd.def_ 52 (d := ⟨("BadHouse", some "__init__"), "__init__", "BadHouse.__init__", defArgs s_BadHouse___init__, defBody s_BadHouse___init__, defScope s_BadHouse___init__, [], []⟩) rfl
  have b_BadHouse : Binds K fd_BadHouse ["self", "word"] [] := FunD.bindsN F0_BadHouse (fun _ _ _ _ _ _ us hl => match us, hl with | [_, _], _ => rfl)
  obtain ⟨T_BadHouse, XF_BadHouse, ty_BadHouse⟩ := ownB_ok x_BadHouse
  have no_BadHouse : PySem.W.findIn K (.ref (He.ga K "BadHouse")) "word" = some none := He.noat_ok (oth 0 (.noat "BadHouse" "word") rfl)
  have me_BadHouse := He.meth_ok (oth 4 (.meth "BadHouse" "__init__") rfl)
  obtain ⟨fd_BadStory, F0_BadStory⟩ := cd.def_ 53 (d := ⟨("BadStory", some "__init__"), "__init__", "BadStory.__init__", defArgs s_BadStory___init__, defBody s_BadStory___init__, defScope s_BadStory___init__, [], []⟩) rfl
  have b_BadStory : Binds K fd_BadStory ["self", "index"] [] := FunD.bindsN F0_BadStory (fun _ _ _ _ _ _ us hl => match us, hl with | [_, _], _ => rfl)
  obtain ⟨T_BadStory, XF_BadStory, ty_BadStory⟩ := ownB_ok x_BadStory
  have no_BadStory : PySem.W.findIn K (.ref (He.ga K "BadStory")) "index" = some none := He.noat_ok (oth 1 (.noat "BadStory" "index") rfl)
  have me_BadStory := He.meth_ok (oth 5 (.meth "BadStory" "__init__") rfl)
  obtain ⟨fd_BadLife, F0_BadLife⟩ := cd.def_ 54 (d := ⟨("BadLife", some "__init__"), "__init__", "BadLife.__init__", defArgs s_BadLife___init__, defBody s_BadLife___init__, defScope s_BadLife___init__, [], []⟩) rfl
  have b_BadLife : Binds K fd_BadLife ["self", "index"] [] := FunD.bindsN F0_BadLife (fun _ _ _ _ _ _ us hl => match us, hl with | [_, _], _ => rfl)
  obtain ⟨T_BadLife, XF_BadLife, ty_BadLife⟩ := ownB_ok x_BadLife
  have no_BadLife : PySem.W.findIn K (.ref (He.ga K "BadLife")) "index" = some none := He.noat_ok (oth 2 (.noat "BadLife" "index") rfl)
  have me_BadLife := He.meth_ok (oth 6 (.meth "BadLife" "__init__") rfl)
  obtain ⟨fd_BadCoins, F0_BadCoins⟩ := cd.def_ 55 (d := ⟨("BadCoins", some "__init__"), "__init__", "BadCoins.__init__", defArgs s_BadCoins___init__, defBody s_BadCoins___init__, defScope s_BadCoins___init__, [], []⟩) rfl
  have b_BadCoins : Binds K fd_BadCoins ["self", "index"] [] := FunD.bindsN F0_BadCoins (fun _ _ _ _ _ _ us hl => match us, hl with | [_, _], _ => rfl)
  obtain ⟨T_BadCoins, XF_BadCoins, ty_BadCoins⟩ := ownB_ok x_BadCoins
  have no_BadCoins : PySem.W.findIn K (.ref (He.ga K "BadCoins")) "index" = some none := He.noat_ok (oth 3 (.noat "BadCoins" "index") rfl)
  have me_BadCoins := He.meth_ok (oth 7 (.meth "BadCoins" "__init__") rfl)
  have ec_BadDrawer := He.exc_ok (oth 8 (.exc "BadDrawer") rfl)
  have ec_BadPage := He.exc_ok (oth 9 (.exc "BadPage") rfl)
  have ec_BadTimes := He.exc_ok (oth 10 (.exc "BadTimes") rfl)
  have em := hfa.symm.trans m_law
  cases em
  obtain ⟨c_law, hc_law, hco_law⟩ : ∃ c0, fd_law.code = .ref c0 ∧ He.codeOf K ("law", none) = c0 := by
    obtain ⟨oc, od, dV, kV, doc, pm, an, cdv, ct, osl, e, lk, hcd, _, _⟩ := F_law.ex
    rw [e] at lk
    obtain ⟨c0, h0⟩ := He.codeIn_ref hcd
    refine ⟨c0, by rw [e]; exact h0, He.codeOf_eq (p := ("law", none)) lk h0⟩
  obtain ⟨c__law_houses_refused, hc__law_houses_refused, hco__law_houses_refused⟩ : ∃ c0, fd__law_houses_refused.code = .ref c0 ∧ He.codeOf K ("_law_houses_refused", none) = c0 := by
    obtain ⟨oc, od, dV, kV, doc, pm, an, cdv, ct, osl, e, lk, hcd, _, _⟩ := F__law_houses_refused.ex
    rw [e] at lk
    obtain ⟨c0, h0⟩ := He.codeIn_ref hcd
    refine ⟨c0, by rw [e]; exact h0, He.codeOf_eq (p := ("_law_houses_refused", none)) lk h0⟩
  obtain ⟨c_is_moment, hc_is_moment, hco_is_moment⟩ : ∃ c0, fd_is_moment.code = .ref c0 ∧ He.codeOf K ("is_moment", none) = c0 := by
    obtain ⟨oc, od, dV, kV, doc, pm, an, cdv, ct, osl, e, lk, hcd, _, _⟩ := F_is_moment.ex
    rw [e] at lk
    obtain ⟨c0, h0⟩ := He.codeIn_ref hcd
    refine ⟨c0, by rw [e]; exact h0, He.codeOf_eq (p := ("is_moment", none)) lk h0⟩
  obtain ⟨c_is_session, hc_is_session, hco_is_session⟩ : ∃ c0, fd_is_session.code = .ref c0 ∧ He.codeOf K ("is_session", none) = c0 := by
    obtain ⟨oc, od, dV, kV, doc, pm, an, cdv, ct, osl, e, lk, hcd, _, _⟩ := F_is_session.ex
    rw [e] at lk
    obtain ⟨c0, h0⟩ := He.codeIn_ref hcd
    refine ⟨c0, by rw [e]; exact h0, He.codeOf_eq (p := ("is_session", none)) lk h0⟩
  obtain ⟨c_moment_count, hc_moment_count, hco_moment_count⟩ : ∃ c0, fd_moment_count.code = .ref c0 ∧ He.codeOf K ("moment_count", none) = c0 := by
    obtain ⟨oc, od, dV, kV, doc, pm, an, cdv, ct, osl, e, lk, hcd, _, _⟩ := F_moment_count.ex
    rw [e] at lk
    obtain ⟨c0, h0⟩ := He.codeIn_ref hcd
    refine ⟨c0, by rw [e]; exact h0, He.codeOf_eq (p := ("moment_count", none)) lk h0⟩
  have allT : ∀ p ∈ tfL.map (He.cT K), ∃ n ∈ tfL, p = He.cT K n := fun p hp => let ⟨n, a, b⟩ := List.mem_map.mp hp; ⟨n, a, b.symm⟩
  have WX : ∀ i j, i < 7 → j ≤ i → PySem.W.exmOne K (.ref (He.ga K (nm i))) (.ref (He.ga K (nm j))) = some (i == j) := fun i j h1 h2 => exm (i, j) ((show ∀ i, i < 7 → ∀ j, j ≤ i → (i, j) ∈ pairsL by decide) i h1 j h2)
  let cs : Cs := ⟨He.ga K "BadHouse", He.ga K "BadStory", He.ga K "BadLife", He.ga K "BadCoins", He.ga K "BadDrawer", He.ga K "BadPage", He.ga K "BadTimes", He.ga K "BadNumber", He.ga K "DrawerError"⟩
  have at_ : ∀ i, cs.at i = He.ga K (nm i) := fun i => match i with
    | 0 => rfl
    | 1 => rfl
    | 2 => rfl
    | 3 => rfl
    | 4 => rfl
    | 5 => rfl
    | 6 => rfl
    | n + 7 => rfl
  let tb : Tb := ⟨(He.cT K ("is_moment", none)).2, (He.cT K ("is_session", none)).2, (He.cT K ("moment_count", none)).2⟩
  refine ⟨fd_law, tfL.map (He.cT K), spLaw K [] tb (He.cT K ("law", none)).2 (He.cT K ("_law_houses_refused", none)).2, fun p hp => ?_, fun p hp => ?_, fun p hp => ?_, fun s u => FunD.bindsA (ps := ["script"]) F0_law (fun _ _ _ _ _ _ us hl => match us, hl with | [_], _ => rfl) s [u] rfl, fun H a ns hl hb hP hS => ⟨a, ns, rfl, hS, fun p hp => ?_, fun _ => rfl⟩, fun base KB hns hTB => ?_⟩
  · obtain ⟨n, hn, rfl⟩ := allT p hp
    exact c.empty _ hn
  · obtain ⟨n, hn, rfl⟩ := allT p hp
    exact c.out _ hn
  · obtain ⟨n, hn, rfl⟩ := allT p hp
    exact PySem.W.codeHd_of_K X (c.hd _ hn)
  · simp only [List.mem_cons, List.mem_nil_iff, or_false] at hp
    rcases hp with rfl | rfl | rfl | rfl | rfl
    · exact hP _ (List.mem_of_getElem? (i := 0) rfl)
    · exact hP _ (List.mem_of_getElem? (i := 1) rfl)
    · exact hP _ (List.mem_of_getElem? (i := 2) rfl)
    · exact hP _ (List.mem_of_getElem? (i := 3) rfl)
    · exact hP _ (List.mem_of_getElem? (i := 4) rfl)
  · have TB_law := hTB _ (List.mem_of_getElem? (i := 0) rfl)
    have TB__law_houses_refused := hTB _ (List.mem_of_getElem? (i := 1) rfl)
    have TB_is_moment := hTB _ (List.mem_of_getElem? (i := 2) rfl)
    have TB_is_session := hTB _ (List.mem_of_getElem? (i := 3) rfl)
    have TB_moment_count := hTB _ (List.mem_of_getElem? (i := 4) rfl)
    have TL_law : LamX.TabB base mg c_law (He.cT K ("law", none)).2 := by
      rw [← hco_law]
      exact TB_law
    have TL__law_houses_refused : LamX.TabB base mg c__law_houses_refused (He.cT K ("_law_houses_refused", none)).2 := by
      rw [← hco__law_houses_refused]
      exact TB__law_houses_refused
    have CA_is_moment : CodeAt K mg base fd_is_moment c_is_moment (He.cT K ("is_moment", none)).2 := ⟨hc_is_moment, by rw [← hco_is_moment]; exact ⟨TB_is_moment.code, TB_is_moment.bm, TB_is_moment.gP⟩, ⟨("is_moment", none), List.mem_of_getElem? (i := 0) rfl, rfl⟩⟩
    have CA_is_session : CodeAt K mg base fd_is_session c_is_session (He.cT K ("is_session", none)).2 := ⟨hc_is_session, by rw [← hco_is_session]; exact ⟨TB_is_session.code, TB_is_session.bm, TB_is_session.gP⟩, ⟨("is_session", none), List.mem_of_getElem? (i := 1) rfl, rfl⟩⟩
    have CA_moment_count : CodeAt K mg base fd_moment_count c_moment_count (He.cT K ("moment_count", none)).2 := ⟨hc_moment_count, by rw [← hco_moment_count]; exact ⟨TB_moment_count.code, TB_moment_count.bm, TB_moment_count.gP⟩, ⟨("moment_count", none), List.mem_of_getElem? (i := 2) rfl, rfl⟩⟩
    have E_BadHouse : ErrF PP w K mg base "BadHouse" "word" (He.ga K "BadHouse") := ⟨T_BadHouse, XF_BadHouse, no_BadHouse, (glo 52 "BadHouse" rfl), _, fd_BadHouse, me_BadHouse.at_, ty_BadHouse, ok_BadHouse_init F0_BadHouse T_BadHouse no_BadHouse, b_BadHouse⟩
    have E_BadStory : ErrF PP w K mg base "BadStory" "index" (He.ga K "BadStory") := ⟨T_BadStory, XF_BadStory, no_BadStory, (glo 53 "BadStory" rfl), _, fd_BadStory, me_BadStory.at_, ty_BadStory, ok_BadStory_init F0_BadStory T_BadStory no_BadStory, b_BadStory⟩
    have E_BadLife : ErrF PP w K mg base "BadLife" "index" (He.ga K "BadLife") := ⟨T_BadLife, XF_BadLife, no_BadLife, (glo 54 "BadLife" rfl), _, fd_BadLife, me_BadLife.at_, ty_BadLife, ok_BadLife_init F0_BadLife T_BadLife no_BadLife, b_BadLife⟩
    have E_BadCoins : ErrF PP w K mg base "BadCoins" "index" (He.ga K "BadCoins") := ⟨T_BadCoins, XF_BadCoins, no_BadCoins, (glo 55 "BadCoins" rfl), _, fd_BadCoins, me_BadCoins.at_, ty_BadCoins, ok_BadCoins_init F0_BadCoins T_BadCoins no_BadCoins, b_BadCoins⟩
    have E_BadDrawer : ErrP K mg "BadDrawer" (He.ga K "BadDrawer") := ⟨ec_BadDrawer.1, ec_BadDrawer.2.1, ec_BadDrawer.2.2.1, ec_BadDrawer.2.2.2, (glo 56 "BadDrawer" rfl)⟩
    have E_BadPage : ErrP K mg "BadPage" (He.ga K "BadPage") := ⟨ec_BadPage.1, ec_BadPage.2.1, ec_BadPage.2.2.1, ec_BadPage.2.2.2, (glo 57 "BadPage" rfl)⟩
    have E_BadTimes : ErrP K mg "BadTimes" (He.ga K "BadTimes") := ⟨ec_BadTimes.1, ec_BadTimes.2.1, ec_BadTimes.2.2.1, ec_BadTimes.2.2.2, (glo 58 "BadTimes" rfl)⟩
    have N_is_number : Fn PP w K mg base CX0 1 "is_number" ["value", "least", "most"] (spNumber K) _ _ := ⟨ok_number (CX := CX0) F_is_number B, m_is_number, F_is_number.kp, b_is_number⟩
    have N_wrong_word : Fn PP w K mg base CX0 2 "wrong_word" ["value"] (spWrong K) _ _ := ⟨ok_wrong (CX := CX0) F_wrong_word B ⟨N_is_number.G, N_is_number.m, N_is_number.k, N_is_number.b⟩, m_wrong_word, F_wrong_word.kp, b_wrong_word⟩
    have N_check_house : Fn PP w K mg base (L2.CX PP w) 3 "check_house" ["house"] (spCheck K cs.B) _ _ := ⟨ok_check F_check_house N_wrong_word E_BadHouse, m_check_house, F_check_house.kp, b_check_house⟩
    have N_is_drawer : Fn PP w K mg base CX0 2 "is_drawer" ["house", "value"] (spDrawer K) _ _ := ⟨ok_is_drawer (CX := CX0) F_is_drawer N_is_number, m_is_drawer, F_is_drawer.kp, b_is_drawer⟩
    have N_check_drawer : Fn PP w K mg base (L2.CX PP w) 3 "check_drawer" ["house", "drawer"] (spChk K (fun d _ => d) cs.D) _ _ := ⟨ok_check_drawer F_check_drawer N_is_drawer E_BadDrawer, m_check_drawer, F_check_drawer.kp, b_check_drawer⟩
    have N_is_page : Fn PP w K mg base CX0 2 "is_page" ["house", "value"] (spPage K) _ _ := ⟨ok_is_page (CX := CX0) F_is_page N_is_number, m_is_page, F_is_page.kp, b_is_page⟩
    have N_check_page : Fn PP w K mg base (L2.CX PP w) 3 "check_page" ["house", "page"] (spChk K (fun _ p => p) cs.P) _ _ := ⟨ok_check_page F_check_page N_is_page E_BadPage, m_check_page, F_check_page.kp, b_check_page⟩
    have N_is_coin : Fn PP w K mg base CX0 2 "is_coin" ["house", "value"] (spIsCoin K) _ _ := ⟨ok_is_coin (CX := CX0) F_is_coin N_is_number B, m_is_coin, F_is_coin.kp, b_is_coin⟩
    have N_is_deed : Fn PP w K mg base CX0 3 "is_deed" ["house", "value"] (spDeed K) _ _ := ⟨ok_is_deed (CX := CX0) F_is_deed B N_is_number N_is_drawer N_is_page, m_is_deed, F_is_deed.kp, b_is_deed⟩
    have hall : mg "all" = none := fre 11 _ rfl
    have N_is_moment : Fn PP w K mg base CX0 5 "is_moment" ["house", "value"] (spMoment K tb.m) _ _ := ⟨ok_is_moment (CX := CX0) F_is_moment B hall i_MOST_DEEDS CA_is_moment N_is_deed, m_is_moment, F_is_moment.kp, b_is_moment⟩
    have N_check_story : Fn PP w K mg base (L2.CX PP w) 6 "check_story" ["house", "story"] (spStory K cs.S tb.m) _ _ := ⟨ok_check_story F_check_story B i_MOST_MOMENTS N_is_moment E_BadStory, m_check_story, F_check_story.kp, b_check_story⟩
    have N1_is_story : Fn PP w K mg base (L2.CX PP w) 7 "is_story" ["house", "value"] (spIsStory K tb.m) _ _ := ⟨ok_is_story F_is_story N_check_house N_check_story (glo 53 "BadStory" rfl) (exm (1, 1) (by decide)), m_is_story, F_is_story.kp, b_is_story⟩
    have N_is_session : Fn PP w K mg base (L2.CX PP w) 8 "is_session" ["house", "value"] (spSession K tb.m tb.s) _ _ := ⟨ok_is_session F_is_session B hall CA_is_session N_is_drawer N1_is_story, m_is_session, F_is_session.kp, b_is_session⟩
    have N_check_life : Fn PP w K mg base (L2.CX PP w) 9 "check_life" ["house", "life"] (spLife K cs.L tb.m tb.s) _ _ := ⟨ok_check_life F_check_life B i_MOST_SESSIONS i_MOST_MOMENTS N_is_session E_BadLife, m_check_life, F_check_life.kp, b_check_life⟩
    have N_moment_count : Fn PP w K mg base CX0 2 "moment_count" ["life"] (spMany K tb.n) _ _ := ⟨ok_many (CX := CX0) F_moment_count B CA_moment_count, m_moment_count, F_moment_count.kp, b_moment_count⟩
    have N_check_coins : Fn PP w K mg base (L2.CX PP w) 3 "check_coins" ["house", "life", "coins"] (spCoins K cs.C tb.n) _ _ := ⟨ok_check_coins F_check_coins B N_moment_count N_is_coin E_BadCoins, m_check_coins, F_check_coins.kp, b_check_coins⟩
    have hW : mg "WAYS" = some (.ref (He.ga K "WAYS")) := (glo 61 "WAYS" rfl)
    have N_check_way : Fn PP w K mg base (L2.CX PP w) 3 "check_way" ["way"] (spWay K cs.B) _ _ := ⟨ok_check_way F_check_way B (hW) (fun H => He.tupB_ok x_WAYS H) E_BadHouse, m_check_way, F_check_way.kp, b_check_way⟩
    have N_check_times : Fn PP w K mg base (L2.CX PP w) 3 "check_times" ["life", "times"] (spTimes K cs.T tb.n) _ _ := ⟨ok_check_times F_check_times B N_moment_count N_is_number E_BadTimes, m_check_times, F_check_times.kp, b_check_times⟩
    let ch : Ch PP w K mg base cs tb := ⟨_, _, N_check_house, _, _, N_check_life, _, _, N_check_story, _, _, N_check_way, _, _, N_check_coins, _, _, N_check_drawer, _, _, N_check_page, _, _, N_check_times⟩
    have N_check_run : Fn PP w K mg base (L2.CX PP w) 10 "check_run" ["house", "way", "life", "coins"] (sp_check_run K cs tb) _ _ := ⟨ok_check_run F_check_run ch, m_check_run, F_check_run.kp, b_check_run⟩
    have N_check_key : Fn PP w K mg base (L2.CX PP w) 10 "check_key" ["house", "life", "drawer"] (sp_check_key K cs tb) _ _ := ⟨ok_check_key F_check_key ch, m_check_key, F_check_key.kp, b_check_key⟩
    have N_check_search : Fn PP w K mg base (L2.CX PP w) 10 "check_search" ["house", "drawer", "moments", "is_often"] (sp_check_search K cs tb) _ _ := ⟨ok_check_search F_check_search ch, m_check_search, F_check_search.kp, b_check_search⟩
    have N_check_waits : Fn PP w K mg base (L2.CX PP w) 10 "check_waits" ["house", "way", "story", "drawer"] (sp_check_waits K cs tb) _ _ := ⟨ok_check_waits F_check_waits ch, m_check_waits, F_check_waits.kp, b_check_waits⟩
    have N_check_viewer : Fn PP w K mg base (L2.CX PP w) 10 "check_viewer" ["house", "way", "life", "drawer", "times"] (sp_check_viewer K cs tb) _ _ := ⟨ok_check_viewer F_check_viewer ch, m_check_viewer, F_check_viewer.kp, b_check_viewer⟩
    let ch2 : Ch2 PP w K mg base cs tb := ⟨ch, _, _, N_check_run, _, _, N_check_key, _, _, N_check_search, _, _, N_check_waits, _, _, N_check_viewer⟩
    have N_coin_count : Fn PP w K mg base (L2.CX PP w) 11 "coin_count" ["house"] (sp_coin_count K cs tb) _ _ := ⟨no_coin_count F_coin_count ch2, m_coin_count, F_coin_count.kp, b_coin_count⟩
    have N_drawn : Fn PP w K mg base (L2.CX PP w) 11 "drawn" ["house", "coin"] (sp_drawn K cs tb) _ _ := ⟨no_drawn F_drawn ch2, m_drawn, F_drawn.kp, b_drawn⟩
    have N_coin_of : Fn PP w K mg base (L2.CX PP w) 11 "coin_of" ["house", "cells"] (sp_coin_of K cs tb) _ _ := ⟨no_coin_of F_coin_of ch2, m_coin_of, F_coin_of.kp, b_coin_of⟩
    have N_is_story : Fn PP w K mg base (L2.CX PP w) 11 "is_story" ["house", "value"] (sp_is_story K cs tb) _ _ := ⟨no_is_story F_is_story ch2, m_is_story, F_is_story.kp, b_is_story⟩
    have N_is_life : Fn PP w K mg base (L2.CX PP w) 11 "is_life" ["house", "value"] (sp_is_life K cs tb) _ _ := ⟨no_is_life F_is_life ch2, m_is_life, F_is_life.kp, b_is_life⟩
    have N_row_count : Fn PP w K mg base (L2.CX PP w) 11 "row_count" ["house", "life"] (sp_row_count K cs tb) _ _ := ⟨no_row_count F_row_count ch2, m_row_count, F_row_count.kp, b_row_count⟩
    have N_written : Fn PP w K mg base (L2.CX PP w) 11 "written" ["house", "life"] (sp_written K cs tb) _ _ := ⟨no_written F_written ch2, m_written, F_written.kp, b_written⟩
    have N_upper : Fn PP w K mg base (L2.CX PP w) 11 "upper" ["house", "life", "drawer"] (sp_upper K cs tb) _ _ := ⟨no_upper F_upper ch2, m_upper, F_upper.kp, b_upper⟩
    have N_lives_on : Fn PP w K mg base (L2.CX PP w) 11 "lives_on" ["house", "copies", "moments"] (sp_lives_on K cs tb) _ _ := ⟨no_lives_on F_lives_on ch2, m_lives_on, F_lives_on.kp, b_lives_on⟩
    have N_alike_above : Fn PP w K mg base (L2.CX PP w) 11 "alike_above" ["house", "one", "other", "drawer"] (sp_alike_above K cs tb) _ _ := ⟨no_alike_above F_alike_above ch2, m_alike_above, F_alike_above.kp, b_alike_above⟩
    have N_safe_ways : Fn PP w K mg base (L2.CX PP w) 11 "safe_ways" ["house", "drawer", "moments", "is_often"] (sp_safe_ways K cs tb) _ _ := ⟨no_safe_ways F_safe_ways ch2, m_safe_ways, F_safe_ways.kp, b_safe_ways⟩
    have N_loss_chance : Fn PP w K mg base (L2.CX PP w) 11 "loss_chance" ["house", "life", "drawer", "page"] (sp_loss_chance K cs tb) _ _ := ⟨no_loss_chance F_loss_chance ch2, m_loss_chance, F_loss_chance.kp, b_loss_chance⟩
    have N_waiting_counts : Fn PP w K mg base (L2.CX PP w) 11 "waiting_counts" ["house", "way", "story", "drawer"] (sp_waiting_counts K cs tb) _ _ := ⟨no_waiting_counts F_waiting_counts ch2, m_waiting_counts, F_waiting_counts.kp, b_waiting_counts⟩
    have N_looks : Fn PP w K mg base (L2.CX PP w) 11 "looks" ["house", "way", "life", "coins", "drawer"] (sp_looks K cs tb) _ _ := ⟨no_looks F_looks ch2, m_looks, F_looks.kp, b_looks⟩
    have N_waiting : Fn PP w K mg base (L2.CX PP w) 11 "waiting" ["house", "way", "life", "coins", "drawer"] (sp_waiting K cs tb) _ _ := ⟨no_waiting F_waiting ch2, m_waiting, F_waiting.kp, b_waiting⟩
    have N_places : Fn PP w K mg base (L2.CX PP w) 11 "places" ["house", "way", "life", "coins", "drawer"] (sp_places K cs tb) _ _ := ⟨no_places F_places ch2, m_places, F_places.kp, b_places⟩
    have N_parting : Fn PP w K mg base (L2.CX PP w) 11 "parting" ["house", "way", "drawer", "moments", "is_often"] (sp_parting K cs tb) _ _ := ⟨no_parting F_parting ch2, m_parting, F_parting.kp, b_parting⟩
    have N_view_count : Fn PP w K mg base (L2.CX PP w) 11 "view_count" ["house", "way", "life", "drawer", "times"] (sp_view_count K cs tb) _ _ := ⟨no_view_count F_view_count ch2, m_view_count, F_view_count.kp, b_view_count⟩
    have N_more_wait : Fn PP w K mg base (L2.CX PP w) 11 "more_wait" ["house", "way", "story", "drawer", "many"] (sp_more_wait K cs tb) _ _ := ⟨no_more_wait F_more_wait ch2, m_more_wait, F_more_wait.kp, b_more_wait⟩
    have N_view : Fn PP w K mg base (L2.CX PP w) 11 "view" ["house", "way", "life", "coins", "drawer", "times"] (sp_view K cs tb) _ _ := ⟨no_view F_view ch2, m_view, F_view.kp, b_view⟩
    have N_read : Fn PP w K mg base (L2.CX PP w) 11 "read" ["house", "way", "life", "coins", "drawer", "page"] (sp_read K cs tb) _ _ := ⟨no_read F_read ch2, m_read, F_read.kp, b_read⟩
    have N_found_later : Fn PP w K mg base (L2.CX PP w) 11 "found_later" ["house", "way", "life", "coins", "drawer", "page"] (sp_found_later K cs tb) _ _ := ⟨no_found_later F_found_later ch2, m_found_later, F_found_later.kp, b_found_later⟩
    have N_is_parted : Fn PP w K mg base (L2.CX PP w) 11 "is_parted" ["house", "way", "life", "coins", "drawer", "is_often"] (sp_is_parted K cs tb) _ _ := ⟨no_is_parted F_is_parted ch2, m_is_parted, F_is_parted.kp, b_is_parted⟩
    have N_best_guess : Fn PP w K mg base (L2.CX PP w) 11 "best_guess" ["house", "way", "one", "other", "drawer", "times"] (sp_best_guess K cs tb) _ _ := ⟨no_best_guess F_best_guess ch2, m_best_guess, F_best_guess.kp, b_best_guess⟩
    have N_least_cells : Fn PP w K mg base (L2.CX PP w) 11 "least_cells" ["house", "story", "drawer", "many", "top", "bottom"] (sp_least_cells K cs tb) _ _ := ⟨no_least_cells F_least_cells ch2, m_least_cells, F_least_cells.kp, b_least_cells⟩
    let al : Al PP w K mg base cs tb := ⟨_, _, N_coin_count, _, _, N_drawn, _, _, N_coin_of, _, _, N_is_story, _, _, N_is_life, _, _, N_row_count, _, _, N_written, _, _, N_upper, _, _, N_lives_on, _, _, N_alike_above, _, _, N_safe_ways, _, _, N_loss_chance, _, _, N_waiting_counts, _, _, N_looks, _, _, N_waiting, _, _, N_places, _, _, N_parting, _, _, N_view_count, _, _, N_more_wait, _, _, N_view, _, _, N_read, _, _, N_found_later, _, _, N_is_parted, _, _, N_best_guess, _, _, N_least_cells⟩
    have WF : WordF K mg cs := ⟨fre 3 _ rfl, (glo 52 "BadHouse" rfl), (glo 53 "BadStory" rfl), (glo 54 "BadLife" rfl), (glo 55 "BadCoins" rfl), (glo 56 "BadDrawer" rfl), (glo 57 "BadPage" rfl), (glo 58 "BadTimes" rfl), (glo 59 "BadNumber" rfl), (glo 60 "DrawerError" rfl), XF_BadHouse, XF_BadStory, XF_BadLife, XF_BadCoins, no_BadHouse, no_BadStory, no_BadLife, no_BadCoins, fun i j h1 h2 => by rw [at_, at_]; exact WX i j h1 h2⟩
    let W : WordD K mg cs := ⟨_, _, F__law_word, m__law_word, b__law_word, WF⟩
    have N__law_taken : Fn PP w K mg base CX0 1 "_law_taken" ["row", "many"] (spTaken K) _ _ := ⟨ok_taken (CX := CX0) F__law_taken B, m__law_taken, F__law_taken.kp, b__law_taken⟩
    have N__law_pick : Fn PP w K mg base CX0 2 "_law_pick" ["row", "things"] (spPick K) _ _ := ⟨ok_pick (CX := CX0) F__law_pick B N__law_taken, m__law_pick, F__law_pick.kp, b__law_pick⟩
    have N__law_houses_refused : Fn PP w K mg base (L2.CX PP w) 14 "_law_houses_refused" ["bad", "word"] (spHr K (He.cT K ("_law_houses_refused", none)).2) _ _ := ⟨ok_hr F__law_houses_refused al W hc__law_houses_refused TL__law_houses_refused (skB_ok x_nb), m__law_houses_refused, F__law_houses_refused.kp, b__law_houses_refused⟩
    have nab : (He.cT K ("law", none)).2 ≠ (He.cT K ("_law_houses_refused", none)).2 := fun e => by
      rw [decide_eq_true e] at x_ab
      cases x_ab
    exact ok_law F_law ⟨B, W, al, skB_ok x_na, skB_ok x_nb, nab, _, _, N__law_pick, _, _, N__law_houses_refused⟩ hc_law TL_law
end
end K10

set_option maxHeartbeats 0
namespace K10
open PySem PySem.Spec PyProof.Rows L2 Hd Evl
abbrev RR : PySem.W.OpenRow := PySem.W.OpenLaw.row PySem.Challenge.rw_hushdrawers_k10_stores_refused
theorem run1 (w : World) : (headRun RR 20000 w).map (fun x => HandSHeadRun.looksF RR.prog x.1.heap x.2.abs) = some true := by
  kernel_rfl
theorem run2 (w : World) : (headRun RR 20000 w).map (fun x => HandSHeadRun.seenQ (PySem.W.view RR.prog [0, 109]) looseL (importedModules RR.prog.main.body) (fun s => PySem.W.xlAt (PySem.W.view RR.prog [0, 109]) [] s && PySem.W.recOk RR.toRowW.records s) x.2.abs) = some (PySem.W.openGood (PySem.W.view RR.prog [0, 109]) looseL) := by
  kernel_rfl
theorem run3 (w : World) : (headRun RR 20000 w).map (fun x => askL.ob x.2) = some (askL.hook.val w) := by
  kernel_rfl
theorem runL (w : World) : HandSHeadRun.RunEqI RR (PySem.W.view RR.prog [0, 109]) askL.hook askL.ob 20000 looseL w := three (run1 w) (run2 w) (run3 w)
end K10
open PySem PySem.W PySem.Calls PyProof.Rows
theorem PySem.Challenge.cw_hushdrawers_k10_stores_refused_holds : PySem.Challenge.rw_hushdrawers_k10_stores_refused.Holds := by
  w_on; o_law
  refine HandSHeadRun.head_imp (r := OpenLaw.row PySem.Challenge.rw_hushdrawers_k10_stores_refused) (q := view (OpenLaw.row PySem.Challenge.rw_hushdrawers_k10_stores_refused).prog [0, 109]) (H := K10.askL.hook) (ob := K10.askL.ob) (M := 20000) (loose := K10.looseL) (d := HandSHeadRun.topDef (OpenLaw.row PySem.Challenge.rw_hushdrawers_k10_stores_refused).prog 109) (kwd := []) K10.askL.ob_eq
    K10.runL (by kernel_rfl) (by kernel_rfl) (by rfl) (by kernel_rfl) (by decide +kernel) (by decide +kernel) ⟨rfl, rfl, rfl, rfl, rfl, by decide +kernel⟩ ?hw ?hc
  case hw => w_witness2
  case hc =>
    refine LamX.walk_ofTsE (l := PySem.Challenge.rw_hushdrawers_k10_stores_refused) (n := 63) (k := 15) (x := "script") (CX := fun w => L2.CX K10.PP w) rfl (by decide) (by kernel_rfl) ⟨rfl, by decide, by decide⟩ ?F (fun w H s e s' z => by obtain ⟨_, _, _, _, _, _, _, _, _, _, _, _, z⟩ := z; exact z)
    intro w mg fa h Y G hmg0
    obtain ⟨K, KX, c⟩ := Y
    have hmg : mg ("law" : PySem.Str) = some (.ref fa) := by
      have e : (HandSHeadRun.topDef (OpenLaw.row PySem.Challenge.rw_hushdrawers_k10_stores_refused).prog 109).name = ("law" : PySem.Str) := by kernel_rfl
      rw [← e]
      exact hmg0
    exact ⟨K, KX, K10.facts KX G hmg c⟩
