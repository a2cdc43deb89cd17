import PyProof.Rows.All
import Wide.All
import OpenK.AllK
import Wide.FinOn
import HandS.ForExc
import HandS.TryMany
import HandS.ForMost
import HandS.Evl
import HandS.Wide
import HandS.IsInst
import HandS.TupAny
import HandS.TupMul
import HandS.ExcInit
import HandS.ExcField
import HandS.Small
import HandS.Lambda
import HandS.Gcd
import HandS.Defaults
import HandS.HeadWalk
import HandS.HeadHook4
import HandS.Head2
import HandS.Style
import KE.KMathGC
import KE.GoesEnum
import HandS.HeadHook1
import HandS.HeadHook2
import HandS.HeadHook3
import HandS.Head0
import HandS.Head1
import HandS.Head3
import HandS.HeadEnd
import PySem.Challenge.RW_hushdrawers_k00_whole_houses
set_option Elab.async false
set_option linter.all false
set_option maxRecDepth 100000
set_option maxHeartbeats 4000000
/-! several except clauses, some with a name -/
namespace Hd
open PySem PySem.Spec PyProof.Rows L2
abbrev ClTS := Addr → Value → Option Addr → TS
/-- behind a clause with a name its slot is bare again -/
def bareAt (i : Nat) (D : Ends) : Ends :=
  ⟨fun z G => D.nx (z.set i none) G, D.rt, fun z G => D.bk (z.set i none) G, fun z G => D.ct (z.set i none) G⟩
def named (i : Nat) (t : ClTS) : ClTS := fun a c d D z G => t a c d (bareAt i D) (z.set i (some (.ref a))) G
inductive Clauses (X : Cx) : List ExceptHandler → List (Value × ClTS) → Prop
  | nil : Clauses X [] []
  | bare {x : Str} {c : Value} {t : ClTS} {b : Stmt} {bs : List Stmt} {q q' : Pos} {hs : List ExceptHandler} {l : List (Value × ClTS)} (hc : Names X x c)
      (hb : ∀ (a : Addr) (oe : Obj) (k : Value) (d : Option Addr) (pn : List (Addr × Obj)), Zc k d oe → (∃ vs, oe.data = .fields vs) → PSs (X.suite a ((a, oe) :: pn)) (b :: bs) (t a k d)) (r : Clauses X hs l) :
      Clauses X (.ExceptHandler (some (.Name x q)) none (b :: bs) q' :: hs) ((c, t) :: l)
  | as_ {x n : Str} {i : Nat} {c : Value} {t : ClTS} {b : Stmt} {bs : List Stmt} {q q' : Pos} {hs : List ExceptHandler} {l : List (Value × ClTS)} (hN : X.N.Nodup) (hi : X.N[i]? = some n) (hn : X.env.kindOf n = some .local) (hc : Names X x c)
      (hb : ∀ (a : Addr) (oe : Obj) (k : Value) (d : Option Addr) (pn : List (Addr × Obj)), Zc k d oe → (∃ vs, oe.data = .fields vs) → PSs (X.suite a ((a, oe) :: pn)) (b :: bs) (t a k d)) (r : Clauses X hs l) :
      Clauses X (.ExceptHandler (some (.Name x q)) (some n) (b :: bs) q' :: hs) ((c, named i t) :: l)
/-- the exception at a has landed in this frame at heap g; J is the state without it -/
structure Landed (X : Cx) (pins : List (Addr × Obj)) (z : L2.St) (G : Hp) (a : Addr) (B : Heap) (cls : Value) (d : Option Addr) (sI s' : Shared) (g : Heap) : Prop where
  own : X.stack = X.env :: X.outer
  frm : X.env.frame = some X.env.locals
  st : Inv X pins z G sI
  ground : ∀ b o, sI.heap.get? b = some o → b ∉ frs X.stack → B.get? b = some o
  ups : sI.heap.UpToSlots g
  out : G a = none
  os : s'.os = sI.os
  gens : AllBare s'.gens
  fly : HandSPX.FlyingZ B (X.env :: X.outer) a (Zc cls d) g
section
variable {X : Cx} {pins : List (Addr × Obj)} {z : L2.St} {G : Hp} {a : Addr} {B g : Heap} {cls : Value} {d : Option Addr} {sI s' : Shared} {D : Ends} {Wout : WX}
theorem Landed.inv (L : Landed X pins z G a B cls d sI s' g) : Inv X pins z G { s' with heap := g } :=
  L.st.landed (s' := { s' with heap := g }) L.ground L.fly.1 L.ups L.os L.gens
theorem Landed.far (L : Landed X pins z G a B cls d sI s' g) : a ≠ X.env.locals ∧ a ∉ X.fs := by
  obtain ⟨oe, vs, e1, _, e3⟩ := L.fly.there
  have no : a ∉ frs (X.env :: X.outer) := fun m => by
    obtain ⟨_, ob, e4, nf⟩ := L.fly.2.2.1.mem m
    have e5 := e1.symm.trans e4
    cases e5
    exact nf vs e3
  constructor
  · intro e
    refine no (List.mem_filterMap.mpr ⟨X.env, List.mem_cons_self, ?_⟩)
    rw [L.frm, e]
  · intro m
    obtain ⟨en, m1, m2⟩ := List.mem_filterMap.mp m
    exact no (List.mem_filterMap.mpr ⟨en, List.mem_cons_of_mem X.env m1, m2⟩)
/-- the suite of a clause is entered with the flight set to none once more -/
theorem Landed.suite (L : Landed X pins z G a B cls d sI s' g) {A : Around} {Q : Unit → Shared → Prop} {E : Value → Shared → Prop}
    (k : ∀ g' oe, Landed X pins z G a B cls d sI s' g' → g'.get? a = some oe → Zc cls d oe → (∃ vs, oe.data = .fields vs) → Inv (X.suite a ((a, oe) :: (X.pn ++ pins))) [] z G { s' with heap := g' } → Q () { s' with heap := g' }) :
    wpAny (model X.prog X.w) A (setFlight (.ref a) none) Q E { s' with heap := g } :=
  HandSPX.lands_againZ L.fly fun g' f u => by
    have L' : Landed X pins z G a B cls d sI s' g' := { L with ups := L.ups.trans u, fly := f }
    obtain ⟨oe, vs, e1, e2, e3⟩ := f.there
    exact k g' oe L' e1 e2 ⟨vs, e3⟩ (L'.inv.suite e1 e3 L.out L.far.1 L.far.2)
/-- no clause took it: it flies on -/
theorem Landed.on (L : Landed X pins z G a B cls d sI s' g) (tk : Takes X Wout) (w : Wout cls d z G) :
    wpAny (model X.prog X.w) X.A (handleBy (.ref a) X.env []) (SP X pins D) X.xe { s' with heap := g } := by
  refine wpAny_handleBy_nil ?_
  obtain ⟨oe, vs, T, oT, ts, e1, _, e3, e4, _⟩ := L.fly.2.2.2
  unfold PySem.passOn
  refine wpAny_bind (wpAny_field e1 e3 e4 ?_)
  rw [if_neg (show ¬ ((Value.ref T == Value.none) = true) by simp)]
  have go : wpAny (model X.prog X.w) X.A (setFlight (.ref a) X.env.frame) (fun _ t => wpAny (model X.prog X.w) X.A (throw (.ref a) : Sem Flow) (SP X pins D) X.xe t) X.xe { s' with heap := g } := by
    rw [L.frm]
    refine HandSPX.setFlight_upZ L.fly fun g' hh u => wpAny_throw (tk _ _ ⟨a, B, sI, pins, z, G, cls, d, rfl, L.st, L.ground, L.ups.trans u, ?_, L.out, L.os, L.gens, w⟩)
    rw [L.own]
    exact Or.inr (Or.inr hh)
  first | exact wpAny_bind (wpAny_pure (wpAny_bind go)) | exact wpAny_bind go
theorem SP.unsuite {q : Addr × Obj} {f : Flow} {s : Shared} (ok : X.Ok) (h : SP (X.suite a (q :: (X.pn ++ pins))) [] D f s) : SP X pins D f s := by
  cases f with
  | ret u => exact let ⟨v, z, G, I, r, w⟩ := h; ⟨v, z, G, I.unsuite ok, r, w⟩
  | _ => exact let ⟨z, G, I, w⟩ := h; ⟨z, G, I.unsuite ok, w⟩
/-- the clauses, one behind another -/
theorem clauses_run (L : Landed X pins z G a B cls d sI s' g) (tk : Takes X Wout) : ∀ {hs : List ExceptHandler} {l : List (Value × ClTS)}, Clauses X hs l → wMany X.K Wout D l cls d z G →
    wpAny (model X.prog X.w) X.A (handleBy (.ref a) X.env hs) (SP X pins D) X.xe { s' with heap := g } := by
  intro hs l hk
  have I3 := L.inv
  obtain ⟨oe3, vs3, e1, e2, e3⟩ := L.fly.there
  have S3 := I3.suite e1 e3 L.out L.far.1 L.far.2
  have ty : PySem.W.Looks (model X.prog X.w) g (typeOf (.ref a)) cls := fun A Q E s k q => wpAny_typeOf_ref (k a oe3 e1) (by rw [e2.1]; exact q)
  have look : ∀ {x : Str} {c : Value} {q : Pos} {Q : Value → Shared → Prop} {E : Value → Shared → Prop}, Names X x c → Q c { s' with heap := g } → wpAny (model X.prog X.w) (X.A.mark (some (.ref a))) (eval (.Name x q) X.env) Q E { s' with heap := g } := by
    intro x c q Q E hc hq
    rcases hc with ⟨n1, n2, n3 | ⟨n3, n4, n5⟩⟩
    · exact ld_glob (X := X.suite a ((a, oe3) :: (X.pn ++ pins))) S3 n1 n3 hq n2
    · exact ld_blt (X := X.suite a ((a, oe3) :: (X.pn ++ pins))) S3 n1 n3 n4 hq n5 n2
  induction hk with
  | nil => exact fun w => L.on tk w
  | bare hc hb r ih =>
    rintro ⟨y, hy, w1, w2⟩
    refine wpAny_handleBy_cons (codeAny_handlers_test (look hc ((PySem.W.exm_one (M := model X.prog X.w) I3.kIn ty hy).here ?_))) (by intro n; cases n)
    cases y with
    | false => exact ih (w2 rfl)
    | true =>
      refine codeAny_handlers_suite (L.suite fun g' oe L' f1 f2 f3 S => ?_)
      exact wpAny_mono ((hb a oe cls d _ f2 f3).run [] _ z G D S (w1 rfl a L.out)) (fun f t h => SP.unsuite I3.ok h) fun _ _ n => n.elim
  | @as_ x n i c t b bs q q' hs2 l2 hN hi hn hc hb r ih =>
    rintro ⟨y, hy, w1, w2⟩
    refine wpAny_handleBy_cons (codeAny_handlers_test (look hc ((PySem.W.exm_one (M := model X.prog X.w) I3.kIn ty hy).here ?_))) (by intro n; cases n)
    cases y with
    | false => exact ih (w2 rfl)
    | true =>
      refine codeAny_handlers_suite_as (L.suite fun g' oe L' f1 f2 f3 S => ?_)
      refine store_ok (X := X.suite a ((a, oe) :: (X.pn ++ pins))) (v := .ref a) S hN hi (.inl hn) rfl (fun s5 S5 => ?_) (.inr hn)
      refine wpAny_mono ((hb a oe cls d _ f2 f3).run [] s5 _ G (bareAt i D) S5 (w1 rfl a L.out)) (fun f t h => ?_) fun _ _ n => n.elim
      have h' := SP.unsuite I3.ok h
      cases f with
      | ret u =>
        obtain ⟨v, z6, G6, J6, r6, q6⟩ := h'
        exact gone_ok J6 hN hi hn fun s7 J7 => ⟨v, _, _, J7, r6, q6⟩
      | next =>
        obtain ⟨z6, G6, J6, q6⟩ := h'
        exact gone_ok J6 hN hi hn fun s7 J7 => ⟨_, _, J7, q6⟩
      | brk =>
        obtain ⟨z6, G6, J6, q6⟩ := h'
        exact gone_ok J6 hN hi hn fun s7 J7 => ⟨_, _, J7, q6⟩
      | cont =>
        obtain ⟨z6, G6, J6, q6⟩ := h'
        exact gone_ok J6 hN hi hn fun s7 J7 => ⟨_, _, J7, q6⟩
end
/-- try: body / except .. (as ..): .. / except ..: .. -/
theorem ps_tries {X : Cx} {body : List Stmt} {c0 : ExceptHandler} {cs : List ExceptHandler} {l : List (Value × ClTS)} {pos : Pos} {tb : WX → TS} {Wout : WX} (own : X.stack = X.env :: X.outer) (frm : X.env.frame = some X.env.locals) (tk : Takes X Wout)
    (hb : ∀ (W : WX) (pn : List (Addr × Obj)) (xe : Value → Shared → Prop), Takes (X.tr pn xe) W → PassesOwn (model X.prog X.w) X.A X.env xe → PSs (X.tr pn xe) body (tb W))
    (hh : Clauses X (c0 :: cs) l) : PS X (.Try body (c0 :: cs) [] [] pos) (fun D z G => tb (wMany X.K Wout D l) D z G) := by
  constructor
  intro pins s z G D I h
  have fr : X.A.frames = some (X.env :: X.outer) := by rw [I.ok.frames, own]
  refine wpAny_Try_except (wpAny_mono ((hb (wMany X.K Wout D l) (X.pn ++ pins) (fun e s1 => wpAny (model X.prog X.w) X.A (noteFrame e X.env) (fun _ s2 => wpAny (model X.prog X.w) X.A (setFlight e none) (fun _ s3 =>
    wpAny (model X.prog X.w) X.A (handleBy e X.env (c0 :: cs)) (SP X pins D) X.xe s3) X.xe s2) X.xe s1) (fun u s' x => ?_) PassesOwn.looking).run [] s z G D (I.toTry _) h) (fun f s1 q => ?_) fun _ _ q => q)
  · obtain ⟨a, B, sI, p', z', G', cls, d, rfl, J, nb, up, sky, na, os, ag, w⟩ := x
    refine Sky.land Zc.steady fr frm (by rw [← own]; exact sky) fun g fl u => ?_
    exact clauses_run (D := D) ⟨own, frm, J.ofTry I.ok, nb, up.trans u, na, os, ag, fl⟩ tk hh w
  · cases f with
    | ret u => exact let ⟨v, z1, G1, J, r, w⟩ := q; ⟨v, z1, G1, J.ofTry I.ok, r, w⟩
    | next => exact let ⟨z1, G1, J, w⟩ := q; wpAny_execs_nil ⟨z1, G1, J.ofTry I.ok, w⟩
    | brk => exact let ⟨z1, G1, J, w⟩ := q; ⟨z1, G1, J.ofTry I.ok, w⟩
    | cont => exact let ⟨z1, G1, J, w⟩ := q; ⟨z1, G1, J.ofTry I.ok, w⟩
end Hd

set_option maxHeartbeats 4000000
namespace Hd
open PySem PySem.Spec PyProof.Rows L2
/-! ### comb -/
def rComb : List V → Hp → VK → Prop := fun xs H Q => ∃ a b : Int, xs = [.int a, .int b] ∧ 0 ≤ a ∧ 0 ≤ b ∧ a ≤ 18000 ∧ Q (.int (PySem.W.mcComb a b)) H
theorem call_comb {X : Cx} : CallR X (.builtin "math.comb") rComb := by
  rintro pins s σ H vs us Q I r ⟨a, b, rfl, h1, h2, h3, q⟩
  obtain ⟨t, u, rfl⟩ := Vals.int2 r
  exact PySem.W.mc_comb h1 h2 (by omega) (.inr h3) fun _ => ⟨.int _, H, I.tok _, ⟨_, rfl⟩, q⟩
/-! ### X() -/
theorem pmk_own0 {X : Cx} {C : Addr} {bmB : List Value} {B newId initId : String} {x : Str} {p pos : Pos} (F : ExcBaseFacts B newId initId bmB) (q : PySem.W.excIn X.K C bmB newId = true) (gC : X.mg x = some (.ref C))
    (kC : PySem.W.keepIn X.K (.ref C) = true) (r : Raises X (.ref C)) (hg : Gl X x) (hdb : (x == ("__debug__" : Str)) = false := by decide) : PMk X (.Call (.Name x p) [] [] pos) (fun _ H Q => Q (.ref C) none H) := by
  intro pins s σ H Q I h
  refine wpAny_Call_Name_kw (ld_glob I hg gC ?_ hdb)
  refine PySem.W.callWith_K0 I.kIn kC ?_
  show wpAny _ _ (call (.ref C) []) _ _ _
  obtain ⟨bm, N, nm, qn, bs, hdct, sn, sub, ab, col, dd, k0, k1, k2, k3, k5, mN, hC, hN, hni, T⟩ := exc_obj I.kIn q
  refine wpAny_call_exc_subT F T hC hN hni (fun h' e hm => ?_) (Nat.zero_le _)
  exact mk_of I hm r h (I.hok.gone hm.new)
/-! ### isinstance by the kinds' names -/
def rIsS (K : PySem.W.Frag) : List V → Hp → VK → Prop := fun xs H Q => ∃ (x : V) (s T : String) (b : Bool), xs = [x, .ty T] ∧ TyX K H x (.type s) ∧ kitB s T = some b ∧ Q (.bl b) H
theorem call_isS {X : Cx} : CallR X (.builtin "isinstance") (rIsS X.K) := by
  rintro pins s σ H vs us Q I r ⟨x, a, T, b, rfl, h1, h2, q⟩
  exact call_isi pins s σ H _ us Q I r ⟨x, .ty T, .type a, .type T, b, rfl, .ty T, h1, kit_ty h2, q⟩
/-! ### a tuple times an int from 1 on -/
theorem tuple_once (l : Addr) (items : Array Value) (n : Nat) (dd : Option Addr) (sl : Array (Option Value)) (u : Tok) :
    Meets (Builtin.«tuple.__mul__» ⟨[.ref l, .int 1 u], []⟩) (fun _ R s => s.heap.get? l = some { cls := .type "tuple", dict := dd, data := .seq items n, slots := sl } ∧ R (.ok (.ret (Value.ref l))) s) :=
  .of_wp fun prog w A R s h => by
    obtain ⟨hp, g, d, tk, os⟩ := s
    obtain ⟨hl, h⟩ := h
    have f1 := AutoSeq1.idx_int
    have c1 : (items.isEmpty || (1 : Int) == 1) = true := by rw [Bool.or_eq_true]; exact .inr rfl
    wp_walk using wpAny_loadPart' hl
    repeat (first
      | (refine wpAny_ite_true (decide_eq_true c1) ?_; wp_walk using wpAny_loadPart' hl)
      | (rw [if_pos c1]; wp_walk using wpAny_loadPart' hl))
    exact ⟨_, rfl, h⟩
section
variable {X : Cx}
/-- t * k, k from 1 on -/
structure TimesP (K : PySem.W.Frag) (x y : V) (H : Hp) (Q : VK) : Prop where
  go : ∃ l k xs, x = .ref l ∧ y = .int k ∧ SqT K H l xs ∧ xs ≠ [] ∧ 1 ≤ k ∧ k ≤ 1000 ∧ xs.length ≤ 1000 ∧
  (k = 1 → Q (.ref l) H) ∧ (2 ≤ k → ∀ p, H p = none → Q (.ref p) (upd H p (.tup (List.replicate k.toNat xs).flatten)))
def rTimes (K : PySem.W.Frag) : R2 := fun x y H Q => TimesP K x y H Q
theorem op_times : OpR X (binaryOp .Mult) (rTimes X.K) := by
  rintro pins s σ H x y v u Q I rx ry ⟨l, k, xs, rfl, rfl, hT, ne, h1, h2, hz, q1, q2⟩
  by_cases hk : 2 ≤ k
  · exact op_repT pins s σ H _ _ v u Q I rx ry ⟨l, k, xs, rfl, rfl, hT, ne, hk, h2, hz, q2 hk⟩
  · have e : k = 1 := by omega
    subst e
    cases rx
    obtain ⟨t, rfl⟩ := ry
    obtain ⟨its, r, ⟨⟨cls, dd, data, sl⟩, ho, hc, n, hd⟩, _⟩ := I.tuple hT
    simp only at hc hd
    subst hc hd
    exact wpAny_binaryOp_repeat_ref (T := "tuple") (U := "int") (by decide) ⟨_, ho, rfl⟩ (fun s' => typeIs_int s' 1 t) noFill_tuple_mul F.fills_int_mul F.slot_int_rmul repeat_tuple F.slot_int_index.lookup
      (call_meets F.slot_int_rmul (typeIs_int s 1 t) F.entry_int_rmul (F.args_int_rmul_2 _ _) (int_rmul_tuple 1 t l its.toArray n dd sl)
        ⟨ho, rfl, ⟨_, ho, rfl⟩, call_meets F.slot_tuple_mul ⟨_, ho, rfl⟩ F.entry_tuple_mul (F.args_tuple_mul_2 _ _) (tuple_once l its.toArray n dd sl t) ⟨ho, ⟨.ref l, H, I, rfl, q1 rfl⟩⟩⟩)
/-! ### t[::-1] -/
theorem back_adjust (n : Nat) : Builtin.Slice.sliceAdjust none none (-1) (n : Int) = ((n : Int) - 1, -1) := rfl
theorem back_places (n : Nat) : Builtin.Slice.slicePlaces ((n : Int) - 1) (-1) (-1) = n := by
  unfold Builtin.Slice.slicePlaces
  rw [if_neg (by decide)]
  by_cases h : 0 < n
  · rw [if_pos (by omega), show (-(-1 : Int)) = 1 by decide, Int.ediv_one]
    omega
  · rw [if_neg (by omega)]
    omega
theorem fm_congr {α β : Type} {f g : α → Option β} : ∀ {l : List α}, (∀ a ∈ l, f a = g a) → l.filterMap f = l.filterMap g
  | [], _ => rfl
  | a :: r, h => by
    rw [List.filterMap_cons, List.filterMap_cons, h a List.mem_cons_self, fm_congr fun b hb => h b (List.mem_cons_of_mem a hb)]
theorem back_pick (xs : Array Value) : ((List.range xs.size).filterMap fun (k : Nat) => xs[(((xs.size : Int) - 1) + (k : Int) * (-1)).toNat]?).toArray = xs.toList.reverse.toArray := by
  have e : ∀ k ∈ List.range xs.size, xs[(((xs.size : Int) - 1) + (k : Int) * (-1)).toNat]? = xs[xs.size - 1 - k]? := fun k hk => by
    have := List.mem_range.mp hk
    congr 1
    omega
  rw [fm_congr e]
  have e2 : (List.range xs.size).filterMap (fun k => xs[xs.size - 1 - k]?) = ((List.range xs.size).map fun k => xs.size - 1 - k).filterMap (xs[·]?) := by rw [List.filterMap_map] <;> rfl
  rw [e2, PySem.W.krv_range, List.filterMap_reverse, PySem.W.krv_all]
section
variable {prog : Program} {w : World} {A : Around} {E : Value → Shared → Prop} {s : Shared}
theorem getItem_back {t sl : Addr} {items : Array Value} {vk : Value} {Q : Value → Shared → Prop} (ht : IsTup s.heap t items) (hs : s.heap.IsSliceOf sl .none .none vk) (pk : IsPart vk (some (-1)))
    (hsz : items.size ≤ sizeLine) (h : Q (.ref s.heap.objs.size) { s with heap := s.heap.push { cls := .type "tuple", data := .seq items.toList.reverse.toArray } }) : wpAny (model prog w) A (getItem (.ref t) (.ref sl)) Q E s := by
  obtain ⟨os, e1, e2, e3⟩ := id hs
  have ty : s.TypeIs (.ref sl) "slice" := ⟨os, e1, e2⟩
  have fits : sizeOk (.seq items.toList.reverse.toArray) := by
    show items.toList.reverse.toArray.size ≤ sizeLine
    simpa using hsz
  unfold getItem
  try with_reducible refine wpAny_holding ?_
  first | refine wpAny_bind (wpAny_pure ?_) | skip
  refine wpAny_bind (wpAny_sequenceKey ht.typeIs (by decide) ?_)
  refine wpAny_bind (wpAny_callSpecial?_slot (name := Str.ofString "__getitem__") ht.typeIs PyProof.Rows.slot_tuple_getitem (wpAny_call_entry PyProof.Rows.slot_tuple_getitem ht.typeIs entry_tuple_getitem ?_ (args_tuple_getitem _ _)))
  show wpAny _ _ (Builtin.Tuple.tupleItemsOf (.ref t) >>= _) _ _ s
  refine wpAny_bind (tupleItemsOf_ ht (wpAny_bind (wpAny_typeOf ty ?_)))
  rw [if_pos (by decide)]
  refine wpAny_bind ?_
  unfold Builtin.Slice.sliceApplied Builtin.Slice.sliceFields
  refine wpAny_bind (wpAny_bind (wpAny_field e1 e3 (x := .none) rfl (wpAny_bind (wpAny_field e1 e3 (x := .none) rfl (wpAny_bind (wpAny_field e1 e3 (x := vk) rfl (wpAny_pure ?_)))))))
  refine wpAny_bind (HT.slicePart_ pk ?_)
  show wpAny _ _ (if ((-1 : Int) == 0) = true then _ else _) _ _ s
  rw [if_neg (by decide)]
  refine wpAny_bind (slicePart_none (wpAny_bind (slicePart_none (wpAny_bind (wpAny_pure ?_)))))
  show wpAny _ _ (pure ((items.size : Int) - 1, (-1 : Int), Builtin.Slice.slicePlaces ((items.size : Int) - 1) (-1) (-1))) _ _ s
  rw [back_places]
  refine wpAny_pure ?_
  have no : ¬ (((items.size : Int) - 1 == 0 && (-1 : Int) == 1 && items.size == items.size) = true) := by
    intro q
    rw [Bool.and_eq_true, Bool.and_eq_true] at q
    exact absurd q.1.2 (by decide)
  show wpAny _ _ (if ((items.size : Int) - 1 == 0 && (-1 : Int) == 1 && items.size == items.size) = true then _ else _) _ _ s
  rw [if_neg no, back_pick]
  first
    | exact wpAny_bind (m := Builtin.Tuple.tupleExact _) (wpAny_newObj_type (wpAny_pure ⟨_, rfl, wpAny_pure h⟩) fits)
    | exact wpAny_bind (m := Builtin.Tuple.tupleExact _) (wpAny_newObj_type (wpAny_bind (wpAny_pure (wpAny_pure ⟨_, rfl, wpAny_pure h⟩))) fits)
    | exact wpAny_bind (wpAny_bind (m := Builtin.Tuple.tupleExact _) (wpAny_newObj_type (wpAny_pure (wpAny_pure ⟨_, rfl, wpAny_pure h⟩)) fits))
    | exact wpAny_bind (wpAny_bind (m := Builtin.Tuple.tupleExact _) (wpAny_newObj_type (wpAny_pure ⟨_, rfl, wpAny_pure h⟩) fits))
end
/-- t[::-1]: a new tuple -/
def tBack (K : PySem.W.Frag) (te : TE) : TE := fun σ H Q => te σ H fun x H1 => ∃ a xs, x = .ref a ∧ SqT K H1 a xs ∧ ∀ p, H1 p = none → Q (.ref p) (upd H1 p (.tup xs.reverse))
theorem pe_back {e : Expr} {te : TE} {k : Nat} {p1 p2 p3 pos : Pos} (he : PE X e te) : PE X (.Subscript e (.Slice none none (some (.UnaryOp .USub (.Constant (.int 1) k p1) p2)) p3) pos) (tBack X.K te) := by
  constructor
  intro pins s σ H Q I h
  have st : PO X (some (.UnaryOp .USub (.Constant (.int 1) k p1) p2)) (tPart (tUn (rU fun i => .int (-i)) (tC (.int 1)))) := po_some (pe_un un_neg pe_int)
  refine Subscript_ (thn (he.run pins s σ H _ I h) ?_)
  rintro v s1 ⟨x, H1, I1, r1, a, xs, rfl, hx, q⟩
  cases r1
  refine wpAny_Slice ?_
  rw [evalPart_none]
  refine wpAny_pure (wpAny_pure (thn (st.run pins s1 σ H1 (fun o G => o = some (-1) ∧ G = H1) I1 ⟨1, rfl, -1, rfl, rfl, rfl⟩) ?_))
  rintro vs s4 ⟨o, H4, I4, ps, rfl, rfl⟩
  have I5 : Inv X pins σ H4 { s4 with heap := s4.heap.push { cls := .type "slice", data := .fields #[.none, .none, vs] } } := I4.kept (t' := s4.toks) fun b ob z => Heap.get?_push_of_some _ z
  obtain ⟨its, r, ht, hz⟩ := I5.tuple hx
  have hlen := r.length
  show wpAny (model X.prog X.w) X.A (subscriptTail e (.Slice none none (some (.UnaryOp .USub (.Constant (.int 1) k p1) p2)) p3) (.ref a) (.ref s4.heap.objs.size)) (EP X pins σ Q) X.xe _
  refine tail_any (ops := [.ref a, .ref s4.heap.objs.size]) ht.typeIs PyProof.Rows.slot_tuple_getitem.lookup ?_ (by with_unfolding_all rfl)
  refine getItem_back ht (Heap.IsSliceOf.new _ .none .none vs) ps (by rw [List.size_toArray]; omega) ?_
  refine ⟨.ref _, _, I5.laid (t' := s4.toks) (o := .tup xs.reverse) (fun b ob z => Heap.get?_push_of_some _ z) (Nat.le_refl _) ?_, rfl, q _ (I5.hok.fresh (Nat.le_refl _))⟩
  exact ⟨by rw [List.length_reverse]; exact hz, _, r.reverse, IsTup.new _ _⟩
end
/-- a built-in class by its name -/
theorem pe_ty {X : Cx} (T : String) {x : Str} {pos : Pos} (hg : Gl X x) (hm : X.mg x = none) (hv : bootBuiltins x = some (.type T)) (hn : x ≠ "__name__" := by decide) (hd : (x == ("__debug__" : Str)) = false := by decide) : PE X (.Name x pos) (tC (.ty T)) := pe_bltn hg hm hv rfl hn hd
end Hd

set_option maxHeartbeats 4000000
/-! own error classes: with one field that their __init__ stores; without an __init__ -/
namespace Hd
open PySem PySem.Spec PyProof.Rows L2 Evl
/-- __init__ of such a class: self.fld = x -/
def spInit (C : Addr) (fld : Str) : Sp := fun vs H Q _ => ∃ a x, vs = [.ref a, x] ∧ H a = some (exo a C none) ∧ ∀ dx, H dx = none → dx ≠ a → Q .non (upd (upd H dx (exd dx [(fld, x)])) a (exo a C (some dx)))
structure ErrF (P : Program) (w : World) (K : PySem.W.Frag) (mg : Str → Option Value) (base : Heap) (x fld : Str) (C : Addr) : Prop where
  T : OexC K C
  F : XfC K C
  no : PySem.W.findIn K (.ref C) fld = some none
  m : mg x = some (.ref C)
  ini : ∃ (fI : Addr) (fd : FuncData), PySem.W.findIn K (.ref C) "__init__" = some (some (.ref fI)) ∧ PySem.W.typeIn K (.ref fI) = some (.type "function") ∧ FnOk P w K mg base CX0 1 fI fd ["self", fld] (spInit C fld) ∧ Binds K fd ["self", fld] []
structure ErrP (K : PySem.W.Frag) (mg : Str → Option Value) (x : Str) (C : Addr) : Prop where
  ex : PySem.W.excIn K C [.type "ValueError", .type "Exception", .type "BaseException", .type "object"] "ValueError.__new__" = true
  kC : PySem.W.keepIn K (.ref C) = true
  exC : PySem.W.subIn K (.ref C) (.type "BaseException") = some true
  tyC : PySem.W.typeIn K (.ref C) = some (.type "type")
  m : mg x = some (.ref C)
section
variable {X : Cx} {C : Addr} {x fld : Str} {W : WX}
def tRaiseF (C : Addr) (fld : Str) (W : WX) (ta : TA) : TS := fun _ σ H => ta σ H fun vs H1 => ∃ x, vs = [x] ∧ ∀ d H2, Ex H1 H2 → H1 d = none → H2 d = some (.xd [(fld, x)]) → W (.ref C) (some d) σ H2
/-- the same arguments, told by a stronger wish -/
def tByA (ta : TA) : TA := fun σ H Q => ∃ Q0, ta σ H Q0 ∧ ∀ vs H1, Q0 vs H1 → Q vs H1
theorem pa_by {es : List Expr} {ta : TA} (h : PA X es ta) : PA X es (tByA ta) := by
  refine ⟨fun pos pins s σ H Q I hq => ?_⟩
  obtain ⟨Q0, h0, h1⟩ := hq
  exact thn (h.run pos pins s σ H Q0 I h0) fun us s1 ⟨vs, H1, I1, r, q⟩ => ⟨vs, H1, I1, r, h1 vs H1 q⟩
/-- raise X(e) -/
theorem ps_raiseF {e : Expr} {ta : TA} {p pos pos2 : Pos} (Er : ErrF X.prog X.w X.K X.mg X.base x fld C) (hc : X.calm = true) (hr : Room 2 X.A) (tk : Takes X W) (hg : Gl X x) (ha : PA X [e] ta) (hdb : (x == ("__debug__" : Str)) = false := by decide)
    (he : starEach (e :: []) X.env = (false, eval e X.env) :: starEach [] X.env := by rfl) (hpl : (backTo pos (starEach [] X.env)).any (·.1) = false := by rfl) :
    PS X (.Raise (some (.Call (.Name x p) [e] [] pos)) none pos2) (tRaiseF C fld W ta) := by
  obtain ⟨fI, fd, h1, h2, h3, h4⟩ := Er.ini
  have mk : PMk X (.Call (.Name x p) [e] [] pos) _ := pmk_oex (dvs := []) (ds := []) Er.T h1 h2 h3 hr h4 .nil pass0 hg Er.m (pa_by ha) hdb he hpl
  have go := ps_raise (pos := pos2) hc tk mk
  refine ⟨fun pins s σ H D I h => go.run pins s σ H D I ⟨_, h, ?_⟩⟩
  rintro vs H1 ⟨y, rfl, q⟩
  refine ⟨by simp, fun a na => ⟨a, y, rfl, upd_same, fun dx nd ne => ⟨rfl, dx, [(fld, y)], upd_same, ?_, ?_, q dx _ (fun b o hb => ?_) ?_ upd_same⟩⟩⟩
  · rw [upd_ne ne, upd_same]
  · rw [upd_ne ne] at nd
    exact nd
  · have n1 : b ≠ a := ne_of_none hb na
    have n2 : b ≠ dx := fun z => by
      rw [z, ← upd_ne (H := H1) (o := exo a C none) ne, nd] at hb
      cases hb
    rw [upd_ne n2, del_ne n1, upd_ne n1, upd_ne n2, upd_ne n1]
    exact hb
  · rw [upd_ne ne] at nd
    exact nd
/-- raise X() -/
theorem ps_raiseP {p pos pos2 : Pos} (Er : ErrP X.K X.mg x C) (hc : X.calm = true) (tk : Takes X W) (hg : Gl X x) (hdb : (x == ("__debug__" : Str)) = false := by decide) :
    PS X (.Raise (some (.Call (.Name x p) [] [] pos)) none pos2) (fun _ σ H => W (.ref C) none σ H) :=
  ps_raise hc tk (pmk_own0 PySem.F.excBase_ValueError Er.ex Er.m Er.kC (raises_own Er.exC Er.tyC) hg hdb)
end
end Hd

set_option maxHeartbeats 4000000
/-! for i, x in enumerate(t), t a tuple -/
namespace Hd
open PySem PySem.Spec PyProof.Rows L2
theorem meets_enum1 {v : Value} {o : Obj} {Z : Heap → Prop} (B : Begins v o Z) :
    Meets (Builtin.«enumerate.__new__» ⟨[.type "enumerate", v], []⟩) (fun _ R s => Z s.heap ∧
      R (.ok (.ret (.ref (s.heap.push o).objs.size))) { s with heap := (s.heap.push o).push { cls := .type "enumerate", data := .fields #[.none, .bool false, .ref s.heap.objs.size, rawInt 0, .none, .none] } }) :=
  .of_wp fun prog w A R s h => by
    obtain ⟨hp, g, d, tk, os⟩ := s
    obtain ⟨z, q⟩ := h
    have hsub := sub_enumerate
    have it1 : ∀ {A' : Around} {E : Value → Shared → Prop} {Q : Value → Shared → Prop}, Q (.ref hp.objs.size) ⟨hp.push o, g, d, tk, os⟩ → wpAny (model prog w) A' (pyIter v) Q E ⟨hp, g, d, tk, os⟩ :=
      fun k => B.iter prog w _ _ ⟨hp, g, d, tk, os⟩ _ z k
    wp_walk using it1
    refine wpAny_stack_any fun st => wpAny_pure ?_
    split
    · rename_i c _ _ _ _ _
      cases (c == Value.type "enumerate") <;> (wp_walk using it1; exact ⟨_, rfl, q⟩)
    · wp_walk using it1
      exact ⟨_, rfl, q⟩
section
variable {prog : Program} {w : World} {A : Around} {E : Value → Shared → Prop} {s : Shared}
theorem enum_of {v : Value} {o : Obj} {Z : Heap → Prop} {Q : Value → Shared → Prop} (B : Begins v o Z) (z : Z s.heap)
    (k : ∀ g, IsEnum g (s.heap.objs.size + 1) s.heap.objs.size 0 .none → g.get? s.heap.objs.size = some o → (∀ b u, s.heap.get? b = some u → g.get? b = some u) → Q (.ref (s.heap.objs.size + 1)) { s with heap := g }) :
    wpAny (model prog w) A (call (.type "enumerate") [v]) Q E s := by
  refine callType_new F.called_enumerate (by decide) (F.typeCall_enumerate_1 _) (F.newCall_enumerate_1 _) (fun obj => F.args_object_init_2 obj _) F.entry_enumerate_new (meets_enum1 B) ⟨z, ?_⟩
  have sz : (s.heap.push o).objs.size = s.heap.objs.size + 1 := Heap.size_push ..
  have at1 := Heap.get?_push_size (s.heap.push o) (o := { cls := .type "enumerate", data := .fields #[.none, .bool false, .ref s.heap.objs.size, rawInt 0, .none, .none] }) rfl
  rw [sz] at at1
  show _ ∧ _
  rw [sz]
  exact ⟨⟨_, at1, rfl⟩, k _ at1 (Heap.get?_push_of_some _ (Heap.get?_push_size _ B.free)) fun b u e => Heap.get?_push_of_some _ (Heap.get?_push_of_some _ e)⟩
end
/-- the tuple at a as it stands, each item in a new pair -/
def Itu (K : PySem.W.Frag) (a : Addr) : It :=
  ⟨fun i H => ∃ (xs : List V) (x : V), SqT K H a xs ∧ xs[i]? = some x, fun i H v G => ∃ T x, v = .ref T ∧ H T = none ∧ G = upd H T (.tup [.int (i : Nat), x]) ∧ ∀ xs, SqT K H a xs → xs[i]? = some x, fun i H => ∃ xs : List V, SqT K H a xs ∧ xs.length ≤ i⟩
theorem turn_enumT {P : Program} {w : World} {K : PySem.W.Frag} {elts : List Expr} {kk : Nat} {tpos : Pos} (a e it : Addr) :
    Turn P w K (.Tuple elts kk tpos) (Itu K a) [e, it] e (fun i h => (∃ old, IsEnum h e it ((i : Nat) : Int) old) ∧ h.IsTupleIter it a i ∧ e ≠ it) where
  mem := by simp
  obj := fun i h st b hb => by
    obtain ⟨⟨old, he⟩, ⟨o, ho, hc, hd⟩, _⟩ := st
    rcases List.mem_cons.mp hb with z | z
    · rw [z]; exact ⟨_, he, fun v q => nomatch q⟩
    · have z' : b = it := by simpa using z
      exact ⟨o, by rw [z']; exact ho, fun v q => by rw [hd] at q; cases q⟩
  keep := fun i h h' st k => ⟨let ⟨old, he⟩ := st.1; ⟨old, k e (by simp) _ he⟩, st.2.1.at fun o q => k it (by simp) o q, st.2.2⟩
  item := by
    intro X hP hw hK hc i pins s σ H E I hf st hg
    subst hP hw hK
    obtain ⟨⟨old, he⟩, hit, hne⟩ := st
    obtain ⟨xs, x, hq, hx⟩ := hg
    obtain ⟨its, rv, p, hz⟩ := I.tuple hq
    obtain ⟨u, hu, ru⟩ := rv.get hx
    have hel : e < s.heap.objs.size := Heap.lt_size he
    have hil : it < s.heap.objs.size := by obtain ⟨_, q, _⟩ := hit; exact Heap.lt_size q
    have hlt : i < its.toArray.size := by simpa using (List.getElem?_eq_some_iff.mp hu).1
    have ta : s.heap.IsTuple a its.toArray := p
    have hai : a ≠ it := fun z => by
      obtain ⟨o1, e1, e2, _⟩ := ta
      obtain ⟨o2, e3, e4, _⟩ := hit
      rw [z, e3] at e1
      cases e1
      rw [e4] at e2
      exact absurd (Value.type.inj e2) (by decide)
    have hae : e ≠ a := fun z => by
      obtain ⟨o1, e1, e2, _⟩ := ta
      rw [← z] at e1
      have e3 : s.heap.get? e = some _ := he
      rw [e3] at e1
      cases e1
      exact absurd (Value.type.inj e2) (by decide)
    refine wpAny_pyNext_enum_itemD (Draws.tuple (A := X.A.in1) (I.ok.hd hc) it a hai its.toArray) he ⟨hit, ta⟩ hlt hne (by simp; exact ⟨hne, hae⟩) fun y h' tk hy ho st' hT hsz hk => ?_
    have ey : y = u := by
      have h1 : its.toArray[i]? = some y := hy
      rw [List.getElem?_toArray, hu] at h1
      exact (Option.some.inj h1).symm
    subst ey
    refine ⟨_, rfl, wpAny_letOwnedTupleGo_enum (s := { s with heap := h', toks := tk + 1 }) ho fun h2 he2 sb => ?_⟩
    have hT2 : h2.get? s.heap.objs.size = some { cls := .type "tuple", data := .seq #[.int i tk, y] } := (sb.2 _ (Nat.ne_of_gt hel)).trans hT
    have new : ObjOk X.prog X.w (upd H s.heap.objs.size (.tup [.int (i : Nat), x])) h2 s.heap.objs.size (.tup [.int (i : Nat), x]) :=
      ⟨by show 2 ≤ sizeLine; decide, [.int i tk, y], .cons ⟨_, rfl⟩ (.cons ru .nil), ⟨_, hT2, rfl, _, rfl⟩⟩
    have off : ∀ {b}, b ∉ [e, it] → b ≠ e ∧ b ≠ it := fun hb => ⟨fun z => hb (by simp [z]), fun z => hb (by simp [z])⟩
    have J : Inv X pins σ (upd H s.heap.objs.size (.tup [.int (i : Nat), x])) { s with heap := h2, toks := tk + 1 } :=
      I.turnedNew (ch := [e, it]) (fun b ob hb q => (sb.2 b (off hb).1).trans (hk b ob (off hb).1 (off hb).2 q)) hf (Nat.le_refl _) new
    refine ⟨.ref s.heap.objs.size, _, J, rfl, ⟨_, x, rfl, I.hok.fresh (Nat.le_refl _), rfl, fun ys hy => by rw [I.tuple_inj hy hq]; exact hx⟩, ⟨⟨y, ?_⟩, st'.1.at fun o q => (sb.2 it (Ne.symm hne)).trans q, hne⟩, fun b hb => ?_⟩
    · rw [show ((i + 1 : Nat) : Int) = (i : Int) + 1 by omega]
      exact he2
    · have hb' : b < s.heap.objs.size := by
        rcases List.mem_cons.mp hb with z | z
        · rw [z]; exact hel
        · rw [show b = it by simpa using z]; exact hil
      rw [upd_ne (Nat.ne_of_lt hb')]
      exact (hf b hb).1
  done := by
    intro X hP hw hK hc i pins s σ H E I hf st hg
    subst hP hw hK
    obtain ⟨⟨old, he⟩, hit, hne⟩ := st
    obtain ⟨xs, hq, hx⟩ := hg
    obtain ⟨its, rv, p, hz⟩ := I.tuple hq
    obtain ⟨f0, f1, f2, f3, f4, f5⟩ := hf it (by simp)
    have hT : s.TypeIs (.ref e) "enumerate" := ⟨_, he, rfl⟩
    have hl := rv.length
    have ta : s.heap.IsTuple a its.toArray := p
    unfold pyNext
    refine wpAny_bind (wpAny_attempt (wpAny_callSpecial?_slot (name := Str.ofString "__next__") hT F.slot_enumerate_next (wpAny_call_entry F.slot_enumerate_next hT F.entry_enumerate_next ?_ (F.args_enumerate_next_1 _))))
    show wpAny _ _ (field (.ref e) 2 >>= _) _ _ _
    refine wpAny_bind (wpAny_field he rfl (x := .ref it) rfl (wpAny_bind (wpAny_nextOf_tuple_end (I.ok.hd hc) hit ta (by simp; omega) fun h' x eb hx' => ?_)))
    obtain ⟨o, ho, hc'⟩ := hx'
    refine wpAny_bind (wpAny_isInstance (T := "StopIteration") (b := true) ⟨o, ho, hc'⟩ isSubtype_stop ?_)
    exact wpAny_pure ⟨rfl, I.turned (t' := s.toks) (fun b o hb q => eb b o hb q) f0 f1 f3 f4 f5⟩
  self := fun A i s Q E st h => let ⟨⟨_, he⟩, _⟩ := st; wpAny_pyIter_enum he h
def iEnumT (K : PySem.W.Frag) (ta : TA) : TI := fun σ H R => ta σ H fun vs H1 => ∃ a xs, vs = [.ref a] ∧ SqT K H1 a xs ∧ R (Itu K a) H1
theorem pi_enumT {X : Cx} {e : Expr} {ta : TA} {p pos tpos : Pos} {elts : List Expr} {kk : Nat} (hg : Gl X "enumerate") (hm : X.mg "enumerate" = none) (ha : PA X [e] ta) (hs : starEach [e] X.env = [(false, eval e X.env)] := by rfl) :
    PI X (.Tuple elts kk tpos) (.Call (.Name "enumerate" p) [e] [] pos) (iEnumT X.K ta) := by
  constructor
  intro pins s σ H R I h
  refine Call_ (ld_blt I hg hm boot_enumerate (PyProof.Rows.callWith_type1 (thn (ha.run pos pins s σ H _ I h) ?_) hs rfl))
  rintro us s1 ⟨vs, H1, I1, r1, a, xs, rfl, hq, q⟩
  cases r1 with
  | cons r rr =>
    cases rr
    cases r
    obtain ⟨its, rv, p', hz⟩ := I1.tuple hq
    refine enum_of (begins_tuple a its.toArray) p' fun g he hit hk => wpAny_pyIter_enum he ?_
    have J : Inv X pins σ H1 { s1 with heap := g } := I1.kept (t' := s1.toks) hk
    refine ⟨s1.heap.objs.size + 1, [s1.heap.objs.size + 1, s1.heap.objs.size], _, _, H1, rfl, J, turn_enumT a (s1.heap.objs.size + 1) s1.heap.objs.size, ⟨⟨.none, he⟩, ⟨_, hit, rfl, rfl⟩, Nat.succ_ne_self _⟩, fun b hb => ?_, q⟩
    have hle : s1.heap.objs.size ≤ b := by
      rcases List.mem_cons.mp hb with z | z
      · rw [z]
        exact Nat.le_add_right _ _
      · have z' : b = s1.heap.objs.size := by simpa using z
        rw [z']
        exact Nat.le_refl _
    exact I1.fpOk hle (I1.hok.fresh hle)
theorem for_enumT {K : PySem.W.Frag} {a : Addr} {xs : List V} {g : TG} {tb : TS} {D : Ends} {σ : L2.St} {H : Hp} (Pv : Nat → L2.St → Hp → Prop) (h0 : Pv 0 σ H) (hl : ∀ i σ H, i ≤ xs.length → Pv i σ H → SqT K H a xs)
    (hs : ∀ i x σ H T, xs[i]? = some x → Pv i σ H → H T = none → g (.ref T) σ (upd H T (.tup [.int (i : Nat), x])) fun σ2 H2 => tb { D with nx := Pv (i + 1), ct := Pv (i + 1), bk := D.nx } σ2 H2) (hd : ∀ σ H, Pv xs.length σ H → D.nx σ H) :
    ∃ W : Nat → Nat → L2.St → Hp → Prop, (∃ m, W 0 m σ H) ∧ ∀ i m σ H, W i m σ H →
      ((Itu K a).stop i H ∧ D.nx σ H) ∨ ((Itu K a).go i H ∧ ∃ N : L2.St → Hp → Prop, (∀ σ' H', N σ' H' → ∃ m', m' < m ∧ W (i + 1) m' σ' H') ∧ ∀ x H', (Itu K a).yld i H x H' → g x σ H' fun σ2 H2 => tb { D with nx := N, ct := N, bk := D.nx } σ2 H2) := by
  refine ⟨fun i m σ H => m + i = xs.length ∧ Pv i σ H, ⟨xs.length, rfl, h0⟩, fun i m σ G w => ?_⟩
  obtain ⟨em, p⟩ := w
  have q := hl i σ G (by omega) p
  by_cases lt : i < xs.length
  · refine .inr ⟨⟨xs, xs[i], q, List.getElem?_eq_getElem lt⟩, Pv (i + 1), fun σ' G' p' => ⟨m - 1, by omega, by omega, p'⟩, ?_⟩
    rintro _ _ ⟨T, y, rfl, nT, rfl, at_⟩
    exact hs i y σ G T (at_ xs q) p nT
  · have e : i = xs.length := by omega
    subst e
    exact .inl ⟨⟨xs, q, Nat.le_refl _⟩, hd σ G p⟩
/-- a def as the callers use it -/
structure Fn (P : Program) (w : World) (K : PySem.W.Frag) (mg : Str → Option Value) (base : Heap) (CX : CXT) (k : Nat) (x : Str) (ps : List Str) (sp : Sp) (f : Addr) (fd : FuncData) : Prop where
  G : FnOk P w K mg base CX k f fd ps sp
  m : mg x = some (.ref f)
  k : PySem.W.keepIn K (.ref f) = true
  b : Binds K fd ps []
/-- what is let out by a def that is called, let out by this one too -/
theorem passX {X : Cx} {E : XK} (own : X.stack = X.env :: X.outer) (frm : X.env.frame = some X.env.locals) (hex : X.ex = []) {E₁ : Value → Shared → Prop}
    (hx : X.xe = fun e s' => wpAny (model X.prog X.w) X.A (leaving X.env e) (fun _ s'' => L2.CX X.prog X.w X.outer X.H_0 X.s_0 E e s'') E₁ s') : Passes (L2.CX X.prog X.w) X E :=
  passes_call (takes_of own frm hex hx) fun _ _ _ _ h => h
end Hd

set_option maxHeartbeats 4000000
/-! sets of cells, their numbers -/
namespace Hd
/-- how many sets of k there are of m -/
def nck : Nat → Nat → Nat
  | _, 0 => 1
  | 0, _ + 1 => 0
  | m + 1, k + 1 => nck m k + nck m (k + 1)
/-- the sets of k of the cells c, .., c + m - 1, ascending -/
def setsN : Nat → Nat → Nat → List (List Nat)
  | _, 0, _ => [[]]
  | 0, _ + 1, _ => []
  | m + 1, k + 1, c => (setsN m k (c + 1)).map (c :: ·) ++ setsN m (k + 1) (c + 1)
theorem setsN_len : ∀ m k c, (setsN m k c).length = nck m k
  | 0, 0, _ => rfl
  | _ + 1, 0, _ => rfl
  | 0, _ + 1, _ => rfl
  | m + 1, k + 1, c => by
    show ((setsN m k (c + 1)).map (c :: ·) ++ setsN m (k + 1) (c + 1)).length = nck m k + nck m (k + 1)
    rw [List.length_append, List.length_map, setsN_len m k, setsN_len m (k + 1)]
/-- the set that a number draws -/
def drawN : Nat → Nat → Nat → Nat → List Nat
  | _, 0, _, _ => []
  | 0, _ + 1, _, _ => []
  | m + 1, k + 1, a, c => if a < nck m k then c :: drawN m k a (c + 1) else drawN m (k + 1) (a - nck m k) (c + 1)
theorem drawN_at : ∀ m k a c, a < nck m k → (setsN m k c)[a]? = some (drawN m k a c)
  | 0, 0, a, c, h => by
    have e : a = 0 := by simp [nck] at h; omega
    rw [e] <;> rfl
  | m + 1, 0, a, c, h => by
    have e : a = 0 := by simp [nck] at h; omega
    rw [e] <;> rfl
  | 0, _ + 1, a, c, h => by simp [nck] at h
  | m + 1, k + 1, a, c, h => by
    have h' : a < nck m k + nck m (k + 1) := h
    show ((setsN m k (c + 1)).map (c :: ·) ++ setsN m (k + 1) (c + 1))[a]? = some (if a < nck m k then c :: drawN m k a (c + 1) else drawN m (k + 1) (a - nck m k) (c + 1))
    by_cases ha : a < nck m k
    · rw [if_pos ha, List.getElem?_append_left (by rw [List.length_map, setsN_len]; exact ha), List.getElem?_map, drawN_at m k a (c + 1) ha] <;> rfl
    · rw [if_neg ha, List.getElem?_append_right (by rw [List.length_map, setsN_len]; omega), List.length_map, setsN_len]
      exact drawN_at m (k + 1) (a - nck m k) (c + 1) (by omega)
theorem drawN_len : ∀ m k a c, a < nck m k → (drawN m k a c).length = k
  | m, 0, a, c, _ => by cases m <;> rfl
  | 0, _ + 1, a, c, h => by simp [nck] at h
  | m + 1, k + 1, a, c, h => by
    have h' : a < nck m k + nck m (k + 1) := h
    show (if a < nck m k then c :: drawN m k a (c + 1) else drawN m (k + 1) (a - nck m k) (c + 1)).length = k + 1
    by_cases ha : a < nck m k
    · rw [if_pos ha, List.length_cons, drawN_len m k a (c + 1) ha]
    · rw [if_neg ha, drawN_len m (k + 1) (a - nck m k) (c + 1) (by omega)]
theorem nck_zero (m : Nat) : nck m 0 = 1 := by cases m <;> rfl
theorem nck_pos : ∀ {m k}, k ≤ m → 0 < nck m k
  | m, 0, _ => by rw [nck_zero]; exact Nat.one_pos
  | 0, k + 1, h => by omega
  | m + 1, k + 1, h => by
    have := nck_pos (m := m) (k := k) (by omega)
    show 0 < nck m k + nck m (k + 1)
    omega
theorem nck_out : ∀ {m k}, m < k → nck m k = 0
  | m, 0, h => by omega
  | 0, k + 1, _ => rfl
  | m + 1, k + 1, h => by
    show nck m k + nck m (k + 1) = 0
    rw [nck_out (show m < k by omega), nck_out (show m < k + 1 by omega)]
theorem comb_small : ∀ n k : Fin 13, PySem.W.mcComb ((n : Nat) : Int) ((k : Nat) : Int) = ((nck n k : Nat) : Int) := by decide +kernel
theorem comb_bin {n k : Nat} (hn : n ≤ 12) (hk : k ≤ 12) : PySem.W.mcComb (n : Int) (k : Int) = (nck n k : Nat) := comb_small ⟨n, by omega⟩ ⟨k, by omega⟩
/-- ascending from c on, below c + m -/
def asc : Nat → Nat → List Nat → Bool
  | _, _, [] => true
  | c, t, x :: r => decide (c ≤ x) && (decide (x < t) && asc (x + 1) t r)
theorem setsN_asc : ∀ m k c l, l ∈ setsN m k c → l.length = k ∧ asc c (c + m) l = true
  | 0, 0, c, l, h => by
    have e : l = [] := by simpa [setsN] using h
    rw [e] <;> exact ⟨rfl, rfl⟩
  | m + 1, 0, c, l, h => by
    have e : l = [] := by simpa [setsN] using h
    rw [e] <;> exact ⟨rfl, rfl⟩
  | 0, _ + 1, c, l, h => by simp [setsN] at h
  | m + 1, k + 1, c, l, h => by
    have h' : l ∈ (setsN m k (c + 1)).map (c :: ·) ++ setsN m (k + 1) (c + 1) := h
    rcases List.mem_append.mp h' with h1 | h1
    · obtain ⟨r, hr, e⟩ := List.mem_map.mp h1
      subst e
      obtain ⟨l1, a1⟩ := setsN_asc m k (c + 1) r hr
      refine ⟨by simp [l1], ?_⟩
      show (decide (c ≤ c) && (decide (c < c + (m + 1)) && asc (c + 1) (c + (m + 1)) r)) = true
      rw [decide_eq_true (Nat.le_refl c), decide_eq_true (show c < c + (m + 1) by omega), show c + (m + 1) = c + 1 + m by omega, a1] <;> rfl
    · obtain ⟨l1, a1⟩ := setsN_asc m (k + 1) (c + 1) l h1
      refine ⟨l1, ?_⟩
      cases l with
      | nil => rfl
      | cons x r =>
        have a2 : (decide (c + 1 ≤ x) && (decide (x < c + 1 + m) && asc (x + 1) (c + 1 + m) r)) = true := a1
        rw [Bool.and_eq_true, Bool.and_eq_true] at a2
        have h1 := of_decide_eq_true a2.1
        show (decide (c ≤ x) && (decide (x < c + (m + 1)) && asc (x + 1) (c + (m + 1)) r)) = true
        rw [show c + (m + 1) = c + 1 + m by omega, decide_eq_true (show c ≤ x by omega), a2.2.1, a2.2.2] <;> rfl
/-- the number of the sets ahead: those that go on with lesser cells, from c up to x, k more behind each; t the cells -/
def ahead (t k : Nat) : Nat → Nat → Nat
  | _, 0 => 0
  | c, n + 1 => nck (t - c - 1) k + ahead t k (c + 1) n
/-- the number that draws a set: from c on -/
def coinN (t : Nat) : Nat → List Nat → Nat
  | _, [] => 0
  | c, x :: r => ahead t r.length c (x - c) + coinN t (x + 1) r
theorem coinN_at : ∀ m k a c, a < nck m k → coinN (c + m) c (drawN m k a c) = a
  | 0, 0, a, c, h => by
    have e : a = 0 := by simp [nck] at h; omega
    rw [e] <;> rfl
  | m + 1, 0, a, c, h => by
    have e : a = 0 := by simp [nck] at h; omega
    rw [e] <;> rfl
  | 0, _ + 1, a, c, h => by simp [nck] at h
  | m + 1, k + 1, a, c, h => by
    have h' : a < nck m k + nck m (k + 1) := h
    show coinN (c + (m + 1)) c (if a < nck m k then c :: drawN m k a (c + 1) else drawN m (k + 1) (a - nck m k) (c + 1)) = a
    by_cases ha : a < nck m k
    · rw [if_pos ha]
      show ahead (c + (m + 1)) (drawN m k a (c + 1)).length c (c - c) + coinN (c + (m + 1)) (c + 1) (drawN m k a (c + 1)) = a
      rw [Nat.sub_self, show c + (m + 1) = c + 1 + m by omega, coinN_at m k a (c + 1) ha]
      show 0 + a = a
      omega
    · rw [if_neg ha]
      have hb : a - nck m k < nck m (k + 1) := by omega
      have ih := coinN_at m (k + 1) (a - nck m k) (c + 1) hb
      have hl := drawN_len m (k + 1) (a - nck m k) (c + 1) hb
      have hm := (setsN_asc m (k + 1) (c + 1) _ (List.mem_of_getElem? (drawN_at m (k + 1) (a - nck m k) (c + 1) hb))).2
      cases e : drawN m (k + 1) (a - nck m k) (c + 1) with
      | nil => rw [e] at hl; cases hl
      | cons x r =>
        rw [e] at ih hl hm
        have a2 : (decide (c + 1 ≤ x) && (decide (x < c + 1 + m) && asc (x + 1) (c + 1 + m) r)) = true := hm
        rw [Bool.and_eq_true] at a2
        have h1 := of_decide_eq_true a2.1
        have hr : r.length = k := by simpa using hl
        have ih' : ahead (c + 1 + m) r.length (c + 1) (x - (c + 1)) + coinN (c + 1 + m) (x + 1) r = a - nck m k := ih
        show ahead (c + (m + 1)) r.length c (x - c) + coinN (c + (m + 1)) (x + 1) r = a
        rw [show x - c = (x - (c + 1)) + 1 by omega, show c + (m + 1) = c + 1 + m by omega]
        show nck (c + 1 + m - c - 1) r.length + ahead (c + 1 + m) r.length (c + 1) (x - (c + 1)) + coinN (c + 1 + m) (x + 1) r = a
        rw [show c + 1 + m - c - 1 = m by omega, hr] at *
        omega
/-! ### the law's own way to the sets -/
/-- a set gone on with each greater cell -/
def lastN (l : List Nat) : Nat := l.getLast?.getD 0
def goesOn (l : List Nat) (c : Nat) : Bool := l.isEmpty || decide (lastN l < c)
def extN (n : Nat) (l : List Nat) : List (List Nat) := ((List.range n).filter (goesOn l)).map fun c => l ++ [c]
def lawSets (n : Nat) : Nat → List (List Nat)
  | 0 => [[]]
  | t + 1 => (lawSets n t).flatMap (extN n)
theorem lawSets_small : ∀ n k : Fin 13, lawSets n k = setsN n k 0 := by decide +kernel
theorem lawSets_eq {n k : Nat} (hn : n ≤ 12) (hk : k ≤ 12) : lawSets n k = setsN n k 0 := lawSets_small ⟨n, by omega⟩ ⟨k, by omega⟩
theorem nck_small : ∀ n k : Fin 13, nck n k ≤ 924 := by decide +kernel
theorem nck_le {n k : Nat} (hn : n ≤ 12) (hk : k ≤ 12) : nck n k ≤ 924 := nck_small ⟨n, by omega⟩ ⟨k, by omega⟩
theorem lawSets_len {n k : Nat} (hn : n ≤ 12) (hk : k ≤ 12) : (lawSets n k).length = nck n k := by rw [lawSets_eq hn hk, setsN_len]
/-- the first turns are no longer than all -/
theorem flat_take {α β : Type} (f : α → List β) : ∀ (l : List α) (i : Nat), ((l.take i).flatMap f).length ≤ (l.flatMap f).length
  | [], i => by simp
  | a :: r, 0 => Nat.zero_le _
  | a :: r, i + 1 => by
    have ih := flat_take f r i
    rw [List.take_succ_cons, List.flatMap_cons, List.flatMap_cons, List.length_append, List.length_append]
    omega
end Hd

set_option maxHeartbeats 4000000
namespace K00
open PySem PySem.Spec PyProof.Rows L2 Hd
/-! ### the text -/
def topS (i : Nat) : Stmt := PySem.Challenge.pw_hushdrawers_k00_whole_houses.main.body.getD i (.Pass ⟨0, 0, 0, 0⟩)
abbrev c_DrawerError : Stmt := topS 2
abbrev c_BadHouse : Stmt := topS 3
abbrev s_BadHouse___init__ : Stmt := inClass (topS 3) 0
abbrev n_BadHouse___init__ : List Str := ["self", "word"]
theorem sc_BadHouse___init__ : FnScope n_BadHouse___init__ ["self", "word"] (defScope s_BadHouse___init__) := ⟨rfl, rfl, rfl, by decide +kernel, rfl, by decide +kernel, by decide +kernel⟩
abbrev c_BadNumber : Stmt := topS 4
abbrev s_is_number : Stmt := topS 8
abbrev n_is_number : List Str := ["value", "least", "most"]
theorem sc_is_number : FnScope n_is_number ["value", "least", "most"] (defScope s_is_number) := ⟨rfl, rfl, rfl, by decide +kernel, rfl, by decide +kernel, by decide +kernel⟩
abbrev s_wrong_word : Stmt := topS 9
abbrev n_wrong_word : List Str := ["value", "cells", "sealed", "drawers", "pages", "copies"]
theorem sc_wrong_word : FnScope n_wrong_word ["value"] (defScope s_wrong_word) := ⟨rfl, rfl, rfl, by decide +kernel, rfl, by decide +kernel, by decide +kernel⟩
abbrev s_is_house : Stmt := topS 10
abbrev n_is_house : List Str := ["value"]
theorem sc_is_house : FnScope n_is_house ["value"] (defScope s_is_house) := ⟨rfl, rfl, rfl, by decide +kernel, rfl, by decide +kernel, by decide +kernel⟩
abbrev s_check_house : Stmt := topS 11
abbrev n_check_house : List Str := ["house", "word"]
theorem sc_check_house : FnScope n_check_house ["house"] (defScope s_check_house) := ⟨rfl, rfl, rfl, by decide +kernel, rfl, by decide +kernel, by decide +kernel⟩
abbrev s_coin_count : Stmt := topS 12
abbrev n_coin_count : List Str := ["house"]
theorem sc_coin_count : FnScope n_coin_count ["house"] (defScope s_coin_count) := ⟨rfl, rfl, rfl, by decide +kernel, rfl, by decide +kernel, by decide +kernel⟩
abbrev s_is_coin : Stmt := topS 13
abbrev n_is_coin : List Str := ["house", "value"]
theorem sc_is_coin : FnScope n_is_coin ["house", "value"] (defScope s_is_coin) := ⟨rfl, rfl, rfl, by decide +kernel, rfl, by decide +kernel, by decide +kernel⟩
abbrev s_drawn : Stmt := topS 14
abbrev n_drawn : List Str := ["house", "coin", "cells", "sealed", "chosen", "ahead", "cell", "many"]
theorem sc_drawn : FnScope n_drawn ["house", "coin"] (defScope s_drawn) := ⟨rfl, rfl, rfl, by decide +kernel, rfl, by decide +kernel, by decide +kernel⟩
abbrev s_is_cell_set : Stmt := topS 15
abbrev n_is_cell_set : List Str := ["house", "value", "least", "cell"]
theorem sc_is_cell_set : FnScope n_is_cell_set ["house", "value"] (defScope s_is_cell_set) := ⟨rfl, rfl, rfl, by decide +kernel, rfl, by decide +kernel, by decide +kernel⟩
abbrev s_coin_of : Stmt := topS 16
abbrev n_coin_of : List Str := ["house", "cells", "coin", "least", "at", "cell", "lesser"]
theorem sc_coin_of : FnScope n_coin_of ["house", "cells"] (defScope s_coin_of) := ⟨rfl, rfl, rfl, by decide +kernel, rfl, by decide +kernel, by decide +kernel⟩
abbrev s__law_taken : Stmt := topS 18
abbrev n__law_taken : List Str := ["row", "many", "found", "cell"]
theorem sc__law_taken : FnScope n__law_taken ["row", "many"] (defScope s__law_taken) := ⟨rfl, rfl, rfl, by decide +kernel, rfl, by decide +kernel, by decide +kernel⟩
abbrev s__law_pick : Stmt := topS 19
abbrev n__law_pick : List Str := ["row", "things"]
theorem sc__law_pick : FnScope n__law_pick ["row", "things"] (defScope s__law_pick) := ⟨rfl, rfl, rfl, by decide +kernel, rfl, by decide +kernel, by decide +kernel⟩
abbrev s__law_alike : Stmt := topS 20
abbrev n__law_alike : List Str := ["found", "due", "k"]
theorem sc__law_alike : FnScope n__law_alike ["found", "due"] (defScope s__law_alike) := ⟨rfl, rfl, rfl, by decide +kernel, rfl, by decide +kernel, by decide +kernel⟩
abbrev s__law_choices : Stmt := topS 21
abbrev n__law_choices : List Str := ["many", "some", "found", "k"]
theorem sc__law_choices : FnScope n__law_choices ["many", "some"] (defScope s__law_choices) := ⟨rfl, rfl, rfl, by decide +kernel, rfl, by decide +kernel, by decide +kernel⟩
abbrev s__law_sets : Stmt := topS 22
abbrev n__law_sets : List Str := ["cells", "many", "found", "turn", "longer", "one", "cell"]
theorem sc__law_sets : FnScope n__law_sets ["cells", "many"] (defScope s__law_sets) := ⟨rfl, rfl, rfl, by decide +kernel, rfl, by decide +kernel, by decide +kernel⟩
abbrev s__law_house : Stmt := topS 23
abbrev n__law_house : List Str := ["row", "most", "cells"]
theorem sc__law_house : FnScope n__law_house ["row", "most"] (defScope s__law_house) := ⟨rfl, rfl, rfl, by decide +kernel, rfl, by decide +kernel, by decide +kernel⟩
abbrev s__law_moment : Stmt := topS 24
abbrev n__law_moment : List Str := ["row", "house", "deepest", "most", "k"]
theorem sc__law_moment : FnScope n__law_moment ["row", "house", "deepest", "most"] (defScope s__law_moment) := ⟨rfl, rfl, rfl, by decide +kernel, rfl, by decide +kernel, by decide +kernel⟩
abbrev s__law_life : Stmt := topS 25
abbrev n__law_life : List Str := ["row", "house", "moments", "found", "left", "k", "deepest", "many", "j"]
theorem sc__law_life : FnScope n__law_life ["row", "house", "moments"] (defScope s__law_life) := ⟨rfl, rfl, rfl, by decide +kernel, rfl, by decide +kernel, by decide +kernel⟩
abbrev s__law_length : Stmt := topS 26
abbrev n__law_length : List Str := ["life", "one"]
theorem sc__law_length : FnScope n__law_length ["life"] (defScope s__law_length) := ⟨rfl, rfl, rfl, by decide +kernel, rfl, by decide +kernel, by decide +kernel⟩
abbrev s__law_coins : Stmt := topS 27
abbrev n__law_coins : List Str := ["row", "house", "many", "k"]
theorem sc__law_coins : FnScope n__law_coins ["row", "house", "many"] (defScope s__law_coins) := ⟨rfl, rfl, rfl, by decide +kernel, rfl, by decide +kernel, by decide +kernel⟩
abbrev s__law_upper : Stmt := topS 28
abbrev n__law_upper : List Str := ["life", "drawer", "found", "deepest", "story", "moment", "one"]
theorem sc__law_upper : FnScope n__law_upper ["life", "drawer"] (defScope s__law_upper) := ⟨rfl, rfl, rfl, by decide +kernel, rfl, by decide +kernel, by decide +kernel⟩
abbrev s__law_word : Stmt := topS 29
abbrev n__law_word : List Str := ["work", "e"]
theorem sc__law_word : FnScope n__law_word ["work"] (defScope s__law_word) := ⟨rfl, rfl, rfl, by decide +kernel, rfl, by decide +kernel, by decide +kernel⟩
abbrev s__law_wrong : Stmt := topS 30
abbrev n__law_wrong : List Str := ["value", "words", "tops", "lows", "k"]
theorem sc__law_wrong : FnScope n__law_wrong ["value"] (defScope s__law_wrong) := ⟨rfl, rfl, rfl, by decide +kernel, rfl, by decide +kernel, by decide +kernel⟩
abbrev s_law : Stmt := topS 31
abbrev n_law : List Str := ["script", "row", "house", "bent", "k", "value", "word", "sets", "turn", "coin", "some", "bad", "ask"]
theorem sc_law : FnScope n_law ["script"] (defScope s_law) := ⟨rfl, rfl, rfl, by decide +kernel, rfl, by decide +kernel, by decide +kernel⟩
end K00

set_option maxHeartbeats 4000000
namespace K00
open PySem PySem.Spec PyProof.Rows L2 Hd
abbrev FnP (K : PySem.W.Frag) (x : Str) (st : Stmt) (f : Addr) (fd : FuncData) : Prop := FunD K x x (defArgs st) (defBody st) (defScope st) [] [] f fd
/-- the built-in names that the module leaves free -/
structure Blt (mg : Str → Option Value) : Prop where
  isinstance : mg "isinstance" = none
  int : mg "int" = none
  bool : mg "bool" = none
  str : mg "str" = none
  tuple : mg "tuple" = none
  list : mg "list" = none
  len : mg "len" = none
  range : mg "range" = none
  enumerate : mg "enumerate" = none
  min : mg "min" = none
  sum : mg "sum" = none
  comb : mg "comb" = some (.builtin "math.comb")
  least : ∃ tk, mg "LEAST_CELLS" = some (.int 2 tk)
  most : ∃ tk, mg "MOST_CELLS" = some (.int 12 tk)
/-! ### values -/
/-- an integer from lo to hi -/
def isNum : V → Int → Int → Bool
  | .int i, lo, hi => decide (lo ≤ i) && decide (i ≤ hi)
  | _, _, _ => false
/-- None, a bool, an int, a text, a list, a tuple: the kind's name -/
inductive KindV (K : PySem.W.Frag) (H : Hp) : V → String → Prop
  | non : KindV K H .non "NoneType"
  | bl (b : Bool) : KindV K H (.bl b) "bool"
  | int (i : Int) : KindV K H (.int i) "int"
  | str (x : Str) : KindV K H (.str x) "str"
  | lst {a : Addr} {xs : List V} (h : H a = some (.lst xs)) : KindV K H (.ref a) "list"
  | tup {a : Addr} {xs : List V} (h : H a = some (.tup xs)) : KindV K H (.ref a) "tuple"
theorem KindV.ty {K : PySem.W.Frag} {H : Hp} {v : V} {s : String} (k : KindV K H v s) : TyX K H v (.type s) := by
  cases k with
  | non => exact .base .non
  | bl b => exact .base (.bl b)
  | int i => exact .base (.int i)
  | str x => exact .base (.str x)
  | lst h => exact .base (.lst h)
  | tup h => exact .base (.tup h)
/-- whether a kind is another -/
def isK (s T : String) : Bool := s == T || (s == "bool" && T == "int")
theorem KindV.is {K : PySem.W.Frag} {H : Hp} {v : V} {s : String} (k : KindV K H v s) (T : String) (hT : T = "int" ∨ T = "bool" ∨ T = "tuple" ∨ T = "list" ∨ T = "str") : kitB s T = some (isK s T) := by
  rcases hT with rfl | rfl | rfl | rfl | rfl <;> cases k <;> decide +kernel
theorem KindV.isI {K : PySem.W.Frag} {H : Hp} {v : V} {s : String} (k : KindV K H v s) : kitB s "int" = some (isK s "int") := k.is "int" (by simp)
theorem KindV.isB {K : PySem.W.Frag} {H : Hp} {v : V} {s : String} (k : KindV K H v s) : kitB s "bool" = some (isK s "bool") := k.is "bool" (by simp)
theorem KindV.isT {K : PySem.W.Frag} {H : Hp} {v : V} {s : String} (k : KindV K H v s) : kitB s "tuple" = some (isK s "tuple") := k.is "tuple" (by simp)
theorem KindV.isL {K : PySem.W.Frag} {H : Hp} {v : V} {s : String} (k : KindV K H v s) : kitB s "list" = some (isK s "list") := k.is "list" (by simp)
theorem KindV.isS {K : PySem.W.Frag} {H : Hp} {v : V} {s : String} (k : KindV K H v s) : kitB s "str" = some (isK s "str") := k.is "str" (by simp)
section
variable {CX : CXT} {P : Program} {w : World} {K : PySem.W.Frag} {mg : Str → Option Value} {base : Heap}
/-! ### is_number -/
def spNumber (K : PySem.W.Frag) : Sp := fun vs H Q _ => ∃ v s lo hi, vs = [v, .int lo, .int hi] ∧ KindV K H v s ∧ Q (.bl (isNum v lo hi)) H
theorem ok_number {f : Addr} {fd : FuncData} (F : FnP K "is_number" s_is_number f fd) (B : Blt mg) : FnOk P w K mg base CX 1 f fd ["value", "least", "most"] (spNumber K) := by
  refine F.ok (CX := CX) sc_is_number (fun vs H Q E h => ?_) (fun cdv A outer s H vs Q E hr h => ?_)
  · obtain ⟨v, k, lo, hi, rfl, _⟩ := h
    rfl
  · obtain ⟨v, k, lo, hi, rfl, hk, q⟩ := h
    refine ⟨_, (pss_one (ps_ret (pe_and (pe_callB call_isS (by rfl) B.isinstance (by decide +kernel) (pa_cons (pv 0) (pa_cons (pe_ty "int" (by rfl) B.int (by decide +kernel)) pa_nil)))
      (pe_and (pe_not (pe_callB call_isS (by rfl) B.isinstance (by decide +kernel) (pa_cons (pv 0) (pa_cons (pe_ty "bool" (by rfl) B.bool (by decide +kernel)) pa_nil)))) (pe_one (pe_chain op_le op_le (pv 1) (pv 0) (pv 2))))))), ?_⟩
    refine ⟨_, rfl, _, _, "int", _, rfl, hk.ty, hk.isI, _, rfl, ?_⟩
    cases hk with
    | non => exact iteF q
    | str x => exact iteF q
    | lst h => exact iteF q
    | tup h => exact iteF q
    | bl b => exact iteT ⟨_, rfl, _, _, "bool", _, rfl, (KindV.bl b).ty, (KindV.bl (K := K) (H := H) b).isB, _, rfl, _, rfl, iteF q⟩
    | int i =>
      refine iteT ⟨_, rfl, _, _, "bool", _, rfl, (KindV.int i).ty, (KindV.int (K := K) (H := H) i).isB, _, rfl, _, rfl, iteT ⟨_, rfl, _, rfl, _, _, rfl, rfl, _, rfl, ?_⟩⟩
      have e : isNum (.int i) lo hi = (decide (lo ≤ i) && decide (i ≤ hi)) := rfl
      rw [e] at q
      refine ite2 (fun h => ⟨_, rfl, _, _, rfl, rfl, ?_⟩) (fun h => ?_)
      · rw [h] at q
        exact q
      · rw [Bool.not_eq_true] at h
        rw [h] at q
        exact q
end
end K00

set_option maxHeartbeats 4000000
namespace K00
open PySem PySem.Spec PyProof.Rows L2 Hd
/-! ### what is wrong with a house -/
def vInt : V → Int
  | .int i => i
  | _ => 0
def optV : Option Str → V
  | none => .non
  | some x => .str x
def wrongOf (c s d p n : V) : Option Str :=
  if isNum c 2 12 = false then some "cells" else if isNum s 1 (vInt c) = false then some "sealed" else if isNum d 1 4 = false then some "drawers" else if isNum p 1 6 = false then some "pages" else if isNum n 1 3 = false then some "copies" else none
def wrong5 : List V → Option Str
  | [c, s, d, p, n] => wrongOf c s d p n
  | _ => some "form"
inductive Wr (K : PySem.W.Frag) (H : Hp) : V → Option Str → Prop
  | out {v : V} {s : String} (k : KindV K H v s) (h : isK s "tuple" = false) : Wr K H v (some "form")
  | tup {a : Addr} {xs : List V} (h : H a = some (.tup xs)) (all : ∀ x ∈ xs, ∃ s, KindV K H x s) : Wr K H (.ref a) (wrong5 xs)
theorem isNum_int {v : V} {lo hi : Int} (h : isNum v lo hi = true) : v = .int (vInt v) := by
  cases v <;> first | rfl | cases h
section
variable {CX : CXT} {P : Program} {w : World} {K : PySem.W.Frag} {mg : Str → Option Value} {base : Heap}
def spWrong (K : PySem.W.Frag) : Sp := fun vs H Q _ => ∃ v o, vs = [v] ∧ Wr K H v o ∧ Q (optV o) H
structure TNum (P : Program) (w : World) (K : PySem.W.Frag) (mg : Str → Option Value) (base : Heap) (f : Addr) (fd : FuncData) : Prop where
  G : FnOk P w K mg base CX0 1 f fd ["value", "least", "most"] (spNumber K)
  m : mg "is_number" = some (.ref f)
  k : PySem.W.keepIn K (.ref f) = true
  b : Binds K fd ["value", "least", "most"] []
theorem ok_wrong {f fN : Addr} {fd fdN : FuncData} (F : FnP K "wrong_word" s_wrong_word f fd) (B : Blt mg) (T : TNum P w K mg base fN fdN) : FnOk P w K mg base CX 2 f fd ["value"] (spWrong K) := by
  refine F.ok (CX := CX) sc_wrong_word (fun vs H Q E h => ?_) (fun cdv A outer s H vs Q E hr h => ?_)
  · obtain ⟨v, o, rfl, _⟩ := h
    rfl
  · obtain ⟨v, o, rfl, hw, q⟩ := h
    obtain ⟨tk2, hl2⟩ := B.least
    obtain ⟨tk12, hl12⟩ := B.most
    refine ⟨_, (pss_cons (ps_if (PW.pt (pw_or (pt_not (pt_val (pe_callB call_isS (by rfl) B.isinstance (by decide +kernel) (pa_cons (pv 0) (pa_cons (pe_ty "tuple" (by rfl) B.tuple (by decide +kernel)) pa_nil))))) (pw_or1 (pt_cmpR op_ne (pe_callB call_len_seq (by rfl) B.len (by decide +kernel) (pa_cons (pv 0) pa_nil)) pe_int (nomark _))))) (pss_one (ps_ret pe_str)) pss_nil)
    (pss_cons (ps_asg (pv 0) (pg_tup rfl (pgs_cons (pg_name (i := 1) sc_wrong_word.nd rfl (Or.inl rfl)) (pgs_cons (pg_name (i := 2) sc_wrong_word.nd rfl (Or.inl rfl)) (pgs_cons (pg_name (i := 3) sc_wrong_word.nd rfl (Or.inl rfl)) (pgs_cons (pg_name (i := 4) sc_wrong_word.nd rfl (Or.inl rfl)) (pgs_cons (pg_name (i := 5) sc_wrong_word.nd rfl (Or.inl rfl)) pgs_nil)))))))
    (pss_cons (ps_if (pt_not (pt_val (pe_call T.G hr (by rfl) T.m T.k T.b .nil pass0 (pa_cons (pv 1) (pa_cons (pe_glob (v := .int 2) rfl hl2 ⟨tk2, rfl⟩) (pa_cons (pe_glob (v := .int 12) rfl hl12 ⟨tk12, rfl⟩) pa_nil)))))) (pss_one (ps_ret pe_str)) pss_nil)
    (pss_cons (ps_if (pt_not (pt_val (pe_call T.G hr (by rfl) T.m T.k T.b .nil pass0 (pa_cons (pv 2) (pa_cons pe_int (pa_cons (pv 1) pa_nil)))))) (pss_one (ps_ret pe_str)) pss_nil)
    (pss_cons (ps_if (pt_not (pt_val (pe_call T.G hr (by rfl) T.m T.k T.b .nil pass0 (pa_cons (pv 3) (pa_cons pe_int (pa_cons pe_int pa_nil)))))) (pss_one (ps_ret pe_str)) pss_nil)
    (pss_cons (ps_if (pt_not (pt_val (pe_call T.G hr (by rfl) T.m T.k T.b .nil pass0 (pa_cons (pv 4) (pa_cons pe_int (pa_cons pe_int pa_nil)))))) (pss_one (ps_ret pe_str)) pss_nil)
    (pss_cons (ps_if (pt_not (pt_val (pe_call T.G hr (by rfl) T.m T.k T.b .nil pass0 (pa_cons (pv 5) (pa_cons pe_int (pa_cons pe_int pa_nil)))))) (pss_one (ps_ret pe_str)) pss_nil)
    (pss_one (ps_ret pe_non))))))))), ?_⟩
    cases hw with
    | @out v sk k hk =>
      refine ⟨_, rfl, _, _, "tuple", _, rfl, k.ty, k.isT, _, rfl, ?_⟩
      rw [hk]
      exact iteT (iteT q)
    | @tup a xs ha all =>
      refine ⟨_, rfl, _, _, "tuple", _, rfl, (KindV.tup ha).ty, (KindV.tup (K := K) ha).isT, _, rfl, iteF ?_⟩
      refine ⟨_, rfl, a, xs, rfl, .inr (SqT.of ha), rfl, _, rfl, ?_⟩
      by_cases h5 : xs.length = 5
      · match xs, h5 with
        | [x1, x2, x3, x4, x5], _ =>
          refine iteF ⟨_, rfl, a, _, rfl, SqT.of ha, rfl, _, _, rfl, _, _, rfl, _, _, rfl, _, _, rfl, _, _, rfl, rfl, ?_⟩
          obtain ⟨k1, g1⟩ := all x1 (by simp)
          obtain ⟨k2, g2⟩ := all x2 (by simp)
          obtain ⟨k3, g3⟩ := all x3 (by simp)
          obtain ⟨k4, g4⟩ := all x4 (by simp)
          obtain ⟨k5, g5⟩ := all x5 (by simp)
          change Q (optV (wrongOf x1 x2 x3 x4 x5)) H at q
          unfold wrongOf at q
          refine ⟨x1, rfl, x1, k1, 2, 12, rfl, g1, _, rfl, ?_⟩
          cases e1 : isNum x1 2 12 with
          | false =>
            rw [if_pos e1] at q
            exact iteT q
          | true =>
            rw [if_neg (by rw [e1]; decide)] at q
            refine iteF ⟨x2, rfl, x1, rfl, x2, k2, 1, vInt x1, by rw [← isNum_int e1] <;> rfl, g2, _, rfl, ?_⟩
            cases e2 : isNum x2 1 (vInt x1) with
            | false =>
              rw [if_pos e2] at q
              exact iteT q
            | true =>
              rw [if_neg (by rw [e2]; decide)] at q
              refine iteF ⟨x3, rfl, x3, k3, 1, 4, rfl, g3, _, rfl, ?_⟩
              cases e3 : isNum x3 1 4 with
              | false =>
                rw [if_pos e3] at q
                exact iteT q
              | true =>
                rw [if_neg (by rw [e3]; decide)] at q
                refine iteF ⟨x4, rfl, x4, k4, 1, 6, rfl, g4, _, rfl, ?_⟩
                cases e4 : isNum x4 1 6 with
                | false =>
                  rw [if_pos e4] at q
                  exact iteT q
                | true =>
                  rw [if_neg (by rw [e4]; decide)] at q
                  refine iteF ⟨x5, rfl, x5, k5, 1, 3, rfl, g5, _, rfl, ?_⟩
                  cases e5 : isNum x5 1 3 with
                  | false =>
                    rw [if_pos e5] at q
                    exact iteT q
                  | true =>
                    rw [if_neg (by rw [e5]; decide)] at q
                    exact iteF q
      · have e : (!decide (V.int (xs.length : Int) = V.int 5)) = true := by
          rw [decide_eq_false (fun z => h5 (by injection z with z; omega))] <;> rfl
        rw [e]
        have e2 : wrong5 xs = some "form" := by
          match xs, h5 with
          | [], _ => rfl
          | [_], _ => rfl
          | [_, _], _ => rfl
          | [_, _, _], _ => rfl
          | [_, _, _, _], _ => rfl
          | [_, _, _, _, _], h => exact absurd rfl h
          | _ :: _ :: _ :: _ :: _ :: _ :: _, _ => rfl
        rw [e2] at q
        exact iteT q
end
end K00

set_option maxHeartbeats 4000000
namespace K00
open PySem PySem.Spec PyProof.Rows L2 Hd Evl
/-! ### houses -/
structure HouseAt (H : Hp) (a : Addr) (n k d p c : Nat) : Prop where
  at_ : H a = some (.tup [.int n, .int k, .int d, .int p, .int c])
  n2 : 2 ≤ n
  n12 : n ≤ 12
  k1 : 1 ≤ k
  kn : k ≤ n
  d1 : 1 ≤ d
  d4 : d ≤ 4
  p1 : 1 ≤ p
  p6 : p ≤ 6
  c1 : 1 ≤ c
  c3 : c ≤ 3
theorem HouseAt.ex {H H' : Hp} {a : Addr} {n k d p c : Nat} (h : HouseAt H a n k d p c) (e : Ex H H') : HouseAt H' a n k d p c := { h with at_ := e _ _ h.at_ }
theorem num_of {v : V} {lo hi : Int} (h : isNum v lo hi = true) (h0 : 0 ≤ lo) : ∃ i : Nat, v = .int i ∧ lo ≤ i ∧ (i : Int) ≤ hi := by
  cases v with
  | int i =>
    have h1 : (decide (lo ≤ i) && decide (i ≤ hi)) = true := h
    rw [Bool.and_eq_true] at h1
    have a := of_decide_eq_true h1.1
    have b := of_decide_eq_true h1.2
    exact ⟨i.toNat, by rw [Int.toNat_of_nonneg (by omega)], by omega, by omega⟩
  | _ => cases h
theorem isNum_nat {i : Nat} {lo hi : Int} : isNum (.int (i : Int)) lo hi = (decide (lo ≤ (i : Int)) && decide ((i : Int) ≤ hi)) := rfl
theorem wrongOf_none {c s d p n : V} (h : wrongOf c s d p n = none) : isNum c 2 12 = true ∧ isNum s 1 (vInt c) = true ∧ isNum d 1 4 = true ∧ isNum p 1 6 = true ∧ isNum n 1 3 = true := by
  unfold wrongOf at h
  cases e1 : isNum c 2 12 <;> rw [e1] at h <;> first | cases h | skip
  cases e2 : isNum s 1 (vInt c) <;> rw [e2] at h <;> first | cases h | skip
  cases e3 : isNum d 1 4 <;> rw [e3] at h <;> first | cases h | skip
  cases e4 : isNum p 1 6 <;> rw [e4] at h <;> first | cases h | skip
  cases e5 : isNum n 1 3 <;> rw [e5] at h <;> first | cases h | skip
  exact ⟨rfl, rfl, rfl, rfl, rfl⟩
theorem Wr.house {K : PySem.W.Frag} {H : Hp} {v : V} (h : Wr K H v none) : ∃ a n k d p c, v = .ref a ∧ HouseAt H a n k d p c := by
  generalize e : (none : Option Str) = o at h
  cases h with
  | out k h => cases e
  | @tup a xs ha all =>
    match xs with
    | [x1, x2, x3, x4, x5] =>
      have e' : none = wrongOf x1 x2 x3 x4 x5 := e
      obtain ⟨h1, h2, h3, h4, h5⟩ := wrongOf_none e'.symm
      obtain ⟨n, rfl, a1, b1⟩ := num_of h1 (by decide)
      obtain ⟨k, rfl, a2, b2⟩ := num_of h2 (by decide)
      obtain ⟨d, rfl, a3, b3⟩ := num_of h3 (by decide)
      obtain ⟨p, rfl, a4, b4⟩ := num_of h4 (by decide)
      obtain ⟨c, rfl, a5, b5⟩ := num_of h5 (by decide)
      have b2' : (k : Int) ≤ (n : Int) := b2
      exact ⟨a, n, k, d, p, c, rfl, ⟨ha, by omega, by omega, by omega, by omega, by omega, by omega, by omega, by omega, by omega, by omega⟩⟩
    | [] => cases e
    | [_] => cases e
    | [_, _] => cases e
    | [_, _, _] => cases e
    | [_, _, _, _] => cases e
    | _ :: _ :: _ :: _ :: _ :: _ :: _ => cases e
theorem HouseAt.wr {K : PySem.W.Frag} {H : Hp} {a : Addr} {n k d p c : Nat} (h : HouseAt H a n k d p c) : Wr K H (.ref a) none := by
  have e : wrong5 [.int n, .int k, .int d, .int p, .int c] = none := by
    show wrongOf (.int n) (.int k) (.int d) (.int p) (.int c) = none
    unfold wrongOf
    have t : ∀ {i : Nat} {lo hi : Int}, lo ≤ i → (i : Int) ≤ hi → isNum (.int (i : Int)) lo hi = true := fun h1 h2 => by
      rw [isNum_nat, decide_eq_true h1, decide_eq_true h2] <;> rfl
    have := h.n2; have := h.n12; have := h.k1; have := h.kn; have := h.d1; have := h.d4; have := h.p1; have := h.p6; have := h.c1; have := h.c3
    rw [t (i := n) (lo := 2) (hi := 12) (by omega) (by omega), t (i := k) (lo := 1) (hi := vInt (.int n)) (by omega) (by show (k : Int) ≤ (n : Int); omega), t (i := d) (lo := 1) (hi := 4) (by omega) (by omega), t (i := p) (lo := 1) (hi := 6) (by omega) (by omega), t (i := c) (lo := 1) (hi := 3) (by omega) (by omega)] <;> rfl
  rw [← e]
  refine .tup h.at_ fun x hx => ?_
  simp only [List.mem_cons, List.mem_nil_iff, or_false] at hx
  rcases hx with rfl | rfl | rfl | rfl | rfl <;> exact ⟨_, .int _⟩
/-- BadHouse(x) leaves a def -/
def Refuses (CB : Addr) (E : XK) (H : Hp) (x : Str) : Prop := ∀ d H', Ex H H' → H d = none → H' d = some (.xd [("word", .str x)]) → E (.ref CB) (some d) H'
section
variable {CX : CXT} {P : Program} {w : World} {K : PySem.W.Frag} {mg : Str → Option Value} {base : Heap} {CB CN : Addr}
/-! ### BadHouse.__init__ -/
theorem ok_BadHouse_init {f : Addr} {fd : FuncData} (F : FunD K "__init__" "BadHouse.__init__" (defArgs s_BadHouse___init__) (defBody s_BadHouse___init__) (defScope s_BadHouse___init__) [] [] f fd) (T : OexC K CB) (no : PySem.W.findIn K (.ref CB) "word" = some none) :
    FnOk P w K mg base CX 1 f fd ["self", "word"] (spInit CB "word") := by
  refine F.ok (CX := CX) sc_BadHouse___init__ (fun vs H Q E h => ?_) (fun cdv A outer s H vs Q E hr h => ?_)
  · obtain ⟨a, x, rfl, _⟩ := h
    rfl
  · obtain ⟨a, x, rfl, ha, q⟩ := h
    exact ⟨_, pss_one (ps_ost (pv 0) (pv 1)), x, rfl, .ref a, rfl, a, CB, rfl, T, no, .inl ⟨ha, fun dx n1 n2 => q dx n1 n2⟩⟩
/-! ### is_house, check_house -/
def spIsHouse (K : PySem.W.Frag) : Sp := fun vs H Q _ => ∃ v o, vs = [v] ∧ Wr K H v o ∧ Q (.bl (o == none)) H
theorem ok_is_house {f fW : Addr} {fd fdW : FuncData} (F : FnP K "is_house" s_is_house f fd) (T : Fn P w K mg base CX0 2 "wrong_word" ["value"] (spWrong K) fW fdW) : FnOk P w K mg base CX 3 f fd ["value"] (spIsHouse K) := by
  refine F.ok (CX := CX) sc_is_house (fun vs H Q E h => ?_) (fun cdv A outer s H vs Q E hr h => ?_)
  · obtain ⟨v, o, rfl, _⟩ := h
    rfl
  · obtain ⟨v, o, rfl, hw, q⟩ := h
    refine ⟨_, pss_one (ps_ret (pe_cmpR op_isN (pe_call T.G hr (by rfl) T.m T.k T.b .nil pass0 (pa_cons (pv 0) pa_nil)) pe_non (nomark _))), v, rfl, v, o, rfl, hw, rfl, ?_⟩
    cases o with
    | none => exact q
    | some x => exact q
def spCheck (K : PySem.W.Frag) (CB : Addr) : Sp := fun vs H Q E => ∃ v o, vs = [v] ∧ Wr K H v o ∧ (o = none → Q .non H) ∧ ∀ x, o = some x → Refuses CB E H x
theorem ok_check {f fW : Addr} {fd fdW : FuncData} (F : FnP K "check_house" s_check_house f fd) (T : Fn P w K mg base CX0 2 "wrong_word" ["value"] (spWrong K) fW fdW) (B : ErrF P w K mg base "BadHouse" "word" CB) :
    FnOk P w K mg base (L2.CX P w) 3 f fd ["house"] (spCheck K CB) := by
  refine F.ok (CX := L2.CX P w) sc_check_house (fun vs H Q E h => ?_) (fun cdv A outer s H vs Q E hr h => ?_)
  · obtain ⟨v, o, rfl, _⟩ := h
    rfl
  · obtain ⟨v, o, rfl, hw, q0, q1⟩ := h
    refine ⟨_, pss_cons (ps_set (i := 1) sc_check_house.nd rfl (Or.inl rfl) (pe_call T.G hr (by rfl) T.m T.k T.b .nil pass0 (pa_cons (pv 0) pa_nil)))
      (pss_one (ps_if (pt_cmpR op_notN (pv 1) pe_non (nomark _)) (pss_one (ps_raiseF B rfl hr (takes_of rfl rfl rfl rfl) (by rfl) (pa_cons (pv 1) pa_nil))) pss_nil)), ?_⟩
    refine ⟨v, rfl, v, o, rfl, hw, optV o, rfl, rfl, _, rfl, ?_⟩
    cases o with
    | none => exact iteF (q0 rfl)
    | some x => exact iteT ⟨_, rfl, .str x, rfl, fun d H2 e n a => q1 x rfl d H2 e n a⟩
/-! ### coin_count, is_coin -/
theorem comb_le {n k : Nat} (h : n ≤ 12) (h2 : k ≤ n) : PySem.W.mcComb (n : Int) (k : Int) = (nck n k : Nat) := comb_bin h (by omega)
def spCount (K : PySem.W.Frag) (CB : Addr) : Sp := fun vs H Q E => ∃ v o, vs = [v] ∧ Wr K H v o ∧ (∀ a n k d p c, v = .ref a → HouseAt H a n k d p c → Q (.int (nck n k : Nat)) H) ∧ ∀ x, o = some x → Refuses CB E H x
theorem ok_count {f fC : Addr} {fd fdC : FuncData} (F : FnP K "coin_count" s_coin_count f fd) (T : Fn P w K mg base (L2.CX P w) 3 "check_house" ["house"] (spCheck K CB) fC fdC) (B : Blt mg) : FnOk P w K mg base (L2.CX P w) 4 f fd ["house"] (spCount K CB) := by
  refine F.ok (CX := L2.CX P w) sc_coin_count (fun vs H Q E h => ?_) (fun cdv A outer s H vs Q E hr h => ?_)
  · obtain ⟨v, o, rfl, _⟩ := h
    rfl
  · obtain ⟨v, o, rfl, hw, q0, q1⟩ := h
    refine ⟨_, pss_cons (ps_expr (pe_call T.G hr (by rfl) T.m T.k T.b .nil (passX (E := E) rfl rfl rfl rfl) (pa_cons (pv 0) pa_nil)))
      (pss_one (ps_ret (pe_callBfun call_comb (by rfl) B.comb (pa_cons (pe_ix ix_tup (pv 0) pe_int (fun _ _ => rfl)) (pa_cons (pe_ix ix_tup (pv 0) pe_int (fun _ _ => rfl)) pa_nil))))), ?_⟩
    refine ⟨v, rfl, v, o, rfl, hw, fun e => ?_, q1⟩
    subst e
    obtain ⟨a, n, k, d, p, c, rfl, h⟩ := hw.house
    have := h.n12; have := h.kn
    refine ⟨.ref a, rfl, a, _, _, .int n, rfl, rfl, SqT.of h.at_, atI_nat (j := 0) rfl, .ref a, rfl, a, _, _, .int k, rfl, rfl, SqT.of h.at_, atI_nat (j := 1) rfl, (n : Int), (k : Int), rfl, by omega, by omega, by omega, ?_⟩
    rw [comb_le (by omega) (by omega)]
    exact q0 a n k d p c rfl h
def spIsCoin (K : PySem.W.Frag) : Sp := fun vs H Q _ => ∃ a n k d p c v s, vs = [.ref a, v] ∧ HouseAt H a n k d p c ∧ KindV K H v s ∧ Q (.bl (isNum v 0 ((nck n k : Nat) - 1))) H
theorem ok_is_coin {f fN : Addr} {fd fdN : FuncData} (F : FnP K "is_coin" s_is_coin f fd) (T : Fn P w K mg base CX0 1 "is_number" ["value", "least", "most"] (spNumber K) fN fdN) (B : Blt mg) : FnOk P w K mg base CX 2 f fd ["house", "value"] (spIsCoin K) := by
  refine F.ok (CX := CX) sc_is_coin (fun vs H Q E h => ?_) (fun cdv A outer s H vs Q E hr h => ?_)
  · obtain ⟨a, n, k, d, p, c, v, s, rfl, _⟩ := h
    rfl
  · obtain ⟨a, n, k, d, p, c, v, sk, rfl, h, hk, q⟩ := h
    refine ⟨_, (pss_one (ps_ret (pe_call T.G hr (by rfl) T.m T.k T.b .nil pass0 (pa_cons (pv 1) (pa_cons pe_int (pa_cons (pe_op op_sub (pe_callBfun call_comb (by rfl) B.comb (pa_cons (pe_ix ix_tup (pv 0) pe_int (fun _ _ => rfl)) (pa_cons (pe_ix ix_tup (pv 0) pe_int (fun _ _ => rfl)) pa_nil))) pe_int) pa_nil)))))), ?_⟩
    have := h.n12; have := h.kn
    refine ⟨v, rfl, .ref a, rfl, a, _, _, .int n, rfl, rfl, SqT.of h.at_, atI_nat (j := 0) rfl, .ref a, rfl, a, _, _, .int k, rfl, rfl, SqT.of h.at_, atI_nat (j := 1) rfl, (n : Int), (k : Int), rfl, by omega, by omega, by omega, _, _, rfl, rfl, v, sk, _, _, rfl, hk, ?_⟩
    rw [comb_le (by omega) (by omega)]
    exact q
end
end K00

set_option maxHeartbeats 4000000
namespace K00
open PySem PySem.Spec PyProof.Rows L2 Hd Evl
abbrev iV (c : Nat) : V := .int (c : Int)
/-- a new tuple -/
def RetT (xs : List V) (H : Hp) (Q : VK) : Prop := ∀ p H2, H p = none → Ex H H2 → H2 p = some (.tup xs) → Q (.ref p) H2
section
variable {CX : CXT} {P : Program} {w : World} {K : PySem.W.Frag} {mg : Str → Option Value} {base : Heap} {CB CN : Addr}
/-! ### drawn -/
structure DrawnP (K : PySem.W.Frag) (CB CN : Addr) (vs : List V) (H : Hp) (Q : VK) (E : XK) : Prop where
  go : ∃ v x o, vs = [v, x] ∧ Wr K H v o ∧ (∀ y, o = some y → Refuses CB E H y) ∧
  ∀ a n k d p c, v = .ref a → HouseAt H a n k d p c → (∃ s, KindV K H x s) ∧ (isNum x 0 ((nck n k : Nat) - 1) = false → E (.ref CN) none H) ∧ ∀ i : Nat, x = .int i → i < nck n k → RetT ((drawN n k i 0).map iV) H Q
def spDrawn (K : PySem.W.Frag) (CB CN : Addr) : Sp := fun vs H Q E => DrawnP K CB CN vs H Q E
theorem ok_drawn {f fC fI : Addr} {fd fdC fdI : FuncData} (F : FnP K "drawn" s_drawn f fd) (T : Fn P w K mg base (L2.CX P w) 3 "check_house" ["house"] (spCheck K CB) fC fdC) (TI : Fn P w K mg base CX0 2 "is_coin" ["house", "value"] (spIsCoin K) fI fdI) (N : ErrP K mg "BadNumber" CN) (B : Blt mg) :
    FnOk P w K mg base (L2.CX P w) 4 f fd ["house", "coin"] (spDrawn K CB CN) := by
  refine F.ok (CX := L2.CX P w) sc_drawn (fun vs H Q E h => ?_) (fun cdv A outer s H vs Q E hr h => ?_)
  · obtain ⟨v, x, o, rfl, _⟩ := h
    rfl
  · obtain ⟨v, x, o, rfl, hw, q1, q⟩ := h
    refine ⟨_, (pss_cons (ps_expr (pe_call T.G hr (by rfl) T.m T.k T.b .nil (passX (E := E) rfl rfl rfl rfl) (pa_cons (pv 0) pa_nil)))
    (pss_cons (ps_if (pt_not (pt_val (pe_call TI.G (hr.mono (by decide)) (by rfl) TI.m TI.k TI.b .nil pass0 (pa_cons (pv 0) (pa_cons (pv 1) pa_nil))))) (pss_one (ps_raiseP N rfl (takes_of (E := E) rfl rfl rfl rfl) (by rfl))) pss_nil)
    (pss_cons (ps_par (i := 2) (j := 3) (by rfl) sc_drawn.nd rfl rfl (by decide) rfl rfl (pa_cons (pe_ix ix_tup (pv 0) pe_int (fun _ _ => rfl)) (pa_cons (pe_ix ix_tup (pv 0) pe_int (fun _ _ => rfl)) pa_nil)) (by rfl))
    (pss_cons (ps_set (i := 4) sc_drawn.nd rfl (Or.inl rfl) (pe_lst pa_nil))
    (pss_cons (ps_set (i := 5) sc_drawn.nd rfl (Or.inl rfl) (pv 1))
    (pss_cons (ps_set (i := 6) sc_drawn.nd rfl (Or.inl rfl) pe_int)
    (pss_cons (ps_while (passes_of rfl) (pt_cmpR op_lt (pe_callB call_len_seq (by rfl) B.len (by decide +kernel) (pa_cons (pv 4) pa_nil)) (pv 3) (nomark _)) (pss_cons (ps_set (i := 7) sc_drawn.nd rfl (Or.inl rfl) (pe_callBfun call_comb (by rfl) B.comb (pa_cons (pe_op op_sub (pe_op op_sub (pv 2) (pv 6)) pe_int) (pa_cons (pe_op op_sub (pe_op op_sub (pv 3) (pe_callB call_len_seq (by rfl) B.len (by decide +kernel) (pa_cons (pv 4) pa_nil))) pe_int) pa_nil))))
    (pss_cons (ps_if (pt_cmpR op_lt (pv 5) (pv 7) (nomark _)) (pss_one (ps_expr (pe_bm PySem.F.plainAttrs_list PySem.F.slot_list_append PySem.F.type_list_append mt_append (pv 4) (pa_cons (pv 6) pa_nil)))) (pss_one (ps_aug (i := 5) sc_drawn.nd rfl (Or.inl rfl) (pv 7) ip_sub)))
    (pss_one (ps_aug (i := 6) sc_drawn.nd rfl (Or.inl rfl) pe_int ip_add)))))
    (pss_one (ps_ret (pe_callTy call_tuple_of (by rfl) B.tuple (by decide +kernel) (pa_cons (pv 4) pa_nil))))))))))), ?_⟩
    refine ⟨v, rfl, v, o, rfl, hw, fun e => ?_, q1⟩
    subst e
    obtain ⟨a, n, k, d, p, c, rfl, h⟩ := hw.house
    obtain ⟨⟨sk, hk⟩, q2, q3⟩ := q a n k d p c rfl h
    have n12 := h.n12; have kn := h.kn
    refine ⟨.ref a, rfl, x, rfl, a, n, k, d, p, c, x, sk, rfl, h, hk, _, rfl, ?_⟩
    cases eb : isNum x 0 ((nck n k : Nat) - 1) with
    | false => exact iteT (q2 eb)
    | true =>
      obtain ⟨i, rfl, _, hi⟩ := num_of eb (by decide)
      have hi' : i < nck n k := by have := nck_pos kn; omega
      refine iteF ⟨.ref a, rfl, a, _, _, .int n, rfl, rfl, SqT.of h.at_, atI_nat (j := 0) rfl, .ref a, rfl, a, _, _, .int k, rfl, rfl, SqT.of h.at_, atI_nat (j := 1) rfl, _, _, rfl, ?_⟩
      refine ⟨Nat.zero_le _, fun l nl => ⟨_, rfl, ?_⟩⟩
      refine ⟨fun m σ G => ∃ (ch : List Nat) (ah cell : Nat) (mv : Option V), σ = [some (.ref a), some (.int i), some (iV n), some (iV k), some (.ref l), some (iV ah), some (iV cell), mv] ∧ Ex H G ∧ G l = some (.lst (ch.map iV)) ∧ m + cell = n ∧ ch.length ≤ k ∧
        ah < nck (n - cell) (k - ch.length) ∧ ch ++ drawN (n - cell) (k - ch.length) ah cell = drawN n k i 0, ⟨n, [], i, 0, none, rfl, Ex.new nl, upd_same, rfl, Nat.zero_le _, hi', rfl⟩, ?_⟩
      rintro m σ G ⟨ch, ah, cell, mv, rfl, ex, el, em, lk, lah, eq⟩
      have hL : SqL K G l (ch.map iV) := SqL.of el
      refine ⟨.ref l, rfl, l, _, rfl, .inl hL, .int k, rfl, _, _, rfl, rfl, _, rfl, ite2 (fun e => ?_) (fun e => ?_)⟩
      · have e1 : ch.length < k := by
          have := of_decide_eq_true e
          rw [List.length_map] at this
          omega
        have cn : cell < n := by
          rcases Nat.lt_or_ge cell n with z | z
          · exact z
          · rw [show n - cell = 0 by omega, show k - ch.length = (k - ch.length - 1) + 1 by omega] at lah
            exact absurd lah (by simp [nck])
        obtain ⟨mm, e2⟩ : ∃ mm, n - cell = mm + 1 := ⟨n - cell - 1, by omega⟩
        obtain ⟨kk, e3⟩ : ∃ kk, k - ch.length = kk + 1 := ⟨k - ch.length - 1, by omega⟩
        rw [e2, e3] at lah eq
        have lah' : ah < nck mm kk + nck mm (kk + 1) := lah
        have eq' : ch ++ (if ah < nck mm kk then cell :: drawN mm kk ah (cell + 1) else drawN mm (kk + 1) (ah - nck mm kk) (cell + 1)) = drawN n k i 0 := eq
        refine ⟨fun σ' G' => ∃ (ch' : List Nat) (ah' : Nat) (mv' : Option V), σ' = [some (.ref a), some (.int i), some (iV n), some (iV k), some (.ref l), some (iV ah'), some (iV (cell + 1)), mv'] ∧ Ex H G' ∧ G' l = some (.lst (ch'.map iV)) ∧ ch'.length ≤ k ∧
          ah' < nck (n - (cell + 1)) (k - ch'.length) ∧ ch' ++ drawN (n - (cell + 1)) (k - ch'.length) ah' (cell + 1) = drawN n k i 0, ?_, ?_⟩
        · rintro σ' G' ⟨ch', ah', mv', r1, r2, r3, r4, r5, r6⟩
          exact ⟨m - 1, by omega, ch', ah', cell + 1, mv', r1, r2, r3, by omega, r4, r5, r6⟩
        refine ⟨.int n, rfl, iV cell, rfl, _, _, rfl, rfl, _, _, rfl, rfl, .int k, rfl, .ref l, rfl, l, _, rfl, .inl hL, _, _, rfl, rfl, _, _, rfl, rfl, (mm : Int), (kk : Int), ?_, by omega, by omega, by omega, ?_⟩
        · show [V.int ((n : Int) - (cell : Int) - 1), V.int ((k : Int) - ((ch.map iV).length : Int) - 1)] = _
          rw [List.length_map, show (n : Int) - (cell : Int) - 1 = (mm : Int) by omega, show (k : Int) - (ch.length : Int) - 1 = (kk : Int) by omega]
        rw [comb_bin (show mm ≤ 12 by omega) (show kk ≤ 12 by omega)]
        refine ⟨iV ah, rfl, iV (nck mm kk), rfl, _, _, rfl, rfl, _, rfl, ite2 (fun e4 => ?_) (fun e4 => ?_)⟩
        · have e5 : ah < nck mm kk := by have := of_decide_eq_true e4; omega
          rw [if_pos e5] at eq'
          refine ⟨.ref l, rfl, .inl ⟨rfl, _, hL⟩, iV cell, rfl, l, _, _, rfl, rfl, el, ?_, ?_⟩
          · rw [List.length_map]
            exact small1000 (by omega)
          · refine ⟨iV cell, rfl, _, _, rfl, rfl, ch ++ [cell], ah, _, rfl, ex.mut nl, ?_, ?_, ?_, ?_⟩
            · rw [upd_same, List.map_append] <;> rfl
            · rw [List.length_append, List.length_singleton]
              omega
            · rw [List.length_append, List.length_singleton, show n - (cell + 1) = mm by omega, show k - (ch.length + 1) = kk by omega]
              exact e5
            · rw [List.length_append, List.length_singleton, show n - (cell + 1) = mm by omega, show k - (ch.length + 1) = kk by omega, List.append_assoc]
              exact eq'
        · have e5 : ¬ ah < nck mm kk := fun z => e4 (decide_eq_true (by omega))
          rw [if_neg e5] at eq'
          refine ⟨iV ah, rfl, iV (nck mm kk), rfl, _, _, rfl, rfl, iV cell, rfl, _, _, rfl, rfl, ch, ah - nck mm kk, some (iV (nck mm kk)), ?_, ex, el, lk, ?_, ?_⟩
          · have : ((ah - nck mm kk : Nat) : Int) = (ah : Int) - (nck mm kk : Int) := by omega
            show _ = [some (V.ref a), some (.int i), some (iV n), some (iV k), some (.ref l), some (V.int ((ah - nck mm kk : Nat) : Int)), some (V.int ((cell + 1 : Nat) : Int)), some (iV (nck mm kk))]
            rw [this] <;> rfl
          · rw [show n - (cell + 1) = mm by omega, e3]
            omega
          · rw [show n - (cell + 1) = mm by omega, e3]
            exact eq'
      · have e1 : ch.length = k := by
          have : ¬ ch.length < k := fun z => e (decide_eq_true (by rw [List.length_map]; omega))
          omega
        rw [e1, Nat.sub_self] at eq
        have e2 : ch = drawN n k i 0 := by
          rw [← eq]
          cases n - cell <;> simp [drawN]
        refine ⟨.ref l, rfl, l, _, rfl, .inl ⟨hL, fun t nt => ?_⟩⟩
        rw [e2]
        exact q3 i rfl hi' t _ (fresh_back ex nt) (ex.trans (Ex.new nt)) upd_same
end
end K00

set_option maxHeartbeats 4000000
namespace K00
open PySem PySem.Spec PyProof.Rows L2 Hd Evl
/-! ### what is a set of cells -/
/-- ascending ints from c to below n -/
def ascV (n : Int) : Int → List V → Bool
  | _, [] => true
  | c, x :: r => isNum x c (n - 1) && ascV n (vInt x + 1) r
inductive SetV (K : PySem.W.Frag) (H : Hp) (n k : Nat) : V → Bool → Prop
  | out {v : V} {s : String} (h : KindV K H v s) (hs : isK s "tuple" = false) : SetV K H n k v false
  | tup {a : Addr} {xs : List V} (h : H a = some (.tup xs)) (all : ∀ x ∈ xs, ∃ s, KindV K H x s) : SetV K H n k (.ref a) (decide (xs.length = k) && ascV n 0 xs)
theorem KindV.ex {K : PySem.W.Frag} {H H' : Hp} {v : V} {s : String} (h : KindV K H v s) (e : Ex H H') : KindV K H' v s := by
  cases h with
  | non => exact .non
  | bl b => exact .bl b
  | int i => exact .int i
  | str x => exact .str x
  | lst h => exact .lst (e _ _ h)
  | tup h => exact .tup (e _ _ h)
theorem ascV_of : ∀ {n c : Nat} {xs : List V}, ascV n c xs = true → ∃ l : List Nat, xs = l.map iV ∧ asc c n l = true
  | n, c, [], _ => ⟨[], rfl, rfl⟩
  | n, c, x :: r, h => by
    have h' : (isNum x c ((n : Int) - 1) && ascV n (vInt x + 1) r) = true := h
    rw [Bool.and_eq_true] at h'
    obtain ⟨i, rfl, h1, h2⟩ := num_of h'.1 (by omega)
    have h3 : ascV n ((i + 1 : Nat) : Int) r = true := h'.2
    obtain ⟨l, e, g⟩ := ascV_of h3
    refine ⟨i :: l, by rw [e] <;> rfl, ?_⟩
    show (decide (c ≤ i) && (decide (i < n) && asc (i + 1) n l)) = true
    rw [decide_eq_true (show c ≤ i by omega), decide_eq_true (show i < n by omega), g] <;> rfl
theorem ascV_nat : ∀ {n c : Nat} {l : List Nat}, asc c n l = true → ascV n c (l.map iV) = true
  | n, c, [], _ => rfl
  | n, c, x :: r, h => by
    have h' : (decide (c ≤ x) && (decide (x < n) && asc (x + 1) n r)) = true := h
    rw [Bool.and_eq_true, Bool.and_eq_true] at h'
    have h1 := of_decide_eq_true h'.1
    have h2 := of_decide_eq_true h'.2.1
    have h3 := ascV_nat h'.2.2
    show (isNum (iV x) c ((n : Int) - 1) && ascV n (((x : Nat) : Int) + 1) (r.map iV)) = true
    rw [show ((x : Nat) : Int) + 1 = ((x + 1 : Nat) : Int) by omega, h3]
    show ((decide ((c : Int) ≤ (x : Int)) && decide ((x : Int) ≤ (n : Int) - 1)) && true) = true
    rw [decide_eq_true (show (c : Int) ≤ (x : Int) by omega), decide_eq_true (show (x : Int) ≤ (n : Int) - 1 by omega)] <;> rfl
section
variable {CX : CXT} {P : Program} {w : World} {K : PySem.W.Frag} {mg : Str → Option Value} {base : Heap} {CB CN : Addr}
def spCells (K : PySem.W.Frag) : Sp := fun vs H Q _ => ∃ a n k d p c v b, vs = [.ref a, v] ∧ HouseAt H a n k d p c ∧ SetV K H n k v b ∧ Q (.bl b) H
theorem ok_cells {f fN : Addr} {fd fdN : FuncData} (F : FnP K "is_cell_set" s_is_cell_set f fd) (T : Fn P w K mg base CX0 1 "is_number" ["value", "least", "most"] (spNumber K) fN fdN) (B : Blt mg) : FnOk P w K mg base (L2.CX P w) 2 f fd ["house", "value"] (spCells K) := by
  refine F.ok (CX := L2.CX P w) sc_is_cell_set (fun vs H Q E h => ?_) (fun cdv A outer s H vs Q E hr h => ?_)
  · obtain ⟨a, n, k, d, p, c, v, b, rfl, _⟩ := h
    rfl
  · obtain ⟨a, n, k, d, p, c, v, b, rfl, h, hs, q⟩ := h
    refine ⟨_, (pss_cons (ps_if (PW.pt (pw_or (pt_not (pt_val (pe_callB call_isS (by rfl) B.isinstance (by decide +kernel) (pa_cons (pv 1) (pa_cons (pe_ty "tuple" (by rfl) B.tuple (by decide +kernel)) pa_nil))))) (pw_or1 (pt_cmpR op_ne (pe_callB call_len_seq (by rfl) B.len (by decide +kernel) (pa_cons (pv 1) pa_nil)) (pe_ix ix_tup (pv 0) pe_int (fun _ _ => rfl)) (nomark _))))) (pss_one (ps_ret pe_bl)) pss_nil)
    (pss_cons (ps_set (i := 2) sc_is_cell_set.nd rfl (Or.inl rfl) pe_int)
    (pss_cons (ps_for (passes_of rfl) rfl (pi_tup (pv 1)) (pg_name (i := 3) sc_is_cell_set.nd rfl (Or.inl rfl)) (pss_cons (ps_if (pt_not (pt_val (pe_call T.G (hr.mono (by decide)) (by rfl) T.m T.k T.b .nil pass0 (pa_cons (pv 3) (pa_cons (pv 2) (pa_cons (pe_op op_sub (pe_ix ix_tup (pv 0) pe_int (fun _ _ => rfl)) pe_int) pa_nil)))))) (pss_one (ps_ret pe_bl)) pss_nil)
    (pss_one (ps_set (i := 2) sc_is_cell_set.nd rfl (Or.inl rfl) (pe_op op_add (pv 3) pe_int)))))
    (pss_one (ps_ret pe_bl))))), ?_⟩
    cases hs with
    | @out v sk hk e =>
      refine ⟨_, rfl, _, _, "tuple", _, rfl, hk.ty, hk.isT, _, rfl, ?_⟩
      rw [e]
      exact iteT (iteT q)
    | @tup t xs ht all =>
      refine ⟨_, rfl, _, _, "tuple", _, rfl, (KindV.tup ht).ty, (KindV.tup (K := K) ht).isT, _, rfl, iteF ?_⟩
      refine ⟨_, rfl, t, xs, rfl, .inr (SqT.of ht), .ref a, rfl, a, _, _, .int k, rfl, rfl, SqT.of h.at_, atI_nat (j := 1) rfl, rfl, _, rfl, ?_⟩
      by_cases hk : xs.length = k
      · have e : (!decide (V.int (xs.length : Int) = V.int (k : Int))) = false := by
          rw [decide_eq_true (by rw [hk])] <;> rfl
        rw [e]
        rw [decide_eq_true hk, Bool.true_and] at q
        refine iteF ⟨.ref t, rfl, t, rfl, ⟨xs, SqT.of ht⟩, for_tup (xs := xs) (fun i σ G => G = H ∧ ∃ (least : Int) (cv : Option V), σ = [some (.ref a), some (.ref t), some (.int least), cv] ∧ 0 ≤ least ∧ ascV n 0 xs = ascV n least (xs.drop i))
          ⟨rfl, 0, none, rfl, Int.le_refl _, rfl⟩ (fun i σ G _ w => by rw [w.1]; exact SqT.of ht) (fun i x σ G hx w => ?_) (fun σ G w => ?_)⟩
        · obtain ⟨rfl, least, cv, rfl, l0, eq⟩ := w
          have dr : xs.drop i = x :: xs.drop (i + 1) := by
            have hi := (List.getElem?_eq_some_iff.mp hx)
            obtain ⟨hi, ex⟩ := hi
            rw [List.drop_eq_getElem_cons hi, ex]
          rw [dr] at eq
          have eq' : ascV n 0 xs = (isNum x least ((n : Int) - 1) && ascV n (vInt x + 1) (xs.drop (i + 1))) := eq
          obtain ⟨sk, hkx⟩ := all x (List.mem_of_getElem? hx)
          refine ⟨x, rfl, .int least, rfl, .ref a, rfl, a, _, _, .int n, rfl, rfl, SqT.of h.at_, atI_nat (j := 0) rfl, _, _, rfl, rfl, x, sk, least, (n : Int) - 1, rfl, hkx, _, rfl, ?_⟩
          cases eb : isNum x least ((n : Int) - 1) with
          | false =>
            rw [eb, Bool.false_and] at eq'
            rw [eq'] at q
            exact iteT q
          | true =>
            obtain ⟨y, rfl, y1, y2⟩ := num_of eb l0
            rw [eb, Bool.true_and] at eq'
            exact iteF ⟨iV y, rfl, _, _, rfl, rfl, rfl, (y : Int) + 1, some (iV y), rfl, by omega, eq'⟩
        · obtain ⟨rfl, least, cv, rfl, l0, eq⟩ := w
          rw [List.drop_of_length_le (Nat.le_refl _)] at eq
          have eq' : ascV n 0 xs = true := eq
          rw [eq'] at q
          exact q
      · have e : (!decide (V.int (xs.length : Int) = V.int (k : Int))) = true := by
          rw [decide_eq_false (fun z => hk (by injection z with z; omega))] <;> rfl
        rw [e]
        rw [decide_eq_false hk, Bool.false_and] at q
        exact iteT q
end
end K00

set_option maxHeartbeats 4000000
namespace K00
open PySem PySem.Spec PyProof.Rows L2 Hd Evl
theorem ahead_succ : ∀ (t k c m : Nat), ahead t k c (m + 1) = ahead t k c m + nck (t - (c + m) - 1) k
  | t, k, c, 0 => by
    show nck (t - c - 1) k + 0 = 0 + nck (t - (c + 0) - 1) k
    rw [Nat.add_zero, Nat.add_zero, Nat.zero_add]
  | t, k, c, m + 1 => by
    show nck (t - c - 1) k + ahead t k (c + 1) (m + 1) = nck (t - c - 1) k + ahead t k (c + 1) m + nck (t - (c + (m + 1)) - 1) k
    rw [ahead_succ t k (c + 1) m, show c + 1 + m = c + (m + 1) by omega]
    omega
theorem asc_drop : ∀ {l : List Nat} {c t i x : Nat}, asc c t l = true → l[i]? = some x → x < t ∧ c ≤ x ∧ asc (x + 1) t (l.drop (i + 1)) = true
  | [], _, _, i, x, _, h => by simp at h
  | y :: r, c, t, 0, x, h, e => by
    have e' : y = x := Option.some.inj e
    subst e'
    have h' : (decide (c ≤ y) && (decide (y < t) && asc (y + 1) t r)) = true := h
    rw [Bool.and_eq_true, Bool.and_eq_true] at h'
    exact ⟨of_decide_eq_true h'.2.1, of_decide_eq_true h'.1, h'.2.2⟩
  | y :: r, c, t, i + 1, x, h, e => by
    have h' : (decide (c ≤ y) && (decide (y < t) && asc (y + 1) t r)) = true := h
    rw [Bool.and_eq_true, Bool.and_eq_true] at h'
    have ih := asc_drop (l := r) (i := i) (x := x) h'.2.2 (by simpa using e)
    have := of_decide_eq_true h'.1
    exact ⟨ih.1, by omega, ih.2.2⟩
theorem SetV.yes {K : PySem.W.Frag} {H : Hp} {n k : Nat} {v : V} {b : Bool} (h : SetV K H n k v b) (e : b = true) : ∃ t l, v = .ref t ∧ H t = some (.tup (l.map iV)) ∧ l.length = k ∧ asc 0 n l = true := by
  cases h with
  | out => cases e
  | @tup t xs ht all =>
    rw [Bool.and_eq_true] at e
    obtain ⟨l, rfl, g⟩ := ascV_of (c := 0) e.2
    exact ⟨t, l, rfl, ht, by have := of_decide_eq_true e.1; simpa using this, g⟩
section
variable {CX : CXT} {P : Program} {w : World} {K : PySem.W.Frag} {mg : Str → Option Value} {base : Heap} {CB CN : Addr}
structure CoinOfP (K : PySem.W.Frag) (CB CN : Addr) (vs : List V) (H : Hp) (Q : VK) (E : XK) : Prop where
  go : ∃ v x o, vs = [v, x] ∧ Wr K H v o ∧ (∀ y, o = some y → Refuses CB E H y) ∧
  ∀ a n k d p c, v = .ref a → HouseAt H a n k d p c → ∃ b, SetV K H n k x b ∧ (b = false → E (.ref CN) none H) ∧ ∀ t l, x = .ref t → H t = some (.tup (l.map iV)) → l.length = k → asc 0 n l = true → ∀ H', Ex H H' → Q (iV (coinN n 0 l)) H'
def spCoinOf (K : PySem.W.Frag) (CB CN : Addr) : Sp := fun vs H Q E => CoinOfP K CB CN vs H Q E
theorem ok_coin_of {f fC fI : Addr} {fd fdC fdI : FuncData} (F : FnP K "coin_of" s_coin_of f fd) (T : Fn P w K mg base (L2.CX P w) 3 "check_house" ["house"] (spCheck K CB) fC fdC) (TI : Fn P w K mg base (L2.CX P w) 2 "is_cell_set" ["house", "value"] (spCells K) fI fdI) (N : ErrP K mg "BadNumber" CN) (B : Blt mg) :
    FnOk P w K mg base (L2.CX P w) 4 f fd ["house", "cells"] (spCoinOf K CB CN) := by
  refine F.ok (CX := L2.CX P w) sc_coin_of (fun vs H Q E h => ?_) (fun cdv A outer s H vs Q E hr h => ?_)
  · obtain ⟨v, x, o, rfl, _⟩ := h
    rfl
  · obtain ⟨v, x, o, rfl, hw, q1, q⟩ := h
    refine ⟨_, (pss_cons (ps_expr (pe_call T.G hr (by rfl) T.m T.k T.b .nil (passX (E := E) rfl rfl rfl rfl) (pa_cons (pv 0) pa_nil)))
    (pss_cons (ps_if (pt_not (pt_val (pe_call TI.G (hr.mono (by decide)) (by rfl) TI.m TI.k TI.b .nil (passX (E := E) rfl rfl rfl rfl) (pa_cons (pv 0) (pa_cons (pv 1) pa_nil))))) (pss_one (ps_raiseP N rfl (takes_of (E := E) rfl rfl rfl rfl) (by rfl))) pss_nil)
    (pss_cons (ps_set (i := 2) sc_coin_of.nd rfl (Or.inl rfl) pe_int)
    (pss_cons (ps_set (i := 3) sc_coin_of.nd rfl (Or.inl rfl) pe_int)
    (pss_cons (ps_for (passes_of rfl) rfl (pi_enumT (by rfl) B.enumerate (pa_cons (pv 1) pa_nil)) (pg_tup rfl (pgs_cons (pg_name (i := 4) sc_coin_of.nd rfl (Or.inl rfl)) (pgs_cons (pg_name (i := 5) sc_coin_of.nd rfl (Or.inl rfl)) pgs_nil))) (pss_cons (ps_for (passes_of rfl) rfl (pi_range2 (by rfl) B.range (pa_cons (pv 3) (pa_cons (pv 5) pa_nil))) (pg_name (i := 6) sc_coin_of.nd rfl (Or.inl rfl)) (pss_one (ps_aug (i := 2) sc_coin_of.nd rfl (Or.inl rfl) (pe_callBfun call_comb (by rfl) B.comb (pa_cons (pe_op op_sub (pe_op op_sub (pe_ix ix_tup (pv 0) pe_int (fun _ _ => rfl)) (pv 6)) pe_int) (pa_cons (pe_op op_sub (pe_op op_sub (pe_ix ix_tup (pv 0) pe_int (fun _ _ => rfl)) (pv 4)) pe_int) pa_nil))) ip_add)))
    (pss_one (ps_set (i := 3) sc_coin_of.nd rfl (Or.inl rfl) (pe_op op_add (pv 5) pe_int)))))
    (pss_one (ps_ret (pv 2)))))))), ?_⟩
    refine ⟨v, rfl, v, o, rfl, hw, fun e => ?_, q1⟩
    subst e
    obtain ⟨a, n, k, d, p, c, rfl, h⟩ := hw.house
    obtain ⟨b, hs, q2, q3⟩ := q a n k d p c rfl h
    have n12 := h.n12; have kn := h.kn
    refine ⟨.ref a, rfl, x, rfl, a, n, k, d, p, c, x, b, rfl, h, hs, _, rfl, ?_⟩
    cases b with
    | false => exact iteT (q2 rfl)
    | true =>
      obtain ⟨t, l, rfl, ht, hl, hasc⟩ := hs.yes rfl
      have q4 := q3 t l rfl ht hl hasc
      refine iteF ⟨.ref t, rfl, t, l.map iV, rfl, SqT.of ht, ?_⟩
      refine for_enumT (xs := l.map iV) (fun i σ G => ∃ (acc least : Nat) (y4 y5 y6 : Option V), σ = [some (.ref a), some (.ref t), some (iV acc), some (iV least), y4, y5, y6] ∧ Ex H G ∧ coinN n 0 l = acc + coinN n least (l.drop i) ∧ asc least n (l.drop i) = true)
        ⟨0, 0, none, none, none, rfl, Ex.refl H, (Nat.zero_add _).symm, hasc⟩ (fun i σ G _ w => ?_) (fun i x σ G p2 hx w np => ?_) (fun σ G w => ?_)
      · obtain ⟨_, _, _, _, _, _, ex, _⟩ := w
        exact SqT.of (ex _ _ ht)
      · obtain ⟨acc, least, y4, y5, y6, rfl, ex, eq, as⟩ := w
        rw [List.getElem?_map] at hx
        obtain ⟨z, hz, ez⟩ := Option.map_eq_some_iff.mp hx
        subst ez
        have hi : i < l.length := (List.getElem?_eq_some_iff.mp hz).1
        have dr : l.drop i = z :: l.drop (i + 1) := by
          obtain ⟨hi', e'⟩ := List.getElem?_eq_some_iff.mp hz
          rw [List.drop_eq_getElem_cons hi', e']
        rw [dr] at eq as
        have as' : (decide (least ≤ z) && (decide (z < n) && asc (z + 1) n (l.drop (i + 1)))) = true := as
        rw [Bool.and_eq_true, Bool.and_eq_true] at as'
        have z1 := of_decide_eq_true as'.1
        have z2 := of_decide_eq_true as'.2.1
        have rl : (l.drop (i + 1)).length = k - i - 1 := by rw [List.length_drop]; omega
        have eq' : coinN n 0 l = acc + (ahead n (l.drop (i + 1)).length least (z - least) + coinN n (z + 1) (l.drop (i + 1))) := eq
        rw [rl] at eq'
        have ex2 : Ex H (upd G p2 (.tup [iV i, iV z])) := ex.trans (Ex.new np)
        refine ⟨p2, _, rfl, SqT.of upd_same, rfl, _, _, rfl, _, _, rfl, rfl, ?_⟩
        refine ⟨iV least, rfl, iV z, rfl, (least : Int), (z : Int), rfl, ⟨by omega, by omega, by omega, by omega⟩, ?_⟩
        rw [show ((z : Int) - (least : Int)).toNat = z - least by omega]
        refine for_range (lo := (least : Int)) (n := z - least) (fun j σ G' => G' = upd G p2 (.tup [iV i, iV z]) ∧ ∃ y6 : Option V, σ = [some (.ref a), some (.ref t), some (iV (acc + ahead n (k - i - 1) least j)), some (iV least), some (iV i), some (iV z), y6]) ⟨rfl, y6, rfl⟩ (fun j σ G' hj w => ?_) (fun σ G' w => ?_)
        · obtain ⟨rfl, y6, rfl⟩ := w
          have sq : SqT K (upd G p2 (.tup [iV i, iV z])) a _ := SqT.of (ex2 _ _ h.at_)
          refine ⟨iV (acc + ahead n (k - i - 1) least j), rfl, .ref a, rfl, a, _, _, .int n, rfl, rfl, sq, atI_nat (j := 0) rfl, .int ((least : Int) + (j : Int)), rfl, _, _, rfl, rfl, _, _, rfl, rfl, .ref a, rfl, a, _, _, .int k, rfl, rfl, sq, atI_nat (j := 1) rfl, iV i, rfl, _, _, rfl, rfl, _, _, rfl, rfl,
            ((n - (least + j) - 1 : Nat) : Int), ((k - i - 1 : Nat) : Int), ?_, by omega, by omega, by omega, ?_⟩
          · show [V.int ((n : Int) - ((least : Int) + (j : Int)) - 1), V.int ((k : Int) - (i : Int) - 1)] = _
            rw [show (n : Int) - ((least : Int) + (j : Int)) - 1 = ((n - (least + j) - 1 : Nat) : Int) by omega, show (k : Int) - (i : Int) - 1 = ((k - i - 1 : Nat) : Int) by omega]
          rw [comb_bin (by omega) (by omega)]
          refine ⟨_, _, rfl, rfl, rfl, some (.int ((least : Int) + (j : Int))), ?_⟩
          have e1 : ((acc + ahead n (k - i - 1) least (j + 1) : Nat) : Int) = ((acc + ahead n (k - i - 1) least j : Nat) : Int) + ((nck (n - (least + j) - 1) (k - i - 1) : Nat) : Int) := by
            rw [ahead_succ]
            omega
          show _ = [some (V.ref a), some (V.ref t), some (V.int ((acc + ahead n (k - i - 1) least (j + 1) : Nat) : Int)), some (iV least), some (iV i), some (iV z), some (V.int ((least : Int) + (j : Int)))]
          rw [e1] <;> rfl
        · obtain ⟨rfl, y6, rfl⟩ := w
          exact ⟨iV z, rfl, _, _, rfl, rfl, acc + ahead n (k - i - 1) least (z - least), z + 1, some (iV i), some (iV z), y6, rfl, ex2, by omega, as'.2.2⟩
      · obtain ⟨acc, least, y4, y5, y6, rfl, ex, eq, as⟩ := w
        rw [List.length_map, List.drop_of_length_le (Nat.le_refl _)] at eq
        have eq' : coinN n 0 l = acc := eq
        rw [eq'] at q4
        exact ⟨iV acc, rfl, q4 G ex⟩
end
end K00

set_option maxHeartbeats 4000000
namespace K00
open PySem PySem.Spec PyProof.Rows L2 Hd Evl
/-! ### the law's reader of the script -/
/-- at a the ints of the script, whatever is written at r -/
def Src (K : PySem.W.Frag) (r a : Addr) (ns : List Int) (H : Hp) : Prop := (∀ G, SqL K G a (ns.map V.int)) ∨ (a ≠ r ∧ Rd H a (.lst (ns.map V.int)))
section
variable {K : PySem.W.Frag} {r a : Addr} {ns : List Int} {H H' : Hp}
theorem Src.sq (h : Src K r a ns H) : SqL K H a (ns.map V.int) := h.elim (fun q => q H) fun q => .inl q.2
theorem Src.ex (h : Src K r a ns H) (e : Ex H H') : Src K r a ns H' := h.elim .inl fun q => .inr ⟨q.1, ex_rd e q.2⟩
theorem Src.row {o : HO} (h : Src K r a ns H) : Src K r a ns (upd H r o) := h.elim .inl fun q => .inr ⟨q.1, by
  rcases q.2 with z | ⟨u, z⟩
  · exact .inl (by rw [upd_ne q.1]; exact z)
  · exact .inr ⟨u, by rw [upd_ne q.1]; exact z⟩⟩
/-- a new address -/
theorem Src.new (h : SqL K H a (ns.map V.int)) (n : H r = none) : Src K r a ns H := by
  rcases h with h | h
  · refine .inr ⟨fun e => ?_, h⟩
    rw [e] at h
    rcases h with z | ⟨u, z⟩ <;> rw [n] at z <;> cases z
  · exact .inl fun G => .inr h
end
abbrev rowV (a : Addr) (i sd rs : Int) : List V := [.ref a, .int i, .int sd, .int rs]
section
variable {CX : CXT} {P : Program} {w : World} {K : PySem.W.Frag} {mg : Str → Option Value} {base : Heap}
structure TakenP (K : PySem.W.Frag) (vs : List V) (H : Hp) (Q : VK) (E : XK) : Prop where
  go : ∃ (r a : Addr) (ns : List Int) (i sd rs : Int) (many : Nat), vs = [.ref r, .int many] ∧ H r = some (.lst (rowV a i sd rs)) ∧ Src K r a ns H ∧ 0 ≤ i ∧ 0 ≤ sd ∧ sd < 2147483647 ∧ 1 ≤ many ∧ many < 2 ^ 60 ∧
  ∀ (i' sd' rs' : Int) (x : Nat), 0 ≤ i' → 0 ≤ sd' → sd' < 2147483647 → x < many → Q (iV x) (upd H r (.lst (rowV a i' sd' rs')))
def spTaken (K : PySem.W.Frag) : Sp := fun vs H Q E => TakenP K vs H Q E
theorem modN {i : Int} {m : Nat} (h : 1 ≤ m) : ∃ x : Nat, i % (m : Int) = (x : Int) ∧ x < m := by
  have h1 : 0 ≤ i % (m : Int) := Int.emod_nonneg i (by omega)
  have h2 : i % (m : Int) < (m : Int) := Int.emod_lt_of_pos i (by omega)
  exact ⟨(i % (m : Int)).toNat, by omega, by omega⟩
theorem modM (i : Int) : 0 ≤ i % 2147483647 ∧ i % 2147483647 < 2147483647 := ⟨Int.emod_nonneg i (by decide), Int.emod_lt_of_pos i (by decide)⟩
theorem divOk {m : Nat} (h : 1 ≤ m) (h2 : m < 2 ^ 60) (i : Int) : CDivW i (m : Int) := wide_div (b := 60) (by omega) (by simpa using h2) (by decide) (by decide)
theorem ok_taken {f : Addr} {fd : FuncData} (F : FnP K "_law_taken" s__law_taken f fd) (B : Blt mg) : FnOk P w K mg base CX 1 f fd ["row", "many"] (spTaken K) := by
  refine F.ok (CX := CX) sc__law_taken (fun vs H Q E h => ?_) (fun cdv A outer s H vs Q E hr h => ?_)
  · obtain ⟨r, a, ns, i, sd, rs, many, rfl, _⟩ := h
    rfl
  · obtain ⟨r, a, ns, i, sd, rs, many, rfl, hr0, src, i0, s0, s1, m1, m2, q⟩ := h
    refine ⟨_, (pss_cons (ps_if (pt_cmpR op_gt (pe_ix ix_list (pv 0) pe_int (fun _ _ => rfl)) pe_int (nomark _)) (pss_cons (ps_set (i := 2) sc__law_taken.nd rfl (Or.inl rfl) (pe_op op_mod (pe_callTy call_int1 (by rfl) B.int (by decide +kernel) (pa_cons (pe_ix ix_list (pv 0) pe_int (fun _ _ => rfl)) pa_nil)) (pv 1)))
    (pss_cons (ps_asg (pe_op op_fdivW (pe_ix ix_list (pv 0) pe_int (fun _ _ => rfl)) (pv 1)) (pg_sub (pv 0) pe_int set_list))
    (pss_one (ps_ret (pv 2))))) pss_nil)
    (pss_cons (ps_asg (pe_op op_add (pe_ix ix_list (pv 0) pe_int (fun _ _ => rfl)) pe_int) (pg_sub (pv 0) pe_int set_list))
    (pss_cons (ps_if (pt_cmpR op_gt (pe_ix ix_list (pv 0) pe_int (fun _ _ => rfl)) (pe_callB call_len_seq (by rfl) B.len (by decide +kernel) (pa_cons (pe_ix ix_list (pv 0) pe_int (fun _ _ => rfl)) pa_nil)) (nomark _)) (pss_cons (ps_asg (pe_op op_mod (pe_callTy call_int1 (by rfl) B.int (by decide +kernel) (pa_cons (pe_op op_add (pe_op op_mul (pe_ix ix_list (pv 0) pe_int (fun _ _ => rfl)) pe_int) pe_int) pa_nil)) pe_int) (pg_sub (pv 0) pe_int set_list))
    (pss_one (ps_ret (pe_op op_mod (pe_callTy call_int1 (by rfl) B.int (by decide +kernel) (pa_cons (pe_op op_fdivW (pe_ix ix_list (pv 0) pe_int (fun _ _ => rfl)) pe_int) pa_nil)) (pv 1))))) pss_nil)
    (pss_cons (ps_set (i := 3) sc__law_taken.nd rfl (Or.inl rfl) (pe_ix ix_list (pe_ix ix_list (pv 0) pe_int (fun _ _ => rfl)) (pe_op op_sub (pe_ix ix_list (pv 0) pe_int (fun _ _ => rfl)) pe_int) (fun _ _ => rfl)))
    (pss_cons (ps_asg (pe_op op_mod (pe_callTy call_int1 (by rfl) B.int (by decide +kernel) (pa_cons (pe_op op_add (pe_op op_add (pe_op op_mul (pe_ix ix_list (pv 0) pe_int (fun _ _ => rfl)) pe_int) (pv 3)) pe_int) pa_nil)) pe_int) (pg_sub (pv 0) pe_int set_list))
    (pss_cons (ps_if (pt_cmpR op_ge (pv 3) (pe_op op_pow pe_int pe_int) (nomark _)) (pss_one (ps_asg (pe_op op_fdivW (pv 3) (pv 1)) (pg_sub (pv 0) pe_int set_list))) pss_nil)
    (pss_one (ps_ret (pe_op op_mod (pe_callTy call_int1 (by rfl) B.int (by decide +kernel) (pa_cons (pv 3) pa_nil)) (pv 1)))))))))), ?_⟩
    have rd : ∀ {G : Hp} {xs : List V}, G r = some (.lst xs) → SqL K G r xs := fun h => SqL.of h
    refine ⟨.ref r, rfl, r, _, _, .int rs, rfl, rfl, rd hr0, atI_nat (j := 3) rfl, _, _, rfl, rfl, _, rfl, ite2 (fun _ => ?_) (fun _ => ?_)⟩
    · -- a great cell's digits
      obtain ⟨x, ex, lx⟩ := modN (i := rs) m1
      refine ⟨.ref r, rfl, r, _, _, .int rs, rfl, rfl, rd hr0, atI_nat (j := 3) rfl, .inl ⟨_, rfl, .int many, rfl, _, _, rfl, rfl, by omega, ?_⟩⟩
      dsimp only
      rw [ex]
      refine ⟨.ref r, rfl, r, _, _, .int rs, rfl, rfl, rd hr0, atI_nat (j := 3) rfl, .int many, rfl, _, _, rfl, rfl, divOk m1 m2 rs, .ref r, rfl, r, _, _, 3, rfl, rfl, hr0, rfl, iV x, rfl, ?_⟩
      exact q i sd (rs / (many : Int)) x i0 s0 s1 lx
    · refine ⟨.ref r, rfl, r, _, _, .int i, rfl, rfl, rd hr0, atI_nat (j := 1) rfl, _, _, rfl, rfl, .ref r, rfl, r, _, _, 1, rfl, rfl, hr0, rfl, ?_⟩
      have h1 : upd H r (.lst ((rowV a i sd rs).set 1 (.int (i + 1)))) r = some (.lst (rowV a (i + 1) sd rs)) := upd_same
      have src1 : Src K r a ns (upd H r (.lst ((rowV a i sd rs).set 1 (.int (i + 1))))) := src.row
      generalize hG : upd H r (.lst ((rowV a i sd rs).set 1 (.int (i + 1)))) = G at h1 src1
      have up : ∀ o, upd G r o = upd H r o := fun o => by rw [← hG, upd_upd]
      refine ⟨.ref r, rfl, r, _, _, .int (i + 1), rfl, rfl, rd h1, atI_nat (j := 1) rfl, .ref r, rfl, r, _, _, .ref a, rfl, rfl, rd h1, atI_nat (j := 0) rfl, a, _, rfl, .inl src1.sq, _, _, rfl, rfl, _, rfl, ite2 (fun e => ?_) (fun e => ?_)⟩
      · -- the script is done
        refine ⟨.ref r, rfl, r, _, _, .int sd, rfl, rfl, rd h1, atI_nat (j := 2) rfl, _, _, rfl, rfl, .inl ⟨by omega, by omega⟩, _, _, rfl, rfl, .inl ⟨_, rfl, _, _, rfl, rfl, (by show (0 : Int) < 2147483647; decide), .ref r, rfl, r, _, _, 2, rfl, rfl, h1, rfl, ?_⟩⟩
        have b := modM (sd * 48271 + 11)
        dsimp only
        rw [up]
        have h2 : upd H r (.lst ((rowV a (i + 1) sd rs).set 2 (.int ((sd * 48271 + 11) % 2147483647)))) r = some (.lst (rowV a (i + 1) ((sd * 48271 + 11) % 2147483647) rs)) := upd_same
        obtain ⟨x, ex, lx⟩ := modN (i := (sd * 48271 + 11) % 2147483647 / 7) m1
        refine ⟨.ref r, rfl, r, _, _, _, rfl, rfl, rd h2, atI_nat (j := 2) rfl, _, _, rfl, rfl, ⟨by decide, by decide⟩, .inl ⟨_, rfl, .int many, rfl, _, _, rfl, rfl, by omega, ?_⟩⟩
        dsimp only
        rw [ex]
        exact q (i + 1) _ rs x (by omega) b.1 b.2 lx
      · -- the next cell
        have hlt : i < ns.length := by
          have : ¬ (((ns.map V.int).length : Int) < i + 1) := fun z => e (decide_eq_true z)
          rw [List.length_map] at this
          omega
        obtain ⟨j, rfl⟩ : ∃ j : Nat, i = j := ⟨i.toNat, by omega⟩
        have hj : j < ns.length := by omega
        have g : (ns.map V.int)[j]? = some (.int ns[j]) := by rw [List.getElem?_map, List.getElem?_eq_getElem hj] <;> rfl
        have ga : atI (ns.map V.int) ((j : Int) + 1 - 1) = some (.int ns[j]) := by
          rw [show (j : Int) + 1 - 1 = (j : Int) by omega]
          exact atI_nat g
        refine ⟨.ref r, rfl, r, _, _, .ref a, rfl, rfl, rd h1, atI_nat (j := 0) rfl, .ref r, rfl, r, _, _, .int ((j : Int) + 1), rfl, rfl, rd h1, atI_nat (j := 1) rfl, _, _, rfl, rfl, a, _, _, .int ns[j], rfl, rfl, src1.sq, ga, ?_⟩
        generalize ns[j] = z
        refine ⟨.ref r, rfl, r, _, _, .int sd, rfl, rfl, rd h1, atI_nat (j := 2) rfl, _, _, rfl, rfl, .inl ⟨by omega, by omega⟩, .int z, rfl, _, _, rfl, rfl, _, _, rfl, rfl, .inl ⟨_, rfl, _, _, rfl, rfl, (by show (0 : Int) < 2147483647; decide), .ref r, rfl, r, _, _, 2, rfl, rfl, h1, rfl, ?_⟩⟩
        have b := modM (sd * 48271 + z + 11)
        dsimp only
        rw [up]
        have h2 : upd H r (.lst ((rowV a ((j : Int) + 1) sd rs).set 2 (.int ((sd * 48271 + z + 11) % 2147483647)))) r = some (.lst (rowV a ((j : Int) + 1) ((sd * 48271 + z + 11) % 2147483647) rs)) := upd_same
        obtain ⟨x, ex, lx⟩ := modN (i := z) m1
        refine ⟨.int z, rfl, _, _, rfl, rfl, ⟨by decide, by decide, by decide⟩, _, _, rfl, rfl, _, rfl, ite2 (fun _ => ?_) (fun _ => ?_)⟩
        · refine ⟨.int z, rfl, .int many, rfl, _, _, rfl, rfl, divOk m1 m2 z, .ref r, rfl, r, _, _, 3, rfl, rfl, h2, rfl, ?_⟩
          refine ⟨.int z, rfl, .inl ⟨_, rfl, .int many, rfl, _, _, rfl, rfl, by omega, ?_⟩⟩
          dsimp only
          rw [ex, upd_upd]
          exact q ((j : Int) + 1) _ (z / (many : Int)) x (by omega) b.1 b.2 lx
        · refine ⟨.int z, rfl, .inl ⟨_, rfl, .int many, rfl, _, _, rfl, rfl, by omega, ?_⟩⟩
          dsimp only
          rw [ex]
          exact q ((j : Int) + 1) _ rs x (by omega) b.1 b.2 lx
end
end K00

set_option maxHeartbeats 4000000
namespace K00
open PySem PySem.Spec PyProof.Rows L2 Hd Evl
/-! ### what the law takes for wrong -/
def wordsV : List V := [.str "cells", .str "sealed", .str "drawers", .str "pages", .str "copies"]
def lowsV : List V := [.int 2, .int 1, .int 1, .int 1, .int 1]
def topsV (t : V) : List V := [.int 12, t, .int 4, .int 6, .int 3]
/-- the first i of them are right -/
def Good (x1 x2 x3 x4 x5 : V) (i : Nat) : Prop := (0 < i → isNum x1 2 12 = true) ∧ (1 < i → isNum x2 1 (vInt x1) = true) ∧ (2 < i → isNum x3 1 4 = true) ∧ (3 < i → isNum x4 1 6 = true) ∧ (4 < i → isNum x5 1 3 = true)
theorem wrongOf_if {c s d p n : V} : wrongOf c s d p n = ((if isNum c 2 12 = false then some "cells" else if isNum s 1 (vInt c) = false then some "sealed" else if isNum d 1 4 = false then some "drawers" else if isNum p 1 6 = false then some "pages" else if isNum n 1 3 = false then some "copies" else none) : Option Str) := rfl
theorem good_turn {x1 x2 x3 x4 x5 t : V} {i : Nat} (hi : i < 5) (g : Good x1 x2 x3 x4 x5 i) (ht : isNum x1 2 12 = true → t = x1) :
    ∃ (x : V) (lo top : Int) (y : Str), [x1, x2, x3, x4, x5][i]? = some x ∧ lowsV[i]? = some (.int lo) ∧ (topsV t)[i]? = some (.int top) ∧ wordsV[i]? = some (.str y) ∧ (isNum x lo top = false → wrongOf x1 x2 x3 x4 x5 = some y) ∧ (isNum x lo top = true → Good x1 x2 x3 x4 x5 (i + 1)) := by
  obtain ⟨g1, g2, g3, g4, g5⟩ := g
  have tt : ∀ {a b : Bool}, a = true → ¬ a = false := fun h z => by rw [h] at z; cases z
  match i, hi with
  | 0, _ => exact ⟨x1, 2, 12, "cells", rfl, rfl, rfl, rfl, fun h => by rw [wrongOf_if, if_pos h], fun h => ⟨fun _ => h, fun z => by omega, fun z => by omega, fun z => by omega, fun z => by omega⟩⟩
  | 1, _ =>
    have h1 := g1 (by omega)
    refine ⟨x2, 1, vInt x1, "sealed", rfl, rfl, ?_, rfl, fun h => by rw [wrongOf_if, if_neg (tt (b := true) h1), if_pos h], fun h => ⟨fun _ => h1, fun _ => h, fun z => by omega, fun z => by omega, fun z => by omega⟩⟩
    show some t = _
    rw [ht h1, ← isNum_int h1]
  | 2, _ =>
    have h1 := g1 (by omega)
    have h2 := g2 (by omega)
    exact ⟨x3, 1, 4, "drawers", rfl, rfl, rfl, rfl, fun h => by rw [wrongOf_if, if_neg (tt (b := true) h1), if_neg (tt (b := true) h2), if_pos h], fun h => ⟨fun _ => h1, fun _ => h2, fun _ => h, fun z => by omega, fun z => by omega⟩⟩
  | 3, _ =>
    have h1 := g1 (by omega)
    have h2 := g2 (by omega)
    have h3 := g3 (by omega)
    exact ⟨x4, 1, 6, "pages", rfl, rfl, rfl, rfl, fun h => by rw [wrongOf_if, if_neg (tt (b := true) h1), if_neg (tt (b := true) h2), if_neg (tt (b := true) h3), if_pos h], fun h => ⟨fun _ => h1, fun _ => h2, fun _ => h3, fun _ => h, fun z => by omega⟩⟩
  | 4, _ =>
    have h1 := g1 (by omega)
    have h2 := g2 (by omega)
    have h3 := g3 (by omega)
    have h4 := g4 (by omega)
    exact ⟨x5, 1, 3, "copies", rfl, rfl, rfl, rfl, fun h => by rw [wrongOf_if, if_neg (tt (b := true) h1), if_neg (tt (b := true) h2), if_neg (tt (b := true) h3), if_neg (tt (b := true) h4), if_pos h], fun h => ⟨fun _ => h1, fun _ => h2, fun _ => h3, fun _ => h4, fun _ => h⟩⟩
theorem good_end {x1 x2 x3 x4 x5 : V} (g : Good x1 x2 x3 x4 x5 5) : wrongOf x1 x2 x3 x4 x5 = none := by
  obtain ⟨g1, g2, g3, g4, g5⟩ := g
  have tt : ∀ {a : Bool}, a = true → ¬ a = false := fun h z => by rw [h] at z; cases z
  rw [wrongOf_if, if_neg (tt (g1 (by omega))), if_neg (tt (g2 (by omega))), if_neg (tt (g3 (by omega))), if_neg (tt (g4 (by omega))), if_neg (tt (g5 (by omega)))]
section
variable {CX : CXT} {P : Program} {w : World} {K : PySem.W.Frag} {mg : Str → Option Value} {base : Heap}
def spLawWrong (K : PySem.W.Frag) : Sp := fun vs H Q _ => ∃ v o, vs = [v] ∧ Wr K H v o ∧ RetV (optV o) H Q
theorem ok_law_wrong {f : Addr} {fd : FuncData} (F : FnP K "_law_wrong" s__law_wrong f fd) (B : Blt mg) : FnOk P w K mg base CX 1 f fd ["value"] (spLawWrong K) := by
  refine F.ok (CX := CX) sc__law_wrong (fun vs H Q E h => ?_) (fun cdv A outer s H vs Q E hr h => ?_)
  · obtain ⟨v, o, rfl, _⟩ := h
    rfl
  · obtain ⟨v, o, rfl, hw, q⟩ := h
    refine ⟨_, (pss_cons (ps_if (PW.pt (pw_or (pt_not (pt_val (pe_callB call_isS (by rfl) B.isinstance (by decide +kernel) (pa_cons (pv 0) (pa_cons (pe_ty "tuple" (by rfl) B.tuple (by decide +kernel)) pa_nil))))) (pw_or1 (pt_cmpR op_ne (pe_callB call_len_seq (by rfl) B.len (by decide +kernel) (pa_cons (pv 0) pa_nil)) pe_int (nomark _))))) (pss_one (ps_ret pe_str)) pss_nil)
    (pss_cons (ps_set (i := 1) sc__law_wrong.nd rfl (Or.inl rfl) (pe_lst (pa_cons pe_str (pa_cons pe_str (pa_cons pe_str (pa_cons pe_str (pa_cons pe_str pa_nil)))))))
    (pss_cons (ps_set (i := 2) sc__law_wrong.nd rfl (Or.inl rfl) (pe_lst (pa_cons pe_int (pa_cons (pe_ifExp (pt_val (pe_callB call_isS (by rfl) B.isinstance (by decide +kernel) (pa_cons (pe_ix ix_tup (pv 0) pe_int (fun _ _ => rfl)) (pa_cons (pe_ty "int" (by rfl) B.int (by decide +kernel)) pa_nil)))) (pe_ix ix_tup (pv 0) pe_int (fun _ _ => rfl)) pe_int) (pa_cons pe_int (pa_cons pe_int (pa_cons pe_int pa_nil)))))))
    (pss_cons (ps_set (i := 3) sc__law_wrong.nd rfl (Or.inl rfl) (pe_lst (pa_cons pe_int (pa_cons pe_int (pa_cons pe_int (pa_cons pe_int (pa_cons pe_int pa_nil)))))))
    (pss_cons (ps_for (passes_of rfl) rfl (pi_range1 (by rfl) B.range (pa_cons pe_int pa_nil)) (pg_name (i := 4) sc__law_wrong.nd rfl (Or.inl rfl)) (pss_one (ps_if (PW.pt (pw_or (pt_not (pt_val (pe_callB call_isS (by rfl) B.isinstance (by decide +kernel) (pa_cons (pe_ix ix_tup (pv 0) (pv 4) (fun _ _ => rfl)) (pa_cons (pe_ty "int" (by rfl) B.int (by decide +kernel)) pa_nil))))) (pw_or (pt_val (pe_callB call_isS (by rfl) B.isinstance (by decide +kernel) (pa_cons (pe_ix ix_tup (pv 0) (pv 4) (fun _ _ => rfl)) (pa_cons (pe_ty "bool" (by rfl) B.bool (by decide +kernel)) pa_nil)))) (pw_or1 (pt_not (pt_chain op_le op_le (pe_ix ix_list (pv 3) (pv 4) (fun _ _ => rfl)) (pe_ix ix_tup (pv 0) (pv 4) (fun _ _ => rfl)) (pe_ix ix_list (pv 2) (pv 4) (fun _ _ => rfl)))))))) (pss_one (ps_ret (pe_ix ix_list (pv 1) (pv 4) (fun _ _ => rfl)))) pss_nil)))
    (pss_one (ps_ret pe_non))))))), ?_⟩
    cases hw with
    | @out v sk k hk =>
      refine ⟨_, rfl, _, _, "tuple", _, rfl, k.ty, k.isT, _, rfl, ?_⟩
      rw [hk]
      exact iteT (iteT (q H (Ex.refl H)))
    | @tup a xs ha all =>
      refine ⟨_, rfl, _, _, "tuple", _, rfl, (KindV.tup ha).ty, (KindV.tup (K := K) ha).isT, _, rfl, iteF ?_⟩
      refine ⟨_, rfl, a, xs, rfl, .inr (SqT.of ha), rfl, _, rfl, ?_⟩
      by_cases h5 : xs.length = 5
      · match xs, h5 with
        | [x1, x2, x3, x4, x5], _ =>
          change RetV (optV (wrongOf x1 x2 x3 x4 x5)) H Q at q
          refine iteF ⟨by show 5 ≤ sizeLine; decide, fun l1 n1 => ?_⟩
          have e1 : Ex H (upd H l1 (.lst wordsV)) := Ex.new n1
          have w1 : upd H l1 (.lst wordsV) l1 = some (.lst wordsV) := upd_same
          generalize hG1 : upd H l1 (.lst wordsV) = G1 at e1 w1
          have hG1' : (upd H l1 (.lst [.str "cells", .str "sealed", .str "drawers", .str "pages", .str "copies"])) = G1 := hG1
          rw [hG1']
          obtain ⟨k1, g1⟩ := all x1 (by simp)
          -- tops
          have sq1 : SqT K G1 a _ := SqT.of (e1 _ _ ha)
          refine ⟨.ref a, rfl, a, _, _, x1, rfl, rfl, sq1, atI_nat (j := 0) rfl, _, _, "int", _, rfl, (g1.ex e1).ty, (g1.ex e1).isI, _, rfl, ?_⟩
          obtain ⟨t, ht, hc⟩ : ∃ t : V, (isNum x1 2 12 = true → t = x1) ∧ ((isK k1 "int" = true ∧ t = x1) ∨ (isK k1 "int" = false ∧ t = .int 0)) := by
            cases hk : isK k1 "int" with
            | true => exact ⟨x1, fun _ => rfl, .inl ⟨rfl, rfl⟩⟩
            | false =>
              refine ⟨.int 0, fun z => ?_, .inr ⟨rfl, rfl⟩⟩
              exfalso
              rw [isNum_int z] at g1
              cases g1
              cases hk
          have step : ∀ Qv : VK, Qv t G1 → (if isK k1 "int" = true then tOp (rIxT K) (tVar 0) (tC (.int 0)) [some (.ref a), some (.ref l1), none, none, none] G1 Qv else tC (.int 0) [some (.ref a), some (.ref l1), none, none, none] G1 Qv) := fun Qv h => by
            rcases hc with ⟨h1, h2⟩ | ⟨h1, h2⟩
            · rw [h1]
              exact iteT ⟨.ref a, rfl, a, _, _, t, rfl, rfl, sq1, by rw [h2]; exact atI_nat (j := 0) rfl, h⟩
            · rw [h1]
              rw [h2] at h
              exact iteF h
          refine step _ ⟨by show 5 ≤ sizeLine; decide, fun l2 n2 => ⟨by show 5 ≤ sizeLine; decide, fun l3 n3 => ?_⟩⟩
          · change upd G1 l2 (.lst (topsV t)) l3 = none at n3
            have n23 : l2 ≠ l3 := fun z => by rw [← z, upd_same] at n3; cases n3
            have e2 : Ex G1 (upd (upd G1 l2 (.lst (topsV t))) l3 (.lst lowsV)) := (Ex.new n2).trans (Ex.new n3)
            have w2 : upd (upd G1 l2 (.lst (topsV t))) l3 (.lst lowsV) l2 = some (.lst (topsV t)) := by rw [upd_ne n23, upd_same]
            have w3 : upd (upd G1 l2 (.lst (topsV t))) l3 (.lst lowsV) l3 = some (.lst lowsV) := upd_same
            obtain ⟨G, hG⟩ : ∃ G, upd (upd G1 l2 (.lst (topsV t))) l3 (.lst lowsV) = G := ⟨_, rfl⟩
            have hG' : upd (upd G1 l2 (.lst [V.int 12, t, .int 4, .int 6, .int 3])) l3 (.lst [V.int 2, .int 1, .int 1, .int 1, .int 1]) = G := hG
            rw [hG] at e2 w2 w3
            rw [hG']
            have ex : Ex H G := e1.trans e2
            refine ⟨5, rfl, by decide, by decide, for_range (lo := 0) (n := 5) (fun i σ G' => G' = G ∧ Good x1 x2 x3 x4 x5 i ∧ ∃ kv, σ = [some (.ref a), some (.ref l1), some (.ref l2), some (.ref l3), kv]) ⟨rfl, ⟨fun z => by omega, fun z => by omega, fun z => by omega, fun z => by omega, fun z => by omega⟩, none, rfl⟩
              (fun i σ G' hi w => ?_) (fun σ G' w => ?_)⟩
            · obtain ⟨rfl, g, kv, rfl⟩ := w
              obtain ⟨x, lo, top, y, y1, y2, y3, y4, y5, y6⟩ := good_turn (t := t) hi g ht
              have sa : SqT K G' a _ := SqT.of (ex _ _ ha)
              have zi : (0 : Int) + (i : Int) = (i : Int) := by omega
              rw [zi]
              obtain ⟨sx, gx⟩ := all x (List.mem_of_getElem? y1)
              have gx' := gx.ex ex
              have ret : isNum x lo top = false → Q (.str y) G' := fun h => by
                have := q G' ex
                rw [y5 h] at this
                exact this
              refine ⟨.ref a, rfl, .int i, rfl, a, _, _, x, rfl, rfl, sa, atI_nat y1, _, _, "int", _, rfl, gx'.ty, gx'.isI, _, rfl, ?_⟩
              have fin : isNum x lo top = false → ∃ v, [some (V.ref a), some (.ref l1), some (.ref l2), some (.ref l3), some (.int i)][1]? = some (some v) ∧ ∃ v2, [some (V.ref a), some (.ref l1), some (.ref l2), some (.ref l3), some (.int i)][4]? = some (some v2) ∧ rIxL K v v2 G' Q :=
                fun h => ⟨.ref l1, rfl, .int i, rfl, l1, _, _, .str y, rfl, rfl, SqL.of (e2 _ _ w1), atI_nat y4, ret h⟩
              cases gx with
              | non => exact iteT (iteT (fin rfl))
              | str z => exact iteT (iteT (fin rfl))
              | lst z => exact iteT (iteT (fin rfl))
              | tup z => exact iteT (iteT (fin rfl))
              | bl b => exact iteF ⟨.ref a, rfl, .int i, rfl, a, _, _, .bl b, rfl, rfl, sa, atI_nat y1, _, _, "bool", _, rfl, (KindV.bl b).ty, (KindV.bl (K := K) (H := G') b).isB, _, rfl, iteT (iteT (fin rfl))⟩
              | int z =>
                refine iteF ⟨.ref a, rfl, .int i, rfl, a, _, _, .int z, rfl, rfl, sa, atI_nat y1, _, _, "bool", _, rfl, (KindV.int z).ty, (KindV.int (K := K) (H := G') z).isB, _, rfl, iteF ?_⟩
                refine ⟨.ref l3, rfl, .int i, rfl, l3, _, _, .int lo, rfl, rfl, SqL.of w3, atI_nat y2, .ref a, rfl, .int i, rfl, a, _, _, .int z, rfl, rfl, sa, atI_nat y1, _, _, rfl, rfl, _, rfl, ?_⟩
                have e : isNum (.int z) lo top = (decide (lo ≤ z) && decide (z ≤ top)) := rfl
                rw [e] at fin y6
                refine ite2 (fun h1 => ⟨.ref l2, rfl, .int i, rfl, l2, _, _, .int top, rfl, rfl, SqL.of w2, atI_nat y3, _, _, rfl, rfl, _, rfl, ?_⟩) (fun h1 => ⟨_, rfl, iteT (fin (by rw [Bool.not_eq_true] at h1; rw [h1] <;> rfl))⟩)
                cases h2 : decide (z ≤ top) with
                | true => exact iteF ⟨rfl, y6 (by rw [h1, h2] <;> rfl), some (.int i), rfl⟩
                | false => exact iteT (fin (by rw [h2, Bool.and_false]))
            · obtain ⟨rfl, g, kv, rfl⟩ := w
              have := q G' ex
              rw [good_end g] at this
              exact this
      · have e : (!decide (V.int (xs.length : Int) = V.int 5)) = true := by
          rw [decide_eq_false (fun z => h5 (by injection z with z; omega))] <;> rfl
        rw [e]
        have e2 : wrong5 xs = some "form" := by
          match xs, h5 with
          | [], _ => rfl
          | [_], _ => rfl
          | [_, _], _ => rfl
          | [_, _, _], _ => rfl
          | [_, _, _, _], _ => rfl
          | [_, _, _, _, _], h => exact absurd rfl h
          | _ :: _ :: _ :: _ :: _ :: _ :: _, _ => rfl
        rw [e2] at q
        exact iteT (q H (Ex.refl H))
end
end K00

set_option maxHeartbeats 4000000
namespace K00
open PySem PySem.Spec PyProof.Rows L2 Hd Evl
/-! ### lists of tuples of cells -/
/-- each value a tuple of these cells -/
def RefsTo (H : Hp) : List V → List (List Nat) → Prop := Paired fun v l => ∃ p, v = .ref p ∧ H p = some (.tup (l.map iV))
theorem RefsTo.ex {H H' : Hp} (e : Ex H H') : ∀ {vs : List V} {ls : List (List Nat)}, RefsTo H vs ls → RefsTo H' vs ls
  | _, _, .nil => .nil
  | _, _, .cons ⟨p, h1, h2⟩ t => .cons ⟨p, h1, e _ _ h2⟩ (RefsTo.ex e t)
theorem RefsTo.app {H : Hp} : ∀ {vs us : List V} {ls ms : List (List Nat)}, RefsTo H vs ls → RefsTo H us ms → RefsTo H (vs ++ us) (ls ++ ms)
  | _, _, _, _, .nil, s => s
  | _, _, _, _, .cons h t, s => .cons h (RefsTo.app t s)
theorem RefsTo.len {H : Hp} {vs : List V} {ls : List (List Nat)} (h : RefsTo H vs ls) : vs.length = ls.length := Paired.length h
theorem RefsTo.at_ {H : Hp} : ∀ {vs : List V} {ls : List (List Nat)} {i : Nat} {v : V}, RefsTo H vs ls → vs[i]? = some v → ∃ p l, ls[i]? = some l ∧ v = .ref p ∧ H p = some (.tup (l.map iV))
  | _, _, _, _, .nil, e => by simp at e
  | _, _, 0, _, .cons ⟨p, h1, h2⟩ _, e => by
    have e' := Option.some.inj (by simpa using e)
    exact ⟨p, _, rfl, by rw [← e', h1], h2⟩
  | _, _, i + 1, v, .cons _ t, e => by
    obtain ⟨p, l, h⟩ := RefsTo.at_ (i := i) t (by simpa using e)
    exact ⟨p, l, by simpa using h.1, h.2⟩
theorem RefsTo.at2 {H : Hp} {vs : List V} {ls : List (List Nat)} {i : Nat} {l : List Nat} (h : RefsTo H vs ls) (e : ls[i]? = some l) : ∃ p, vs[i]? = some (.ref p) ∧ H p = some (.tup (l.map iV)) := by
  have hi : i < vs.length := by rw [h.len]; exact (List.getElem?_eq_some_iff.mp e).1
  obtain ⟨p, l', h1, h2, h3⟩ := h.at_ (List.getElem?_eq_getElem hi)
  rw [e] at h1
  cases h1
  exact ⟨p, by rw [List.getElem?_eq_getElem hi, h2], h3⟩
/-! ### tuples of ints as data -/
abbrev iD (c : Nat) : PyData := .int (c : Int)
theorem dp_ints {K : PySem.W.Frag} {H : Hp} : ∀ l : List Nat, DpAll K H (l.map iV) (l.map iD)
  | [] => .nil
  | c :: r => .cons (.int _) (dp_ints r)
theorem lay_ints : ∀ l : List Nat, PyData.canLayAll0 (l.map iD) = true
  | [] => rfl
  | c :: r => by
    show (PyData.canLay0 (PyData.int (c : Int)) && PyData.canLayAll0 (r.map iD)) = true
    rw [lay_ints r] <;> rfl
theorem depth_ints : ∀ l : List Nat, PyData.depthAll (l.map iD) = 0
  | [] => rfl
  | c :: r => by
    show max (PyData.depth (PyData.int (c : Int))) (PyData.depthAll (r.map iD)) = 0
    rw [depth_ints r] <;> rfl
theorem shaped_ints (l : List Nat) : SeqAt.shaped (.tuple (l.map iD)) = true := by
  show (PyData.canLayAll0 (l.map iD) && decide (PyData.depthAll (l.map iD) + 1 ≤ 64)) = true
  rw [lay_ints, depth_ints] <;> rfl
theorem eqv_nil (l : List Nat) : PyData.eqv (.tuple (l.map iD)) (.tuple []) = l.isEmpty := by
  cases l <;> rfl
theorem atI_back {l : List Nat} (h : l.isEmpty = false) : atI (l.map iV) (-1) = some (iV (lastN l)) := by
  cases l with
  | nil => cases h
  | cons x r =>
    have e : (x :: r).map iV = ((x :: r).dropLast.map iV) ++ [iV ((x :: r).getLast (List.cons_ne_nil x r))] := by
      rw [← List.map_singleton, ← List.map_append, List.dropLast_concat_getLast]
    have e2 : lastN (x :: r) = (x :: r).getLast (List.cons_ne_nil x r) := by
      unfold lastN
      rw [List.getLast?_eq_some_getLast (List.cons_ne_nil x r)] <;> rfl
    rw [e, e2]
    exact atI_last _ _
theorem filter_succ {p : Nat → Bool} {i : Nat} : (List.range (i + 1)).filter p = (List.range i).filter p ++ (if p i = true then [i] else []) := by
  rw [List.range_succ, List.filter_append]
  by_cases h : p i = true
  · rw [if_pos h, List.filter_cons, if_pos h] <;> rfl
  · rw [if_neg h, List.filter_cons, if_neg h] <;> rfl
section
variable {CX : CXT} {P : Program} {w : World} {K : PySem.W.Frag} {mg : Str → Option Value} {base : Heap}
/-- a new list of tuples -/
def RetSets (ls : List (List Nat)) (H : Hp) (Q : VK) : Prop := ∀ p vs H2, H p = none → Ex H H2 → H2 p = some (.lst vs) → RefsTo H2 vs ls → Q (.ref p) H2
def spSets : Sp := fun vs H Q _ => ∃ n k : Nat, vs = [iV n, iV k] ∧ n ≤ 12 ∧ k ≤ n ∧ RetSets (setsN n k 0) H Q
theorem ok_sets {f : Addr} {fd : FuncData} (F : FnP K "_law_sets" s__law_sets f fd) (B : Blt mg) : FnOk P w K mg base CX 1 f fd ["cells", "many"] spSets := by
  refine F.ok (CX := CX) sc__law_sets (fun vs H Q E h => ?_) (fun cdv A outer s H vs Q E hr h => ?_)
  · obtain ⟨n, k, rfl, _⟩ := h
    rfl
  · obtain ⟨n, k, rfl, hn, hk, q⟩ := h
    have hu : (A.deeper (envOfC "_law_sets" (defScope s__law_sets) s.heap.objs.size f cdv)).units + 64 < cLine := by have := hr.un; omega
    refine ⟨_, (pss_cons (ps_set (i := 2) sc__law_sets.nd rfl (Or.inl rfl) (pe_lst (pa_cons (pe_tup pa_nil) pa_nil)))
    (pss_cons (ps_for (passes_of rfl) rfl (pi_range1 (by rfl) B.range (pa_cons (pv 1) pa_nil)) (pg_name (i := 3) sc__law_sets.nd rfl (Or.inl rfl)) (pss_cons (ps_set (i := 4) sc__law_sets.nd rfl (Or.inl rfl) (pe_lst pa_nil))
    (pss_cons (ps_for (passes_of rfl) rfl (pi_list (pv 2)) (pg_name (i := 5) sc__law_sets.nd rfl (Or.inr rfl)) (pss_one (ps_set (i := 4) sc__law_sets.nd rfl (Or.inl rfl) (pe_op op_cat (pv 4)
      (pe_lc (own := [("cell", 6)]) (g := gName 6) (by rfl) sc__law_sets.nd (pi_range1 (by rfl) B.range (pa_cons (pv 0) pa_nil)) (blkOk_by (own := [("cell", 6)]) (N := n__law_sets) (sc := defScope s__law_sets) (by decide +kernel)) (fun _ _ _ _ _ => pg_name (i := 6) sc__law_sets.nd rfl (Or.inl rfl))
        (fun _ _ _ _ _ => pts_one (PW.pt (pw_or (pt_cmpR (op_eqD hu : OpR _ _ (rEqD K)) (pv 5) (pe_tup pa_nil) (nomark _)) (pw_or1 (pt_cmpR op_gt (pv 6) (pe_ix (ix_tup : IxR _ (rIxT K)) (pv 5) (pe_un un_neg pe_int) (fun _ _ => rfl)) (nomark _)))))) (fun _ _ _ _ _ => (pe_op (op_catA : OpR _ _ (rCatA K)) (pv 5) (pe_tup (pa_cons (pv 6) pa_nil)))))))))
    (pss_one (ps_set (i := 2) sc__law_sets.nd rfl (Or.inl rfl) (pv 4))))))
    (pss_one (ps_ret (pv 2))))), ?_⟩
    refine ⟨Nat.zero_le _, fun p0 n0 => ⟨by show 1 ≤ sizeLine; decide, fun l0 nl0 => ?_⟩⟩
    have n0l : p0 ≠ l0 := fun z => by rw [← z, upd_same] at nl0; cases nl0
    refine ⟨iV k, rfl, (k : Int), rfl, by omega, by omega, ?_⟩
    have e0 : Ex H (upd (upd H p0 (.tup [])) l0 (.lst [.ref p0])) := (Ex.new n0).trans (Ex.new nl0)
    refine for_range (lo := 0) (n := k) (fun t σ G => ∃ (fl : Addr) (vs : List V) (y3 y4 y5 y6 : Option V), σ = [some (iV n), some (iV k), some (.ref fl), y3, y4, y5, y6] ∧ Ex H G ∧ H fl = none ∧ G fl = some (.lst vs) ∧ RefsTo G vs (lawSets n t))
      ⟨l0, [.ref p0], none, none, none, none, rfl, e0, fresh_back (Ex.new n0) nl0, upd_same, .cons ⟨p0, rfl, by rw [upd_ne n0l, upd_same] <;> rfl⟩ .nil⟩ (fun t σ G ht w => ?_) (fun σ G w => ?_)
    · obtain ⟨fl, vs, y3, y4, y5, y6, rfl, ex, nf, ef, rt⟩ := w
      refine ⟨Nat.zero_le _, fun g0 ng0 => ?_⟩
      have ex1 : Ex G (upd G g0 (.lst [])) := Ex.new ng0
      refine ⟨.ref fl, rfl, fl, rfl, ⟨vs, SqL.of (ex1 _ _ ef)⟩, for_list (xs := vs) (fun i σ G' => ∃ (gl : Addr) (us : List V) (y5 y6 : Option V), σ = [some (iV n), some (iV k), some (.ref fl), some (.int ((0 : Int) + (t : Int))), some (.ref gl), y5, y6] ∧ Ex G G' ∧ G gl = none ∧ G' gl = some (.lst us) ∧ RefsTo G' us (((lawSets n t).take i).flatMap (extN n)))
        ⟨g0, [], y5, y6, rfl, ex1, ng0, upd_same, .nil⟩ (fun i σ G' _ w => ?_) (fun i x σ G' hx w => ?_) (fun σ G' w => ?_)⟩
      · obtain ⟨gl, us, y5, y6, _, e1, _⟩ := w
        exact SqL.of (e1 _ _ ef)
      · obtain ⟨gl, us, y5, y6, rfl, e1, ng, eg, ru⟩ := w
        obtain ⟨p, l, hl, rfl, hp⟩ := rt.at_ hx
        have hp1 : G' p = some (.tup (l.map iV)) := e1 _ _ hp
        refine ⟨.ref gl, rfl, iV n, rfl, (n : Int), rfl, by omega, by omega, fun D nD => ?_⟩
        have gD : gl ≠ D := ne_of_none eg nD
        refine lc_range (lo := 0) (n := n) (fun i G2 => Ex G' G2 ∧ G' D = none ∧ ∃ ws, G2 D = some (.lst ws) ∧ RefsTo G2 ws (((List.range i).filter (goesOn l)).map fun c => l ++ [c])) ⟨Ex.new nD, nD, [], upd_same, .nil⟩ (fun i2 G2 hi2 w => ?_) (fun G2 w => ?_)
        · obtain ⟨e2, nD', ws, eD, rw'⟩ := w
          have zi : (0 : Int) + (i2 : Int) = (i2 : Int) := by omega
          rw [zi]
          have hp2 : G2 p = some (.tup (l.map iV)) := e2 _ _ hp1
          have hwl : ws.length ≤ 12 := by
            rw [rw'.len, List.length_map]
            have := List.length_filter_le (goesOn l) (List.range i2)
            rw [List.length_range] at this
            omega
          refine ⟨rfl, .ref p, rfl, Nat.zero_le _, fun e0 ne0 => ?_⟩
          have e3 : Ex G2 (upd G2 e0 (.tup [])) := Ex.new ne0
          have hp3 : upd G2 e0 (.tup []) p = some (.tup (l.map iV)) := e3 _ _ hp2
          refine ⟨_, .tuple [], .tup (SqT.of hp3) (dp_ints l), .tup (SqT.of upd_same) .nil, shaped_ints l, rfl, _, rfl, ?_⟩
          rw [eqv_nil]
          -- what is behind a cell that goes on
          have yes : ∀ G3, Ex G2 G3 → goesOn l i2 = true → tOp (rCatA K) (tVar 5) (tTup (tCons (tVar 6) tNil)) [some (iV n), some (iV k), some (.ref fl), some (.int ((0 : Int) + (t : Int))), some (.ref gl), some (.ref p), some (iV i2)] G3
              fun y H4 => ∃ acc, H4 D = some (.lst acc) ∧ acc.length < sizeLine ∧ (Ex G' (upd H4 D (.lst (acc ++ [y]))) ∧ G' D = none ∧ ∃ ws, upd H4 D (.lst (acc ++ [y])) D = some (.lst ws) ∧ RefsTo (upd H4 D (.lst (acc ++ [y]))) ws (((List.range (i2 + 1)).filter (goesOn l)).map fun c => l ++ [c])) := by
            intro G3 e4 hg
            refine ⟨.ref p, rfl, iV i2, rfl, by show 1 ≤ sizeLine; decide, fun tp ntp => ?_⟩
            have e5 : Ex G3 (upd G3 tp (.tup [iV i2])) := Ex.new ntp
            have hp5 : upd G3 tp (.tup [iV i2]) p = some (.tup (l.map iV)) := e5 _ _ (e4 _ _ hp2)
            have ll : l.length ≤ 12 := by
              have hm : l ∈ lawSets n t := List.mem_of_getElem? hl
              rw [lawSets_eq hn (by omega)] at hm
              have := (setsN_asc n t 0 l hm).1
              omega
            have done : ∀ (H4 : Hp) (z : Addr), Ex G3 H4 → H4 z = some (.tup ((l ++ [i2]).map iV)) → ∃ acc, H4 D = some (.lst acc) ∧ acc.length < sizeLine ∧ (Ex G' (upd H4 D (.lst (acc ++ [.ref z]))) ∧ G' D = none ∧ ∃ ws, upd H4 D (.lst (acc ++ [.ref z])) D = some (.lst ws) ∧ RefsTo (upd H4 D (.lst (acc ++ [.ref z]))) ws (((List.range (i2 + 1)).filter (goesOn l)).map fun c => l ++ [c])) := by
              intro H4 z e6 hz
              have eD4 : H4 D = some (.lst ws) := e6 _ _ (e4 _ _ eD)
              have zD : z ≠ D := fun y => by rw [y, eD4] at hz; cases hz
              refine ⟨ws, eD4, by have := sz_lt (n := ws.length) (by omega); exact this, ((e2.trans e4).trans e6).mut nD', nD', _, upd_same, ?_⟩
              rw [filter_succ, if_pos hg, List.map_append]
              refine RefsTo.app ?_ (.cons ⟨z, rfl, by rw [upd_ne zD]; exact hz⟩ .nil)
              have old : ∀ {vs : List V} {ls : List (List Nat)}, RefsTo G2 vs ls → RefsTo (upd H4 D (.lst (ws ++ [.ref z]))) vs ls := fun {vs ls} h => by
                induction h with
                | nil => exact .nil
                | cons h1 _ ih =>
                  obtain ⟨p', a1, a2⟩ := h1
                  have a3 : H4 p' = _ := e6 _ _ (e4 _ _ a2)
                  have pD : p' ≠ D := fun y => by rw [y, eD4] at a3; cases a3
                  exact .cons ⟨p', a1, by rw [upd_ne pD]; exact a3⟩ ih
              exact old rw'
            refine ⟨p, tp, l.map iV, [iV i2], rfl, rfl, SqT.of hp5, SqT.of upd_same, ?_, fun h0 => ?_, fun _ h0 => absurd h0 (by simp), fun _ _ z nz => ?_⟩
            · rw [List.length_map]
              exact Nat.le_of_lt (sz_lt (by simp; omega))
            · have l0 : l = [] := List.map_eq_nil_iff.mp h0
              refine done _ tp e5 ?_
              rw [upd_same, l0] <;> rfl
            · refine done _ z (e5.trans (Ex.new nz)) ?_
              rw [upd_same, List.map_append] <;> rfl
          have no : ∀ G3, Ex G2 G3 → goesOn l i2 = false → Ex G' G3 ∧ G' D = none ∧ ∃ ws, G3 D = some (.lst ws) ∧ RefsTo G3 ws (((List.range (i2 + 1)).filter (goesOn l)).map fun c => l ++ [c]) := by
            intro G3 e4 hg
            refine ⟨e2.trans e4, nD', ws, e4 _ _ eD, ?_⟩
            rw [filter_succ, if_neg (by rw [hg]; decide), List.append_nil]
            exact rw'.ex e4
          cases hl0 : l.isEmpty with
          | true =>
            have hg : goesOn l i2 = true := by unfold goesOn; rw [hl0] <;> rfl
            exact iteT (iteT (yes _ e3 hg))
          | false =>
            refine iteF ⟨iV i2, rfl, .ref p, rfl, 1, rfl, p, l.map iV, -1, iV (lastN l), rfl, rfl, SqT.of hp3, atI_back hl0, _, _, rfl, rfl, _, rfl, ?_⟩
            have hg : goesOn l i2 = decide ((lastN l : Int) < (i2 : Int)) := by
              unfold goesOn
              rw [hl0, Bool.false_or]
              exact decide_eq_decide.mpr (by omega)
            cases hd : decide ((lastN l : Int) < (i2 : Int)) with
            | true => exact iteT (yes _ e3 (by rw [hg, hd]))
            | false => exact iteF (no _ e3 (by rw [hg, hd]))
        · obtain ⟨e2, nD', ws, eD, rw'⟩ := w
          refine ⟨gl, D, us, ws, rfl, rfl, e2 _ _ eg, eD, ?_, fun z nz => ?_⟩
          · have b1 : us.length ≤ (lawSets n (t + 1)).length := by
              rw [ru.len]
              exact flat_take (extN n) (lawSets n t) i
            have b2 : ws.length ≤ 12 := by
              rw [rw'.len, List.length_map]
              have := List.length_filter_le (goesOn l) (List.range n)
              rw [List.length_range] at this
              omega
            rw [lawSets_len hn (by omega)] at b1
            have := nck_le hn (show t + 1 ≤ 12 by omega)
            exact Nat.le_of_lt (sz_lt (by omega))
          · have ez : Ex G2 (upd G2 z (.lst (us ++ ws))) := Ex.new nz
            refine ⟨z, us ++ ws, some (.ref p), y6, rfl, (e1.trans e2).trans ez, fresh_back (e1.trans e2) nz, upd_same, ?_⟩
            have dr : (lawSets n t).take (i + 1) = (lawSets n t).take i ++ [l] := by rw [List.take_succ, hl] <;> rfl
            rw [dr, List.flatMap_append]
            refine RefsTo.app ((ru.ex e2).ex ez) ?_
            have : [l].flatMap (extN n) = extN n l := by simp
            rw [this]
            exact rw'.ex ez
      · obtain ⟨gl, us, y5, y6, rfl, e1, ng, eg, ru⟩ := w
        rw [rt.len, List.take_of_length_le (Nat.le_refl _)] at ru
        exact ⟨.ref gl, rfl, gl, us, some (.int ((0 : Int) + (t : Int))), some (.ref gl), y5, y6, rfl, ex.trans e1, fresh_back ex ng, eg, ru⟩
    · obtain ⟨fl, vs, y3, y4, y5, y6, rfl, ex, nf, ef, rt⟩ := w
      rw [lawSets_eq hn (by omega)] at rt
      exact ⟨.ref fl, rfl, q fl vs G nf ex ef rt⟩
end
end K00

set_option maxHeartbeats 4000000
namespace K00
open PySem PySem.Spec PyProof.Rows L2 Hd Evl
/-! ### data -/
def dk : PyData → String
  | .none => "NoneType"
  | .bool _ => "bool"
  | .int _ => "int"
  | .str _ => "str"
  | .list _ => "list"
  | .tuple _ => "tuple"
  | .dict _ => "dict"
section
variable {K : PySem.W.Frag} {H H' : Hp}
theorem sqL_ty {a : Addr} {xs : List V} (h : SqL K H a xs) : TyX K H (.ref a) (.type "list") := by
  rcases h with (h | ⟨o, h⟩) | ⟨o, its, n, h1, h2, _⟩
  · exact .base (.lst h)
  · exact .base (.frz h)
  · exact .kList h1 h2
theorem sqT_ty {a : Addr} {xs : List V} (h : SqT K H a xs) : TyX K H (.ref a) (.type "tuple") := by
  rcases h with (h | ⟨o, h⟩) | ⟨o, its, n, h1, h2, _⟩
  · exact .base (.tup h)
  · exact .fTuple h
  · exact .kTuple h1 h2
theorem dp_ty {v : V} {d : PyData} (h : Dp K H v d) : TyX K H v (.type (dk d)) := by
  cases h with
  | non => exact .base .non
  | bl b => exact .base (.bl b)
  | int i => exact .base (.int i)
  | str x => exact .base (.str x)
  | lst h _ => exact sqL_ty h
  | tup h _ => exact sqT_ty h
mutual
theorem dp_ex (e : Ex H H') : ∀ (d : PyData) (v : V), Dp K H v d → Dp K H' v d
  | .none, _, h => by cases h; exact .non
  | .bool b, _, h => by cases h; exact .bl b
  | .int i, _, h => by cases h; exact .int i
  | .str x, _, h => by cases h; exact .str x
  | .list ds, _, h => by
    cases h with
    | lst h1 h2 => exact .lst (ex_l e h1) (dpAll_ex e ds _ h2)
  | .tuple ds, _, h => by
    cases h with
    | tup h1 h2 => exact .tup (ex_t e h1) (dpAll_ex e ds _ h2)
  | .dict _, _, h => by cases h
theorem dpAll_ex (e : Ex H H') : ∀ (ds : List PyData) (vs : List V), DpAll K H vs ds → DpAll K H' vs ds
  | [], _, h => by cases h; exact .nil
  | d :: ds, _, h => by
    cases h with
    | cons h1 h2 => exact .cons (dp_ex e d _ h1) (dpAll_ex e ds _ h2)
end
theorem dpAll_len : ∀ {ds : List PyData} {vs : List V}, DpAll K H vs ds → vs.length = ds.length
  | [], _, h => by cases h; rfl
  | d :: ds, _, h => by
    cases h with
    | cons h1 h2 => rw [List.length_cons, List.length_cons, dpAll_len h2]
theorem dpAll_at : ∀ {ds : List PyData} {vs : List V} {i : Nat} {d : PyData}, DpAll K H vs ds → ds[i]? = some d → ∃ v, vs[i]? = some v ∧ Dp K H v d
  | [], _, i, d, _, e => by simp at e
  | d0 :: ds, _, 0, d, h, e => by
    cases h with
    | cons h1 h2 =>
      have e' := Option.some.inj (by simpa using e)
      exact ⟨_, rfl, e' ▸ h1⟩
  | d0 :: ds, _, i + 1, d, h, e => by
    cases h with
    | cons h1 h2 =>
      obtain ⟨v, a, b⟩ := dpAll_at (i := i) h2 (by simpa using e)
      exact ⟨v, by simpa using a, b⟩
theorem depth_at : ∀ {ds : List PyData} {i : Nat} {d : PyData}, ds[i]? = some d → PyData.depth d ≤ PyData.depthAll ds
  | [], i, d, e => by simp at e
  | d0 :: ds, 0, d, e => by
    have e' := Option.some.inj (by simpa using e)
    rw [← e']
    exact Nat.le_max_left _ _
  | d0 :: ds, i + 1, d, e => Nat.le_trans (depth_at (i := i) (by simpa using e)) (Nat.le_max_right _ _)
end
mutual
/-- no list longer than this -/
def wideD : PyData → Nat
  | .list xs | .tuple xs => max xs.length (wideAll xs)
  | _ => 0
def wideAll : List PyData → Nat
  | [] => 0
  | x :: xs => max (wideD x) (wideAll xs)
end
theorem wide_at : ∀ {ds : List PyData} {i : Nat} {d : PyData}, ds[i]? = some d → wideD d ≤ wideAll ds
  | [], i, d, e => by simp at e
  | d0 :: ds, 0, d, e => by
    have e' := Option.some.inj (by simpa using e)
    rw [← e']
    exact Nat.le_max_left _ _
  | d0 :: ds, i + 1, d, e => Nat.le_trans (wide_at (i := i) (by simpa using e)) (Nat.le_max_right _ _)
theorem rIx_of {K : PySem.W.Frag} {H : Hp} {a : Addr} {xs : List V} {i : Nat} {x v : V} {Q : VK} (ev : v = .ref a) (h : SqL K H a xs ∨ SqT K H a xs) (hx : xs[i]? = some x) (q : Q x H) : rIx K v (.int (i : Int)) H Q := by
  rcases h with h | h
  · exact .inl ⟨a, xs, i, x, ev, rfl, h, atI_nat hx, q⟩
  · exact .inr (.inl ⟨a, xs, i, x, ev, rfl, h, atI_nat hx, q⟩)
theorem kit2 {K : PySem.W.Frag} (s : String) (hs : s = "NoneType" ∨ s = "bool" ∨ s = "int" ∨ s = "str" ∨ s = "list" ∨ s = "tuple") : PySem.W.kitAny K (.type s) [.type "tuple", .type "list"] = some (s == "tuple" || s == "list") := by
  rcases hs with rfl | rfl | rfl | rfl | rfl | rfl
  all_goals first
    | exact kitAny_cons (b := false) (kit_ty (by decide +kernel)) (fun _ => kitAny_cons (b := false) (kit_ty (by decide +kernel)) (fun _ => rfl) (fun z => by cases z)) (fun z => by cases z)
    | exact kitAny_cons (b := false) (kit_ty (by decide +kernel)) (fun _ => kitAny_cons (b := true) (kit_ty (by decide +kernel)) (fun z => by cases z) (fun _ => rfl)) (fun z => by cases z)
    | exact kitAny_cons (b := true) (kit_ty (by decide +kernel)) (fun z => by cases z) (fun _ => rfl)
theorem dk_of {K : PySem.W.Frag} {H : Hp} {v : V} {d : PyData} (h : Dp K H v d) : dk d = "NoneType" ∨ dk d = "bool" ∨ dk d = "int" ∨ dk d = "str" ∨ dk d = "list" ∨ dk d = "tuple" := by
  cases h <;> simp [dk]
theorem dk_is {K : PySem.W.Frag} {H : Hp} {v : V} {d : PyData} (h : Dp K H v d) (T : String) (hT : T = "int" ∨ T = "bool" ∨ T = "str" ∨ T = "list") : kitB (dk d) T = some (isK (dk d) T) := by
  rcases hT with rfl | rfl | rfl | rfl <;> rcases dk_of h with e | e | e | e | e | e <;> rw [e] <;> decide +kernel
section
variable {CX : CXT} {P : Program} {w : World} {K : PySem.W.Frag} {mg : Str → Option Value} {base : Heap}
theorem FnOk.never {f : Addr} {fd : FuncData} {ps : List Str} : FnOk P w K mg base CX 0 f fd ps (fun _ _ _ _ => False) := ⟨fun _ _ _ _ h => h.elim, fun _ _ _ _ _ _ _ _ _ _ _ _ _ h => h.elim⟩
structure AlikeP (K : PySem.W.Frag) (n : Nat) (vs : List V) (H : Hp) (Q : VK) (E : XK) : Prop where
  go : ∃ v u d, vs = [v, u] ∧ Dp K H v d ∧ Dp K H u d ∧ PyData.depth d ≤ n ∧ wideD d ≤ 100000 ∧ RetV (.bl true) H Q
/-- the same data, not deeper than n - 1 -/
def spAlike (K : PySem.W.Frag) : Nat → Sp
  | 0 => fun _ _ _ _ => False
  | n + 1 => fun vs H Q E => AlikeP K n vs H Q E
theorem ok_alike {f : Addr} {fd : FuncData} (F : FnP K "_law_alike" s__law_alike f fd) (B : Blt mg) (m : mg "_law_alike" = some (.ref f)) (b : Binds K fd ["found", "due"] []) : ∀ n, FnOk P w K mg base CX0 n f fd ["found", "due"] (spAlike K n)
  | 0 => FnOk.never
  | n + 1 => by
    have G := ok_alike F B m b n
    refine F.ok (CX := CX0) sc__law_alike (fun vs H Q E h => ?_) (fun cdv A outer s H vs Q E hr h => ?_)
    · obtain ⟨v, u, d, rfl, _⟩ := h
      rfl
    · obtain ⟨v, u, d, rfl, hv, hu, hd, hwd, q⟩ := h
      have un : (A.deeper (envOfC "_law_alike" (defScope s__law_alike) s.heap.objs.size f cdv)).units + 64 < cLine := by have := hr.un; omega
      refine ⟨_, (pss_cons (ps_if (pt_val (pe_callB call_isiT (by rfl) B.isinstance (by decide +kernel) (pa_cons (pv 1) (pa_cons (pe_tup (pa_cons (pe_ty "tuple" (by rfl) B.tuple (by decide +kernel)) (pa_cons (pe_ty "list" (by rfl) B.list (by decide +kernel)) pa_nil))) pa_nil))))
        (pss_cons (ps_if (PW.pt (pw_or (pt_not (pt_val (pe_callB call_isiT (by rfl) B.isinstance (by decide +kernel) (pa_cons (pv 0) (pa_cons (pe_tup (pa_cons (pe_ty "tuple" (by rfl) B.tuple (by decide +kernel)) (pa_cons (pe_ty "list" (by rfl) B.list (by decide +kernel)) pa_nil))) pa_nil))))) (pw_or1 (pt_cmpR op_ne (pe_callB call_isS (by rfl) B.isinstance (by decide +kernel) (pa_cons (pv 0) (pa_cons (pe_ty "list" (by rfl) B.list (by decide +kernel)) pa_nil))) (pe_callB call_isS (by rfl) B.isinstance (by decide +kernel) (pa_cons (pv 1) (pa_cons (pe_ty "list" (by rfl) B.list (by decide +kernel)) pa_nil))) (nomark _))))) (pss_one (ps_ret pe_bl)) pss_nil)
        (pss_cons (ps_if (pt_cmpR op_ne (pe_callB call_len_seq (by rfl) B.len (by decide +kernel) (pa_cons (pv 0) pa_nil)) (pe_callB call_len_seq (by rfl) B.len (by decide +kernel) (pa_cons (pv 1) pa_nil)) (nomark _)) (pss_one (ps_ret pe_bl)) pss_nil)
        (pss_one (ps_ret (pe_cmpR (op_eqD un) (pe_lc (own := [("k", 2)]) (g := gName 2) (by rfl) sc__law_alike.nd (pi_range1 (by rfl) B.range (pa_cons (pe_callB call_len_seq (by rfl) B.len (by decide +kernel) (pa_cons (pv 1) pa_nil)) pa_nil)) (blkOk_by (own := [("k", 2)]) (N := n__law_alike) (sc := defScope s__law_alike) (by decide +kernel)) (fun _ _ _ _ _ => pg_name (i := 2) sc__law_alike.nd rfl (Or.inl rfl))
          (fun _ _ _ _ _ => pts_one (pt_not (pt_val (pe_call G hr (by rfl) m F.kp b .nil pass0 (pa_cons (pe_ix (ix_seq : IxR _ (rIx K)) (pv 0) (pv 2) (fun _ _ => rfl)) (pa_cons (pe_ix (ix_seq : IxR _ (rIx K)) (pv 1) (pv 2) (fun _ _ => rfl)) pa_nil)))))) (fun _ _ _ _ _ => (pv 2))) (pe_lst pa_nil) (nomark _)))))) pss_nil)
        (pss_cons (ps_if (PW.pt (pw_or (pt_cmpR op_isN (pv 1) pe_non (nomark _)) (pw_or1 (pt_val (pe_callB call_isS (by rfl) B.isinstance (by decide +kernel) (pa_cons (pv 1) (pa_cons (pe_ty "str" (by rfl) B.str (by decide +kernel)) pa_nil))))))) (pss_one (ps_ret (pe_and (pe_cmpR op_eq (pv 0) (pv 1) (nomark _)) (pe_one (pe_cmpR op_eq (pe_callB call_isS (by rfl) B.isinstance (by decide +kernel) (pa_cons (pv 0) (pa_cons (pe_ty "str" (by rfl) B.str (by decide +kernel)) pa_nil))) (pe_callB call_isS (by rfl) B.isinstance (by decide +kernel) (pa_cons (pv 1) (pa_cons (pe_ty "str" (by rfl) B.str (by decide +kernel)) pa_nil))) (nomark _)))))) pss_nil)
        (pss_one (ps_ret (pe_and (pe_callB call_isS (by rfl) B.isinstance (by decide +kernel) (pa_cons (pv 0) (pa_cons (pe_ty "int" (by rfl) B.int (by decide +kernel)) pa_nil))) (pe_and (pe_cmpR op_eq (pe_callB call_isS (by rfl) B.isinstance (by decide +kernel) (pa_cons (pv 0) (pa_cons (pe_ty "bool" (by rfl) B.bool (by decide +kernel)) pa_nil))) (pe_callB call_isS (by rfl) B.isinstance (by decide +kernel) (pa_cons (pv 1) (pa_cons (pe_ty "bool" (by rfl) B.bool (by decide +kernel)) pa_nil))) (nomark _)) (pe_one (pe_cmpR op_eq (pv 0) (pv 1) (nomark _))))))))), ?_⟩
      -- isinstance(due, (tuple, list))
      refine ⟨u, rfl, by show 2 ≤ sizeLine; decide, fun t1 n1 => ?_⟩
      have e1 : Ex H (upd H t1 (.tup [.ty "tuple", .ty "list"])) := Ex.new n1
      refine ⟨u, t1, _, .type (dk d), [.type "tuple", .type "list"], _, rfl, upd_same, .cons (.ty _) (.cons (.ty _) .nil), dp_ty (dp_ex e1 d u hu), kit2 (dk d) (dk_of hu), _, rfl, ?_⟩
      generalize upd H t1 (.tup [.ty "tuple", .ty "list"]) = H1 at e1
      have hv1 := dp_ex e1 d v hv
      have hu1 := dp_ex e1 d u hu
      -- flat ones
      have word : ∀ x : V, v = x → u = x → scal x x = true → tAndV (tOp rEq (tVar 0) (tVar 1)) (tOp rEq (tCB (rIsS K) (tCons (tVar 0) (tCons (tC (.ty "str")) tNil))) (tCB (rIsS K) (tCons (tVar 1) (tCons (tC (.ty "str")) tNil)))) [some v, some u, none] H1 Q := by
        intro x ev eu hs
        refine ⟨v, rfl, u, rfl, by rw [ev, eu]; exact hs, _, rfl, ?_⟩
        rw [decide_eq_true (ev.trans eu.symm)]
        have hbk := dk_is hv "str" (by simp)
        generalize isK (dk d) "str" = bk at hbk
        refine iteT ⟨v, rfl, v, dk d, "str", bk, rfl, dp_ty hv1, hbk, u, rfl, u, dk d, "str", bk, rfl, dp_ty hu1, hbk, rfl, ?_⟩
        rw [decide_eq_true rfl]
        exact q H1 e1
      have num : ∀ x : V, v = x → u = x → scal x x = true → kitB (dk d) "int" = some true → tAndV (tCB (rIsS K) (tCons (tVar 0) (tCons (tC (.ty "int")) tNil))) (tAndV (tOp rEq (tCB (rIsS K) (tCons (tVar 0) (tCons (tC (.ty "bool")) tNil))) (tCB (rIsS K) (tCons (tVar 1) (tCons (tC (.ty "bool")) tNil)))) (tOp rEq (tVar 0) (tVar 1))) [some v, some u, none] H1 Q := by
        intro x ev eu hs hk
        have hbk := dk_is hv "bool" (by simp)
        generalize isK (dk d) "bool" = bk at hbk
        refine ⟨v, rfl, v, dk d, "int", true, rfl, dp_ty hv1, hk, true, rfl, iteT ⟨v, rfl, v, dk d, "bool", bk, rfl, dp_ty hv1, hbk, u, rfl, u, dk d, "bool", bk, rfl, dp_ty hu1, hbk, rfl, _, rfl, ?_⟩⟩
        rw [decide_eq_true rfl]
        refine iteT ⟨v, rfl, u, rfl, by rw [ev, eu]; exact hs, ?_⟩
        rw [decide_eq_true (ev.trans eu.symm)]
        exact q H1 e1
      have seq : (dk d == "tuple" || dk d == "list") = true → ∃ (a1 a2 : Addr) (xs ys : List V) (ds : List PyData), v = .ref a1 ∧ u = .ref a2 ∧ (SqL K H1 a1 xs ∨ SqT K H1 a1 xs) ∧ (SqL K H1 a2 ys ∨ SqT K H1 a2 ys) ∧ DpAll K H1 xs ds ∧ DpAll K H1 ys ds ∧ PyData.depthAll ds + 1 ≤ n ∧ max ds.length (wideAll ds) ≤ 100000 := by
        intro hk
        cases d with
        | list ds =>
          cases hv1 with
          | lst h1 h2 =>
            cases hu1 with
            | lst h3 h4 => exact ⟨_, _, _, _, ds, rfl, rfl, .inl h1, .inl h3, h2, h4, hd, hwd⟩
        | tuple ds =>
          cases hv1 with
          | tup h1 h2 =>
            cases hu1 with
            | tup h3 h4 => exact ⟨_, _, _, _, ds, rfl, rfl, .inr h1, .inr h3, h2, h4, hd, hwd⟩
        | none => exact absurd hk (by decide)
        | bool b => exact absurd hk (by simp [dk])
        | int i => exact absurd hk (by simp [dk])
        | str x => exact absurd hk (by simp [dk])
        | dict x => exact absurd hk (by simp [dk])
      cases hk : (dk d == "tuple" || dk d == "list") with
      | false =>
        refine iteF ⟨u, rfl, rfl, _, rfl, ?_⟩
        cases d with
        | none =>
          cases hv
          cases hu
          exact iteT (iteT (word .non rfl rfl rfl))
        | str x =>
          cases hv
          cases hu
          refine iteF ⟨.str x, rfl, .str x, "str", "str", true, rfl, dp_ty hu1, by decide +kernel, true, rfl, iteT (word (.str x) rfl rfl rfl)⟩
        | int i =>
          cases hv
          cases hu
          refine iteF ⟨.int i, rfl, .int i, "int", "str", false, rfl, dp_ty hu1, by decide +kernel, false, rfl, iteF (num (.int i) rfl rfl rfl (by show kitB "int" "int" = some true; decide +kernel))⟩
        | bool b =>
          cases hv
          cases hu
          refine iteF ⟨.bl b, rfl, .bl b, "bool", "str", false, rfl, dp_ty hu1, by decide +kernel, false, rfl, iteF (num (.bl b) rfl rfl rfl (by show kitB "bool" "int" = some true; decide +kernel))⟩
        | list ds => exact absurd hk (by simp [dk])
        | tuple ds => exact absurd hk (by simp [dk])
        | dict x => cases hv
      | true =>
        obtain ⟨a1, a2, xs, ys, ds, ev, eu, s1, s2, d1, d2, hn, hw⟩ := seq hk
        refine iteT ⟨v, rfl, by show 2 ≤ sizeLine; decide, fun t2 n2 => ?_⟩
        have e2 : Ex H1 (upd H1 t2 (.tup [.ty "tuple", .ty "list"])) := Ex.new n2
        refine ⟨v, t2, _, .type (dk d), [.type "tuple", .type "list"], true, rfl, upd_same, .cons (.ty _) (.cons (.ty _) .nil), dp_ty (dp_ex e2 d v hv1), by rw [← hk]; exact kit2 (dk d) (dk_of hu), true, rfl, iteF ?_⟩
        generalize upd H1 t2 (.tup [.ty "tuple", .ty "list"]) = H2 at e2
        have hbk := dk_is hv "list" (by simp)
        generalize isK (dk d) "list" = bk at hbk
        refine ⟨v, rfl, v, dk d, "list", bk, rfl, dp_ty (dp_ex e2 d v hv1), hbk, u, rfl, u, dk d, "list", bk, rfl, dp_ty (dp_ex e2 d u hu1), hbk, rfl, _, rfl, ?_⟩
        rw [decide_eq_true rfl]
        have s1' : SqL K H2 a1 xs ∨ SqT K H2 a1 xs := s1.elim (fun h => .inl (ex_l e2 h)) fun h => .inr (ex_t e2 h)
        have s2' : SqL K H2 a2 ys ∨ SqT K H2 a2 ys := s2.elim (fun h => .inl (ex_l e2 h)) fun h => .inr (ex_t e2 h)
        have l1 := dpAll_len d1
        have l2 := dpAll_len d2
        refine iteF ⟨v, rfl, a1, xs, by rw [ev], s1', u, rfl, a2, ys, by rw [eu], s2', rfl, _, rfl, ?_⟩
        rw [l1, l2, decide_eq_true rfl]
        have hw1 : ds.length ≤ 100000 := Nat.le_trans (Nat.le_max_left _ _) hw
        have hw2 : wideAll ds ≤ 100000 := Nat.le_trans (Nat.le_max_right _ _) hw
        refine iteF ⟨u, rfl, a2, ys, by rw [eu], s2', (ys.length : Int), rfl, by omega, by omega, fun D nD => ?_⟩
        refine lc_range (lo := 0) (n := ys.length) (fun i G' => Ex H2 G' ∧ H2 D = none ∧ G' D = some (.lst [])) ⟨Ex.new nD, nD, upd_same⟩ (fun i G' hi w => ?_) (fun G' w => ?_)
        · obtain ⟨e3, nD', eD⟩ := w
          have zi : (0 : Int) + (i : Int) = (i : Int) := by omega
          rw [zi]
          have hid : i < ds.length := by omega
          obtain ⟨x, hx, dx⟩ := dpAll_at d1 (List.getElem?_eq_getElem hid)
          obtain ⟨y, hy, dy⟩ := dpAll_at d2 (List.getElem?_eq_getElem hid)
          have e13 : Ex H1 G' := e2.trans e3
          have s1g : SqL K G' a1 xs ∨ SqT K G' a1 xs := s1.elim (fun h => .inl (ex_l e13 h)) fun h => .inr (ex_t e13 h)
          have s2g : SqL K G' a2 ys ∨ SqT K G' a2 ys := s2.elim (fun h => .inl (ex_l e13 h)) fun h => .inr (ex_t e13 h)
          refine ⟨rfl, v, rfl, .int i, rfl, rIx_of ev s1g hx ⟨u, rfl, .int i, rfl, rIx_of eu s2g hy ?_⟩⟩
          have b1 := depth_at (List.getElem?_eq_getElem hid)
          have b2 := wide_at (List.getElem?_eq_getElem hid)
          cases n with
          | zero => omega
          | succ n =>
            exact ⟨x, y, ds[i], rfl, dp_ex e13 _ x dx, dp_ex e13 _ y dy, by omega, by omega, fun G4 e4 => ⟨true, rfl, iteF ⟨e3.trans e4, nD', e4 _ _ eD⟩⟩⟩
        · obtain ⟨e3, nD', eD⟩ := w
          refine ⟨Nat.zero_le _, fun z nz => ?_⟩
          have e4 : Ex G' (upd G' z (.lst [])) := Ex.new nz
          exact ⟨.list [], .list [], .lst (SqL.of (e4 _ _ eD)) .nil, .lst (SqL.of upd_same) .nil, rfl, rfl, q _ (((e1.trans e2).trans e3).trans e4)⟩
end
end K00

set_option maxHeartbeats 4000000
namespace K00
open PySem PySem.Spec PyProof.Rows L2 Hd Evl
section
variable {P : Program} {w : World} {K : PySem.W.Frag} {mg : Str → Option Value} {base : Heap} {CB CN : Addr}
theorem takes_len {X : Cx} {W : WX} (t : Takes X W) : Takes X (fun c d σ H => σ.length = X.N.length → W c d σ H) := fun u s' ⟨a, B, sI, pins, σ, H, cls, d, e, I, nb, up, sky, na, os, ag, w⟩ =>
  t u s' ⟨a, B, sI, pins, σ, H, cls, d, e, I, nb, up, sky, na, os, ag, w I.len⟩
/-- the word of what the lambda raises, or none -/
def TWord (CB CN : Addr) : (XK → Hp → VK → Prop) → Hp → VK → Prop := fun tl H Q =>
  tl (fun cls d H' => (∃ x dd, cls = .ref CB ∧ d = some dd ∧ H' dd = some (.xd [("word", .str x)]) ∧ Q (.str x) H') ∨ (cls = .ref CN ∧ Q (.str "number") H')) H (fun _ H' => Q (.str "none") H')
theorem word_gives {X : Cx} {q : Str} {g : Addr} {cdg : Value} (mB : X.mg "BadHouse" = some (.ref CB)) (mN : X.mg "BadNumber" = some (.ref CN)) (XF : XfC X.K CB) (no : PySem.W.findIn X.K (.ref CB) "word" = some none) (x1 : PySem.W.exmOne X.K (.ref CB) (.ref CB) = some true) (x2 : PySem.W.exmOne X.K (.ref CN) (.ref CB) = some false) (x3 : PySem.W.exmOne X.K (.ref CN) (.ref CN) = some true) :
    LamX.GivesTo X n__law_word "_law_word" (defScope s__law_word) g cdg (defBody s__law_word) "work" q (TWord CB CN) := by
  intro f c' s H Q tl act hc h
  let X0 : Cx := (cxOf C8.CX0 X.prog X.w X.K X.mg X.base n__law_word "_law_word" (defScope s__law_word) g cdg X.A X.stack s H C8.E0).nox
  refine ⟨_, pss_cons (ps_tries (X := X0)
      (tb := fun W D σ H => ∃ Ech : XK, (∀ cls d σ' H', Ech cls d H' → σ'.length = 2 → W cls d σ' H') ∧ σ[0]? = some (some (.ref f)) ∧ H c' = some (LamX.CodeO c' q) ∧ tl Ech H (fun _ H1 => D.nx σ H1))
      rfl rfl LamX.takes0 (fun W pn xe tk _ => ⟨fun pins s' σ H' D I h' => ?_⟩)
      (Clauses.as_ (i := 1) sc__law_word.nd rfl rfl ⟨by rfl, by decide, .inl mB⟩ (fun a oe k d pn z hf => pss_one (ps_ret (pe_xf XF no z hf (pv 1)))) (Clauses.bare ⟨by rfl, by decide, .inl mN⟩ (fun a oe k d pn z _ => pss_one (ps_ret pe_str)) .nil)))
    (pss_one (ps_ret pe_str)), ?_⟩
  · obtain ⟨Ech, hW, h1, h2, h3⟩ := h'
    have hp := fun p1 p2 => act (fun c d σ H => σ.length = 2 → W c d σ H) pn xe Ech p1 p2 (takes_len tk) hW
    exact (pss_one (ps_expr (hp _ _))).run pins s' σ H' D I ⟨h1, h2, h3⟩
  · refine ⟨fun cls d H' => (∃ x dd, cls = .ref CB ∧ d = some dd ∧ H' dd = some (.xd [("word", .str x)]) ∧ Q (.str x) H') ∨ (cls = .ref CN ∧ Q (.str "number") H'), ?_, rfl, hc, h⟩
    intro cls d σ' H' hE hl
    match σ', hl with
    | [y1, y2], _ =>
      rcases hE with ⟨x, dd, rfl, rfl, hx, hq⟩ | ⟨rfl, hq⟩
      · exact ⟨true, x1, fun _ a _ => ⟨.ref a, rfl, rfl, rfl, dd, _, .str x, rfl, hx, rfl, hq⟩, fun z => by cases z⟩
      · exact ⟨false, x2, (fun z => by cases z), fun _ => ⟨true, x3, fun _ a _ => hq, fun z => by cases z⟩⟩
end
end K00

set_option maxHeartbeats 4000000
namespace K00
open PySem PySem.Spec PyProof.Rows L2 Hd Evl
/-! ### what stays while the law runs -/
/-- tuples stay, lists too, but r's -/
structure Kp (r : Addr) (H H' : Hp) : Prop where
  t : ∀ b xs, H b = some (.tup xs) → H' b = some (.tup xs)
  l : ∀ b xs, b ≠ r → H b = some (.lst xs) → H' b = some (.lst xs)
section
variable {r : Addr} {H H1 H2 : Hp}
theorem Kp.refl : Kp r H H := ⟨fun _ _ h => h, fun _ _ _ h => h⟩
theorem Kp.trans (a : Kp r H H1) (b : Kp r H1 H2) : Kp r H H2 := ⟨fun c xs h => b.t c xs (a.t c xs h), fun c xs n h => b.l c xs n (a.l c xs n h)⟩
theorem Kp.ex (e : Ex H H1) : Kp r H H1 := ⟨fun c xs h => e _ _ h, fun c xs n h => e _ _ h⟩
theorem Kp.lam (e : LamX.ExtN H H1) : Kp r H H1 := ⟨fun c xs h => e _ _ h (fun ps z => by cases z), fun c xs n h => e _ _ h (fun ps z => by cases z)⟩
theorem Kp.row {ys : List V} {o : HO} (h : H r = some (.lst ys)) : Kp r H (upd H r o) := ⟨fun c xs z => by
  have n : c ≠ r := fun e => by rw [e, h] at z; cases z
  rw [upd_ne n]
  exact z, fun c xs n z => by
  rw [upd_ne n]
  exact z⟩
end
/-- the row, the script, the tables -/
structure Rw (K : PySem.W.Frag) (T : List (Addr × Str)) (r a : Addr) (ns : List Int) (H : Hp) : Prop where
  row : ∃ i sd rs, H r = some (.lst (rowV a i sd rs)) ∧ 0 ≤ i ∧ 0 ≤ sd ∧ sd < 2147483647
  src : Src K r a ns H
  tab : LamX.Tabs T H
section
variable {K : PySem.W.Frag} {T : List (Addr × Str)} {r a : Addr} {ns : List Int} {H H1 H2 : Hp}
theorem Rw.ex (W : Rw K T r a ns H) (e : Ex H H1) : Rw K T r a ns H1 := by
  obtain ⟨i, sd, rs, h, b⟩ := W.row
  exact ⟨⟨i, sd, rs, e _ _ h, b⟩, W.src.ex e, W.tab.ext e⟩
theorem tabs_row {ys : List V} {o : HO} (h : H r = some (.lst ys)) (t : LamX.Tabs T H) : LamX.Tabs T (upd H r o) := fun p hp => by
  obtain ⟨ps, h1, h2, h3⟩ := t p hp
  refine ⟨ps, ?_, h2, fun pos cv hc => ?_⟩
  · rw [upd_ne (fun e => by rw [e, h] at h1; cases h1)]
    exact h1
  · obtain ⟨c, e1, e2⟩ := h3 pos cv hc
    refine ⟨c, e1, ?_⟩
    rw [upd_ne (fun e => by rw [e, h] at e2; unfold LamX.CodeO at e2; cases e2)]
    exact e2
theorem Rw.upd (W : Rw K T r a ns H) {i sd rs : Int} (h1 : 0 ≤ i) (h2 : 0 ≤ sd) (h3 : sd < 2147483647) : Rw K T r a ns (upd H r (.lst (rowV a i sd rs))) := by
  obtain ⟨_, _, _, h, _⟩ := W.row
  exact ⟨⟨i, sd, rs, upd_same, h1, h2, h3⟩, W.src.row, tabs_row h W.tab⟩
theorem Rw.lam (W : Rw K T r a ns H) (e : LamX.ExtN H H1) (t : LamX.Tabs T H1) : Rw K T r a ns H1 := by
  obtain ⟨i, sd, rs, h, b⟩ := W.row
  refine ⟨⟨i, sd, rs, e _ _ h (fun ps z => by cases z), b⟩, ?_, t⟩
  rcases W.src with q | ⟨n, q | ⟨o, q⟩⟩
  · exact .inl q
  · exact .inr ⟨n, .inl (e _ _ q (fun ps z => by cases z))⟩
  · exact .inr ⟨n, .inr ⟨o, e _ _ q (fun ps z => by cases z)⟩⟩
theorem Rw.kpRow (W : Rw K T r a ns H) {o : HO} : Kp r H (L2.upd H r o) := by
  obtain ⟨_, _, _, h, _⟩ := W.row
  exact Kp.row h
/-- the reader's call -/
theorem taken_of (W : Rw K T r a ns H) {m : Nat} {z : Int} {Q : VK} {E : XK} (e : z = (m : Int)) (h1 : 1 ≤ m) (h2 : m < 2 ^ 60) (q : ∀ (x : Nat) H', x < m → Kp r H H' → Rw K T r a ns H' → Q (iV x) H') : spTaken K [.ref r, .int z] H Q E := by
  subst e
  obtain ⟨i, sd, rs, h, b1, b2, b3⟩ := W.row
  exact ⟨r, a, ns, i, sd, rs, m, rfl, h, W.src, b1, b2, b3, h1, h2, fun i' sd' rs' x c1 c2 c3 c4 => q x _ c4 W.kpRow (W.upd c1 c2 c3)⟩
theorem HouseAt.kp {x : Addr} {n k d p c : Nat} (h : HouseAt H x n k d p c) (e : Kp r H H1) : HouseAt H1 x n k d p c := { h with at_ := e.t _ _ h.at_ }
/-- no reference -/
inductive FlatV : V → Prop
  | non : FlatV .non
  | bl (b : Bool) : FlatV (.bl b)
  | int (i : Int) : FlatV (.int i)
  | str (x : Str) : FlatV (.str x)
theorem FlatV.kind {v : V} (h : FlatV v) : ∃ s, KindV K H v s := by
  cases h with
  | non => exact ⟨_, .non⟩
  | bl b => exact ⟨_, .bl b⟩
  | int i => exact ⟨_, .int i⟩
  | str x => exact ⟨_, .str x⟩
/-- a value of no more than one floor, not the row -/
inductive Bv (r : Addr) (H : Hp) : V → Prop
  | flat {v : V} (h : FlatV v) (ns : ∀ (K : PySem.W.Frag) H s, KindV K H v s → isK s "tuple" = false) : Bv r H v
  | lst {b : Addr} {xs : List V} (n : b ≠ r) (h : H b = some (.lst xs)) : Bv r H (.ref b)
  | tup {b : Addr} {xs : List V} (h : H b = some (.tup xs)) (f : ∀ x ∈ xs, FlatV x) : Bv r H (.ref b)
theorem FlatV.bv {v : V} (h : FlatV v) : Bv r H v := .flat h fun K H s k => by
  cases h <;> cases k <;> decide
theorem Bv.kp {v : V} (h : Bv r H v) (e : Kp r H H1) : Bv r H1 v := by
  cases h with
  | flat h n => exact .flat h n
  | lst n h => exact .lst n (e.l _ _ n h)
  | tup h f => exact .tup (e.t _ _ h) f
theorem Bv.wr {v : V} (h : Bv r H v) : ∃ o, ∀ H', Kp r H H' → Wr K H' v o := by
  cases h with
  | flat h n =>
    cases h with
    | non => exact ⟨_, fun H' e => .out .non (n _ _ _ (.non (K := K) (H := H')))⟩
    | bl b => exact ⟨_, fun H' e => .out (.bl b) (n _ _ _ (.bl (K := K) (H := H') b))⟩
    | int b => exact ⟨_, fun H' e => .out (.int b) (n _ _ _ (.int (K := K) (H := H') b))⟩
    | str b => exact ⟨_, fun H' e => .out (.str b) (n _ _ _ (.str (K := K) (H := H') b))⟩
  | lst n h => exact ⟨_, fun H' e => .out (.lst (e.l _ _ n h)) (by decide)⟩
  | tup h f => exact ⟨_, fun H' e => .tup (e.t _ _ h) fun x hx => (f x hx).kind⟩
theorem Wr.houseNone {x : Addr} {n k d p c : Nat} {o : Option Str} (w : Wr K H (.ref x) o) (h : HouseAt H x n k d p c) : o = none := by
  have hn : wrong5 [.int n, .int k, .int d, .int p, .int c] = none := by
    have := h.wr (K := K)
    generalize e : (none : Option Str) = o' at this
    cases this with
    | out k _ => cases e
    | @tup _ xs h2 _ =>
      rw [h.at_] at h2
      cases h2
      first
        | exact e.symm
        | rfl
  cases w with
  | @out _ s k hs =>
    cases k with
    | lst q =>
      rw [h.at_] at q
      cases q
    | tup q => cases hs
  | @tup _ xs h2 _ =>
    rw [h.at_] at h2
    cases h2
    exact hn
end
/-! ### one statement, told by what holds before and behind it -/
def Does (X : Cx) (st : Stmt) (Pre Post : L2.St → Hp → Prop) : Prop := ∃ t, PS X st t ∧ ∀ D σ H, Pre σ H → (∀ σ' H', Post σ' H' → D.nx σ' H') → t D σ H
theorem does_cons {X : Cx} {st : Stmt} {rest : List Stmt} {Pre Mid : L2.St → Hp → Prop} {F : Ends → Prop} (h1 : Does X st Pre Mid) (h2 : ∃ t, PSs X rest t ∧ ∀ D σ H, Mid σ H → F D → t D σ H) : ∃ t, PSs X (st :: rest) t ∧ ∀ D σ H, Pre σ H → F D → t D σ H := by
  obtain ⟨t1, p1, q1⟩ := h1
  obtain ⟨t2, p2, q2⟩ := h2
  exact ⟨_, pss_cut p1 p2, fun D σ H pre f => ⟨Mid, q1 _ σ H pre fun σ' H' m => m, fun σ' H' m => q2 D σ' H' m f⟩⟩
/-! ### a local that is one of some defs -/
def tCallAny (i : Nat) (fs : List (Addr × Sp)) (E : XK) (t : TA) : TE := fun σ H Q => ∃ p ∈ fs, σ[i]? = some (some (.ref p.1)) ∧ t σ H fun vs H1 => p.2 vs H1 Q E
theorem pe_callAny {X : Cx} {CX : CXT} {k i : Nat} {fs : List (Addr × Sp)} {E : XK} {x : Str} {e : Expr} {es : List Expr} {t : TA} {p pos : Pos} (F : ∀ q ∈ fs, FnR X.prog X.w X.K X.mg X.base CX k q.1 q.2) (hr : Room k X.A) (hk : ∀ q ∈ fs, PySem.W.keepIn X.K (.ref q.1) = true)
    (hx : Passes CX X E) (ha : PA X (e :: es) t) (hN : X.N[i]? = some x := by rfl) (hv : Vis X.env.scope x := by first | exact Or.inl rfl | exact Or.inr (Or.inl rfl) | exact Or.inr (Or.inr rfl)) (hd : (x == ("__debug__" : Str)) = false := by decide) (hcd : (x == ("__classdict__" : Str)) = false := by decide)
    (he : starEach (e :: es) X.env = (false, eval e X.env) :: starEach es X.env := by rfl) (hpl : (backTo pos (starEach es X.env)).any (·.1) = false := by rfl) : PE X (.Call (.Name x p) (e :: es) [] pos) (tCallAny i fs E t) := by
  refine ⟨fun pins s σ H Q I h => ?_⟩
  obtain ⟨q, hq, hs, h⟩ := h
  refine wpAny_Call_Name_kw (thn ((pe_var (pos := p) (i := i) hN hv hd hcd).run pins s σ H (fun v H1 => v = .ref q.1 ∧ H1 = H) I ⟨.ref q.1, hs, rfl, rfl⟩) fun u s1 ⟨v, H1, I1, r1, ev, eH⟩ => ?_)
  subst ev
  rw [eH] at I1
  cases r1
  refine PySem.W.callWith_K (h₀ := X.base) I.ok.mod.kin (hk q hq) (thn (ha.run pos pins s1 σ H _ I1 h) fun us s2 ⟨vs, H2, I2, r, z⟩ => ⟨I2.kIn, ?_⟩) he hpl
  exact wpAny_call (run_fnR (F q hq) hr hx I2 r z)
end K00

set_option maxHeartbeats 4000000
namespace K00
open PySem PySem.Spec PyProof.Rows L2 Hd Evl
/-- the def that calls what it got, and the errors it knows -/
structure WordDef (K : PySem.W.Frag) (mg : Str → Option Value) (CB CN : Addr) : Type where
  f : Addr
  fd : FuncData
  F : FnP K "_law_word" s__law_word f fd
  m : mg "_law_word" = some (.ref f)
  b : Binds K fd ["work"] []
  mB : mg "BadHouse" = some (.ref CB)
  mN : mg "BadNumber" = some (.ref CN)
  XF : XfC K CB
  no : PySem.W.findIn K (.ref CB) "word" = some none
  x1 : PySem.W.exmOne K (.ref CB) (.ref CB) = some true
  x2 : PySem.W.exmOne K (.ref CN) (.ref CB) = some false
  x3 : PySem.W.exmOne K (.ref CN) (.ref CN) = some true
section
variable {CB CN : Addr}
theorem pe_word {X : Cx} {c Pa : Addr} {k : Nat} {params : Arguments} {body : Expr} {scope : Scope} {t : XK → TE} {p lpos pos : Pos} (W : WordDef X.K X.mg CB CN) (q : Str) (TB : LamX.TabB X.base X.mg c Pa) (hq : X.env.qual ++ "<lambda>" = q) (hcode : X.env.code = .ref c) (hg : Gl X "_law_word") (hr : Room (k + 2) X.A) (L : LamX.LamS X.env.scope scope)
    (hbody : ∀ (A : Around) (outer : List Env) (s : Shared) (H : Hp) (E : XK) (f c' : Addr), Room k (A.deeper (LamX.lamEnv X scope s.heap.objs.size f c')) → PE (LamX.lamCx X A outer s H E scope f c') body (t E))
    (hdef : defaultsOf params X.env = ([], [])) (hbind : ∀ (q : Str) (cl : List (Str × Addr)) (pm cv ctv : Value), bindArgs (PySem.W.kla_fn "<lambda>" q params body scope cl pm cv ctv) ⟨[], []⟩ = pure []) :
    PE X (.Call (.Name "_law_word" p) [.Lambda params body scope lpos] [] pos) (LamX.tLam [(Pa, q)] (TWord CB CN) t) := by
  subst hq
  obtain ⟨oc, od, dV, kV, doc, pm, an, cdv, ct, osl, e, lk, hcd, _, _⟩ := W.F.ex
  have lk' := lk
  rw [e] at lk'
  have hb := W.b
  rw [e] at hb
  exact LamX.pe_lamcall hg W.m W.F.kp lk' hcd hb sc__law_word rfl (Or.inl rfl) (word_gives W.mB W.mN W.XF W.no W.x1 W.x2 W.x3) TB hcode (List.mem_singleton.mpr rfl) (fun p hp _ => by rw [List.mem_singleton.mp hp]) hr L hdef hbind hbody
/-- what the word is of: a wrong house -/
theorem word_q {T : List (Addr × Str)} {t : XK → TE} {σ : L2.St} {H : Hp} {Q : VK} (hT : LamX.Tabs T H)
    (h : ∀ H1, LamX.ExtN H H1 → LamX.Tabs T H1 → t (fun cls d H' => (∃ x dd, cls = .ref CB ∧ d = some dd ∧ H' dd = some (.xd [("word", .str x)]) ∧ Q (.str x) H') ∨ (cls = .ref CN ∧ Q (.str "number") H')) σ H1 (fun _ H' => Q (.str "none") H')) : LamX.tLam T (TWord CB CN) t σ H Q :=
  ⟨hT, fun H1 e t1 => h H1 e t1⟩
end
/-- the defs that the law calls -/
structure Lt (P : Program) (w : World) (K : PySem.W.Frag) (mg : Str → Option Value) (base : Heap) (CB CN : Addr) : Type where
  B : Blt mg
  W : WordDef K mg CB CN
  f1 : Addr
  d1 : FuncData
  tk : Fn P w K mg base CX0 1 "_law_taken" ["row", "many"] (spTaken K) f1 d1
  f2 : Addr
  d2 : FuncData
  wr : Fn P w K mg base CX0 1 "_law_wrong" ["value"] (spLawWrong K) f2 d2
  f3 : Addr
  d3 : FuncData
  al : Fn P w K mg base CX0 4 "_law_alike" ["found", "due"] (spAlike K 4) f3 d3
  f4 : Addr
  d4 : FuncData
  ih : Fn P w K mg base CX0 3 "is_house" ["value"] (spIsHouse K) f4 d4
  f5 : Addr
  d5 : FuncData
  ct : Fn P w K mg base (L2.CX P w) 4 "coin_count" ["house"] (spCount K CB) f5 d5
  f6 : Addr
  d6 : FuncData
  dr : Fn P w K mg base (L2.CX P w) 4 "drawn" ["house", "coin"] (spDrawn K CB CN) f6 d6
  f7 : Addr
  d7 : FuncData
  co : Fn P w K mg base (L2.CX P w) 4 "coin_of" ["house", "cells"] (spCoinOf K CB CN) f7 d7
  f8 : Addr
  d8 : FuncData
  st : Fn P w K mg base CX0 1 "_law_sets" ["cells", "many"] spSets f8 d8
abbrev lawSt (i : Nat) : Stmt := (defBody s_law).getD i (.Pass ⟨0, 0, 0, 0⟩)
abbrev LX (P : Program) (w : World) (K : PySem.W.Frag) (mg : Str → Option Value) (base : Heap) (f c : Addr) (A : Around) (outer : List Env) (s : Shared) (H : Hp) (E : XK) : Cx := cxOf (L2.CX P w) P w K mg base n_law "law" (defScope s_law) f (.ref c) A outer s H E
abbrev lawQ : Str := (envOfC "law" (defScope s_law) 0 0 (.ref 0)).qual ++ "<lambda>"
theorem law_body : defBody s_law = [lawSt 0, lawSt 1, lawSt 2, lawSt 3, lawSt 4, lawSt 5, lawSt 6, lawSt 7, lawSt 8, lawSt 9, lawSt 10, lawSt 11, lawSt 12, lawSt 13] := rfl
theorem Fn.r {P : Program} {w : World} {K : PySem.W.Frag} {mg : Str → Option Value} {base : Heap} {CX : CXT} {k : Nat} {x : Str} {ps : List Str} {sp : Sp} {f : Addr} {fd : FuncData} (F : Fn P w K mg base CX k x ps sp f fd) : FnR P w K mg base CX k f sp := by
  have h := FnOk.raw F.G F.b (dvs := []) .nil
  simpa only [List.append_nil] using h
theorem Lt.both {P : Program} {w : World} {K : PySem.W.Frag} {mg : Str → Option Value} {base : Heap} {CB CN : Addr} (L : Lt P w K mg base CB CN) : ∀ q ∈ [(L.f6, spDrawn K CB CN), (L.f7, spCoinOf K CB CN)], FnR P w K mg base (L2.CX P w) 4 q.1 q.2 ∧ PySem.W.keepIn K (.ref q.1) = true := fun q hq => by
  rcases List.mem_cons.mp hq with z | z
  · rw [z]
    exact ⟨Fn.r L.dr, L.dr.k⟩
  · rw [List.mem_singleton.mp z]
    exact ⟨Fn.r L.co, L.co.k⟩
/-- the law's state: script, row, house, and what else -/
def AtH (K : PySem.W.Frag) (Pa a : Addr) (ns : List Int) (n k : Nat) (r hs : Addr) (H : Hp) : Prop := Rw K [(Pa, lawQ)] r a ns H ∧ ∃ d p c, HouseAt H hs n k d p c
theorem AtH.ex {K : PySem.W.Frag} {Pa a : Addr} {ns : List Int} {n k : Nat} {r hs : Addr} {H H1 : Hp} (h : AtH K Pa a ns n k r hs H) (e : Ex H H1) : AtH K Pa a ns n k r hs H1 := let ⟨W, d, p, c, q⟩ := h; ⟨W.ex e, d, p, c, q.ex e⟩
theorem AtH.lam {K : PySem.W.Frag} {Pa a : Addr} {ns : List Int} {n k : Nat} {r hs : Addr} {H H1 : Hp} (h : AtH K Pa a ns n k r hs H) (e : LamX.ExtN H H1) (t : LamX.Tabs [(Pa, lawQ)] H1) : AtH K Pa a ns n k r hs H1 := let ⟨W, d, p, c, q⟩ := h; ⟨W.lam e t, d, p, c, q.kp (r := r) (Kp.lam e)⟩
theorem AtH.kp {K : PySem.W.Frag} {Pa a : Addr} {ns : List Int} {n k : Nat} {r hs : Addr} {H H1 : Hp} (h : AtH K Pa a ns n k r hs H) (e : Kp r H H1) (W : Rw K [(Pa, lawQ)] r a ns H1) : AtH K Pa a ns n k r hs H1 := let ⟨_, d, p, c, q⟩ := h; ⟨W, d, p, c, q.kp e⟩
theorem Kp.put {r D : Addr} {H H1 : Hp} {o : HO} (e : Kp r H H1) (n : H D = none) : Kp r H (upd H1 D o) := ⟨fun c xs h => by
  rw [upd_ne (ne_of_none h n)]
  exact e.t c xs h, fun c xs m h => by
  rw [upd_ne (ne_of_none h n)]
  exact e.l c xs m h⟩
theorem AtH.put {K : PySem.W.Frag} {Pa a : Addr} {ns : List Int} {n k : Nat} {r hs D : Addr} {H H1 : Hp} {xs ys : List V} (h0 : AtH K Pa a ns n k r hs H) (nD : H D = none) (h1 : AtH K Pa a ns n k r hs H1) (hD : H1 D = some (.lst xs)) : AtH K Pa a ns n k r hs (upd H1 D (.lst ys)) := by
  obtain ⟨W0, _⟩ := h0
  obtain ⟨W1, d, p, c, q⟩ := h1
  obtain ⟨_, _, _, r0, _⟩ := W0.row
  obtain ⟨i, sd, rs, r1, b⟩ := W1.row
  refine ⟨⟨⟨i, sd, rs, ?_, b⟩, ?_, tabs_row hD W1.tab⟩, d, p, c, ?_⟩
  · rw [upd_ne (ne_of_none r0 nD)]
    exact r1
  · rcases W0.src with z | ⟨z1, z2⟩
    · exact .inl z
    · have ne : a ≠ D := by
        rcases z2 with z | ⟨_, z⟩ <;> exact ne_of_none z nD
      rcases W1.src with z | ⟨z3, z4⟩
      · exact .inl z
      · refine .inr ⟨z3, ?_⟩
        rcases z4 with z | ⟨u, z⟩
        · exact .inl (by rw [upd_ne ne]; exact z)
        · exact .inr ⟨u, by rw [upd_ne ne]; exact z⟩
  · refine { q with at_ := ?_ }
    rw [upd_ne (fun e => by have := q.at_; rw [e, hD] at this; cases this)]
    exact q.at_
theorem AtH.nr {K : PySem.W.Frag} {Pa a : Addr} {ns : List Int} {n k : Nat} {r hs D : Addr} {H : Hp} (h : AtH K Pa a ns n k r hs H) (nD : H D = none) : D ≠ r := by
  obtain ⟨_, _, _, r0, _⟩ := h.1.row
  exact (ne_of_none r0 nD).symm
theorem two_str {x : Str} (hx : PyData.strOk x = true) : SeqAt.shaped (.list [.str x, .str x]) = true ∧ PyData.eqv (.list [.str x, .str x]) (.list [.str x, .str x]) = true := by
  have h : SeqAt.shaped (.list [.str x, .str x]) = true := by
    simp [SeqAt.shaped, PyData.canLay0, PyData.canLayAll0, PyData.depth, PyData.depthAll, hx]
  exact ⟨h, SeqAt.eqv_refl _ (SeqAt.canLay_of_shaped h)⟩
def KnownW (o : Option Str) : Prop := o ∈ [some ("form" : Str), some ("cells" : Str), some ("sealed" : Str), some ("drawers" : Str), some ("pages" : Str), some ("copies" : Str), none]
theorem known_w (x1 x2 x3 x4 x5 : V) : KnownW (wrongOf x1 x2 x3 x4 x5) := by
  unfold wrongOf
  by_cases h1 : isNum x1 2 12 = false
  · rw [if_pos h1]; simp [KnownW]
  rw [if_neg h1]
  by_cases h2 : isNum x2 1 (vInt x1) = false
  · rw [if_pos h2]; simp [KnownW]
  rw [if_neg h2]
  by_cases h3 : isNum x3 1 4 = false
  · rw [if_pos h3]; simp [KnownW]
  rw [if_neg h3]
  by_cases h4 : isNum x4 1 6 = false
  · rw [if_pos h4]; simp [KnownW]
  rw [if_neg h4]
  by_cases h5 : isNum x5 1 3 = false
  · rw [if_pos h5]; simp [KnownW]
  rw [if_neg h5]
  simp [KnownW]
theorem known_5 : ∀ xs : List V, KnownW (wrong5 xs)
  | [x1, x2, x3, x4, x5] => known_w x1 x2 x3 x4 x5
  | [] => List.mem_cons_self
  | [_] => List.mem_cons_self
  | [_, _] => List.mem_cons_self
  | [_, _, _] => List.mem_cons_self
  | [_, _, _, _] => List.mem_cons_self
  | _ :: _ :: _ :: _ :: _ :: _ :: _ => List.mem_cons_self
theorem known_ok {x : Str} (h : KnownW (some x)) : PyData.strOk x = true := by
  simp only [KnownW, List.mem_cons, Option.some.injEq, List.mem_nil_iff, or_false, reduceCtorEq] at h
  rcases h with rfl | rfl | rfl | rfl | rfl | rfl <;> decide +kernel
theorem Wr.word {K : PySem.W.Frag} {H : Hp} {v : V} {x : Str} (h : Wr K H v (some x)) : PyData.strOk x = true := by
  have key : ∀ o : Option Str, o = some x → KnownW o → PyData.strOk x = true := fun o e k => by rw [e] at k; exact known_ok k
  generalize e : some x = o at h
  cases h with
  | out k hs => exact key _ e.symm List.mem_cons_self
  | @tup a xs ha all => exact key _ e.symm (known_5 xs)
theorem yes_go {σ : L2.St} {H : Hp} {A B : Hp → Prop} (h : A H) : tYes σ H (fun b H3 => if b = true then A H3 else B H3) := iteT (B := B H) h
def At5 (K : PySem.W.Frag) (Pa a : Addr) (ns : List Int) (σ : L2.St) (H : Hp) : Prop := ∃ r hs n k b vs y4, σ = [some (.ref a), some (.ref r), some (.ref hs), some (.ref b), y4, none, none, none, none, none, none, none, none] ∧ AtH K Pa a ns n k r hs H ∧ b ≠ r ∧ H b = some (.lst vs) ∧ ∀ v ∈ vs, Bv r H v
def At6 (K : PySem.W.Frag) (Pa a : Addr) (ns : List Int) (σ : L2.St) (H : Hp) : Prop := ∃ r hs n k y3 y4 y5 y6, σ = [some (.ref a), some (.ref r), some (.ref hs), y3, y4, y5, y6, none, none, none, none, none, none] ∧ AtH K Pa a ns n k r hs H
section
variable {P : Program} {w : World} {K : PySem.W.Frag} {mg : Str → Option Value} {base : Heap} {CB CN : Addr} {a : Addr} {ns : List Int} {f c Pa : Addr} {A : Around} {outer : List Env} {s : Shared} {H0 : Hp} {E0 : XK}
end
end K00

set_option maxHeartbeats 4000000
namespace K00
open PySem PySem.Spec PyProof.Rows L2 Hd Evl
section
variable {P : Program} {w : World} {K : PySem.W.Frag} {mg : Str → Option Value} {base : Heap} {CB CN : Addr} {a : Addr} {ns : List Int} {f c Pa : Addr} {A : Around} {outer : List Env} {s : Shared} {H0 : Hp} {E0 : XK}
theorem st5 (L : Lt P w K mg base CB CN) (TB : LamX.TabB base mg c Pa) (hr : Room 6 (A.deeper (envOfC "law" (defScope s_law) s.heap.objs.size f (.ref c)))) : Does (LX P w K mg base f c A outer s H0 E0) (lawSt 5) (At5 K Pa a ns) (At6 K Pa a ns) := by
  have un : (A.deeper (envOfC "law" (defScope s_law) s.heap.objs.size f (.ref c))).units + 64 < cLine := by have := hr.un; omega
  refine ⟨_, (ps_for (passes_of rfl) rfl (pi_list (pv 3)) (pg_name (i := 5) sc_law.nd rfl (Or.inr rfl)) (pss_cons (ps_set (i := 6) sc_law.nd rfl (Or.inl rfl) (pe_call L.wr.G (hr.mono (by decide)) (by rfl) L.wr.m L.wr.k L.wr.b .nil pass0 (pa_cons (pv 5) pa_nil)))
    (pss_cons (ps_if (pt_not (pt_val (pe_call L.al.G (hr.mono (by decide)) (by rfl) L.al.m L.al.k L.al.b .nil pass0 (pa_cons (pe_call L.ih.G (hr.mono (by decide)) (by rfl) L.ih.m L.ih.k L.ih.b .nil pass0 (pa_cons (pv 5) pa_nil)) (pa_cons (pe_cmpR op_isN (pv 6) pe_non (nomark _)) pa_nil))))) (pss_one (ps_ret pe_bl)) pss_nil)
    (pss_cons (ps_if (PW.pt (pw_and (pt_cmpR op_notN (pv 6) pe_non (nomark _)) (pw_and1 (pt_cmpR op_ne (pe_word L.W lawQ TB rfl rfl (by rfl) (k := 4) hr (LamX.lamS_by (by rfl)) (fun A' outer' s' H' E' f' c' hr' => pe_call L.ct.G hr' (by rfl) L.ct.m L.ct.k L.ct.b .nil (passX (E := E') rfl rfl rfl rfl) (pa_cons (pv 5) pa_nil)) (by rfl) (fun _ _ _ _ _ => by rfl)) (pv 6) (nomark _))))) (pss_one (ps_ret pe_bl)) pss_nil)
    (pss_one (ps_if (PW.pt (pw_and (pt_cmpR op_notN (pv 6) pe_non (nomark _)) (pw_and1 (pt_cmpR (op_neD un) (pe_lc (own := [("ask", 12)]) (g := gName 12) (by rfl) sc_law.nd (pi_list (pe_lst (pa_cons (pe_glob (v := .ref L.f6) rfl L.dr.m rfl) (pa_cons (pe_glob (v := .ref L.f7) rfl L.co.m rfl) pa_nil)))) (blkOk_by (own := [("ask", 12)]) (N := n_law) (sc := defScope s_law) (by decide +kernel)) (fun _ _ _ _ _ => pg_name (i := 12) sc_law.nd rfl (Or.inr rfl)) (fun _ _ _ _ _ => pts_nil)
        (fun _ _ _ _ _ => pe_word L.W lawQ TB rfl rfl (by rfl) (k := 4) hr (LamX.lamS_by (by rfl)) (fun A' outer' s' H' E' f' c' hr' => pe_callAny (i := 12) (fs := [(L.f6, spDrawn K CB CN), (L.f7, spCoinOf K CB CN)]) (fun q hq => (L.both q hq).1) hr' (fun q hq => (L.both q hq).2) (passX (E := E') rfl rfl rfl rfl) (pa_cons (pv 5) (pa_cons (pe_tup pa_nil) pa_nil))) (by rfl) (fun _ _ _ _ _ => by rfl)))
        (pe_op op_rep (pe_lst (pa_cons (pv 6) pa_nil)) pe_int) (nomark _))))) (pss_one (ps_ret pe_bl)) pss_nil)))))), fun D σ H pre post => ?_⟩
  obtain ⟨r, hs, n, k, b, vs, y4, rfl, W, nb, hb, hv⟩ := pre
  refine ⟨.ref b, rfl, b, rfl, ⟨vs, SqL.of hb⟩, for_list (xs := vs) (fun i σ G => ∃ y5 y6, σ = [some (.ref a), some (.ref r), some (.ref hs), some (.ref b), y4, y5, y6, none, none, none, none, none, none] ∧ Kp r H G ∧ AtH K Pa a ns n k r hs G) ⟨none, none, rfl, Kp.refl, W⟩
    (fun i σ G _ w => by obtain ⟨_, _, _, e, _⟩ := w; exact SqL.of (e.l _ _ nb hb)) (fun i v σ G hx w => ?_) (fun σ G w => ?_)⟩
  · obtain ⟨y5, y6, rfl, e0, W1⟩ := w
    obtain ⟨o, hw⟩ := (hv v (List.mem_of_getElem? hx)).wr (K := K)
    refine ⟨v, rfl, v, o, rfl, hw _ e0, fun G2 e2 => ?_⟩
    have k2 := e0.trans (Kp.ex e2)
    have W2 := W1.ex e2
    refine ⟨v, rfl, v, o, rfl, hw _ k2, optV o, rfl, rfl, _, _, .bool (o == none), rfl, .bl _, (by cases o <;> exact .bl _), Nat.zero_le _, Nat.zero_le _, fun G3 e3 => ⟨true, rfl, iteF ?_⟩⟩
    have k3 := k2.trans (Kp.ex e3)
    have W3 := W2.ex e3
    cases o with
    | none =>
      refine ⟨.non, rfl, rfl, _, rfl, iteF ⟨.non, rfl, rfl, _, rfl, iteF ⟨_, _, rfl, k3, W3⟩⟩⟩
    | some x =>
      refine ⟨.str x, rfl, rfl, _, rfl, iteT (word_q W3.1.tab fun G4 e4 t4 => ?_)⟩
      have k4 := k3.trans (Kp.lam e4)
      have W4 := W3.lam e4 t4
      refine ⟨v, rfl, v, some x, rfl, hw _ k4, fun a1 n1 k1 d1 p1 c1 ev hh => ?_, fun y ey d G5 e5 n5 h5 => .inl ⟨y, d, rfl, rfl, h5, ?_⟩⟩
      · subst ev
        exact absurd ((hw _ k4).houseNone hh) (by simp)
      · cases ey
        have k5 := k4.trans (Kp.ex e5)
        have W5 := W4.ex e5
        refine ⟨.str x, rfl, rfl, _, rfl, ?_⟩
        rw [decide_eq_true rfl]
        refine iteF ⟨.str x, rfl, rfl, _, rfl, iteT ?_⟩
        refine ⟨by show 2 ≤ sizeLine; decide, fun l nl => ⟨l, rfl, ⟨_, SqL.of upd_same⟩, fun D nD => ?_⟩⟩
        have e6 := Ex.new (o := .lst [.ref L.f6, .ref L.f7]) nl
        have k6 := k5.trans (Kp.ex e6)
        have W6 := W5.ex e6
        have nr := AtH.nr W5 nl
        have hl : upd G5 l (.lst [.ref L.f6, .ref L.f7]) l = some (.lst [.ref L.f6, .ref L.f7]) := upd_same
        generalize hG6 : upd G5 l (.lst [.ref L.f6, .ref L.f7]) = G6 at k6 W6 hl
        have hG6' : upd G5 l (.lst [V.ref L.f6, V.ref L.f7]) = G6 := hG6
        try rw [hG6'] at nD
        try rw [hG6']
        have nDr := AtH.nr W6 nD
        refine lc_list (xs := [.ref L.f6, .ref L.f7]) (fun i G => G D = some (.lst (List.replicate i (.str x))) ∧ Kp r G6 G ∧ AtH K Pa a ns n k r hs G) ⟨upd_same, Kp.ex (Ex.new nD), AtH.ex W6 (Ex.new nD)⟩ (fun i G _ w => SqL.of (w.2.1.l _ _ nr hl)) (fun i y G hy w => ?_) (fun G w => ?_)
        · obtain ⟨gD, k7, W7⟩ := w
          refine ⟨rfl, ?_⟩
          obtain ⟨p, hp, rfl, hsp⟩ : ∃ p, p ∈ [(L.f6, spDrawn K CB CN), (L.f7, spCoinOf K CB CN)] ∧ y = .ref p.1 ∧ ∀ (u : V) (G' : Hp) (Q' : VK) (E' : XK), Wr K G' v (some x) → (∀ a n k d p c, v = .ref a → HouseAt G' a n k d p c → False) → Refuses CB E' G' x → p.2 [v, u] G' Q' E' := by
            match i, hy with
            | 0, hy => exact ⟨_, List.mem_cons_self, (Option.some.inj hy).symm, fun u G' Q' E' h1 h2 h3 => ⟨v, u, some x, rfl, h1, fun y ey => by cases ey; exact h3, fun a n k d p c e hh => (h2 a n k d p c e hh).elim⟩⟩
            | 1, hy => exact ⟨_, List.mem_cons_of_mem _ List.mem_cons_self, (Option.some.inj hy).symm, fun u G' Q' E' h1 h2 h3 => ⟨v, u, some x, rfl, h1, fun y ey => by cases ey; exact h3, fun a n k d p c e hh => (h2 a n k d p c e hh).elim⟩⟩
          refine yes_go ?_
          refine word_q W7.1.tab fun G8 e8 t8 => ⟨p, hp, rfl, v, rfl, Nat.zero_le _, fun t nt => ?_⟩
          have k8 := k7.trans ((Kp.lam e8).trans (Kp.ex (Ex.new (o := .tup []) nt)))
          have W8 := AtH.ex (AtH.lam W7 e8 t8) (Ex.new (o := .tup []) nt)
          have w8 := hw _ (k6.trans k8)
          refine hsp _ _ _ _ w8 (fun a1 n1 k1 d1 p1 c1 ev hh => ?_) (fun d G9 e9 n9 h9 => .inl ⟨x, d, rfl, rfl, h9, ?_⟩)
          · subst ev
            exact absurd (w8.houseNone hh) (by simp)
          · have k9 := k8.trans (Kp.ex e9)
            have W9 := AtH.ex W8 e9
            have g9 : G9 D = some (.lst (List.replicate i (.str x))) := e9 _ _ (Ex.new (o := .tup []) nt _ _ (e8 _ _ gD (fun ps z => by cases z)))
            refine ⟨_, g9, by rw [List.length_replicate]; exact Nat.lt_of_lt_of_le (List.getElem?_eq_some_iff.mp hy).1 (by show 2 ≤ sizeLine; decide), ?_, k9.put nD, W6.put nD W9 g9⟩
            rw [upd_same, ← List.replicate_succ'] <;> rfl
        · obtain ⟨gD, k7, W7⟩ := w
          refine ⟨.str x, rfl, by show 1 ≤ sizeLine; decide, fun l2 n2 => ⟨l2, 2, [.str x], rfl, rfl, upd_same, by decide, by decide, (by show 1 * 2 ≤ sizeLine; decide), fun z nz => ?_⟩⟩
          have ts := two_str (hw _ k6).word
          have e10 := (Ex.new (o := .lst [.str x]) n2).trans (Ex.new (o := .lst [.str x, .str x]) nz)
          refine ⟨.list [.str x, .str x], .list [.str x, .str x], .lst (xs := [.str x, .str x]) (SqL.of (e10 _ _ gD)) (.cons (.str x) (.cons (.str x) .nil)), .lst (xs := [.str x, .str x]) (SqL.of upd_same) (.cons (.str x) (.cons (.str x) .nil)), ts.1, ts.1, _, rfl, ?_⟩
          rw [ts.2]
          exact iteF ⟨_, _, rfl, (k6.trans k7).trans (Kp.ex e10), AtH.ex W7 e10⟩
  · obtain ⟨y5, y6, rfl, e0, W1⟩ := w
    exact post _ _ ⟨r, hs, n, k, _, _, _, _, rfl, W1⟩
end
end K00

set_option maxHeartbeats 4000000
namespace K00
open PySem PySem.Spec PyProof.Rows L2 Hd Evl
def At0 (K : PySem.W.Frag) (Pa a : Addr) (ns : List Int) (σ : L2.St) (H : Hp) : Prop := σ = [some (.ref a), none, none, none, none, none, none, none, none, none, none, none, none] ∧ SqL K H a (ns.map V.int) ∧ H Pa = some (.tbl #[])
def At1 (K : PySem.W.Frag) (Pa a : Addr) (ns : List Int) (σ : L2.St) (H : Hp) : Prop := ∃ r, σ = [some (.ref a), some (.ref r), none, none, none, none, none, none, none, none, none, none, none] ∧ Rw K [(Pa, lawQ)] r a ns H
def At2 (K : PySem.W.Frag) (Pa a : Addr) (ns : List Int) (σ : L2.St) (H : Hp) : Prop := ∃ r hs n d p c, σ = [some (.ref a), some (.ref r), some (.ref hs), none, none, none, none, none, none, none, none, none, none] ∧ Rw K [(Pa, lawQ)] r a ns H ∧ H hs = some (.tup [.int (2 + (n : Nat)), .int 1, .int (1 + (d : Nat)), .int (1 + (p : Nat)), .int (1 + (c : Nat))]) ∧ n < 11 ∧ d < 4 ∧ p < 6 ∧ c < 3
def At3 (K : PySem.W.Frag) (Pa a : Addr) (ns : List Int) (σ : L2.St) (H : Hp) : Prop := ∃ r hs n k, σ = [some (.ref a), some (.ref r), some (.ref hs), none, none, none, none, none, none, none, none, none, none] ∧ AtH K Pa a ns n k r hs H
theorem slA {K : PySem.W.Frag} {H : Hp} {x : Addr} {xs : List V} {lo hi : Option Int} {Q : VK} (h : H x = some (.tup xs)) (q : ∀ p H', Ex H H' → H' p = some (.tup (cutV xs lo hi)) → Q (.ref p) H') : rSlA K (.ref x) lo hi H Q := by
  refine ⟨x, xs, rfl, SqT.of h, fun z => q x H (Ex.refl H) ?_, fun _ p np => q p _ (Ex.new np) upd_same⟩
  have e : cutV xs lo hi = xs := by
    unfold cutV
    rw [z.1, z.2, List.drop_zero, Nat.sub_zero, List.take_length]
  rw [e]
  exact h
theorem slN {K : PySem.W.Frag} {σ : L2.St} {H : Hp} {x : Addr} {xs : List V} {lo : Option Int} {Q : VK} (h : H x = some (.tup xs)) (q : ∀ p H', Ex H H' → H' p = some (.tup (cutV xs lo none)) → Q (.ref p) H') : tNoPart σ H (fun u H3 => rSlA K (.ref x) lo u H3 Q) := slA (hi := none) h q
theorem catA {K : PySem.W.Frag} {H : Hp} {x y : Addr} {xs ys : List V} {Q : VK} (h : H x = some (.tup xs)) (g : H y = some (.tup ys)) (hz : xs.length + ys.length ≤ 100000) (q : ∀ p H', Ex H H' → H' p = some (.tup (xs ++ ys)) → Q (.ref p) H') : rCatA K (.ref x) (.ref y) H Q := by
  refine ⟨x, y, xs, ys, rfl, rfl, SqT.of h, SqT.of g, Nat.le_trans hz (by decide), fun z => q y H (Ex.refl H) ?_, fun _ z => q x H (Ex.refl H) ?_, fun _ _ p np => q p _ (Ex.new np) upd_same⟩
  · rw [z]
    exact g
  · rw [z, List.append_nil]
    exact h
section
variable {P : Program} {w : World} {K : PySem.W.Frag} {mg : Str → Option Value} {base : Heap} {CB CN : Addr} {a : Addr} {ns : List Int} {f c Pa : Addr} {A : Around} {outer : List Env} {s : Shared} {H0 : Hp} {E0 : XK}
theorem st0 (L : Lt P w K mg base CB CN) (hr : Room 6 (A.deeper (envOfC "law" (defScope s_law) s.heap.objs.size f (.ref c)))) : Does (LX P w K mg base f c A outer s H0 E0) (lawSt 0) (At0 K Pa a ns) (At1 K Pa a ns) := by
  refine ⟨_, ps_set (i := 1) sc_law.nd rfl (Or.inl rfl) (pe_lst (pa_cons (pv 0) (pa_cons pe_int (pa_cons pe_int (pa_cons pe_int pa_nil))))), fun D σ H pre post => ?_⟩
  obtain ⟨rfl, ha, hP⟩ := pre
  refine ⟨.ref a, rfl, by show 4 ≤ sizeLine; decide, fun l nl => post _ _ ⟨l, rfl, ⟨0, 18000, 0, upd_same, by decide, by decide, by decide⟩, ?_, ?_⟩⟩
  · exact (Src.new ha nl).ex (Ex.new nl)
  · refine (show LamX.Tabs [(Pa, lawQ)] H from fun p hp => ?_).ext (Ex.new nl)
    rw [List.mem_singleton.mp hp]
    exact LamX.TabS.nil hP
theorem st1 (L : Lt P w K mg base CB CN) (hr : Room 6 (A.deeper (envOfC "law" (defScope s_law) s.heap.objs.size f (.ref c)))) : Does (LX P w K mg base f c A outer s H0 E0) (lawSt 1) (At1 K Pa a ns) (At2 K Pa a ns) := by
  have h1 := hr.mono (show 1 ≤ 6 by decide)
  refine ⟨_, ps_set (i := 2) sc_law.nd rfl (Or.inr rfl) (pe_tup (pa_cons (pe_op op_add pe_int (pe_call L.tk.G h1 (by rfl) L.tk.m L.tk.k L.tk.b .nil pass0 (pa_cons (pv 1) (pa_cons pe_int pa_nil)))) (pa_cons pe_int (pa_cons (pe_op op_add pe_int (pe_call L.tk.G h1 (by rfl) L.tk.m L.tk.k L.tk.b .nil pass0 (pa_cons (pv 1) (pa_cons pe_int pa_nil)))) (pa_cons (pe_op op_add pe_int (pe_call L.tk.G h1 (by rfl) L.tk.m L.tk.k L.tk.b .nil pass0 (pa_cons (pv 1) (pa_cons pe_int pa_nil)))) (pa_cons (pe_op op_add pe_int (pe_call L.tk.G h1 (by rfl) L.tk.m L.tk.k L.tk.b .nil pass0 (pa_cons (pv 1) (pa_cons pe_int pa_nil)))) pa_nil)))))), fun D σ H pre post => ?_⟩
  obtain ⟨r, rfl, W⟩ := pre
  refine ⟨.ref r, rfl, taken_of (m := 11) (z := 11) W rfl (by decide) (by decide) fun x1 H1 l1 _ W1 => ⟨_, _, rfl, rfl, ?_⟩⟩
  refine ⟨.ref r, rfl, taken_of (m := 4) (z := 4) W1 rfl (by decide) (by decide) fun x2 H2 l2 _ W2 => ⟨_, _, rfl, rfl, ?_⟩⟩
  refine ⟨.ref r, rfl, taken_of (m := 6) (z := 6) W2 rfl (by decide) (by decide) fun x3 H3 l3 _ W3 => ⟨_, _, rfl, rfl, ?_⟩⟩
  refine ⟨.ref r, rfl, taken_of (m := 3) (z := 3) W3 rfl (by decide) (by decide) fun x4 H4 l4 _ W4 => ⟨_, _, rfl, rfl, ?_⟩⟩
  refine ⟨by show 5 ≤ sizeLine; decide, fun t nt => post _ _ ⟨r, t, x1, x2, x3, x4, rfl, W4.ex (Ex.new nt), upd_same, l1, l2, l3, l4⟩⟩
theorem st2 (L : Lt P w K mg base CB CN) (hr : Room 6 (A.deeper (envOfC "law" (defScope s_law) s.heap.objs.size f (.ref c)))) : Does (LX P w K mg base f c A outer s H0 E0) (lawSt 2) (At2 K Pa a ns) (At3 K Pa a ns) := by
  have h1 := hr.mono (show 1 ≤ 6 by decide)
  refine ⟨_, ps_set (i := 2) sc_law.nd rfl (Or.inr rfl) (pe_op op_catA (pe_op op_catA (pe_slice sl_tupA (pv 2) po_none (po_some pe_int)) (pe_tup (pa_cons (pe_op op_add pe_int (pe_call L.tk.G h1 (by rfl) L.tk.m L.tk.k L.tk.b .nil pass0 (pa_cons (pv 1) (pa_cons (pe_ix ix_tup (pv 2) pe_int (fun _ _ => rfl)) pa_nil)))) pa_nil))) (pe_slice sl_tupA (pv 2) (po_some pe_int) po_none)), fun D σ H pre post => ?_⟩
  obtain ⟨r, hs, n, d, p, c', rfl, W, hh, ln, ld, lp, lc⟩ := pre
  refine ⟨.ref hs, rfl, 1, rfl, slA hh fun p1 H1 e1 g1 => ?_⟩
  refine ⟨.ref r, rfl, .ref hs, rfl, hs, _, _, .int (2 + (n : Nat)), rfl, rfl, SqT.of (e1 _ _ hh), atI_nat (j := 0) rfl, taken_of (m := 2 + n) (W.ex e1) (by omega) (by omega) (by omega) fun x H2 lx k2 W2 => ⟨_, _, rfl, rfl, (by show 1 ≤ sizeLine; decide), fun t nt => ?_⟩⟩
  have e3 := Ex.new (o := .tup [.int (1 + (x : Nat))]) nt
  refine catA (e3 _ _ (k2.t _ _ g1)) upd_same (by show 1 + 1 ≤ 100000; decide) fun p3 H3 e4 g3 => ?_
  refine ⟨.ref hs, rfl, 2, rfl, slN (e4 _ _ (e3 _ _ (k2.t _ _ (e1 _ _ hh)))) fun p4 H4 e5 g4 => ?_⟩
  refine catA (e5 _ _ g3) g4 (by show 2 + 3 ≤ 100000; decide) fun p5 H5 e6 g5 => post _ _ ⟨r, p5, 2 + n, 1 + x, rfl, ((W2.ex e3).ex e4).ex (e5.trans e6), 1 + d, 1 + p, 1 + c', ?_, by omega, by omega, by omega, by omega, by omega, by omega, by omega, by omega, by omega, by omega⟩
  rw [g5]
  push_cast
  rfl
end
end K00

set_option maxHeartbeats 4000000
namespace K00
open PySem PySem.Spec PyProof.Rows L2 Hd Evl
theorem cutV_mem {xs : List V} {lo hi : Option Int} {x : V} (h : x ∈ cutV xs lo hi) : x ∈ xs := List.mem_of_mem_drop (List.mem_of_mem_take h)
def TupF (H : Hp) (v : V) : Prop := ∃ b xs, v = .ref b ∧ H b = some (.tup xs) ∧ ∀ x ∈ xs, FlatV x
theorem TupF.kp {r : Addr} {H H1 : Hp} {v : V} (h : TupF H v) (e : Kp r H H1) : TupF H1 v := let ⟨b, xs, e1, e2, e3⟩ := h; ⟨b, xs, e1, e.t _ _ e2, e3⟩
theorem TupF.bv {r : Addr} {H : Hp} {v : V} (h : TupF H v) : Bv r H v := let ⟨b, xs, e1, e2, e3⟩ := h; by rw [e1]; exact .tup e2 e3
theorem TupF.put {H : Hp} {v : V} {D : Addr} {xs : List V} {o : HO} (h : TupF H v) (hD : H D = some (.lst xs)) : TupF (upd H D o) v := by
  obtain ⟨b, ys, e1, e2, e3⟩ := h
  exact ⟨b, ys, e1, by rw [upd_ne (fun e => by rw [e, hD] at e2; cases e2)]; exact e2, e3⟩
theorem HouseAt.flat {x : Addr} {n k d p c : Nat} {H : Hp} (h : HouseAt H x n k d p c) : ∀ z ∈ [V.int n, V.int k, V.int d, V.int p, V.int c], FlatV z := fun z hz => by
  simp only [List.mem_cons, List.mem_nil_iff, or_false] at hz
  rcases hz with rfl | rfl | rfl | rfl | rfl <;> exact .int _
def At4 (K : PySem.W.Frag) (Pa a : Addr) (ns : List Int) (σ : L2.St) (H : Hp) : Prop := ∃ r hs n k b vs, σ = [some (.ref a), some (.ref r), some (.ref hs), some (.ref b), none, none, none, none, none, none, none, none, none] ∧ AtH K Pa a ns n k r hs H ∧ b ≠ r ∧ H b = some (.lst vs) ∧ vs.length = 6 ∧ ∀ v ∈ vs, Bv r H v
section
variable {P : Program} {w : World} {K : PySem.W.Frag} {mg : Str → Option Value} {base : Heap} {CB CN : Addr} {a : Addr} {ns : List Int} {f c Pa : Addr} {A : Around} {outer : List Env} {s : Shared} {H0 : Hp} {E0 : XK}
theorem st3 (L : Lt P w K mg base CB CN) (hr : Room 6 (A.deeper (envOfC "law" (defScope s_law) s.heap.objs.size f (.ref c)))) : Does (LX P w K mg base f c A outer s H0 E0) (lawSt 3) (At3 K Pa a ns) (At4 K Pa a ns) := by
  refine ⟨_, ps_set (i := 3) sc_law.nd rfl (Or.inl rfl) (pe_lst (pa_cons (pv 2) (pa_cons (pe_callTy call_list_of (by rfl) L.B.list (by decide +kernel) (pa_cons (pv 2) pa_nil)) (pa_cons (pe_slice sl_tupA (pv 2) po_none (po_some pe_int)) (pa_cons (pe_op op_catA (pv 2) (pe_tup (pa_cons pe_int pa_nil))) (pa_cons pe_non (pa_cons pe_int pa_nil))))))), fun D σ H pre post => ?_⟩
  obtain ⟨r, hs, n, k, rfl, W⟩ := pre
  obtain ⟨W0, d, p, c', hh⟩ := W
  have W : AtH K Pa a ns n k r hs H := ⟨W0, d, p, c', hh⟩
  refine ⟨.ref hs, rfl, .ref hs, rfl, hs, _, rfl, .inr (SqT.of hh.at_), fun l nl => ?_⟩
  have e1 := Ex.new (o := .lst [V.int n, V.int k, V.int d, V.int p, V.int c']) nl
  refine ⟨.ref hs, rfl, 4, rfl, slA (e1 _ _ hh.at_) fun p2 H2 e2 g2 => ⟨.ref hs, rfl, (by show 1 ≤ sizeLine; decide), fun t nt => ?_⟩⟩
  have e3 := Ex.new (o := .tup [V.int 1]) nt
  refine catA (e3 _ _ (e2 _ _ (e1 _ _ hh.at_))) upd_same (by show 5 + 1 ≤ 100000; decide) fun p4 H4 e4 g4 => ⟨(by show 6 ≤ sizeLine; decide), fun b nb => ?_⟩
  have e5 := Ex.new (o := .lst [V.ref hs, .ref l, .ref p2, .ref p4, .non, .int 7]) nb
  have ea := e1.trans (e2.trans (e3.trans (e4.trans e5)))
  have Wa := AtH.ex W ea
  have W4 := AtH.ex W (e1.trans (e2.trans (e3.trans e4)))
  refine post _ _ ⟨r, hs, n, k, b, _, rfl, Wa, AtH.nr W4 nb, upd_same, rfl, fun v hv => ?_⟩
  simp only [List.mem_cons, List.mem_nil_iff, or_false] at hv
  rcases hv with rfl | rfl | rfl | rfl | rfl | rfl
  · exact .tup (ea _ _ hh.at_) hh.flat
  · exact .lst (AtH.nr W nl) ((e2.trans (e3.trans (e4.trans e5))) _ _ upd_same)
  · exact .tup ((e3.trans (e4.trans e5)) _ _ g2) fun x hx => hh.flat x (cutV_mem hx)
  · refine .tup (e5 _ _ g4) fun x hx => ?_
    rcases List.mem_append.mp hx with z | z
    · exact hh.flat x z
    · rw [List.mem_singleton.mp z]
      exact .int 1
  · exact FlatV.non.bv
  · exact (FlatV.int 7).bv
theorem st4 (L : Lt P w K mg base CB CN) (hr : Room 6 (A.deeper (envOfC "law" (defScope s_law) s.heap.objs.size f (.ref c)))) : Does (LX P w K mg base f c A outer s H0 E0) (lawSt 4) (At4 K Pa a ns) (At5 K Pa a ns) := by
  refine ⟨_, ps_for (passes_of rfl) rfl (pi_range1 (by rfl) L.B.range (pa_cons pe_int pa_nil)) (pg_name (i := 4) sc_law.nd rfl (Or.inr rfl)) (pss_one (ps_set (i := 3) sc_law.nd rfl (Or.inl rfl) (pe_op op_cat (pv 3) (pe_lc (own := [("value", 5)]) (g := gName 5) (by rfl) sc_law.nd (pi_list (pe_lst (pa_cons pe_int (pa_cons pe_int (pa_cons pe_int (pa_cons pe_bl (pa_cons pe_non (pa_cons pe_str (pa_cons (pe_op op_add (pe_ix ix_tup (pv 2) (pv 4) (fun _ _ => rfl)) pe_int) (pa_cons (pe_op op_sub (pe_ix ix_tup (pv 2) (pv 4) (fun _ _ => rfl)) pe_int) (pa_cons pe_int pa_nil))))))))))) (blkOk_by (own := [("value", 5)]) (N := n_law) (sc := defScope s_law) (by decide +kernel)) (fun _ _ _ _ _ => pg_name (i := 5) sc_law.nd rfl (Or.inl rfl)) (fun _ _ _ _ _ => pts_nil)
    (fun _ _ _ _ _ => pe_op (op_catA : OpR _ _ (rCatA K)) (pe_op (op_catA : OpR _ _ (rCatA K)) (pe_slice (sl_tupA : SlR _ (rSlA K)) (pv 2) po_none (po_some (pv 4))) (pe_tup (pa_cons (pv 5) pa_nil))) (pe_slice (sl_tupA : SlR _ (rSlA K)) (pv 2) (po_some (pe_op op_add (pv 4) pe_int)) po_none)))))), fun D σ H pre post => ?_⟩
  obtain ⟨r, hs, n, k, b, vs, rfl, W, nb, hb, hl, hv⟩ := pre
  refine ⟨5, rfl, by decide, by decide, for_range (lo := 0) (n := 5) (fun i σ G => ∃ b vs y4, σ = [some (.ref a), some (.ref r), some (.ref hs), some (.ref b), y4, none, none, none, none, none, none, none, none] ∧ AtH K Pa a ns n k r hs G ∧ b ≠ r ∧ G b = some (.lst vs) ∧ vs.length = 6 + 9 * i ∧ ∀ v ∈ vs, Bv r G v) ⟨b, vs, none, rfl, W, nb, hb, hl, hv⟩
      (fun i σ G hi w => ?_) (fun σ G w => ?_)⟩
  · obtain ⟨b, vs, y4, rfl, W, nb, hb, hl, hv⟩ := w
    have zi : (0 : Int) + (i : Int) = (i : Int) := by omega
    rw [zi]
    obtain ⟨W0, d, p, c', hh⟩ := id W
    have hi5 : ∃ z : Nat, [V.int n, V.int k, V.int d, V.int p, V.int c'][i]? = some (.int z) := by
      match i, hi with
      | 0, _ => exact ⟨_, rfl⟩
      | 1, _ => exact ⟨_, rfl⟩
      | 2, _ => exact ⟨_, rfl⟩
      | 3, _ => exact ⟨_, rfl⟩
      | 4, _ => exact ⟨_, rfl⟩
    obtain ⟨z, hz⟩ := hi5
    refine ⟨.ref b, rfl, ?_⟩
    refine ⟨.ref hs, rfl, .int i, rfl, hs, _, _, .int z, rfl, rfl, SqT.of hh.at_, atI_nat hz, _, _, rfl, rfl, .ref hs, rfl, .int i, rfl, hs, _, _, .int z, rfl, rfl, SqT.of hh.at_, atI_nat hz, _, _, rfl, rfl, (by show 9 ≤ sizeLine; decide), fun l nl => ⟨l, rfl, ⟨_, SqL.of upd_same⟩, fun D nD => ?_⟩⟩
    obtain ⟨xs9, hxs⟩ : ∃ xs9, xs9 = [V.int 0, .int 1, .int 13, .bl true, .non, .str "2", .int ((z : Int) + 1), .int ((z : Int) - 1), .int 5] := ⟨_, rfl⟩
    have f9 : ∀ y ∈ xs9, FlatV y := fun y hy => by
      rw [hxs] at hy
      simp only [List.mem_cons, List.mem_nil_iff, or_false] at hy
      rcases hy with rfl | rfl | rfl | rfl | rfl | rfl | rfl | rfl | rfl
      · exact .int _
      · exact .int _
      · exact .int _
      · exact .bl _
      · exact .non
      · exact .str _
      · exact .int _
      · exact .int _
      · exact .int _
    have l9 : xs9.length = 9 := by rw [hxs] <;> rfl
    rw [← hxs] at nD ⊢
    have e6 := Ex.new (o := .lst xs9) nl
    have W6 := AtH.ex W e6
    have nr := AtH.nr W nl
    have gl : upd G l (.lst xs9) l = some (.lst xs9) := upd_same
    generalize hG6 : upd G l (.lst xs9) = G6 at e6 W6 gl nD
    have nDr := AtH.nr W6 nD
    refine lc_list (xs := xs9) (fun j G' => ∃ acc, G' D = some (.lst acc) ∧ acc.length = j ∧ (∀ v ∈ acc, TupF G' v) ∧ Kp r G6 G' ∧ AtH K Pa a ns n k r hs G') ⟨[], upd_same, rfl, (fun v hv => by cases hv), Kp.ex (Ex.new nD), AtH.ex W6 (Ex.new nD)⟩
      (fun j G' _ w => by obtain ⟨_, _, _, _, e, _⟩ := w; exact SqL.of (e.l _ _ nr gl)) (fun j y G' hy w => ?_) (fun G' w => ?_)
    · obtain ⟨acc, gD, la, ha, k7, W7⟩ := w
      refine ⟨rfl, yes_go ?_⟩
      obtain ⟨_, d7, p7, c7, h7⟩ := id W7
      have fy := f9 y (List.mem_of_getElem? hy)
      refine ⟨.ref hs, rfl, .int i, rfl, i, rfl, slA h7.at_ fun p1 H1 e1 g1 => ⟨y, rfl, (by show 1 ≤ sizeLine; decide), fun t nt => ?_⟩⟩
      have e2 := Ex.new (o := .tup [y]) nt
      refine catA (e2 _ _ g1) upd_same (Nat.le_trans (Nat.add_le_add_right (cutV_length _ _ _) _) (by show 5 + 1 ≤ 100000; decide)) fun p3 H3 e3 g3 => ⟨.ref hs, rfl, .int i, rfl, _, _, rfl, rfl, _, rfl, slN (e3 _ _ (e2 _ _ (e1 _ _ h7.at_))) fun p4 H4 e4 g4 => ?_⟩
      refine catA (e4 _ _ g3) g4 ?_ fun p5 H5 e5 g5 => ?_
      · have b1 := cutV_length [V.int n, V.int k, V.int d7, V.int p7, V.int c7] none (some i)
        have b2 := cutV_length [V.int n, V.int k, V.int d7, V.int p7, V.int c7] (some ((i : Int) + 1)) none
        rw [List.length_append]
        simp only [List.length_cons, List.length_nil] at b1 b2 ⊢
        omega
      · have ea := e1.trans (e2.trans (e3.trans (e4.trans e5)))
        have gD5 := ea _ _ gD
        have t5 : TupF H5 (.ref p5) := ⟨p5, _, rfl, g5, fun x hx => by
          rcases List.mem_append.mp hx with q | q
          · rcases List.mem_append.mp q with q | q
            · exact h7.flat x (cutV_mem q)
            · rw [List.mem_singleton.mp q]
              exact fy
          · exact h7.flat x (cutV_mem q)⟩
        refine ⟨acc, gD5, ?_, acc ++ [.ref p5], upd_same, by rw [List.length_append, la] <;> rfl, fun v hv => ?_, (k7.trans (Kp.ex ea)).put nD, W6.put nD (AtH.ex W7 ea) gD5⟩
        · have := (List.getElem?_eq_some_iff.mp hy).1
          have h9 : 9 ≤ sizeLine := by decide
          omega
        · rcases List.mem_append.mp hv with q | q
          · exact ((ha v q).kp (r := r) (Kp.ex ea)).put gD5
          · rw [List.mem_singleton.mp q]
            exact t5.put gD5
    · obtain ⟨acc, gD, la, ha, k7, W7⟩ := w
      have kb : Kp r G G' := (Kp.ex e6).trans k7
      have hb' := kb.l _ _ nb hb
      refine ⟨b, D, vs, acc, rfl, rfl, hb', gD, ?_, fun q nq => ⟨q, vs ++ acc, some (.int i), rfl, AtH.ex W7 (Ex.new nq), AtH.nr W7 nq, upd_same, ?_, fun v hv' => ?_⟩⟩
      · have h9 : 1000 ≤ sizeLine := by decide
        omega
      · rw [List.length_append]
        omega
      · rcases List.mem_append.mp hv' with z | z
        · exact ((hv v z).kp kb).kp (Kp.ex (Ex.new nq))
        · exact ((ha v z).kp (r := r) (Kp.ex (Ex.new nq))).bv
  · obtain ⟨b, vs, y4, rfl, W, nb, hb, hl, hv⟩ := w
    exact post _ _ ⟨r, hs, n, k, b, vs, y4, rfl, W, nb, hb, hv⟩
end
end K00

set_option maxHeartbeats 4000000
namespace K00
open PySem PySem.Spec PyProof.Rows L2 Hd Evl
theorem RefsTo.kp {r : Addr} {H H' : Hp} (e : Kp r H H') : ∀ {vs : List V} {ls : List (List Nat)}, RefsTo H vs ls → RefsTo H' vs ls
  | _, _, .nil => .nil
  | _, _, .cons ⟨p, h1, h2⟩ t => .cons ⟨p, h1, e.t _ _ h2⟩ (RefsTo.kp e t)
theorem HouseAt.same {H : Hp} {x : Addr} {n k d p c n' k' d' p' c' : Nat} (h : HouseAt H x n k d p c) (g : HouseAt H x n' k' d' p' c') : n' = n ∧ k' = k := by
  have e := g.at_
  rw [h.at_] at e
  injection e with e
  injection e with e
  injection e with e1 e
  injection e with e2 e
  injection e1 with e1
  injection e2 with e2
  omega
theorem wide_ints : ∀ l : List Nat, wideAll (l.map iD) = 0
  | [] => rfl
  | c :: r => by
    show max (wideD (PyData.int (c : Int))) (wideAll (r.map iD)) = 0
    rw [wide_ints r] <;> rfl
/-- the sets of cells lie at S -/
def SetsAt (K : PySem.W.Frag) (Pa a : Addr) (ns : List Int) (n k : Nat) (r hs S : Addr) (H : Hp) : Prop := AtH K Pa a ns n k r hs H ∧ S ≠ r ∧ ∃ vs, H S = some (.lst vs) ∧ RefsTo H vs (setsN n k 0)
section
variable {K : PySem.W.Frag} {Pa a : Addr} {ns : List Int} {n k : Nat} {r hs S : Addr} {H H1 : Hp}
theorem SetsAt.ex (h : SetsAt K Pa a ns n k r hs S H) (e : Ex H H1) : SetsAt K Pa a ns n k r hs S H1 := let ⟨W, nS, vs, g, q⟩ := h; ⟨AtH.ex W e, nS, vs, e _ _ g, q.ex e⟩
theorem SetsAt.kp (h : SetsAt K Pa a ns n k r hs S H) (e : Kp r H H1) (W1 : Rw K [(Pa, lawQ)] r a ns H1) : SetsAt K Pa a ns n k r hs S H1 := let ⟨W, nS, vs, g, q⟩ := h; ⟨AtH.kp W e W1, nS, vs, e.l _ _ nS g, q.kp e⟩
theorem SetsAt.lam (h : SetsAt K Pa a ns n k r hs S H) (e : LamX.ExtN H H1) (t : LamX.Tabs [(Pa, lawQ)] H1) : SetsAt K Pa a ns n k r hs S H1 := let ⟨W, nS, vs, g, q⟩ := h; ⟨AtH.lam W e t, nS, vs, (Kp.lam e : Kp r H H1).l _ _ nS g, q.kp (r := r) (Kp.lam e)⟩
theorem AtH.bnd (h : AtH K Pa a ns n k r hs H) : 2 ≤ n ∧ n ≤ 12 ∧ 1 ≤ k ∧ k ≤ n := let ⟨_, d, p, c, q⟩ := h; ⟨q.n2, q.n12, q.k1, q.kn⟩
theorem SetsAt.len (h : SetsAt K Pa a ns n k r hs S H) : ∃ vs, H S = some (.lst vs) ∧ RefsTo H vs (setsN n k 0) ∧ vs.length = nck n k ∧ 1 ≤ nck n k ∧ nck n k ≤ 924 := by
  obtain ⟨W, nS, vs, g, q⟩ := h
  have b := AtH.bnd W
  exact ⟨vs, g, q, by rw [q.len, setsN_len], nck_pos b.2.2.2, nck_le (by omega) (by omega)⟩
theorem SetsAt.get (h : SetsAt K Pa a ns n k r hs S H) {x : Nat} (hx : x < nck n k) : ∃ vs p, H S = some (.lst vs) ∧ vs[x]? = some (.ref p) ∧ H p = some (.tup ((drawN n k x 0).map iV)) := by
  obtain ⟨W, nS, vs, g, q⟩ := h
  obtain ⟨p, h1, h2⟩ := q.at2 (drawN_at n k x 0 hx)
  exact ⟨vs, p, g, h1, h2⟩
theorem drawN_asc {x : Nat} (hx : x < nck n k) : (drawN n k x 0).length = k ∧ asc 0 n (drawN n k x 0) = true := by
  have h := setsN_asc n k 0 _ (List.mem_of_getElem? (drawN_at n k x 0 hx))
  rw [Nat.zero_add] at h
  exact h
theorem drawN_coin {x : Nat} (hx : x < nck n k) : coinN n 0 (drawN n k x 0) = x := by
  have h := coinN_at n k x 0 hx
  rw [Nat.zero_add] at h
  exact h
/-- the set's tuple is one that coin_of takes -/
theorem set_yes {p : Addr} {x : Nat} (hx : x < nck n k) (h : H p = some (.tup ((drawN n k x 0).map iV))) : SetV K H n k (.ref p) true := by
  obtain ⟨h1, h2⟩ := drawN_asc hx
  have e : (decide (((drawN n k x 0).map iV).length = k) && ascV n 0 ((drawN n k x 0).map iV)) = true := by
    have := ascV_nat (c := 0) h2
    rw [List.length_map, h1, decide_eq_true rfl, Bool.true_and]
    exact this
  rw [← e]
  refine .tup h fun z hz => ?_
  obtain ⟨y, _, rfl⟩ := List.mem_map.mp hz
  exact ⟨_, .int _⟩
theorem num_in {x : Nat} (hx : x < nck n k) : isNum (.int (x : Int)) 0 ((nck n k : Nat) - 1) = true := by
  rw [isNum_nat, decide_eq_true (by omega), decide_eq_true (by omega)] <;> rfl
/-- drawn of a right house and a right coin -/
theorem drawn_q {CB CN : Addr} (W : AtH K Pa a ns n k r hs H) {x : Nat} (hx : x < nck n k) {Q : VK} {E : XK} (q : ∀ p H2, Ex H H2 → H2 p = some (.tup ((drawN n k x 0).map iV)) → Q (.ref p) H2) : spDrawn K CB CN [.ref hs, .int x] H Q E := by
  obtain ⟨_, d, p, c, hh⟩ := W
  refine ⟨.ref hs, .int x, none, rfl, hh.wr, (fun y ey => by cases ey), fun a' n' k' d' p' c' ea hh' => ?_⟩
  cases ea
  obtain ⟨rfl, rfl⟩ := hh.same hh'
  refine ⟨⟨_, .int _⟩, fun z => ?_, fun i ei hi p2 H2 np e2 g2 => ?_⟩
  · rw [num_in hx] at z
    cases z
  · have : i = x := by injection ei with ei; omega
    subst this
    exact q p2 H2 e2 g2
/-- coin_of of a right house and a right set -/
theorem coin_q {CB CN : Addr} (W : AtH K Pa a ns n k r hs H) {x : Nat} (hx : x < nck n k) {S' : Addr} (hS : H S' = some (.tup ((drawN n k x 0).map iV))) {Q : VK} {E : XK} (q : ∀ H2, Ex H H2 → Q (.int x) H2) : spCoinOf K CB CN [.ref hs, .ref S'] H Q E := by
  obtain ⟨_, d, p, c, hh⟩ := W
  refine ⟨.ref hs, .ref S', none, rfl, hh.wr, (fun y ey => by cases ey), fun a' n' k' d' p' c' ea hh' => ?_⟩
  cases ea
  obtain ⟨rfl, rfl⟩ := hh.same hh'
  refine ⟨true, set_yes hx hS, (fun z => by cases z), fun t l et ht hl ha H2 e2 => ?_⟩
  cases et
  rw [hS] at ht
  have el : (drawN n' k' x 0).map iV = l.map iV := by injection ht with ht; injection ht
  have el2 : drawN n' k' x 0 = l := by
    have inj : ∀ (l1 l2 : List Nat), l1.map iV = l2.map iV → l1 = l2 := by
      intro l1
      induction l1 with
      | nil => intro l2 h; cases l2 with
        | nil => rfl
        | cons y ys => cases h
      | cons x xs ih => intro l2 h; cases l2 with
        | nil => cases h
        | cons y ys =>
          have h' : iV x :: xs.map iV = iV y :: ys.map iV := h
          injection h' with h1 h2
          injection h1 with h1
          rw [ih ys h2, show x = y by omega]
    exact inj _ _ el
  rw [← el2, drawN_coin hx]
  exact q H2 e2
theorem alike_tup {p1 p2 : Addr} {l : List Nat} {Q : VK} {E : XK} (hl : l.length ≤ 100000) (h1 : H p1 = some (.tup (l.map iV))) (h2 : H p2 = some (.tup (l.map iV))) (q : ∀ H2, Ex H H2 → Q (.bl true) H2) : spAlike K 4 [.ref p1, .ref p2] H Q E := by
  refine ⟨_, _, .tuple (l.map iD), rfl, .tup (SqT.of h1) (dp_ints l), .tup (SqT.of h2) (dp_ints l), ?_, ?_, fun H2 e2 => q H2 e2⟩
  · show PyData.depthAll (l.map iD) + 1 ≤ 3
    rw [depth_ints]
    decide
  · show max (l.map iD).length (wideAll (l.map iD)) ≤ 100000
    rw [wide_ints, List.length_map]
    omega
theorem alike_int {i : Int} {Q : VK} {E : XK} (q : ∀ H2, Ex H H2 → Q (.bl true) H2) : spAlike K 4 [.int i, .int i] H Q E := ⟨_, _, .int i, rfl, .int i, .int i, Nat.zero_le _, Nat.zero_le _, fun H2 e2 => q H2 e2⟩
end
def At7 (K : PySem.W.Frag) (Pa a : Addr) (ns : List Int) (σ : L2.St) (H : Hp) : Prop := ∃ r hs n k S y3 y4 y5 y6 y8 y9, σ = [some (.ref a), some (.ref r), some (.ref hs), y3, y4, y5, y6, some (.ref S), y8, y9, none, none, none] ∧ SetsAt K Pa a ns n k r hs S H
section
variable {P : Program} {w : World} {K : PySem.W.Frag} {mg : Str → Option Value} {base : Heap} {CB CN : Addr} {a : Addr} {ns : List Int} {f c Pa : Addr} {A : Around} {outer : List Env} {s : Shared} {H0 : Hp} {E0 : XK}
theorem st6 (L : Lt P w K mg base CB CN) (hr : Room 6 (A.deeper (envOfC "law" (defScope s_law) s.heap.objs.size f (.ref c)))) : Does (LX P w K mg base f c A outer s H0 E0) (lawSt 6) (At6 K Pa a ns) (At7 K Pa a ns) := by
  have h1 := hr.mono (show 1 ≤ 6 by decide)
  refine ⟨_, ps_set (i := 7) sc_law.nd rfl (Or.inl rfl) (pe_call L.st.G h1 (by rfl) L.st.m L.st.k L.st.b .nil pass0 (pa_cons (pe_ix ix_tup (pv 2) pe_int (fun _ _ => rfl)) (pa_cons (pe_ix ix_tup (pv 2) pe_int (fun _ _ => rfl)) pa_nil))), fun D σ H pre post => ?_⟩
  obtain ⟨r, hs, n, k, y3, y4, y5, y6, rfl, W⟩ := pre
  obtain ⟨W0, d, p, c', hh⟩ := id W
  refine ⟨.ref hs, rfl, hs, _, _, .int n, rfl, rfl, SqT.of hh.at_, atI_nat (j := 0) rfl, .ref hs, rfl, hs, _, _, .int k, rfl, rfl, SqT.of hh.at_, atI_nat (j := 1) rfl, n, k, rfl, hh.n12, hh.kn, fun S vs H2 nS e2 g2 q2 => ?_⟩
  exact post _ _ ⟨r, hs, n, k, S, y3, y4, y5, y6, none, none, rfl, AtH.ex W e2, AtH.nr W nS, vs, g2, q2⟩
theorem st7 (L : Lt P w K mg base CB CN) (hr : Room 6 (A.deeper (envOfC "law" (defScope s_law) s.heap.objs.size f (.ref c)))) : Does (LX P w K mg base f c A outer s H0 E0) (lawSt 7) (At7 K Pa a ns) (At7 K Pa a ns) := by
  have h4 := hr.mono (show 4 ≤ 6 by decide)
  refine ⟨_, ps_if (pt_not (pt_val (pe_call L.al.G h4 (by rfl) L.al.m L.al.k L.al.b .nil pass0 (pa_cons (pe_call L.ct.G h4 (by rfl) L.ct.m L.ct.k L.ct.b .nil (passX (E := E0) rfl rfl rfl rfl) (pa_cons (pv 2) pa_nil)) (pa_cons (pe_callB call_len_seq (by rfl) L.B.len (by decide +kernel) (pa_cons (pv 7) pa_nil)) pa_nil))))) (pss_one (ps_ret pe_bl)) pss_nil, fun D σ H pre post => ?_⟩
  obtain ⟨r, hs, n, k, S, y3, y4, y5, y6, y8, y9, rfl, W⟩ := pre
  obtain ⟨W0, d, p, c', hh⟩ := id W.1
  obtain ⟨vs, g, _, el, _, _⟩ := W.len
  refine ⟨.ref hs, rfl, .ref hs, none, rfl, hh.wr, fun a' n' k' d' p' c'' ea hh' => ?_, fun x ex => by cases ex⟩
  cases ea
  obtain ⟨rfl, rfl⟩ := hh.same hh'
  refine ⟨.ref S, rfl, S, vs, rfl, .inl (SqL.of g), ?_⟩
  rw [el]
  refine alike_int fun H2 e2 => ⟨true, rfl, iteF (post _ _ ⟨r, hs, n', k', S, y3, y4, y5, y6, y8, y9, rfl, W.ex e2⟩)⟩
end
end K00

set_option maxHeartbeats 4000000
namespace K00
open PySem PySem.Spec PyProof.Rows L2 Hd Evl
def At10 (K : PySem.W.Frag) (Pa a : Addr) (ns : List Int) (σ : L2.St) (H : Hp) : Prop := ∃ r hs n k S p x y3 y4 y5 y6 y8 y9, σ = [some (.ref a), some (.ref r), some (.ref hs), y3, y4, y5, y6, some (.ref S), y8, y9, some (.ref p), none, none] ∧ AtH K Pa a ns n k r hs H ∧ x < nck n k ∧ H p = some (.tup ((drawN n k x 0).map iV))
theorem drawn_no {K : PySem.W.Frag} {n k d p c : Nat} {hs : Addr} {H : Hp} {CB CN : Addr} (hh : HouseAt H hs n k d p c) {v : V} {sk : String} (kv : KindV K H v sk) (nv : isNum v 0 ((nck n k : Nat) - 1) = false) {Q : VK} {E : XK} (q : E (.ref CN) none H) : spDrawn K CB CN [.ref hs, v] H Q E := by
  refine ⟨.ref hs, v, none, rfl, hh.wr, (fun y ey => by cases ey), fun a' n' k' d' p' c' ea hh' => ?_⟩
  cases ea
  obtain ⟨rfl, rfl⟩ := hh.same hh'
  refine ⟨⟨_, kv⟩, fun _ => q, fun i ei hi => ?_⟩
  subst ei
  rw [num_in hi] at nv
  cases nv
section
variable {P : Program} {w : World} {K : PySem.W.Frag} {mg : Str → Option Value} {base : Heap} {CB CN : Addr} {a : Addr} {ns : List Int} {f c Pa : Addr} {A : Around} {outer : List Env} {s : Shared} {H0 : Hp} {E0 : XK}
theorem st8 (L : Lt P w K mg base CB CN) (hr : Room 6 (A.deeper (envOfC "law" (defScope s_law) s.heap.objs.size f (.ref c)))) : Does (LX P w K mg base f c A outer s H0 E0) (lawSt 8) (At7 K Pa a ns) (At7 K Pa a ns) := by
  have h1 := hr.mono (show 1 ≤ 6 by decide)
  have h4 := hr.mono (show 4 ≤ 6 by decide)
  refine ⟨_, ps_for (passes_of rfl) rfl (pi_range1 (by rfl) L.B.range (pa_cons pe_int pa_nil)) (pg_name (i := 8) sc_law.nd rfl (Or.inl rfl)) (pss_cons (ps_set (i := 9) sc_law.nd rfl (Or.inl rfl) (pe_call L.tk.G h1 (by rfl) L.tk.m L.tk.k L.tk.b .nil pass0 (pa_cons (pv 1) (pa_cons (pe_callB call_len_seq (by rfl) L.B.len (by decide +kernel) (pa_cons (pv 7) pa_nil)) pa_nil))))
    (pss_one (ps_if (PW.pt (pw_or (pt_not (pt_val (pe_call L.al.G h4 (by rfl) L.al.m L.al.k L.al.b .nil pass0 (pa_cons (pe_call L.dr.G h4 (by rfl) L.dr.m L.dr.k L.dr.b .nil (passX (E := E0) rfl rfl rfl rfl) (pa_cons (pv 2) (pa_cons (pv 9) pa_nil))) (pa_cons (pe_ix ix_list (pv 7) (pv 9) (fun _ _ => rfl)) pa_nil))))) (pw_or1 (pt_not (pt_val (pe_call L.al.G h4 (by rfl) L.al.m L.al.k L.al.b .nil pass0 (pa_cons (pe_call L.co.G h4 (by rfl) L.co.m L.co.k L.co.b .nil (passX (E := E0) rfl rfl rfl rfl) (pa_cons (pv 2) (pa_cons (pe_ix ix_list (pv 7) (pv 9) (fun _ _ => rfl)) pa_nil))) (pa_cons (pv 9) pa_nil)))))))) (pss_one (ps_ret pe_bl)) pss_nil))), fun D σ H pre post => ?_⟩
  obtain ⟨r, hs, n, k, S, y3, y4, y5, y6, y8, y9, rfl, W⟩ := pre
  refine ⟨8, rfl, by decide, by decide, for_range (lo := 0) (n := 8) (fun i σ G => ∃ y8 y9, σ = [some (.ref a), some (.ref r), some (.ref hs), y3, y4, y5, y6, some (.ref S), y8, y9, none, none, none] ∧ SetsAt K Pa a ns n k r hs S G) ⟨y8, y9, rfl, W⟩ (fun i σ G hi w => ?_) (fun σ G w => ?_)⟩
  · obtain ⟨y8, y9, rfl, W⟩ := w
    obtain ⟨vs, g, _, el, b1, b2⟩ := W.len
    refine ⟨.ref r, rfl, .ref S, rfl, S, vs, rfl, .inl (SqL.of g), taken_of (m := nck n k) W.1.1 (by rw [el]) b1 (by omega) fun x H2 lx k2 W2 => ?_⟩
    have W3 := W.kp k2 W2
    obtain ⟨vs3, p3, g3, ex3, t3⟩ := W3.get lx
    have hk : (drawN n k x 0).length ≤ 100000 := by
      have := (drawN_asc lx).1
      have := (AtH.bnd W3.1).2.2.2
      have := (AtH.bnd W3.1).2.1
      omega
    refine ⟨.ref hs, rfl, iV x, rfl, drawn_q W3.1 lx fun p H3 e3 q3 => ?_⟩
    refine ⟨.ref S, rfl, iV x, rfl, S, vs3, _, .ref p3, rfl, rfl, SqL.of (e3 _ _ g3), atI_nat ex3, alike_tup hk q3 (e3 _ _ t3) fun H4 e4 => ⟨true, rfl, iteF ?_⟩⟩
    have e34 := e3.trans e4
    have W4 := W3.ex e34
    refine ⟨.ref hs, rfl, .ref S, rfl, iV x, rfl, S, vs3, _, .ref p3, rfl, rfl, SqL.of (e34 _ _ g3), atI_nat ex3, coin_q W4.1 lx (e34 _ _ t3) fun H5 e5 => ?_⟩
    refine ⟨iV x, rfl, alike_int fun H6 e6 => ⟨true, rfl, iteF ⟨_, _, rfl, W4.ex (e5.trans e6)⟩⟩⟩
  · obtain ⟨y8, y9, rfl, W⟩ := w
    exact post _ _ ⟨r, hs, n, k, S, y3, y4, y5, y6, y8, y9, rfl, W⟩
theorem st9 (L : Lt P w K mg base CB CN) (TB : LamX.TabB base mg c Pa) (hr : Room 6 (A.deeper (envOfC "law" (defScope s_law) s.heap.objs.size f (.ref c)))) : Does (LX P w K mg base f c A outer s H0 E0) (lawSt 9) (At7 K Pa a ns) (At7 K Pa a ns) := by
  refine ⟨_, ps_for (passes_of rfl) rfl (pi_list (pe_lst (pa_cons (pe_callB call_len_seq (by rfl) L.B.len (by decide +kernel) (pa_cons (pv 7) pa_nil)) (pa_cons (pe_op op_sub pe_int pe_int) (pa_cons pe_bl (pa_cons pe_non (pa_cons pe_str pa_nil))))))) (pg_name (i := 5) sc_law.nd rfl (Or.inr rfl)) (pss_one (ps_if (pt_cmpR op_ne (pe_word L.W lawQ TB rfl rfl (by rfl) (k := 4) hr (LamX.lamS_by (by rfl)) (fun A' outer' s' H' E' f' c' hr' => pe_call L.dr.G hr' (by rfl) L.dr.m L.dr.k L.dr.b .nil (passX (E := E') rfl rfl rfl rfl) (pa_cons (pv 2) (pa_cons (pv 5) pa_nil))) (by rfl) (fun _ _ _ _ _ => by rfl)) pe_str (nomark _)) (pss_one (ps_ret pe_bl)) pss_nil)), fun D σ H pre post => ?_⟩
  obtain ⟨r, hs, n, k, S, y3, y4, y5, y6, y8, y9, rfl, W⟩ := pre
  obtain ⟨vs, g, _, el, b1, b2⟩ := W.len
  refine ⟨.ref S, rfl, S, vs, rfl, .inl (SqL.of g), _, _, rfl, rfl, (by show 5 ≤ sizeLine; decide), fun l nl => ?_⟩
  rw [el]
  obtain ⟨xs, hxs⟩ : ∃ xs, xs = [V.int (nck n k : Nat), .int (0 - 1), .bl true, .non, .str "0"] := ⟨_, rfl⟩
  have hx : ∀ v ∈ xs, FlatV v ∧ isNum v 0 ((nck n k : Nat) - 1) = false := fun v hv => by
    rw [hxs] at hv
    simp only [List.mem_cons, List.mem_nil_iff, or_false] at hv
    rcases hv with rfl | rfl | rfl | rfl | rfl
    · refine ⟨.int _, ?_⟩
      rw [isNum_nat, decide_eq_false (show ¬ ((nck n k : Nat) : Int) ≤ ((nck n k : Nat) : Int) - 1 by omega), Bool.and_false]
    · exact ⟨.int _, rfl⟩
    · exact ⟨.bl _, rfl⟩
    · exact ⟨.non, rfl⟩
    · exact ⟨.str _, rfl⟩
  have e1 := Ex.new (o := .lst xs) nl
  have gl : upd H l (.lst xs) l = some (.lst xs) := upd_same
  have nr := AtH.nr W.1 nl
  have W1 := W.ex e1
  subst hxs
  refine ⟨l, rfl, ⟨_, SqL.of gl⟩, for_list (xs := [V.int (nck n k : Nat), .int (0 - 1), .bl true, .non, .str "0"]) (fun i σ G => ∃ y5, σ = [some (.ref a), some (.ref r), some (.ref hs), y3, y4, y5, y6, some (.ref S), y8, y9, none, none, none] ∧ Kp r (upd H l (.lst [V.int (nck n k : Nat), .int (0 - 1), .bl true, .non, .str "0"])) G ∧ SetsAt K Pa a ns n k r hs S G) ⟨y5, rfl, Kp.refl, W1⟩
    (fun i σ G _ w => by obtain ⟨_, _, e, _⟩ := w; exact SqL.of (e.l _ _ nr gl)) (fun i v σ G hv w => ?_) (fun σ G w => ?_)⟩
  · obtain ⟨y5, rfl, k1, W2⟩ := w
    obtain ⟨fv, nv⟩ := hx v (List.mem_of_getElem? hv)
    refine word_q W2.1.1.tab fun G3 e3 t3 => ?_
    have W3 := W2.lam e3 t3
    have k3 := k1.trans (Kp.lam (r := r) e3)
    obtain ⟨_, d, p, c', hh⟩ := id W3.1
    obtain ⟨sk, kv⟩ := fv.kind (K := K) (H := G3)
    refine ⟨.ref hs, rfl, v, rfl, ?_⟩
    refine drawn_no hh kv nv (.inr ⟨rfl, rfl, _, rfl, ?_⟩)
    rw [decide_eq_true rfl]
    exact iteF ⟨_, rfl, k3, W3⟩
  · obtain ⟨y5, rfl, k1, W2⟩ := w
    exact post _ _ ⟨r, hs, n, k, S, y3, y4, y5, y6, y8, y9, rfl, W2⟩
theorem st10 (L : Lt P w K mg base CB CN) (hr : Room 6 (A.deeper (envOfC "law" (defScope s_law) s.heap.objs.size f (.ref c)))) : Does (LX P w K mg base f c A outer s H0 E0) (lawSt 10) (At7 K Pa a ns) (At10 K Pa a ns) := by
  have h1 := hr.mono (show 1 ≤ 6 by decide)
  refine ⟨_, ps_set (i := 10) sc_law.nd rfl (Or.inl rfl) (pe_ix ix_list (pv 7) (pe_call L.tk.G h1 (by rfl) L.tk.m L.tk.k L.tk.b .nil pass0 (pa_cons (pv 1) (pa_cons (pe_callB call_len_seq (by rfl) L.B.len (by decide +kernel) (pa_cons (pv 7) pa_nil)) pa_nil))) (fun _ _ => rfl)), fun D σ H pre post => ?_⟩
  obtain ⟨r, hs, n, k, S, y3, y4, y5, y6, y8, y9, rfl, W⟩ := pre
  obtain ⟨vs, g, _, el, b1, b2⟩ := W.len
  refine ⟨.ref S, rfl, .ref r, rfl, .ref S, rfl, S, vs, rfl, .inl (SqL.of g), taken_of (m := nck n k) W.1.1 (by rw [el]) b1 (by omega) fun x H2 lx k2 W2 => ?_⟩
  have W3 := W.kp k2 W2
  obtain ⟨vs3, p3, g3, ex3, t3⟩ := W3.get lx
  exact ⟨S, vs3, _, .ref p3, rfl, rfl, SqL.of g3, atI_nat ex3, post _ _ ⟨r, hs, n, k, S, p3, x, y3, y4, y5, y6, y8, y9, rfl, W3.1, lx, t3⟩⟩
end
end K00

set_option maxHeartbeats 4000000
namespace K00
open PySem PySem.Spec PyProof.Rows L2 Hd Evl
/-- no set of cells, whatever else happens -/
def BadV (K : PySem.W.Frag) (r : Addr) (n k : Nat) (H : Hp) (v : V) : Prop := ∀ H', Kp r H H' → SetV K H' n k v false
section
variable {K : PySem.W.Frag} {r : Addr} {n k : Nat} {H H1 : Hp}
theorem BadV.kp {v : V} (h : BadV K r n k H v) (e : Kp r H H1) : BadV K r n k H1 v := fun H' e' => h H' (e.trans e')
theorem BadV.ex {v : V} (h : BadV K r n k H v) (e : Ex H H1) : BadV K r n k H1 v := h.kp (Kp.ex e)
theorem bad_non : BadV K r n k H .non := fun H' _ => .out .non (by decide)
theorem bad_lst {b : Addr} {xs : List V} (nb : b ≠ r) (h : H b = some (.lst xs)) : BadV K r n k H (.ref b) := fun H' e => .out (.lst (e.l _ _ nb h)) (by decide)
theorem bad_tup {b : Addr} {xs : List V} (h : H b = some (.tup xs)) (f : ∀ x ∈ xs, FlatV x) (e : (decide (xs.length = k) && ascV n 0 xs) = false) : BadV K r n k H (.ref b) := fun H' e' => by
  rw [← e]
  exact .tup (e'.t _ _ h) fun x hx => (f x hx).kind
theorem bad_len {b : Addr} {xs : List V} (h : H b = some (.tup xs)) (f : ∀ x ∈ xs, FlatV x) (e : xs.length ≠ k) : BadV K r n k H (.ref b) := bad_tup h f (by rw [decide_eq_false e, Bool.false_and])
theorem bad_asc {b : Addr} {xs : List V} (h : H b = some (.tup xs)) (f : ∀ x ∈ xs, FlatV x) (e : ascV n 0 xs = true → False) : BadV K r n k H (.ref b) := bad_tup h f (by
  cases z : ascV n 0 xs with
  | false => rw [Bool.and_false]
  | true => exact (e z).elim)
theorem ascV_app : ∀ {xs ys : List V} {n c : Int}, ascV n c (xs ++ ys) = true → ∃ c', ascV n c' ys = true
  | [], ys, n, c, h => ⟨c, h⟩
  | x :: r, ys, n, c, h => by
    have h' : (isNum x c (n - 1) && ascV n (vInt x + 1) (r ++ ys)) = true := h
    exact ascV_app (Bool.and_eq_true_iff.mp h').2
theorem ints_flat {l : List Nat} : ∀ z ∈ l.map iV, FlatV z := fun z hz => by
  obtain ⟨y, _, rfl⟩ := List.mem_map.mp hz
  exact .int _
theorem app_flat {xs ys : List V} (h : ∀ z ∈ xs, FlatV z) (g : ∀ z ∈ ys, FlatV z) : ∀ z ∈ xs ++ ys, FlatV z := fun z hz => (List.mem_append.mp hz).elim (h z) (g z)
theorem one_flat {v : V} (h : FlatV v) : ∀ z ∈ [v], FlatV z := fun z hz => by rw [List.mem_singleton.mp hz]; exact h
theorem cut_flat {xs : List V} {lo hi : Option Int} (h : ∀ z ∈ xs, FlatV z) : ∀ z ∈ cutV xs lo hi, FlatV z := fun z hz => h z (cutV_mem hz)
theorem rep_flat {v : V} {m : Nat} (h : FlatV v) : ∀ z ∈ List.replicate m v, FlatV z := fun z hz => by rw [(List.mem_replicate.mp hz).2]; exact h
theorem asc_last {xs : List V} {v : V} (h : ascV n 0 (xs ++ [v]) = true) : ∃ lo, isNum v lo ((n : Int) - 1) = true := by
  obtain ⟨c, hc⟩ := ascV_app h
  have h' : (isNum v c ((n : Int) - 1) && true) = true := hc
  exact ⟨c, (Bool.and_eq_true_iff.mp h').1⟩
theorem top_no {lo : Int} (h : isNum (.int (n : Int)) lo ((n : Int) - 1) = true) : False := by
  rw [isNum_nat, Bool.and_eq_true] at h
  have := of_decide_eq_true h.2
  omega
theorem back_no {l : List Nat} (h2 : 2 ≤ l.length) (ha : asc 0 n l = true) (h : ascV n 0 (l.map iV).reverse = true) : False := by
  match l, h2 with
  | x1 :: x2 :: t, _ =>
    have a1 : (decide (0 ≤ x1) && (decide (x1 < n) && (decide (x1 + 1 ≤ x2) && (decide (x2 < n) && asc (x2 + 1) n t)))) = true := ha
    simp only [Bool.and_eq_true, decide_eq_true_eq] at a1
    have e : ((x1 :: x2 :: t).map iV).reverse = (t.map iV).reverse ++ [iV x2, iV x1] := by simp
    rw [e] at h
    obtain ⟨c, hc⟩ := ascV_app h
    have h' : (isNum (iV x2) c ((n : Int) - 1) && (isNum (iV x1) ((x2 : Int) + 1) ((n : Int) - 1) && true)) = true := hc
    rw [isNum_nat, isNum_nat] at h'
    simp only [Bool.and_eq_true, decide_eq_true_eq] at h'
    omega
theorem true_no {m : Nat} (hm : 1 ≤ m) (h : ascV n 0 (List.replicate m (.bl true)) = true) : False := by
  obtain ⟨j, rfl⟩ : ∃ j, m = j + 1 := ⟨m - 1, by omega⟩
  have h' : (false && ascV n (vInt (.bl true) + 1) (List.replicate j (.bl true))) = true := h
  cases h'
theorem cut1 {xs : List V} (h : 1 ≤ xs.length) : (cutV xs (some 1) none).length = xs.length - 1 := by
  unfold cutV
  rw [show HT.sIx xs.length 0 (some 1) = min 1 xs.length from HT.sIx_nat _ _ 1, show HT.sIx xs.length xs.length none = xs.length from rfl, List.length_take, List.length_drop]
  omega
/-- t * m -/
theorem times_q {l : Addr} {v : V} {m : Nat} {z : Int} {Q : VK} (h : H l = some (.tup [v])) (e : z = (m : Int)) (h1 : 1 ≤ m) (h2 : m ≤ 100) (q : ∀ p H', Ex H H' → H' p = some (.tup (List.replicate m v)) → Q (.ref p) H') : rTimes K (.ref l) (.int z) H Q := by
  subst e
  refine ⟨l, m, [v], rfl, rfl, SqT.of h, by simp, by omega, by omega, (by show 1 ≤ 1000; decide), fun e => q l H (Ex.refl H) ?_, fun _ p np => q p _ (Ex.new np) ?_⟩
  · rw [show m = 1 by omega]
    exact h
  · rw [upd_same, Int.toNat_natCast, List.flatten_replicate_singleton]
theorem coin_no {d p c : Nat} {hs : Addr} {CB CN : Addr} (hh : HouseAt H hs n k d p c) {v : V} (hv : SetV K H n k v false) {Q : VK} {E : XK} (q : E (.ref CN) none H) : spCoinOf K CB CN [.ref hs, v] H Q E := by
  refine ⟨.ref hs, v, none, rfl, hh.wr, (fun y ey => by cases ey), fun a' n' k' d' p' c' ea hh' => ?_⟩
  cases ea
  obtain ⟨rfl, rfl⟩ := hh.same hh'
  refine ⟨false, hv, fun _ => q, fun t l et ht hl ha H2 e2 => ?_⟩
  subst et
  have e : (decide ((l.map iV).length = k') && ascV n' 0 (l.map iV)) = true := by
    have := ascV_nat (c := 0) ha
    rw [List.length_map, hl, decide_eq_true rfl, Bool.true_and]
    exact this
  generalize eb : false = b at hv
  cases hv with
  | out k hs' =>
    cases k with
    | lst z => rw [ht] at z; cases z
    | tup z => cases hs'
  | @tup _ xs h2 _ =>
    rw [ht] at h2
    cases h2
    rw [e] at eb
    cases eb
end
def At11 (K : PySem.W.Frag) (Pa a : Addr) (ns : List Int) (m : Nat) (σ : L2.St) (H : Hp) : Prop := ∃ r hs n k S p x b vs y3 y4 y5 y6 y8 y9, σ = [some (.ref a), some (.ref r), some (.ref hs), y3, y4, y5, y6, some (.ref S), y8, y9, some (.ref p), some (.ref b), none] ∧ AtH K Pa a ns n k r hs H ∧ x < nck n k ∧ H p = some (.tup ((drawN n k x 0).map iV)) ∧ b ≠ r ∧ H b = some (.lst vs) ∧ vs.length ≤ m ∧ ∀ v ∈ vs, BadV K r n k H v
section
variable {P : Program} {w : World} {K : PySem.W.Frag} {mg : Str → Option Value} {base : Heap} {CB CN : Addr} {a : Addr} {ns : List Int} {f c Pa : Addr} {A : Around} {outer : List Env} {s : Shared} {H0 : Hp} {E0 : XK}
theorem st11 (L : Lt P w K mg base CB CN) (hr : Room 6 (A.deeper (envOfC "law" (defScope s_law) s.heap.objs.size f (.ref c)))) : Does (LX P w K mg base f c A outer s H0 E0) (lawSt 11) (At10 K Pa a ns) (At11 K Pa a ns 8) := by
  refine ⟨_, ps_set (i := 11) sc_law.nd rfl (Or.inl rfl) (pe_lst (pa_cons pe_non (pa_cons (pe_callTy call_list_of (by rfl) L.B.list (by decide +kernel) (pa_cons (pv 10) pa_nil)) (pa_cons (pe_op op_catA (pv 10) (pe_tup (pa_cons (pe_ix ix_tup (pv 2) pe_int (fun _ _ => rfl)) pa_nil))) (pa_cons (pe_slice sl_tupA (pv 10) (po_some pe_int) po_none) (pa_cons (pe_op op_catA (pe_slice sl_tupA (pv 10) po_none (po_some (pe_un un_neg pe_int))) (pe_tup (pa_cons (pe_ix ix_tup (pv 2) pe_int (fun _ _ => rfl)) pa_nil))) (pa_cons (pe_op op_catA (pe_slice sl_tupA (pv 10) po_none (po_some (pe_un un_neg pe_int))) (pe_tup (pa_cons pe_non pa_nil))) (pa_cons (pe_op op_times (pe_tup (pa_cons pe_bl pa_nil)) (pe_ix ix_tup (pv 2) pe_int (fun _ _ => rfl))) (pa_cons (pe_op op_times (pe_tup (pa_cons (pe_ix ix_tup (pv 10) (pe_un un_neg pe_int) (fun _ _ => rfl)) pa_nil)) (pe_op op_add (pe_ix ix_tup (pv 2) pe_int (fun _ _ => rfl)) pe_int)) pa_nil))))))))), fun D σ H pre post => ?_⟩
  obtain ⟨r, hs, n, k, S, p, x, y3, y4, y5, y6, y8, y9, rfl, W, hx, hp⟩ := pre
  obtain ⟨la, aa⟩ := drawN_asc hx
  obtain ⟨W0, d, pp, c', hh⟩ := id W
  have bn := AtH.bnd W
  obtain ⟨l, hl⟩ : ∃ l, drawN n k x 0 = l := ⟨_, rfl⟩
  have hp' := hp
  rw [hl] at hp la aa
  have ll : (l.map iV).length = k := by rw [List.length_map, la]
  have fl := ints_flat (l := l)
  -- list(some)
  refine ⟨.ref p, rfl, p, _, rfl, .inr (SqT.of hp), fun q1 n1 => ?_⟩
  have e1 := Ex.new (o := .lst (l.map iV)) n1
  have b1 : BadV K r n k (upd H q1 (.lst (l.map iV))) (.ref q1) := bad_lst (AtH.nr W n1) upd_same
  -- some + (house[0],)
  refine ⟨.ref p, rfl, .ref hs, rfl, hs, _, _, .int n, rfl, rfl, SqT.of (e1 _ _ hh.at_), atI_nat (j := 0) rfl, (by show 1 ≤ sizeLine; decide), fun t2 nt2 => ?_⟩
  have e2 := e1.trans (Ex.new (o := .tup [V.int n]) nt2)
  refine catA (e2 _ _ hp) upd_same (by rw [ll]; show k + 1 ≤ 100000; omega) fun q2 H2 f2 g2 => ?_
  have e3 := e2.trans f2
  have b2 : BadV K r n k H2 (.ref q2) := bad_len g2 (app_flat fl (one_flat (.int _))) (by rw [List.length_append, ll]; show k + 1 ≠ k; omega)
  -- some[1:]
  refine ⟨.ref p, rfl, 1, rfl, slN (e3 _ _ hp) fun q3 H3 f3 g3 => ?_⟩
  have e4 := e3.trans f3
  have b3 : BadV K r n k H3 (.ref q3) := bad_len g3 (cut_flat fl) (by rw [cut1 (by omega), ll]; omega)
  -- some[:-1] + (house[0],)
  refine ⟨.ref p, rfl, 1, rfl, -1, rfl, slA (e4 _ _ hp) fun q4 H4 f4 g4 => ?_⟩
  have e5 := e4.trans f4
  refine ⟨.ref hs, rfl, hs, _, _, .int n, rfl, rfl, SqT.of (e5 _ _ hh.at_), atI_nat (j := 0) rfl, (by show 1 ≤ sizeLine; decide), fun t5 nt5 => ?_⟩
  have x5 := Ex.new (o := .tup [V.int n]) nt5
  have e6 := e5.trans x5
  have cl := cutV_length (l.map iV) none (some (-1))
  refine catA (x5 _ _ g4) upd_same (Nat.le_trans (Nat.add_le_add_right cl _) (by rw [ll]; show k + 1 ≤ 100000; omega)) fun q6 H6 f6 g6 => ?_
  have e7 := e6.trans f6
  have b6 : BadV K r n k H6 (.ref q6) := bad_asc g6 (app_flat (cut_flat fl) (one_flat (.int _))) fun z => let ⟨lo, h⟩ := asc_last z; top_no h
  -- some[:-1] + (None,)
  refine ⟨.ref p, rfl, 1, rfl, -1, rfl, slA (e7 _ _ hp) fun q7 H7 f7 g7 => ⟨(by show 1 ≤ sizeLine; decide), fun t8 nt8 => ?_⟩⟩
  have x8 := Ex.new (o := .tup [V.non]) nt8
  have e8 := (e7.trans f7).trans x8
  refine catA (x8 _ _ g7) upd_same (Nat.le_trans (Nat.add_le_add_right cl _) (by rw [ll]; show k + 1 ≤ 100000; omega)) fun q8 H8 f8 g8 => ?_
  have e9 := e8.trans f8
  have b8 : BadV K r n k H8 (.ref q8) := bad_asc g8 (app_flat (cut_flat fl) (one_flat .non)) fun z => by
    obtain ⟨lo, h⟩ := asc_last z
    cases h
  -- (True,) * house[1]
  refine ⟨(by show 1 ≤ sizeLine; decide), fun t9 nt9 => ?_⟩
  have x9 := Ex.new (o := .tup [V.bl true]) nt9
  have e10 := e9.trans x9
  refine ⟨.ref hs, rfl, hs, _, _, .int k, rfl, rfl, SqT.of (e10 _ _ hh.at_), atI_nat (j := 1) rfl, times_q upd_same rfl (by omega) (by omega) fun q10 H10 f10 g10 => ?_⟩
  have e11 := e10.trans f10
  have b10 : BadV K r n k H10 (.ref q10) := bad_asc g10 (rep_flat (.bl _)) (true_no (by omega))
  -- (some[-1],) * (house[1] + 1)
  refine ⟨.ref p, rfl, 1, rfl, p, _, _, iV (lastN l), rfl, rfl, SqT.of (e11 _ _ hp), atI_back (by cases l with
    | nil => exact absurd la (by show ¬ (0 = k); omega)
    | cons _ _ => rfl), (by show 1 ≤ sizeLine; decide), fun t12 nt12 => ?_⟩
  have x12 := Ex.new (o := .tup [iV (lastN l)]) nt12
  have e12 := e11.trans x12
  refine ⟨.ref hs, rfl, hs, _, _, .int k, rfl, rfl, SqT.of (e12 _ _ hh.at_), atI_nat (j := 1) rfl, _, _, rfl, rfl, times_q (m := k + 1) upd_same (by omega) (by omega) (by omega) fun q13 H13 f13 g13 => ?_⟩
  have e13 := e12.trans f13
  have b13 : BadV K r n k H13 (.ref q13) := bad_len g13 (rep_flat (.int _)) (by rw [List.length_replicate]; omega)
  refine ⟨(by show 8 ≤ sizeLine; decide), fun b nb => ?_⟩
  have x14 := Ex.new (o := .lst [V.non, .ref q1, .ref q2, .ref q3, .ref q6, .ref q8, .ref q10, .ref q13]) nb
  have e14 := e13.trans x14
  have W13 := AtH.ex W e13
  refine post _ _ ⟨r, hs, n, k, S, p, x, b, _, y3, y4, y5, y6, y8, y9, rfl, AtH.ex W e14, hx, e14 _ _ hp', AtH.nr W13 nb, upd_same, Nat.le_refl _, fun v hv => ?_⟩
  simp only [List.mem_cons, List.mem_nil_iff, or_false] at hv
  have y13 := x14
  have y12 := (x12.trans f13).trans y13
  have y10 := (f10).trans y12
  have y8' := x9.trans y10
  have y6' := ((f7.trans x8).trans f8).trans y8'
  have y3' := ((f4.trans x5).trans f6).trans y6'
  have y2' := f3.trans y3'
  have y1' := ((Ex.new (o := .tup [V.int n]) nt2).trans f2).trans y2'
  rcases hv with rfl | rfl | rfl | rfl | rfl | rfl | rfl | rfl
  · exact bad_non
  · exact b1.ex y1'
  · exact b2.ex y2'
  · exact b3.ex y3'
  · exact b6.ex y6'
  · exact b8.ex y8'
  · exact b10.ex y12
  · exact b13.ex y13
end
end K00

set_option maxHeartbeats 4000000
namespace K00
open PySem PySem.Spec PyProof.Rows L2 Hd Evl
section
variable {P : Program} {w : World} {K : PySem.W.Frag} {mg : Str → Option Value} {base : Heap} {CB CN : Addr} {a : Addr} {ns : List Int} {f c Pa : Addr} {A : Around} {outer : List Env} {s : Shared} {H0 : Hp} {E0 : XK}
theorem st12 (L : Lt P w K mg base CB CN) (hr : Room 6 (A.deeper (envOfC "law" (defScope s_law) s.heap.objs.size f (.ref c)))) : Does (LX P w K mg base f c A outer s H0 E0) (lawSt 12) (At11 K Pa a ns 8) (At11 K Pa a ns 9) := by
  refine ⟨_, ps_set (i := 11) sc_law.nd rfl (Or.inl rfl) (pe_op op_cat (pv 11) (pe_ifExp (pt_cmpR op_gt (pe_ix ix_tup (pv 2) pe_int (fun _ _ => rfl)) pe_int (nomark _)) (pe_lst (pa_cons (pe_back (pv 10)) pa_nil)) (pe_lst pa_nil))), fun D σ H pre post => ?_⟩
  obtain ⟨r, hs, n, k, S, p, x, b, vs, y3, y4, y5, y6, y8, y9, rfl, W, hx, hp, nb, hb, lv, hv⟩ := pre
  obtain ⟨la, aa⟩ := drawN_asc hx
  obtain ⟨W0, d, pp, c', hh⟩ := id W
  refine ⟨.ref b, rfl, .ref hs, rfl, hs, _, _, .int k, rfl, rfl, SqT.of hh.at_, atI_nat (j := 1) rfl, _, _, rfl, rfl, _, rfl, ite2 (fun h => ?_) (fun h => ?_)⟩
  · have hk : 2 ≤ k := by
      have := of_decide_eq_true h
      omega
    refine ⟨.ref p, rfl, p, _, rfl, SqT.of hp, fun q nq => ⟨(by show 1 ≤ sizeLine; decide), fun l nl => ?_⟩⟩
    have x1 := Ex.new (o := .tup ((drawN n k x 0).map iV).reverse) nq
    have x2 := Ex.new (o := .lst [V.ref q]) nl
    have e2 := x1.trans x2
    refine ⟨b, l, vs, [.ref q], rfl, rfl, e2 _ _ hb, upd_same, Nat.le_trans (Nat.add_le_add_right lv 1) (by decide), fun z nz => ?_⟩
    have x3 := Ex.new (o := .lst (vs ++ [V.ref q])) nz
    have e3 := e2.trans x3
    refine post _ _ ⟨r, hs, n, k, S, p, x, z, _, y3, y4, y5, y6, y8, y9, rfl, AtH.ex W e3, hx, e3 _ _ hp, AtH.nr (AtH.ex W e2) nz, upd_same, ?_, fun v hv' => ?_⟩
    · rw [List.length_append]
      exact Nat.add_le_add_right lv 1
    · rcases List.mem_append.mp hv' with z | z
      · exact (hv v z).ex e3
      · rw [List.mem_singleton.mp z]
        refine BadV.ex (H := upd H q (.tup ((drawN n k x 0).map iV).reverse)) (bad_asc upd_same (fun y hy => ints_flat y (List.mem_reverse.mp hy)) (back_no (by omega) aa)) (x2.trans x3)
  · refine ⟨Nat.zero_le _, fun l nl => ?_⟩
    have x2 := Ex.new (o := .lst []) nl
    refine ⟨b, l, vs, [], rfl, rfl, x2 _ _ hb, upd_same, Nat.le_trans lv (by decide), fun z nz => ?_⟩
    have x3 := Ex.new (o := .lst (vs ++ [])) nz
    have e3 := x2.trans x3
    refine post _ _ ⟨r, hs, n, k, S, p, x, z, _, y3, y4, y5, y6, y8, y9, rfl, AtH.ex W e3, hx, e3 _ _ hp, AtH.nr (AtH.ex W x2) nz, upd_same, by rw [List.append_nil]; exact Nat.le_succ_of_le lv, fun v hv' => ?_⟩
    rw [List.append_nil] at hv'
    exact (hv v hv').ex e3
theorem st13 (L : Lt P w K mg base CB CN) (TB : LamX.TabB base mg c Pa) (hr : Room 6 (A.deeper (envOfC "law" (defScope s_law) s.heap.objs.size f (.ref c)))) : ∃ t, PSs (LX P w K mg base f c A outer s H0 E0) [lawSt 13] t ∧ ∀ (D : Ends) σ H, At11 K Pa a ns 9 σ H → (∀ H', D.rt (.bl true) H') → t D σ H := by
  have un : (A.deeper (envOfC "law" (defScope s_law) s.heap.objs.size f (.ref c))).units + 64 < cLine := by have := hr.un; omega
  refine ⟨_, pss_one (ps_ret (pe_cmpR (op_eqD un) (pe_lc (own := [("value", 5)]) (g := gName 5) (by rfl) sc_law.nd (pi_list (pv 11)) (blkOk_by (own := [("value", 5)]) (N := n_law) (sc := defScope s_law) (by decide +kernel)) (fun _ _ _ _ _ => pg_name (i := 5) sc_law.nd rfl (Or.inr rfl))
    (fun _ _ _ _ _ => pts_one (pt_cmpR op_ne (pe_word L.W lawQ TB rfl rfl (by rfl) (k := 4) hr (LamX.lamS_by (by rfl)) (fun A' outer' s' H' E' f' c' hr' => pe_call L.co.G hr' (by rfl) L.co.m L.co.k L.co.b .nil (passX (E := E') rfl rfl rfl rfl) (pa_cons (pv 2) (pa_cons (pv 5) pa_nil))) (by rfl) (fun _ _ _ _ _ => by rfl)) pe_str (nomark _))) (fun _ _ _ _ _ => (pv 5))) (pe_lst pa_nil) (nomark _))), fun D σ H pre post => ?_⟩
  obtain ⟨r, hs, n, k, S, p, x, b, vs, y3, y4, y5, y6, y8, y9, rfl, W, hx, hp, nb, hb, lv, hv⟩ := pre
  refine ⟨.ref b, rfl, b, rfl, ⟨_, SqL.of hb⟩, fun Dl nD => ?_⟩
  have nDr := AtH.nr W nD
  refine lc_list (xs := vs) (fun i G => G Dl = some (.lst []) ∧ Kp r H G ∧ AtH K Pa a ns n k r hs G) ⟨upd_same, Kp.ex (Ex.new nD), AtH.ex W (Ex.new nD)⟩ (fun i G _ w => SqL.of (w.2.1.l _ _ nb hb)) (fun i v G hi w => ?_) (fun G w => ?_)
  · obtain ⟨gD, k1, W1⟩ := w
    refine ⟨rfl, word_q W1.1.tab fun G3 e3 t3 => ?_⟩
    have W3 := AtH.lam W1 e3 t3
    have k3 := k1.trans (Kp.lam (r := r) e3)
    obtain ⟨_, d, pp, c', hh⟩ := id W3
    refine ⟨.ref hs, rfl, v, rfl, ?_⟩
    refine coin_no hh (hv v (List.mem_of_getElem? hi) _ k3) (.inr ⟨rfl, rfl, _, rfl, ?_⟩)
    rw [decide_eq_true rfl]
    exact iteF ⟨e3 _ _ gD (fun ps z => by cases z), k3, W3⟩
  · obtain ⟨gD, k1, W1⟩ := w
    refine ⟨Nat.zero_le _, fun z nz => ?_⟩
    have e4 : Ex G (upd G z (.lst [])) := Ex.new nz
    exact ⟨.list [], .list [], .lst (SqL.of (e4 _ _ gD)) .nil, .lst (SqL.of upd_same) .nil, rfl, rfl, post _⟩
end
end K00

set_option maxHeartbeats 4000000
namespace K00
open PySem PySem.Spec PyProof.Rows L2 Hd Evl
section
variable {P : Program} {w : World} {K : PySem.W.Frag} {mg : Str → Option Value} {base : Heap} {CB CN : Addr} {a : Addr} {ns : List Int} {f c Pa : Addr} {A : Around} {outer : List Env} {s : Shared} {H0 : Hp} {E0 : XK}
theorem law_all (L : Lt P w K mg base CB CN) (TB : LamX.TabB base mg c Pa) (hr : Room 6 (A.deeper (envOfC "law" (defScope s_law) s.heap.objs.size f (.ref c)))) : ∃ t, PSs (LX P w K mg base f c A outer s H0 E0) (defBody s_law) t ∧ ∀ (D : Ends) σ H, At0 K Pa a ns σ H → (∀ H', D.rt (.bl true) H') → t D σ H := by
  rw [law_body]
  exact does_cons (F := fun D => ∀ H', D.rt (.bl true) H') (st0 L hr) (does_cons (st1 L hr) (does_cons (st2 L hr) (does_cons (st3 L hr) (does_cons (st4 L hr) (does_cons (st5 L TB hr) (does_cons (st6 L hr) (does_cons (st7 L hr) (does_cons (st8 L hr) (does_cons (st9 L TB hr) (does_cons (st10 L hr) (does_cons (st11 L hr) (does_cons (st12 L hr) (st13 L TB hr)))))))))))))
end
section
variable {P : Program} {w : World} {K : PySem.W.Frag} {mg : Str → Option Value} {base : Heap} {CB CN : Addr}
def spLaw (K : PySem.W.Frag) (Pa : Addr) : Sp := fun vs H Q _ => ∃ (a : Addr) (ns : List Int), vs = [.ref a] ∧ SqL K H a (ns.map V.int) ∧ H Pa = some (.tbl #[]) ∧ ∀ H', Q (.bl true) H'
theorem ok_law {f c Pa : Addr} {fd : FuncData} (F : FnP K "law" s_law f fd) (L : Lt P w K mg base CB CN) (hc : fd.code = .ref c) (TB : LamX.TabB base mg c Pa) : FnOk P w K mg base (L2.CX P w) 7 f fd ["script"] (spLaw K Pa) := by
  obtain ⟨oc, od, dV, kV, doc, pm, an, cdv, ct, osl, rfl, lk, hcd, _, _⟩ := F.ex
  obtain rfl : cdv = .ref c := hc
  refine fn_of (k := 6) lk hcd sc_law (fun vs H Q E h => ?_) (fun A outer s H vs Q E hr h => ?_)
  · obtain ⟨a, ns, rfl, _⟩ := h
    rfl
  · obtain ⟨a, ns, rfl, ha, hP, q⟩ := h
    obtain ⟨t, p, k⟩ := law_all (a := a) (ns := ns) (outer := outer) (H0 := H) (E0 := E) L TB hr
    exact ⟨t, p, k _ _ _ ⟨rfl, ha, hP⟩ q⟩
end
end K00

set_option maxHeartbeats 4000000
namespace K00
open PySem PySem.Spec PyProof.Rows L2 Hd Evl
/-! ### own error classes with a field, by Bools -/
def ownExcB (K : PySem.W.Frag) (C : Addr) : Bool := match K.lookup C with
  | some o => (match o.cls, o.data with
    | .type t, .cls cd => decide (t = "type") && ((match cd.mro with | .ref z :: bm => decide (z = C) && PySem.HandSPX.refsVE bm | _ => false) && ((match o.slots.toList with | [_, _, _, _, some (.builtin z), _] => decide (z = "ValueError.__new__") | _ => false) && (cd.hasDict && !cd.hasDel)))
    | _, _ => false)
  | none => false
theorem ownExcB_ok {K : PySem.W.Frag} {C : Addr} (h : ownExcB K C = true) : ∃ nm q N bs bm sn sub ab col dd k0 k1 k2 k3 k5, K.lookup C = some (excClassObj nm q C N bs bm true sn sub ab col dd k0 k1 k2 k3 k5 "ValueError.__new__") ∧ PySem.HandSPX.refsVE bm = true := by
  unfold ownExcB at h
  cases e : K.lookup C with
  | none =>
    rw [e] at h
    cases h
  | some o =>
    rw [e] at h
    obtain ⟨oc, od, dt, osl⟩ := o
    cases oc with
    | type t =>
      cases dt with
      | cls cd =>
        simp only [Bool.and_eq_true, decide_eq_true_eq] at h
        obtain ⟨rfl, h1, h2, h3, h4⟩ := h
        obtain ⟨nm, bs, mro, N, qn, hd, sn, sub, ab, col, del⟩ := cd
        simp only at h1 h2 h3 h4
        subst h3
        have h4' : del = false := by simpa using h4
        subst h4'
        split at h1
        · rename_i z bm
          rw [Bool.and_eq_true] at h1
          obtain ⟨g1, g2⟩ := h1
          have g1' := of_decide_eq_true g1
          subst g1'
          split at h2
          · rename_i k0 k1 k2 k3 z5 k5 hs
            have g5 := of_decide_eq_true h2
            subst g5
            have hsl : osl = #[k0, k1, k2, k3, some (.builtin "ValueError.__new__"), k5] := by
              obtain ⟨l⟩ := osl
              exact congrArg Array.mk hs
            subst hsl
            exact ⟨nm, qn, N, bs, bm, sn, sub, ab, col, od, k0, k1, k2, k3, k5, rfl, g2⟩
          · cases h2
        · cases h1
      | _ => cases h
    | _ => cases dt <;> cases h
def oexB (K : PySem.W.Frag) (C : Addr) : Bool := ownExcB K C && (decide (PySem.W.findIn K (.ref C) "__setattr__" = some (some (.builtin "object.__setattr__"))) && (decide (PySem.W.subIn K (.ref C) (.type "BaseException") = some true) && (decide (PySem.W.typeIn K (.ref C) = some (.type "type")) && PySem.W.keepIn K (.ref C))))
theorem oexB_ok {K : PySem.W.Frag} {C : Addr} (h : oexB K C = true) : OexC K C := by
  unfold oexB at h
  simp only [Bool.and_eq_true, decide_eq_true_eq] at h
  obtain ⟨h1, h2, h3, h4, h5⟩ := h
  exact ⟨ownExcB_ok h1, h2, h3, h4, h5⟩
end K00

set_option maxHeartbeats 0
namespace K00
open PySem PySem.Spec PyProof.Rows L2 Hd Evl
def dOf (x : Str) (st : Stmt) : He.DefD := ⟨(x, none), x, x, defArgs st, defBody st, defScope st, [], []⟩
def fnL : List He.DefD := [dOf "is_number" s_is_number, dOf "wrong_word" s_wrong_word, dOf "is_house" s_is_house, dOf "check_house" s_check_house, dOf "coin_count" s_coin_count, dOf "is_coin" s_is_coin, dOf "drawn" s_drawn, dOf "is_cell_set" s_is_cell_set, dOf "coin_of" s_coin_of, dOf "_law_taken" s__law_taken,
  dOf "_law_alike" s__law_alike, dOf "_law_sets" s__law_sets, dOf "_law_word" s__law_word, dOf "_law_wrong" s__law_wrong, dOf "law" s_law, ⟨("BadHouse", some "__init__"), "__init__", "BadHouse.__init__", defArgs s_BadHouse___init__, defBody s_BadHouse___init__, defScope s_BadHouse___init__, [], []⟩]
def glos : List Str := ["is_number", "wrong_word", "is_house", "check_house", "coin_count", "is_coin", "drawn", "is_cell_set", "coin_of", "_law_taken", "_law_alike", "_law_sets", "_law_word", "_law_wrong", "law", "BadHouse", "BadNumber"]
def frees : List Str := ["isinstance", "int", "bool", "str", "tuple", "list", "len", "range", "enumerate", "min", "sum"]
def faL : List He.Fa := glos.map .glo ++ (frees.map .free ++ [.noat "BadHouse" "word", .meth "BadHouse" "__init__", .exc "BadNumber", .exm "BadHouse" "BadHouse" true, .exm "BadNumber" "BadHouse" false, .exm "BadNumber" "BadNumber" true])
/-- a whole number at a name of the module -/
def gIntB (K : PySem.W.Frag) (x : Str) (i : Int) : Bool := match PySem.W.nsIn K mainGlobals x with
  | some (some (.int j _)) => decide (j = i)
  | _ => false
theorem gIntB_ok {K : PySem.W.Frag} {mg : Str → Option Value} {h : Heap} {x : Str} {i : Int} (X : K.In h) (G : h.Ns mainGlobals mg) (e : gIntB K x i = true) : ∃ tk, mg x = some (.int i tk) := by
  unfold gIntB at e
  split at e
  · rename_i j tk hj
    obtain rfl := of_decide_eq_true e
    exact ⟨tk, PySem.W.mg_of X G hj⟩
  · cases e
def exL (K : PySem.W.Frag) : Bool := gIntB K "LEAST_CELLS" 2 && (gIntB K "MOST_CELLS" 12 && (oexB K (He.ga K "BadHouse") && (xfB K (He.ga K "BadHouse") && (decide (PySem.W.nsIn K mainGlobals "comb" = some (some (.builtin "math.comb"))) && decide (PySem.W.typeIn K (.ref (He.ma K (He.ga K "BadHouse") "__init__")) = some (.type "function"))))))
def tfL : List He.Defn := [("law", none)]
abbrev RR : PySem.W.OpenRow := PySem.W.OpenLaw.row PySem.Challenge.rw_hushdrawers_k00_whole_houses
abbrev hkL : PySem.W.Hook := He.hookX 4 faL fnL [] tfL exL
def obL (s : PySem.W.SharedT) : He.AlX := He.obsX 4 faL fnL [] tfL exL (HandSHeadRun.getT s)
theorem obL_eq (s : PySem.W.SharedT) : obL s = hkL.obs s.abs := He.obsX_eq (HandSHeadRun.getT_eq s)
def looseL : List Str := ["LEAST_CELLS", "MOST_CELLS", "DrawerError", "BadHouse", "BadNumber", "is_number", "wrong_word", "is_house", "check_house", "coin_count", "is_coin", "drawn", "is_cell_set", "coin_of", "_law_taken", "_law_pick", "_law_alike", "_law_choices", "_law_sets", "_law_house", "_law_moment", "_law_life", "_law_length", "_law_coins", "_law_upper", "_law_word", "_law_wrong"]
end K00

set_option maxHeartbeats 4000000
namespace K00
open PySem PySem.Spec PyProof.Rows L2 Hd Evl
abbrev PP : Program := PySem.Challenge.rw_hushdrawers_k00_whole_houses.prog
section
variable {w : World} {K : PySem.W.Frag} {mg : Str → Option Value} {base h : Heap}
theorem facts {f : Addr} (X : K.In h) (G : h.Ns mainGlobals mg) (hfa : mg ("law" : Str) = some (.ref f)) (c : He.SaysX faL fnL [] tfL exL w h K) : LamX.LawAtS PySem.Challenge.rw_hushdrawers_k00_whole_houses w K (L2.CX PP w) 7 63 "script" mg f h := by
  have cd : He.SaysD faL fnL K := c.t.d
  have glo : ∀ x, x ∈ glos → mg x = some (.ref (He.ga K x)) := fun x hx => He.glo_ok X G (cd.facts (f := .glo x) (List.mem_append_left _ (List.mem_map_of_mem hx)))
  have fre : ∀ x, x ∈ frees → mg x = none := fun x hx => He.free_ok X G (cd.facts (f := .free x) (List.mem_append_right _ (List.mem_append_left _ (List.mem_map_of_mem hx))))
  have oth : ∀ q, q ∈ [He.Fa.noat "BadHouse" "word", .meth "BadHouse" "__init__", .exc "BadNumber", .exm "BadHouse" "BadHouse" true, .exm "BadNumber" "BadHouse" false, .exm "BadNumber" "BadNumber" true] → q.ok K = true := fun q hq => cd.facts (List.mem_append_right _ (List.mem_append_right _ hq))
  have ex := c.more
  unfold exL at ex
  simp only [Bool.and_eq_true, decide_eq_true_eq] at ex
  obtain ⟨g2, g12, x1, x2, x3, x4⟩ := ex
  have B : Blt mg := ⟨fre _ (by decide), fre _ (by decide), fre _ (by decide), fre _ (by decide), fre _ (by decide), fre _ (by decide), fre _ (by decide), fre _ (by decide), fre _ (by decide), fre _ (by decide), fre _ (by decide), PySem.W.mg_of X G x3, gIntB_ok X G g2, gIntB_ok X G g12⟩
  obtain ⟨fd1, F1⟩ := cd.def_ 0 (d := dOf "is_number" s_is_number) rfl
  obtain ⟨fd2, F2⟩ := cd.def_ 1 (d := dOf "wrong_word" s_wrong_word) rfl
  obtain ⟨fd3, F3⟩ := cd.def_ 2 (d := dOf "is_house" s_is_house) rfl
  obtain ⟨fd4, F4⟩ := cd.def_ 3 (d := dOf "check_house" s_check_house) rfl
  obtain ⟨fd5, F5⟩ := cd.def_ 4 (d := dOf "coin_count" s_coin_count) rfl
  obtain ⟨fd6, F6⟩ := cd.def_ 5 (d := dOf "is_coin" s_is_coin) rfl
  obtain ⟨fd7, F7⟩ := cd.def_ 6 (d := dOf "drawn" s_drawn) rfl
  obtain ⟨fd8, F8⟩ := cd.def_ 7 (d := dOf "is_cell_set" s_is_cell_set) rfl
  obtain ⟨fd9, F9⟩ := cd.def_ 8 (d := dOf "coin_of" s_coin_of) rfl
  obtain ⟨fd10, F10⟩ := cd.def_ 9 (d := dOf "_law_taken" s__law_taken) rfl
  obtain ⟨fd11, F11⟩ := cd.def_ 10 (d := dOf "_law_alike" s__law_alike) rfl
  obtain ⟨fd12, F12⟩ := cd.def_ 11 (d := dOf "_law_sets" s__law_sets) rfl
  obtain ⟨fd13, F13⟩ := cd.def_ 12 (d := dOf "_law_word" s__law_word) rfl
  obtain ⟨fd14, F14⟩ := cd.def_ 13 (d := dOf "_law_wrong" s__law_wrong) rfl
  obtain ⟨fd15, F15⟩ := cd.def_ 14 (d := dOf "law" s_law) rfl
  obtain ⟨fd16, F16⟩ := cd.def_ 15 (d := ⟨("BadHouse", some "__init__"), "__init__", "BadHouse.__init__", defArgs s_BadHouse___init__, defBody s_BadHouse___init__, defScope s_BadHouse___init__, [], []⟩) rfl
  have b1 : Binds K fd1 ["value", "least", "most"] [] := FunD.bindsN F1 (fun _ _ _ _ _ _ us hl => match us, hl with | [_, _, _], _ => rfl)
  have b2 : Binds K fd2 ["value"] [] := FunD.bindsN F2 (fun _ _ _ _ _ _ us hl => match us, hl with | [_], _ => rfl)
  have b3 : Binds K fd3 ["value"] [] := FunD.bindsN F3 (fun _ _ _ _ _ _ us hl => match us, hl with | [_], _ => rfl)
  have b4 : Binds K fd4 ["house"] [] := FunD.bindsN F4 (fun _ _ _ _ _ _ us hl => match us, hl with | [_], _ => rfl)
  have b5 : Binds K fd5 ["house"] [] := FunD.bindsN F5 (fun _ _ _ _ _ _ us hl => match us, hl with | [_], _ => rfl)
  have b6 : Binds K fd6 ["house", "value"] [] := FunD.bindsN F6 (fun _ _ _ _ _ _ us hl => match us, hl with | [_, _], _ => rfl)
  have b7 : Binds K fd7 ["house", "coin"] [] := FunD.bindsN F7 (fun _ _ _ _ _ _ us hl => match us, hl with | [_, _], _ => rfl)
  have b8 : Binds K fd8 ["house", "value"] [] := FunD.bindsN F8 (fun _ _ _ _ _ _ us hl => match us, hl with | [_, _], _ => rfl)
  have b9 : Binds K fd9 ["house", "cells"] [] := FunD.bindsN F9 (fun _ _ _ _ _ _ us hl => match us, hl with | [_, _], _ => rfl)
  have b10 : Binds K fd10 ["row", "many"] [] := FunD.bindsN F10 (fun _ _ _ _ _ _ us hl => match us, hl with | [_, _], _ => rfl)
  have b11 : Binds K fd11 ["found", "due"] [] := FunD.bindsN F11 (fun _ _ _ _ _ _ us hl => match us, hl with | [_, _], _ => rfl)
  have b12 : Binds K fd12 ["cells", "many"] [] := FunD.bindsN F12 (fun _ _ _ _ _ _ us hl => match us, hl with | [_, _], _ => rfl)
  have b13 : Binds K fd13 ["work"] [] := FunD.bindsN F13 (fun _ _ _ _ _ _ us hl => match us, hl with | [_], _ => rfl)
  have b14 : Binds K fd14 ["value"] [] := FunD.bindsN F14 (fun _ _ _ _ _ _ us hl => match us, hl with | [_], _ => rfl)
  have b16 : Binds K fd16 ["self", "word"] [] := FunD.bindsN F16 (fun _ _ _ _ _ _ us hl => match us, hl with | [_, _], _ => rfl)
  have m1 := glo "is_number" (by decide)
  have F1' : FnP K "is_number" s_is_number (He.ga K "is_number") fd1 := F1
  have m2 := glo "wrong_word" (by decide)
  have F2' : FnP K "wrong_word" s_wrong_word (He.ga K "wrong_word") fd2 := F2
  have m3 := glo "is_house" (by decide)
  have F3' : FnP K "is_house" s_is_house (He.ga K "is_house") fd3 := F3
  have m4 := glo "check_house" (by decide)
  have F4' : FnP K "check_house" s_check_house (He.ga K "check_house") fd4 := F4
  have m5 := glo "coin_count" (by decide)
  have F5' : FnP K "coin_count" s_coin_count (He.ga K "coin_count") fd5 := F5
  have m6 := glo "is_coin" (by decide)
  have F6' : FnP K "is_coin" s_is_coin (He.ga K "is_coin") fd6 := F6
  have m7 := glo "drawn" (by decide)
  have F7' : FnP K "drawn" s_drawn (He.ga K "drawn") fd7 := F7
  have m8 := glo "is_cell_set" (by decide)
  have F8' : FnP K "is_cell_set" s_is_cell_set (He.ga K "is_cell_set") fd8 := F8
  have m9 := glo "coin_of" (by decide)
  have F9' : FnP K "coin_of" s_coin_of (He.ga K "coin_of") fd9 := F9
  have m10 := glo "_law_taken" (by decide)
  have F10' : FnP K "_law_taken" s__law_taken (He.ga K "_law_taken") fd10 := F10
  have m11 := glo "_law_alike" (by decide)
  have F11' : FnP K "_law_alike" s__law_alike (He.ga K "_law_alike") fd11 := F11
  have m12 := glo "_law_sets" (by decide)
  have F12' : FnP K "_law_sets" s__law_sets (He.ga K "_law_sets") fd12 := F12
  have m13 := glo "_law_word" (by decide)
  have F13' : FnP K "_law_word" s__law_word (He.ga K "_law_word") fd13 := F13
  have m14 := glo "_law_wrong" (by decide)
  have F14' : FnP K "_law_wrong" s__law_wrong (He.ga K "_law_wrong") fd14 := F14
  have m15 := glo "law" (by decide)
  have F15' : FnP K "law" s_law (He.ga K "law") fd15 := F15
  have em := hfa.symm.trans m15
  cases em
  have me := He.meth_ok (oth (.meth "BadHouse" "__init__") (by simp))
  have no : PySem.W.findIn K (.ref (He.ga K "BadHouse")) "word" = some none := He.noat_ok (oth (.noat "BadHouse" "word") (by simp))
  have ec := He.exc_ok (oth (.exc "BadNumber") (by simp))
  have T := oexB_ok x1
  have XF := xfB_ok x2
  obtain ⟨c0, hc0⟩ : ∃ c0, fd15.code = .ref c0 := by
    obtain ⟨oc, od, dV, kV, doc, pm, an, cdv, ct, osl, rfl, lk, hcd, _, _⟩ := F15'.ex
    exact He.codeIn_ref hcd
  have hco : He.codeOf K ("law", none) = c0 := by
    obtain ⟨oc, od, dV, kV, doc, pm, an, cdv, ct, osl, e, lk, hcd, _, _⟩ := F15'.ex
    exact He.codeOf_eq (p := ("law", none)) lk hc0
  refine ⟨fd15, [He.cT K ("law", none)], spLaw K (He.cT K ("law", none)).2, fun p hp => ?_, fun p hp => ?_, fun p hp => ?_, fun s u => FunD.bindsA (ps := ["script"]) F15 (fun _ _ _ _ _ _ us hl => match us, hl with | [_], _ => rfl) s [u] rfl, fun H a ns hl hb hP hS => ⟨a, ns, rfl, hS, hP _ (List.mem_singleton.mpr rfl), fun _ => rfl⟩, fun base KB hns hTB => ?_⟩
  · rw [List.mem_singleton.mp hp]
    exact c.empty _ (List.mem_singleton.mpr rfl)
  · rw [List.mem_singleton.mp hp]
    exact c.out _ (List.mem_singleton.mpr rfl)
  · rw [List.mem_singleton.mp hp]
    exact PySem.W.codeHd_of_K X (c.hd _ (List.mem_singleton.mpr rfl))
  · have TB0 := hTB _ (List.mem_singleton.mpr rfl)
    have TB : LamX.TabB base mg c0 (He.cT K ("law", none)).2 := by
      rw [← hco]
      exact TB0
    have EB : ErrF PP w K mg base "BadHouse" "word" (He.ga K "BadHouse") := ⟨T, XF, no, glo "BadHouse" (by decide), _, fd16, me.at_, x4, ok_BadHouse_init F16 T no, b16⟩
    have EN : ErrP K mg "BadNumber" (He.ga K "BadNumber") := ⟨ec.1, ec.2.1, ec.2.2.1, ec.2.2.2, glo "BadNumber" (by decide)⟩
    have G1 := ok_number (CX := CX0) (P := PP) (w := w) (base := base) F1' B
    have N1 : Fn PP w K mg base CX0 1 "is_number" ["value", "least", "most"] (spNumber K) _ _ := ⟨G1, m1, F1'.kp, b1⟩
    have G2 := ok_wrong (CX := CX0) F2' B ⟨G1, m1, F1'.kp, b1⟩
    have N2 : Fn PP w K mg base CX0 2 "wrong_word" ["value"] (spWrong K) _ _ := ⟨G2, m2, F2'.kp, b2⟩
    have N3 : Fn PP w K mg base CX0 3 "is_house" ["value"] (spIsHouse K) _ _ := ⟨ok_is_house (CX := CX0) F3' N2, m3, F3'.kp, b3⟩
    have N4 : Fn PP w K mg base (L2.CX PP w) 3 "check_house" ["house"] (spCheck K (He.ga K "BadHouse")) _ _ := ⟨ok_check F4' N2 EB, m4, F4'.kp, b4⟩
    have N5 : Fn PP w K mg base (L2.CX PP w) 4 "coin_count" ["house"] (spCount K (He.ga K "BadHouse")) _ _ := ⟨ok_count F5' N4 B, m5, F5'.kp, b5⟩
    have N6 : Fn PP w K mg base CX0 2 "is_coin" ["house", "value"] (spIsCoin K) _ _ := ⟨ok_is_coin (CX := CX0) F6' N1 B, m6, F6'.kp, b6⟩
    have N7 : Fn PP w K mg base (L2.CX PP w) 4 "drawn" ["house", "coin"] (spDrawn K (He.ga K "BadHouse") (He.ga K "BadNumber")) _ _ := ⟨ok_drawn F7' N4 N6 EN B, m7, F7'.kp, b7⟩
    have N8 : Fn PP w K mg base (L2.CX PP w) 2 "is_cell_set" ["house", "value"] (spCells K) _ _ := ⟨ok_cells F8' N1 B, m8, F8'.kp, b8⟩
    have N9 : Fn PP w K mg base (L2.CX PP w) 4 "coin_of" ["house", "cells"] (spCoinOf K (He.ga K "BadHouse") (He.ga K "BadNumber")) _ _ := ⟨ok_coin_of F9' N4 N8 EN B, m9, F9'.kp, b9⟩
    have N10 : Fn PP w K mg base CX0 1 "_law_taken" ["row", "many"] (spTaken K) _ _ := ⟨ok_taken (CX := CX0) F10' B, m10, F10'.kp, b10⟩
    have N11 : Fn PP w K mg base CX0 4 "_law_alike" ["found", "due"] (spAlike K 4) _ _ := ⟨ok_alike F11' B m11 b11 4, m11, F11'.kp, b11⟩
    have N12 : Fn PP w K mg base CX0 1 "_law_sets" ["cells", "many"] spSets _ _ := ⟨ok_sets (CX := CX0) F12' B, m12, F12'.kp, b12⟩
    have N14 : Fn PP w K mg base CX0 1 "_law_wrong" ["value"] (spLawWrong K) _ _ := ⟨ok_law_wrong (CX := CX0) F14' B, m14, F14'.kp, b14⟩
    have WD : WordDef K mg (He.ga K "BadHouse") (He.ga K "BadNumber") := ⟨_, _, F13', m13, b13, glo "BadHouse" (by decide), glo "BadNumber" (by decide), XF, no, He.exm_ok (oth (.exm "BadHouse" "BadHouse" true) (by simp)), He.exm_ok (oth (.exm "BadNumber" "BadHouse" false) (by simp)), He.exm_ok (oth (.exm "BadNumber" "BadNumber" true) (by simp))⟩
    exact ok_law F15' ⟨B, WD, _, _, N10, _, _, N14, _, _, N11, _, _, N3, _, _, N5, _, _, N7, _, _, N9, _, _, N12⟩ hc0 TB
end
end K00

set_option maxHeartbeats 0
namespace K00
open PySem PySem.Spec PyProof.Rows L2 Hd Evl
theorem runL (w : World) : HandSHeadRun.RunEqI RR (PySem.W.view RR.prog [0, 31]) hkL obL 4000 looseL w := by
  unfold HandSHeadRun.RunEqI
  kernel_rfl
end K00
open PySem PySem.W PySem.Calls PyProof.Rows
theorem PySem.Challenge.cw_hushdrawers_k00_whole_houses_holds : PySem.Challenge.rw_hushdrawers_k00_whole_houses.Holds := by
  w_on; o_law
  refine HandSHeadRun.head_imp (r := OpenLaw.row PySem.Challenge.rw_hushdrawers_k00_whole_houses) (q := view (OpenLaw.row PySem.Challenge.rw_hushdrawers_k00_whole_houses).prog [0, 31]) (H := K00.hkL) (ob := K00.obL) (M := 4000) (loose := K00.looseL) (d := HandSHeadRun.topDef (OpenLaw.row PySem.Challenge.rw_hushdrawers_k00_whole_houses).prog 31) (kwd := []) K00.obL_eq
    K00.runL (by kernel_rfl) (by kernel_rfl) (by rfl) (by kernel_rfl) (by decide +kernel) (by decide +kernel) ⟨rfl, rfl, rfl, rfl, rfl, by decide +kernel⟩ ?hw ?hc
  case hw => w_witness2
  case hc =>
    refine LamX.walk_ofTsE (l := PySem.Challenge.rw_hushdrawers_k00_whole_houses) (n := 63) (k := 7) (x := "script") (CX := fun w => L2.CX K00.PP w) rfl (by decide) (by kernel_rfl) ⟨rfl, by decide, by decide⟩ ?F (fun w H s e s' z => by obtain ⟨_, _, _, _, _, _, _, _, _, _, _, _, z⟩ := z; exact z)
    intro w mg fa h Y G hmg0
    obtain ⟨K, KX, c⟩ := Y
    have hmg : mg ("law" : PySem.Str) = some (.ref fa) := by
      have e : (HandSHeadRun.topDef (OpenLaw.row PySem.Challenge.rw_hushdrawers_k00_whole_houses).prog 31).name = ("law" : PySem.Str) := by kernel_rfl
      rw [← e]
      exact hmg0
    exact ⟨K, KX, K00.facts KX G hmg c⟩
