import PyProof.Rows.All
import Wide.All
import OpenK.AllK
import Wide.FinOn
import Lean
import PyProof.EqAt
import PyProof.EqKinds
import PyProof.TupleCall
import KE.KRevIter
import KE.KTryMore
import PySem.Challenge.RW_loopbed_k15_whole_the_bed_knits_the_patt
set_option Elab.async false
set_option linter.all false
set_option maxRecDepth 100000
set_option bootstrap.genMatcherCode false
set_option genSizeOf false
noncomputable section
set_option genInjectivity false
namespace L2
open PySem
def inClass (s:Stmt) (j:Nat):Stmt:=match s with
 | .ClassDef _ _ _ body _ _ _ _ _ _ _=>body.getD j (.Pass ⟨0,0,0,0⟩)
 | _=>.Pass ⟨0,0,0,0⟩
def kq (s:Stmt):Arguments:=match s with
 | .FunctionDef _ a _ _ _ _ _ _ _ _=>a
 | _=>{ posonlyargs:=[],args:=[],vararg:=none,kwonlyargs:=[],kw_defaults:=[],kwarg:=none,defaults:=[] }
def gr (s:Stmt):List Stmt:=match s with
 | .FunctionDef _ _ b _ _ _ _ _ _ _=>b
 | _=>[]
def aW (s:Stmt):Scope:=match s with
 | .FunctionDef _ _ _ _ _ _ sc _ _ _=>sc
 | _=>{ kind:=.function,names:=[],isGenerator:=false,isCoroutine:=false }
end L2
def Lw.top (i:Nat):PySem.Stmt:=PySem.Challenge.pw_loopbed_k15_whole_the_bed_knits_the_patt.main.body.getD i (.Pass ⟨0,0,0,0⟩)
namespace Hd
open PySem PySem.W PyProof.Rows
def e (P:Params) (x:Str) (t:Tok) (v:Value):DictEntry:=⟨PyData.keyHash P x,.str x t,v⟩
def f (n q:Str) (s:Stmt) (pm:Value) (c:Addr):Obj:=⟨.type "function",none,.func (PySem.W.fnOf n q (L2.kq s) (L2.gr s) (L2.aW s) .none .none .none pm none (.ref c) .none),#[]⟩
def c (n q:Str) (t:Nat) (L a:Int) (r:Addr) (k:Int) (u:Addr) (x y z:Value) (r2:Addr) (m:Int) (v:Value):Obj:=⟨.type "code",none,.fields #[.str n t,.str q (t + 1),.str "/claim/cut.py" (t + 2),.int L 0,.int a 0,.int 0 0,.int 0 0,.int 3 0,.ref r,.bool true,.int k 0,.ref u,x,y,z,.ref r2,.int m 0,.int L 0,v],#[]⟩
abbrev m0:Value:=.str "law_loopbed_k15_whole_the_bed_knits_the_patt" 674
abbrev m1:Value:=.str "loopbed.bed" 482
abbrev m2:Value:=.str "loopbed.looking" 335
abbrev m3:Value:=.str "loopbed.making" 400
abbrev m4:Value:=.str "loopbed.stitches" 294
abbrev m5:Value:=.str "loopbed.telling" 627
def Kf:Params->Frag:=fun P=>
(nat_lit 2,⟨.none,none,.dict #[],#[]⟩)::
(nat_lit 3,⟨.type "dict",none,.dict #[e P "__name__" 165 m0,e P "__doc__" 166 .none,e P "__package__" 167 .none,e P "__loader__" 168 (.builtin "__main__.__loader__#opaque"),e P "__spec__" 169 .none,e P "__annotations__" 170 (.ref 6),e P "__builtins__" 171 (.ref 4),e P "__file__" 173 (.str "/claim/cut.py" 172),e P "__cached__" 174 .none,e P "_wall" 193 (.ref 21),e P "LoopError" 213 (.ref 31),e P "Unfit" 229 (.ref 44),e P "BedFault" 245 (.ref 56),e P "Empty" 261 (.ref 68),e P "Overfull" 277 (.ref 80),e P "TooFar" 293 (.ref 92),e P "TAKES" 317 (.ref 95),e P "places_taken" 323 (.ref 100),e P "steps_of" 334 (.ref 107),e P "MOST_WIDE" 338 (.int 16 337),e P "MOST_LOOPS" 340 (.int 4 339),e P "looked" 353 (.ref 114),e P "need_good" 360 (.ref 121),e P "fault_of" 371 (.ref 128),e P "is_too_many" 379 (.ref 135),e P "counts_behind" 391 (.ref 142),e P "count_left" 399 (.ref 149),e P "FARTHEST_making" 403 (.int 2 402),e P "made" 409 (.ref 154),e P "joining_moves" 420 (.ref 161),e P "placing_moves" 431 (.ref 168),e P "ways_of" 441 (.ref 175),e P "moves_along" 452 (.ref 182),e P "nearer" 460 (.ref 189),e P "worked_deeds" 472 (.ref 196),e P "stitch_deeds" 481 (.ref 203),e P "MOST_BORNE" 485 (.int 4 484),e P "FARTHEST_bed" 487 (.int 2 486),e P "WAYS" 494 (.ref 204),e P "ACROSS" 501 (.ref 205),e P "Bed" 626 (.ref 295),e P "told" 634 (.ref 304),e P "worked" 649 (.ref 311),e P "stitched" 662 (.ref 318),e P "joined" 673 (.ref 325),e P "_law_whole" 682 (.ref 332),e P "_law_cell_at" 690 (.ref 339),e P "_law_mix" 699 (.ref 346),e P "_law_taken" 706 (.ref 353),e P "_law_menu" 712 (.ref 358),e P "_law_stitch" 724 (.ref 365),e P "_law_row" 739 (.ref 372),e P "_law_behind" 750 (.ref 379),e P "_law_pattern" 756 (.ref 384),e P "_law_good" 764 (.ref 391),e P "_law_loop" 770 (.ref 396),e P "_law_alike_cloth" 779 (.ref 403),e P "_law_alike_hook" 788 (.ref 410),e P "_law_does" 797 (.ref 417),e P "_law_bears" 807 (.ref 424),e P "law" 819 (.ref 431)] 61,#[]⟩)::
(nat_lit 95,⟨.type "dict",none,.dict #[e P "k" 296 (.int 1 297),e P "p" 298 (.int 1 299),e P "t" 300 (.int 1 301),e P "s" 302 (.int 1 303),e P "l" 304 (.int 2 305),e P "r" 306 (.int 2 307),e P "o" 308 (.int 0 309)] 7,#[]⟩)::
(nat_lit 99,c "places_taken" "places_taken" 318 19 1 96 181 97 .none .none .none 98 321 (.str "/claim/cut.py" 322))::
(nat_lit 100,f "places_taken" "places_taken" (Lw.top 10) m4 99)::
(nat_lit 106,c "steps_of" "steps_of" 324 21 1 101 181 102 .none (.ref 103) (.ref 104) 105 332 (.str "/claim/cut.py" 333))::
(nat_lit 107,f "steps_of" "steps_of" (Lw.top 11) m4 106)::
(nat_lit 113,c "looked" "looked" 341 32 1 108 181 109 .none (.ref 110) (.ref 111) 112 351 (.str "/claim/cut.py" 352))::
(nat_lit 114,f "looked" "looked" (Lw.top 15) m2 113)::
(nat_lit 120,c "need_good" "need_good" 354 43 1 115 181 116 .none (.ref 117) (.ref 118) 119 358 (.str "/claim/cut.py" 359))::
(nat_lit 121,f "need_good" "need_good" (Lw.top 16) m2 120)::
(nat_lit 127,c "fault_of" "fault_of" 361 46 2 122 181 123 .none (.ref 124) (.ref 125) 126 369 (.str "/claim/cut.py" 370))::
(nat_lit 128,f "fault_of" "fault_of" (Lw.top 17) m2 127)::
(nat_lit 134,c "is_too_many" "is_too_many" 372 55 2 129 181 130 .none (.ref 131) (.ref 132) 133 377 (.str "/claim/cut.py" 378))::
(nat_lit 135,f "is_too_many" "is_too_many" (Lw.top 18) m2 134)::
(nat_lit 141,c "counts_behind" "counts_behind" 380 59 2 136 181 137 .none (.ref 138) (.ref 139) 140 389 (.str "/claim/cut.py" 390))::
(nat_lit 142,f "counts_behind" "counts_behind" (Lw.top 19) m2 141)::
(nat_lit 148,c "count_left" "count_left" 392 64 2 143 181 144 .none (.ref 145) (.ref 146) 147 397 (.str "/claim/cut.py" 398))::
(nat_lit 149,f "count_left" "count_left" (Lw.top 20) m2 148)::
(nat_lit 153,c "made" "made" 404 72 1 150 181 151 .none .none .none 152 407 (.str "/claim/cut.py" 408))::
(nat_lit 154,f "made" "made" (Lw.top 23) m3 153)::
(nat_lit 160,c "joining_moves" "joining_moves" 410 83 1 155 181 156 .none (.ref 157) (.ref 158) 159 418 (.str "/claim/cut.py" 419))::
(nat_lit 161,f "joining_moves" "joining_moves" (Lw.top 24) m3 160)::
(nat_lit 167,c "placing_moves" "placing_moves" 421 91 1 162 181 163 .none (.ref 164) (.ref 165) 166 429 (.str "/claim/cut.py" 430))::
(nat_lit 168,f "placing_moves" "placing_moves" (Lw.top 25) m3 167)::
(nat_lit 174,c "ways_of" "ways_of" 432 101 1 169 181 170 .none (.ref 171) (.ref 172) 173 439 (.str "/claim/cut.py" 440))::
(nat_lit 175,f "ways_of" "ways_of" (Lw.top 26) m3 174)::
(nat_lit 181,c "moves_along" "moves_along" 442 109 2 176 181 177 .none (.ref 178) (.ref 179) 180 450 (.str "/claim/cut.py" 451))::
(nat_lit 182,f "moves_along" "moves_along" (Lw.top 27) m3 181)::
(nat_lit 188,c "nearer" "nearer" 453 118 2 183 181 184 .none (.ref 185) (.ref 186) 187 458 (.str "/claim/cut.py" 459))::
(nat_lit 189,f "nearer" "nearer" (Lw.top 28) m3 188)::
(nat_lit 195,c "worked_deeds" "worked_deeds" 461 120 2 190 181 191 .none (.ref 192) (.ref 193) 194 470 (.str "/claim/cut.py" 471))::
(nat_lit 196,f "worked_deeds" "worked_deeds" (Lw.top 29) m3 195)::
(nat_lit 202,c "stitch_deeds" "stitch_deeds" 473 128 3 197 181 198 .none (.ref 199) (.ref 200) 201 479 (.str "/claim/cut.py" 480))::
(nat_lit 203,f "stitch_deeds" "stitch_deeds" (Lw.top 30) m3 202)::
(nat_lit 204,⟨.type "dict",none,.dict #[e P "f" 488 (.str "k" 489),e P "b" 490 (.str "p" 491)] 2,#[]⟩)::
(nat_lit 205,⟨.type "dict",none,.dict #[e P "f" 495 (.str "b" 496),e P "b" 497 (.str "f" 498)] 2,#[]⟩)::
(nat_lit 218,c "__init__" "Bed.__init__" 514 143 1 213 181 214 .none (.ref 215) (.ref 216) 217 518 (.str "/claim/cut.py" 519))::
(nat_lit 219,f "__init__" "Bed.__init__" (L2.inClass (Lw.top 36) 0) m1 218)::
(nat_lit 225,c "act" "Bed.act" 521 148 2 220 181 221 .none (.ref 222) (.ref 223) 224 526 (.str "/claim/cut.py" 527))::
(nat_lit 226,f "act" "Bed.act" (L2.inClass (Lw.top 36) 1) m1 225)::
(nat_lit 239,c "hook" "Bed.hook" 536 158 3 234 181 235 .none (.ref 236) (.ref 237) 238 542 (.str "/claim/cut.py" 543))::
(nat_lit 240,f "hook" "Bed.hook" (L2.inClass (Lw.top 36) 3) m1 239)::
(nat_lit 246,c "cloth" "Bed.cloth" 545 161 1 241 181 242 .none (.ref 243) (.ref 244) 245 549 (.str "/claim/cut.py" 550))::
(nat_lit 247,f "cloth" "Bed.cloth" (L2.inClass (Lw.top 36) 4) m1 246)::
(nat_lit 251,c "done" "Bed.done" 552 164 1 248 181 249 .none .none .none 250 555 (.str "/claim/cut.py" 556))::
(nat_lit 252,f "done" "Bed.done" (L2.inClass (Lw.top 36) 5) m1 251)::
(nat_lit 258,c "knit" "Bed.knit" 558 167 2 253 181 254 .none (.ref 255) (.ref 256) 257 566 (.str "/claim/cut.py" 567))::
(nat_lit 259,f "knit" "Bed.knit" (L2.inClass (Lw.top 36) 6) m1 258)::
(nat_lit 265,c "tuck" "Bed.tuck" 569 177 2 260 181 261 .none (.ref 262) (.ref 263) 264 577 (.str "/claim/cut.py" 578))::
(nat_lit 266,f "tuck" "Bed.tuck" (L2.inClass (Lw.top 36) 7) m1 265)::
(nat_lit 272,c "move" "Bed.move" 580 187 2 267 181 268 .none (.ref 269) (.ref 270) 271 589 (.str "/claim/cut.py" 590))::
(nat_lit 273,f "move" "Bed.move" (L2.inClass (Lw.top 36) 8) m1 272)::
(nat_lit 279,c "loops_at" "Bed.loops_at" 592 203 2 274 181 275 .none (.ref 276) (.ref 277) 278 597 (.str "/claim/cut.py" 598))::
(nat_lit 280,f "loops_at" "Bed.loops_at" (L2.inClass (Lw.top 36) 9) m1 279)::
(nat_lit 284,c "keep" "Bed.keep" 600 206 3 281 181 282 .none .none .none 283 603 (.str "/claim/cut.py" 604))::
(nat_lit 285,f "keep" "Bed.keep" (L2.inClass (Lw.top 36) 10) m1 284)::
(nat_lit 291,c "new_loop" "Bed.new_loop" 606 209 4 286 181 287 .none (.ref 288) (.ref 289) 290 613 (.str "/claim/cut.py" 614))::
(nat_lit 292,f "new_loop" "Bed.new_loop" (L2.inClass (Lw.top 36) 11) m1 291)::
(nat_lit 294,⟨.type "dict",none,.dict #[e P "__module__" 509 m1,e P "__firstlineno__" 513 (.int 141 512),e P "__init__" 520 (.ref 219),e P "act" 528 (.ref 226),e P "rip" 535 (.ref 233),e P "hook" 544 (.ref 240),e P "cloth" 551 (.ref 247),e P "done" 557 (.ref 252),e P "knit" 568 (.ref 259),e P "tuck" 579 (.ref 266),e P "move" 591 (.ref 273),e P "loops_at" 599 (.ref 280),e P "keep" 605 (.ref 285),e P "new_loop" 615 (.ref 292),e P "__static_attributes__" 619 (.ref 293),e P "__dict__" 621 (.ref 296),e P "__weakref__" 623 (.ref 297),e P "__doc__" 624 .none] 4,#[]⟩)::
(nat_lit 295,{ cls:=.type "type",data:=.cls { name:="Bed",bases:=[.type "object"],mro:=[.ref 295,.type "object"],ns:=294,qualname:="Bed" },slots:=#[none,none,some (.str ("Bed") 502),some (.str ("Bed") 510),some (.builtin "object.__new__"),some (.bool true)] })::
(nat_lit 303,c "told" "told" 629 213 1 300 181 301 .none .none .none 302 632 (.str "/claim/cut.py" 633))::
(nat_lit 304,f "told" "told" (Lw.top 38) m5 303)::
(nat_lit 310,c "worked" "worked" 635 223 4 305 181 306 .none (.ref 307) (.ref 308) 309 647 (.str "/claim/cut.py" 648))::
(nat_lit 311,f "worked" "worked" (Lw.top 39) m5 310)::
(nat_lit 317,c "stitched" "stitched" 650 233 4 312 181 313 .none (.ref 314) (.ref 315) 316 660 (.str "/claim/cut.py" 661))::
(nat_lit 318,f "stitched" "stitched" (Lw.top 40) m5 317)::
(nat_lit 324,c "joined" "joined" 663 244 2 319 181 320 .none (.ref 321) (.ref 322) 323 671 (.str "/claim/cut.py" 672))::
(nat_lit 325,f "joined" "joined" (Lw.top 41) m5 324)::
(nat_lit 331,c "_law_whole" "_law_whole" 676 253 1 326 181 327 .none (.ref 328) (.ref 329) 330 680 (.str "/claim/cut.py" 681))::
(nat_lit 332,f "_law_whole" "_law_whole" (Lw.top 43) m0 331)::
(nat_lit 338,c "_law_cell_at" "_law_cell_at" 683 255 2 333 181 334 .none (.ref 335) (.ref 336) 337 688 (.str "/claim/cut.py" 689))::
(nat_lit 339,f "_law_cell_at" "_law_cell_at" (Lw.top 44) m0 338)::
(nat_lit 345,c "_law_mix" "_law_mix" 691 259 2 340 181 341 .none (.ref 342) (.ref 343) 344 697 (.str "/claim/cut.py" 698))::
(nat_lit 346,f "_law_mix" "_law_mix" (Lw.top 45) m0 345)::
(nat_lit 352,c "_law_taken" "_law_taken" 700 263 1 347 181 348 .none (.ref 349) (.ref 350) 351 704 (.str "/claim/cut.py" 705))::
(nat_lit 353,f "_law_taken" "_law_taken" (Lw.top 46) m0 352)::
(nat_lit 357,c "_law_menu" "_law_menu" 707 269 2 354 181 355 .none .none .none 356 710 (.str "/claim/cut.py" 711))::
(nat_lit 358,f "_law_menu" "_law_menu" (Lw.top 47) m0 357)::
(nat_lit 364,c "_law_stitch" "_law_stitch" 713 284 5 359 181 360 .none (.ref 361) (.ref 362) 363 722 (.str "/claim/cut.py" 723))::
(nat_lit 365,f "_law_stitch" "_law_stitch" (Lw.top 48) m0 364)::
(nat_lit 371,c "_law_row" "_law_row" 725 295 2 366 181 367 .none (.ref 368) (.ref 369) 370 737 (.str "/claim/cut.py" 738))::
(nat_lit 372,f "_law_row" "_law_row" (Lw.top 49) m0 371)::
(nat_lit 378,c "_law_behind" "_law_behind" 740 312 2 373 181 374 .none (.ref 375) (.ref 376) 377 748 (.str "/claim/cut.py" 749))::
(nat_lit 379,f "_law_behind" "_law_behind" (Lw.top 50) m0 378)::
(nat_lit 383,c "_law_pattern" "_law_pattern" 751 324 3 380 181 381 .none .none .none 382 754 (.str "/claim/cut.py" 755))::
(nat_lit 384,f "_law_pattern" "_law_pattern" (Lw.top 51) m0 383)::
(nat_lit 390,c "_law_good" "_law_good" 757 334 1 385 181 386 .none (.ref 387) (.ref 388) 389 762 (.str "/claim/cut.py" 763))::
(nat_lit 391,f "_law_good" "_law_good" (Lw.top 52) m0 390)::
(nat_lit 395,c "_law_loop" "_law_loop" 765 341 1 392 181 393 .none .none .none 394 768 (.str "/claim/cut.py" 769))::
(nat_lit 396,f "_law_loop" "_law_loop" (Lw.top 53) m0 395)::
(nat_lit 402,c "_law_alike_cloth" "_law_alike_cloth" 771 347 2 397 181 398 .none (.ref 399) (.ref 400) 401 777 (.str "/claim/cut.py" 778))::
(nat_lit 403,f "_law_alike_cloth" "_law_alike_cloth" (Lw.top 54) m0 402)::
(nat_lit 409,c "_law_alike_hook" "_law_alike_hook" 780 354 2 404 181 405 .none (.ref 406) (.ref 407) 408 786 (.str "/claim/cut.py" 787))::
(nat_lit 410,f "_law_alike_hook" "_law_alike_hook" (Lw.top 55) m0 409)::
(nat_lit 416,c "_law_does" "_law_does" 789 361 2 411 181 412 .none (.ref 413) (.ref 414) 415 795 (.str "/claim/cut.py" 796))::
(nat_lit 417,f "_law_does" "_law_does" (Lw.top 56) m0 416)::
(nat_lit 423,c "_law_bears" "_law_bears" 798 368 2 418 181 419 .none (.ref 420) (.ref 421) 422 805 (.str "/claim/cut.py" 806))::
(nat_lit 424,f "_law_bears" "_law_bears" (Lw.top 57) m0 423)::
(nat_lit 430,c "law" "law" 808 376 1 425 181 426 .none (.ref 427) (.ref 428) 429 817 (.str "/claim/cut.py" 818))::
(nat_lit 431,f "law" "law" (Lw.top 58) m0 430):: []
def As:List Addr:=[2,3,95,99,100,106,107,113,114,120,121,127,128,134,135,141,142,148,149,153,154,160,161,167,168,174,175,181,182,188,189,195,196,202,203,204,205,218,219,225,226,239,240,246,247,251,252,258,259,265,266,272,273,279,280,284,285,291,292,294,295,303,304,310,311,317,318,324,325,331,332,338,339,345,346,352,353,357,358,364,365,371,372,378,379,383,384,390,391,395,396,402,403,409,410,416,417,423,424,430,431]
theorem hKA:∀ P,As=(Kf P).map (·.1):=fun _=>by kernel_rfl
def Qv:Program:={ PySem.Challenge.pw_loopbed_k15_whole_the_bed_knits_the_patt with main:={ PySem.Challenge.pw_loopbed_k15_whole_the_bed_knits_the_patt.main with body:=[0,2,3,4,5,6,7,9,10,11,13,14,15,16,17,18,19,20,22,23,24,25,26,27,28,29,30,32,33,34,35,36,38,39,40,41,43,44,45,46,47,48,49,50,51,52,53,54,55,56,57,58].map Lw.top } }
def loose:List Str:=[Str.ofString "TAKES",Str.ofString "WAYS",Str.ofString "ACROSS"]
def ru (tb:String->Option Builtin) (p:Program) (w:World) (m:Nat) (a:Option Value) (n:Nat):SharedT->Thread->Option SharedT:=
 n.rec (fun _ _=>none) fun _ go s t=>cond (through t) (some s) (cond (stepOk m a t) ((stepT (denote tb) p w s t).bind fun r=>go r.1 r.2) none)
theorem IL {tb:String->Option Builtin} {p:Program} {w:World} {m:Nat} {a:Option Value} (n:Nat):∀ {s r:SharedT} {t:Thread},ru tb p w m a n s t=some r->topRun tb p w m a n s.abs t=some r.abs:=by
 induction n with
 | zero=>intro s r t h;exact nomatch h
 | succ n ih=>
  intro s r t h
  have h:cond (through t) (some s) (cond (stepOk m a t) ((stepT (denote tb) p w s t).bind fun r=>ru tb p w m a n r.1 r.2) none)=some r:=h
  cases hT:through t with
  | true=>rw [hT] at h;simp only [topRun,hT];exact congrArg (Option.map SharedT.abs) h
  | false=>
   cases hO:stepOk m a t with
   | false=>rw [hT,hO] at h;exact nomatch h
   | true=>
    rw [hT,hO] at h
    obtain ⟨⟨x,y⟩,hx,hy⟩:=Option.bind_eq_some_iff.mp h
    simp only [topRun,hT,hO,stepT_spec hx]
    exact ih hy
def bt (P:Params):BT:=(boot_heap P).objs.toList.reverse.rec (motive:=fun _=>BT) .nil (fun o l t=>t.ins l.length o)
theorem DJ (P:Params):absHeap (bt P) 11 (boot_heap P).life=boot_heap P:=by kernel_rfl
theorem sz (P:Params):((boot_heap P).isNs mainGlobals&&(Array.mk []:Array GenState).size == 0,(boot_heap P).objs.size,(boot_heap P).nsMap mainGlobals "__annotations__")=(true,11,some (Value.ref 6)):=by kernel_rfl
def at0 (w:World) (os:OsState):SharedT:=⟨bt w.params,11,(boot_heap w.params).life,Array.mk [],boot_drawn,boot_toks,os⟩
def aO (p:Program) (N:Nat) (w:World) (os:OsState):Option SharedT:=ru treeTable p w 11 (some (Value.ref 6)) N (at0 w os) (topStub p)
def pe (p:Program) (w:World) (s:Shared):Bool:=staticsOk (importedModules p.main.body) (boot_heap w.params) s.heap&&namesBound p s.heap&&gensDone s&&laidKept (boot_heap w.params) s.heap
theorem EX {p q:Program} {loose:List Str} {Xt:Shared->Bool} {α:Type} {Yf:Shared->α} {Ya:World->α} {N:Nat} (e:opening p=plainProg p.main.scope.names) (hN:Nat.ble 600 N=true) (f:∀ s,fenceModules? p s=some s)
  (h1:∀ w os,(aO p N w os).map (fun s=>(pe p w s.abs,openSeen q loose (importedModules p.main.body) Xt true s.abs))=some (true,openGood q loose))
  (h2:∀ w os,(aO p N w os).map (fun s=>Yf s.abs)=some (Ya w)):LeftO p q loose Xt Yf Ya N:=fun w=>by
 obtain ⟨⟨H,g,d,k,os⟩,e0,e1⟩:=Option.map_eq_some_iff.mp (boot_open e hN f w)
 simp only [Prod.mk.injEq] at e1
 obtain ⟨rfl,rfl,rfl,rfl⟩:=e1
 obtain ⟨s,hs,l⟩:=Option.map_eq_some_iff.mp (h1 w os)
 obtain ⟨_,hs',l3⟩:=Option.map_eq_some_iff.mp (h2 w os)
 cases hs.symm.trans hs'
 have r:=IL N hs
 have a0:(at0 w os).abs=⟨boot_heap w.params,Array.mk [],boot_drawn,boot_toks,os⟩:=congrArg (Shared.mk · _ _ _ _) (DJ w.params)
 rw [a0] at r
 have Z:=sz w.params
 have z1:=congrArg Prod.fst Z
 have z2:=congrArg (·.2.1) Z
 have z3:=congrArg (·.2.2) Z
 have l1:pe p w s.abs=true:=congrArg Prod.fst l
 have t:topFrom treeTable p w N ⟨boot_heap w.params,Array.mk [],boot_drawn,boot_toks,os⟩=some s.abs:=by
  simp only at z1 z2 z3
  simp only [topFrom,z1,z2,z3,r,Option.bind_some]
  exact (congrArg (fun b=>match b with | true=>some s.abs | false=>none) l1 :)
 simp only [openEnds,e0,Option.bind_some,t,Option.map_some,l3]
 exact congrArg (fun x=>some (x.2,Ya w)) l
abbrev p:Program:=PySem.Challenge.rw_loopbed_k15_whole_the_bed_knits_the_patt.prog
def Xt (s:Shared):Bool:=xlAt Qv [] s&&recOk (RowW.records (OpenRow.toRowW PySem.Challenge.rw_loopbed_k15_whole_the_bed_knits_the_patt.row)) s
abbrev K:Hook:=kHook Kf As hKA
def S1 (w:World) (s:SharedT):=(pe p w s.abs,openSeen Qv loose (importedModules p.main.body) Xt true s.abs)
set_option maxHeartbeats 0 in
theorem r1f (w:World) (os:OsState):(aO p 6778 (w.withFollow "special-get-raises" false) os).map (S1 (w.withFollow "special-get-raises" false))=some (true,openGood Qv loose):=by kernel_rfl
set_option maxHeartbeats 0 in
theorem r1t (w:World) (os:OsState):(aO p 6778 (w.withFollow "special-get-raises" true) os).map (S1 (w.withFollow "special-get-raises" true))=some (true,openGood Qv loose):=by kernel_rfl
set_option maxHeartbeats 0 in
theorem r2f (w:World) (os:OsState):(aO p 6778 (w.withFollow "special-get-raises" false) os).map (fun s=>Hook.obs K s.abs)=some (Hook.val K (w.withFollow "special-get-raises" false)):=by kernel_rfl
set_option maxHeartbeats 0 in
theorem r2t (w:World) (os:OsState):(aO p 6778 (w.withFollow "special-get-raises" true) os).map (fun s=>Hook.obs K s.abs)=some (Hook.val K (w.withFollow "special-get-raises" true)):=by kernel_rfl
theorem hl:LeftO p Qv loose Xt (Hook.obs K) (Hook.val K) 6778:=
 EX (by kernel_rfl) (by decide) (fun s=>by kernel_rfl)
  (fun w os=>byRow2 "special-get-raises" (P:=fun w=>(aO p 6778 w os).map (S1 w)=_) (fun w=>r1f w os) (fun w=>r1t w os) w)
  (fun w os=>byRow2 "special-get-raises" (P:=fun w=>(aO p 6778 w os).map (fun s=>Hook.obs K s.abs)=some (Hook.val K w)) (fun w=>r2f w os) (fun w=>r2t w os) w)
end Hd
namespace L2
open PySem PySem.Spec PyProof.Rows
abbrev Key:=Sum Int Str
def kE:Key->Value->Bool
 | .inl k,v=>Value.isInt k v
 | .inr x,v=>Value.isStrOf x v
def GO (w:World):Key->Int
 | .inl k=>hashInt k
 | .inr x=>hashStr w x
theorem gU:∀ {k:Key} {v:Value},kE k v=true->(∃ i t,k=Sum.inl i/\v=Value.int i t)\/(∃ x t,k=Sum.inr x/\v=Value.str x t)
 | .inl i,v,h=>by
  obtain ⟨t,e⟩:=Value.isInt_shape (k:=i) (v:=v) h
  exact .inl ⟨i,t,rfl,e⟩
 | .inr x,v,h=>by
  obtain ⟨t,e⟩:=Value.isStrOf_shape (x:=x) (v:=v) h
  exact .inr ⟨x,t,rfl,e⟩
theorem Jk (i:Int) (t:Tok):kE (.inl i) (.int i t)=true:=by simp [kE,Value.isInt]
theorem GY (x:Str) (t:Tok):kE (.inr x) (.str x t)=true:=by simp [kE,Value.isStrOf]
theorem BO (a b:Int):decide ((Sum.inl a:Key)=Sum.inl b)=(a == b):=by
 by_cases e:a=b
 ·subst e;simp
 ·have h:¬ (Sum.inl a:Key)=Sum.inl b:=fun q=>e (Sum.inl.inj q)
  rw [decide_eq_false h]
  exact (beq_eq_false_iff_ne.mpr e).symm
theorem Bm (a b:Str):decide ((Sum.inr a:Key)=Sum.inr b)=decide (a=b):=by
 by_cases e:a=b
 ·subst e;simp
 ·have h:¬ (Sum.inr a:Key)=Sum.inr b:=fun q=>e (Sum.inr.inj q)
  rw [decide_eq_false h,decide_eq_false e]
theorem GN (a:Int) (b:Str):decide ((Sum.inl a:Key)=Sum.inr b)=false:=decide_eq_false (fun q=>nomatch q)
theorem Gh (a:Str) (b:Int):decide ((Sum.inr a:Key)=Sum.inl b)=false:=decide_eq_false (fun q=>nomatch q)
def dN (prog:Program) (w:World):PySem.KeyKind prog w Key where
 is:=kE
 hash:=GO w
 inj:=fun v a b ha hb=>by
  rcases gU ha with ⟨i,t,rfl,rfl⟩ | ⟨x,t,rfl,rfl⟩
  ·rcases gU hb with ⟨j,u,rfl,e⟩ | ⟨y,u,rfl,e⟩
   ·injection e with e1 _;rw [e1]
   ·exact nomatch e
  ·rcases gU hb with ⟨j,u,rfl,e⟩ | ⟨y,u,rfl,e⟩
   ·exact nomatch e
   ·injection e with e1 _;rw [e1]
 byValue:=fun k v h=>by
  rcases gU h with ⟨i,t,rfl,rfl⟩ | ⟨x,t,rfl,rfl⟩ <;> rfl
 pyHash:=fun hv h=>by
  rcases gU hv with ⟨i,t,rfl,rfl⟩ | ⟨x,t,rfl,rfl⟩
  ·exact wpAny_pyHash_int h
  ·exact wpAny_pyHash_str h
 eqBool:=fun hu hv h=>by
  rcases gU hu with ⟨i,t,rfl,rfl⟩ | ⟨x,t,rfl,rfl⟩
  ·rcases gU hv with ⟨j,u,rfl,rfl⟩ | ⟨y,u,rfl,rfl⟩
   ·rw [BO] at h;exact wpAny_eqBool_int h
   ·rw [GN] at h;exact SeqAt.EqAt.int_str i t y u _ _ _ _ h
  ·rcases gU hv with ⟨j,u,rfl,rfl⟩ | ⟨y,u,rfl,rfl⟩
   ·rw [Gh] at h;exact SeqAt.EqAt.str_int x t j u _ _ _ _ h
   ·rw [Bm] at h;exact wpAny_eqBool_str h
 «strs»:=fun k x t v h=>by
  rcases gU h with ⟨i,u,rfl,e⟩ | ⟨y,u,rfl,e⟩
  ·exact nomatch e
  ·injection e with e1 _
   subst e1
   cases v <;> rfl
theorem Ar (prog:Program) (w:World) (i:Int) (t:Tok):(dN prog w).is (.inl i) (.int i t)=true:=Jk i t
theorem IU (prog:Program) (w:World) (x:Str) (t:Tok):(dN prog w).is (.inr x) (.str x t)=true:=GY x t
end L2
namespace L2
open PySem PySem.Spec PyProof.Rows
inductive V where
 | non | bl (b:Bool) | int (i:Int) | str (x:Str) | byt (b:Array UInt8) | flt (b:UInt64) | ref (a:Addr) | ty (n:String)
 deriving DecidableEq
def RelV:V->Value->Prop
 | .non,u=>u=Value.none
 | .bl b,u=>u=Value.bool b
 | .int i,u=>∃ t,u=Value.int i t
 | .str x,u=>∃ t,u=Value.str x t
 | .byt b,u=>∃ t,u=Value.bytes b t
 | .flt b,u=>∃ t,u=Value.float b t
 | .ref a,u=>u=Value.ref a
 | .ty n,u=>u=Value.type n
abbrev Vals:List V->List Value->Prop:=Paired RelV
theorem Vals.length {xs:List V} {us:List Value} (r:Vals xs us):xs.length=us.length:=Paired.length r
theorem Vals.get:∀ {xs:List V} {us:List Value} {i:Nat} {x:V},Vals xs us->xs[i]?=some x->∃ u,us[i]?=some u/\RelV x u
 | _,_,_,_,.nil,e=>by simp at e
 | _,_,0,_,.cons r _,e=>by simp at e;subst e;exact ⟨_,rfl,r⟩
 | _,_,i + 1,x,.cons _ t,e=>by
  obtain ⟨u,h1,h2⟩:=Vals.get (i:=i) (x:=x) t (by simpa using e)
  exact ⟨u,by simpa using h1,h2⟩
theorem Vals.set {x:V} {u:Value} (r:RelV x u):∀ {xs:List V} {us:List Value} (i:Nat),Vals xs us->Vals (xs.set i x) (us.set i u)
 | _,_,_,.nil=>.nil
 | _,_,0,.cons _ t=>.cons r t
 | _,_,i + 1,.cons q t=>.cons q (Vals.set r i t)
theorem Vals.append:∀ {xs ys:List V} {us ws:List Value},Vals xs us->Vals ys ws->Vals (xs++ys) (us++ws)
 | _,_,_,_,.nil,s=>s
 | _,_,_,_,.cons r t,s=>.cons r (Vals.append t s)
theorem Vals.take:∀ {xs:List V} {us:List Value} (n:Nat),Vals xs us->Vals (xs.take n) (us.take n)
 | _,_,0,_=>.nil
 | _,_,_ + 1,.nil=>.nil
 | _,_,n + 1,.cons r t=>.cons r (Vals.take n t)
theorem Vals.drop:∀ {xs:List V} {us:List Value} (n:Nat),Vals xs us->Vals (xs.drop n) (us.drop n)
 | _,_,0,r=>r
 | _,_,_ + 1,.nil=>.nil
 | _,_,n + 1,.cons _ t=>Vals.drop n t
def dG:Option V->Option Value->Prop
 | some v,some u=>RelV v u
 | none,none=>True
 | _,_=>False
def KV {κ:Type}:List (κ×V)->List (κ×Value)->Prop:=Paired fun (p:κ×V) (q:κ×Value)=>p.1=q.1/\RelV p.2 q.2
def kV:Key->V
 | .inl i=>.int i
 | .inr x=>.str x
inductive HO where
 | lst (xs:List V)
 | tup (xs:List V)
 | dK (kvs:List (Key×V)) | dT (kvs:List (List Key×V))
 | set (S:Int->Bool) (n:Nat)
 | ins (C dx:Addr) (fs:List (Str×V))
 | own (x:Addr)
 | xd (fs:List (Str×V))
 | met (f x:Addr)
 | rng (lo hi:Int)
 | frz (o:Obj) (u:HO)
 | tbl (ps:Array Value)
 | ext (φ:Heap->Prop)
abbrev Hp:=Addr->Option HO
def upd (H:Hp) (a:Addr) (o:HO):Hp:=fun b=>if b=a then some o else H b
theorem bw {H:Hp} {a:Addr} {o:HO}:upd H a o a=some o:=by unfold upd;rw [if_pos rfl]
theorem aA {H:Hp} {a b:Addr} {o:HO} (h:b≠a):upd H a o b=H b:=by unfold upd;rw [if_neg h]
theorem II {H:Hp} {a b:Addr} {o u:HO} (h:H a=some o) (h':H b=some u) (d:o≠u):a≠b:=by
 intro e;subst e;rw [h] at h';exact d (Option.some.inj h')
theorem cH {H:Hp} {a b:Addr} {o:HO} (h:H a=some o) (h':H b=none):a≠b:=by
 intro e;subst e;rw [h] at h';cases h'
section
variable (P:Program) (w:World)
def cb (H:Hp) (h:Heap) (a:Addr):HO->Prop
 | .lst xs=>xs.length<=sizeLine/\∃ (its:List Value) (n:Nat),Vals xs its/\h.get? a=some { cls:=.type "list",data:=.seq its.toArray n }
 | .tup xs=>xs.length<=sizeLine/\∃ its:List Value,Vals xs its/\IsTup h a its.toArray
 | .dK kvs=>kvs.length<=sizeLine/\(a == sysModules)=false/\∃ vs,KV kvs vs/\h.DictOf (dN P w) a vs
 | .dT kvs=>kvs.length<=sizeLine/\(a == sysModules)=false/\∃ xs:List (List Key×Addr×Value),
   Paired (fun (p:List Key×V) (q:List Key×Addr×Value)=>p.1=q.1/\H q.2.1=some (.tup (p.1.map kV))/\RelV p.2 q.2.2) kvs xs /\
   ∃ o es ep,h.get? a=some o/\o.ExactDict/\o.data=.dict es ep/\es.toList=xs.map (entryOfKey (tupleKind (dN P w)))/\(xs.map (·.1)).Nodup
 | .set S n=>h.SetOf (intKind P w) a S n
 | .ins C dx fs=>H dx=some (.own a)/\fs.length<=1000/\dx≠a/\h.get? a=some (PySem.W.instObj C dx) /\
   ∃ mA,h.Ns1 dx mA/\(∀ f,dG (fs.lookup f) (mA f))/\PySem.Within mA (fs.map (·.1))
 | .own _=>∃ o,h.get? a=some o
 | .xd fs=>∃ mA,h.Ns1 a mA/\∀ f,dG (fs.lookup f) (mA f)
 | .rng lo hi=>∃ t u v,h.get? a=some { cls:=.type "range",data:=.fields #[.int lo t,.int hi u,.int 1 v] }
 | .frz o u=>h.get? a=some o/\cb H h a u
 | .tbl ps=>h.get? a=some { cls:=.none,data:=.fields ps }
 | .met f x=>h.get? a=some (PySem.W.methodObj (.ref f) (.ref x))
 | .ext φ=>φ h/\(∃ o,h.get? a=some o)/\∀ h1 h2:Heap,φ h1->(∀ o,h1.get? a=some o->h2.get? a=some o)->φ h2
def HOk (H:Hp) (h:Heap):Prop:=∀ a o,H a=some o->cb P w H h a o
end
section
variable {P:Program} {w:World} {H H':Hp} {h h':Heap} {a:Addr} {o:HO}
theorem cb.lt (x:cb P w H h a o):a < h.objs.size:=by
 cases o with
 | lst xs=>obtain ⟨_,_,_,_,e⟩:=x;exact Heap.lt_size e
 | tup xs=>obtain ⟨_,_,_,p⟩:=x;exact p.lt
 | dK kvs=>obtain ⟨_,_,_,_,o,_,_,e,_⟩:=x;exact Heap.lt_size e
 | dT kvs=>obtain ⟨_,_,_,_,o,_,_,e,_⟩:=x;exact Heap.lt_size e
 | set S n=>obtain ⟨o,_,_,_,e,_⟩:=x;exact Heap.lt_size e
 | ins C dx fs=>obtain ⟨_,_,_,e,_⟩:=x;exact Heap.lt_size e
 | own y=>obtain ⟨_,e⟩:=x;exact Heap.lt_size e
 | xd fs=>obtain ⟨_,⟨_,_,_,e,_⟩,_⟩:=x;exact Heap.lt_size e
 | rng lo hi=>obtain ⟨_,_,_,e⟩:=x;exact Heap.lt_size e
 | frz ob u=>obtain ⟨e,_⟩:=x;exact Heap.lt_size e
 | tbl ps=>exact Heap.lt_size (show h.get? a=some _ from x)
 | met f y=>exact Heap.lt_size (show h.get? a=some _ from x)
 | ext φ=>obtain ⟨_,⟨_,e⟩,_⟩:=x;exact Heap.lt_size e
theorem Paired.mapP {α β:Type} {F G:α->β->Prop}:∀ {l₁:List α} {l₂:List β},Paired F l₁ l₂->(∀ a b,F a b->G a b)->Paired G l₁ l₂
 | _,_,.nil,_=>.nil
 | _,_,.cons r t,f=>.cons (f _ _ r) (Paired.mapP t f)
theorem cb.stay (x:cb P w H h a o) (k:∀ b u,(b=a\/H b=some (.own a))->h.get? b=some u->h'.get? b=some u)
  (ho:∀ b,H b=some (.own a)->H' b=some (.own a)) (ht:∀ b xs,H b=some (.tup xs)->H' b=some (.tup xs)):cb P w H' h' a o:=by
 induction o with
 | lst xs=>obtain ⟨z,its,n,r,e⟩:=x;exact ⟨z,its,n,r,k _ _ (.inl rfl) e⟩
 | tup xs=>obtain ⟨z,its,r,ob,e,c⟩:=x;exact ⟨z,its,r,ob,k _ _ (.inl rfl) e,c⟩
 | dK kvs=>obtain ⟨z,y,vs,r,ob,es,ep,e,c⟩:=x;exact ⟨z,y,vs,r,ob,es,ep,k _ _ (.inl rfl) e,c⟩
 | dT kvs=>
  obtain ⟨z,y,xs,r,ob,es,ep,e,c⟩:=x
  exact ⟨z,y,xs,Paired.mapP r fun p q z=>⟨z.1,ht _ _ z.2.1,z.2.2⟩,ob,es,ep,k _ _ (.inl rfl) e,c⟩
 | set S n=>obtain ⟨ob,es,ep,t,e,c⟩:=x;exact ⟨ob,es,ep,t,k _ _ (.inl rfl) e,c⟩
 | ins C dx fs=>
  obtain ⟨d,z,ne,e,mA,⟨od,es,ep,e2,c⟩,r⟩:=x
  exact ⟨ho _ d,z,ne,k _ _ (.inl rfl) e,mA,⟨od,es,ep,k _ _ (.inr d) e2,c⟩,r⟩
 | own y=>obtain ⟨ob,e⟩:=x;exact ⟨ob,k _ _ (.inl rfl) e⟩
 | xd fs=>obtain ⟨mA,⟨od,es,ep,e,c⟩,r⟩:=x;exact ⟨mA,⟨od,es,ep,k _ _ (.inl rfl) e,c⟩,r⟩
 | rng lo hi=>obtain ⟨t,u,v,e⟩:=x;exact ⟨t,u,v,k _ _ (.inl rfl) e⟩
 | frz ob u ih=>obtain ⟨e,q⟩:=x;exact ⟨k _ _ (.inl rfl) e,ih q⟩
 | tbl ps=>
  have e:h.get? a=some { cls:=.none,data:=.fields ps }:=x
  show h'.get? a=some { cls:=.none,data:=.fields ps }
  exact k a _ (.inl rfl) e
 | met f y=>
  have e:h.get? a=some (PySem.W.methodObj (.ref f) (.ref y)):=x
  show h'.get? a=some (PySem.W.methodObj (.ref f) (.ref y))
  exact k a _ (.inl rfl) e
 | ext φ=>obtain ⟨p,⟨o,e⟩,st⟩:=x;exact ⟨st _ _ p fun o q=>k _ _ (.inl rfl) q,⟨o,k _ _ (.inl rfl) e⟩,st⟩
theorem HOk.lt (x:HOk P w H h) (e:H a=some o):a < h.objs.size:=(x a o e).lt
theorem HOk.fresh (x:HOk P w H h) (e:h.objs.size<=a):H a=none:=by
 cases q:H a with
 | none=>rfl
 | some u=>exact absurd (Nat.lt_of_lt_of_le (x.lt q) e) (Nat.lt_irrefl _)
theorem HOk.kept (x:HOk P w H h) (k:∀ b u,h.get? b=some u->h'.get? b=some u):HOk P w H h':=fun a o e=>
 (x a o e).stay (fun b u _ q=>k b u q) (fun _ q=>q) fun _ _ q=>q
theorem HOk.laid (x:HOk P w H h) (k:∀ b u,h.get? b=some u->h'.get? b=some u) (hp:h.objs.size<=a) (new:cb P w (upd H a o) h' a o):HOk P w (upd H a o) h':=fun b u e=>by
 have hn:=x.fresh hp
 by_cases hb:b=a
 ·subst hb;rw [bw] at e;cases e;exact new
 ·rw [aA hb] at e
  exact (x b u e).stay (fun c v _ q=>k c v q) (fun c q=>by rw [aA (cH q hn)];exact q) fun c xs q=>by rw [aA (cH q hn)];exact q
end
def Rd (H:Hp) (a:Addr) (u:HO):Prop:=H a=some u\/∃ o,H a=some (.frz o u)
theorem Rd.ok {P:Program} {w:World} {H:Hp} {h:Heap} {a:Addr} {u:HO} (r:Rd H a u) (x:HOk P w H h):cb P w H h a u:=by
 rcases r with r | ⟨o,r⟩
 ·exact x a u r
 ·obtain ⟨_,q⟩:=x a _ r
  exact q
def Mut:Option HO->Prop
 | some (.lst _)=>True
 | some (.dK _)=>True
 | some (.dT _)=>True
 | some (.set _ _)=>True
 | some (.ins _ _ _)=>True
 | some (.ext _)=>True
 | _=>False
section
variable {P:Program} {w:World} {H:Hp} {h h':Heap} {x e:Addr} {o':HO}
theorem HOk.write (ok:HOk P w H h) (mu:Mut (H x)) (he:e=x\/H e=some (.own x)) (k:∀ b u,b≠e->h.get? b=some u->h'.get? b=some u) (heo:∃ u,h'.get? e=some u)
  (new:cb P w (upd H x o') h' x o'):HOk P w (upd H x o') h':=fun b u q=>by
 have nown:∀ c y,H c=some (.own y)->c≠x:=fun c y r z=>by subst z;rw [r] at mu;exact mu
 have ntup:∀ c xs,H c=some (.tup xs)->c≠x:=fun c xs r z=>by subst z;rw [r] at mu;exact mu
 by_cases hb:b=x
 ·subst hb;rw [bw] at q;cases q;exact new
 ·rw [aA hb] at q
  by_cases hbe:b=e
  ·have q':H b=some (.own x):=by
    rcases he with z | z
    ·exact absurd (hbe.trans z) hb
    ·rw [hbe];exact z
   rw [q] at q';cases q'
   obtain ⟨v,hv⟩:=heo
   exact ⟨v,by rw [hbe];exact hv⟩
  ·refine (ok b u q).stay (fun c v hc r=>k c v ?_ r) (fun c r=>by rw [aA (nown c b r)];exact r) fun c xs r=>by rw [aA (ntup c xs r)];exact r
   rcases hc with rfl | hc
   ·exact hbe
   ·rintro rfl
    rcases he with z | z
    ·exact nown c b hc z
    ·rw [hc] at z;cases z;exact hb rfl
end
structure Un (fs ex:List Addr) (H H':Hp) (h h':Heap):Prop where
 keep:∀ b o,h.get? b=some o->H b=none->b∉fs->b∉ex->h'.get? b=some o
 slot:∀ b o,h.get? b=some o->H b=none->b∈fs->b∉ex->∃ sl,h'.get? b=some { o with slots:=sl }
 free:∀ b o,h.get? b=some o->H b=none->b∉ex->H' b=none
 there:∀ b o,h.get? b=some o->b∉ex->∃ o',h'.get? b=some o'
 tups:∀ b xs,H b=some (.tup xs)->H' b=some (.tup xs)
 frzs:∀ b o u,H b=some (.frz o u)->H' b=some (.frz o u)
 tbls:∀ b ps,H b=some (.tbl ps)->∃ more,H' b=some (.tbl (ps++more))
section
variable {fs fs' ex ex':List Addr} {H H1 H2:Hp} {h h1 h2 h':Heap} {a x e:Addr} {o:HO}
theorem Un.any (u:Un fs ex H H1 h h1) {b:Addr} {ob:Obj} (q:h.get? b=some ob) (n:H b=none) (hx:b∉ex):∃ sl,h1.get? b=some { ob with slots:=sl }:=by
 by_cases hb:b∈fs
 ·exact u.slot b ob q n hb hx
 ·exact ⟨ob.slots,u.keep b ob q n hb hx⟩
theorem Un.trans (a:Un fs ex H H1 h h1) (b:Un fs ex H1 H2 h1 h2):Un fs ex H H2 h h2 where
 keep:=fun c ob q n hc hx=>b.keep c ob (a.keep c ob q n hc hx) (a.free c ob q n hx) hc hx
 slot:=fun c ob q n hc hx=>by
  obtain ⟨sl,e1⟩:=a.slot c ob q n hc hx
  obtain ⟨sl',e2⟩:=b.slot c _ e1 (a.free c ob q n hx) hc hx
  exact ⟨sl',e2⟩
 free:=fun c ob q n hx=>by
  obtain ⟨o',e1⟩:=a.there c ob q hx
  exact b.free c o' e1 (a.free c ob q n hx) hx
 there:=fun c ob q hx=>by
  obtain ⟨o',e1⟩:=a.there c ob q hx
  exact b.there c o' e1 hx
 tups:=fun c xs q=>b.tups c xs (a.tups c xs q)
 frzs:=fun c ob xs q=>b.frzs c ob xs (a.frzs c ob xs q)
 tbls:=fun c ps q=>by
  obtain ⟨m1,e1⟩:=a.tbls c ps q
  obtain ⟨m2,e2⟩:=b.tbls c _ e1
  exact ⟨m1++m2,by rw [e2,Array.append_assoc]⟩
theorem Un.kept (k:∀ b u,h.get? b=some u->h'.get? b=some u):Un fs ex H H h h':=
 ⟨fun b ob q _ _ _=>k b ob q,fun b ob q _ _ _=>⟨ob.slots,k b ob q⟩,fun _ _ _ n _=>n,fun b ob q _=>⟨ob,k b ob q⟩,fun _ _ q=>q,fun _ _ _ q=>q,fun _ ps q=>⟨#[],by rw [q];simp⟩⟩
theorem Un.refl:Un fs ex H H h h:=Un.kept fun _ _ q=>q
theorem Un.laid (k:∀ b u,h.get? b=some u->h'.get? b=some u) (hp:h.objs.size<=a) (hn:H a=none):Un fs ex H (upd H a o) h h' where
 keep:=fun b u q _ _ _=>k b u q
 slot:=fun b u q _ _ _=>⟨u.slots,k b u q⟩
 free:=fun b u q n _=>by rw [aA (Nat.ne_of_lt (Nat.lt_of_lt_of_le (Heap.lt_size q) hp))];exact n
 there:=fun b u q _=>⟨u,k b u q⟩
 tups:=fun b xs q=>by rw [aA (cH q hn)];exact q
 frzs:=fun b u xs q=>by rw [aA (cH q hn)];exact q
 tbls:=fun b ps q=>⟨#[],by rw [aA (cH q hn),q];simp⟩
theorem Un.write (mu:Mut (H x)) (he:e=x\/H e=some (.own x)) (k:∀ b u,b≠e->h.get? b=some u->h'.get? b=some u) (heo:∃ u,h'.get? e=some u):Un fs ex H (upd H x o) h h':=by
 have hx:∀ b,H b=none->b≠x:=fun b n z=>by subst z;rw [n] at mu;exact mu
 have hb:∀ b,H b=none->b≠e:=fun b n z=>by
  subst z
  rcases he with r | r
  ·exact hx b n r
  ·rw [n] at r;cases r
 have hm:∀ b u,H b=some u->¬ Mut (some u)->b≠x:=fun b u q nm z=>by subst z;rw [q] at mu;exact nm mu
 refine ⟨fun b u q n _ _=>k b u (hb b n) q,fun b u q n _ _=>⟨u.slots,k b u (hb b n) q⟩,fun b u q n _=>by rw [aA (hx b n)];exact n,fun b u q _=>?_,
  fun b xs q=>by rw [aA (hm b _ q fun z=>z)];exact q,fun b u xs q=>by rw [aA (hm b _ q fun z=>z)];exact q,fun b ps q=>⟨#[],by rw [aA (hm b _ q fun z=>z),q];simp⟩⟩
 by_cases hbe:b=e
 ·subst hbe;exact heo
 ·exact ⟨u,k b u hbe q⟩
end
def trk (h:Heap) (H:Hp):List Addr:=(List.range h.objs.size).filter fun a=>(H a).isSome
def gL (h:Heap) (H:Hp):Heap:=PySem.W.hideAll h (trk h H)
theorem Di (h:Heap) (H:Hp):(gL h H).objs.size=h.objs.size:=PySem.W.hideAll_size _ _
theorem JE {h:Heap} {H:Hp} {b:Addr} {o:Obj} (e:h.get? b=some o) (n:H b=none):(gL h H).get? b=some o:=
 PySem.W.hideAll_get _ e fun hm=>by
  have q:(H b).isSome=true:=(List.mem_filter.mp hm).2
  rw [n] at q;simp at q
theorem CS {h:Heap} {H:Hp} {b:Addr} {o:Obj} (e:(gL h H).get? b=some o):h.get? b=some o/\H b=none:=by
 have e':h.get? b=some o:=PySem.W.of_hideAll (trk h H) e
 refine ⟨e',?_⟩
 cases q:H b with
 | none=>rfl
 | some x=>
  have hm:b∈trk h H:=List.mem_filter.mpr ⟨List.mem_range.mpr (Heap.lt_size e'),by simp [q]⟩
  have z:(gL h H).get? b=none:=PySem.W.hideAll_none (trk h H) hm
  rw [z] at e;cases e
def FN (g h:Heap) (L:Addr):List (Addr×Obj):=(List.range h.objs.size).filterMap fun a=>if a=L\/(g.get? a).isSome=true then none else (h.get? a).map fun o=>(a,o)
def rest (g h:Heap) (L d:Addr):List (Addr×Obj):=(FN g h L).filter fun p=>decide (p.1≠d)
end L2
namespace L2
open PySem PySem.Spec PyProof.Rows
structure Mod (K:PySem.W.Frag) (mg:Str->Option Value) (base:Heap):Prop where
 kin:K.In base
 glob:base.Ns mainGlobals mg
 blt:∃ mb,base.Ns builtinsNs mb/\∀ x:Str,x≠"__name__"->mb x=bootBuiltins x
 nolimit:base.NoLimit
structure Cx where
 prog:Program
 w:World
 K:PySem.W.Frag
 mg:Str->Option Value
 base:Heap
 A:Around
 N:List Str
 s₀:Shared
 H₀:Hp
 env:Env
 outer:List Env
 stack:List Env
 ex:List Addr
 fn:Str->Bool
 calm:Bool
 pn:List (Addr×Obj)
 xe:Value->Shared->Prop
def frs (l:List Env):List Addr:=l.filterMap (·.frame)
abbrev Cx.fs (X:Cx):List Addr:=frs X.outer
def Vis (sc:Scope) (x:Str):Prop:=sc.names.lookup x=some .local\/sc.names.lookup x=some .cell\/sc.names.lookup x=some .free
def Loc (sc:Scope) (x:Str):Prop:=sc.names.lookup x=some .local\/sc.names.lookup x=some .cell
def Look (env:Env) (h:Heap) (m:Str->Option Value) (x:Str) (u:Value):Prop:=
 (env.kindOf x=some .local/\m x=some u)\/((env.kindOf x=some .cell\/env.kindOf x=some .free)/\∃ c,env.cells.lookup x=some c/\h.IsCell c (some u))
structure Cx.Ok (X:Cx):Prop where
 mod:Mod X.K X.mg X.base
 kind:X.env.scope.kind=.function
 glob:X.env.globals=mainGlobals
 blt:X.env.builtins=builtinsNs
 above:X.s₀.heap.objs.size<=X.env.locals
 inj:∀ x y c,X.env.cells.lookup x=some c->X.env.cells.lookup y=some c->x=y
 has:∀ x,(X.env.kindOf x=some .cell\/X.env.kindOf x=some .free)->∃ c,X.env.cells.lookup x=some c
 cab:∀ x c,X.fn x=true->X.env.cells.lookup x=some c->X.s₀.heap.objs.size<=c
 hd:X.calm=true->X.A.handled=none
 frames:X.A.frames=some X.stack
 stk:X.stack=X.outer\/(X.stack=X.env :: X.outer/\X.env.frame=some X.env.locals)
 exf:∀ b∈X.ex,b≠X.env.locals/\∀ x c,X.env.cells.lookup x=some c->c≠b
 bs:∀ b o,X.base.get? b=some o->X.s₀.heap.get? b=some o/\X.H₀ b=none
 bsz:X.base.objs.size<=X.s₀.heap.objs.size
 noex:∀ b o,X.base.get? b=some o->b∉X.ex
 exfs:∀ b∈X.ex,b∉X.fs
 funs:X.s₀.heap.FunFrames X.base X.outer
 frf:∀ b∈X.fs,X.H₀ b=none
structure Inv (X:Cx) (pins:List (Addr×Obj)) (σ:List (Option V)) (H:Hp) (s:Shared):Prop where
 ok:X.Ok
 os:s.os=X.s₀.os
 bare:AllBare s.gens
 base:Un X.fs X.ex X.H₀ H X.s₀.heap s.heap
 loc:∃ m,s.heap.Ns X.env.locals m/\∀ (i:Nat) (x:Str) (v:V),X.N[i]?=some x->σ[i]?=some (some v)->Vis X.env.scope x->∃ u,RelV v u/\Look X.env s.heap m x u
 cell:∀ x c,X.env.cells.lookup x=some c->∃ v,s.heap.IsCell c v
 free:H X.env.locals=none
 freeC:∀ x c,X.env.cells.lookup x=some c->H c=none
 pin:∀ p∈X.pn++pins,s.heap.get? p.1=some p.2/\H p.1=none/\p.1≠X.env.locals/\p.1∉X.fs/\∀ v,p.2.data≠.cell v
 hok:HOk X.prog X.w H s.heap
 len:σ.length=X.N.length
section
variable {X:Cx} {pins:List (Addr×Obj)} {σ:List (Option V)} {H H':Hp} {s:Shared} {h':Heap}
theorem Cx.Ok.nofr (ok:X.Ok) {b:Addr} {o:Obj} (e:X.base.get? b=some o):b∉X.fs:=fun hb=>by
 have:=(ok.funs.mem hb).1
 rw [e] at this;cases this
theorem Inv.bs (I:Inv X pins σ H s):∀ b o,X.base.get? b=some o->s.heap.get? b=some o/\H b=none:=fun b o e=>
 ⟨I.base.keep b o (I.ok.bs b o e).1 (I.ok.bs b o e).2 (I.ok.nofr e) (I.ok.noex b o e),I.base.free b o (I.ok.bs b o e).1 (I.ok.bs b o e).2 (I.ok.noex b o e)⟩
theorem Inv.bk (I:Inv X pins σ H s):∀ b o,X.base.get? b=some o->s.heap.get? b=some o:=fun b o e=>(I.bs b o e).1
theorem Inv.mod (I:Inv X pins σ H s):Mod X.K X.mg X.base:=I.ok.mod
theorem Inv.kIn (I:Inv X pins σ H s):X.K.In s.heap:=I.ok.mod.kin.keeps I.bk
theorem Inv.nolimit (I:Inv X pins σ H s):s.heap.NoLimit:=I.ok.mod.nolimit.keeps I.bk
theorem Inv.fr (I:Inv X pins σ H s):∃ m,Fr X.base X.env.locals s.heap m:=
 let ⟨m,hn,_⟩:=I.loc
 ⟨m,hn,I.bk,Nat.le_trans I.ok.bsz I.ok.above⟩
theorem Inv.lt (I:Inv X pins σ H s):X.env.locals < s.heap.objs.size:=let ⟨_,hn,_⟩:=I.loc;hn.lt
theorem Inv.sz (I:Inv X pins σ H s):X.s₀.heap.objs.size<=s.heap.objs.size:=Nat.le_trans I.ok.above (Nat.le_of_lt I.lt)
theorem Inv.nofs (I:Inv X pins σ H s) {a:Addr} (h:s.heap.objs.size<=a):a∉X.fs:=fun hb=>by
 obtain ⟨_,o,ho,_⟩:=I.ok.funs.mem hb
 exact absurd (Nat.lt_of_lt_of_le (Heap.lt_size ho) (Nat.le_trans I.sz h)) (Nat.lt_irrefl _)
theorem Inv.cne (I:Inv X pins σ H s):∀ x c,X.env.cells.lookup x=some c->c≠X.env.locals:=fun x c e z=>by
 obtain ⟨v,o,ho,hd⟩:=I.cell x c e
 obtain ⟨m,⟨o',es,ep,ho',hd',_⟩,_⟩:=I.loc
 rw [z,ho'] at ho;cases ho;rw [hd'] at hd;cases hd
theorem Inv.funs (I:Inv X pins σ H s):s.heap.FunFrames X.base X.outer:=by
 have all:∀ (l:List Env),(∀ b∈frs l,b∈X.fs)->X.s₀.heap.FunFrames X.base l->s.heap.FunFrames X.base l:=by
  intro l
  induction l with
  | nil=>intro _ _;trivial
  | cons env r ih=>
   intro hs hl
   obtain ⟨hk,⟨L,o,hf,hn,ho,hd⟩,hr⟩:=hl
   have hL:L∈X.fs:=hs L (by unfold frs;rw [List.filterMap_cons,hf];exact List.mem_cons_self)
   obtain ⟨sl,e⟩:=I.base.slot L o ho (I.ok.frf L hL) hL fun z=>I.ok.exfs L z hL
   exact ⟨hk,⟨L,_,hf,hn,e,hd⟩,ih (fun b hb=>hs b (by unfold frs;rw [List.filterMap_cons,hf];exact List.mem_cons_of_mem _ hb)) hr⟩
 exact all X.outer (fun _ hb=>hb) I.ok.funs
theorem Inv.stack (I:Inv X pins σ H s):s.heap.FunFrames X.base X.stack:=by
 rcases I.ok.stk with e | ⟨e,hf⟩
 ·rw [e];exact I.funs
 ·rw [e]
  obtain ⟨m,hn,_⟩:=I.loc
  refine .cons (by rw [I.ok.kind];decide) hf hn ?_ I.funs
  exact Heap.get?_none_of_le (Nat.le_trans I.ok.bsz I.ok.above)
theorem Inv.stkSub (I:Inv X pins σ H s):∀ b∈frs X.stack,b∈X.env.locals :: X.fs:=fun b hb=>by
 rcases I.ok.stk with e | ⟨e,hf⟩
 ·rw [e] at hb;exact List.mem_cons_of_mem _ hb
 ·rw [e] at hb
  unfold frs at hb
  rw [List.filterMap_cons,hf] at hb
  exact hb
theorem Inv.stkFree (I:Inv X pins σ H s):∀ b∈frs X.stack,H b=none:=fun b hb=>by
 rcases List.mem_cons.mp (I.stkSub b hb) with e | hb
 ·rw [e];exact I.free
 ·obtain ⟨_,o,ho,_⟩:=I.ok.funs.mem hb
  exact I.base.free b o ho (I.ok.frf b hb) fun z=>I.ok.exfs b z hb
theorem Inv.step {g':Array GenState} {t':Nat} {d':Drawn} {ch:List Addr} (I:Inv X pins σ H s)
  (hch:∀ b∈ch,(b∈X.ex\/X.s₀.heap.objs.size<=b)/\b≠X.env.locals/\(∀ x c,X.env.cells.lookup x=some c->c≠b)/\∀ p∈X.pn++pins,p.1≠b)
  (keep:∀ b o,b≠X.env.locals->b∉X.fs->b∉ch->s.heap.get? b=some o->H b=none->h'.get? b=some o)
  (slot:∀ b o,b≠X.env.locals->b∈X.fs->b∉ch->s.heap.get? b=some o->H b=none->∃ sl,h'.get? b=some { o with slots:=sl }) (free:∀ b o,b∉ch->s.heap.get? b=some o->H b=none->H' b=none)
  (there:∀ b o,b∉ch->s.heap.get? b=some o->∃ o',h'.get? b=some o')
  (tups:∀ b xs,H b=some (.tup xs)->H' b=some (.tup xs)) (frzs:∀ b o u,H b=some (.frz o u)->H' b=some (.frz o u)) (tbls:∀ b ps,H b=some (.tbl ps)->∃ more,H' b=some (.tbl (ps++more)))
  (ns:∀ m,s.heap.Ns X.env.locals m->h'.Ns X.env.locals m) (hok:HOk X.prog X.w H' h') (hg:AllBare g') :
  Inv X pins σ H' { s with heap:=h',gens:=g',drawn:=d',toks:=t' }:=by
 have neL:∀ b o,X.s₀.heap.get? b=some o->b≠X.env.locals:=fun b o e=>Nat.ne_of_lt (Nat.lt_of_lt_of_le (Heap.lt_size e) I.ok.above)
 have neC:∀ b o,X.s₀.heap.get? b=some o->b∉X.ex->b∉ch:=fun b o e hx hb=>by
  rcases (hch b hb).1 with z | z
  ·exact hx z
  ·exact absurd (Nat.lt_of_lt_of_le (Heap.lt_size e) z) (Nat.lt_irrefl _)
 have cellK:∀ x c,X.env.cells.lookup x=some c->∀ v,s.heap.IsCell c v->h'.IsCell c v:=fun x c e v ⟨o,ho,hd⟩=>by
  have nch:c∉ch:=fun z=>(hch c z).2.2.1 x c e rfl
  by_cases hc:c∈X.fs
  ·obtain ⟨sl,q⟩:=slot c o (I.cne x c e) hc nch ho (I.freeC x c e)
   exact ⟨_,q,hd⟩
  ·exact ⟨o,keep c o (I.cne x c e) hc nch ho (I.freeC x c e),hd⟩
 refine ⟨I.ok,I.os,hg,⟨fun b o e n hb hx=>?_,fun b o e n hb hx=>?_,fun b o e n hx=>?_,fun b o e hx=>?_,fun b xs e=>tups b xs (I.base.tups b xs e),fun b o xs e=>frzs b o xs (I.base.frzs b o xs e),fun b ps e=>?_⟩,?_,fun x c e=>?_,?_,fun x c e=>?_,fun p hp=>?_,hok,I.len⟩
 ·exact keep b o (neL b o e) hb (neC b o e hx) (I.base.keep b o e n hb hx) (I.base.free b o e n hx)
 ·obtain ⟨sl,e1⟩:=I.base.slot b o e n hb hx
  obtain ⟨sl',e2⟩:=slot b _ (neL b o e) hb (neC b o e hx) e1 (I.base.free b o e n hx)
  exact ⟨sl',e2⟩
 ·obtain ⟨o',e1⟩:=I.base.there b o e hx
  exact free b o' (neC b o e hx) e1 (I.base.free b o e n hx)
 ·obtain ⟨o',e1⟩:=I.base.there b o e hx
  exact there b o' (neC b o e hx) e1
 ·obtain ⟨m1,e1⟩:=I.base.tbls b ps e
  obtain ⟨m2,e2⟩:=tbls b _ e1
  exact ⟨m1++m2,by rw [e2,Array.append_assoc]⟩
 ·obtain ⟨m,hn,hl⟩:=I.loc
  refine ⟨m,ns m hn,fun i x v e1 e2 e3=>?_⟩
  obtain ⟨u,r,l⟩:=hl i x v e1 e2 e3
  refine ⟨u,r,?_⟩
  rcases l with l | ⟨k,c,e,z⟩
  ·exact .inl l
  ·exact .inr ⟨k,c,e,cellK x c e _ z⟩
 ·obtain ⟨v,z⟩:=I.cell x c e
  exact ⟨v,cellK x c e v z⟩
 ·obtain ⟨m,⟨o,_,_,ho,_⟩,_⟩:=I.loc
  exact free _ o (fun z=>(hch _ z).2.1 rfl) ho I.free
 ·obtain ⟨v,o,ho,hd⟩:=I.cell x c e
  exact free c o (fun z=>(hch c z).2.2.1 x c e rfl) ho (I.freeC x c e)
 ·obtain ⟨e,n,ne,nf,d⟩:=I.pin p hp
  have nch:p.1∉ch:=fun z=>(hch p.1 z).2.2.2 p hp rfl
  exact ⟨keep p.1 p.2 ne nf nch e n,free p.1 p.2 nch e n,ne,nf,d⟩
theorem Inv.un {t':Nat} (I:Inv X pins σ H s) (u:Un X.fs [] H H' s.heap h') (hok:HOk X.prog X.w H' h'):Inv X pins σ H' { s with heap:=h',toks:=t' }:=by
 obtain ⟨m,⟨o,es,ep,ho,r⟩,_⟩:=id I.loc
 obtain ⟨sl,hL⟩:=u.any ho I.free (by simp)
 exact I.step (g':=s.gens) (d':=s.drawn) (ch:=[]) (fun _ z=>nomatch z) (fun b o _ hb _ e n=>u.keep b o e n hb (by simp)) (fun b o _ hb _ e n=>u.slot b o e n hb (by simp)) (fun b o _ e n=>u.free b o e n (by simp)) (fun b o _ e=>u.there b o e (by simp)) u.tups u.frzs u.tbls (fun m' hm=>by
  obtain ⟨o',es',ep',ho',r'⟩:=hm
  rw [ho] at ho';cases ho'
  exact ⟨_,es',ep',hL,r'⟩) hok I.bare
theorem Inv.call {g':Array GenState} {t':Nat} {d':Drawn} {ch:List Addr} (I:Inv X pins σ H s) (u:Un (frs X.stack) ch H H' s.heap h') (hok:HOk X.prog X.w H' h') (hg:AllBare g')
  (hch:∀ b∈ch,(b∈X.ex\/X.s₀.heap.objs.size<=b)/\b≠X.env.locals/\(∀ x c,X.env.cells.lookup x=some c->c≠b)/\∀ p∈X.pn++pins,p.1≠b) :
  Inv X pins σ H' { s with heap:=h',gens:=g',drawn:=d',toks:=t' }:=by
 obtain ⟨m,⟨o,es,ep,ho,r⟩,_⟩:=id I.loc
 obtain ⟨sl,hL⟩:=u.any ho I.free fun z=>(hch _ z).2.1 rfl
 exact I.step (ch:=ch) hch (fun b o hL hb hc e n=>u.keep b o e n (fun z=>(List.mem_cons.mp (I.stkSub b z)).elim hL hb) hc) (fun b o _ _ hc e n=>u.any e n hc) (fun b o hc e n=>u.free b o e n hc) (fun b o hc e=>u.there b o e hc) u.tups u.frzs u.tbls (fun m' hm=>by
  obtain ⟨o',es',ep',ho',r'⟩:=hm
  rw [ho] at ho';cases ho'
  exact ⟨_,es',ep',hL,r'⟩) hok hg
theorem Inv.turned {t':Nat} {it:Addr} (I:Inv X pins σ H s) (k:∀ b o,b≠it->s.heap.get? b=some o->h'.get? b=some o) (hn:H it=none) (hL:it≠X.env.locals)
  (h1:it∈X.ex\/X.s₀.heap.objs.size<=it) (h2:∀ x c,X.env.cells.lookup x=some c->c≠it) (h3:∀ p∈X.pn++pins,p.1≠it):Inv X pins σ H { s with heap:=h',toks:=t' }:=by
 have nit:∀ b u,H b=some u->b≠it:=fun b u e z=>by rw [z,hn] at e;cases e
 refine I.step (g':=s.gens) (d':=s.drawn) (ch:=[it]) (fun b hb=>?_) (fun b o _ _ hc e _=>k b o (fun z=>hc (by simp [z])) e) (fun b o _ _ hc e _=>⟨o.slots,k b o (fun z=>hc (by simp [z])) e⟩) (fun _ _ _ _ n=>n)
  (fun b o hc e=>⟨o,k b o (fun z=>hc (by simp [z])) e⟩) (fun _ _ e=>e) (fun _ _ _ e=>e) (fun b ps e=>⟨#[],by rw [e];simp⟩) (fun m hm=>?_) (fun b u e=>?_) I.bare
 ·have e:b=it:=by simpa using hb
  subst e
  exact ⟨h1,hL,h2,h3⟩
 ·obtain ⟨o,es,ep,ho,r⟩:=hm
  exact ⟨o,es,ep,k _ o (Ne.symm hL) ho,r⟩
 ·refine (I.hok b u e).stay (fun c v hc q=>k c v ?_ q) (fun _ q=>q) fun _ _ q=>q
  rcases hc with z | z
  ·rw [z];exact nit b u e
  ·exact nit c _ z
theorem Inv.tok (I:Inv X pins σ H s) (t:Nat):Inv X pins σ H { s with toks:=t }:=I.un (h':=s.heap) (t':=t) Un.refl I.hok
theorem Inv.kept {t':Nat} (I:Inv X pins σ H s) (k:∀ b u,s.heap.get? b=some u->h'.get? b=some u):Inv X pins σ H { s with heap:=h',toks:=t' }:=I.un (Un.kept k) (I.hok.kept k)
theorem Inv.laid {a:Addr} {o:HO} {t':Nat} (I:Inv X pins σ H s) (k:∀ b u,s.heap.get? b=some u->h'.get? b=some u) (hp:s.heap.objs.size<=a) (new:cb X.prog X.w (upd H a o) h' a o) :
  Inv X pins σ (upd H a o) { s with heap:=h',toks:=t' }:=I.un (Un.laid k hp (I.hok.fresh hp)) (I.hok.laid k hp new)
theorem Inv.write {x e:Addr} {o:HO} {t':Nat} (I:Inv X pins σ H s) (mu:Mut (H x)) (he:e=x\/H e=some (.own x)) (k:∀ b u,b≠e->s.heap.get? b=some u->h'.get? b=some u) (heo:∃ u,h'.get? e=some u)
  (new:cb X.prog X.w (upd H x o) h' x o):Inv X pins σ (upd H x o) { s with heap:=h',toks:=t' }:=I.un (Un.write mu he k heo) (I.hok.write mu he k heo new)
theorem Inv.pins_of {pins':List (Addr×Obj)} (I:Inv X pins σ H s) (h:∀ p∈pins',s.heap.get? p.1=some p.2/\H p.1=none/\p.1≠X.env.locals/\p.1∉X.fs/\∀ v,p.2.data≠.cell v):Inv X pins' σ H s:=
 ⟨I.ok,I.os,I.bare,I.base,I.loc,I.cell,I.free,I.freeC,fun p hp=>(List.mem_append.mp hp).elim (fun z=>I.pin p (List.mem_append_left _ z)) (h p),I.hok,I.len⟩
theorem uv {N:List Str} (hN:N.Nodup) {i j:Nat} {x:Str} (a:N[i]?=some x) (b:N[j]?=some x):i=j:=by
 obtain ⟨h1,e1⟩:=List.getElem?_eq_some_iff.mp a
 obtain ⟨h2,e2⟩:=List.getElem?_eq_some_iff.mp b
 exact (List.getElem_inj hN).mp (e1.trans e2.symm)
theorem zg {M:Model} {A:Around} {E:Value->Shared->Prop} {i:Nat} {x:Str} {v:V} {u:Value} {Q:Unit->Shared->Prop} (I:Inv X pins σ H s) (hN:X.N.Nodup) (hi:X.N[i]?=some x) (hx:Loc X.env.scope x) (r:RelV v u)
  (h:∀ s',Inv X pins (σ.set i (some v)) H s'->(∃ a,Heap.SameBut a s.heap s'.heap/\(a=X.env.locals\/X.env.cells.lookup x=some a))->Q () s') (hf:X.fn x=true\/X.env.scope.names.lookup x=some .local:=by first | exact .inl rfl | exact .inr rfl | assumption):wpAny M A (storeName X.env x u) Q E s:=by
 obtain ⟨m,hn,hl⟩:=id I.loc
 have hcls:(X.env.scope.kind == .class||(X.env.scope.kind == .module&&X.env.locals != X.env.globals))=false:=by rw [I.ok.kind];rfl
 have hiσ:i < σ.length:=by rw [I.len];exact (List.getElem?_eq_some_iff.mp hi).1
 have cne:=I.cne
 have tracked:∀ {a:Addr} {h':Heap},(∃ o,s.heap.get? a=some o/\H a=none)->Heap.SameBut a s.heap h'->HOk X.prog X.w H h':=fun {a h'} ha hs b ob e=>by
  obtain ⟨_,_,hfree⟩:=ha
  refine (I.hok b ob e).stay (fun c w' hc q=>(hs.2 c ?_).trans q) (fun _ q=>q) fun _ _ q=>q
  rintro rfl
  rcases hc with rfl | hc
  ·rw [hfree] at e;cases e
  ·rw [hfree] at hc;cases hc
 rcases hx with hk | hk
 ·refine wpAny_storeName_local hk hn (fun h' hn' hs=>?_) hcls
  obtain ⟨oL,_,_,hoL,_⟩:=id hn
  refine h _ ⟨I.ok,I.os,I.bare,⟨fun b o e n hb hx=>?_,fun b o e n hb hx=>?_,I.base.free,fun b o e hx=>?_,I.base.tups,I.base.frzs,I.base.tbls⟩,⟨_,hn',fun j y v' e1 e2 e3=>?_⟩,fun y c e=>?_,I.free,I.freeC,fun p hp=>?_,tracked ⟨oL,hoL,I.free⟩ hs,by simpa using I.len⟩ ⟨_,hs,.inl rfl⟩
  ·exact (hs.2 b (Nat.ne_of_lt (Nat.lt_of_lt_of_le (Heap.lt_size e) I.ok.above))).trans (I.base.keep b o e n hb hx)
  ·obtain ⟨sl,e1⟩:=I.base.slot b o e n hb hx
   exact ⟨sl,(hs.2 b (Nat.ne_of_lt (Nat.lt_of_lt_of_le (Heap.lt_size e) I.ok.above))).trans e1⟩
  ·obtain ⟨o',e1⟩:=I.base.there b o e hx
   exact ⟨o',(hs.2 b (Nat.ne_of_lt (Nat.lt_of_lt_of_le (Heap.lt_size e) I.ok.above))).trans e1⟩
  ·by_cases hj:j=i
   ·subst hj
    rw [hi] at e1;cases e1
    rw [List.getElem?_set_self hiσ] at e2
    cases e2
    exact ⟨u,r,.inl ⟨hk,by simp⟩⟩
   ·rw [List.getElem?_set_ne (Ne.symm hj)] at e2
    obtain ⟨u',r',q⟩:=hl j y v' e1 e2 e3
    refine ⟨u',r',?_⟩
    rcases q with ⟨k,e⟩ | ⟨k,c,e,z⟩
    ·refine .inl ⟨k,?_⟩
     have:y≠x:=fun e=>hj (uv hN e1 (e ▸ hi))
     simp [this,e]
    ·exact .inr ⟨k,c,e,z.sameBut hs (cne y c e)⟩
  ·obtain ⟨w',z⟩:=I.cell y c e
   exact ⟨w',z.sameBut hs (cne y c e)⟩
  ·obtain ⟨e,n,ne,nf,d⟩:=I.pin p hp
   exact ⟨(hs.2 p.1 ne).trans e,n,ne,nf,d⟩
 ·have hfn:X.fn x=true:=by
   rcases hf with z | z
   ·exact z
   ·rw [z] at hk;cases hk
  obtain ⟨c,hc⟩:=I.ok.has x (.inl hk)
  obtain ⟨w',z⟩:=I.cell x c hc
  refine wpAny_storeName_cell I.ok.kind hk hc z (fun h' hc' hs=>?_)
  obtain ⟨oc,hoc,hocd⟩:=id z
  refine h { s with heap:=h' } ⟨I.ok,I.os,I.bare,⟨fun b o e n hb hx=>?_,fun b o e n hb hx=>?_,I.base.free,fun b o e hx=>?_,I.base.tups,I.base.frzs,I.base.tbls⟩,⟨m,hn.sameBut hs (Ne.symm (cne x c hc)),fun j y v' e1 e2 e3=>?_⟩,fun y c' e=>?_,I.free,I.freeC,fun p hp=>?_,tracked ⟨oc,hoc,I.freeC x c hc⟩ hs,by simpa using I.len⟩ ⟨c,hs,.inr hc⟩
  ·exact (hs.2 b (Nat.ne_of_lt (Nat.lt_of_lt_of_le (Heap.lt_size e) (I.ok.cab x c hfn hc)))).trans (I.base.keep b o e n hb hx)
  ·obtain ⟨sl,e1⟩:=I.base.slot b o e n hb hx
   exact ⟨sl,(hs.2 b (Nat.ne_of_lt (Nat.lt_of_lt_of_le (Heap.lt_size e) (I.ok.cab x c hfn hc)))).trans e1⟩
  ·obtain ⟨o',e1⟩:=I.base.there b o e hx
   exact ⟨o',(hs.2 b (Nat.ne_of_lt (Nat.lt_of_lt_of_le (Heap.lt_size e) (I.ok.cab x c hfn hc)))).trans e1⟩
  ·by_cases hj:j=i
   ·subst hj
    rw [hi] at e1;cases e1
    rw [List.getElem?_set_self hiσ] at e2
    cases e2
    exact ⟨u,r,.inr ⟨.inl hk,c,hc,hc'⟩⟩
   ·rw [List.getElem?_set_ne (Ne.symm hj)] at e2
    obtain ⟨u',r',q⟩:=hl j y v' e1 e2 e3
    refine ⟨u',r',?_⟩
    rcases q with q | ⟨k,c',e,z'⟩
    ·exact .inl q
    ·refine .inr ⟨k,c',e,z'.sameBut hs ?_⟩
     rintro rfl
     exact hj (uv hN e1 (I.ok.inj _ _ _ e hc ▸ hi))
  ·by_cases hcc:c'=c
   ·subst hcc;exact ⟨_,hc'⟩
   ·obtain ⟨w2,z2⟩:=I.cell y c' e
    exact ⟨w2,z2.sameBut hs hcc⟩
  ·obtain ⟨e,n,ne,nf,d⟩:=I.pin p hp
   refine ⟨(hs.2 p.1 ?_).trans e,n,ne,nf,d⟩
   intro q
   rw [q,hoc] at e
   have q':oc=p.2:=Option.some.inj e
   exact d w' (by rw [<-q'];exact hocd)
theorem wH {M:Model} {A:Around} {E:Value->Shared->Prop} {i:Nat} {x:Str} {v:V} {u:Value} {Q:Unit->Shared->Prop} (I:Inv X pins σ H s) (hN:X.N.Nodup) (hi:X.N[i]?=some x) (hx:Loc X.env.scope x) (r:RelV v u)
  (h:∀ s',Inv X pins (σ.set i (some v)) H s'->Q () s') (hf:X.fn x=true\/X.env.scope.names.lookup x=some .local:=by first | exact .inl rfl | exact .inr rfl | assumption):wpAny M A (storeName X.env x u) Q E s:=
 zg I hN hi hx r (fun s' I' _=>h s' I') hf
theorem Inv.call' {s':Shared} {ch:List Addr} (I:Inv X pins σ H s) (ho:s'.os=s.os) (u:Un (frs X.stack) ch H H' s.heap s'.heap) (hok:HOk X.prog X.w H' s'.heap) (hg:AllBare s'.gens)
  (hch:∀ b∈ch,(b∈X.ex\/X.s₀.heap.objs.size<=b)/\b≠X.env.locals/\(∀ x c,X.env.cells.lookup x=some c->c≠b)/\∀ p∈X.pn++pins,p.1≠b):Inv X pins σ H' s':=by
 obtain ⟨h',g',d',t',o'⟩:=s'
 have e:o'=s.os:=ho
 subst e
 exact I.call (g':=g') (t':=t') (d':=d') u hok hg hch
end
abbrev XK:=Value->Option Addr->Hp->Prop
abbrev St:=List (Option V)
abbrev VK:=V->Hp->Prop
abbrev TE:=St->Hp->VK->Prop
abbrev TT:=St->Hp->(Bool->Hp->Prop)->Prop
abbrev TA:=St->Hp->(List V->Hp->Prop)->Prop
structure Ends where
 nx:St->Hp->Prop
 rt:VK
 bk:St->Hp->Prop:=fun _ _=>False
 ct:St->Hp->Prop:=fun _ _=>False
abbrev TS:=Ends->St->Hp->Prop
def EP (X:Cx) (pins:List (Addr×Obj)) (σ:St) (Q:VK) (u:Value) (s':Shared):Prop:=∃ v H',Inv X pins σ H' s'/\RelV v u/\Q v H'
def TP (X:Cx) (pins:List (Addr×Obj)) (σ:St) (Q:Bool->Hp->Prop) (b:Bool) (s':Shared):Prop:=∃ H',Inv X pins σ H' s'/\Q b H'
def AP (X:Cx) (pins:List (Addr×Obj)) (σ:St) (Q:List V->Hp->Prop) (us:List Value) (s':Shared):Prop:=∃ vs H',Inv X pins σ H' s'/\Vals vs us/\Q vs H'
def SP (X:Cx) (pins:List (Addr×Obj)) (D:Ends) (f:Flow) (s':Shared):Prop:=
 match f with
 | .next=>∃ σ' H',Inv X pins σ' H' s'/\D.nx σ' H'
 | .brk=>∃ σ' H',Inv X pins σ' H' s'/\D.bk σ' H'
 | .cont=>∃ σ' H',Inv X pins σ' H' s'/\D.ct σ' H'
 | .ret u=>∃ v σ' H',Inv X pins σ' H' s'/\RelV v u/\D.rt v H'
def PE (X:Cx) (e:Expr) (t:TE):Prop:=
 ∀ (pins:List (Addr×Obj)) (s:Shared) (σ:St) (H:Hp) (Q:VK),Inv X pins σ H s->t σ H Q->wpAny (model X.prog X.w) X.A (eval e X.env) (EP X pins σ Q) X.xe s
def PT (X:Cx) (e:Expr) (t:TT):Prop:=
 ∀ (pins:List (Addr×Obj)) (s:Shared) (σ:St) (H:Hp) (Q:Bool->Hp->Prop),Inv X pins σ H s->t σ H Q->wpAny (model X.prog X.w) X.A (isTrue e X.env (eval e X.env)) (TP X pins σ Q) X.xe s
def PW (X:Cx) (e:Expr) (t:TT):Prop:=
 ∀ (whole:Sem Value) (pins:List (Addr×Obj)) (s:Shared) (σ:St) (H:Hp) (Q:Bool->Hp->Prop),Inv X pins σ H s->t σ H Q->wpAny (model X.prog X.w) X.A (isTrue e X.env whole) (TP X pins σ Q) X.xe s
theorem PW.pt {X:Cx} {e:Expr} {t:TT} (h:PW X e t):PT X e t:=h _
def PA (X:Cx) (es:List Expr) (t:TA):Prop:=
 ∀ (pos:Pos) (pins:List (Addr×Obj)) (s:Shared) (σ:St) (H:Hp) (Q:List V->Hp->Prop),Inv X pins σ H s->t σ H Q->wpAny (model X.prog X.w) X.A (spliced (backTo pos (starEach es X.env))) (AP X pins σ Q) X.xe s
def PS (X:Cx) (st:Stmt) (t:TS):Prop:=
 ∀ (pins:List (Addr×Obj)) (s:Shared) (σ:St) (H:Hp) (D:Ends),Inv X pins σ H s->t D σ H->wpAny (model X.prog X.w) X.A (exec st X.env) (SP X pins D) X.xe s
def PSs (X:Cx) (st:List Stmt) (t:TS):Prop:=
 ∀ (pins:List (Addr×Obj)) (s:Shared) (σ:St) (H:Hp) (D:Ends),Inv X pins σ H s->t D σ H->wpAny (model X.prog X.w) X.A (execs st X.env) (SP X pins D) X.xe s
theorem thn {α:Type} {t:Sem α} {Q Q':α->Shared->Prop} {M:Model} {A:Around} {E:Value->Shared->Prop} {s:Shared} (h:wpAny M A t Q E s) (hQ:∀ a s,Q a s->Q' a s):wpAny M A t Q' E s:=wpAny_mono h hQ fun _ _ x=>x
end L2
namespace L2
open PySem PySem.Spec PyProof.Rows
section
variable {X:Cx}
def gq (i:Nat):TE:=fun σ H Q=>∃ v,σ[i]?=some (some v)/\Q v H
def tC (v:V):TE:=fun _ H Q=>Q v H
theorem D6 {i:Nat} {x:Str} {pos:Pos} (hN:X.N[i]?=some x) (hv:Vis X.env.scope x) (hd:(x == ("__debug__":Str))=false:=by decide) (hcd:(x == ("__classdict__":Str))=false:=by decide):PE X (.Name x pos) (gq i):=by
 intro pins s σ H Q I h
 obtain ⟨v,e,h⟩:=h
 obtain ⟨m,hn,hl⟩:=I.loc
 obtain ⟨u,r,l⟩:=hl i x v hN e hv
 have fin:EP X pins σ Q u s:=⟨v,H,I,r,h⟩
 rcases l with ⟨hk,hm⟩ | ⟨hk,c,hc,hcell⟩
 ·exact wpAny_Name (wpAny_loadName_local I.ok.kind hk hn hm fin) hd
 ·rcases hk with hk | hk
  ·exact wpAny_Name (wpAny_loadName_cell I.ok.kind hk hc hcell fin) hd
  ·exact wpAny_Name (wpAny_loadName_free I.ok.kind hk hc hcell fin hcd) hd
theorem tG {i j pos}:PE X (.Constant (.int i) j pos) (tC (.int i)):=fun _ _ _ H _ I h=>wpAny_Constant_int ⟨.int i,H,I.tok _,⟨_,rfl⟩,h⟩
theorem AV {b j pos}:PE X (.Constant (.bool b) j pos) (tC (.bl b)):=fun _ _ _ H _ I h=>Constant_bool ⟨.bl b,H,I,rfl,h⟩
theorem E5 {j pos}:PE X (.Constant .none j pos) (tC .non):=fun _ _ _ H _ I h=>Constant_none ⟨.non,H,I,rfl,h⟩
theorem JF {x j pos}:PE X (.Constant (.str x) j pos) (tC (.str x)):=fun _ _ _ H _ I h=>Calls.Constant_str ⟨.str x,H,I.tok _,⟨_,rfl⟩,h⟩
def Gl (X:Cx) (x:Str):Prop:=X.env.kindOf x=some .globalImplicit
theorem qg {E:Value->Shared->Prop} {pins:List (Addr×Obj)} {s:Shared} {σ:St} {H:Hp} {x:Str} {u:Value} {pos:Pos} {Q:Value->Shared->Prop} (I:Inv X pins σ H s) (hg:Gl X x) (hm:X.mg x=some u) (h:Q u s)
  (hd:(x == ("__debug__":Str))=false:=by decide):wpAny (model X.prog X.w) X.A (eval (.Name x pos) X.env) Q E s:=
 Calls.Name_function_global I.ok.kind hg (Calls.loadGlobal_global (by rw [I.ok.glob];exact I.mod.glob.keeps I.bk) hm h) hd
theorem gM {E:Value->Shared->Prop} {pins:List (Addr×Obj)} {s:Shared} {σ:St} {H:Hp} {x:Str} {u:Value} {pos:Pos} {Q:Value->Shared->Prop} (I:Inv X pins σ H s) (hg:Gl X x) (hm:X.mg x=none) (hv:bootBuiltins x=some u) (h:Q u s)
  (hn:x≠"__name__":=by decide) (hd:(x == ("__debug__":Str))=false:=by decide):wpAny (model X.prog X.w) X.A (eval (.Name x pos) X.env) Q E s:=by
 obtain ⟨mb,h1,h2⟩:=I.mod.blt
 exact Calls.Name_function_global I.ok.kind hg (Calls.loadGlobal_builtin (by rw [I.ok.glob];exact I.mod.glob.keeps I.bk) hm (by rw [I.ok.blt];exact h1.keeps I.bk) ((h2 x hn).trans hv) h) hd
theorem r9 {x:Str} {v:V} {u:Value} {pos:Pos} (hg:Gl X x) (hm:X.mg x=some u) (r:RelV v u) (hd:(x == ("__debug__":Str))=false:=by decide):PE X (.Name x pos) (tC v):=
 fun _ _ _ H _ I h=>qg I hg hm ⟨v,H,I,r,h⟩ hd
theorem BG {x:Str} {v:V} {u:Value} {pos:Pos} (hg:Gl X x) (hm:X.mg x=none) (hv:bootBuiltins x=some u) (r:RelV v u) (hn:x≠"__name__":=by decide) (hd:(x == ("__debug__":Str))=false:=by decide):PE X (.Name x pos) (tC v):=
 fun _ _ _ H _ I h=>gM I hg hm hv ⟨v,H,I,r,h⟩ hn hd
variable {a b:Expr} {ta tb:TE} {pos:Pos}
def tB (t:TE):TT:=fun σ H Q=>t σ H fun x H1=>∃ c,x=.bl c/\Q c H1
theorem FV {e:Expr} {t:TE} (h:PE X e t) (he:∀ whole,isTrue e X.env whole=(do let v<-whole;standAt e.pos;holding [v] (truthy v)):=by intro _;rfl):PT X e (tB t):=by
 intro pins s σ H Q I hw
 refine isTrue_plain (thn (h pins s σ H _ I hw) fun v s1 ⟨x,H1,I1,r1,q1⟩=>?_) (he _)
 obtain ⟨d,rfl,q⟩:=q1
 cases r1
 exact wpAny_truthy_bool ⟨H1,I1,q⟩
variable {tA tB':TT} {rest:List Expr}
def ue (t u:TT):TT:=fun σ H Q=>t σ H fun c H1=>if c=true then u σ H1 Q else Q false H1
def tOr (t u:TT):TT:=fun σ H Q=>t σ H fun c H1=>if c=true then Q true H1 else u σ H1 Q
def uh (t:TT):TT:=fun σ H Q=>t σ H fun c H1=>Q (!c) H1
theorem Jl (ha:PT X a tA):PW X (.BoolOp .And [a] pos) tA:=by
 intro wh pins s σ H Q I h
 refine isTrue_and (thn (ha pins s σ H Q I h) fun c s1 e=>?_)
 cases c with
 | true=>exact isTrue_and_nil e
 | false=>exact e
theorem Ji (ha:PT X a tA):PW X (.BoolOp .Or [a] pos) tA:=by
 intro wh pins s σ H Q I h
 refine isTrue_or (thn (ha pins s σ H Q I h) fun c s1 e=>?_)
 cases c with
 | false=>exact isTrue_or_nil e
 | true=>exact e
theorem GS (ha:PT X a tA) (hb:PW X (.BoolOp .And (b :: rest) pos) tB'):PW X (.BoolOp .And (a :: b :: rest) pos) (ue tA tB'):=by
 intro wh pins s σ H Q I h
 refine isTrue_and (thn (ha pins s σ H _ I h) fun c s1 ⟨H1,I1,q1⟩=>?_)
 cases c with
 | true=>exact hb wh pins s1 σ H1 Q I1 q1
 | false=>exact ⟨H1,I1,q1⟩
theorem Cg (ha:PT X a tA) (hb:PW X (.BoolOp .Or (b :: rest) pos) tB'):PW X (.BoolOp .Or (a :: b :: rest) pos) (tOr tA tB'):=by
 intro wh pins s σ H Q I h
 refine isTrue_or (thn (ha pins s σ H _ I h) fun c s1 ⟨H1,I1,q1⟩=>?_)
 cases c with
 | true=>exact ⟨H1,I1,q1⟩
 | false=>exact hb wh pins s1 σ H1 Q I1 q1
theorem CQ (ha:PT X a tA):PT X (.UnaryOp .Not a pos) (uh tA):=by
 intro pins s σ H Q I h
 exact isTrue_not (ha pins s σ H (fun c H1=>Q (!c) H1) I h)
def vx (ta tb:TE):TE:=fun σ H Q=>ta σ H fun x H1=>∃ c,x=.bl c/\if c=true then tb σ H1 Q else Q (.bl false) H1
def wV (ta:TE):TE:=fun σ H Q=>ta σ H fun x H1=>∃ c,x=.bl c/\Q (.bl (!c)) H1
theorem DZ {op} {t:TE} (h:PE X a t):PE X (.BoolOp op [a] pos) t:=fun pins s σ H Q I hw=>BoolOp_one (h pins s σ H Q I hw)
theorem Bu (ha:PE X a ta) (hb:PE X (.BoolOp .And (b :: rest) pos) tb):PE X (.BoolOp .And (a :: b :: rest) pos) (vx ta tb):=by
 intro pins s σ H Q I h
 refine BoolOp_and (thn (ha pins s σ H _ I h) fun v s1 ⟨x,H1,I1,r1,q1⟩=>?_)
 obtain ⟨c,rfl,q1⟩:=q1
 cases r1
 refine wpAny_truthy_bool ?_
 cases c with
 | true=>exact hb pins s1 σ H1 Q I1 q1
 | false=>exact ⟨.bl false,H1,I1,rfl,q1⟩
theorem AN (ha:PE X a ta):PE X (.UnaryOp .Not a pos) (wV ta):=by
 intro pins s σ H Q I h
 refine UnaryOp_ (thn (ha pins s σ H _ I h) fun v s1 ⟨x,H1,I1,r1,q1⟩=>?_)
 obtain ⟨c,rfl,q1⟩:=q1
 cases r1
 exact not_of (wpAny_truthy_bool ⟨.bl (!c),H1,I1,rfl,q1⟩)
def tIf (t:TT) (ta tb:TE):TE:=fun σ H Q=>t σ H fun c H1=>if c=true then ta σ H1 Q else tb σ H1 Q
theorem D3 {c:Expr} (hc:PT X c tA) (ha:PE X a ta) (hb:PE X b tb):PE X (.IfExp c a b pos) (tIf tA ta tb):=by
 intro pins s σ H Q I h
 refine wpAny_IfExp (thn (hc pins s σ H _ I h) fun d s1 ⟨H1,I1,q1⟩=>?_)
 cases d with
 | true=>exact ha pins s1 σ H1 Q I1 q1
 | false=>exact hb pins s1 σ H1 Q I1 q1
end
end L2
namespace L2
open PySem PySem.Spec PyProof.Rows
def SqL (K:PySem.W.Frag) (H:Hp) (a:Addr) (xs:List V):Prop:=
 Rd H a (.lst xs) \/
  ∃ (o:Obj) (its:Array Value) (n:Nat),K.lookup a=some o/\o.cls=.type "list"/\o.dict=none/\o.data=.seq its n/\its.size<=sizeLine/\Vals xs its.toList
def SqT (K:PySem.W.Frag) (H:Hp) (a:Addr) (xs:List V):Prop:=
 Rd H a (.tup xs) \/
  ∃ (o:Obj) (its:Array Value) (n:Nat),K.lookup a=some o/\o.cls=.type "tuple"/\o.data=.seq its n/\its.size<=sizeLine/\Vals xs its.toList
def Al:Value->Option V
 | .none=>some .non
 | .bool b=>some (.bl b)
 | .int i _=>some (.int i)
 | .str x _=>some (.str x)
 | .bytes b _=>some (.byt b)
 | .float b _=>some (.flt b)
 | .ref a=>some (.ref a)
 | .type n=>some (.ty n)
 | _=>none
theorem RelV.abs {x:V} {u:Value} (r:RelV x u):Al u=some x:=by
 cases x with
 | non=>cases r;rfl
 | bl _=>cases r;rfl
 | int _=>obtain ⟨t,rfl⟩:=r;rfl
 | str _=>obtain ⟨t,rfl⟩:=r;rfl
 | byt _=>obtain ⟨t,rfl⟩:=r;rfl
 | flt _=>obtain ⟨t,rfl⟩:=r;rfl
 | ref _=>cases r;rfl
 | ty _=>cases r;rfl
theorem RelV.inj {x y:V} {u:Value} (r:RelV x u) (q:RelV y u):x=y:=Option.some.inj (r.abs.symm.trans q.abs)
theorem Vals.inj:∀ {xs ys:List V} {us:List Value},Vals xs us->Vals ys us->xs=ys
 | _,_,_,.nil,.nil=>rfl
 | _,_,_,.cons r t,.cons r' t'=>by rw [r.inj r',Vals.inj t t']
section
variable {X:Cx} {pins:List (Addr×Obj)} {σ:St} {H:Hp} {s:Shared} {a:Addr} {xs ys:List V}
theorem SqL.of {K:PySem.W.Frag} (h:H a=some (.lst xs)):SqL K H a xs:=.inl (.inl h)
theorem SqT.of {K:PySem.W.Frag} (h:H a=some (.tup xs)):SqT K H a xs:=.inl (.inl h)
theorem Inv.list (I:Inv X pins σ H s) (h:SqL X.K H a xs):∃ its:List Value,Vals xs its/\PlainL s.heap a its.toArray/\xs.length<=sizeLine:=by
 rcases h with h | ⟨o,its,n,hk,hc,hd,hs,hz,r⟩
 ·obtain ⟨z,its,n,r,e⟩:=h.ok I.hok
  exact ⟨its,r,⟨_,n,e,rfl,rfl,rfl⟩,z⟩
 ·refine ⟨its.toList,r,⟨o,n,I.kIn a o hk,hc,hd,by simpa using hs⟩,?_⟩
  have e:=r.length
  simp only [Array.length_toList] at e
  omega
theorem Inv.tuple (I:Inv X pins σ H s) (h:SqT X.K H a xs):∃ its:List Value,Vals xs its/\IsTup s.heap a its.toArray/\xs.length<=sizeLine:=by
 rcases h with h | ⟨o,its,n,hk,hc,hs,hz,r⟩
 ·obtain ⟨z,its,r,p⟩:=h.ok I.hok
  exact ⟨its,r,p,z⟩
 ·refine ⟨its.toList,r,⟨o,I.kIn a o hk,hc,n,by simpa using hs⟩,?_⟩
  have e:=r.length
  simp only [Array.length_toList] at e
  omega
theorem Inv.list_inj (I:Inv X pins σ H s) (h:SqL X.K H a xs) (h':SqL X.K H a ys):xs=ys:=by
 obtain ⟨its,r,⟨o,n,e,_,_,d⟩,_⟩:=I.list h
 obtain ⟨its',r',⟨o',n',e',_,_,d'⟩,_⟩:=I.list h'
 rw [e] at e';cases e'
 rw [d] at d'
 injection d' with d1 _
 have:its=its':=by simpa using congrArg Array.toList d1
 subst this
 exact r.inj r'
theorem Inv.tuple_inj (I:Inv X pins σ H s) (h:SqT X.K H a xs) (h':SqT X.K H a ys):xs=ys:=by
 obtain ⟨its,r,⟨o,e,_,n,d⟩,_⟩:=I.tuple h
 obtain ⟨its',r',⟨o',e',_,n',d'⟩,_⟩:=I.tuple h'
 rw [e] at e';cases e'
 rw [d] at d'
 injection d' with d1 _
 have:its=its':=by simpa using congrArg Array.toList d1
 subst this
 exact r.inj r'
end
abbrev Cx.wish (X:Cx) (E:Value->Shared->Prop):Cx:={ X with xe:=E }
abbrev Cx.nox (X:Cx):Cx:=X.wish fun _ _=>False
theorem Cx.Ok.wish {X:Cx} (ok:X.Ok) (E:Value->Shared->Prop):(X.wish E).Ok:=
 ⟨ok.mod,ok.kind,ok.glob,ok.blt,ok.above,ok.inj,ok.has,ok.cab,ok.hd,ok.frames,ok.stk,ok.exf,ok.bs,ok.bsz,ok.noex,ok.exfs,ok.funs,ok.frf⟩
theorem Cx.Ok.unwish {X:Cx} {E:Value->Shared->Prop} (ok:(X.wish E).Ok):X.Ok:=
 ⟨ok.mod,ok.kind,ok.glob,ok.blt,ok.above,ok.inj,ok.has,ok.cab,ok.hd,ok.frames,ok.stk,ok.exf,ok.bs,ok.bsz,ok.noex,ok.exfs,ok.funs,ok.frf⟩
section
variable {X:Cx} {pins:List (Addr×Obj)} {σ:St} {H:Hp} {s:Shared} {E:Value->Shared->Prop}
theorem Inv.wish (I:Inv X pins σ H s) (E:Value->Shared->Prop):Inv (X.wish E) pins σ H s:=⟨I.ok.wish E,I.os,I.bare,I.base,I.loc,I.cell,I.free,I.freeC,I.pin,I.hok,I.len⟩
theorem Inv.unwish (I:Inv (X.wish E) pins σ H s):Inv X pins σ H s:=⟨I.ok.unwish,I.os,I.bare,I.base,I.loc,I.cell,I.free,I.freeC,I.pin,I.hok,I.len⟩
theorem SP.unwish {D:Ends} {f:Flow} {s':Shared} (h:SP (X.wish E) pins D f s'):SP X pins D f s':=by
 cases f with
 | next=>obtain ⟨σ',H',I,q⟩:=h;exact ⟨σ',H',I.unwish,q⟩
 | brk=>obtain ⟨σ',H',I,q⟩:=h;exact ⟨σ',H',I.unwish,q⟩
 | cont=>obtain ⟨σ',H',I,q⟩:=h;exact ⟨σ',H',I.unwish,q⟩
 | ret u=>obtain ⟨v,σ',H',I,r,q⟩:=h;exact ⟨v,σ',H',I.unwish,r,q⟩
theorem PSs.nox {st:List Stmt} {t:TS} (h:PSs X.nox st t):PSs X st t:=fun pins s σ H D I hw=>
 wpAny_mono (h pins s σ H D (I.wish _) hw) (fun _ _ q=>q.unwish) fun _ _ z=>False.elim z
end
section
variable {X:Cx} {st:Stmt} {rest:List Stmt} {t u:TS} {e:Expr} {te:TE} {pos:Pos}
def vE:TS:=fun D σ H=>D.nx σ H
def oG (t u:TS):TS:=fun D σ H=>t { D with nx:=u D } σ H
theorem IF:PSs X [] vE:=fun _ _ σ H _ I h=>wpAny_execs_nil ⟨σ,H,I,h⟩
theorem pJ (h1:PS X st t) (h2:PSs X rest u):PSs X (st :: rest) (oG t u):=by
 intro pins s σ H D I h
 refine wpAny_execs_cons (thn (h1 pins s σ H { D with nx:=u D } I h) fun f s1 q=>?_)
 cases f with
 | next=>
  obtain ⟨σ',H',I',q⟩:=q
  exact h2 pins s1 σ' H' D I' q
 | ret v=>exact q
 | brk=>exact q
 | cont=>exact q
theorem uM (h1:PS X st t):PSs X [st] t:=by
 intro pins s σ H D I h
 refine wpAny_execs_cons (thn (h1 pins s σ H D I h) fun f s1 q=>?_)
 cases f with
 | next=>exact wpAny_execs_nil q
 | ret v=>exact q
 | brk=>exact q
 | cont=>exact q
theorem Inv.quiet {pins:List (Addr×Obj)} {σ:St} {H:Hp} {s:Shared} (I:Inv X pins σ H s):interactive X.env=false:=by simp [interactive,I.ok.kind]
def zJ (te:TE):TS:=fun D σ H=>te σ H fun _ H1=>D.nx σ H1
theorem kr (he:PE X e te) (hs:swapsWith e none pos.line X.env=pure false:=by rfl):PS X (.Expr e pos) (zJ te):=by
 intro pins s σ H D I h
 exact wpAny_Expr_any (thn (he pins s σ H _ I h) fun v s1 ⟨x,H1,I1,r1,q1⟩=>⟨σ,H1,I1,q1⟩) I.quiet hs
def xi (te:TE):TS:=fun D σ H=>te σ H D.rt
theorem Ce (he:PE X e te):PS X (.Return (some e) pos) (xi te):=by
 intro pins s σ H D I h
 exact wpAny_Return_some (thn (he pins s σ H _ I h) fun v s1 ⟨x,H1,I1,r1,q1⟩=>⟨x,σ,H1,I1,r1,q1⟩)
def vF (c:TT) (t u:TS):TS:=fun D σ H=>c σ H fun b H1=>if b=true then t D σ H1 else u D σ H1
theorem Cw {c:Expr} {a b:List Stmt} {tc:TT} (hc:PT X c tc) (ha:PSs X a t) (hb:PSs X b u):PS X (.If c a b pos) (vF tc t u):=by
 intro pins s σ H D I h
 refine wpAny_If (thn (hc pins s σ H _ I h) fun d s1 ⟨H1,I1,q1⟩=>?_)
 cases d with
 | true=>exact ha pins s1 σ H1 D I1 q1
 | false=>exact hb pins s1 σ H1 D I1 q1
def FT:TS:=fun _ _ _=>False
theorem Jc:PS X st FT:=fun _ _ _ _ _ _ h=>h.elim
end
abbrev TG:=V->St->Hp->(St->Hp->Prop)->Prop
abbrev TGs:=List V->St->Hp->(St->Hp->Prop)->Prop
def PG (X:Cx) (target:Expr) (t:TG):Prop:=
 ∀ (pins:List (Addr×Obj)) (s:Shared) (σ:St) (H:Hp) (v:V) (u:Value) (Q:St->Hp->Prop),Inv X pins σ H s->RelV v u->t v σ H Q->
  wpAny (model X.prog X.w) X.A (assign target X.env u) (fun _ s'=>∃ σ' H',Inv X pins σ' H' s'/\Q σ' H') X.xe s
def PGs (X:Cx) (ts:List Expr) (t:TGs):Prop:=
 ∀ (pins:List (Addr×Obj)) (s:Shared) (σ:St) (H:Hp) (vs:List V) (us:List Value) (Q:St->Hp->Prop),Inv X pins σ H s->Vals vs us->t vs σ H Q->
  wpAny (model X.prog X.w) X.A (assignInOrder ((assignEach ts X.env).map (·.2)) us) (fun _ s'=>∃ σ' H',Inv X pins σ' H' s'/\Q σ' H') X.xe s
abbrev IQ:=V->V->V->Hp->(Hp->Prop)->Prop
section
variable {X:Cx} {pos:Pos}
def iB (i:Nat):TG:=fun v σ H Q=>Q (σ.set i (some v)) H
theorem j9 {i:Nat} {x:Str} (hN:X.N.Nodup) (hi:X.N[i]?=some x) (hx:Loc X.env.scope x) (hf:X.fn x=true\/X.env.scope.names.lookup x=some .local:=by first | exact .inl rfl | exact .inr rfl | assumption):PG X (.Name x pos) (iB i):=by
 intro pins s σ H v u Q I r h
 exact wpAny_assign_Name (wH I hN hi hx r (fun s' I'=>⟨_,H,I',h⟩) hf)
def vc:TGs:=fun vs σ H Q=>vs=[]/\Q σ H
def zo (t:TG) (u:TGs):TGs:=fun vs σ H Q=>∃ v r,vs=v :: r/\t v σ H fun σ' H'=>u r σ' H' Q
theorem yd:PGs X [] vc:=by
 intro pins s σ H vs us Q I r h
 obtain ⟨e,h⟩:=h
 subst e
 cases r
 exact assignInOrder_nil ⟨σ,H,I,h⟩
theorem mh {e:Expr} {es:List Expr} {t:TG} {u:TGs} (h1:PG X e t) (h2:PGs X es u)
  (hs:(assignEach (e :: es) X.env).map (·.2)=assign e X.env :: (assignEach es X.env).map (·.2):=by rfl):PGs X (e :: es) (zo t u):=by
 intro pins s σ H vs us Q I r h
 obtain ⟨v,vr,e1,h⟩:=h
 subst e1
 cases r with
 | cons r rr=>
  rw [hs]
  refine assignInOrder_cons (thn (h1 pins s σ H _ _ _ I r h) fun _ s1 ⟨σ1,H1,I1,q1⟩=>?_)
  exact h2 pins s1 σ1 H1 _ _ Q I1 rr q1
def wd (K:PySem.W.Frag) (n:Nat) (t:TGs):TG:=fun v σ H Q=>∃ a xs,v=.ref a/\SqT K H a xs/\xs.length=n/\t xs σ H Q
theorem ua {es:List Expr} {k:Nat} {t:TGs} {n:Nat} (hc:X.calm=true) (h:PGs X es t)
  (hn:(assignEach es X.env).length=n:=by rfl) (hst:(assignEach es X.env).findIdx? (·.1)=none:=by rfl):PG X (.Tuple es k pos) (wd X.K n t):=by
 intro pins s σ H v u Q I r hw
 obtain ⟨a,xs,e1,hq,hl,hw⟩:=hw
 subst e1
 cases r
 obtain ⟨its,rv,ht,hz⟩:=I.tuple hq
 refine assign_Tuple_tuple (I.ok.hd hc) ht (by simp [hn,<-hl,rv.length]) hst fun h' hx=>?_
 have I1:Inv X pins σ H { s with heap:=h' }:=I.kept (t':=s.toks) fun b o e=>hx b o (Nat.ne_of_lt (Heap.lt_size e)) e
 exact h pins _ σ H xs _ Q I1 (by simpa using rv) hw
def eC (to ti:TE) (t:IQ):TG:=fun v σ H Q=>to σ H fun o H1=>ti σ H1 fun i H2=>t o i v H2 fun H3=>Q σ H3
def mw (te:TE) (g:TG):TS:=fun D σ H=>te σ H fun x H1=>g x σ H1 D.nx
theorem rY {i:Nat} {x:Str} {e:Expr} {te:TE} {pos':Pos} (hN:X.N.Nodup) (hi:X.N[i]?=some x) (hx:Loc X.env.scope x) (he:PE X e te) (hs:swapsWith e (some (.Name x pos')) pos.line X.env=pure false:=by rfl) (hf:X.fn x=true\/X.env.scope.names.lookup x=some .local:=by first | exact .inl rfl | exact .inr rfl | assumption) :
  PS X (.Assign [.Name x pos'] e pos) (mw te (iB i)):=by
 intro pins s σ H D I h
 refine wpAny_Assign_Name (thn (he pins s σ H _ I h) fun v s1 ⟨y,H1,I1,r1,q1⟩=>?_) hs
 exact wH I1 hN hi hx r1 (fun s2 I2=>⟨_,H1,I2,q1⟩) hf
end
section
variable {X:Cx} {pos:Pos}
def zc (c:TT) (tb:TS):TS:=fun D σ H=>∃ W:Nat->St->Hp->Prop,(∃ m,W m σ H)/\∀ m σ H,W m σ H->
 c σ H fun b H1=>if b=true then ∃ N:St->Hp->Prop,(∀ σ' H',N σ' H'->∃ m',m' < m/\W m' σ' H')/\tb { D with nx:=N,ct:=N,bk:=D.nx } σ H1 else D.nx σ H1
theorem G8 {c:Expr} {body:List Stmt} {tc:TT} {tb:TS} (hp:PassesOwn (model X.prog X.w) X.A X.env X.xe) (hc:PT X c tc) (hb:PSs X body tb):PS X (.While c body [] pos) (zc tc tb):=by
 intro pins s σ H D I h
 obtain ⟨W,⟨m0,w0⟩,turn⟩:=h
 refine wpAny_While (codeAny_whileLoop (fun n s'=>∃ σ' H',Inv X pins σ' H' s'/\W n σ' H') ?_ m0 ⟨σ,H,I,w0⟩)
 rintro n s1 ⟨σ1,H1,I1,w1⟩
 refine wpAny_passesOwn hp (thn (hc pins s1 σ1 H1 _ I1 (turn n σ1 H1 w1)) fun b s2 ⟨H2,I2,q2⟩=>?_)
 cases b with
 | true=>
  obtain ⟨N,hN,q2⟩:=q2
  rw [if_pos rfl]
  refine wpAny_passesOwn hp (thn (hb pins s2 σ1 H2 _ I2 q2) fun f s3 q3=>?_)
  cases f with
  | next=>
   obtain ⟨σ3,H3,I3,n3⟩:=q3
   obtain ⟨m',hm,w3⟩:=hN σ3 H3 n3
   exact ⟨m',hm,σ3,H3,I3,w3⟩
  | cont=>
   obtain ⟨σ3,H3,I3,n3⟩:=q3
   obtain ⟨m',hm,w3⟩:=hN σ3 H3 n3
   exact ⟨m',hm,σ3,H3,I3,w3⟩
  | brk=>exact q3
  | ret v=>exact q3
 | false=>
  rw [if_neg Bool.false_ne_true]
  exact wpAny_execs_nil ⟨σ1,H2,I2,q2⟩
end
structure It where
 go:Nat->Hp->Prop
 yld:Nat->Hp->V->Hp->Prop
 stop:Nat->Hp->Prop
def dW (X:Cx) (pins:List (Addr×Obj)) (H:Hp) (b:Addr):Prop:=
 H b=none/\b≠X.env.locals/\b∉X.fs/\(b∈X.ex\/X.s₀.heap.objs.size<=b)/\(∀ x c,X.env.cells.lookup x=some c->c≠b)/\∀ p∈X.pn++pins,p.1≠b
theorem Inv.fpOk {X:Cx} {pins:List (Addr×Obj)} {σ:St} {H H':Hp} {s:Shared} {b:Addr} (I:Inv X pins σ H s) (hb:s.heap.objs.size<=b) (hn:H' b=none):dW X pins H' b:=by
 refine ⟨hn,Nat.ne_of_gt (Nat.lt_of_lt_of_le I.lt hb),I.nofs hb,.inr (Nat.le_trans I.sz hb),fun x c e z=>?_,fun p hp z=>?_⟩
 ·obtain ⟨v,q⟩:=I.cell x c e
  exact absurd (Nat.lt_of_lt_of_le q.lt (by rw [z];exact hb)) (Nat.lt_irrefl _)
 ·exact absurd (Nat.lt_of_lt_of_le (Heap.lt_size (I.pin p hp).1) (by rw [z];exact hb)) (Nat.lt_irrefl _)
structure Turn (P:Program) (w:World) (K:PySem.W.Frag) (tg:Expr) (J:It) (fp:List Addr) (it:Addr) (tn:Nat->Heap->Prop):Prop where
 mem:it∈fp
 obj:∀ i h,tn i h->∀ b∈fp,∃ o,h.get? b=some o/\∀ v,o.data≠.cell v
 keep:∀ i h h',tn i h->(∀ b∈fp,∀ o,h.get? b=some o->h'.get? b=some o)->tn i h'
 item:∀ (X:Cx),X.prog=P->X.w=w->X.K=K->X.calm=true->∀ (i:Nat) (pins:List (Addr×Obj)) (s:Shared) (σ:St) (H:Hp) (E:Value->Shared->Prop),Inv X pins σ H s->(∀ b∈fp,dW X pins H b)->tn i s.heap->J.go i H->
  wpAny (model P w) X.A (pyNext (.ref it)) (fun r s1=>∃ u,r=some u /\
   wpAny (model P w) X.A (letOwnedTupleGo tg (.ref it) u) (fun _ s2=>∃ x H',Inv X pins σ H' s2/\RelV x u/\J.yld i H x H'/\tn (i + 1) s2.heap/\∀ b∈fp,H' b=none) E s1) E s
 done:∀ (X:Cx),X.prog=P->X.w=w->X.K=K->X.calm=true->∀ (i:Nat) (pins:List (Addr×Obj)) (s:Shared) (σ:St) (H:Hp) (E:Value->Shared->Prop),Inv X pins σ H s->(∀ b∈fp,dW X pins H b)->tn i s.heap->J.stop i H->
  wpAny (model P w) X.A (pyNext (.ref it)) (fun r s1=>r=none/\Inv X pins σ H s1) E s
 self:∀ (A:Around) (i:Nat) (s:Shared) (Q:Value->Shared->Prop) (E:Value->Shared->Prop),tn i s.heap->Q (.ref it) s->wpAny (model P w) A (pyIter (.ref it)) Q E s
abbrev TI:=St->Hp->(It->Hp->Prop)->Prop
def PIE (X:Cx) (pins:List (Addr×Obj)) (σ:St) (tg:Expr) (R:It->Hp->Prop) (itv:Value) (s2:Shared):Prop:=
 ∃ (it:Addr) (fp:List Addr) (tn:Nat->Heap->Prop) (J:It) (H':Hp),itv=.ref it/\Inv X pins σ H' s2/\Turn X.prog X.w X.K tg J fp it tn/\tn 0 s2.heap/\(∀ b∈fp,dW X pins H' b)/\R J H'
def PI (X:Cx) (tg iter:Expr) (wi:TI):Prop:=
 ∀ (pins:List (Addr×Obj)) (s:Shared) (σ:St) (H:Hp) (R:It->Hp->Prop),Inv X pins σ H s->wi σ H R->
  wpAny (model X.prog X.w) X.A (eval iter X.env) (fun v s1=>wpAny (model X.prog X.w) X.A (pyIter v) (PIE X pins σ tg R) X.xe s1) X.xe s
theorem kI {M:Model} {A:Around} {E:Value->Shared->Prop} {s:Shared} {tg:Expr} {it:Addr} {u:Value} {o:Obj} {n:String} {vs:Array Value} {Q:Unit->Shared->Prop} (ho:s.heap.get? it=some o) (hc:o.cls=.type n) (hd:o.data=.fields vs)
  (hn:["enumerate","zip","dict_itemiterator","dict_reverseitemiterator","odict_iterator","itertools.zip_longest","itertools.pairwise"].contains n=false) (hQ:Q () s):wpAny M A (letOwnedTupleGo tg (.ref it) u) Q E s:=by
 unfold letOwnedTupleGo
 cases tg <;> first
  | exact wpAny_pure hQ
  | (cases u <;> first
    | exact wpAny_pure hQ
    | (refine wpAny_bind (wpAny_load ho ?_);rw [hc,hd];show wpAny M A (if (["enumerate","zip","dict_itemiterator","dict_reverseitemiterator","odict_iterator","itertools.zip_longest","itertools.pairwise"].contains n&&vs[0]? == some (rawInt _))=true then _ else _) Q E s;rw [if_neg (by intro h;rw [hn,Bool.false_and] at h;cases h)];exact wpAny_pure hQ))
def Itl (K:PySem.W.Frag) (a:Addr):It:=
 ⟨fun i H=>∃ xs x,SqL K H a xs/\xs[i]?=some x,fun i H x H'=>H'=H/\∀ xs,SqL K H a xs->xs[i]?=some x,fun i H=>∃ xs,SqL K H a xs/\xs.length<=i⟩
def Itt (K:PySem.W.Frag) (a:Addr):It:=
 ⟨fun i H=>∃ xs x,SqT K H a xs/\xs[i]?=some x,fun i H x H'=>H'=H/\∀ xs,SqT K H a xs->xs[i]?=some x,fun i H=>∃ xs,SqT K H a xs/\xs.length<=i⟩
def Itr (lo:Int) (n:Nat):It:=⟨fun i _=>i < n,fun i H x H'=>H'=H/\x=.int (lo + i),fun i _=>n<=i⟩
theorem Fc {P:Program} {w:World} {K:PySem.W.Frag} {tg:Expr} (a it:Addr):Turn P w K tg (Itl K a) [it] it (fun i h=>h.IsListIter it a i) where
 mem:=by simp
 obj:=fun i h st b hb=>by
  have e:b=it:=by simpa using hb
  subst e
  obtain ⟨o,e,c,d⟩:=st
  exact ⟨o,e,fun v z=>by rw [d] at z;cases z⟩
 keep:=fun i h h' st k=>st.at fun o e=>k it (by simp) o e
 item:=by
  intro X hP hw hK hc i pins s σ H E I hf st hg
  subst hP hw hK
  obtain ⟨xs,x,hq,hx⟩:=hg
  obtain ⟨its,rv,p,hz⟩:=I.list hq
  obtain ⟨u,hu,ru⟩:=rv.get hx
  obtain ⟨f0,f1,f2,f3,f4,f5⟩:=hf it (by simp)
  refine wpAny_pyNext_list_item st p.isList (x:=u) (by simpa using hu) fun h' st' sb=>?_
  have I1:Inv X pins σ H { s with heap:=h' }:=I.turned (t':=s.toks) (fun b o hb e=>(sb.2 b hb).trans e) f0 f1 f3 f4 f5
  obtain ⟨o,e,c,d⟩:=id st'
  exact ⟨u,rfl,kI (s:={ s with heap:=h' }) e c d (by decide) ⟨x,H,I1,ru,⟨rfl,fun ys hy=>by rw [I.list_inj hy hq];exact hx⟩,st',fun b hb=>(hf b hb).1⟩⟩
 done:=by
  intro X hP hw hK hc i pins s σ H E I hf st hg
  subst hP hw hK
  obtain ⟨xs,hq,hx⟩:=hg
  obtain ⟨its,rv,p,hz⟩:=I.list hq
  obtain ⟨f0,f1,f2,f3,f4,f5⟩:=hf it (by simp)
  have hl:=rv.length
  exact wpAny_pyNext_list_end (I.ok.hd hc) st p.isList (by simp;omega) fun h' eb=>⟨rfl,I.turned (t':=s.toks) (fun b o hb e=>eb b o hb e) f0 f1 f3 f4 f5⟩
 self:=fun _ _ _ _ _ st h=>wpAny_pyIter_listiter st h
theorem BC {P:Program} {w:World} {K:PySem.W.Frag} {tg:Expr} (a it:Addr):Turn P w K tg (Itt K a) [it] it (fun i h=>h.IsTupleIter it a i) where
 mem:=by simp
 obj:=fun i h st b hb=>by
  have e:b=it:=by simpa using hb
  subst e
  obtain ⟨o,e,c,d⟩:=st
  exact ⟨o,e,fun v z=>by rw [d] at z;cases z⟩
 keep:=fun i h h' st k=>st.at fun o e=>k it (by simp) o e
 item:=by
  intro X hP hw hK hc i pins s σ H E I hf st hg
  subst hP hw hK
  obtain ⟨xs,x,hq,hx⟩:=hg
  obtain ⟨its,rv,p,hz⟩:=I.tuple hq
  obtain ⟨u,hu,ru⟩:=rv.get hx
  obtain ⟨f0,f1,f2,f3,f4,f5⟩:=hf it (by simp)
  refine wpAny_pyNext_tuple_item st (show s.heap.IsTuple a its.toArray from p) (x:=u) (by simpa using hu) fun h' st' sb=>?_
  have I1:Inv X pins σ H { s with heap:=h' }:=I.turned (t':=s.toks) (fun b o hb e=>(sb.2 b hb).trans e) f0 f1 f3 f4 f5
  obtain ⟨o,e,c,d⟩:=id st'
  exact ⟨u,rfl,kI (s:={ s with heap:=h' }) e c d (by decide) ⟨x,H,I1,ru,⟨rfl,fun ys hy=>by rw [I.tuple_inj hy hq];exact hx⟩,st',fun b hb=>(hf b hb).1⟩⟩
 done:=by
  intro X hP hw hK hc i pins s σ H E I hf st hg
  subst hP hw hK
  obtain ⟨xs,hq,hx⟩:=hg
  obtain ⟨its,rv,p,hz⟩:=I.tuple hq
  obtain ⟨f0,f1,f2,f3,f4,f5⟩:=hf it (by simp)
  have hl:=rv.length
  exact wpAny_pyNext_tuple_end (I.ok.hd hc) st (show s.heap.IsTuple a its.toArray from p) (by simp;omega) fun h' eb=>⟨rfl,I.turned (t':=s.toks) (fun b o hb e=>eb b o hb e) f0 f1 f3 f4 f5⟩
 self:=fun _ _ _ _ _ st h=>wpAny_pyIter_tupleiter st h
theorem AU {P:Program} {w:World} {K:PySem.W.Frag} {tg:Expr} (it:Addr) (lo:Int) (n:Nat):Turn P w K tg (Itr lo n) [it] it (fun i h=>IsRangeIter h it (lo + (i:Nat) * 1) ((n:Int) - (i:Nat)) 1) where
 mem:=by simp
 obj:=fun i h st b hb=>by
  have e:b=it:=by simpa using hb
  subst e
  exact ⟨_,st,fun v z=>by
   have z':Data.fields _=Data.cell v:=z
   cases z'⟩
 keep:=fun i h h' st k=>k it (by simp) _ st
 item:=by
  intro X hP hw hK hc i pins s σ H E I hf st hg
  subst hP hw hK
  obtain ⟨f0,f1,f2,f3,f4,f5⟩:=hf it (by simp)
  have W:=Walks.range (prog:=X.prog) (w:=X.w) (I.ok.hd hc) it lo 1 n
  refine W.item i s _ _ hg st fun v h' tk hv st' kk=>?_
  obtain ⟨t,rfl⟩:=hv
  have I1:Inv X pins σ H { s with heap:=h',toks:=tk }:=I.turned (fun b o hb e=>kk b o (by simpa using hb) e) f0 f1 f3 f4 f5
  refine ⟨_,rfl,kI (s:={ s with heap:=h',toks:=tk }) (n:="range_iterator") st' rfl rfl (by decide) ⟨.int (lo + i),H,I1,⟨t,?_⟩,⟨rfl,rfl⟩,st',fun b hb=>(hf b hb).1⟩⟩
  rw [Int.mul_one]
 done:=by
  intro X hP hw hK hc i pins s σ H E I hf st hg
  subst hP hw hK
  obtain ⟨f0,f1,f2,f3,f4,f5⟩:=hf it (by simp)
  exact wpAny_pyNext_range_end (I.ok.hd hc) st (by have:n<=i:=hg;omega) fun h' eb=>⟨rfl,I.turned (t':=s.toks) (fun b o hb e=>eb b o hb e) f0 f1 f3 f4 f5⟩
 self:=fun _ _ _ _ _ st h=>wpAny_pyIter_rangeiter st h
end L2
namespace L2
open PySem PySem.Spec PyProof.Rows
section
variable {X:Cx} {tg:Expr}
def tR (K:PySem.W.Frag) (tl:TE):TI:=fun σ H R=>tl σ H fun x H1=>∃ a,x=.ref a/\(∃ xs,SqL K H1 a xs)/\R (Itl K a) H1
def zH (K:PySem.W.Frag) (tl:TE):TI:=fun σ H R=>tl σ H fun x H1=>∃ a,x=.ref a/\(∃ xs,SqT K H1 a xs)/\R (Itt K a) H1
theorem Gp {l:Expr} {tl:TE} (hl:PE X l tl):PI X tg l (tR X.K tl):=by
 intro pins s σ H R I h
 refine thn (hl pins s σ H _ I h) fun v s1 ⟨x,H1,I1,r1,q1⟩=>?_
 obtain ⟨a,e,⟨xs,hq⟩,q⟩:=q1
 subst e
 cases r1
 obtain ⟨its,rv,p,hz⟩:=I1.list hq
 refine wpAny_pyIter_list p.isList ?_
 refine ⟨s1.heap.objs.size,[s1.heap.objs.size],_,_,H1,rfl,I1.kept (t':=s1.toks) fun b o e=>Heap.get?_push_of_some _ e,Fc a _,⟨_,Heap.get?_push_size _ rfl,rfl,rfl⟩,fun b hb=>?_,q⟩
 have e:b=s1.heap.objs.size:=by simpa using hb
 subst e
 exact I1.fpOk (Nat.le_refl _) (I1.hok.fresh (Nat.le_refl _))
theorem Bw {l:Expr} {tl:TE} (hl:PE X l tl):PI X tg l (zH X.K tl):=by
 intro pins s σ H R I h
 refine thn (hl pins s σ H _ I h) fun v s1 ⟨x,H1,I1,r1,q1⟩=>?_
 obtain ⟨a,e,⟨xs,hq⟩,q⟩:=q1
 subst e
 cases r1
 obtain ⟨its,rv,p,hz⟩:=I1.tuple hq
 refine wpAny_pyIter_tuple (show s1.heap.IsTuple a its.toArray from p) ?_
 refine ⟨s1.heap.objs.size,[s1.heap.objs.size],_,_,H1,rfl,I1.kept (t':=s1.toks) fun b o e=>Heap.get?_push_of_some _ e,BC a _,⟨_,Heap.get?_push_size _ rfl,rfl,rfl⟩,fun b hb=>?_,q⟩
 have e:b=s1.heap.objs.size:=by simpa using hb
 subst e
 exact I1.fpOk (Nat.le_refl _) (I1.hok.fresh (Nat.le_refl _))
theorem Ez {pins:List (Addr×Obj)} {σ:St} {H:Hp} {s:Shared} {R:It->Hp->Prop} {E:Value->Shared->Prop} {lo hi:Int} {t u v:Tok} {tk:Nat} (I:Inv X pins σ H s) (h1:-(2 ^ 62)<=lo) (h2:lo < 2 ^ 62) (h3:-(2 ^ 62)<=hi) (h4:hi < 2 ^ 62)
  (q:R (Itr lo (hi - lo).toNat) H):wpAny (model X.prog X.w) X.A (pyIter (.ref s.heap.objs.size)) (PIE X pins σ tg R) E { s with heap:=s.heap.push { cls:=.type "range",data:=.fields #[.int lo t,.int hi u,.int 1 v] },toks:=tk }:=by
 refine wpAny_pyIter_range (IsRange.new ..) (small_one h1 h2 h3 h4) ?_
 have I1:Inv X pins σ H { s with heap:=s.heap.push { cls:=.type "range",data:=.fields #[.int lo t,.int hi u,.int 1 v] },toks:=tk }:=I.kept fun b o e=>Heap.get?_push_of_some _ e
 refine ⟨(s.heap.push { cls:=.type "range",data:=.fields #[.int lo t,.int hi u,.int 1 v] }).objs.size,[(s.heap.push { cls:=.type "range",data:=.fields #[.int lo t,.int hi u,.int 1 v] }).objs.size],_,_,H,rfl,
  I1.kept (t':=tk) fun b o e=>Heap.get?_push_of_some _ e,AU _ lo (hi - lo).toNat,?_,fun b hb=>?_,q⟩
 ·have e1:lo + ((0:Nat):Int) * 1=lo:=by simp
  have e2:(((hi - lo).toNat:Nat):Int) - ((0:Nat):Int)=Builtin.Range.rangeSize lo hi 1:=by rw [rangeSize_one];split <;> omega
  show IsRangeIter _ _ (lo + ((0:Nat):Int) * 1) ((((hi - lo).toNat:Nat):Int) - ((0:Nat):Int)) 1
  rw [e1,e2]
  exact Heap.get?_push_size _ rfl
 ·have e:b=(s.heap.push { cls:=.type "range",data:=.fields #[.int lo t,.int hi u,.int 1 v] }).objs.size:=by simpa using hb
  subst e
  exact I1.fpOk (Nat.le_refl _) (I1.hok.fresh (Nat.le_refl _))
def vn (ta:TA):TI:=fun σ H R=>ta σ H fun vs H1=>∃ j:Int,vs=[.int j]/\-(2 ^ 62)<=j/\j < 2 ^ 62/\R (Itr 0 j.toNat) H1
theorem H0 {a:Expr} {ta:TA} {p pos:Pos} (hg:Gl X "range") (hm:X.mg "range"=none) (ha:PA X [a] ta) (hs:starEach [a] X.env=[(false,eval a X.env)]:=by rfl):PI X tg (.Call (.Name "range" p) [a] [] pos) (vn ta):=by
 intro pins s σ H R I h
 refine Call_ (gM I hg hm boot_range (PyProof.Rows.callWith_type1 (thn (ha pos pins s σ H _ I h) fun us s1 ⟨vs,H1,I1,r1,q1⟩=>?_) hs rfl))
 obtain ⟨j,e,q1,q2,q⟩:=q1
 subst e
 cases r1 with
 | cons r rr=>
  cases rr
  obtain ⟨t,rfl⟩:=r
  exact call_range_1 (Ez I1 (by omega) (by omega) q1 q2 (by simpa using q))
def wD (wi:TI) (g:TG) (tb:TS):TS:=fun D σ H=>wi σ H fun J H1=>∃ W:Nat->Nat->St->Hp->Prop,(∃ m,W 0 m σ H1)/\∀ i m σ H,W i m σ H->
 (J.stop i H/\D.nx σ H)\/(J.go i H/\∃ N:St->Hp->Prop,(∀ σ' H',N σ' H'->∃ m',m' < m/\W (i + 1) m' σ' H')/\∀ x H',J.yld i H x H'->g x σ H' fun σ2 H2=>tb { D with nx:=N,ct:=N,bk:=D.nx } σ2 H2)
def lU (fp:List Addr) (h:Heap):List (Addr×Obj):=fp.filterMap fun b=>(h.get? b).map fun o=>(b,o)
theorem n6 {fp:List Addr} {h:Heap} {b:Addr} {o:Obj} (hb:b∈fp) (e:h.get? b=some o):(b,o)∈lU fp h:=List.mem_filterMap.mpr ⟨b,hb,by rw [e];rfl⟩
theorem Ee {fp:List Addr} {h:Heap} {p:Addr×Obj} (hp:p∈lU fp h):p.1∈fp/\h.get? p.1=some p.2:=by
 obtain ⟨b,hb,e⟩:=List.mem_filterMap.mp hp
 cases q:h.get? b with
 | none=>rw [q] at e;cases e
 | some o=>
  rw [q] at e
  have e':(b,o)=p:=Option.some.inj e
  subst e'
  exact ⟨hb,q⟩
theorem Inv.pinned {pins:List (Addr×Obj)} {σ:St} {H:Hp} {s:Shared} {fp:List Addr} (I:Inv X pins σ H s) (hf:∀ b∈fp,dW X pins H b) (ho:∀ b∈fp,∃ o,s.heap.get? b=some o/\∀ v,o.data≠.cell v):Inv X (pins++lU fp s.heap) σ H s:=
 I.pins_of fun p hp=>(List.mem_append.mp hp).elim (fun z=>I.pin p (List.mem_append_right _ z)) fun z=>by
  obtain ⟨hb,e⟩:=Ee z
  obtain ⟨f0,f1,f2,_⟩:=hf p.1 hb
  obtain ⟨o,e',d⟩:=ho p.1 hb
  rw [e] at e';cases e'
  exact ⟨e,f0,f1,f2,d⟩
theorem Inv.unpinned {pins pl:List (Addr×Obj)} {σ:St} {H:Hp} {s:Shared} (I:Inv X (pins++pl) σ H s):Inv X pins σ H s:=I.pins_of fun p hp=>I.pin p (List.mem_append_right _ (List.mem_append_left _ hp))
theorem IM {iter:Expr} {body:List Stmt} {wi:TI} {g:TG} {tb:TS} {pos:Pos} (hp:PassesOwn (model X.prog X.w) X.A X.env X.xe) (hc:X.calm=true) (hi:PI X tg iter wi) (hg:PG X tg g) (hb:PSs X body tb)
  (hs:∀ x,foldedSetIterable iter X.env x=pure x:=by intro _;rfl):PS X (.For tg iter body [] pos) (wD wi g tb):=by
 intro pins s σ H D I h
 refine wpAny_For (thn (hi pins s σ H _ I h) fun v s1 h1=>thn h1 fun itv s2 h2=>?_) hs
 obtain ⟨it,fp,tn,J,H2,e,I2,T,st2,f2,W,⟨m0,w0⟩,turn⟩:=h2
 subst e
 have stat:∀ {H':Hp},(∀ b∈fp,H' b=none)->∀ b∈fp,dW X pins H' b:=fun hn b hb=>⟨hn b hb,(f2 b hb).2⟩
 refine codeAny_forLoop_any (fun n s'=>∃ i σ' H',Inv X pins σ' H' s'/\tn i s'.heap/\(∀ b∈fp,H' b=none)/\W i n σ' H') ?_ m0 ⟨0,σ,H2,I2,st2,fun b hb=>(f2 b hb).1,w0⟩
 rintro n s3 ⟨i,σ3,H3,I3,st3,fr3,w3⟩
 rcases turn i n σ3 H3 w3 with ⟨stop,qn⟩ | ⟨go,N,hN,step⟩
 ·refine wpAny_passesOwn hp (thn (T.done X rfl rfl rfl hc i pins s3 σ3 H3 X.xe I3 (stat fr3) st3 stop) fun r s4 ⟨hr,I4⟩=>?_)
  subst hr
  exact wpAny_execs_nil ⟨σ3,H3,I4,qn⟩
 ·refine wpAny_passesOwn hp (thn (T.item X rfl rfl rfl hc i pins s3 σ3 H3 X.xe I3 (stat fr3) st3 go) fun r s4 ⟨u,hr,h4⟩=>?_)
  subst hr
  refine wpAny_passesOwn hp (thn h4 fun _ s5 ⟨x,H5,I5,r5,y5,st5,fr5⟩=>?_)
  have I5':=I5.pinned (stat fr5) (T.obj _ _ st5)
  refine wpAny_passesOwn hp (thn (hg _ s5 σ3 H5 x u _ I5' r5 (step x H5 y5)) fun _ s6 ⟨σ6,H6,I6,q6⟩=>?_)
  refine wpAny_passesOwn hp (thn (hb _ s6 σ6 H6 _ I6 q6) fun f s7 q7=>?_)
  have again:∀ {σ7:St} {H7:Hp},Inv X (pins++lU fp s5.heap) σ7 H7 s7->N σ7 H7->∃ m,m < n/\∃ i σ' H',Inv X pins σ' H' s7/\tn i s7.heap/\(∀ b∈fp,H' b=none)/\W i m σ' H':=fun {σ7 H7} I7 n7=>by
   obtain ⟨m',hm,w7⟩:=hN σ7 H7 n7
   refine ⟨m',hm,i + 1,σ7,H7,I7.unpinned,T.keep _ _ _ st5 fun b hb o e=>(I7.pin (b,o) (List.mem_append_right _ (List.mem_append_right _ (n6 hb e)))).1,fun b hb=>?_,w7⟩
   obtain ⟨o,e,d⟩:=T.obj _ _ st5 b hb
   exact (I7.pin (b,o) (List.mem_append_right _ (List.mem_append_right _ (n6 hb e)))).2.1
  cases f with
  | next=>obtain ⟨σ7,H7,I7,n7⟩:=q7;exact again I7 n7
  | cont=>obtain ⟨σ7,H7,I7,n7⟩:=q7;exact again I7 n7
  | brk=>obtain ⟨σ7,H7,I7,q7⟩:=q7;exact ⟨σ7,H7,I7.unpinned,q7⟩
  | ret v=>obtain ⟨x7,σ7,H7,I7,r7,q7⟩:=q7;exact ⟨x7,σ7,H7,I7.unpinned,r7,q7⟩
end
end L2
namespace L2
open PySem PySem.Spec PyProof.Rows
abbrev R2:=V->V->Hp->VK->Prop
def OpR (X:Cx) (f:Value->Value->Sem Value) (r:R2):Prop:=
 ∀ (pins:List (Addr×Obj)) (s:Shared) (σ:St) (H:Hp) (x y:V) (v u:Value) (Q:VK),Inv X pins σ H s->RelV x v->RelV y u->r x y H Q->
  wpAny (model X.prog X.w) X.A (f v u) (EP X pins σ Q) X.xe s
def eW (X:Cx) (f:Value) (r:List V->Hp->VK->Prop):Prop:=
 ∀ (pins:List (Addr×Obj)) (s:Shared) (σ:St) (H:Hp) (xs:List V) (us:List Value) (Q:VK),Inv X pins σ H s->Vals xs us->r xs H Q->
  wpAny (model X.prog X.w) X.A (call f us) (EP X pins σ Q) X.xe s
def Er (X:Cx) (r:V->Hp->(Bool->Hp->Prop)->Prop):Prop:=
 ∀ (pins:List (Addr×Obj)) (s:Shared) (σ:St) (H:Hp) (x:V) (v:Value) (Q:Bool->Hp->Prop),Inv X pins σ H s->RelV x v->r x H Q->
  wpAny (model X.prog X.w) X.A (truthy v) (TP X pins σ Q) X.xe s
def tOp (r:R2) (ta tb:TE):TE:=fun σ H Q=>ta σ H fun x H1=>tb σ H1 fun y H2=>r x y H2 Q
def rI (C:Int->Int->Prop) (g:Int->Int->V):R2:=fun x y H Q=>∃ i j,x=.int i/\y=.int j/\C i j/\Q (g i j) H
def rI0 (g:Int->Int->V):R2:=fun x y H Q=>∃ i j,x=.int i/\y=.int j/\Q (g i j) H
section
variable {X:Cx} {a b c:Expr} {ta tb tc:TE} {pos:Pos}
theorem oX (ha:PE X a ta) (hb:PE X b tb) {pins:List (Addr×Obj)} {s:Shared} {σ:St} {H:Hp} {R:V->V->Hp->Prop} (I:Inv X pins σ H s)
  (h:ta σ H fun x H1=>tb σ H1 fun y H2=>R x y H2) {Q:Value->Shared->Prop} {f:Value->Value->Sem Value}
  (hf:∀ v u s2 x y H2,Inv X pins σ H2 s2->RelV x v->RelV y u->R x y H2->wpAny (model X.prog X.w) X.A (f v u) Q X.xe s2) :
  wpAny (model X.prog X.w) X.A (eval a X.env) (fun v s₁=>wpAny (model X.prog X.w) X.A (eval b X.env) (fun u s₂=>wpAny (model X.prog X.w) X.A (f v u) Q X.xe s₂) X.xe s₁) X.xe s:=by
 refine thn (ha pins s σ H _ I h) fun v s1 ⟨x,H1,I1,r1,q1⟩=>?_
 refine thn (hb pins s1 σ H1 _ I1 q1) fun u s2 ⟨y,H2,I2,r2,q2⟩=>?_
 exact hf v u s2 x y H2 I2 r1 r2 q2
theorem DP {op:Operator} {r:R2} (ho:OpR X (binaryOp op) r) (ha:PE X a ta) (hb:PE X b tb):PE X (.BinOp a op b pos) (tOp r ta tb):=by
 intro pins s σ H Q I h
 exact wpAny_BinOp (oX ha hb I h fun v u s2 x y H2 I2 rx ry q=>ho pins s2 σ H2 x y v u Q I2 rx ry q)
theorem opI {f:Value->Value->Sem Value} {C:Int->Int->Prop} {g:Int->Int->Int}
  (rule:∀ (i j:Int) (t u:Tok) (s:Shared) (Q:Value->Shared->Prop) (E:Value->Shared->Prop),C i j->Q (.int (g i j) s.toks) { s with toks:=s.toks + 1 }->wpAny (model X.prog X.w) X.A (f (.int i t) (.int j u)) Q E s) :
  OpR X f (rI C fun i j=>.int (g i j)):=by
 intro pins s σ H x y v u Q I rx ry h
 obtain ⟨i,j,rfl,rfl,hc,q⟩:=h
 obtain ⟨t,rfl⟩:=rx
 obtain ⟨t',rfl⟩:=ry
 exact rule i j t t' s _ _ hc ⟨.int (g i j),H,I.tok _,⟨_,rfl⟩,q⟩
theorem zF {f:Value->Value->Sem Value} {g:Int->Int->Int}
  (rule:∀ (i j:Int) (t u:Tok) (s:Shared) (Q:Value->Shared->Prop) (E:Value->Shared->Prop),Q (.int (g i j) s.toks) { s with toks:=s.toks + 1 }->wpAny (model X.prog X.w) X.A (f (.int i t) (.int j u)) Q E s) :
  OpR X f (rI0 fun i j=>.int (g i j)):=by
 intro pins s σ H x y v u Q I rx ry h
 obtain ⟨i,j,rfl,rfl,q⟩:=h
 obtain ⟨t,rfl⟩:=rx
 obtain ⟨t',rfl⟩:=ry
 exact rule i j t t' s _ _ ⟨.int (g i j),H,I.tok _,⟨_,rfl⟩,q⟩
theorem nj {f:Value->Value->Sem Value} {g:Int->Int->Bool}
  (rule:∀ (i j:Int) (t u:Tok) (s:Shared) (Q:Value->Shared->Prop) (E:Value->Shared->Prop),Q (.bool (g i j)) s->wpAny (model X.prog X.w) X.A (f (.int i t) (.int j u)) Q E s) :
  OpR X f (rI0 fun i j=>.bl (g i j)):=by
 intro pins s σ H x y v u Q I rx ry h
 obtain ⟨i,j,rfl,rfl,q⟩:=h
 obtain ⟨t,rfl⟩:=rx
 obtain ⟨t',rfl⟩:=ry
 exact rule i j t t' s _ _ ⟨.bl (g i j),H,I,rfl,q⟩
def BK (i j:Int):Prop:=0 < j/\j < 1073741824
def mK (i j:Int):Prop:=(-(2 ^ 64) < i/\i < 2 ^ 64)\/(-(2 ^ 64) < j/\j < 2 ^ 64)
theorem mK.ok {i j:Int} (h:mK i j):IntMulOk i j:=by
 rcases h with ⟨h1,h2⟩ | ⟨h1,h2⟩
 ·exact .of_left (intBits_le_64 h1 h2)
 ·exact .of_right (intBits_le_64 h1 h2)
theorem DK:OpR X (binaryOp .Add) (rI0 fun i j=>.int (i + j)):=zF fun _ _ _ _ _ _ _ q=>add_int q
theorem Az:OpR X (binaryOp .Sub) (rI0 fun i j=>.int (i - j)):=zF fun _ _ _ _ _ _ _ q=>sub_int q
theorem B6:OpR X (binaryOp .Mult) (rI mK fun i j=>.int (i * j)):=opI fun _ _ _ _ _ _ _ hc q=>mul_int q hc.ok
theorem CF:OpR X (binaryOp .FloorDiv) (rI BK fun i j=>.int (i / j)):=opI fun i j _ _ _ _ _ hc q=>by
 have h1:(0:Int) < j:=hc.1
 have h2:j < 1073741824:=hc.2
 exact floordiv_int (by omega) (by rw [Int.fdiv_eq_ediv_of_nonneg i (by omega)];exact q) (.inl (PyProof.noPylong_small (by omega)))
theorem Gf:OpR X (binaryOp .Mod) (rI (fun _ j=>0 < j) fun i j=>.int (i % j)):=opI fun i j _ _ _ _ _ hc q=>by
 have h1:(0:Int) < j:=hc
 exact mod_int' (by omega) (by rw [Int.fmod_eq_emod_of_nonneg i (by omega)];exact q)
end
section
variable {X:Cx} {a b c:Expr} {ta tb tc:TE} {pos:Pos}
theorem Ak {pins:List (Addr×Obj)} {σ:St} {H:Hp} {s:Shared} {Q:VK} {k k':Bool} (I:Inv X pins σ H s) (q:Q (.bl k) H) (e:k=k'):EP X pins σ Q (.bool k') s:=by
 subst e
 exact ⟨.bl k,H,I,rfl,q⟩
theorem Jn:OpR X (compareOp .Lt) (rI0 fun i j=>.bl (decide (i < j))):=nj fun _ _ _ _ _ _ _ q=>lt_int q
theorem C3:OpR X (compareOp .LtE) (rI0 fun i j=>.bl (decide (i<=j))):=nj fun _ _ _ _ _ _ _ q=>le_int q
theorem Fv:OpR X (compareOp .Gt) (rI0 fun i j=>.bl (decide (j < i))):=nj fun _ _ _ _ _ _ _ q=>gt_int q
theorem G6:OpR X (compareOp .GtE) (rI0 fun i j=>.bl (decide (j<=i))):=nj fun _ _ _ _ _ _ _ q=>ge_int q
theorem Gq:OpR X (compareOp .IsNot) (fun x y H Q=>y=.non/\Q (.bl (!decide (x=.non))) H):=by
 intro pins s σ H x y v u Q I rx ry h
 obtain ⟨rfl,q⟩:=h
 cases ry
 refine isnot_none_gen (Ak I q ?_)
 cases x <;> first
  | (cases rx;rfl)
  | (obtain ⟨t,rfl⟩:=rx;rfl)
theorem OpR.or {f:Value->Value->Sem Value} {r r':R2} (h:OpR X f r) (h':OpR X f r'):OpR X f (fun x y H Q=>r x y H Q\/r' x y H Q):=by
 intro pins s σ H x y v u Q I rx ry q
 rcases q with q | q
 ·exact h pins s σ H x y v u Q I rx ry q
 ·exact h' pins s σ H x y v u Q I rx ry q
theorem aU (b:Expr) {op:CmpOp} (h:op≠.In:=by decide) (h2:op≠.NotIn:=by decide):behindInMarks op b=false:=by
 have e1:(op == CmpOp.In)=false:=by cases op <;> first | rfl | exact absurd rfl h
 have e2:(op == CmpOp.NotIn)=false:=by cases op <;> first | rfl | exact absurd rfl h2
 cases b <;> simp [behindInMarks,e1,e2]
theorem Fq {op:CmpOp} {r:R2} (ho:OpR X (compareOp op) r) (ha:PE X a ta) (hb:PE X b tb) (hm:behindInMarks op b=false):PE X (.Compare a [op] [b] pos) (tOp r ta tb):=by
 intro pins s σ H Q I h
 exact wpAny_Compare1 (oX ha hb I h fun v u s2 x y H2 I2 rx ry q=>ho pins s2 σ H2 x y v u Q I2 rx ry q) hm
def so (t:TE):TT:=fun σ H Q=>t σ H fun x H'=>∃ k,x=.bl k/\Q k H'
theorem HJ {op:CmpOp} {r:R2} (ho:OpR X (compareOp op) r) (ha:PE X a ta) (hb:PE X b tb) (hm:behindInMarks op b=false):PT X (.Compare a [op] [b] pos) (so (tOp r ta tb)):=by
 intro pins s σ H Q I h
 refine wpAny_isTrue_Compare1 (thn (ha pins s σ H _ I h) fun v s1 ⟨x,H1,I1,r1,q1⟩=>thn (hb pins s1 σ H1 _ I1 q1) fun u s2 ⟨y,H2,I2,r2,q2⟩=>
  thn (ho pins s2 σ H2 x y v u _ I2 r1 r2 q2) fun c s3 ⟨z,H3,I3,r3,k,e,q3⟩=>?_) hm
 subst e
 cases r3
 exact wpAny_truthy_bool ⟨H3,I3,q3⟩
def yF (r r':R2) (ta tb tc:TE):TE:=fun σ H Q=>ta σ H fun x H1=>tb σ H1 fun y H2=>r x y H2 fun z H3=>∃ k,z=.bl k /\
 (if k=true then tc σ H3 fun w' H4=>r' y w' H4 Q else Q (.bl false) H3)
theorem HG {op op':CmpOp} {r r':R2} (ho:OpR X (compareOp op) r) (ho':OpR X (compareOp op') r') (ha:PE X a ta) (hb:PE X b tb) (hc:PE X c tc)
  (hm:lastMarks [op,op'] [b,c]=false:=by with_unfolding_all rfl):PT X (.Compare a [op,op'] [b,c] pos) (so (yF r r' ta tb tc)):=by
 intro pins s σ H Q I h
 refine isTrue_chain (thn (ha pins s σ H _ I h) fun v s1 ⟨x,H1,I1,r1,q1⟩=>test_link (thn (hb pins s1 σ H1 _ I1 q1) fun u s2 ⟨y,H2,I2,r2,q2⟩=>
  thn (ho pins s2 σ H2 x y v u _ I2 r1 r2 q2) fun d s3 ⟨z,H3,I3,r3,k,e,q3⟩=>?_)) hm
 subst e
 cases r3
 refine wpAny_truthy_bool ?_
 cases k with
 | false=>
  obtain ⟨k',e',q'⟩:=q3
  cases e'
  exact ite_ff ⟨H3,I3,q'⟩
 | true=>
  refine ite_tt (test_last (thn (hc pins s3 σ H3 _ I3 q3) fun w' s4 ⟨z',H4,I4,r4,q4⟩=>thn (ho' pins s4 σ H4 y z' u w' _ I4 r2 r4 q4) fun d' s5 ⟨z2,H5,I5,r5,k2,e2,q5⟩=>?_))
  subst e2
  cases r5
  exact wpAny_truthy_bool ⟨H5,I5,q5⟩
def wo (K:PySem.W.Frag) (x:V) (H:Hp) (k:Bool):Prop:=
 match x with
 | .non=>k=false
 | .bl b=>k=b
 | .int i=>k=(i != 0)
 | .str y=>y.length<=sizeLine/\k=((y.length:Int) != 0)
 | .byt y=>y.size<=sizeLine/\k=((y.size:Int) != 0)
 | .ref p=>(∃ xs,SqL K H p xs/\k=!xs.isEmpty)\/(∃ xs,SqT K H p xs/\k=!xs.isEmpty)\/∃ kvs,H p=some (.dK kvs)/\k=!kvs.isEmpty
 | _=>False
theorem Dp {κ:Type} {kvs:List (κ×V)} {vs:List (κ×Value)} (r:KV kvs vs):(!vs.isEmpty)=!kvs.isEmpty:=by
 cases r <;> rfl
theorem xY {xs:List V} {its:List Value} (r:Vals xs its):(!its.toArray.isEmpty)=!xs.isEmpty:=by
 cases r <;> simp
theorem mx:(sizeLine:Nat) < 2 ^ 63:=by rw [sizeLine_eq];decide
theorem D2:Er X (fun x H Q=>∃ k,wo X.K x H k/\Q k H):=by
 intro pins s σ H x v Q I rx h
 obtain ⟨k,e,q⟩:=h
 have hl:=mx
 have hs:sizeLine=16777216:=sizeLine_eq
 cases x with
 | non=>
  cases rx
  have e':k=false:=e
  subst e'
  exact truthy_none ⟨H,I,q⟩
 | bl b=>
  cases rx
  have e':k=b:=e
  subst e'
  exact wpAny_truthy_bool ⟨H,I,q⟩
 | int i=>
  obtain ⟨t,rfl⟩:=rx
  have e':k=(i != 0):=e
  subst e'
  exact PySem.P.truthy_int ⟨H,I,q⟩
 | str y=>
  obtain ⟨t,rfl⟩:=rx
  obtain ⟨hy,e'⟩:y.length<=sizeLine/\k=((y.length:Int) != 0):=e
  subst e'
  exact PySem.P.truthy_str (by omega) ⟨H,I.tok _,q⟩
 | byt y=>
  obtain ⟨t,rfl⟩:=rx
  obtain ⟨hy,e'⟩:y.size<=sizeLine/\k=((y.size:Int) != 0):=e
  subst e'
  exact PySem.W.truthy_bytes (by omega) ⟨H,I.tok _,q⟩
 | ref p=>
  cases rx
  have e':(∃ xs,SqL X.K H p xs/\k=!xs.isEmpty)\/(∃ xs,SqT X.K H p xs/\k=!xs.isEmpty)\/∃ kvs,H p=some (.dK kvs)/\k=!kvs.isEmpty:=e
  rcases e' with ⟨xs,hx,e'⟩ | ⟨xs,hx,e'⟩ | ⟨kvs,hx,e'⟩
  ·subst e'
   obtain ⟨its,r,pl,hz⟩:=I.list hx
   have hlen:=r.length
   exact wpAny_truthy_list pl.isList (by simp only [List.size_toArray];omega) ⟨H,I.tok _,by rw [xY r];exact q⟩
  ·subst e'
   obtain ⟨its,r,pl,hz⟩:=I.tuple hx
   have hlen:=r.length
   exact truthy_tuple pl (by simp only [List.size_toArray];omega) ⟨H,I.tok _,by rw [xY r];exact q⟩
  ·subst e'
   obtain ⟨hz,hS,vs,r,m⟩:kvs.length<=sizeLine/\(p == sysModules)=false/\∃ vs,KV kvs vs/\s.heap.DictOf (dN X.prog X.w) p vs:=I.hok p _ hx
   have hlen:kvs.length=vs.length:=Paired.length r
   exact wpAny_truthy_dict hS m (by omega) ⟨H,I.tok _,by rw [Dp r];exact q⟩
 | _=>exact (show False from e).elim
theorem CC (ha:PE X a ta) (he:∀ whole,isTrue a X.env whole=(do let v<-whole;standAt a.pos;holding [v] (truthy v))) :
  PT X a (fun σ H Q=>ta σ H fun x H'=>∃ k,wo X.K x H' k/\Q k H'):=by
 intro pins s σ H Q I h
 exact isTrue_plain (thn (ha pins s σ H _ I h) fun v s1 ⟨x,H1,I1,r1,q1⟩=>D2 pins s1 σ H1 x v Q I1 r1 q1) (he _)
theorem EH:OpR X (binaryOp .Add) (fun x y H Q=>∃ i j,x=.str i/\y=.str j/\i.length + j.length<=sizeLine/\Q (.str (i++j)) H):=by
 intro pins s σ H x y v u Q I rx ry h
 obtain ⟨i,j,rfl,rfl,hz,q⟩:=h
 obtain ⟨t,rfl⟩:=rx
 obtain ⟨t',rfl⟩:=ry
 exact add_str (fun t' tk=>⟨.str (i++j),H,I.tok _,⟨_,rfl⟩,q⟩) hz
theorem vals1 {x:V} {us:List Value} (r:Vals [x] us):∃ u,us=[u]/\RelV x u:=by
 cases r with
 | cons r1 r2=>cases r2;exact ⟨_,rfl,r1⟩
theorem vals2 {x y:V} {us:List Value} (r:Vals [x,y] us):∃ u w',us=[u,w']/\RelV x u/\RelV y w':=by
 cases r with
 | cons r1 r2=>
  cases r2 with
  | cons r3 r4=>cases r4;exact ⟨_,_,rfl,r1,r3⟩
theorem Jz (hc:X.calm=true):eW X (.builtin "max") (fun xs H Q=>∃ i j,xs=[.int i,.int j]/\Q (.int (if j > i then j else i)) H):=by
 intro pins s σ H xs us Q I r h
 obtain ⟨i,j,rfl,q⟩:=h
 obtain ⟨u,w',rfl,⟨t,rfl⟩,⟨t',rfl⟩⟩:=vals2 r
 refine max_two_ints (I.ok.hd hc) fun h' tk k=>⟨_,H,I.kept k,?_,q⟩
 by_cases hj:j > i
 ·rw [if_pos hj,if_pos hj];exact ⟨_,rfl⟩
 ·rw [if_neg hj,if_neg hj];exact ⟨_,rfl⟩
theorem BI (hc:X.calm=true):eW X (.builtin "min") (fun xs H Q=>∃ i j,xs=[.int i,.int j]/\Q (.int (if j < i then j else i)) H):=by
 intro pins s σ H xs us Q I r h
 obtain ⟨i,j,rfl,q⟩:=h
 obtain ⟨u,w',rfl,⟨t,rfl⟩,⟨t',rfl⟩⟩:=vals2 r
 refine min_two_ints (I.ok.hd hc) fun h' tk k=>⟨_,H,I.kept k,?_,q⟩
 by_cases hj:j < i
 ·rw [if_pos hj,if_pos hj];exact ⟨_,rfl⟩
 ·rw [if_neg hj,if_neg hj];exact ⟨_,rfl⟩
def Jj (K:PySem.W.Frag) (x:V) (H:Hp) (n:Nat):Prop:=
 match x with
 | .str y=>y.length<=sizeLine/\n=y.length
 | .byt y=>y.size<=sizeLine/\n=y.size
 | .ref p=>(∃ xs,SqL K H p xs/\n=xs.length)\/∃ xs,SqT K H p xs/\n=xs.length
 | _=>False
theorem Jo:eW X (.builtin "len") (fun xs H Q=>∃ x n,xs=[x]/\Jj X.K x H n/\Q (.int n) H):=by
 intro pins s σ H xs us Q I r h
 obtain ⟨x,n,rfl,e,q⟩:=h
 obtain ⟨u,rfl,rx⟩:=vals1 r
 have hl:=mx
 have hs:sizeLine=16777216:=sizeLine_eq
 cases x with
 | str y=>
  obtain ⟨t,rfl⟩:=rx
  obtain ⟨hy,e'⟩:y.length<=sizeLine/\n=y.length:=e
  subst e'
  exact len_str (by omega) ⟨.int _,H,I.tok _,⟨_,rfl⟩,q⟩
 | byt y=>
  obtain ⟨t,rfl⟩:=rx
  obtain ⟨hy,e'⟩:y.size<=sizeLine/\n=y.size:=e
  subst e'
  exact PySem.W.len_bytes (by omega) ⟨.int _,H,I.tok _,⟨_,rfl⟩,q⟩
 | ref p=>
  cases rx
  have e':(∃ xs,SqL X.K H p xs/\n=xs.length)\/∃ xs,SqT X.K H p xs/\n=xs.length:=e
  rcases e' with ⟨xs,hx,e'⟩ | ⟨xs,hx,e'⟩
  ·subst e'
   obtain ⟨its,r',pl,hz⟩:=I.list hx
   have hlen:=r'.length
   exact Calls.call_len_list pl.isList (by simp only [List.size_toArray];omega) ⟨.int xs.length,H,I.tok _,⟨_,by simp only [List.size_toArray];rw [hlen]⟩,q⟩
  ·subst e'
   obtain ⟨its,r',pl,hz⟩:=I.tuple hx
   have hlen:=r'.length
   exact len_tuple pl (by simp only [List.size_toArray];omega) ⟨.int xs.length,H,I.tok _,⟨_,by simp only [List.size_toArray];rw [hlen]⟩,q⟩
 | _=>exact (show False from e).elim
end
end L2
namespace L2
open PySem PySem.Spec PyProof.Rows
structure j3 (h:Heap) (x dx C:Addr) (mA:Str->Option Value):Prop where
 obj:h.get? x=some (PySem.W.instObj C dx)
 ns:h.Ns1 dx mA
 ne:dx≠x
theorem Hw {h:Heap} {dx:Addr} {mA:Str->Option Value} (n:h.Ns1 dx mA):∃ od,h.get? dx=some od/\∀ name,PySem.W.lookIn name od=some (mA name):=by
 obtain ⟨o,es,ep,ho,hd,hk,_,hm⟩:=n
 refine ⟨o,ho,fun name=>?_⟩
 have e:=hm name
 unfold nsFind findBy at e
 rw [<-Array.find?_toList] at e
 unfold PySem.W.lookIn
 rw [hd]
 dsimp only
 split
 ·rename_i y q
  rw [q] at e
  exact congrArg some e
 ·rename_i q
  rw [q] at e
  have a:es.toList.any (·.refKey)=false:=by
   rw [List.any_eq_false]
   intro y hy
   obtain ⟨z,t,hkey⟩:=hk y (Array.mem_toList_iff.mp hy)
   simp [DictEntry.refKey,hkey]
  have a':¬ es.toList.any (·.refKey)=true:=by rw [a];exact Bool.false_ne_true
  rw [if_neg a']
  exact congrArg some e
theorem j3.look {h:Heap} {x dx C:Addr} {mA:Str->Option Value} (I:j3 h x dx C mA):∃ od,PySem.W.InstAt h x (PySem.W.instObj C dx) C (some od)/\∀ name,PySem.W.lookIn name od=some (mA name):=
 let ⟨od,ho,hl⟩:=Hw I.ns
 ⟨od,⟨I.obj,rfl,rfl,ho⟩,hl⟩
section
variable {prog:Program} {w:World} {A:Around} {E:Value->Shared->Prop} {s:Shared} {K:PySem.W.Frag} {x dx C f:Addr} {mA:Str->Option Value} {name:Str} {v:Value}
theorem get_map {expr:Bool} {Q:Value->Shared->Prop} (X:K.In s.heap) (I:j3 s.heap x dx C mA) (hg:PySem.W.plainGet K C name=true) (hh:PySem.W.hasDictIn K C=true)
  (ha:PySem.W.findIn K (.ref C) name=some none) (hv:mA name=some v) (hv':PySem.W.handedIn v=true) (h:Q v { s with toks:=s.toks + 1 }) :
  wpAny (model prog w) A (getAttr (.ref x) name expr) Q E s:=by
 obtain ⟨od,J,hl⟩:=I.look
 exact PySem.W.get_value X J (PySem.W.plainGet_of hg).1 (PySem.W.findObj_own hh ha rfl (by rw [hl,hv])) hv' h
theorem CK {pl:Sem Bool} {Q:Value×List Value->Shared->Prop} (X:K.In s.heap) (I:j3 s.heap x dx C mA) (hg:PySem.W.plainGet K C name=true)
  (hf:PySem.W.findIn K (.ref C) name=some (some (.ref f))) (ht:PySem.W.isFn K (.ref f)=true) (hv:mA name=none) (h:Q (.ref f,[.ref x]) s) :
  wpAny (model prog w) A (getMethod (.ref x) name pl) Q E s:=by
 obtain ⟨od,J,hl⟩:=I.look
 exact PySem.W.method_fn X J (PySem.W.plainGet_of hg).1 (PySem.W.plainGet_of hg).2 hf (beq_iff_eq.mp ht) (by show (PySem.W.lookIn name od).map (·.isSome)=some false;rw [hl,hv];rfl) h
theorem z8 {ns:List Str} {Q:Unit->Shared->Prop} (X:K.In s.heap) (I:j3 s.heap x dx C mA)
  (hs:PySem.W.findIn K (.ref C) "__setattr__"=some (some (.builtin "object.__setattr__"))) (hp:PySem.W.plainOver K C=true) (ht:PySem.W.takerIn K C name=some none) (hh:PySem.W.hasDictIn K C=true)
  (hw:PySem.Within mA ns) (hsz:ns.length<=sizeLine)
  (h:∀ h',j3 h' x dx C (fun y=>if y=name then some v else mA y)->Heap.SameBut dx s.heap h'->Q () { s with heap:=h',toks:=s.toks + 2 }) :
  wpAny (model prog w) A (setAttr (.ref x) name v) Q E s:=by
 obtain ⟨od,J,hl⟩:=I.look
 refine PySem.W.set_plain X J hs (PySem.W.osa_open (s:={ s with toks:=s.toks + 1 }) (r:=none) X J hp ht fun b=>?_)
 obtain ⟨cd,hc,hd'⟩:=PySem.W.any_some hh
 have hx:s.heap.get? x=some ⟨.ref C,some dx,.plain,#[]⟩:=I.obj
 refine wpAny_bind (wpAny_pure (wpAny_bind (wpAny_bind (wpAny_loadPart hx (wpAny_bind (PySem.W.Looks.here (s:={ s with toks:=s.toks + 1 }) (PySem.W.looks_clsIn X hc) ?_))))))
 rw [hd']
 refine wpAny_pure (a:=some dx) (wpAny_bind (wpAny_pure (wpAny_bind ?_)))
 refine wpAny_nsSet1 (s:={ s with toks:=s.toks + 1 }) I.ns fun h' hn2 hs2=>?_
 obtain ⟨oD,esD,epD,hoD,hdD,hcD⟩:=hn2.count (PySem.Within.cons name v hw)
 refine wpAny_bind (wpAny_lookBehind hoD (by rw [hdD];exact pastItsLine_dict (Nat.le_trans hcD (by rw [List.length_cons];omega))) ?_)
 exact wpAny_pure (h _ ⟨(hs2.2 _ (Ne.symm I.ne)).trans I.obj,hn2,I.ne⟩ hs2)
theorem A0 {R:Result->Shared->Prop} {vs:List Value} {kw:List (Str×Value)} (X:K.In s.heap) (hm:PySem.W.makesIn K C=true)
  (hi:PySem.W.findIn K (.ref C) "__init__"=some (some (.ref f))) (hf:PySem.W.typeIn K (.ref f)=some (.type "function"))
  (h:codeAny (model prog w) (A.under (.builtin "type.__call__" ⟨.ref C :: vs,kw⟩)) (.call (.ref f) ⟨.ref (s.heap.objs.size + 1) :: vs,kw⟩) (PySem.W.InitBack (s.heap.objs.size + 1) R)
   { s with heap:=(s.heap.push PySem.W.emptyDict).push (PySem.W.instObj C s.heap.objs.size) }) :
  codeAny (model prog w) A (.call (.ref C) ⟨vs,kw⟩) R s:=by
 obtain ⟨hh,g,d,t,os⟩:=s
 exact PySem.W.make_core (PySem.W.makes_of X hm) (PySem.W.looks_findIn X hi) (fun self=>PySem.W.bind_fn X self hf) (.inl rfl) h
end
def c7 (f:Str) (v:V):List (Str×V)->List (Str×V)
 | []=>[(f,v)]
 | (g,x) :: r=>if g=f then (g,v) :: r else (g,x) :: c7 f v r
theorem yD (f g:Str) (v:V):∀ fs:List (Str×V),(c7 f v fs).lookup g=if g=f then some v else fs.lookup g
 | []=>by
  show List.lookup g [(f,v)]=_
  by_cases h:g=f
  ·have hb:(g == f)=true:=beq_iff_eq.mpr h
   simp only [List.lookup,hb,if_pos h]
  ·have hb:(g == f)=false:=beq_eq_false_iff_ne.mpr h
   simp only [List.lookup,hb,if_neg h]
 | (k,x) :: r=>by
  have ih:=yD f g v r
  rw [show c7 f v ((k,x) :: r)=(if k=f then (k,v) :: r else (k,x) :: c7 f v r) from rfl]
  by_cases hk:k=f
  ·rw [if_pos hk]
   by_cases h:g=k
   ·have hb:(g == k)=true:=beq_iff_eq.mpr h
    simp only [List.lookup,hb,if_pos (h.trans hk)]
   ·have hb:(g == k)=false:=beq_eq_false_iff_ne.mpr h
    simp only [List.lookup,hb,if_neg (fun e:g=f=>h (e.trans hk.symm))]
  ·rw [if_neg hk]
   by_cases h:g=k
   ·have hb:(g == k)=true:=beq_iff_eq.mpr h
    simp only [List.lookup,hb,if_neg (fun e:g=f=>hk (h.symm.trans e))]
   ·have hb:(g == k)=false:=beq_eq_false_iff_ne.mpr h
    simp only [List.lookup,hb]
    exact ih
theorem qz (f:Str) (v:V):∀ fs:List (Str×V),f∈(c7 f v fs).map (·.1)/\∀ g,g∈fs.map (·.1)->g∈(c7 f v fs).map (·.1)
 | []=>⟨by simp [c7],fun g h=>by simp at h⟩
 | (k,x) :: r=>by
  obtain ⟨i1,i2⟩:=qz f v r
  rw [show c7 f v ((k,x) :: r)=(if k=f then (k,v) :: r else (k,x) :: c7 f v r) from rfl]
  by_cases hk:k=f
  ·rw [if_pos hk]
   subst hk
   exact ⟨by simp,fun g h=>by simpa using h⟩
  ·rw [if_neg hk]
   refine ⟨?_,fun g h=>?_⟩
   ·rw [List.map_cons]
    exact List.mem_cons_of_mem _ i1
   ·rw [List.map_cons] at h ⊢
    rcases List.mem_cons.mp h with e | e
    ·exact List.mem_cons.mpr (.inl e)
    ·exact List.mem_cons_of_mem _ (i2 g e)
theorem tE (f:Str) (v:V):∀ fs:List (Str×V),(c7 f v fs).length<=fs.length + 1
 | []=>by simp [c7]
 | (k,x) :: r=>by
  have ih:=tE f v r
  rw [show c7 f v ((k,x) :: r)=(if k=f then (k,v) :: r else (k,x) :: c7 f v r) from rfl]
  by_cases hk:k=f
  ·rw [if_pos hk,List.length_cons,List.length_cons];omega
  ·rw [if_neg hk,List.length_cons,List.length_cons];omega
theorem dG.some_of {v:V} {o:Option Value} (r:dG (some v) o):∃ u,o=some u/\RelV v u:=by
 cases o with
 | none=>exact (show False from r).elim
 | some u=>exact ⟨u,rfl,r⟩
theorem dG.none_of {o:Option Value} (r:dG none o):o=none:=by
 cases o with
 | none=>rfl
 | some u=>exact (show False from r).elim
theorem Fg {v:V} {u:Value} (r:RelV v u):PySem.W.handedIn u=true:=by
 cases v with
 | non=>cases (show u=Value.none from r);rfl
 | bl b=>cases (show u=Value.bool b from r);rfl
 | int i=>obtain ⟨t,e⟩:=(show ∃ t,u=Value.int i t from r);cases e;rfl
 | str x=>obtain ⟨t,e⟩:=(show ∃ t,u=Value.str x t from r);cases e;rfl
 | byt b=>obtain ⟨t,e⟩:=(show ∃ t,u=Value.bytes b t from r);cases e;rfl
 | flt b=>obtain ⟨t,e⟩:=(show ∃ t,u=Value.float b t from r);cases e;rfl
 | ref a=>cases (show u=Value.ref a from r);rfl
 | ty n=>cases (show u=Value.type n from r);rfl
section
variable {P:Program} {w:World} {H H':Hp} {h h':Heap} {a C dx:Addr} {fs fs':List (Str×V)}
theorem si (hok:HOk P w H h) (e:H a=some (.ins C dx fs)):∃ mA,j3 h a dx C mA/\(∀ f,dG (fs.lookup f) (mA f))/\PySem.Within mA (fs.map (·.1))/\fs.length<=1000/\H dx=some (.own a):=by
 obtain ⟨d,z,ne,ob,mA,n,r,q⟩:=(show cb P w H h a (.ins C dx fs) from hok a _ e)
 exact ⟨mA,⟨ob,n,ne⟩,r,q,z,d⟩
end
structure Cls (K:PySem.W.Frag) (C:Addr):Prop where
 pg:PySem.W.plainGet K C Str.empty=true
 hd:PySem.W.hasDictIn K C=true
 po:PySem.W.plainOver K C=true
 sa:PySem.W.findIn K (.ref C) "__setattr__"=some (some (.builtin "object.__setattr__"))
theorem Cls.get {K:PySem.W.Frag} {C:Addr} (c:Cls K C) (f:Str):PySem.W.plainGet K C f=true:=c.pg
def gZ (K:PySem.W.Frag) (C:Addr) (f:Str):Prop:=PySem.W.findIn K (.ref C) f=some none
theorem gZ.taker {K:PySem.W.Frag} {C:Addr} {f:Str} (n:gZ K C f):PySem.W.takerIn K C f=some none:=by
 unfold PySem.W.takerIn
 rw [show PySem.W.findIn K (.ref C) f=some none from n]
 rfl
structure Con (K:PySem.W.Frag) (C:Addr) (f:Str) (v:V) (u:Value):Prop where
 at_:PySem.W.findIn K (.ref C) f=some (some u)
 rel:RelV v u
 get:PySem.W.specialIn K u "__get__"=some none
 cp:PySem.W.copiedNames.contains f=false
structure Meth (K:PySem.W.Frag) (C:Addr) (m:Str) (f:Addr):Prop where
 at_:PySem.W.findIn K (.ref C) m=some (some (.ref f))
 fn:PySem.W.isFn K (.ref f)=true
 kp:PySem.W.keepIn K (.ref f)=true
section
variable {X:Cx} {pins:List (Addr×Obj)} {σ:St} {H:Hp} {s:Shared} {a C dx:Addr} {fs:List (Str×V)} {f:Str} {v:V} {A:Around} {E:Value->Shared->Prop}
theorem Gj {b:Bool} {Q:Value->Shared->Prop} (I:Inv X pins σ H s) (e:H a=some (.ins C dx fs)) (c:Cls X.K C) (n:gZ X.K C f) (l:fs.lookup f=some v)
  (h:∀ u s',Inv X pins σ H s'->RelV v u->Q u s'):wpAny (model X.prog X.w) A (getAttr (.ref a) f b) Q E s:=by
 obtain ⟨mA,O,r,_,_,_⟩:=si I.hok e
 obtain ⟨u,hu,ru⟩:=dG.some_of (v:=v) (o:=mA f) (by rw [<-l];exact r f)
 exact get_map I.kIn O (c.get f) c.hd n hu (Fg ru) (h u _ (I.tok _) ru)
theorem va {m:Str} {g:Addr} {pl:Sem Bool} {Q:Value×List Value->Shared->Prop} (I:Inv X pins σ H s) (e:H a=some (.ins C dx fs)) (c:Cls X.K C) (k:Meth X.K C m g) (l:fs.lookup m=none)
  (h:Q (.ref g,[.ref a]) s):wpAny (model X.prog X.w) A (getMethod (.ref a) m pl) Q E s:=by
 obtain ⟨mA,O,r,_,_,_⟩:=si I.hok e
 have hn:mA m=none:=dG.none_of (by rw [<-l];exact r m)
 exact CK I.kIn O (c.get m) k.at_ k.fn hn h
theorem JM {y:V} {u:Value} {Q:Unit->Shared->Prop} (I:Inv X pins σ H s) (e:H a=some (.ins C dx fs)) (c:Cls X.K C) (n:gZ X.K C f) (hl:fs.length < 1000) (ry:RelV y u)
  (h:∀ s',Inv X pins σ (upd H a (.ins C dx (c7 f y fs))) s'->Q () s'):wpAny (model X.prog X.w) A (setAttr (.ref a) f u) Q E s:=by
 obtain ⟨mA,O,r,wi,_,ho⟩:=si I.hok e
 have hz:(fs.map (·.1)).length<=sizeLine:=by rw [List.length_map,sizeLine_eq];omega
 refine z8 I.kIn O c.sa c.po n.taker c.hd wi hz fun h' O' sb=>h _ ?_
 have hd:∃ o,h'.get? dx=some o:=let ⟨o,_,_,e',_⟩:=O'.ns;⟨o,e'⟩
 refine I.write (x:=a) (e:=dx) (by rw [e];exact True.intro) (.inr ho) (fun b q hb z=>(sb.2 b hb).trans z) hd ?_
 refine ⟨by rw [aA O.ne];exact ho,?_,O.ne,O'.obj,_,O'.ns,fun g=>?_,fun g hg=>?_⟩
 ·have:=tE f y fs;omega
 ·show dG ((c7 f y fs).lookup g) (if g=f then some u else mA g)
  rw [yD]
  by_cases q:g=f
  ·rw [if_pos q,if_pos q];exact ry
  ·rw [if_neg q,if_neg q];exact r g
 ·by_cases q:g=f
  ·rw [q];exact (qz f y fs).1
  ·refine (qz f y fs).2 g (wi g fun z=>hg ?_)
   show (if g=f then some u else mA g)=none
   rw [if_neg q];exact z
theorem Inv.made (I:Inv X pins σ H s):Inv X pins σ (upd (upd H s.heap.objs.size (.own (s.heap.objs.size + 1))) (s.heap.objs.size + 1) (.ins C s.heap.objs.size []))
  { s with heap:=(s.heap.push PySem.W.emptyDict).push (PySem.W.instObj C s.heap.objs.size) }:=by
 have e1:(s.heap.push PySem.W.emptyDict).get? s.heap.objs.size=some PySem.W.emptyDict:=Heap.get?_push_size s.heap rfl
 have e2:((s.heap.push PySem.W.emptyDict).push (PySem.W.instObj C s.heap.objs.size)).get? (s.heap.objs.size + 1)=some (PySem.W.instObj C s.heap.objs.size):=by
  have:=Heap.get?_push_size (s.heap.push PySem.W.emptyDict) (o:=PySem.W.instObj C s.heap.objs.size) rfl
  rwa [Heap.size_push] at this
 have e3:(s.heap.push PySem.W.emptyDict).Ns s.heap.objs.size (fun _=>none):=⟨PySem.W.emptyDict,#[],_,e1,rfl,(fun e he=>absurd he (by simp)),fun _=>rfl⟩
 have I1:=I.laid (a:=s.heap.objs.size) (o:=.own (s.heap.objs.size + 1)) (h':=s.heap.push PySem.W.emptyDict) (t':=s.toks) (fun b u q=>Heap.get?_push_of_some _ q) (Nat.le_refl _) ⟨_,e1⟩
 refine I1.laid (a:=s.heap.objs.size + 1) (o:=.ins C s.heap.objs.size []) (t':=s.toks) (fun b u q=>Heap.get?_push_of_some _ q) (Nat.le_of_eq (Heap.size_push _ _)) ?_
 have ne:s.heap.objs.size≠s.heap.objs.size + 1:=Nat.ne_of_lt (Nat.lt_succ_self _)
 refine ⟨by rw [aA ne,bw],Nat.zero_le _,ne,e2,fun _=>none,(Heap.Ns1.of_empty e3).at fun o q=>Heap.get?_push_of_some _ q,fun _=>True.intro,fun y hy=>absurd rfl hy⟩
theorem D4 {prog:Program} {w:World} {env:Env} {e:Expr} {f:Str} {pos:Pos} {s:Shared} {Q:Value->Shared->Prop} (hb:attributeBase e f env (eval e env)=eval e env)
  (h:wpAny (model prog w) A (eval e env) (fun o s₁=>wpAny (model prog w) A (getAttr o f true) Q E s₁) E s):wpAny (model prog w) A (eval (.Attribute e f pos) env) Q E s:=
 Attribute_any_ h (by rw [arm_eval_Attribute,hb])
end
def B3 (K:PySem.W.Frag) (ta:TE) (f:Str):TE:=fun σ H Q=>ta σ H fun x H1=>∃ a C dx fs v,x=.ref a/\H1 a=some (.ins C dx fs)/\Cls K C/\gZ K C f/\fs.lookup f=some v/\Q v H1
def oh (K:PySem.W.Frag) (ta tv:TE) (f:Str):TS:=fun D σ H=>tv σ H fun y H1=>ta σ H1 fun x H2=>∃ a C dx fs,x=.ref a/\H2 a=some (.ins C dx fs)/\Cls K C/\gZ K C f/\fs.length < 1000 /\
 D.nx σ (upd H2 a (.ins C dx (c7 f y fs)))
section
variable {X:Cx} {o e value:Expr} {f:Str} {pos pos' tpos:Pos} {ta tv:TE}
theorem kW (he:PE X e ta) (hb:attributeBase e f X.env (eval e X.env)=eval e X.env):PE X (.Attribute e f pos) (B3 X.K ta f):=by
 intro pins s σ H Q I h
 refine D4 hb (thn (he pins s σ H _ I h) fun u s1 ⟨x,H1,I1,rx,a,C,dx,fs,v,ex,ea,c,n,l,q⟩=>?_)
 subst ex
 obtain rfl:u=Value.ref a:=rx
 exact Gj I1 ea c n l fun u' s2 I2 ru=>⟨v,H1,I2,ru,q⟩
theorem qW (ha:PE X o ta) (hv:PE X value tv) (hs:swapsWith value (some (.Attribute o f pos')) pos.line X.env=pure false):PS X (.Assign [.Attribute o f pos'] value pos) (oh X.K ta tv f):=by
 intro pins s σ H D I h
 refine plainObj_wpAny_Assign_Attribute (thn (hv pins s σ H _ I h) fun u s1 ⟨y,H1,I1,ry,q⟩=>thn (ha pins s1 σ H1 _ I1 q) fun ov s2 ⟨x,H2,I2,rx,a,C,dx,fs,ex,ea,c,n,l,q2⟩=>?_) hs
 subst ex
 obtain rfl:ov=Value.ref a:=rx
 exact JM I2 ea c n l ry fun s3 I3=>⟨σ,_,I3,q2⟩
end
section
variable {X:Cx} {pins:List (Addr×Obj)} {σ:St} {H:Hp} {s:Shared} {A:Around} {E:Value->Shared->Prop} {Q:Value->Shared->Prop} {c:Value} {b:Bool}
inductive f7 (K:PySem.W.Frag) (H:Hp):V->Value->Prop where
 | non:f7 K H .non (.type "NoneType")
 | bl (x:Bool):f7 K H (.bl x) (.type "bool")
 | int (i:Int):f7 K H (.int i) (.type "int")
 | str (x:Str):f7 K H (.str x) (.type "str")
 | flt (x:UInt64):f7 K H (.flt x) (.type "float")
 | lst {a:Addr} {xs:List V} (e:H a=some (.lst xs)):f7 K H (.ref a) (.type "list")
 | frz {a:Addr} {o:Obj} {xs:List V} (e:H a=some (.frz o (.lst xs))):f7 K H (.ref a) (.type "list")
 | tup {a:Addr} {xs:List V} (e:H a=some (.tup xs)):f7 K H (.ref a) (.type "tuple")
 | dK {a:Addr} {kvs:List (Key×V)} (e:H a=some (.dK kvs)):f7 K H (.ref a) (.type "dict")
 | dT {a:Addr} {kvs:List (List Key×V)} (e:H a=some (.dT kvs)):f7 K H (.ref a) (.type "dict")
 | ins {a C dx:Addr} {fs:List (Str×V)} (e:H a=some (.ins C dx fs)) (cl:Cls K C) (ha:PySem.W.findIn K (.ref C) "__class__"=some (some (.builtin "object.__class__")))
   (hn:PySem.W.specialIn K (.builtin "object.__class__") "__get__"=some (some (.builtin "getset_descriptor.__get__"))) (htk:PySem.W.takesIn K (.builtin "object.__class__")=some true)
   (hm:PySem.W.mroIn K C (.type "object")=some true):f7 K H (.ref a) (.ref C)
end
end L2
namespace L2
open PySem PySem.Spec PyProof.Rows
structure bG (k:Nat) (A:Around):Prop where
 hd:A.handled=none
 dp:A.depth + 3 * k + 5 < recursionLimit
 un:A.units + 16 * k + 200 < cLine
 gd:A.guards=some []
theorem bG.mono {j k:Nat} {A:Around} (r:bG k A) (h:j<=k):bG j A:=⟨r.hd,by have:=r.dp;omega,by have:=r.un;omega,r.gd⟩
theorem bG.deeper {k:Nat} {A:Around} (r:bG (k + 1) A) (env:Env):bG k (A.deeper env):=
 ⟨r.hd,by have:=r.dp;show A.depth + 1 + 3 * k + 5 < _;omega,by have:=r.un;show A.units + 3 + 16 * k + 200 < _;omega,r.gd⟩
theorem GP {A:Around} {C:Addr} {us:List Value} {kw:List (Str×Value)}:(A.under (.builtin "type.__call__" ⟨.ref C :: us,kw⟩)).depth=A.depth + 1:=by
 first | rfl | simp [Around.under,Code.weight,Code.isCreation,Code.isGuard,Code.isCaller,Code.frames,Code.isFrame,guardIds]
theorem G3 {A:Around} {C:Addr} {us:List Value} {kw:List (Str×Value)}:(A.under (.builtin "type.__call__" ⟨.ref C :: us,kw⟩)).units=A.units + 1:=by
 first | rfl | simp [Around.under,Code.cUnits,Code.frames,Code.isFrame]
theorem bG.make {k:Nat} {A:Around} (r:bG (k + 1) A) (C:Addr) (us:List Value) (kw:List (Str×Value)):bG k (A.under (.builtin "type.__call__" ⟨.ref C :: us,kw⟩)):=
 ⟨r.hd,by have:=r.dp;rw [GP];omega,by have:=r.un;rw [G3];omega,by have:=r.gd;simp [Around.under,Code.guards,Code.isGuard,guardIds,pushGuards,this]⟩
theorem bG.depth {k:Nat} {A:Around} (r:bG k A):A.depth < recursionLimit:=by have:=r.dp;omega
theorem bG.units {k:Nat} {A:Around} (r:bG k A):A.units + 64 < cLine:=by have:=r.un;omega
def iz:TA:=fun _ H Q=>Q [] H
def kg (ta:TE) (tr:TA):TA:=fun σ H Q=>ta σ H fun x H1=>tr σ H1 fun xs H2=>Q (x :: xs) H2
section
variable {X:Cx} {e:Expr} {es:List Expr} {te:TE} {t:TA} {pos:Pos}
theorem fU:PA X [] iz:=fun _ _ _ _ H Q I h=>Calls.spliced_nil ⟨[],H,I,.nil,h⟩
theorem fQ (ha:PE X e te) (hr:PA X es t) (hs:starEach (e :: es) X.env=(false,eval e X.env) :: starEach es X.env:=by rfl):PA X (e :: es) (kg te t):=by
 intro pos pins s σ H Q I h
 rw [hs]
 show wpAny _ _ (spliced ((false,eval e X.env) :: backTo pos (starEach es X.env))) _ _ s
 refine Calls.spliced_cons (thn (ha pins s σ H _ I h) fun u s1 ⟨x,H1,I1,r1,q1⟩=>?_)
 exact thn (hr pos pins s1 σ H1 _ I1 q1) fun us s2 ⟨xs,H2,I2,r2,q2⟩=>⟨x :: xs,H2,I2,.cons r1 r2,q2⟩
def zh (t:TA):TE:=fun σ H Q=>t σ H fun xs H1=>xs.length<=sizeLine/\∀ p,H1 p=none->Q (.ref p) (upd H1 p (.tup xs))
def n5 (t:TA):TE:=fun σ H Q=>t σ H fun xs H1=>xs.length<=sizeLine/\∀ p,H1 p=none->Q (.ref p) (upd H1 p (.lst xs))
theorem oW {x1} (h:PA X es t):PE X (.Tuple es x1 pos) (zh t):=by
 intro pins s σ H Q I hq
 refine wpAny_Tuple_spliced (thn (h pos pins s σ H _ I hq) fun us s1 ⟨xs,H1,I1,r,z,q⟩=>⟨by rw [<-r.length];exact z,?_⟩)
 have hf:H1 s1.heap.objs.size=none:=I1.hok.fresh (Nat.le_refl _)
 refine ⟨.ref s1.heap.objs.size,upd H1 s1.heap.objs.size (.tup xs),I1.laid (t':=s1.toks) (fun b u e=>Heap.get?_push_of_some _ e) (Nat.le_refl _) ?_,rfl,q _ hf⟩
 exact ⟨z,us,r,⟨_,Heap.get?_push_size _ rfl,rfl,_,rfl⟩⟩
theorem pA (h:PA X es t):PE X (.List es pos) (n5 t):=by
 intro pins s σ H Q I hq
 refine wpAny_List_spliced (thn (h pos pins s σ H _ I hq) fun us s1 ⟨xs,H1,I1,r,z,q⟩=>⟨by rw [<-r.length];exact z,?_⟩)
 have hf:H1 s1.heap.objs.size=none:=I1.hok.fresh (Nat.le_refl _)
 refine ⟨.ref s1.heap.objs.size,upd H1 s1.heap.objs.size (.lst xs),I1.laid (t':=s1.toks) (fun b u e=>Heap.get?_push_of_some _ e) (Nat.le_refl _) ?_,rfl,q _ hf⟩
 exact ⟨z,us,0,r,Heap.get?_push_size _ rfl⟩
end
abbrev Sp:=List V->Hp->VK->XK->Prop
abbrev CXT:=List Env->Hp->Shared->XK->Value->Shared->Prop
structure jm (P:Program) (w:World) (K:PySem.W.Frag) (mg:Str->Option Value) (base:Heap) (A:Around) (outer:List Env) (s:Shared) (H:Hp):Prop where
 frames:A.frames=some outer
 mod:Mod K mg base
 bs:∀ b o,base.get? b=some o->s.heap.get? b=some o/\H b=none
 bsz:base.objs.size<=s.heap.objs.size
 funs:s.heap.FunFrames base outer
 frf:∀ b∈frs outer,H b=none
 hok:HOk P w H s.heap
 bare:AllBare s.gens
def CE (outer:List Env) (P:Program) (w:World) (H:Hp) (s:Shared) (Q:VK) (u:Value) (s':Shared):Prop:=
 ∃ v H',s'.os=s.os/\AllBare s'.gens/\Un (frs outer) [] H H' s.heap s'.heap/\HOk P w H' s'.heap/\RelV v u/\Q v H'
def CR (CX:CXT) (outer:List Env) (P:Program) (w:World) (H:Hp) (s:Shared) (Q:VK) (E:XK) (r:Result) (s':Shared):Prop:=
 match r with
 | .ok (.ret u)=>CE outer P w H s Q u s'
 | .ok _=>False
 | .error e=>CX outer H s E e s'
structure aR (P:Program) (w:World) (K:PySem.W.Frag) (mg:Str->Option Value) (base:Heap) (CX:CXT) (k:Nat) (f:Addr) (fd:FuncData) (ps:List Str) (sp:Sp):Prop where
 len:∀ vs H Q E,sp vs H Q E->vs.length=ps.length
 run:∀ (A:Around) (outer:List Env) (s:Shared) (H:Hp) (args:Args) (us:List Value) (vs:List V) (Q:VK) (E:XK),bG k A->jm P w K mg base A outer s H->BindsTo s fd args (ps.zip us)->Vals vs us->sp vs H Q E->
  codeAny (model P w) A (.call (.ref f) args) (CR CX outer P w H s Q E) s
theorem aR.imp {P:Program} {w:World} {K:PySem.W.Frag} {mg:Str->Option Value} {base:Heap} {CX:CXT} {k:Nat} {f:Addr} {fd:FuncData} {ps:List Str} {sp sp':Sp} (F:aR P w K mg base CX k f fd ps sp)
  (h:∀ vs H Q E,sp' vs H Q E->sp vs H Q E):aR P w K mg base CX k f fd ps sp':=
 ⟨fun vs H Q E q=>F.len vs H Q E (h _ _ _ _ q),fun A outer s H args us vs Q E hr he hb hv hs=>F.run A outer s H args us vs Q E hr he hb hv (h _ _ _ _ hs)⟩
theorem jm.make {P:Program} {w:World} {K:PySem.W.Frag} {mg:Str->Option Value} {base:Heap} {A:Around} {outer:List Env} {s:Shared} {H:Hp} (e:jm P w K mg base A outer s H) (C:Addr) (us:List Value) (kw:List (Str×Value)) :
  jm P w K mg base (A.under (.builtin "type.__call__" ⟨.ref C :: us,kw⟩)) outer s H:=⟨by first | exact e.frames | (simpa [Around.under,Code.envs,Code.isFrame,pushEnvs] using e.frames),e.mod,e.bs,e.bsz,e.funs,e.frf,e.hok,e.bare⟩
section
variable {X:Cx} {pins:List (Addr×Obj)} {σ:St} {H:Hp} {s s':Shared}
theorem Inv.env0 (I:Inv X pins σ H s):jm X.prog X.w X.K X.mg X.base X.A X.stack s H:=
 ⟨I.ok.frames,I.ok.mod,I.bs,Nat.le_trans I.ok.bsz I.sz,I.stack,I.stkFree,I.hok,I.bare⟩
theorem Inv.after {Q:VK} {u:Value} (I:Inv X pins σ H s) (h:CE X.stack X.prog X.w H s Q u s'):EP X pins σ Q u s':=by
 obtain ⟨v,H',os,bare,un,hok,r,q⟩:=h
 obtain ⟨hh,g,d,t,os'⟩:=s'
 obtain rfl:os'=s.os:=os
 exact ⟨v,H',I.call (h':=hh) (g':=g) (d':=d) (t':=t) (ch:=[]) un hok bare (fun b z=>absurd z (by simp)),r,q⟩
end
def lF (sp:Sp) (dvs:List V) (E:XK) (t:TA):TE:=fun σ H Q=>t σ H fun vs H1=>sp (vs++dvs) H1 Q E
def mM (C:Addr) (m:Str) (sp:Sp) (dvs:List V) (E:XK) (ta:TE) (t:TA):TE:=fun σ H Q=>ta σ H fun x H1=>∃ a dx fs,x=.ref a/\H1 a=some (.ins C dx fs)/\fs.lookup m=none /\
 t σ H1 fun vs H2=>sp (x :: (vs++dvs)) H2 Q E
def JD (C:Addr) (sp:Sp) (dvs:List V) (E:XK) (t:TA):TE:=fun σ H Q=>t σ H fun vs H1=>∀ x dx,H1 x=none->H1 dx=none->dx≠x->
 sp (.ref x :: (vs++dvs)) (upd (upd H1 dx (.own x)) x (.ins C dx [])) (fun v H2=>v=.non/\Q (.ref x) H2) E
def Binds (K:PySem.W.Frag) (fd:FuncData) (ps:List Str) (ds:List Value):Prop:=
 ∀ (s:Shared) (us:List Value),K.In s.heap->(us++ds).length=ps.length->BindsTo s fd ⟨us,[]⟩ (ps.zip (us++ds))
theorem Binds.all {K:PySem.W.Frag} {fd:FuncData} {ps:List Str} (h:∀ us:List Value,us.length=ps.length->bindArgs fd ⟨us,[]⟩=pure (ps.zip us)):Binds K fd ps []:=fun s us _ hl=>by
 rw [List.append_nil] at hl ⊢
 exact .of_eq (h us hl)
def Passes (CX:CXT) (X:Cx) (E:XK):Prop:=∀ (pins:List (Addr×Obj)) (σ:St) (H:Hp) (s:Shared) (e:Value) (s':Shared),Inv X pins σ H s->CX X.stack H s E e s'->X.xe e s'
section
variable {X:Cx} {CX:CXT} {k:Nat} {f C:Addr} {fd:FuncData} {ps:List Str} {sp:Sp} {dvs:List V} {ds:List Value} {E:XK} {x m:Str} {p pos apos:Pos} {e o:Expr} {es:List Expr} {ta:TE} {t:TA}
theorem sk {pins:List (Addr×Obj)} {σ:St} {H:Hp} {s:Shared} {Q:VK} {us:List Value} {vs:List V} (F:aR X.prog X.w X.K X.mg X.base CX k f fd ps sp) (hr:bG k X.A) (hb:Binds X.K fd ps ds) (hd:Vals dvs ds) (hx:Passes CX X E)
  (I:Inv X pins σ H s) (r:Vals vs us) (h:sp (vs++dvs) H Q E):wpAny (model X.prog X.w) X.A (call (.ref f) us) (EP X pins σ Q) X.xe s:=by
 have r2:Vals (vs++dvs) (us++ds):=r.append hd
 have hl:(us++ds).length=ps.length:=by rw [<-r2.length];exact F.len _ _ _ _ h
 refine wpAny_call (codeAny_mono (F.run X.A X.stack s H ⟨us,[]⟩ (us++ds) (vs++dvs) Q E hr I.env0 (hb s us I.kIn hl) r2 h) fun r s' hq=>?_)
 cases r with
 | error e=>exact hx pins σ H s e s' I hq
 | ok fl=>
  cases fl with
  | ret u=>exact I.after hq
  | next=>exact False.elim hq
  | brk=>exact False.elim hq
  | cont=>exact False.elim hq
theorem nV (F:aR X.prog X.w X.K X.mg X.base CX k f fd ps sp) (hr:bG k X.A) (hg:Gl X x) (hm:X.mg x=some (.ref f)) (hk:PySem.W.keepIn X.K (.ref f)=true) (hb:Binds X.K fd ps ds) (hd:Vals dvs ds) (hx:Passes CX X E)
  (ha:PA X (e :: es) t) (hdb:(x == ("__debug__":Str))=false:=by decide) (he:starEach (e :: es) X.env=(false,eval e X.env) :: starEach es X.env:=by rfl) (hpl:(backTo pos (starEach es X.env)).any (·.1)=false:=by rfl) :
  PE X (.Call (.Name x p) (e :: es) [] pos) (lF sp dvs E t):=by
 intro pins s σ H Q I h
 refine wpAny_Call_Name_kw (qg I hg hm ?_ hdb)
 refine PySem.W.callWith_K (h₀:=X.base) I.ok.mod.kin hk (thn (ha pos pins s σ H _ I h) fun us s1 ⟨vs,H1,I1,r,q⟩=>⟨I1.kIn,?_⟩) he hpl
 exact sk F hr hb hd hx I1 r q
theorem xy {pl:Sem Bool} (he:PE X o ta) (c:Cls X.K C) (hm:Meth X.K C m f) (F:aR X.prog X.w X.K X.mg X.base CX k f fd ps sp) (hr:bG k X.A) (hb:Binds X.K fd ps ds) (hd:Vals dvs ds) (hx:Passes CX X E) (ha:PA X (e :: es) t)
  (hst:starEach (e :: es) X.env=(false,eval e X.env) :: starEach es X.env:=by rfl) (hpl:(backTo pos (starEach es X.env)).any (·.1)=false:=by rfl)
  (ht:eval (.Call (.Attribute o m apos) (e :: es) [] pos) X.env=(do
   let ov<-eval o X.env
   standAt apos.atName
   let (f,first)<-holding [ov] (getMethod ov m pl)
   callWith pos f first (backTo pos (starEach (e :: es) X.env)) (backToKw pos (keywordEach [] X.env))):=by rfl) :
  PE X (.Call (.Attribute o m apos) (e :: es) [] pos) (mM C m sp dvs E ta t):=by
 intro pins s σ H Q I h
 refine PySem.W.methodCall_KW (pl:=pl) (thn (he pins s σ H _ I h) fun u s1 ⟨x,H1,I1,rx,a,dx,fs,ex,ea,l,q⟩=>?_) ht
 subst ex
 obtain rfl:u=Value.ref a:=rx
 refine va I1 ea c hm l ?_
 refine PySem.W.callWith_K (first:=[.ref a]) (h₀:=X.base) I.ok.mod.kin hm.kp (thn (ha pos pins s1 σ H1 _ I1 q) fun us s2 ⟨vs,H2,I2,r,q2⟩=>⟨I2.kIn,?_⟩) hst hpl
 exact sk (us:=.ref a :: us) (vs:=.ref a :: vs) F hr hb hd hx I2 (.cons rfl r) q2
theorem JB {pl:Sem Bool} (he:PE X o ta) (c:Cls X.K C) (hm:Meth X.K C m f) (F:aR X.prog X.w X.K X.mg X.base CX k f fd ps sp) (hr:bG k X.A) (hb:Binds X.K fd ps ds) (hd:Vals dvs ds) (hx:Passes CX X E)
  (ht:eval (.Call (.Attribute o m apos) [] [] pos) X.env=(do
   let ov<-eval o X.env
   standAt apos.atName
   let (f,first)<-holding [ov] (getMethod ov m pl)
   callWith pos f first (backTo pos (starEach [] X.env)) (backToKw pos (keywordEach [] X.env))):=by rfl) :
  PE X (.Call (.Attribute o m apos) [] [] pos) (mM C m sp dvs E ta iz):=by
 intro pins s σ H Q I h
 refine PySem.W.methodCall_KW (pl:=pl) (thn (he pins s σ H _ I h) fun u s1 ⟨x,H1,I1,rx,a,dx,fs,ex,ea,l,q⟩=>?_) ht
 subst ex
 obtain rfl:u=Value.ref a:=rx
 refine va I1 ea c hm l ?_
 exact PySem.W.callWith_K0 (first:=[.ref a]) I1.kIn hm.kp (sk (us:=[.ref a]) (vs:=[.ref a]) F hr hb hd hx I1 (.cons rfl .nil) q)
structure Mk (K:PySem.W.Frag) (C f:Addr):Prop where
 makes:PySem.W.makesIn K C=true
 init:PySem.W.findIn K (.ref C) "__init__"=some (some (.ref f))
 fn:PySem.W.isFn K (.ref f)=true
 kp:PySem.W.keepIn K (.ref C)=true
theorem HN {pins:List (Addr×Obj)} {σ:St} {H:Hp} {s:Shared} {Q:VK} {us:List Value} {vs:List V} (M:Mk X.K C f) (F:aR X.prog X.w X.K X.mg X.base CX k f fd ps sp) (hr:bG (k + 1) X.A) (hb:Binds X.K fd ps ds) (hd:Vals dvs ds)
  (hx:Passes CX X E) (I:Inv X pins σ H s) (r:Vals vs us)
  (h:∀ x dx,H x=none->H dx=none->dx≠x->sp (.ref x :: (vs++dvs)) (upd (upd H dx (.own x)) x (.ins C dx [])) (fun v H2=>v=.non/\Q (.ref x) H2) E) :
  wpAny (model X.prog X.w) X.A (call (.ref C) us) (EP X pins σ Q) X.xe s:=by
 have hq:=h (s.heap.objs.size + 1) s.heap.objs.size (I.hok.fresh (Nat.le_succ _)) (I.hok.fresh (Nat.le_refl _)) (Nat.ne_of_lt (Nat.lt_succ_self _))
 have I2:=Inv.made (C:=C) I
 have r2:Vals (V.ref (s.heap.objs.size + 1) :: (vs++dvs)) (Value.ref (s.heap.objs.size + 1) :: (us++ds)):=.cons rfl (r.append hd)
 have hl:(Value.ref (s.heap.objs.size + 1) :: us++ds).length=ps.length:=by
  have e:=r2.length
  rw [F.len _ _ _ _ hq] at e
  exact e.symm
 refine wpAny_call (A0 (f:=f) I.kIn M.makes M.init (beq_iff_eq.mp M.fn) (codeAny_mono (F.run _ X.stack _ _ ⟨Value.ref (s.heap.objs.size + 1) :: us,[]⟩ (Value.ref (s.heap.objs.size + 1) :: (us++ds)) _ _ E (hr.make C us [])
  (I2.env0.make C us []) (hb _ (Value.ref (s.heap.objs.size + 1) :: us) I2.kIn hl) r2 hq) fun r s' hq'=>?_))
 cases r with
 | error e=>exact hx pins σ _ _ e s' I2 hq'
 | ok fl=>
  cases fl with
  | ret u=>
   obtain ⟨v,H',I3,rv,ev,q3⟩:=I2.after hq'
   subst ev
   exact ⟨rv,⟨V.ref (s.heap.objs.size + 1),H',I3,rfl,q3⟩⟩
  | next=>exact False.elim hq'
  | brk=>exact False.elim hq'
  | cont=>exact False.elim hq'
theorem CG (M:Mk X.K C f) (F:aR X.prog X.w X.K X.mg X.base CX k f fd ps sp) (hr:bG (k + 1) X.A) (hg:Gl X x) (hm:X.mg x=some (.ref C)) (hb:Binds X.K fd ps ds) (hd:Vals dvs ds) (hx:Passes CX X E)
  (hdb:(x == ("__debug__":Str))=false:=by decide):PE X (.Call (.Name x p) [] [] pos) (JD C sp dvs E iz):=by
 intro pins s σ H Q I h
 refine wpAny_Call_Name_kw (qg I hg hm ?_ hdb)
 exact PySem.W.callWith_K0 I.kIn M.kp (HN (us:=[]) M F hr hb hd hx I .nil h)
end
section
variable {X:Cx} {CX:CXT} {k:Nat} {f C:Addr} {fd:FuncData} {ps ks:List Str} {sp:Sp} {E:XK} {x m:Str} {p pos apos kpos:Pos} {e o:Expr} {es:List Expr} {kws:List Keyword} {te ta:TE} {t tk:TA} {nm:Option Str}
structure JS (K:PySem.W.Frag) (fd:FuncData) (ps ks:List Str) (g:List Value->List Value->List Value) (gV:List V->List V->List V):Prop where
 to:∀ (s:Shared) (us ws:List Value),K.In s.heap->(g us ws).length=ps.length->BindsTo s fd ⟨us,ks.zip ws⟩ (ps.zip (g us ws))
 rel:∀ {vs:List V} {us:List Value} {zs:List V} {ws:List Value},Vals vs us->Vals zs ws->Vals (gV vs zs) (g us ws)
variable {g:List Value->List Value->List Value} {gV:List V->List V->List V}
end
structure bj (N P:List Str) (sc:Scope):Prop where
 kind:sc.kind=.function
 co:sc.isCoroutine=false
 gen:sc.isGenerator=false
 nd:N.Nodup
 pre:N.take P.length=P
 par:∀ x∈P,sc.names.lookup x=some .local\/sc.names.lookup x=some .cell
 nofree:∀ y∈sc.names,y.2≠.free
theorem xt {kindOf:Str->Option NameKind} {x:Str}:∀ {binds:List (Str×Value)} {m:Str->Option Value},(∀ v,(x,v)∉binds)->bindL kindOf binds m x=m x
 | [],_,_=>rfl
 | (n,v) :: r,m,h=>by
  unfold bindL
  rw [xt fun w hw=>h w (List.mem_cons_of_mem _ hw)]
  split
  ·have:x≠n:=by rintro rfl;exact h v List.mem_cons_self
   simp [this]
  ·rfl
theorem sN {kindOf:Str->Option NameKind} {x:Str}:∀ {binds:List (Str×Value)} {m:Str->Option Value},(∀ v,(x,v)∉binds)->bindC kindOf binds m x=m x
 | [],_,_=>rfl
 | (n,v) :: r,m,h=>by
  unfold bindC
  rw [sN fun w hw=>h w (List.mem_cons_of_mem _ hw)]
  split
  ·rfl
  ·have:x≠n:=by rintro rfl;exact h v List.mem_cons_self
   simp [this]
theorem zq {kindOf:Str->Option NameKind} {x:Str} {v:Value}:∀ {P:List Str} {vs:List Value} {i:Nat} {m:Str->Option Value},P.Nodup->P[i]?=some x->vs[i]?=some v->kindOf x=some .local->
  bindL kindOf (P.zip vs) m x=some v
 | [],_,_,_,_,h,_,_=>by simp at h
 | _ :: _,[],_,_,_,_,h,_=>by simp at h
 | p :: P,w :: vs,0,m,nd,h1,h2,hk=>by
  simp at h1 h2;subst h1;subst h2
  show bindL kindOf ((p,w) :: P.zip vs) m p=_
  unfold bindL
  rw [xt fun v hv=>(List.nodup_cons.mp nd).1 (List.of_mem_zip hv).1,if_pos hk]
  simp
 | p :: P,w :: vs,i + 1,m,nd,h1,h2,hk=>by
  show bindL kindOf ((p,w) :: P.zip vs) m x=_
  unfold bindL
  exact zq (i:=i) (List.nodup_cons.mp nd).2 (by simpa using h1) (by simpa using h2) hk
theorem ya {kindOf:Str->Option NameKind} {x:Str} {v:Value}:∀ {P:List Str} {vs:List Value} {i:Nat} {m:Str->Option Value},P.Nodup->P[i]?=some x->vs[i]?=some v->kindOf x≠some .local->
  bindC kindOf (P.zip vs) m x=some v
 | [],_,_,_,_,h,_,_=>by simp at h
 | _ :: _,[],_,_,_,_,h,_=>by simp at h
 | p :: P,w :: vs,0,m,nd,h1,h2,hk=>by
  simp at h1 h2;subst h1;subst h2
  show bindC kindOf ((p,w) :: P.zip vs) m p=_
  unfold bindC
  rw [sN fun v hv=>(List.nodup_cons.mp nd).1 (List.of_mem_zip hv).1,if_neg hk]
  simp
 | p :: P,w :: vs,i + 1,m,nd,h1,h2,hk=>by
  show bindC kindOf ((p,w) :: P.zip vs) m x=_
  unfold bindC
  exact ya (i:=i) (List.nodup_cons.mp nd).2 (by simpa using h1) (by simpa using h2) hk
def start (N:List Str) (vs:List V):St:=vs.map some++List.replicate (N.length - vs.length) none
def gY (CX:CXT) (P:Program) (w:World) (K:PySem.W.Frag) (mg:Str->Option Value) (base:Heap) (N:List Str) (qual:Str) (scope:Scope) (f:Addr) (cd:Value) (A:Around) (outer:List Env) (s:Shared) (H:Hp) (E:XK):Cx where
 prog:=P
 w:=w
 K:=K
 mg:=mg
 base:=base
 A:=A.deeper (envOfC qual scope s.heap.objs.size f cd)
 N:=N
 s₀:=s
 H₀:=H
 env:=envOfC qual scope s.heap.objs.size f cd
 outer:=outer
 stack:=envOfC qual scope s.heap.objs.size f cd :: outer
 ex:=[]
 calm:=true
 fn:=fun _=>true
 pn:=[]
 xe:=fun e s'=>wpAny (model P w) (A.deeper (envOfC qual scope s.heap.objs.size f cd)) (leaving (envOfC qual scope s.heap.objs.size f cd) e) (fun _ s''=>CX outer H s E e s'') (fun e' s''=>CX outer H s E e' s'') s'
theorem vU {sc:Scope} {n:Nat} {x:Str} (h:sc.names.lookup x=some .cell):∃ c,(cellsFrom n sc.names []).lookup x=some c:=by
 have q:=PySem.W.cellsFrom_some sc.names n [] (.inl h)
 exact Option.isSome_iff_exists.mp q
theorem Ht {CX:CXT} {P:Program} {w:World} {K:PySem.W.Frag} {mg:Str->Option Value} {base:Heap} {N ps:List Str} {qual:Str} {scope:Scope} {f:Addr} {cd:Value} {A:Around} {outer:List Env} {s s1:Shared} {H:Hp} {E:XK} {us:List Value} {vs:List V}
  (S:bj N ps scope) (hd:A.handled=none) (e0:jm P w K mg base A outer s H) (hl:vs.length=ps.length) (r:Vals vs us)
  (x:InCallC s s.heap.objs.size (bindL (envOfC qual scope s.heap.objs.size f cd).kindOf (ps.zip us) fun _=>none) (cellsFrom (s.heap.objs.size + 1) scope.names []) (bindC (envOfC qual scope s.heap.objs.size f cd).kindOf (ps.zip us) fun _=>none) s1) :
  Inv (gY CX P w K mg base N qual scope f cd A outer s H E) [] (start N vs) H s1:=by
 have hpl:ps.length<=N.length:=by have:=congrArg List.length S.pre;rw [List.length_take] at this;omega
 obtain ⟨h1,tk,rfl,hk⟩:=x.done
 have noA:∀ b:Addr,b∉(gY CX P w K mg base N qual scope f cd A outer s H E).ex:=fun b z=>absurd (show b∈([]:List Addr) from z) (by simp)
 refine ⟨⟨e0.mod,S.kind,rfl,rfl,Nat.le_refl _,fun y z c h1 h2=>?_,fun y hy=>?_,fun y c _ h=>?_,fun _=>hd,Around.frames_deeper e0.frames,.inr ⟨rfl,rfl⟩,fun b z=>absurd z (noA b),e0.bs,e0.bsz,fun b _ _=>noA b,fun b z=>absurd z (noA b),e0.funs,e0.frf⟩,
  rfl,e0.bare,Un.kept hk,⟨_,x.toInCall.ns,fun i y v h1 h2 h3=>?_⟩,fun y c h=>⟨_,x.cell y c h⟩,e0.hok.fresh (Nat.le_refl _),fun y c h=>?_,fun p hp=>absurd (show p∈([]:List (Addr×Obj)) from hp) (by simp),e0.hok.kept hk,?_⟩
 ·exact name_of_addr x.apart (PySem.mem_of_lookup h1) (PySem.mem_of_lookup h2)
 ·have hy:scope.names.lookup y=some .cell\/scope.names.lookup y=some .free:=hy
  rcases hy with hy | hy
  ·exact vU hy
  ·exact absurd rfl (S.nofree _ (PySem.mem_of_lookup hy))
 ·exact Nat.le_of_lt (x.above y c (PySem.mem_of_lookup h))
 ·have hi:i < vs.length:=by
   unfold start at h2
   by_cases hi:i < vs.length
   ·exact hi
   ·rw [List.getElem?_append_right (by simpa using hi)] at h2
    rw [List.getElem?_replicate] at h2
    split at h2 <;> cases h2
  have ha:vs[i]?=some v:=by
   unfold start at h2
   rw [List.getElem?_append_left (by simpa using hi),List.getElem?_map] at h2
   cases e:vs[i]? with
   | none=>rw [e] at h2;cases h2
   | some a=>rw [e] at h2;cases h2;rfl
  obtain ⟨u,hu,rv⟩:=r.get ha
  have hp:ps[i]?=some y:=by
   rw [<-S.pre,List.getElem?_take_of_lt (by omega)];exact h1
  have ndP:ps.Nodup:=by rw [<-S.pre];exact S.nd.sublist (List.take_sublist _ _)
  refine ⟨u,rv,?_⟩
  rcases S.par y (List.mem_of_getElem? hp) with k | k
  ·exact .inl ⟨k,zq ndP hp hu k⟩
  ·obtain ⟨c,e⟩:=vU (n:=s.heap.objs.size + 1) k
   refine .inr ⟨.inl k,c,e,?_⟩
   have q:=x.cell y c e
   rw [ya ndP hp hu (by show scope.names.lookup y≠_;rw [k];decide)] at q
   exact q
 ·exact e0.hok.fresh (Nat.le_of_lt (x.above y c (PySem.mem_of_lookup h)))
 ·unfold start
  show _=N.length
  rw [List.length_append,List.length_map,List.length_replicate]
  omega
theorem Hu {CX:CXT} {P:Program} {w:World} {K:PySem.W.Frag} {mg:Str->Option Value} {base:Heap} {k:Nat} {f:Addr} {name qual:Str} {params:Arguments} {body:List Stmt} {scope:Scope} {dV kV doc pm cdv ct oc:Value} {an od:Option Addr}
  {osl:Array (Option Value)} {N ps:List Str} {sp:Sp} (lk:K.lookup f=some ⟨oc,od,.func (PySem.W.fnOf name qual params body scope dV kV doc pm an cdv ct),osl⟩) (hcd:PySem.W.codeIn K cdv qual=true) (S:bj N ps scope)
  (len:∀ vs H Q E,sp vs H Q E->vs.length=ps.length)
  (hbody:∀ (A:Around) (outer:List Env) (s:Shared) (H:Hp) (vs:List V) (Q:VK) (E:XK),bG k (A.deeper (envOfC qual scope s.heap.objs.size f cdv))->sp vs H Q E->
   ∃ t,PSs (gY CX P w K mg base N qual scope f cdv A outer s H E) body t/\t { nx:=fun _ H'=>Q .non H',rt:=Q } (start N vs) H) :
  aR P w K mg base CX (k + 1) f (PySem.W.fnOf name qual params body scope dV kV doc pm an cdv ct) ps sp:=by
 refine ⟨len,fun A outer s H args us vs Q E hr e0 hb r hsp=>?_⟩
 have hl:=len _ _ _ _ hsp
 have KX:K.In s.heap:=e0.mod.kin.keeps fun b o e=>(e0.bs b o e).1
 have lim:s.heap.NoLimit:=e0.mod.nolimit.keeps fun b o e=>(e0.bs b o e).1
 have hkind:∀ y∈ps.zip us,scope.names.lookup y.1=some .local\/(scope.names.lookup y.1=some .cell/\((cellsFrom (s.heap.objs.size + 1) scope.names []).lookup y.1).isSome=true):=fun ⟨n,v⟩ hy=>by
  rcases S.par n (List.of_mem_zip hy).1 with q | q
  ·exact .inl q
  ·exact .inr ⟨q,PySem.W.cellsFrom_some _ _ _ (.inl q)⟩
 refine codeAny_call_function hr.depth (KX _ _ lk) rfl S.co S.gen rfl (PySem.W.codeRec_of KX hcd) (hb _ _ _ _ ?_)
 refine wpAny_newFunctionEnv_cells S.kind hkind fun env he s1 x=>?_
 subst he
 refine ⟨lim.keeps x.toInCall.keep,codeAny_func ?_⟩
 obtain ⟨t,ht,hq⟩:=hbody A outer s H vs Q E (hr.deeper _) hsp
 have I:Inv (gY CX P w K mg base N qual scope f cdv A outer s H E) [] (start N vs) H s1:=Ht S hr.hd e0 hl r x
 refine wpAny_mono (ht [] s1 (start N vs) H _ I hq) (fun fl s' hs=>?_) fun e s' hs=>hs
 have fin:∀ {σ':St} {H':Hp} {v:V} {u:Value},Inv (gY CX P w K mg base N qual scope f cdv A outer s H E) [] σ' H' s'->RelV v u->Q v H'->CE outer P w H s Q u s':=
  fun {σ' H' v u} J rv q=>⟨v,H',J.os,J.bare,J.base,J.hok,rv,q⟩
 cases fl with
 | ret u=>
  obtain ⟨v,σ',H',J,rv,q⟩:=hs
  exact fin J rv q
 | next=>
  obtain ⟨σ',H',J,q⟩:=hs
  exact fin (v:=V.non) (u:=Value.none) J rfl q
 | brk=>
  obtain ⟨_,_,_,q⟩:=hs
  exact False.elim q
 | cont=>
  obtain ⟨_,_,_,q⟩:=hs
  exact False.elim q
end L2
namespace L2
open PySem PySem.Spec PyProof.Rows
section
variable {X:Cx} {x:Str} {p pos:Pos} {e:Expr} {es:List Expr} {t:TA} {id T:String} {r:List V->Hp->VK->Prop}
def tCB (r:List V->Hp->VK->Prop) (t:TA):TE:=fun σ H Q=>t σ H fun vs H1=>r vs H1 Q
theorem zD (hc:eW X (.builtin id) r) (hg:Gl X x) (hm:X.mg x=none) (hv:bootBuiltins x=some (.builtin id)) (ha:PA X (e :: es) t) (hn:x≠"__name__":=by decide) (hdb:(x == ("__debug__":Str))=false:=by decide)
  (he:starEach (e :: es) X.env=(false,eval e X.env) :: starEach es X.env:=by rfl) (hpl:(backTo pos (starEach es X.env)).any (·.1)=false:=by rfl):PE X (.Call (.Name x p) (e :: es) [] pos) (tCB r t):=by
 intro pins s σ H Q I h
 refine wpAny_Call_Name_kw (gM I hg hm hv ?_ hn hdb)
 exact PyProof.Rows.callWith_builtin1 (thn (ha pos pins s σ H _ I h) fun us s1 ⟨vs,H1,I1,r1,q1⟩=>hc pins s1 σ H1 vs us Q I1 r1 q1) he hpl
theorem FI (hc:eW X (.type T) r) (hg:Gl X x) (hm:X.mg x=none) (hv:bootBuiltins x=some (.type T)) (ha:PA X (e :: es) t) (hn:x≠"__name__":=by decide) (hdb:(x == ("__debug__":Str))=false:=by decide)
  (he:starEach (e :: es) X.env=(false,eval e X.env) :: starEach es X.env:=by rfl) (hpl:(backTo pos (starEach es X.env)).any (·.1)=false:=by rfl):PE X (.Call (.Name x p) (e :: es) [] pos) (tCB r t):=by
 intro pins s σ H Q I h
 refine wpAny_Call_Name_kw (gM I hg hm hv ?_ hn hdb)
 exact PyProof.Rows.callWith_type1 (thn (ha pos pins s σ H _ I h) fun us s1 ⟨vs,H1,I1,r1,q1⟩=>hc pins s1 σ H1 vs us Q I1 r1 q1) he hpl
end
end L2
namespace HT
open PySem PyProof.Rows
section
open PySem.SeqAt
open PySem.AutoSeq1 (wpAny_loadPart')
open PySem.MeetsSeq PySem.MeetsSeq2 PySem.MeetsSeq3
end
section
variable {prog:Program} {w:World} {A:Around} {E:Value->Shared->Prop} {s:Shared}
theorem CW {t b:Addr} {vs ws:List Value} {Q:Value->Shared->Prop} (ht:IsTup s.heap t vs.toArray) (hb:IsTup s.heap b ws.toArray) (hv:vs≠[])
  (h1:ws=[]->Q (.ref t) s) (h2:ws≠[]->Q (.ref s.heap.objs.size) { s with heap:=s.heap.push { cls:=.type "tuple",data:=.seq (vs++ws).toArray } })
  (hsz:vs.length + ws.length<=sizeLine):wpAny (model prog w) A (binaryOp .Add (.ref t) (.ref b)) Q E s:=by
 obtain ⟨⟨cls,dd,data,sl⟩,ho,hc,n,hd⟩:=id ht
 obtain ⟨⟨cls2,dd2,data2,sl2⟩,ho2,hc2,n2,hd2⟩:=id hb
 simp only at hc hd hc2 hd2
 subst hc hd hc2 hd2
 have e:vs.toArray++ws.toArray=(vs++ws).toArray:=by simp
 by_cases hw:ws=[]
 ·exact concat_meets ⟨_,ho,rfl⟩ ⟨_,ho2,rfl⟩ noFill_tuple_add seq_tuple_add PySem.F.slot_tuple_add PySem.F.entry_tuple_add (PySem.F.args_tuple_add_2 _ _)
   (tuple_addW1 t b vs.toArray ws.toArray n n2 dd dd2 sl sl2 (by simpa using hv) (by simp [hw])) ⟨ho,ho2,h1 hw⟩
 ·refine concat_meets ⟨_,ho,rfl⟩ ⟨_,ho2,rfl⟩ noFill_tuple_add seq_tuple_add PySem.F.slot_tuple_add PySem.F.entry_tuple_add (PySem.F.args_tuple_add_2 _ _)
   (tuple_addW2 t b vs.toArray ws.toArray n n2 dd dd2 sl sl2 (by simpa using hv) (by simpa using hw) (by rw [List.size_toArray,List.size_toArray];exact hsz)) ⟨ho,ho2,?_⟩
  rw [e]
  exact h2 hw
def sIx (n d:Nat):Option Int->Nat
 | none=>d
 | some v=>if v < 0 then (v + (n:Int)).toNat else min v.toNat n
theorem sj (n d:Nat):sIx n d none=d:=rfl
theorem jw (n d k:Nat):sIx n d (some (k:Int))=min k n:=by
 show (if (k:Int) < 0 then ((k:Int) + (n:Int)).toNat else min (k:Int).toNat n)=min k n
 rw [if_neg (by omega),Int.toNat_natCast]
end
end HT
namespace L2
open PySem PySem.Spec PyProof.Rows
abbrev TO:=St->Hp->(Option Int->Hp->Prop)->Prop
def PO (X:Cx) (e:Option Expr) (t:TO):Prop:=
 ∀ (pins:List (Addr×Obj)) (s:Shared) (σ:St) (H:Hp) (Q:Option Int->Hp->Prop),Inv X pins σ H s->t σ H Q->
  wpAny (model X.prog X.w) X.A (evalPart e X.env) (fun u s'=>∃ o H',Inv X pins σ H' s'/\IsPart u o/\Q o H') X.xe s
def EE:TO:=fun _ H Q=>Q none H
def IB (t:TE):TO:=fun σ H Q=>t σ H fun x H1=>∃ i,x=.int i/\Q (some i) H1
section
variable {X:Cx} {e:Expr} {te:TE} {lo hi:Option Expr} {tl th:TO} {pos p2:Pos}
theorem G9:PO X none EE:=by
 intro pins s σ H Q I h
 rw [evalPart_none]
 exact wpAny_pure ⟨none,H,I,.none,h⟩
theorem ID (h:PE X e te):PO X (some e) (IB te):=by
 intro pins s σ H Q I hw
 rw [evalPart_some]
 refine thn (h pins s σ H _ I hw) fun u s1 ⟨x,H1,I1,r1,q1⟩=>?_
 obtain ⟨i,rfl,q⟩:=q1
 obtain ⟨t,rfl⟩:=r1
 exact ⟨some i,H1,I1,.int i t,q⟩
def SlR (X:Cx) (r:V->Option Int->Option Int->Hp->VK->Prop):Prop:=
 ∀ (pins:List (Addr×Obj)) (s:Shared) (σ:St) (H:Hp) (x:V) (v vl vu:Value) (lo hi:Option Int) (sl:Addr) (Q:VK),Inv X pins σ H s->RelV x v->s.heap.IsSliceOf sl vl vu .none->IsPart vl lo->IsPart vu hi->r x lo hi H Q->
  ∃ T id,typeLookup (.type T) "__getitem__"=pure (some (.builtin id))/\s.TypeIs v T/\wpAny (model X.prog X.w) X.A (getItem v (.ref sl)) (EP X pins σ Q) X.xe s
theorem SlR.or {r r':V->Option Int->Option Int->Hp->VK->Prop} (h:SlR X r) (h':SlR X r'):SlR X (fun x lo hi H Q=>r x lo hi H Q\/r' x lo hi H Q):=by
 intro pins s σ H x v vl vu lo hi sl Q I rx hs pl pu q
 rcases q with q | q
 ·exact h pins s σ H x v vl vu lo hi sl Q I rx hs pl pu q
 ·exact h' pins s σ H x v vl vu lo hi sl Q I rx hs pl pu q
def tSl (r:V->Option Int->Option Int->Hp->VK->Prop) (te:TE) (tl th:TO):TE:=fun σ H Q=>te σ H fun x H1=>tl σ H1 fun l H2=>th σ H2 fun u H3=>r x l u H3 Q
theorem FA {r:V->Option Int->Option Int->Hp->VK->Prop} (hr:SlR X r) (he:PE X e te) (hl:PO X lo tl) (hu:PO X hi th):PE X (.Subscript e (.Slice lo hi none p2) pos) (tSl r te tl th):=by
 intro pins s σ H Q I h
 refine Subscript_ (thn (he pins s σ H _ I h) fun v s1 ⟨x,H1,I1,r1,q1⟩=>?_)
 refine wpAny_Slice (thn (hl pins s1 σ H1 _ I1 q1) fun vl s2 ⟨l,H2,I2,pl,q2⟩=>thn (hu pins s2 σ H2 _ I2 q2) fun vu s3 ⟨u,H3,I3,pu,q3⟩=>?_)
 rw [evalPart_none]
 refine wpAny_pure ?_
 have I4:Inv X pins σ H3 { s3 with heap:=s3.heap.push { cls:=.type "slice",data:=.fields #[vl,vu,.none] } }:=I3.kept (t':=s3.toks) fun b ob q=>Heap.get?_push_of_some _ q
 obtain ⟨T,id,hT,ht,hg⟩:=hr pins { s3 with heap:=s3.heap.push { cls:=.type "slice",data:=.fields #[vl,vu,.none] } } σ H3 x v vl vu l u s3.heap.objs.size Q I4 r1 (Heap.IsSliceOf.new ..) pl pu q3
 show wpAny (model X.prog X.w) X.A (subscriptTail e (.Slice lo hi none p2) v (.ref s3.heap.objs.size)) (EP X pins σ Q) X.xe { s3 with heap:=s3.heap.push { cls:=.type "slice",data:=.fields #[vl,vu,.none] } }
 exact tail_any (ops:=[.ref s3.heap.objs.size,v]) ht hT hg (by with_unfolding_all rfl)
def kj (xs:List V) (lo hi:Option Int):List V:=(xs.drop (HT.sIx xs.length 0 lo)).take (HT.sIx xs.length xs.length hi - HT.sIx xs.length 0 lo)
theorem CN (xs:List V) (lo hi:Option Int):(kj xs lo hi).length<=xs.length:=by
 unfold kj
 rw [List.length_take,List.length_drop]
 omega
def GZ (K:PySem.W.Frag):R2:=fun x y H Q=>∃ a b xs ys,x=.ref a/\y=.ref b/\SqT K H a xs/\SqT K H b ys/\xs≠[]/\xs.length + ys.length<=sizeLine /\
 (ys=[]->Q (.ref a) H)/\(ys≠[]->∀ p,H p=none->Q (.ref p) (upd H p (.tup (xs++ys))))
theorem Vals.nil_iff {xs:List V} {us:List Value} (r:Vals xs us):us=[]↔xs=[]:=by
 cases r with
 | nil=>simp
 | cons _ _=>simp
theorem Cp:OpR X (binaryOp .Add) (GZ X.K):=by
 intro pins s σ H x y v u Q I rx ry h
 obtain ⟨a,b,xs,ys,rfl,rfl,ha,hb,hx,hz,q1,q2⟩:=h
 cases rx
 cases ry
 obtain ⟨its,r1,p1,_⟩:=I.tuple ha
 obtain ⟨its2,r2,p2,_⟩:=I.tuple hb
 refine HT.CW p1 p2 (fun z=>hx (r1.nil_iff.mp z)) (fun z=>⟨.ref a,H,I,rfl,q1 (r2.nil_iff.mp z)⟩) (fun z=>?_) (by rw [<-r1.length,<-r2.length];exact hz)
 refine ⟨.ref s.heap.objs.size,_,I.laid (t':=s.toks) (o:=.tup (xs++ys)) (fun b ob q=>Heap.get?_push_of_some _ q) (Nat.le_refl _) ?_,rfl,q2 (fun w=>z (r2.nil_iff.mpr w)) _ (I.hok.fresh (Nat.le_refl _))⟩
 exact ⟨by rw [List.length_append];exact hz,_,r1.append r2,IsTup.new _ _⟩
end
end L2
namespace L2
open PySem PySem.Spec PyProof.Rows
def ixN (n:Nat) (i:Int):Option Nat:=if 0<=i then (if i < n then some i.toNat else none) else if -(n:Int)<=i then some (i + n).toNat else none
def atI {α:Type} (xs:List α) (i:Int):Option α:=(ixN xs.length i).bind fun j=>xs[j]?
theorem D8 {n:Nat} {i:Int} {j:Nat} (h:ixN n i=some j):seqIndex? i n=some j/\j < n/\-(n:Int)<=i/\i < n:=by
 unfold ixN at h
 by_cases h0:0<=i
 ·rw [if_pos h0] at h
  by_cases h1:i < n
  ·rw [if_pos h1] at h
   have e:i.toNat=j:=Option.some.inj h
   exact ⟨by rw [seqIndex_of h0 h1,e],by omega,by omega,h1⟩
  ·rw [if_neg h1] at h;cases h
 ·rw [if_neg h0] at h
  by_cases h1:-(n:Int)<=i
  ·rw [if_pos h1] at h
   have e:(i + n).toNat=j:=Option.some.inj h
   exact ⟨by rw [seqIndex_neg (by omega) h1,e],by omega,h1,by omega⟩
  ·rw [if_neg h1] at h;cases h
theorem qp {α:Type} {xs:List α} {i:Int} {v:α} (h:atI xs i=some v):∃ j,seqIndex? i xs.length=some j/\xs[j]?=some v/\j < xs.length/\-(xs.length:Int)<=i/\i < xs.length:=by
 unfold atI at h
 cases e:ixN xs.length i with
 | none=>rw [e] at h;cases h
 | some j=>
  rw [e] at h
  obtain ⟨h1,h2,h3,h4⟩:=D8 e
  exact ⟨j,h1,h,h2,h3,h4⟩
def oj (b:Expr):Prop:=∀ o i,subscripted b false o i=operate [o,i] (getItem o i)
def IxR (X:Cx) (r:R2):Prop:=
 ∀ (value slice:Expr) (pins:List (Addr×Obj)) (s:Shared) (σ:St) (H:Hp) (x y:V) (v u:Value) (Q:VK),Inv X pins σ H s->RelV x v->RelV y u->r x y H Q->
  subscripted slice false v u=operate [v,u] (getItem v u)->wpAny (model X.prog X.w) X.A (subscriptTail value slice v u) (EP X pins σ Q) X.xe s
def MtR (X:Cx) (id:String) (r:V->List V->Hp->VK->Prop):Prop:=
 ∀ (pins:List (Addr×Obj)) (s:Shared) (σ:St) (H:Hp) (x:V) (xs:List V) (v:Value) (us:List Value) (Q:VK),Inv X pins σ H s->RelV x v->Vals xs us->r x xs H Q->
  wpAny (model X.prog X.w) X.A (call (.builtin id) (v :: us)) (EP X pins σ Q) X.xe s
section
variable {X:Cx} {a b:Expr} {ta tb:TE} {pos:Pos}
theorem IxR.or {r r':R2} (h:IxR X r) (h':IxR X r'):IxR X (fun x y H Q=>r x y H Q\/r' x y H Q):=by
 intro value slice pins s σ H x y v u Q I rx ry q hs
 rcases q with q | q
 ·exact h value slice pins s σ H x y v u Q I rx ry q hs
 ·exact h' value slice pins s σ H x y v u Q I rx ry q hs
theorem pF {r:R2} (hr:IxR X r) (ha:PE X a ta) (hb:PE X b tb) (hs:oj b):PE X (.Subscript a b pos) (tOp r ta tb):=by
 intro pins s σ H Q I h
 exact Subscript_ (oX ha hb I h fun v u s2 x y H2 I2 rx ry q=>hr a b pins s2 σ H2 x y v u Q I2 rx ry q (hs _ _))
def uR (K:PySem.W.Frag):R2:=fun x y H Q=>∃ p xs i v,x=.ref p/\y=.int i/\SqL K H p xs/\atI xs i=some v/\Q v H
def uE (K:PySem.W.Frag):R2:=fun x y H Q=>∃ p xs i v,x=.ref p/\y=.int i/\SqT K H p xs/\atI xs i=some v/\Q v H
def zN:R2:=fun x y H Q=>∃ z i c,x=.str z/\y=.int i/\z.length<=sizeLine/\atI z.cps.toList i=some c/\Q (.str ⟨#[c]⟩) H
theorem Av:IxR X (uR X.K):=by
 intro value slice pins s σ H x y v u Q I rx ry h hs
 obtain ⟨p,xs,i,z,rfl,rfl,hq,he,q⟩:=h
 cases rx
 obtain ⟨t,rfl⟩:=ry
 obtain ⟨its,r,pl,hz⟩:=I.list hq
 obtain ⟨j,h1,h2,h3,h4,h5⟩:=qp he
 obtain ⟨w,ew,rw'⟩:=r.get h2
 have hl:=r.length
 have hn:=mx
 have fin:EP X pins σ Q w s:=⟨z,H,I,rw',q⟩
 by_cases h0:0<=i
 ·have hj:i.toNat=j:=by
   rw [seqIndex_of h0 h5] at h1
   exact Option.some.inj h1
  exact item_listR pl.isList h0 (by omega) (by rw [hj];simpa using ew) fin hs
 ·have hj:(i + (its.toArray.size:Int)).toNat=j:=by
   rw [seqIndex_neg (by omega) h4] at h1
   rw [List.size_toArray,<-hl]
   exact Option.some.inj h1
  exact subscriptTail_builtinR (x:=w) pl.isList.typeIs slot_list_getitem.lookup
   (wpAny_getItem_list_neg (Q:=fun r s'=>r=w/\EP X pins σ Q r s') pl.isList (by omega) (by rw [List.size_toArray] <;> omega) (by omega) (by rw [hj];simpa using ew) ⟨rfl,fin⟩) hs
theorem Bc:IxR X (uE X.K):=by
 intro value slice pins s σ H x y v u Q I rx ry h hs
 obtain ⟨p,xs,i,z,rfl,rfl,hq,he,q⟩:=h
 cases rx
 obtain ⟨t,rfl⟩:=ry
 obtain ⟨its,r,pl,hz⟩:=I.tuple hq
 obtain ⟨j,h1,h2,h3,h4,h5⟩:=qp he
 obtain ⟨w,ew,rw'⟩:=r.get h2
 have hl:=r.length
 have hn:=mx
 have fin:EP X pins σ Q w s:=⟨z,H,I,rw',q⟩
 exact subscriptTail_builtinR (x:=w) pl.typeIs slot_tuple_getitem.lookup
  (getItem_tuple (j:=j) (Q:=fun r s'=>r=w/\EP X pins σ Q r s') pl (by omega) (by omega) (by rw [List.size_toArray,<-hl];exact h1) (by simpa using ew) ⟨rfl,fin⟩) hs
theorem Gx:IxR X zN:=by
 intro value slice pins s σ H x y v u Q I rx ry h hs
 obtain ⟨z,i,c,rfl,rfl,hz,he,q⟩:=h
 obtain ⟨t,rfl⟩:=rx
 obtain ⟨t',rfl⟩:=ry
 obtain ⟨j,h1,h2,h3,h4,h5⟩:=qp he
 have hl:z.cps.toList.length=z.length:=by simp [Str.length]
 rw [hl] at h1 h4 h5
 have hn:=mx
 exact tail_any (typeIs_str s z t) slot_str_getitem.lookup (getItem_str (c:=c) (by
  have e1:decide (i < -(2 ^ 63:Int))=false:=decide_eq_false (by omega)
  have e2:decide (i >= 2 ^ 63)=false:=decide_eq_false (by omega)
  rw [e1,e2,Bool.or_false]) (by rw [h1];simpa using h2) ⟨.str ⟨#[c]⟩,H,I.tok _,⟨_,rfl⟩,q⟩) hs
def rIx (K:PySem.W.Frag):R2:=fun x y H Q=>uR K x y H Q\/uE K x y H Q\/zN x y H Q
theorem IX:IxR X (rIx X.K):=Av.or (Bc.or Gx)
theorem Inv.lst {pins:List (Addr×Obj)} {σ:St} {H:Hp} {s:Shared} {p:Addr} {xs:List V} (I:Inv X pins σ H s) (h:H p=some (.lst xs)) :
  ∃ (its:List Value) (n:Nat),Vals xs its/\s.heap.get? p=some { cls:=.type "list",data:=.seq its.toArray n }/\xs.length<=sizeLine:=by
 obtain ⟨z,its,n,r,e⟩:=I.hok p _ h
 exact ⟨its,n,r,e,z⟩
theorem HU (lo hi:Option Int) (n:Nat):(sliceBounds lo hi none n).1=((HT.sIx n 0 lo:Nat):Int)/\(sliceBounds lo hi none n).2.1=((HT.sIx n n hi:Nat):Int)/\(sliceBounds lo hi none n).2.2=1:=by
 refine ⟨?_,?_,rfl⟩
 ·cases lo with
  | none=>simp [sliceBounds,HT.sIx]
  | some i=>
   simp only [sliceBounds,HT.sIx,Option.getD_none,show (1:Int) > 0 by decide,if_true]
   by_cases h:i < 0
   ·simp only [h,if_true] <;> omega
   ·simp only [h,if_false] <;> omega
 ·cases hi with
  | none=>simp [sliceBounds,HT.sIx]
  | some i=>
   simp only [sliceBounds,HT.sIx,Option.getD_none,show (1:Int) > 0 by decide,if_true]
   by_cases h:i < 0
   ·simp only [h,if_true] <;> omega
   ·simp only [h,if_false] <;> omega
theorem Bo (its:List Value) (lo hi:Option Int):slicePick its.toArray lo hi none=((its.drop (HT.sIx its.length 0 lo)).take (HT.sIx its.length its.length hi - HT.sIx its.length 0 lo)).toArray:=by
 obtain ⟨h1,h2,h3⟩:=HU lo hi its.toArray.size
 unfold slicePick
 rw [h1,h2,h3]
 simp only [sliceRange_one,pick_run,List.size_toArray] <;> rfl
def BM (K:PySem.W.Frag):V->Option Int->Option Int->Hp->VK->Prop:=fun x lo hi H Q=>∃ a xs,x=.ref a/\SqL K H a xs/\∀ p,H p=none->Q (.ref p) (upd H p (.lst (kj xs lo hi)))
theorem Gz:SlR X (BM X.K):=by
 intro pins s σ H x v vl vu lo hi sl Q I rx hs pl pu h
 obtain ⟨a,xs,rfl,hx,q⟩:=h
 cases rx
 obtain ⟨its,r,ht,hz⟩:=I.list hx
 have hlen:=r.length
 refine ⟨"list",_,slot_list_getitem.lookup,ht.isList.typeIs,?_⟩
 refine wpAny_getItem_list_slice ht.isList hs pl pu .none (by simp) ?_ (by rw [List.size_toArray] <;> omega)
 rw [Bo,<-hlen]
 refine ⟨.ref s.heap.objs.size,_,I.laid (t':=s.toks) (o:=.lst (kj xs lo hi)) (fun b ob q=>Heap.get?_push_of_some _ q) (Nat.le_refl _) ?_,rfl,q _ (I.hok.fresh (Nat.le_refl _))⟩
 exact ⟨Nat.le_trans (CN xs lo hi) hz,_,0,(r.drop (HT.sIx xs.length 0 lo)).take (HT.sIx xs.length xs.length hi - HT.sIx xs.length 0 lo),Heap.get?_push_size _ rfl⟩
def gJ:V->Bool
 | .non=>true
 | .bl _=>true
 | .int _=>true
 | .str _=>true
 | _=>false
def eqV:V->V->Bool
 | .non,.non=>true
 | .bl a,.bl b=>a == b
 | .bl a,.int b=>(if a then 1 else 0) == b
 | .int a,.bl b=>a == (if b then 1 else 0)
 | .int a,.int b=>a == b
 | .str a,.str b=>a == b
 | _,_=>false
theorem Ao {A:Around} {s:Shared} {y x:V} {u v:Value} (ry:RelV y u) (rx:RelV x v) (fy:gJ y=true) (fx:gJ x=true):SeqAt.EqAt A s u v (eqV y x):=by
 cases y with
 | non=>
  cases ry
  cases x with
  | non=>cases rx;exact SeqAt.EqAt.same _
  | bl b=>cases rx;exact SeqAt.EqAt.none_bool b
  | int b=>obtain ⟨t,rfl⟩:=rx;exact SeqAt.EqAt.none_int b t
  | str b=>obtain ⟨t,rfl⟩:=rx;exact SeqAt.EqAt.none_str b t
  | _=>exact absurd (show false=true from fx) Bool.false_ne_true
 | bl a=>
  cases ry
  cases x with
  | non=>cases rx;exact SeqAt.EqAt.bool_none a
  | bl b=>cases rx;exact SeqAt.EqAt.bool_bool a b
  | int b=>obtain ⟨t,rfl⟩:=rx;exact SeqAt.EqAt.bool_int a b t
  | str b=>obtain ⟨t,rfl⟩:=rx;exact SeqAt.EqAt.bool_str a b t
  | _=>exact absurd (show false=true from fx) Bool.false_ne_true
 | int a=>
  obtain ⟨t',rfl⟩:=ry
  cases x with
  | non=>cases rx;exact SeqAt.EqAt.int_none a t'
  | bl b=>cases rx;exact SeqAt.EqAt.int_bool a t' b
  | int b=>obtain ⟨t,rfl⟩:=rx;exact SeqAt.EqAt.int_int a t' b t
  | str b=>obtain ⟨t,rfl⟩:=rx;exact SeqAt.EqAt.int_str a t' b t
  | _=>exact absurd (show false=true from fx) Bool.false_ne_true
 | str a=>
  obtain ⟨t',rfl⟩:=ry
  cases x with
  | non=>cases rx;exact SeqAt.EqAt.str_none a t'
  | bl b=>cases rx;exact SeqAt.EqAt.str_bool a t' b
  | int b=>obtain ⟨t,rfl⟩:=rx;exact SeqAt.EqAt.str_int a t' b t
  | str b=>obtain ⟨t,rfl⟩:=rx;exact SeqAt.EqAt.str_str a t' b t
  | _=>exact absurd (show false=true from fx) Bool.false_ne_true
 | _=>exact absurd (show false=true from fy) Bool.false_ne_true
def eqU (x:V) (u:Value):Bool:=match u with
 | .none=>eqV .non x
 | .bool b=>eqV (.bl b) x
 | .int i _=>eqV (.int i) x
 | .str z _=>eqV (.str z) x
 | _=>false
theorem xG {x y:V} {u:Value} (r:RelV y u) (f:gJ y=true):eqU x u=eqV y x:=by
 cases y with
 | non=>cases r;rfl
 | bl b=>cases r;rfl
 | int i=>obtain ⟨t,rfl⟩:=r;rfl
 | str z=>obtain ⟨t,rfl⟩:=r;rfl
 | _=>exact absurd (show false=true from f) Bool.false_ne_true
theorem pk {x:V}:∀ {xs:List V} {us:List Value},Vals xs us->xs.all gJ=true->us.any (eqU x)=xs.any fun y=>eqV y x
 | _,_,.nil,_=>rfl
 | y :: xs,u :: us,.cons r t,f=>by
  rw [List.all_cons,Bool.and_eq_true] at f
  rw [List.any_cons,List.any_cons,xG r f.1,pk t f.2]
theorem o5 {A:Around} {s:Shared} {x:V} {v:Value} (rx:RelV x v) (fx:gJ x=true):∀ {xs:List V} {us:List Value},Vals xs us->xs.all gJ=true->∀ u∈us,SeqAt.EqAt A s u v (eqU x u)
 | _,_,.nil,_=>fun u hu=>by cases hu
 | y :: xs,u :: us,.cons r t,f=>fun u' hu=>by
  rw [List.all_cons,Bool.and_eq_true] at f
  rcases List.mem_cons.mp hu with rfl | hu
  ·rw [xG r f.1];exact Ao r rx f.1 fx
  ·exact o5 rx fx t f.2 u' hu
def inV (x:V) (xs:List V):Bool:=xs.any fun y=>eqV y x
def rIn (K:PySem.W.Frag) (neg:Bool):R2:=fun x y H Q=>∃ p xs,y=.ref p/\(SqL K H p xs\/SqT K H p xs)/\gJ x=true/\xs.all gJ=true/\Q (.bl (if neg then !inV x xs else inV x xs)) H
theorem JN:OpR X (compareOp .In) (rIn X.K false):=by
 intro pins s σ H x y v u Q I rx ry h
 obtain ⟨p,xs,rfl,hq,fx,fs,q⟩:=h
 cases ry
 rcases hq with hq | hq
 ·obtain ⟨its,r,pl,hz⟩:=I.list hq
  refine SeqAt.in_listAt (eqU x) pl.isList (fun w hw=>o5 rx fx r fs w (by simpa using hw)) ⟨.bl _,H,I,rfl,?_⟩
  rw [show its.toArray.any (eqU x)=its.any (eqU x) by simp,pk r fs]
  exact q
 ·obtain ⟨its,r,pl,hz⟩:=I.tuple hq
  refine SeqAt.in_tupleAt (eqU x) pl (fun w hw=>o5 rx fx r fs w (by simpa using hw)) ⟨.bl _,H,I,rfl,?_⟩
  rw [show its.toArray.any (eqU x)=its.any (eqU x) by simp,pk r fs]
  exact q
theorem CY:eW X (.type "list") (fun xs H Q=>∃ p ys,xs=[.ref p]/\(SqL X.K H p ys\/SqT X.K H p ys)/\∀ l,H l=none->Q (.ref l) (upd H l (.lst ys))):=by
 intro pins s σ H xs us Q I r h
 obtain ⟨p,ys,rfl,hq,q⟩:=h
 obtain ⟨u,rfl,rx⟩:=vals1 r
 cases rx
 have fin:∀ (its:List Value),Vals ys its->ys.length<=sizeLine->∀ (h':Heap) (c':Nat),(∀ b o',s.heap.get? b=some o'->h'.get? b=some o')->
   h'.get? s.heap.objs.size=some { cls:=.type "list",dict:=none,data:=.seq its.toArray c',slots:=#[] }->EP X pins σ Q (.ref s.heap.objs.size) { s with heap:=h' }:=fun its r' hz h' c' kp e=>
  ⟨.ref s.heap.objs.size,_,I.laid (t':=s.toks) kp (Nat.le_refl _) (show cb X.prog X.w _ h' _ (.lst ys) from ⟨hz,its,c',r',e⟩),rfl,q _ (I.hok.fresh (Nat.le_refl _))⟩
 rcases hq with hq | hq
 ·obtain ⟨its,r',pl,hz⟩:=I.list hq
  have hlen:=r'.length
  obtain ⟨o,ho,hc,n,hd⟩:=pl.isList
  exact call_list_seq p (.inl rfl) ho hc hd (fun h' c' kp e=>fin its r' hz h' c' kp e) (by simp only [List.size_toArray] <;> omega)
 ·obtain ⟨its,r',pl,hz⟩:=I.tuple hq
  have hlen:=r'.length
  obtain ⟨o,ho,hc,n,hd⟩:=pl
  exact call_list_seq p (.inr rfl) ho hc hd (fun h' c' kp e=>fin its r' hz h' c' kp e) (by simp only [List.size_toArray] <;> omega)
theorem CO:eW X (.type "tuple") (fun xs H Q=>∃ p ys,xs=[.ref p]/\((SqL X.K H p ys/\∀ l,H l=none->Q (.ref l) (upd H l (.tup ys)))\/(SqT X.K H p ys/\Q (.ref p) H))):=by
 intro pins s σ H xs us Q I r h
 obtain ⟨p,ys,rfl,h⟩:=h
 obtain ⟨u,rfl,rx⟩:=vals1 r
 cases rx
 rcases h with ⟨hq,q⟩ | ⟨hq,q⟩
 ·obtain ⟨its,r',pl,hz⟩:=I.list hq
  have hlen:=r'.length
  refine call_tuple_list pl.isList (fun h' kp=>?_) (by simp only [List.size_toArray] <;> omega)
  have I1:Inv X pins σ H { s with heap:=h' }:=I.kept (t':=s.toks) kp
  have I2:Inv X pins σ (upd H h'.objs.size (.tup ys)) { s with heap:=h'.push { cls:=.type "tuple",data:=.seq its.toArray } }:=
   I1.laid (t':=s.toks) (fun b o e=>Heap.get?_push_of_some _ e) (Nat.le_refl _) (show cb X.prog X.w _ _ _ (.tup ys) from ⟨hz,its,r',IsTup.new _ _⟩)
  exact ⟨.ref h'.objs.size,_,I2,rfl,q _ (I1.hok.fresh (Nat.le_refl _))⟩
 ·obtain ⟨its,r',pl,hz⟩:=I.tuple hq
  exact call_tuple_same pl ⟨.ref p,H,I,rfl,q⟩
def tyV (K:PySem.W.Frag) (T:String) (x:V) (H:Hp):Prop:=match x with
 | .str _=>T="str"
 | .int _=>T="int"
 | .ref p=>(T="list"/\∃ xs,SqL K H p xs)\/(T="tuple"/\∃ o,K.lookup p=some o/\o.cls=.type "tuple"/\o.dict=none) \/
   (T="dict"/\((∃ kvs,H p=some (.dK kvs))\/∃ kvs,H p=some (.dT kvs)))\/(T="set"/\∃ S n,H p=some (.set S n))
 | _=>False
theorem zL {pins:List (Addr×Obj)} {σ:St} {H:Hp} {s:Shared} {T:String} {x:V} {v:Value} (I:Inv X pins σ H s) (r:RelV x v) (ty:tyV X.K T x H) :
  s.TypeIs v T/\∀ a,v=.ref a->∃ ob,s.heap.get? a=some ob/\ob.dict=none:=by
 cases x with
 | str z=>
  obtain ⟨t,rfl⟩:=r
  cases (show T="str" from ty)
  exact ⟨typeIs_str s z t,fun _ e=>nomatch e⟩
 | int i=>
  obtain ⟨t,rfl⟩:=r
  cases (show T="int" from ty)
  exact ⟨typeIs_int s i t,fun _ e=>nomatch e⟩
 | ref p=>
  cases r
  rcases ty with ⟨rfl,xs,hq⟩ | ⟨rfl,o,hk,hc,hd⟩ | ⟨rfl,hk⟩ | ⟨rfl,S,n,hk⟩
  ·obtain ⟨its,_,pl,_⟩:=I.list hq
   refine ⟨pl.isList.typeIs,fun a e=>?_⟩
   cases e
   obtain ⟨o,n,e,c,hd,_⟩:=pl
   exact ⟨o,e,hd⟩
  ·refine ⟨⟨o,I.kIn p o hk,hc⟩,fun a e=>?_⟩
   cases e
   exact ⟨o,I.kIn _ o hk,hd⟩
  ·have z:∃ o,s.heap.get? p=some o/\o.ExactDict:=by
    rcases hk with ⟨kvs,hk⟩ | ⟨kvs,hk⟩
    ·obtain ⟨_,_,_,_,o,_,_,e,ex,_⟩:=I.hok p _ hk
     exact ⟨o,e,ex⟩
    ·obtain ⟨_,_,_,_,o,_,_,e,ex,_⟩:=I.hok p _ hk
     exact ⟨o,e,ex⟩
   obtain ⟨o,e,ex⟩:=z
   refine ⟨⟨o,e,ex.1⟩,fun a e2=>?_⟩
   cases e2
   exact ⟨o,e,ex.2.1⟩
  ·obtain ⟨o,_,_,_,e,ex,_⟩:=I.hok p _ hk
   refine ⟨⟨o,e,ex.1⟩,fun a e2=>?_⟩
   cases e2
   exact ⟨o,e,ex.2.1⟩
 | _=>exact False.elim ty
def CU (K:PySem.W.Frag) (T:String) (r:V->List V->Hp->VK->Prop) (to:TE):TE:=fun σ H Q=>to σ H fun x H1=>tyV K T x H1/\r x [] H1 Q
def tBM (K:PySem.W.Frag) (T:String) (r:V->List V->Hp->VK->Prop) (to:TE) (t:TA):TE:=fun σ H Q=>to σ H fun x H1=>tyV K T x H1/\t σ H1 fun xs H2=>r x xs H2 Q
variable {o e:Expr} {es:List Expr} {to:TE} {t:TA} {name:Str} {apos cpos:Pos} {T id:String} {r:V->List V->Hp->VK->Prop}
theorem Ie (pa:PlainAttrs T) (slot:Slot T name id) (hty:typeOf (.builtin id)=pure (.type "method_descriptor")) (hm:MtR X id r) (ho:PE X o to)
  (hbase:attributeBase o name X.env (eval o X.env)=eval o X.env:=by rfl) (hline:(apos.endLine == cpos.line)=true:=by rfl):PE X (.Call (.Attribute o name apos) [] [] cpos) (CU X.K T r to):=by
 intro pins s σ H Q I h
 refine wpAny_Call_method0_late hbase hline (thn (ho pins s σ H _ I h) fun v s1 ⟨x,H1,I1,r1,ty,q1⟩=>?_)
 obtain ⟨h1,h2⟩:=zL I1 r1 ty
 exact ⟨T,id,pa,slot,hty,h1,h2,Calls.callWith_builtin rfl (PySem.evalArgs_none (hm pins s1 σ H1 x [] v [] Q I1 r1 .nil q1))⟩
theorem lN (pa:PlainAttrs T) (slot:Slot T name id) (hty:typeOf (.builtin id)=pure (.type "method_descriptor")) (hm:MtR X id r) (ho:PE X o to) (ha:PA X (e :: es) t)
  (hbase:attributeBase o name X.env (eval o X.env)=eval o X.env:=by rfl)
  (hfew:((backTo cpos (starEach (e :: es) X.env)).all (fun x=>!x.1)&&(backToKw cpos (keywordEach [] X.env)).all (fun x=>x.1.isSome)
   && decide ((e :: es).length + ([]:List Keyword).length + (if ([]:List Keyword).isEmpty then 0 else 1) < 30))=true:=by rfl)
  (hline:(apos.endLine == cpos.line)=true:=by rfl) (hs:starEach (e :: es) X.env=(false,eval e X.env) :: starEach es X.env:=by rfl) (hplain:(backTo cpos (starEach es X.env)).any (·.1)=false:=by rfl) :
  PE X (.Call (.Attribute o name apos) (e :: es) [] cpos) (tBM X.K T r to t):=by
 intro pins s σ H Q I h
 refine wpAny_Call_method_late hbase hfew hline rfl (thn (ho pins s σ H _ I h) fun v s1 ⟨x,H1,I1,r1,ty,q1⟩=>?_)
 obtain ⟨h1,h2⟩:=zL I1 r1 ty
 refine ⟨T,id,pa,slot,hty,h1,h2,?_⟩
 have hA:=ha cpos pins s1 σ H1 _ I1 q1
 rw [hs] at hA ⊢
 refine Calls.callWith_builtin (by show (false||(backTo cpos (starEach es X.env)).any (·.1))=false;rw [hplain] <;> rfl) (Calls.evalArgs_plain ?_)
 exact thn hA fun us s2 ⟨vs,H2,I2,r2,q2⟩=>hm pins s2 σ H2 x vs v us Q I2 r1 r2 q2
end
end L2
namespace L2
open PySem PySem.Spec PyProof.Rows
def MtM (X:Cx) (id:String) (r:V->List V->Hp->VK->Prop):Prop:=
 ∀ (pins:List (Addr×Obj)) (s:Shared) (σ:St) (H:Hp) (x:V) (xs:List V) (v:Value) (us:List Value) (Q:VK),Inv X pins σ H s->RelV x v->Vals xs us->r x xs H Q->
  wpAny (model X.prog X.w) X.A (call (.builtin id) (v :: us)) (EP X pins σ Q) X.xe s
theorem Vals.one:∀ {x:V} {us:List Value},Vals [x] us->∃ u,us=[u]/\RelV x u
 | _,_,.cons r .nil=>⟨_,rfl,r⟩
theorem Vals.zero:∀ {us:List Value},Vals [] us->us=[]
 | _,.nil=>rfl
theorem Vals.reverse {xs:List V} {us:List Value} (h:Vals xs us):Vals xs.reverse us.reverse:=by
 induction h with
 | nil=>exact .nil
 | cons r t ih=>rw [List.reverse_cons,List.reverse_cons];exact Vals.append ih (.cons r .nil)
theorem Vals.rep {xs:List V} {us:List Value} (h:Vals xs us):∀ k:Nat,Vals (List.replicate k xs).flatten (List.replicate k us).flatten
 | 0=>.nil
 | k + 1=>by
  rw [List.replicate_succ,List.replicate_succ,List.flatten_cons,List.flatten_cons]
  exact Vals.append h (Vals.rep h k)
theorem foldl_rep (its:List Value):∀ (k:Nat) (acc:List Value),
  List.foldl (fun x1 x2=>x1++x2) acc.toArray (List.replicate k its.toArray)=(acc++(List.replicate k its).flatten).toArray
 | 0,acc=>by simp
 | k + 1,acc=>by
  have e:acc.toArray++its.toArray=(acc++its).toArray:=by simp
  have e2:(acc++its)++(List.replicate k its).flatten=acc++(List.replicate (k + 1) its).flatten:=by
   rw [List.replicate_succ,List.flatten_cons,List.append_assoc]
  rw [<-e2,<-foldl_rep its k (acc++its),<-e,List.replicate_succ,List.foldl_cons]
section
variable {X:Cx} {pins:List (Addr×Obj)} {σ:St} {H:Hp} {s:Shared} {l b:Addr} {xs ys zs:List V}
theorem Inv.lset {its its':List Value} {n:Nat} {f:Array Value->Array Value} {t':Nat} (I:Inv X pins σ H s) (hH:H l=some (.lst xs))
  (e:s.heap.get? l=some { cls:=.type "list",data:=.seq its.toArray n }) (hf:f its.toArray=its'.toArray) (hv:Vals ys its') (hz:ys.length<=sizeLine) :
  Inv X pins σ (upd H l (.lst ys)) { s with heap:=s.heap.update l (Obj.mapSeq f),toks:=t' }:=by
 have q:=PySem.IsL.update e f
 rw [hf] at q
 refine I.write (x:=l) (e:=l) (by rw [hH];exact trivial) (.inl rfl) (fun b' u hb hu=>(Heap.get?_update_other s.heap (Obj.mapSeq f) (Ne.symm hb)).trans hu) ⟨_,q⟩ ?_
 exact ⟨hz,its',_,hv,q⟩
theorem Inv.lnew {its:List Value} {t':Nat} (I:Inv X pins σ H s) (hv:Vals ys its) (hz:ys.length<=sizeLine) :
  Inv X pins σ (upd H s.heap.objs.size (.lst ys)) { s with heap:=s.heap.push { cls:=.type "list",data:=.seq its.toArray },toks:=t' }:=
 I.laid (fun _ _ q=>Heap.get?_push_of_some _ q) (Nat.le_refl _) ⟨hz,its,0,hv,Heap.get?_push_size _ rfl⟩
theorem Inv.fresh (I:Inv X pins σ H s):H s.heap.objs.size=none:=I.hok.fresh (Nat.le_refl _)
theorem Inv.lstM (I:Inv X pins σ H s) (hH:H l=some (.lst xs)):xs.length<=sizeLine/\∃ (its:List Value) (n:Nat),Vals xs its/\xs.length=its.length/\s.heap.get? l=some { cls:=.type "list",data:=.seq its.toArray n }:=by
 obtain ⟨z,its,n,r,e⟩:=I.hok l _ hH
 exact ⟨z,its,n,r,r.length,e⟩
theorem sT {n:Nat} (h:n<=sizeLine):Builtin.List.listTooLong n=false:=by
 unfold Builtin.List.listTooLong
 exact decide_eq_false (by omega)
end
section
variable {X:Cx}
def Ca:V->List V->Hp->VK->Prop:=fun x vs H Q=>∃ l xs y,x=.ref l/\vs=[y]/\H l=some (.lst xs)/\xs.length < sizeLine/\Q .non (upd H l (.lst (xs++[y])))
theorem oK:MtM X "list.append" Ca:=by
 intro pins s σ H x vs v us Q I rx rv h
 obtain ⟨l,xs,y,rfl,rfl,hH,hz,q⟩:=h
 cases rx
 obtain ⟨u,rfl,ru⟩:=rv.one
 obtain ⟨z,its,n,r,hl,e⟩:=I.lstM hH
 refine call_meets F.slot_list_append ⟨_,e,rfl⟩ F.entry_list_append (F.args_list_append_2 _ _) (PySem.list_append l its.toArray n u (by rw [List.size_toArray];omega)) ⟨e,?_⟩
 refine ⟨.non,_,I.lset (its':=its++[u]) hH e (by simp) (r.append (.cons ru .nil)) ?_,rfl,q⟩
 rw [List.length_append,List.length_singleton]
 omega
def Aq:V->List V->Hp->VK->Prop:=fun x vs H Q=>∃ l xs,x=.ref l/\vs=[]/\H l=some (.lst xs)/\Q .non (upd H l (.lst xs.reverse))
theorem Hr:MtM X "list.reverse" Aq:=by
 intro pins s σ H x vs v us Q I rx rv h
 obtain ⟨l,xs,rfl,rfl,hH,q⟩:=h
 cases rx
 have hus:=rv.zero
 subst hus
 obtain ⟨z,its,n,r,hl,e⟩:=I.lstM hH
 refine call_meets F.slot_list_reverse ⟨_,e,rfl⟩ F.entry_list_reverse (F.args_list_reverse_1 _) (AutoSeq1.list_reverse_list_0 l its.toArray n (by rw [List.size_toArray];omega)) ⟨e,?_⟩
 refine ⟨.non,_,I.lset (its':=its.reverse) hH e (by simp) r.reverse ?_,rfl,q⟩
 rw [List.length_reverse]
 omega
theorem len_rep {α:Type} (xs:List α) (k:Nat):(List.replicate k xs).flatten.length=k * xs.length:=by
 induction k with
 | zero=>simp
 | succ k ih=>rw [List.replicate_succ,List.flatten_cons,List.length_append,ih,Nat.succ_mul,Nat.add_comm]
end
section
variable {prog:Program} {w:World} {A:Around} {E:Value->Shared->Prop} {s:Shared}
end
section
variable {X:Cx}
end
end L2
namespace Att
open PySem PySem.W PySem.Calls PyProof.Rows
theorem G4 {P:Params} {h:Heap}:∀ (ns:List Int) (vs:List Value),WellAll P h vs (ns.map WData.int)->IntsAre vs ns:=by
 intro ns
 induction ns with
 | nil=>
  intro vs w
  rw [List.map_nil] at w
  cases w
  exact .nil
 | cons n ns ih=>
  intro vs w
  rw [List.map_cons] at w
  cases w with
  | cons a b=>
   cases a
   exact .cons _ _ (ih _ b)
theorem Am {l:OpenLaw} {n:Nat} (hn:l.most=some n) {P:Params} {h:Heap} {args:List WData} {vals:List Value}
  (hpre:l.row.toRowW.claim.pre args=true) (hwl:WellAll P h vals args) :
  ∃ a vs ns,vals=[Value.ref a]/\args=[WData.list (ns.map WData.int)]/\h.get? a=some { cls:=.type "list",data:=.seq vs.toArray }/\IntsAre vs ns/\ns.length<=n:=by
 have hsh:WShape.hasAll [] args [.list .int]=true:=(pre_splitW hpre).1
 have hc:l.pre.holds [] { args:=args }=true:=(pre_splitW hpre).2
 obtain ⟨d,r,rfl,h1,h2⟩:=hasAllW_cons hsh
 obtain rfl:=hasAllW_nil h2
 obtain ⟨xs,rfl,h3⟩:=hasW_list h1
 obtain ⟨ns,rfl⟩:=items_int h3
 have hlen:ns.length<=n:=by
  unfold OpenLaw.pre at hc
  have h4:(WTm.not (.lt (.lit (.int (n:Int))) (.len (.arg 0)))).holds [] { args:=[.list (ns.map .int)] }=true:=by
   have h4:=(holds_andW hc).1
   rw [hn] at h4
   exact h4
  have h5:=condW_of h4 (w_not (w_lt w_lit (w_len_list (w_arg rfl))))
  rw [List.length_map] at h5
  refine Nat.le_of_not_lt fun q=>?_
  have q':(n:Int) < ((ns.length:Nat):Int):=by omega
  first
   | (rw [decide_eq_true q'] at h5;exact absurd h5 (by decide))
   | (simp at h5;omega)
 cases hwl with
 | cons w1 w2=>
  cases w2
  cases w1 with
  | list ho hall=>exact ⟨_,_,ns,rfl,rfl,ho,G4 ns _ hall,hlen⟩
theorem Ia (l:OpenLaw) (args:List WData):l.row.toRowW.claim.post args (.bool true) args=true:=
 postW_of (r:=l.row.toRowW) (X:=(true == true))
  (show WShape.has [] (.bool true) .bool=true by first | rfl | decide | simp [WShape.has,WShape.arms,WShape.armsAll])
  (show (WTm.eq .res (.lit (.bool true))).value [] { args:=args,res:=some (.bool true),after:=args }=some (.bool (true == true)) from w_eq_bool (w_res rfl) w_lit) rfl
theorem Be {l:OpenLaw} {n:Nat} {q:Program} {loose:List Str} {XP:(Str->Option Value)->Heap->Prop} {YP:World->Heap->Prop} {d:DefRec}
  (hn:l.most=some n) (hdf:d.params.defaults=[])
  (call:∀ (w:World) (s₀ s₁:Shared) (mg mb:Str->Option Value) (fa:Addr) (o:Obj) (pm cd doc:Value) (a:Addr) (vs:List Value) (ns:List Int),
   Ground q loose [] XP w s₀ mg mb s₁.heap->YP w s₁.heap->
   s₁.heap.get? fa=some o->o.data=.func (docDef d.name d.params d.body d.scope pm cd doc)->s₁.heap.CodeRec cd d.name->mg d.name=some (.ref fa)->
   s₁.heap.get? a=some { cls:=.type "list",data:=.seq vs.toArray }->IntsAre vs ns->ns.length<=n->s₁.gens=#[]->
   codeAny (model l.prog w) callerA (.call (.ref fa) ⟨[.ref a],[]⟩) (fun r s'=>r=.ok (.ret (.bool true))/\OldK s₁.heap s'.heap/\s'.os=s₁.os/\AllBare s'.gens) s₁) :
  WalkO q loose XP YP l.row.toRowW d [] (fun f vs=>PySem.call f vs):=by
 intro w s₀ s₁ mg mb G Y fa o pm cd doc dV kV ho hd hcd hD hmg hg args vals as hpre hlay hrd hwl hlo
 obtain rfl:dV=.none:=Dflts.none hD hdf
 obtain rfl:kV=.none:=Dflts.noKw hD
 obtain ⟨a,vs,ns,rfl,rfl,hobj,hints,hlen⟩:=Am hn hpre hwl
 refine enter_call (codeAny_mono (call w s₀ s₁ mg mb fa o pm cd doc a vs ns G Y ho (fd_plain hd) hcd hmg hobj hints hlen hg) fun r s' hq=>?_)
 obtain ⟨rfl,h2,h3,h4⟩:=hq
 exact ⟨.inl ⟨.bool true,.bool true,[],rfl,fun _=>rfl,.bool true,Ia l _,fun _=>⟨List.Pairwise.nil,fun _ hm=>(nomatch hm)⟩⟩,h2,h3,h4⟩
section
variable {prog:Program} {w:World} {A:Around} {E:Value->Shared->Prop} {s:Shared} {K:Frag}
end
end Att
namespace L2
open PySem PySem.Spec PyProof.Rows
theorem wO:∀ {vs:List Value} {ns:List Int},IntsAre vs ns->Vals (ns.map V.int) vs
 | _,_,.nil=>.nil
 | _,_,.cons n t h=>.cons ⟨t,rfl⟩ (wO h)
def oI (H:Hp):Prop:=∀ b,H b=none\/∃ o xs,H b=some (.frz o (.lst xs))
theorem HD {P:Program} {w:World} {K:PySem.W.Frag} {mg mb:Str->Option Value} {CX:CXT} {k:Nat} {fa a:Addr} {fd:FuncData} {x:Str} {sp:Sp} {s₁:Shared} {vs:List Value} {ns:List Int}
  (KX:K.In s₁.heap) (hns:s₁.heap.Ns mainGlobals mg) (hb:s₁.heap.Ns builtinsNs mb) (hbb:∀ x:Str,x≠"__name__"->mb x=bootBuiltins x) (hlim:s₁.heap.NoLimit) (hg:s₁.gens=#[])
  (ha:s₁.heap.get? a=some { cls:=.type "list",data:=.seq vs.toArray }) (hi:IntsAre vs ns) (hl:ns.length<=sizeLine) (hr:bG k callerA)
  (F:∀ base:Heap,K.In base->base.Ns mainGlobals mg->aR P w K mg base CX k fa fd [x] sp) (hbind:∀ (s:Shared) (u:Value),BindsTo s fd ⟨[u],[]⟩ [(x,u)])
  (hsp:∀ H:Hp,oI H->SqL K H a (ns.map V.int)->sp [.ref a] H (fun v _=>v=.bl true) fun _ _ _=>False)
  (hCX:∀ H e s',CX [] H s₁ (fun _ _ _=>False) e s'->False) :
  codeAny (model P w) callerA (.call (.ref fa) ⟨[.ref a],[]⟩) (fun r s'=>r=.ok (.ret (.bool true))/\OldK s₁.heap s'.heap/\s'.os=s₁.os/\AllBare s'.gens) s₁:=by
 have rv:=wO hi
 have lenV:=hi.length
 have core:∀ H:Hp,oI H->SqL K H a (ns.map V.int)->HOk P w H s₁.heap->(∀ b,H b≠none->b=a)->(H a≠none->K.lookup a=none)->
   codeAny (model P w) callerA (.call (.ref fa) ⟨[.ref a],[]⟩) (fun r s'=>r=.ok (.ret (.bool true))/\OldK s₁.heap s'.heap/\s'.os=s₁.os/\AllBare s'.gens) s₁:=by
  intro H hO hS hok hA hK
  have base_of:∀ {b:Addr} {o:Obj},s₁.heap.get? b=some o->H b=none->(gL s₁.heap H).get? b=some o:=fun e n=>JE e n
  have noA:∀ {b:Addr} {o:Obj} {es:Array DictEntry} {ep:Nat},s₁.heap.get? b=some o->o.data=.dict es ep->H b=none:=fun {b o es ep} e d=>by
   cases q:H b with
   | none=>rfl
   | some u=>
    have e':b=a:=hA b (by rw [q];simp)
    subst e'
    rw [ha] at e;cases e
    have d':Data.seq vs.toArray _=Data.dict es ep:=d
    cases d'
  have nsK:∀ {b:Addr} {m:Str->Option Value},s₁.heap.Ns b m->(gL s₁.heap H).Ns b m:=fun {b m} ⟨o,es,ep,e,d,r⟩=>⟨o,es,ep,base_of e (noA e d),d,r⟩
  have hKb:K.In (gL s₁.heap H):=fun b o e=>base_of (KX b o e) (by
   cases q:H b with
   | none=>rfl
   | some u=>
    have e':b=a:=hA b (by rw [q];simp)
    subst e'
    rw [hK (by rw [q];simp)] at e;cases e)
  have hM:Mod K mg (gL s₁.heap H):=⟨hKb,nsK hns,⟨mb,nsK hb,hbb⟩,let ⟨mc,h1,h2⟩:=hlim;⟨mc,nsK h1,h2⟩⟩
  have e0:jm P w K mg (gL s₁.heap H) callerA [] s₁ H:=⟨rfl,hM,fun b o e=>CS e,Nat.le_of_eq (Di _ _),trivial,fun b hb=>absurd (show b∈([]:List Addr) from hb) (by simp),hok,.of_eq hg⟩
  refine codeAny_mono ((F _ hKb (nsK hns)).run callerA [] s₁ H ⟨[.ref a],[]⟩ [.ref a] [.ref a] _ _ hr e0 (hbind s₁ (.ref a)) (.cons rfl .nil) (hsp H hO hS)) fun r s' h=>?_
  cases r with
  | error e=>exact (hCX H e s' h).elim
  | ok fl=>
   cases fl with
   | next=>exact False.elim h
   | brk=>exact False.elim h
   | cont=>exact False.elim h
   | ret u=>
    obtain ⟨v,H',os,bare,un,hok',r',q⟩:=h
    have q':v=.bl true:=q
    subst q'
    obtain rfl:u=Value.bool true:=r'
    refine ⟨rfl,OldK.of_keep fun b o e=>?_,os,bare⟩
    cases q:H b with
    | none=>exact un.keep b o e q (by intro z;exact absurd (show b∈([]:List Addr) from z) (by simp)) (by simp)
    | some u=>
     rcases hO b with z | ⟨ob,xs,z⟩
     ·rw [q] at z;cases z
     ·have z2:=un.frzs b ob _ z
      obtain ⟨e1,_⟩:=hok b _ z
      obtain ⟨e2,_⟩:=hok' b _ z2
      rw [e] at e1;cases e1
      exact e2
 cases hk:K.lookup a with
 | some o=>
  have e:=KX a o hk
  rw [ha] at e
  cases e
  refine core (fun _=>none) (fun _=>.inl rfl) (.inr ⟨_,vs.toArray,_,hk,rfl,rfl,rfl,by rw [List.size_toArray,lenV];exact hl,by simpa using rv⟩) (fun b u z=>by have z':(none:Option HO)=some u:=z;cases z') (fun b z=>absurd rfl z) fun z=>absurd rfl z
 | none=>
  refine core (fun b=>if b=a then some (.frz { cls:=.type "list",data:=.seq vs.toArray } (.lst (ns.map V.int))) else none) (fun b=>?_) (.inl (.inr ⟨{ cls:=.type "list",data:=.seq vs.toArray },if_pos rfl⟩)) (fun b u z=>?_) (fun b z=>?_) fun _=>hk
  ·by_cases hb:b=a
   ·exact .inr ⟨_,_,if_pos hb⟩
   ·exact .inl (if_neg hb)
  ·by_cases hb:b=a
   ·have z':=(if_pos hb).symm.trans z
    cases z'
    subst hb
    exact ⟨ha,by rw [List.length_map];exact hl,vs,_,rv,ha⟩
   ·have z':=(if_neg hb).symm.trans z
    cases z'
  ·by_cases hb:b=a
   ·exact hb
   ·exact absurd (if_neg hb) z
end L2
namespace L2
open PySem PySem.Spec PyProof.Rows
theorem EU {l:PySem.W.OpenLaw} {n k:Nat} {q:Program} {loose:List Str} {XP:(Str->Option Value)->Heap->Prop} {YP:World->Heap->Prop} {d:DefRec} {K:Params->PySem.W.Frag} {CX:World->CXT} {sp:World->Sp} {x:Str}
  (hn:l.most=some n) (hn2:n<=sizeLine) (hdf:d.params.defaults=[]) (hr:bG k callerA)
  (hY:∀ (w:World) (h:Heap),YP w h->(K w.params).In h)
  (F:∀ (w:World) (mg:Str->Option Value) (fa:Addr) (h:Heap),(K w.params).In h->h.Ns mainGlobals mg->mg d.name=some (.ref fa)->
   ∃ fd:FuncData,(∀ (s:Shared) (u:Value),BindsTo s fd ⟨[u],[]⟩ [(x,u)]) /\
    ∀ base:Heap,(K w.params).In base->base.Ns mainGlobals mg->aR l.prog w (K w.params) mg base (CX w) k fa fd [x] (sp w))
  (hsp:∀ (w:World) (H:Hp) (a:Addr) (ns:List Int),ns.length<=n->oI H->SqL (K w.params) H a (ns.map V.int)->sp w [.ref a] H (fun v _=>v=.bl true) fun _ _ _=>False)
  (hCX:∀ (w:World) (H:Hp) (s:Shared) (e:Value) (s':Shared),CX w [] H s (fun _ _ _=>False) e s'->False) :
  PySem.W.WalkO q loose XP YP l.row.toRowW d [] (fun f vs=>PySem.call f vs):=by
 refine Att.Be hn hdf fun w s₀ s₁ mg mb fa o pm cd doc a vs ns G Y ho hd hcd hmg hobj hints hlen hg=>?_
 have KX:=hY w _ Y
 obtain ⟨fd,hb,hF⟩:=F w mg fa _ KX G.T.g hmg
 exact HD KX G.T.g G.T.b G.T.builtins G.T.nolimit hg hobj hints (Nat.le_trans hlen hn2) hr hF hb (fun H hO hS=>hsp w H a ns hlen hO hS) fun H e s'=>hCX w H s₁ e s'
end L2
namespace L2
open PySem PySem.Spec PyProof.Rows
abbrev CX0:CXT:=fun _ _ _ _ _ _=>False
abbrev E0:XK:=fun _ _ _=>False
theorem ix {X:Cx}:Passes CX0 X E0:=fun _ _ _ _ _ _ _ h=>h.elim
structure Fun (K:PySem.W.Frag) (x qual:Str) (st:Stmt) (f:Addr) (fd:FuncData):Prop where
 ex:∃ (oc:Value) (od:Option Addr) (kV doc pm:Value) (an:Option Addr) (cdv ct:Value) (osl:Array (Option Value)),
  fd=PySem.W.fnOf x qual (kq st) (gr st) (aW st) .none kV doc pm an cdv ct/\K.lookup f=some ⟨oc,od,.func fd,osl⟩/\PySem.W.codeIn K cdv qual=true
 kp:PySem.W.keepIn K (.ref f)=true
section
variable {P:Program} {w:World} {K:PySem.W.Frag} {mg:Str->Option Value} {base:Heap}
theorem Fun.ok {x qual:Str} {st:Stmt} {f:Addr} {fd:FuncData} {N ps:List Str} {k:Nat} {sp:Sp} (F:Fun K x qual st f fd) (S:bj N ps (aW st)) (len:∀ vs H Q E,sp vs H Q E->vs.length=ps.length)
  (hbody:∀ (cdv:Value) (A:Around) (outer:List Env) (s:Shared) (H:Hp) (vs:List V) (Q:VK) (E:XK),bG k (A.deeper (envOfC qual (aW st) s.heap.objs.size f cdv))->sp vs H Q E->
   ∃ t,PSs (gY CX0 P w K mg base N qual (aW st) f cdv A outer s H E).nox (gr st) t/\t { nx:=fun _ H'=>Q .non H',rt:=Q } (start N vs) H):aR P w K mg base CX0 (k + 1) f fd ps sp:=by
 obtain ⟨oc,od,kV,doc,pm,an,cdv,ct,osl,rfl,lk,hcd⟩:=F.ex
 refine Hu lk hcd S len fun A outer s H vs Q E hr hsp=>?_
 obtain ⟨t,h,q⟩:=hbody cdv A outer s H vs Q E hr hsp
 exact ⟨t,h.nox,q⟩
theorem Fun.binds {x qual:Str} {st:Stmt} {f:Addr} {fd:FuncData} {ps:List Str} (F:Fun K x qual st f fd)
  (h:∀ (kV doc pm:Value) (an:Option Addr) (cdv ct:Value) (us:List Value),us.length=ps.length->bindArgs (PySem.W.fnOf x qual (kq st) (gr st) (aW st) .none kV doc pm an cdv ct) ⟨us,[]⟩=pure (ps.zip us)):Binds K fd ps []:=by
 obtain ⟨oc,od,kV,doc,pm,an,cdv,ct,osl,rfl,lk,hcd⟩:=F.ex
 exact .all (h kV doc pm an cdv ct)
theorem xA {x qual:Str} {st:Stmt} {f:Addr} {oc:Value} {od an:Option Addr} {osl:Array (Option Value)} {kV doc pm cdv ct:Value} (l:K.lookup f=some ⟨oc,od,.func (PySem.W.fnOf x qual (kq st) (gr st) (aW st) .none kV doc pm an cdv ct),osl⟩)
  (c:PySem.W.codeIn K cdv qual=true) (k:PySem.W.keepIn K (.ref f)=true):Fun K x qual st f (PySem.W.fnOf x qual (kq st) (gr st) (aW st) .none kV doc pm an cdv ct):=⟨⟨oc,od,kV,doc,pm,an,cdv,ct,osl,rfl,l,c⟩,k⟩
end
theorem l6 {A:Around} {k:Nat} (hr:bG k A):A.units + 1 < cLine:=Nat.lt_of_le_of_lt (Nat.add_le_add_left (by decide:1<=64) _) hr.units
section
variable {X:Cx}
theorem pv (i:Nat) {x:Str} {pos:Pos} (hN:X.N[i]?=some x:=by rfl) (hv:Vis X.env.scope x:=by first | exact Or.inl rfl | exact Or.inr (Or.inl rfl) | exact Or.inr (Or.inr rfl)) (hd:(x == ("__debug__":Str))=false:=by decide)
  (hcd:(x == ("__classdict__":Str))=false:=by decide):PE X (.Name x pos) (gq i):=D6 hN hv hd hcd
end
theorem ja {A B:Prop} (h:B):if false=true then A else B:=by
 rw [if_neg Bool.false_ne_true]
 exact h
theorem iJ {A B:Prop} (h:A):if true=true then A else B:=by
 rw [if_pos rfl]
 exact h
def iy (H H':Hp):Prop:=∀ b o,H b=some o->H' b=some o
theorem iy.trans {H H1 H2:Hp} (a:iy H H1) (b:iy H1 H2):iy H H2:=fun c o h=>b c o (a c o h)
theorem iy.free {H H':Hp} (e:iy H H') {l:Addr} (h:H' l=Option.none):H l=Option.none:=by
 cases q:H l with
 | none=>rfl
 | some o=>
  rw [e l o q] at h
  cases h
theorem iy.seq {K:PySem.W.Frag} {H H':Hp} {a:Addr} {xs:List V} (e:iy H H') (h:SqL K H a xs):SqL K H' a xs:=by
 rcases h with (h | ⟨o,h⟩) | h
 ·exact .inl (.inl (e _ _ h))
 ·exact .inl (.inr ⟨o,e _ _ h⟩)
 ·exact .inr h
end L2
set_option maxHeartbeats 4000000
namespace L2
open PySem PySem.Spec PyProof.Rows
def cK (env:Env):List (Str×NameKind)->List (Str×Addr)->List (Str×Addr)
 | [],acc=>acc
 | (n,k) :: r,acc=>if (k == NameKind.free)=true then (match env.cells.lookup n with | some a=>cK env r ((n,a) :: acc) | none=>cK env r acc) else cK env r acc
theorem mW {env:Env}:∀ {names:List (Str×NameKind)} {acc:List (Str×Addr)},(∀ x c,acc.lookup x=some c->env.cells.lookup x=some c)->
  ∀ x c,(cK env names acc).lookup x=some c->env.cells.lookup x=some c
 | [],_,h=>h
 | (n,k) :: r,acc,h=>by
  intro x c e
  unfold cK at e
  split at e
  ·split at e
   ·rename_i a ha
    refine mW (names:=r) (acc:=(n,a) :: acc) (fun y d q=>?_) x c e
    rw [List.lookup_cons] at q
    split at q
    ·rename_i hy
     have:y=n:=by simpa using hy
     subst this
     rw [ha];exact q
    ·exact h y d q
   ·exact mW h x c e
  ·exact mW h x c e
theorem oJ {env:Env}:∀ {names:List (Str×NameKind)} {acc:List (Str×Addr)} {x:Str},(∃ c,acc.lookup x=some c)->∃ c,(cK env names acc).lookup x=some c
 | [],_,_,h=>h
 | (n,k) :: r,acc,x,h=>by
  unfold cK
  split
  ·split
   ·rename_i a ha
    refine oJ ?_
    rw [List.lookup_cons]
    split
    ·exact ⟨_,rfl⟩
    ·exact h
   ·exact oJ h
  ·exact oJ h
theorem mr {env:Env}:∀ {names:List (Str×NameKind)} {acc:List (Str×Addr)} {x:Str},(x,NameKind.free)∈names->(∃ c,env.cells.lookup x=some c)->∃ c,(cK env names acc).lookup x=some c
 | (n,k) :: r,acc,x,hm,hc=>by
  rcases List.mem_cons.mp hm with e | e
  ·cases e
   obtain ⟨c,hc⟩:=hc
   unfold cK
   rw [if_pos (by rfl),hc]
   exact oJ ⟨c,by rw [List.lookup_cons];simp⟩
  ·unfold cK
   split
   ·split
    ·exact mr e hc
    ·exact mr e hc
   ·exact mr e hc
theorem Bh {env:Env}:∀ (names:List (Str×NameKind)) (acc:List (Str×Addr)),(∀ x∈names,x.2=.free->∃ c,env.cells.lookup x.1=some c)->
  (forIn names acc (fun (x:Str×NameKind) (r:List (Str×Addr))=>(match x with
   | (name,kind)=>if (kind == NameKind.free)=true then do
     let a<-cellOf env name
     pure (ForInStep.yield ((name,a) :: r))
    else pure (ForInStep.yield r))):Sem (List (Str×Addr)))=pure (cK env names acc):=by
 intro names
 induction names with
 | nil=>intro acc _;rfl
 | cons y r ih=>
  intro acc h
  obtain ⟨n,k⟩:=y
  have ih':=fun acc=>ih acc fun x hx=>h x (List.mem_cons_of_mem _ hx)
  rw [List.forIn_cons]
  unfold cK
  by_cases hk:(k == NameKind.free)=true
  ·have hk':k=.free:=by simpa using hk
   obtain ⟨c,hc⟩:=h (n,k) List.mem_cons_self hk'
   simp only [hk,if_true,cellOf,hc]
   exact ih' _
  ·simp only [hk,Bool.false_eq_true,if_false]
   exact ih' _
theorem wy {scope:Scope} {env:Env} (h:∀ x∈scope.names,x.2=.free->∃ c,env.cells.lookup x.1=some c):closureFor scope env=pure (cK env scope.names []):=by
 have e:=Bh scope.names [] h
 unfold closureFor
 dsimp only
 rw [e]
 rfl
structure BA where
 fp:List Addr
 pins:List (Addr×Obj)
 s:Shared
 H:Hp
 C:Addr
def blk (X:Cx) (N:List Str) (sc:Scope) (b:BA):Cx:=
 { prog:=X.prog,w:=X.w,K:=X.K,mg:=X.mg,base:=X.base,A:=X.A,N:=N,s₀:=b.s,H₀:=b.H,env:=compEnvC sc (cK X.env sc.names []) b.C X.env,outer:=X.stack,stack:=X.stack,ex:=b.fp,fn:=fun _=>false,calm:=X.calm,pn:=X.pn++b.pins,xe:=fun _ _=>False }
structure Blk (X:Cx) (N:List Str) (sel:List (Option Nat)) (sc:Scope):Prop where
 kind:sc.kind=.function
 nocell:(sc.names.all fun y=>y.2 != .cell)=true
 free:(sc.names.all fun y=>y.2 != .free||(X.env.kindOf y.1 == some .cell||X.env.kindOf y.1 == some .free))=true
 names:(sc.names.all fun y=>y.2 != .local||sc.names.lookup y.1 == some .local)=true
 len:sel.length=N.length
 sel:((N.zip sel).all fun y=>match y.2 with | none=>true | some j=>(X.N[j]? == some y.1)&&(sc.names.lookup y.1 == some NameKind.free))=true
def fh (σ:St) (sel:List (Option Nat)):St:=sel.map fun o=>match o with | none=>none | some j=>(σ[j]?).join
theorem nc {env:Env} {k:NameKind}:∀ {names:List (Str×NameKind)} {x:Str},
  (names.map fun (n,k)=>if (k == NameKind.free&&env.scope.kind == .function&&env.kindOf n == some .cell) then (n,NameKind.cell) else (n,k)).lookup x=some k->
  ∃ k',names.lookup x=some k'/\(k'=k\/(k'=.free/\k=.cell))
 | [],_,h=>by simp at h
 | (n,k0) :: r,x,h=>by
  have ih:=@nc env k r x
  have h:List.lookup x ((if (k0 == NameKind.free&&env.scope.kind == .function&&env.kindOf n == some .cell)=true then (n,NameKind.cell) else (n,k0)) :: _)=some k:=h
  by_cases hc:(k0 == NameKind.free&&env.scope.kind == .function&&env.kindOf n == some .cell)=true
  ·rw [if_pos hc,List.lookup_cons] at h
   rw [List.lookup_cons]
   cases hx:x == n with
   | true=>
    rw [hx] at h
    simp only at h
    cases h
    have:k0=.free:=by
     simp only [Bool.and_eq_true,beq_iff_eq] at hc
     exact hc.1.1
    subst this
    exact ⟨_,rfl,.inr ⟨rfl,rfl⟩⟩
   | false=>
    rw [hx] at h
    exact ih h
  ·rw [if_neg hc,List.lookup_cons] at h
   rw [List.lookup_cons]
   cases hx:x == n with
   | true=>
    rw [hx] at h
    simp only at h
    cases h
    exact ⟨_,rfl,.inl rfl⟩
   | false=>
    rw [hx] at h
    exact ih h
section
variable {X:Cx} {pins:List (Addr×Obj)} {σ:St} {H:Hp} {s:Shared} {N:List Str} {sel:List (Option Nat)} {sc:Scope} {fp:List Addr}
theorem Blk.freeAt (B:Blk X N sel sc):∀ y∈sc.names,y.2=.free->(X.env.kindOf y.1=some .cell\/X.env.kindOf y.1=some .free):=fun y hy hf=>by
 have h:=List.all_eq_true.mp B.free y hy
 rw [hf] at h
 simpa using h
theorem Blk.has (B:Blk X N sel sc) (ok:X.Ok):∀ y∈sc.names,y.2=.free->∃ c,X.env.cells.lookup y.1=some c:=fun y hy hf=>ok.has _ (B.freeAt y hy hf)
theorem Blk.sub (_:Blk X N sel sc):∀ x c,(cK X.env sc.names []).lookup x=some c->X.env.cells.lookup x=some c:=mW fun _ _ e=>by simp at e
theorem mem_lookup {names:List (Str×NameKind)} {x:Str} {k:NameKind} (h:names.lookup x=some k):(x,k)∈names:=PySem.mem_of_lookup h
theorem Ho (B:Blk X N sel sc) (I:Inv X pins σ H s) (hfp:∀ x∈fp,dW X pins H x) (hobj:∀ x∈fp,∃ o,s.heap.get? x=some o) {h':Heap} {tk:Nat} {d:Obj}
  (hn:h'.Ns s.heap.objs.size fun _=>none) (sb:Heap.SameBut s.heap.objs.size (s.heap.push d) h') :
  Inv (blk X N sc ⟨fp,pins,s,H,s.heap.objs.size⟩) [] (fh σ sel) H { s with heap:=h',toks:=tk }:=by
 have kept:∀ b o,s.heap.get? b=some o->h'.get? b=some o:=fun b o e=>(sb.2 b (Nat.ne_of_lt (Heap.lt_size e))).trans (Heap.get?_push_of_some _ e)
 have hasb:∀ x,((relabel sc X.env).names.lookup x=some .cell\/(relabel sc X.env).names.lookup x=some .free)->(x,NameKind.free)∈sc.names:=fun x hx=>by
  have nocell:∀ z,sc.names.lookup z≠some .cell:=fun z e=>by
   have:=List.all_eq_true.mp B.nocell _ (mem_lookup e)
   simp at this
  rcases hx with hx | hx
  ·obtain ⟨k',e,q | ⟨q,_⟩⟩:=nc hx
   ·subst q;exact absurd e (nocell x)
   ·subst q;exact mem_lookup e
  ·obtain ⟨k',e,q | ⟨_,q⟩⟩:=nc hx
   ·subst q;exact mem_lookup e
   ·cases q
 refine ⟨⟨I.ok.mod,B.kind,I.ok.glob,I.ok.blt,Nat.le_refl _,fun x y c h1 h2=>I.ok.inj x y c (B.sub x c h1) (B.sub y c h2),fun x hx=>?_,fun x c hf _=>(by cases hf),I.ok.hd,I.ok.frames,.inl rfl,fun b hb=>?_,I.bs,Nat.le_trans I.ok.bsz I.sz,fun b o e hb=>?_,fun b hb hs=>?_,I.stack,I.stkFree⟩,
  rfl,I.bare,Un.kept kept,⟨_,hn,fun i x v h1 h2 h3=>?_⟩,fun x c e=>?_,I.fresh,fun x c e=>I.freeC x c (B.sub x c e),fun p hp=>?_,I.hok.kept kept,?_⟩
 ·have hm:=hasb x hx
  exact mr hm (B.has I.ok _ hm rfl)
 ·obtain ⟨o,e⟩:=hobj b hb
  exact ⟨Nat.ne_of_lt (Heap.lt_size e),fun x c hc=>(hfp b hb).2.2.2.2.1 x c (B.sub x c hc)⟩
 ·rcases (hfp b hb).2.2.2.1 with z | z
  ·exact I.ok.noex b o e z
  ·exact absurd (Nat.lt_of_lt_of_le (Heap.lt_size (I.ok.bs b o e).1) z) (Nat.lt_irrefl _)
 ·have:=I.stkSub b hs
  rcases List.mem_cons.mp this with z | z
  ·exact (hfp b hb).2.1 z
  ·exact (hfp b hb).2.2.1 z
 ·
  have h1:N[i]?=some x:=h1
  unfold fh at h2
  rw [List.getElem?_map] at h2
  cases hs:sel[i]? with
  | none=>rw [hs] at h2;cases h2
  | some o=>
   rw [hs] at h2
   cases o with
   | none=>cases h2
   | some j=>
    have h2:(σ[j]?).join=some v:=Option.some.inj h2
    have hz:(x,some j)∈N.zip sel:=by
     rw [List.mem_iff_getElem?]
     exact ⟨i,by rw [List.getElem?_zip_eq_some];exact ⟨h1,hs⟩⟩
    have hq:=List.all_eq_true.mp B.sel _ hz
    simp only [Bool.and_eq_true,beq_iff_eq] at hq
    obtain ⟨hj,hlk⟩:=hq
    have hm:=mem_lookup hlk
    have hσ:σ[j]?=some (some v):=by
     cases e:σ[j]? with
     | none=>rw [e] at h2;cases h2
     | some a=>rw [e] at h2;cases a with
      | none=>cases h2
      | some a=>exact congrArg some h2
    have hk:=B.freeAt _ hm rfl
    obtain ⟨m,_,hl⟩:=I.loc
    obtain ⟨u,r,lk⟩:=hl j x v hj hσ (hk.elim (fun e=>.inr (.inl e)) fun e=>.inr (.inr e))
    refine ⟨u,r,.inr ⟨?_,?_⟩⟩
    ·have h3:(relabel sc X.env).names.lookup x=some .local\/(relabel sc X.env).names.lookup x=some .cell\/(relabel sc X.env).names.lookup x=some .free:=h3
     rcases h3 with h3 | h3 | h3
     ·obtain ⟨k',e,q | ⟨_,q⟩⟩:=nc h3
      ·subst q
       rw [hlk] at e
       cases e
      ·cases q
     ·exact .inl h3
     ·exact .inr h3
    ·rcases lk with ⟨k,_⟩ | ⟨_,c,e,z⟩
     ·rcases hk with q | q <;> (rw [q] at k;cases k)
     ·obtain ⟨c',e'⟩:=mr (acc:=[]) hm ⟨c,e⟩
      have:c'=c:=Option.some.inj ((B.sub x c' e').symm.trans e)
      subst this
      exact ⟨c',e',z.keeps kept⟩
 ·obtain ⟨v,z⟩:=I.cell x c (B.sub x c e)
  exact ⟨v,z.keeps kept⟩
 ·have hp:p∈X.pn++pins:=by simpa [blk] using hp
  obtain ⟨e,n,ne,nf,d⟩:=I.pin p hp
  refine ⟨kept _ _ e,n,Nat.ne_of_lt (Heap.lt_size e),fun z=>?_,d⟩
  rcases List.mem_cons.mp (I.stkSub _ z) with q | q
  ·exact ne q
  ·exact nf q
 ·unfold fh
  rw [List.length_map]
  exact B.len
theorem EM {b:BA} {σ':St} {H5:Hp} {s5:Shared} {h':Heap} (I3:Inv X b.pins σ b.H b.s) (hfp:∀ x∈b.fp,dW X b.pins b.H x) (I5:Inv (blk X N sc b) [] σ' H5 s5)
  (sb:Heap.SameBut b.C s5.heap h'):Inv X b.pins σ H5 { s5 with heap:=h' }:=by
 have hC:b.s.heap.objs.size<=b.C:=I5.ok.above
 have ne:∀ c o,b.s.heap.get? c=some o->c≠b.C:=fun c o e=>Nat.ne_of_lt (Nat.lt_of_lt_of_le (Heap.lt_size e) hC)
 have u:Un (frs X.stack) b.fp b.H H5 b.s.heap s5.heap:=I5.base
 have hn:H5 b.C=none:=I5.free
 refine I3.call' (s':={ s5 with heap:=h' }) (ch:=b.fp) I5.os ⟨fun c o e n hb hx=>(sb.2 c (ne c o e)).trans (u.keep c o e n hb hx),fun c o e n hb hx=>?_,u.free,fun c o e hx=>?_,u.tups,u.frzs,u.tbls⟩ (fun a o e=>?_) I5.bare
  fun x hx=>⟨(hfp x hx).2.2.2.1,(hfp x hx).2.1,(hfp x hx).2.2.2.2.1,(hfp x hx).2.2.2.2.2⟩
 ·obtain ⟨sl,q⟩:=u.slot c o e n hb hx
  exact ⟨sl,(sb.2 c (ne c o e)).trans q⟩
 ·obtain ⟨o',q⟩:=u.there c o e hx
  exact ⟨o',(sb.2 c (ne c o e)).trans q⟩
 ·refine (I5.hok a o e).stay (fun c w' hc q=>(sb.2 c ?_).trans q) (fun _ q=>q) fun _ _ q=>q
  rintro rfl
  rcases hc with z | z
  ·rw [<-z,hn] at e;cases e
  ·rw [hn] at z;cases z
end
def PTs (X:Cx) (ifs:List Expr) (t:TT):Prop:=
 ∀ (pins:List (Addr×Obj)) (s:Shared) (σ:St) (H:Hp) (Q:Bool->Hp->Prop),Inv X pins σ H s->t σ H Q->
  wpAny (model X.prog X.w) X.A (forIn ifs true fun c r=>if r=true then do let ok<-isTrue c X.env (eval c X.env);pure (ForInStep.yield ok) else pure (ForInStep.yield r)) (TP X pins σ Q) X.xe s
def A4:TT:=fun _ H Q=>Q true H
theorem EJ {X:Cx}:PTs X [] A4:=fun pins s σ H Q I h=>wpAny_tests_nil ⟨H,I,h⟩
def tLC (wi:TI) (g:TG) (ts:TT) (te:TE) (sel:List (Option Nat)):TE:=fun σ H Q=>wi σ H fun J H1=>∀ acc,H1 acc=none->
 ∃ W:Nat->Nat->St->Hp->Prop,(∃ m,W 0 m (fh σ sel) (upd H1 acc (.lst [])))/\∀ i m σ H,W i m σ H->
  (J.stop i H/\Q (.ref acc) H)\/(J.go i H/\∃ N:St->Hp->Prop,(∀ σ' H',N σ' H'->∃ m',m' < m/\W (i + 1) m' σ' H')/\∀ x H',J.yld i H x H'->g x σ H' fun σ2 H2=>
   ts σ2 H2 fun c H3=>if c=true then te σ2 H3 fun v H4=>∃ ys,H4 acc=some (.lst ys)/\ys.length < sizeLine/\N σ2 (upd H4 acc (.lst (ys++[v]))) else N σ2 H3)
section
variable {X:Cx} {tg iter elt:Expr} {ifs:List Expr} {sc:Scope} {pos:Pos} {wi:TI} {g:TG} {ts:TT} {te:TE} {N:List Str} {sel:List (Option Nat)}
theorem jT {α:Type} {t:Sem α} {Q Q':α->Shared->Prop} {M:Model} {A:Around} {E:Value->Shared->Prop} {s:Shared} (h:wpAny M A t Q (fun _ _=>False) s) (hQ:∀ a s,Q a s->Q' a s):wpAny M A t Q' E s:=
 wpAny_mono h hQ fun _ _ f=>f.elim
theorem GF {pins:List (Addr×Obj)} {σ:St} {H3:Hp} {s3:Shared} {acc it:Addr} {fp:List Addr} {tn:Nat->Heap->Prop} {J:It} {RR:Addr->Result->Shared->Prop} {QQ:Hp->Prop} {W:Nat->Nat->St->Hp->Prop} {m0:Nat} (B:Blk X N sel sc) (hc:X.calm=true)
  (hg:∀ b,PG (blk X N sc b) tg g) (ht:∀ b,PTs (blk X N sc b) ifs ts) (he:∀ b,PE (blk X N sc b) elt te) (I3:Inv X pins σ H3 s3) (T:Turn X.prog X.w X.K tg J fp it tn) (st3:tn 0 s3.heap) (f3:∀ b∈fp,dW X pins H3 b)
  (w0:W 0 m0 (fh σ sel) H3)
  (turn:∀ i m σ H,W i m σ H->(J.stop i H/\QQ H)\/(J.go i H/\∃ N:St->Hp->Prop,(∀ σ' H',N σ' H'->∃ m',m' < m/\W (i + 1) m' σ' H')/\∀ x H',J.yld i H x H'->g x σ H' fun σ2 H2=>
   ts σ2 H2 fun c H3=>if c=true then te σ2 H3 fun v H4=>∃ ys,H4 acc=some (.lst ys)/\ys.length < sizeLine/\N σ2 (upd H4 acc (.lst (ys++[v]))) else N σ2 H3))
  (hRR:∀ C H5 s5 m,s5.heap.Ns C m->(∀ h',Heap.SameBut C s5.heap h'->Inv X pins σ H5 { s5 with heap:=h' })->H5 C=none->C≠X.env.locals->(∀ x c,X.env.cells.lookup x=some c->c≠C)->X.s₀.heap.objs.size<=C->(∀ p∈X.pn++pins,p.1≠C)->QQ H5->RR C (.ok .next) s5) :
  wpAny (model X.prog X.w) X.A (newFunctionEnv sc X.env.globals (cK X.env sc.names []) [] X.env.qual none .none (some X.env)) (fun cenv s4=>
    codeAny (model X.prog X.w) X.A (.compStart (.ListComp elt [⟨tg,iter,ifs,0⟩] sc pos) 0 (.ref it) (.ref acc) { cenv with scope:=relabel sc X.env }) (RR cenv.locals) s4) X.xe s3:=by
 refine wpAny_newFunctionEnv (fun y hy z=>?_) (by intro y hy;simp at hy) (fun h4 hn4 sb4=>?_) B.kind
 ·have:=List.all_eq_true.mp B.nocell y hy
  rw [z] at this
  simp at this
 have ob3:∀ b∈fp,∃ o,s3.heap.get? b=some o:=fun b hb=>by
  obtain ⟨o,e,_⟩:=T.obj _ _ st3 b hb
  exact ⟨o,e⟩
 have kept:∀ b o,s3.heap.get? b=some o->h4.get? b=some o:=fun b o e=>(sb4.2 b (Nat.ne_of_lt (Heap.lt_size e))).trans (Heap.get?_push_of_some _ e)
 have st4:tn 0 h4:=T.keep _ _ _ st3 fun b hb o e=>kept b o e
 have I4:=Ho (tk:=s3.toks + ([]:List (Str×Value)).length) B I3 f3 ob3 (by simpa using hn4) sb4
 generalize hb:(⟨fp,pins,s3,H3,s3.heap.objs.size⟩:BA)=b at I4
 have bfp:b.fp=fp:=by rw [<-hb]
 have bpins:b.pins=pins:=by rw [<-hb]
 have bs:b.s=s3:=by rw [<-hb]
 have bH:b.H=H3:=by rw [<-hb]
 have bC:b.C=s3.heap.objs.size:=by rw [<-hb]
 have fpb:∀ {H':Hp},(∀ x∈fp,H' x=none)->∀ x∈fp,dW (blk X N sc b) [] H' x:=fun {H'} hn x hx=>by
  refine ⟨hn x hx,?_,fun z=>?_,.inl ?_,fun y c e=>(f3 x hx).2.2.2.2.1 y c (B.sub y c e),fun p hp=>?_⟩
  ·show x≠b.C
   rw [bC]
   obtain ⟨o,e⟩:=ob3 x hx
   exact Nat.ne_of_lt (Heap.lt_size e)
  ·rcases List.mem_cons.mp (I3.stkSub x z) with q | q
   ·exact (f3 x hx).2.1 q
   ·exact (f3 x hx).2.2.1 q
  ·show x∈b.fp
   rw [bfp];exact hx
  ·have hp:p∈X.pn++b.pins:=by simpa [blk] using hp
   rw [bpins] at hp
   exact (f3 x hx).2.2.2.2.2 p hp
 have loop:∀ s5:Shared,s5={ s3 with heap:=h4,toks:=s3.toks + ([]:List (Str×Value)).length }->
   codeAny (model X.prog X.w) X.A (.compLoop (.ListComp elt [⟨tg,iter,ifs,0⟩] sc pos) 0 (.ref it) (.ref acc) (blk X N sc b).env) (RR s3.heap.objs.size) s5:=by
  rintro s5 rfl
  refine codeAny_loop rfl (fun n s'=>∃ i σ' H',Inv (blk X N sc b) [] σ' H' s'/\tn i s'.heap/\(∀ x∈fp,H' x=none)/\W i n σ' H') (fun n s6 hI=>?_) m0 ⟨0,_,_,I4,st4,fun x hx=>(f3 x hx).1,w0⟩
  obtain ⟨i,σ6,H6,I6,st6,fr6,w6⟩:=hI
  show wpAny _ X.A ((compTurn (.ListComp elt [⟨tg,iter,ifs,0⟩] sc pos) 0 (.ref it) (.ref acc) (blk X N sc b).env).onRaise (fun x=>do noteFrame x (blk X N sc b).env;theTreesLotGoes x)) _ _ s6
  refine wpAny_noted ?_
  rw [compTurn_list]
  rcases turn i n σ6 H6 w6 with ⟨stop,qn⟩ | ⟨go,NN,hNN,step⟩
  ·refine wpAny_bind (wpAny_standAt (wpAny_bind (jT (T.done (blk X N sc b) rfl rfl rfl hc i [] s6 σ6 H6 _ I6 (fpb fr6) st6 stop) fun r s7 ⟨hr,I7⟩=>?_)))
   subst hr
   refine wpAny_pure ?_
   obtain ⟨m7,hn7,_⟩:=I7.loc
   have hn7:s7.heap.Ns b.C m7:=hn7
   have I3':Inv X b.pins σ b.H b.s:=by rw [bpins,bH,bs];exact I3
   refine hRR _ H6 s7 m7 (by rw [<-bC];exact hn7) (fun h' sb=>?_) (by rw [<-bC];exact I7.free) ?_ (fun x c e z=>?_) I3.sz (fun p hp=>Nat.ne_of_lt (Heap.lt_size (I3.pin p hp).1)) qn
   ·rw [<-bC] at sb
    have:=EM (b:=b) I3' (fun x hx=>by rw [bfp] at hx;rw [bpins,bH];exact f3 x hx) I7 sb
    rw [bpins] at this
    exact this
   ·exact Ne.symm (Nat.ne_of_lt I3.lt)
   ·obtain ⟨v,o,ho,_⟩:=I3.cell x c e
    rw [z] at ho
    exact absurd (Heap.lt_size ho) (Nat.lt_irrefl _)
  ·refine wpAny_bind (wpAny_standAt (wpAny_bind (jT (T.item (blk X N sc b) rfl rfl rfl hc i [] s6 σ6 H6 _ I6 (fpb fr6) st6 go) fun r s7 ⟨u,hr,h7⟩=>?_)))
   subst hr
   refine wpAny_bind (jT h7 fun _ s8 ⟨x,H8,I8,r8,y8,st8,fr8⟩=>?_)
   have I8':=I8.pinned (fpb fr8) (T.obj _ _ st8)
   refine wpAny_bind (jT (hg b _ s8 σ6 H8 x u _ I8' r8 (step x H8 y8)) fun _ s9 ⟨σ9,H9,I9,q9⟩=>?_)
   refine wpAny_bind (jT (ht b _ s9 σ9 H9 _ I9 q9) fun ok s10 ⟨H10,I10,q10⟩=>?_)
   have again:∀ {sA:Shared} {σ7:St} {H7:Hp},Inv (blk X N sc b) ([]++lU fp s8.heap) σ7 H7 sA->NN σ7 H7->∃ m,m < n/\∃ i σ' H',Inv (blk X N sc b) [] σ' H' sA/\tn i sA.heap/\(∀ x∈fp,H' x=none)/\W i m σ' H':=fun {sA σ7 H7} I7 n7=>by
    obtain ⟨m',hm,w7⟩:=hNN σ7 H7 n7
    refine ⟨m',hm,i + 1,σ7,H7,I7.unpinned,T.keep _ _ _ st8 fun b hb o e=>(I7.pin (b,o) (List.mem_append_right _ (List.mem_append_right _ (n6 hb e)))).1,fun b hb=>?_,w7⟩
    obtain ⟨o,e,d⟩:=T.obj _ _ st8 b hb
    exact (I7.pin (b,o) (List.mem_append_right _ (List.mem_append_right _ (n6 hb e)))).2.1
   cases ok with
   | false=>
    exact wpAny_pure ⟨rfl,again I10 q10⟩
   | true=>
    have q10:te σ9 H10 _:=q10
    refine wpAny_bind (wpAny_bind (jT (he b _ s10 σ9 H10 _ I10 q10) fun u' s11 ⟨v,H11,I11,r11,ys,ha,hz,nn⟩=>?_))
    refine wpAny_bind (jT (oK (X:=blk X N sc b) _ s11 σ9 H11 (.ref acc) [v] (.ref acc) [u'] (fun _ H12=>NN σ9 H12) I11 rfl (.cons r11 .nil) ⟨_,ys,v,rfl,rfl,ha,hz,nn⟩) fun _ s12 ⟨_,H12,I12,_,n12⟩=>?_)
    exact wpAny_pure (wpAny_pure ⟨rfl,again I12 n12⟩)
 have env_eq:(blk X N sc b).env=compEnvC sc (cK X.env sc.names []) s3.heap.objs.size X.env:=by
  show compEnvC sc (cK X.env sc.names []) b.C X.env=_
  rw [bC]
 show codeAny (model X.prog X.w) X.A (.compStart (.ListComp elt [⟨tg,iter,ifs,0⟩] sc pos) 0 (.ref it) (.ref acc) (compEnvC sc (cK X.env sc.names []) s3.heap.objs.size X.env)) (RR s3.heap.objs.size) _
 rw [<-env_eq]
 exact codeAny_compStart_list (loop _ rfl) (T.self _ _ _ _ _ st4 (loop _ rfl))
theorem sX {pins:List (Addr×Obj)} {s:Shared} {σ:St} {H:Hp} {Q:VK} {RR:Value->Addr->Result->Shared->Prop} (B:Blk X N sel sc) (hc:X.calm=true)
  (hi:PI X tg iter wi) (hg:∀ b,PG (blk X N sc b) tg g) (ht:∀ b,PTs (blk X N sc b) ifs ts) (he:∀ b,PE (blk X N sc b) elt te) (I:Inv X pins σ H s) (h:tLC wi g ts te sel σ H Q)
  (hRR:∀ acc C H5 s5 m,s5.heap.Ns C m->(∀ h',Heap.SameBut C s5.heap h'->Inv X pins σ H5 { s5 with heap:=h' })->H5 C=none->C≠X.env.locals->(∀ x c,X.env.cells.lookup x=some c->c≠C)->X.s₀.heap.objs.size<=C->(∀ p∈X.pn++pins,p.1≠C)->Q (.ref acc) H5->RR (.ref acc) C (.ok .next) s5) :
  wpAny (model X.prog X.w) X.A (eval iter X.env) (fun v s1=>wpAny (model X.prog X.w) X.A (pyIter v) (fun it s2=>wpAny (model X.prog X.w) X.A (newList []) (fun acc s3=>
   wpAny (model X.prog X.w) X.A (newFunctionEnv sc X.env.globals (cK X.env sc.names []) [] X.env.qual none .none (some X.env)) (fun cenv s4=>
    codeAny (model X.prog X.w) X.A (.compStart (.ListComp elt [⟨tg,iter,ifs,0⟩] sc pos) 0 it acc { cenv with scope:=relabel sc X.env }) (RR acc cenv.locals) s4) X.xe s3) X.xe s2) X.xe s1) X.xe s:=by
 refine thn (hi pins s σ H _ I h) fun v s1 h1=>thn h1 fun itv s2 h2=>?_
 obtain ⟨it,fp,tn,J,H2,e,I2,T,st2,f2,q⟩:=h2
 subst e
 obtain ⟨W,⟨m0,w0⟩,turn⟩:=q _ I2.fresh
 have I3:Inv X pins σ (upd H2 s2.heap.objs.size (.lst [])) { s2 with heap:=s2.heap.push { cls:=.type "list",data:=.seq ([]:List Value).toArray },toks:=s2.toks }:=I2.lnew (ys:=[]) (its:=[]) (t':=s2.toks) .nil (Nat.zero_le _)
 have fne:∀ b∈fp,b≠s2.heap.objs.size:=fun b hb=>by
  obtain ⟨o,e,_⟩:=T.obj _ _ st2 b hb
  exact Nat.ne_of_lt (Heap.lt_size e)
 have f3:∀ b∈fp,dW X pins (upd H2 s2.heap.objs.size (.lst [])) b:=fun b hb=>⟨by rw [aA (fne b hb)];exact (f2 b hb).1,(f2 b hb).2⟩
 refine wpAny_newObj_type ?_
 exact GF (QQ:=Q (.ref s2.heap.objs.size)) (RR:=fun C=>RR (.ref s2.heap.objs.size) C) B hc hg ht he I3 T (T.keep _ _ _ st2 fun b hb o e=>Heap.get?_push_of_some _ e) f3 w0 turn fun C H5 s5 m=>hRR _ C H5 s5 m
theorem Jd (B:Blk X N sel sc) (hc:X.calm=true) (hi:PI X tg iter wi) (hg:∀ b,PG (blk X N sc b) tg g) (ht:∀ b,PTs (blk X N sc b) ifs ts) (he:∀ b,PE (blk X N sc b) elt te)
  (hs:∀ x,foldedSetIterable iter X.env x=pure x:=by intro _;rfl):PE X (.ListComp elt [⟨tg,iter,ifs,0⟩] sc pos) (tLC wi g ts te sel):=by
 intro pins s σ H Q I h
 rw [eval_ListComp]
 refine wpAny_comprehension_free (use:=none) (cl:=cK X.env sc.names []) rfl hs (wy (B.has I.ok)) B.kind (fun y hy hl=>?_) ?_
 ·have:=List.all_eq_true.mp B.names y hy
  rw [hl] at this
  simpa using this
 ·refine sX (RR:=fun acc C=>compPost (model X.prog X.w) X.A X.xe none (EP X pins σ Q) acc C) B hc hi hg ht he I h ?_
  intro acc C H5 s5 m hn hI _ _ _ _ _ q
  exact ⟨m,hn,fun h' sb=>⟨.ref acc,H5,hI h' sb,rfl,q⟩⟩
theorem Cj {i:Nat} {x:Str} {pos' spos:Pos} (B:Blk X N sel sc) (hc:X.calm=true) (hN:X.N.Nodup) (hx:X.N[i]?=some x) (hl:X.env.scope.names.lookup x=some .local) (hi:PI X tg iter wi)
  (hg:∀ b,PG (blk X N sc b) tg g) (ht:∀ b,PTs (blk X N sc b) ifs ts) (he:∀ b,PE (blk X N sc b) elt te)
  (hsw:swapsWith (.ListComp elt [⟨tg,iter,ifs,0⟩] sc pos) (some (.Name x pos')) spos.line X.env=pure true:=by rfl)
  (hs:∀ x,foldedSetIterable iter X.env x=pure x:=by intro _;rfl):PS X (.Assign [.Name x pos'] (.ListComp elt [⟨tg,iter,ifs,0⟩] sc pos) spos) (mw (tLC wi g ts te sel) (iB i)):=by
 intro pins s σ H D I h
 rw [exec_Assign_Name_used _ _ _ _ hsw]
 refine wpAny_bind (wpAny_standAt (wpAny_bind ?_))
 show wpAny _ X.A (do let _<-comprehension (.ListComp elt [⟨tg,iter,ifs,0⟩] sc pos) sc X.env _ (newList []) false (eval iter X.env) (some (assign (.Name x pos') X.env))) _ _ s
 refine wpAny_bind (thn (Q:=fun _ s'=>SP X pins D .next s') (wpAny_comprehension_free (use:=some (assign (.Name x pos') X.env)) (cl:=cK X.env sc.names []) rfl hs (wy (B.has I.ok)) B.kind (fun y hy hl=>?_) ?_)
  fun _ s' hq=>wpAny_pure (wpAny_pure hq))
 ·have:=List.all_eq_true.mp B.names y hy
  rw [hl] at this
  simpa using this
 ·refine sX (RR:=fun acc C=>compPost (model X.prog X.w) X.A X.xe (some (assign (.Name x pos') X.env)) (fun _ s'=>SP X pins D .next s') acc C) B hc hi hg ht he I h ?_
  intro acc C H5 s5 m hn hI hC hCl hCc hCz hCp q
  have q:D.nx (σ.set i (some (.ref acc))) H5:=q
  have I5:Inv X pins σ H5 s5:=hI s5.heap (.refl ..)
  refine wpAny_assign_Name (zg I5 hN hx (.inl hl) (show RelV (.ref acc) (.ref acc) from rfl) (fun s6 I6 ⟨a,sa,ha⟩=>?_) (.inr hl))
  have neC:C≠a:=by
   rcases ha with ha | ha
   ·rw [ha];exact hCl
   ·exact fun z=>hCc x a ha z.symm
  refine ⟨m,hn.sameBut sa neC,fun h' sb=>?_⟩
  refine ⟨_,H5,?_,q⟩
  exact I6.turned (t':=s6.toks) (fun b o hb e=>(sb.2 b hb).trans e) hC hCl (.inr hCz) hCc hCp
end
end L2
namespace L2
open PySem PySem.Spec PyProof.Rows
def A6 (C a:Addr):Heap->Prop:=fun h=>∃ o,h.get? a=some o/\o.cls=.ref C
end L2
namespace DL
open PySem PySem.Spec PyProof.Rows L2
abbrev St:=L2.St
inductive D where
 | non | bl (b:Bool) | int (i:Int) | str (x:Str) | tup (xs:List D) | lst (xs:List D)
 | scr (ns:List Int)
 | exc (c:Str)
 | key (r:Str) (n:Int)
 | obj (ks:List (Str×Int)) (vs as bs:List D)
inductive Sl where
 | no | sh (d:D) | ow (ds:List D)
 | nw (xss:List (List D))
 | dc (ks:List Int) (vs:List D)
 | ob (ks:List (Str×Int)) (vs as bs:List D)
abbrev DSt:=List Sl
inductive DV where
 | val (d:D) | slot (i:Nat) | own (ds:List D)
 | fld (i j:Nat)
inductive Rs (α:Type) where
 | un | er (c:Str) | ok (a:α) (δ:DSt)
abbrev DM (α:Type):=DSt->Rs α
def DM.ret {α:Type} (a:α):DM α:=fun δ=>.ok a δ
def DM.bd {α β:Type} (f:DM α) (g:α->DM β):DM β:=fun δ=>match f δ with | .un=>.un | .er c=>.er c | .ok a δ'=>g a δ'
abbrev Om:=Addr->Option Nat
def ShL (H:Hp) (Ω:Om) (a:Addr) (xs:List V):Prop:=Rd H a (.lst xs)/\Ω a=none
def KL (K:PySem.W.Frag) (H:Hp) (a:Addr) (xs:List V):Prop:=(∃ o,H a=some (.frz o (.lst xs))) \/
 ∃ (o:Obj) (its:Array Value) (n:Nat),K.lookup a=some o/\o.cls=.type "list"/\o.dict=none/\o.data=.seq its n/\its.size<=sizeLine/\Vals xs its.toList
theorem KL.sq {K:PySem.W.Frag} {H:Hp} {a:Addr} {xs:List V} (h:KL K H a xs):SqL K H a xs:=h.elim (fun ⟨o,z⟩=>.inl (.inr ⟨o,z⟩)) .inr
def cg (p:Str×Int):List Key:=[.inr p.1,.inl p.2]
def cz (K:PySem.W.Frag) (H:Hp) (p a1 a2 a3:Addr):Prop:=∃ C dx,PySem.W.nsIn K mainGlobals "Bed"=some (some (.ref C))/\H p=some (.ins C dx [("borne",.ref a1),("knitted",.ref a2),("past",.ref a3)])
mutual
def Rep (K:PySem.W.Frag) (H:Hp) (Ω:Om):D->V->Prop
 | .non,v=>v=.non
 | .bl b,v=>v=.bl b
 | .int i,v=>v=.int i
 | .str x,v=>v=.str x
 | .tup ds,v=>∃ a vs,v=.ref a/\SqT K H a vs/\ax K H Ω ds vs
 | .lst ds,v=>∃ a vs,v=.ref a/\ShL H Ω a vs/\ax K H Ω ds vs
 | .scr ns,v=>∃ a,v=.ref a/\KL K H a (ns.map V.int)
 | .exc c,v=>∃ a C,v=.ref a/\PySem.W.nsIn K mainGlobals c=some (some (.ref C))/\H a=some (.ext (A6 C a))
 | .key r n,v=>∃ a,v=.ref a/\H a=some (.tup [.str r,.int n])
 | .obj ks vs as bs,v=>∃ p a1 a2 a3 kvs xs ys,v=.ref p/\cz K H p a1 a2 a3/\(H a1=some (.dT kvs)/\Ω a1=none)/\(H a2=some (.lst xs)/\Ω a2=none)/\(H a3=some (.lst ys)/\Ω a3=none)/\kvs.map (·.1)=ks.map cg/\ax K H Ω vs (kvs.map (·.2))/\ax K H Ω as xs/\ax K H Ω bs ys
def ax (K:PySem.W.Frag) (H:Hp) (Ω:Om):List D->List V->Prop
 | [],vs=>vs=[]
 | d :: ds,vs=>∃ v r,vs=v :: r/\Rep K H Ω d v/\ax K H Ω ds r
end
def bV:HO->Bool
 | .lst _=>false
 | .dK _=>false
 | .dT _=>false
 | _=>true
structure Ext (H:Hp) (Ω:Om) (H':Hp) (Ω':Om):Prop where
 keep:∀ b o,H b=some o->(bV o=true\/Ω b=none\/Ω b=some 0)->H' b=some o
 new:∀ b,Ω b=none->H b≠none->Ω' b=none
 fr:∀ b,Ω b=some 0↔Ω' b=some 0
 live:∀ b,H' b=none->H b=none
section
variable {K:PySem.W.Frag} {H H1 H2 H':Hp} {Ω Ω1 Ω2 Ω':Om}
theorem Ext.refl:Ext H Ω H Ω:=⟨fun _ _ e _=>e,fun _ e _=>e,fun _=>Iff.rfl,fun _ e=>e⟩
theorem Ext.trans (a:Ext H Ω H1 Ω1) (b:Ext H1 Ω1 H2 Ω2):Ext H Ω H2 Ω2 where
 keep:=fun x o e h=>b.keep x o (a.keep x o e h) (h.imp_right fun z=>z.imp (fun z=>a.new x z (by rw [e];exact Option.some_ne_none _)) fun z=>(a.fr x).mp z)
 new:=fun x e h=>b.new x (a.new x e h) fun z=>h (a.live x z)
 fr:=fun x=>(a.fr x).trans (b.fr x)
 live:=fun x e=>a.live x (b.live x e)
theorem Rd.ext {a:Addr} {u:HO} (e:Ext H Ω H' Ω') (h:Rd H a u) (hq:bV u=true\/Ω a=none):Rd H' a u:=by
 rcases h with h | ⟨o,h⟩
 ·exact .inl (e.keep a _ h (hq.imp_right .inl))
 ·exact .inr ⟨o,e.keep a _ h (.inl rfl)⟩
theorem SqT.ext {a:Addr} {xs:List V} (e:Ext H Ω H' Ω') (h:SqT K H a xs):SqT K H' a xs:=
 h.imp (fun z=>Rd.ext e z (.inl rfl)) id
theorem Rd.some {a:Addr} {u:HO} (h:Rd H a u):H a≠none:=by
 rcases h with h | ⟨o,h⟩ <;> rw [h] <;> exact Option.some_ne_none _
theorem ShL.ext {a:Addr} {xs:List V} (e:Ext H Ω H' Ω') (h:ShL H Ω a xs):ShL H' Ω' a xs:=
 ⟨Rd.ext e h.1 (.inr h.2),e.new a h.2 (Rd.some h.1)⟩
theorem cz.ext {p a1 a2 a3:Addr} (e:Ext H Ω H' Ω') (h:cz K H p a1 a2 a3):cz K H' p a1 a2 a3:=by
 obtain ⟨C,dx,h1,h2⟩:=h
 exact ⟨C,dx,h1,e.keep p _ h2 (.inl rfl)⟩
theorem Ext.nn {a:Addr} {o:HO} (e:Ext H Ω H' Ω') (h:H a=some o/\Ω a=none):H' a=some o/\Ω' a=none:=⟨e.keep a _ h.1 (.inr (.inl h.2)),e.new a h.2 (by rw [h.1];exact Option.some_ne_none _)⟩
mutual
theorem Rep.ext (e:Ext H Ω H' Ω'):∀ {d:D} {v:V},Rep K H Ω d v->Rep K H' Ω' d v
 | .non,_,h=>h
 | .bl _,_,h=>h
 | .int _,_,h=>h
 | .str _,_,h=>h
 | .tup _,_,h=>by
  obtain ⟨a,vs,e1,e2,e3⟩:=(show ∃ a vs,_ from h)
  exact (show ∃ a vs,_ from ⟨a,vs,e1,SqT.ext e e2,ax.ext e e3⟩)
 | .lst _,_,h=>by
  obtain ⟨a,vs,e1,e2,e3⟩:=(show ∃ a vs,_ from h)
  exact (show ∃ a vs,_ from ⟨a,vs,e1,ShL.ext e e2,ax.ext e e3⟩)
 | .scr _,_,h=>by
  obtain ⟨a,e1,e2⟩:=(show ∃ a,_ from h)
  exact (show ∃ a,_ from ⟨a,e1,e2.imp (fun ⟨o,z⟩=>⟨o,e.keep a _ z (.inl rfl)⟩) id⟩)
 | .exc _,_,h=>by
  obtain ⟨a,C,e1,e2,e3⟩:=(show ∃ a C,_ from h)
  exact (show ∃ a C,_ from ⟨a,C,e1,e2,e.keep a _ e3 (.inl rfl)⟩)
 | .key _ _,_,h=>by
  obtain ⟨a,e1,e2⟩:=(show ∃ a,_ from h)
  exact (show ∃ a,_ from ⟨a,e1,e.keep a _ e2 (.inl rfl)⟩)
 | .obj _ _ _ _,_,h=>by
  obtain ⟨p,a1,a2,a3,kvs,xs,ys,e1,e2,e3,e4,e5,e6,e7,e8,e9⟩:=(show ∃ p a1 a2 a3 kvs xs ys,_ from h)
  exact (show ∃ p a1 a2 a3 kvs xs ys,_ from ⟨p,a1,a2,a3,kvs,xs,ys,e1,e2.ext e,e.nn e3,e.nn e4,e.nn e5,e6,ax.ext e e7,ax.ext e e8,ax.ext e e9⟩)
theorem ax.ext (e:Ext H Ω H' Ω'):∀ {ds:List D} {vs:List V},ax K H Ω ds vs->ax K H' Ω' ds vs
 | [],_,h=>h
 | _ :: _,_,h=>by
  obtain ⟨v,r,e1,e2,e3⟩:=(show ∃ v r,_ from h)
  exact (show ∃ v r,_ from ⟨v,r,e1,Rep.ext e e2,ax.ext e e3⟩)
end
theorem ax.length:∀ {ds:List D} {vs:List V},ax K H Ω ds vs->ds.length=vs.length
 | [],_,h=>by cases (show _=[] from h);rfl
 | _ :: _,_,h=>by
  obtain ⟨v,r,e1,e2,e3⟩:=(show ∃ v r,_ from h)
  subst e1
  rw [List.length_cons,List.length_cons,ax.length e3]
theorem ax.nil:ax K H Ω [] []:=rfl
theorem ax.cons {d:D} {ds:List D} {v:V} {vs:List V} (h:Rep K H Ω d v) (r:ax K H Ω ds vs):ax K H Ω (d :: ds) (v :: vs):=⟨v,vs,rfl,h,r⟩
theorem ax.get:∀ {ds:List D} {vs:List V} {i:Nat} {d:D},ax K H Ω ds vs->ds[i]?=some d->∃ v,vs[i]?=some v/\Rep K H Ω d v
 | [],_,_,_,_,e=>by simp at e
 | d :: ds,_,0,d',h,e=>by
  obtain ⟨v,r,e1,e2,e3⟩:=(show ∃ v r,_ from h)
  subst e1
  have:d=d':=by simpa using e
  subst this
  exact ⟨v,rfl,e2⟩
 | _ :: ds,_,i + 1,d',h,e=>by
  obtain ⟨v,r,e1,e2,e3⟩:=(show ∃ v r,_ from h)
  subst e1
  obtain ⟨w,q1,q2⟩:=ax.get (i:=i) e3 (by simpa using e)
  exact ⟨w,by simpa using q1,q2⟩
theorem ax.append:∀ {ds es:List D} {vs ws:List V},ax K H Ω ds vs->ax K H Ω es ws->ax K H Ω (ds++es) (vs++ws)
 | [],_,_,_,h,q=>by cases (show _=[] from h);exact q
 | _ :: _,_,_,_,h,q=>by
  obtain ⟨v,r,e1,e2,e3⟩:=(show ∃ v r,_ from h)
  subst e1
  exact .cons e2 (ax.append e3 q)
theorem ax.drop:∀ {ds:List D} {vs:List V} (n:Nat),ax K H Ω ds vs->ax K H Ω (ds.drop n) (vs.drop n)
 | _,_,0,h=>h
 | [],_,_ + 1,h=>by cases (show _=[] from h);exact .nil
 | _ :: _,_,n + 1,h=>by
  obtain ⟨v,r,e1,e2,e3⟩:=(show ∃ v r,_ from h)
  subst e1
  exact ax.drop n e3
theorem ax.take:∀ {ds:List D} {vs:List V} (n:Nat),ax K H Ω ds vs->ax K H Ω (ds.take n) (vs.take n)
 | _,_,0,_=>.nil
 | [],_,_ + 1,h=>by cases (show _=[] from h);exact .nil
 | _ :: _,_,n + 1,h=>by
  obtain ⟨v,r,e1,e2,e3⟩:=(show ∃ v r,_ from h)
  subst e1
  exact .cons e2 (ax.take n e3)
theorem ax.reverse:∀ {ds:List D} {vs:List V},ax K H Ω ds vs->ax K H Ω ds.reverse vs.reverse
 | [],_,h=>by cases (show _=[] from h);exact .nil
 | _ :: _,_,h=>by
  obtain ⟨v,r,e1,e2,e3⟩:=(show ∃ v r,_ from h)
  subst e1
  rw [List.reverse_cons,List.reverse_cons]
  exact (ax.reverse e3).append (.cons e2 .nil)
theorem ax.set {d:D} {v:V} (h1:Rep K H Ω d v):∀ {ds:List D} {vs:List V} (n:Nat),ax K H Ω ds vs->ax K H Ω (ds.set n d) (vs.set n v)
 | [],_,_,h=>by cases (show _=[] from h);exact .nil
 | _ :: _,_,0,h=>by
  obtain ⟨v,r,e1,e2,e3⟩:=(show ∃ v r,_ from h)
  subst e1
  exact .cons h1 e3
 | _ :: _,_,n + 1,h=>by
  obtain ⟨v,r,e1,e2,e3⟩:=(show ∃ v r,_ from h)
  subst e1
  exact .cons e2 (ax.set h1 n e3)
end
def Nst (K:PySem.W.Frag) (H:Hp) (Ω:Om) (k:Nat) (xss:List (List D)) (bs:List Addr):Prop:=∀ (j:Nat) b xs,bs[j]?=some b->xss[j]?=some xs->∃ ws,H b=some (.lst ws)/\Ω b=some k/\ax K H Ω xs ws
def fg (K:PySem.W.Frag) (H:Hp) (Ω:Om) (k:Nat) (p:Addr) (ks:List (Str×Int)) (vs as bs:List D):Prop:=∃ a1 a2 a3 kvs xs ys,cz K H p a1 a2 a3/\(H a1=some (.dT kvs)/\Ω a1=some k)/\(H a2=some (.lst xs)/\Ω a2=some k)/\(H a3=some (.lst ys)/\Ω a3=some k)/\a2≠a3/\kvs.map (·.1)=ks.map cg/\ax K H Ω vs (kvs.map (·.2))/\ax K H Ω as xs/\ax K H Ω bs ys
def hR (K:PySem.W.Frag) (H:Hp) (Ω:Om) (i:Nat):Sl->Option V->Prop
 | .no,_=>True
 | .sh d,o=>∃ v,o=some v/\Rep K H Ω d v
 | .ow ds,o=>∃ a vs,o=some (.ref a)/\H a=some (.lst vs)/\Ω a=some (i + 2)/\ax K H Ω ds vs
 | .nw xss,o=>∃ (a:Addr) (bs:List Addr),o=some (.ref a)/\H a=some (.lst (bs.map V.ref))/\Ω a=some (i + 2)/\(a :: bs).Nodup/\bs.length=xss.length/\Nst K H Ω (i + 2) xss bs
 | .dc ks vs,o=>∃ (a:Addr) (kvs:List (Key×V)),o=some (.ref a)/\H a=some (.dK kvs)/\Ω a=some (i + 2)/\kvs.map (·.1)=ks.map Sum.inl/\ax K H Ω vs (kvs.map (·.2))
 | .ob ks vs as bs,o=>∃ p,o=some (.ref p)/\fg K H Ω (i + 2) p ks vs as bs
structure az (K:PySem.W.Frag) (H:Hp) (Ω:Om) (σ:St) (δ:DSt):Prop where
 len:δ.length=σ.length
 sl:∀ (i:Nat) s,δ[i]?=some s->hR K H Ω i s (σ[i]?).join
 trk:∀ a k,Ω a=some k->∃ u,H a=some u/\bV u=false
def dy (K:PySem.W.Frag) (H:Hp) (Ω:Om) (σ:St):DV->V->Prop
 | .val d,v=>Rep K H Ω d v
 | .slot i,v=>σ[i]?=some (some v)
 | .own ds,v=>∃ a vs,v=.ref a/\H a=some (.lst vs)/\Ω a=some 1/\ax K H Ω ds vs
 | .fld i j,v=>∃ p a1 a2 a3,σ[i]?=some (some (.ref p))/\cz K H p a1 a2 a3/\((j=1/\v=.ref a2)\/(j=2/\v=.ref a3))
def Trk (H:Hp) (Ω:Om):Prop:=∀ a k,Ω a=some k->∃ u,H a=some u/\bV u=false
def Wg {α:Type} (E:Str->Hp->Prop) (H:Hp) (Ω:Om) (P:α->DSt->Hp->Om->Prop) (r:Rs α):Prop:=match r with
 | .un=>False
 | .er c=>∀ H' Ω',Ext H Ω H' Ω'->Trk H' Ω'->E c H'
 | .ok a δ'=>∀ H' Ω',Ext H Ω H' Ω'->P a δ' H' Ω'
def dJ (K:PySem.W.Frag) (H:Hp) (Ω:Om) (σ:St):List DV->List V->Prop
 | [],vs=>vs=[]
 | a :: as,vs=>∃ v r,vs=v :: r/\dy K H Ω σ a v/\dJ K H Ω σ as r
def DV.st:DV->Bool
 | .own _=>false
 | _=>true
abbrev PV (K:PySem.W.Frag) (σ:St) (Q:VK):DV->DSt->Hp->Om->Prop:=fun a δ' H' Ω'=>az K H' Ω' σ δ'->∀ v,dy K H' Ω' σ a v->Q v H'
abbrev PB (K:PySem.W.Frag) (σ:St) (Q:Bool->Hp->Prop):Bool->DSt->Hp->Om->Prop:=fun b δ' H' Ω'=>az K H' Ω' σ δ'->Q b H'
abbrev PVs (K:PySem.W.Frag) (σ:St) (Q:List V->Hp->Prop):List DV->DSt->Hp->Om->Prop:=fun as δ' H' Ω'=>az K H' Ω' σ δ'->∀ vs,dJ K H' Ω' σ as vs->(∀ a∈as,a.st=true)->Q vs H'
inductive Fl where
 | nx | bk | ct | rt (d:D) | rto (ds:List D)
def FlQ (K:PySem.W.Frag) (H:Hp) (Ω:Om) (σ:St) (B:Ends):Fl->Prop
 | .nx=>B.nx σ H
 | .bk=>B.bk σ H
 | .ct=>B.ct σ H
 | .rt d=>∀ v,Rep K H Ω d v->B.rt v H
 | .rto ds=>∀ v,dy K H Ω σ (.own ds) v->B.rt v H
abbrev PF (K:PySem.W.Frag) (mp:List Nat) (σ:St) (B:Ends):Fl->DSt->Hp->Om->Prop:=fun fl δ' H' Ω'=>∀ σ',az K H' Ω' σ' δ'->(∀ j∈mp,σ'[j]?=σ[j]?)->FlQ K H' Ω' σ' B fl
def DE (K:PySem.W.Frag) (E:Str->Hp->Prop) (te:TE) (f:DM DV):Prop:=∀ σ H δ Ω,az K H Ω σ δ->∀ Q,Wg E H Ω (PV K σ Q) (f δ)->te σ H Q
def DT (K:PySem.W.Frag) (E:Str->Hp->Prop) (tt:TT) (f:DM Bool):Prop:=∀ σ H δ Ω,az K H Ω σ δ->∀ Q,Wg E H Ω (PB K σ Q) (f δ)->tt σ H Q
def DA (K:PySem.W.Frag) (E:Str->Hp->Prop) (ta:TA) (f:DM (List DV)):Prop:=∀ σ H δ Ω,az K H Ω σ δ->∀ Q,Wg E H Ω (PVs K σ Q) (f δ)->ta σ H Q
def DS (K:PySem.W.Frag) (E:Str->Hp->Prop) (mp:List Nat) (ts:TS) (f:DM Fl):Prop:=∀ σ H δ Ω,az K H Ω σ δ->∀ B,Wg E H Ω (PF K mp σ B) (f δ)->ts B σ H
section
variable {K:PySem.W.Frag} {E:Str->Hp->Prop} {H H1 H2 H':Hp} {Ω Ω1 Ω2 Ω':Om} {σ:St} {δ:DSt}
theorem Wg.ext {α:Type} {P:α->DSt->Hp->Om->Prop} {r:Rs α} (h:Wg E H Ω P r) (e:Ext H Ω H' Ω'):Wg E H' Ω' P r:=by
 cases r with
 | un=>exact h
 | er c=>exact fun H2 Ω2 e2=>h H2 Ω2 (e.trans e2)
 | ok a δ'=>exact fun H2 Ω2 e2=>h H2 Ω2 (e.trans e2)
theorem Wg.imp {α:Type} {P P':α->DSt->Hp->Om->Prop} {r:Rs α} (h:Wg E H Ω P r) (hp:∀ a δ' H' Ω',Ext H Ω H' Ω'->P a δ' H' Ω'->P' a δ' H' Ω'):Wg E H Ω P' r:=by
 cases r with
 | un=>exact h
 | er c=>exact h
 | ok a δ'=>exact fun H2 Ω2 e2=>hp _ _ _ _ e2 (h H2 Ω2 e2)
theorem Wg.bd {α β:Type} {f:DM α} {g:α->DM β} {P:β->DSt->Hp->Om->Prop} (h:Wg E H Ω P (f.bd g δ)) {P1:α->DSt->Hp->Om->Prop}
  (k:∀ a δ' H' Ω',Ext H Ω H' Ω'->Wg E H' Ω' P (g a δ')->P1 a δ' H' Ω'):Wg E H Ω P1 (f δ):=by
 unfold DM.bd at h
 cases e:f δ with
 | un=>rw [e] at h;exact h
 | er c=>rw [e] at h;exact h
 | ok a δ'=>rw [e] at h;exact fun H' Ω' ex=>k a δ' H' Ω' ex (Wg.ext h ex)
theorem dy.ext {a:DV} {v:V} (h:dy K H Ω σ a v) (ha:a.st=true) (e:Ext H Ω H' Ω'):dy K H' Ω' σ a v:=by
 cases a with
 | val d=>exact Rep.ext e h
 | slot i=>exact h
 | own ds=>cases ha
 | fld i j=>
  obtain ⟨p,a1,a2,a3,e1,e2,e3⟩:=h
  exact ⟨p,a1,a2,a3,e1,e2.ext e,e3⟩
theorem dJ.ext:∀ {as:List DV} {vs:List V},dJ K H Ω σ as vs->(∀ a∈as,a.st=true)->Ext H Ω H' Ω'->dJ K H' Ω' σ as vs
 | [],_,h,_,_=>h
 | _ :: _,_,h,ha,e=>by
  obtain ⟨v,r,e1,e2,e3⟩:=h
  exact ⟨v,r,e1,e2.ext (ha _ List.mem_cons_self) e,e3.ext (fun a q=>ha a (List.mem_cons_of_mem _ q)) e⟩
theorem Wg.now {d:DV} {v:V} {Q:VK} (h:Wg E H Ω (PV K σ Q) (.ok d δ)) (R:az K H Ω σ δ) (r:dy K H Ω σ d v):Q v H:=h H Ω .refl R v r
theorem Wg.nowB {b:Bool} {Q:Bool->Hp->Prop} (h:Wg E H Ω (PB K σ Q) (.ok b δ)) (R:az K H Ω σ δ):Q b H:=h H Ω .refl R
def dS (Ω:Om) (p:Addr):Om:=fun b=>if b=p then some 1 else Ω b
def freed (Ω:Om) (p:Addr):Om:=fun b=>if b=p then none else Ω b
theorem Ext.alloc {p:Addr} {o:HO} (hp:H p=none) (trk:∀ a k,Ω a=some k->∃ u,H a=some u/\bV u=false):Ext H Ω (upd H p o) Ω where
 keep:=fun b o' e _=>by rw [aA (cH e hp)];exact e
 new:=fun _ e _=>e
 fr:=fun _=>Iff.rfl
 live:=fun b e=>by
  unfold upd at e
  split at e
  ·cases e
  ·exact e
theorem Ext.alloc1 {p:Addr} {xs:List V} (hp:H p=none) (trk:∀ a k,Ω a=some k->∃ u,H a=some u/\bV u=false):Ext H Ω (upd H p (.lst xs)) (dS Ω p) where
 keep:=fun b o' e _=>by rw [aA (cH e hp)];exact e
 new:=fun b e h=>by
  unfold dS
  rw [if_neg (fun z=>h (by rw [z];exact hp))]
  exact e
 fr:=fun b=>by
  unfold dS
  split
  ·rename_i z
   subst z
   constructor
   ·intro q
    obtain ⟨vs,e,_⟩:=trk _ _ q
    rw [hp] at e;cases e
   ·intro q;cases q
  ·exact Iff.rfl
 live:=fun b e=>by
  unfold upd at e
  split at e
  ·cases e
  ·exact e
theorem Ext.free {p:Addr} {k:Nat} (hp:Ω p=some (k + 1)):Ext H Ω H (freed Ω p) where
 keep:=fun b o' e _=>e
 new:=fun b e h=>by unfold freed;split <;> first | rfl | exact e
 fr:=fun b=>by
  unfold freed
  split
  ·rename_i z
   subst z
   rw [hp]
   constructor <;> intro q <;> cases q
  ·exact Iff.rfl
 live:=fun b e=>e
theorem ShL.less {a:Addr} {xs:List V} (h:ShL H Ω a xs) (hl:∀ b,Ω b=none->Ω' b=none):ShL H Ω' a xs:=⟨h.1,hl a h.2⟩
mutual
theorem Rep.less (hl:∀ b,Ω b=none->Ω' b=none):∀ {d:D} {v:V},Rep K H Ω d v->Rep K H Ω' d v
 | .non,_,h=>h
 | .bl _,_,h=>h
 | .int _,_,h=>h
 | .str _,_,h=>h
 | .tup _,_,h=>by
  obtain ⟨a,vs,e1,e2,e3⟩:=(show ∃ a vs,_ from h)
  exact (show ∃ a vs,_ from ⟨a,vs,e1,e2,ax.less hl e3⟩)
 | .lst _,_,h=>by
  obtain ⟨a,vs,e1,e2,e3⟩:=(show ∃ a vs,_ from h)
  exact (show ∃ a vs,_ from ⟨a,vs,e1,e2.less hl,ax.less hl e3⟩)
 | .scr _,_,h=>h
 | .exc _,_,h=>h
 | .key _ _,_,h=>h
 | .obj _ _ _ _,_,h=>by
  obtain ⟨p,a1,a2,a3,kvs,xs,ys,e1,e2,e3,e4,e5,e6,e7,e8,e9⟩:=(show ∃ p a1 a2 a3 kvs xs ys,_ from h)
  exact (show ∃ p a1 a2 a3 kvs xs ys,_ from ⟨p,a1,a2,a3,kvs,xs,ys,e1,e2,⟨e3.1,hl _ e3.2⟩,⟨e4.1,hl _ e4.2⟩,⟨e5.1,hl _ e5.2⟩,e6,ax.less hl e7,ax.less hl e8,ax.less hl e9⟩)
theorem ax.less (hl:∀ b,Ω b=none->Ω' b=none):∀ {ds:List D} {vs:List V},ax K H Ω ds vs->ax K H Ω' ds vs
 | [],_,h=>h
 | _ :: _,_,h=>by
  obtain ⟨v,r,e1,e2,e3⟩:=(show ∃ v r,_ from h)
  exact (show ∃ v r,_ from ⟨v,r,e1,Rep.less hl e2,ax.less hl e3⟩)
end
theorem wz {p:Addr}:∀ b,Ω b=none->freed Ω p b=none:=fun b e=>by unfold freed;split <;> first | rfl | exact e
theorem Eb {p b:Addr} {o u:HO} (hl:∃ vs,H p=some vs/\bV vs=false) (q:H b=some u) (f:bV u=true):upd H p o b=some u:=by
 rw [aA]
 ·exact q
 ·rintro rfl
  obtain ⟨v,e,g⟩:=hl
  rw [e] at q
  cases q
  rw [f] at g
  cases g
theorem hR.mv {i:Nat} {s:Sl} {o:Option V} (h:hR K H Ω i s o) (h1:∀ d v,Rep K H Ω d v->Rep K H' Ω' d v) (h2:∀ ds vs,ax K H Ω ds vs->ax K H' Ω' ds vs)
  (hk:∀ b u,Ω b=some (i + 2)->H b=some u->H' b=some u/\Ω' b=some (i + 2)) (hf:∀ b u,H b=some u->bV u=true->H' b=some u:=by first | exact (fun _ _ q _=>q) | exact (fun _ _ q f=>Eb (by assumption) q f) | exact (fun b u q f=>Ext.keep (by assumption) b u q (.inl f))):hR K H' Ω' i s o:=by
 cases s with
 | no=>trivial
 | sh d=>obtain ⟨v,e1,e2⟩:=h;exact ⟨v,e1,h1 _ _ e2⟩
 | ow ds=>
  obtain ⟨a,vs,e1,e2,e3,e4⟩:=h
  obtain ⟨q1,q2⟩:=hk a _ e3 e2
  exact ⟨a,vs,e1,q1,q2,h2 _ _ e4⟩
 | nw xss=>
  obtain ⟨a,bs,e1,e2,e3,e4,e5,e6⟩:=h
  obtain ⟨q1,q2⟩:=hk a _ e3 e2
  refine ⟨a,bs,e1,q1,q2,e4,e5,fun j b xs z1 z2=>?_⟩
  obtain ⟨ws,w1,w2,w3⟩:=e6 j b xs z1 z2
  obtain ⟨y1,y2⟩:=hk b _ w2 w1
  exact ⟨ws,y1,y2,h2 _ _ w3⟩
 | dc ks vs=>
  obtain ⟨a,kvs,e1,e2,e3,e4,e5⟩:=h
  obtain ⟨q1,q2⟩:=hk a _ e3 e2
  exact ⟨a,kvs,e1,q1,q2,e4,h2 _ _ e5⟩
 | ob ks vs as bs=>
  obtain ⟨p,e0,a1,a2,a3,kvs,xs,ys,⟨C,dx,c1,c2⟩,e3,e4,e5,ne,e6,e7,e8,e9⟩:=h
  exact ⟨p,e0,a1,a2,a3,kvs,xs,ys,⟨C,dx,c1,hf _ _ c2 rfl⟩,hk _ _ e3.2 e3.1,hk _ _ e4.2 e4.1,hk _ _ e5.2 e5.1,ne,e6,h2 _ _ e7,h2 _ _ e8,h2 _ _ e9⟩
theorem hR.ext {i:Nat} {s:Sl} {o:Option V} (h:hR K H Ω i s o) (e:Ext H Ω H' Ω') (hk:∀ b u,Ω b=some (i + 2)->H b=some u->H' b=some u/\Ω' b=some (i + 2)):hR K H' Ω' i s o:=h.mv (fun _ _=>Rep.ext e) (fun _ _=>ax.ext e) hk fun b u q f=>e.keep b u q (.inl f)
theorem az.ext (R:az K H Ω σ δ) (e:Ext H Ω H' Ω') (hk:∀ b k u,Ω b=some (k + 2)->H b=some u->H' b=some u/\Ω' b=some (k + 2)) (ht:∀ a k,Ω' a=some k->∃ u,H' a=some u/\bV u=false):az K H' Ω' σ δ:=
 ⟨R.len,fun i s h=>(R.sl i s h).ext e fun b vs q1 q2=>hk b i vs q1 q2,ht⟩
theorem az.alloc {p:Addr} {o:HO} (R:az K H Ω σ δ) (hp:H p=none):az K (upd H p o) Ω σ δ:=
 R.ext (.alloc hp R.trk) (fun b k vs q1 q2=>⟨by rw [aA (cH q2 hp)];exact q2,q1⟩) fun a k q=>by
  obtain ⟨vs,e,f⟩:=R.trk a k q
  exact ⟨vs,by rw [aA (cH e hp)];exact e,f⟩
theorem az.alloc1 {p:Addr} {xs:List V} (R:az K H Ω σ δ) (hp:H p=none):az K (upd H p (.lst xs)) (dS Ω p) σ δ:=
 R.ext (.alloc1 hp R.trk) (fun b k vs q1 q2=>by
  have:b≠p:=cH q2 hp
  exact ⟨by rw [aA this];exact q2,by unfold dS;rw [if_neg this];exact q1⟩) fun a k q=>by
  by_cases h:a=p
  ·subst h;exact ⟨_,bw,rfl⟩
  ·unfold dS at q
   rw [if_neg h] at q
   obtain ⟨vs,e,f⟩:=R.trk a k q
   exact ⟨vs,by rw [aA h];exact e,f⟩
theorem az.free1 {p:Addr} (R:az K H Ω σ δ) (hp:Ω p=some 1):az K H (freed Ω p) σ δ:=
 R.ext (.free (k:=0) hp) (fun b k vs q1 q2=>⟨q2,by
  unfold freed
  rw [if_neg]
  ·exact q1
  ·rintro rfl;rw [hp] at q1;cases q1⟩) fun a k q=>by
  unfold freed at q
  split at q
  ·cases q
  ·exact R.trk a k q
theorem Wg.alloc1 {p:Addr} {ds:List D} {xs:List V} {Q:VK} (h:Wg E H Ω (PV K σ Q) (.ok (.own ds) δ)) (R:az K H Ω σ δ) (hp:H p=none) (r:ax K H Ω ds xs):Q (.ref p) (upd H p (.lst xs)):=
 h _ (dS Ω p) (.alloc1 hp R.trk) (R.alloc1 hp) _ ⟨p,xs,rfl,bw,by unfold dS;rw [if_pos rfl],r.ext (.alloc1 hp R.trk)⟩
theorem Wg.allocT {p:Addr} {ds:List D} {xs:List V} {Q:VK} (h:Wg E H Ω (PV K σ Q) (.ok (.val (.tup ds)) δ)) (R:az K H Ω σ δ) (hp:H p=none) (r:ax K H Ω ds xs):Q (.ref p) (upd H p (.tup xs)):=
 h _ Ω (.alloc hp R.trk) (R.alloc hp) _ (show ∃ a vs,_ from ⟨p,xs,rfl,SqT.of bw,r.ext (.alloc hp R.trk)⟩)
def norm:DV->DV
 | .own ds=>.val (.lst ds)
 | a=>a
def fN (f:DM DV):DM DV:=f.bd fun a=>.ret (norm a)
theorem C2 (a:DV):(norm a).st=true:=by cases a <;> rfl
theorem dy.norm {a:DV} {v:V} (R:az K H Ω σ δ) (h:dy K H Ω σ a v):∃ Ω',az K H Ω' σ δ/\dy K H Ω' σ (norm a) v/\Ext H Ω H Ω':=by
 cases a with
 | val d=>exact ⟨Ω,R,h,.refl⟩
 | slot i=>exact ⟨Ω,R,h,.refl⟩
 | fld i j=>exact ⟨Ω,R,h,.refl⟩
 | own ds=>
  obtain ⟨a,vs,e1,e2,e3,e4⟩:=h
  refine ⟨freed Ω a,R.free1 e3,(show ∃ a vs,_ from ⟨a,vs,e1,.intro (.inl e2) (by unfold freed;rw [if_pos rfl]),e4.less wz⟩),.free (k:=0) e3⟩
theorem DE.use {β:Type} {ta:TE} {f:DM DV} {g:DV->DM β} {P:β->DSt->Hp->Om->Prop} {T:V->Hp->Prop} (ha:DE K E ta f) (R:az K H Ω σ δ) (h:Wg E H Ω P ((fN f).bd g δ))
  (k:∀ a x δ' H' Ω',Ext H Ω H' Ω'->a.st=true->az K H' Ω' σ δ'->dy K H' Ω' σ a x->Wg E H' Ω' P (g a δ')->T x H'):ta σ H T:=by
 refine ha σ H δ Ω R T (Wg.bd (f:=f) (g:=fun a=>g (norm a)) (P:=P) ?_ fun a δ' H' Ω' ex h' R' v rv=>?_)
 ·unfold fN DM.bd DM.ret at h
  unfold DM.bd
  cases e:f δ with
  | un=>rw [e] at h;exact h
  | er c=>rw [e] at h;exact h
  | ok a δ'=>rw [e] at h;exact h
 ·obtain ⟨Ω2,R2,r2,x2⟩:=rv.norm R'
  exact k (norm a) v δ' H' Ω2 (ex.trans x2) (C2 a) R2 r2 (Wg.ext h' x2)
theorem DE.norm {ta:TE} {f:DM DV} (ha:DE K E ta f):DE K E ta (fN f):=by
 intro σ H δ Ω R Q h
 refine ha.use (g:=.ret) R (P:=PV K σ Q) ?_ fun a x δ' H' Ω' _ _ R' r' h'=>h'.now R' r'
 unfold fN DM.bd DM.ret at h ⊢
 cases e:f δ with
 | un=>rw [e] at h;exact h
 | er c=>rw [e] at h;exact h
 | ok a δ'=>rw [e] at h;exact h
theorem DT.use {β:Type} {ta:TT} {f:DM Bool} {g:Bool->DM β} {P:β->DSt->Hp->Om->Prop} {T:Bool->Hp->Prop} (ha:DT K E ta f) (R:az K H Ω σ δ) (h:Wg E H Ω P (f.bd g δ))
  (k:∀ b δ' H' Ω',Ext H Ω H' Ω'->az K H' Ω' σ δ'->Wg E H' Ω' P (g b δ')->T b H'):ta σ H T:=
 ha σ H δ Ω R T (Wg.bd h fun b δ' H' Ω' ex h' R'=>k b δ' H' Ω' ex R' h')
theorem DA.use {β:Type} {ta:TA} {f:DM (List DV)} {g:List DV->DM β} {P:β->DSt->Hp->Om->Prop} {T:List V->Hp->Prop} (ha:DA K E ta f) (R:az K H Ω σ δ) (h:Wg E H Ω P (f.bd g δ))
  (k:∀ as vs δ' H' Ω',Ext H Ω H' Ω'->(∀ a∈as,a.st=true)->az K H' Ω' σ δ'->dJ K H' Ω' σ as vs->Wg E H' Ω' P (g as δ')->T vs H'):ta σ H T:=
 ha σ H δ Ω R T (Wg.bd h fun as δ' H' Ω' ex h' R' vs rv hs=>k as vs δ' H' Ω' ex hs R' rv h')
def cE (K:PySem.W.Frag) (H:Hp) (Ω:Om):D->V->Prop
 | .lst ds,v=>∃ a vs,v=.ref a/\Rd H a (.lst vs)/\ax K H Ω ds vs
 | .obj ks vs as bs,v=>∃ p a1 a2 a3 kvs xs ys,v=.ref p/\cz K H p a1 a2 a3/\H a1=some (.dT kvs)/\H a2=some (.lst xs)/\H a3=some (.lst ys)/\kvs.map (·.1)=ks.map cg/\ax K H Ω vs (kvs.map (·.2))/\ax K H Ω as xs/\ax K H Ω bs ys
 | d,v=>Rep K H Ω d v
theorem Rep.b {d:D} {v:V} (h:Rep K H Ω d v):cE K H Ω d v:=by
 cases d with
 | lst ds=>obtain ⟨a,vs,e1,e2,e3⟩:=(show ∃ a vs,_ from h);exact ⟨a,vs,e1,e2.1,e3⟩
 | obj ks vs as bs=>
  obtain ⟨p,a1,a2,a3,kvs,xs,ys,e1,e2,e3,e4,e5,e6,e7,e8,e9⟩:=(show ∃ p a1 a2 a3 kvs xs ys,_ from h)
  exact ⟨p,a1,a2,a3,kvs,xs,ys,e1,e2,e3.1,e4.1,e5.1,e6,e7,e8,e9⟩
 | _=>exact h
def rS (s:Sl) (j:Nat):Option (List D):=match s,j with
 | .ob _ _ as _,1=>some as
 | .ob _ _ _ bs,2=>some bs
 | .sh (.obj _ _ as _),1=>some as
 | .sh (.obj _ _ _ bs),2=>some bs
 | _,_=>none
def res (δ:DSt):DV->Option D
 | .val d=>some d
 | .own ds=>some (.lst ds)
 | .slot i=>match δ[i]? with | some (.sh d)=>some d | some (.ow ds)=>some (.lst ds) | some (.ob ks vs as bs)=>some (.obj ks vs as bs) | _=>none
 | .fld i j=>match δ[i]? with | some s=>(rS s j).map .lst | none=>none
theorem cz.inj {p a1 a2 a3 b1 b2 b3:Addr} (h:cz K H p a1 a2 a3) (q:cz K H p b1 b2 b3):a1=b1/\a2=b2/\a3=b3:=by
 obtain ⟨C,dx,_,h2⟩:=h
 obtain ⟨C',dx',_,q2⟩:=q
 rw [h2] at q2
 cases q2
 exact ⟨rfl,rfl,rfl⟩
theorem dy.res {a:DV} {x:V} {d:D} (R:az K H Ω σ δ) (h:dy K H Ω σ a x) (e:res δ a=some d):cE K H Ω d x:=by
 cases a with
 | val d'=>cases e;exact Rep.b h
 | own ds=>cases e;obtain ⟨a,vs,e1,e2,e3,e4⟩:=h;exact ⟨a,vs,e1,.inl e2,e4⟩
 | slot i=>
  have h:σ[i]?=some (some x):=h
  unfold DL.res at e
  simp only at e
  split at e
  ·rename_i d' hd
   cases e
   obtain ⟨v,e1,e2⟩:=R.sl i _ hd
   rw [h] at e1
   cases e1
   exact e2.b
  ·rename_i ds hd
   cases e
   obtain ⟨a,vs,e1,e2,e3,e4⟩:=R.sl i _ hd
   rw [h] at e1
   cases e1
   exact ⟨a,vs,rfl,.inl e2,e4⟩
  ·rename_i ks vs as bs hd
   cases e
   obtain ⟨p,e0,a1,a2,a3,kvs,xs,ys,e2,e3,e4,e5,ne,e6,e7,e8,e9⟩:=R.sl i _ hd
   rw [h] at e0
   cases e0
   exact ⟨p,a1,a2,a3,kvs,xs,ys,rfl,e2,e3.1,e4.1,e5.1,e6,e7,e8,e9⟩
  ·cases e
 | fld i j=>
  obtain ⟨p,b1,b2,b3,h1,h2,h3⟩:=h
  unfold DL.res at e
  simp only at e
  split at e
  ·rename_i s hd
   have sl:=R.sl i _ hd
   rw [h1] at sl
   cases s with
   | ob ks vs as bs=>
    obtain ⟨p',e0,a1,a2,a3,kvs,xs,ys,e2,e3,e4,e5,ne,e6,e7,e8,e9⟩:=sl
    cases e0
    obtain ⟨rfl,rfl,rfl⟩:=h2.inj e2
    rcases h3 with ⟨rfl,rfl⟩ | ⟨rfl,rfl⟩
    ·cases e;exact ⟨b2,xs,rfl,.inl e4.1,e8⟩
    ·cases e;exact ⟨b3,ys,rfl,.inl e5.1,e9⟩
   | sh d=>
    cases d with
    | obj ks vs as bs=>
     obtain ⟨v,e0,hv⟩:=sl
     cases e0
     obtain ⟨p',a1,a2,a3,kvs,xs,ys,e1,e2,e3,e4,e5,e6,e7,e8,e9⟩:=(show ∃ p a1 a2 a3 kvs xs ys,_ from hv)
     cases e1
     obtain ⟨rfl,rfl,rfl⟩:=h2.inj e2
     rcases h3 with ⟨rfl,rfl⟩ | ⟨rfl,rfl⟩
     ·cases e;exact ⟨b2,xs,rfl,.inl e4.1,e8⟩
     ·cases e;exact ⟨b3,ys,rfl,.inl e5.1,e9⟩
    | _=>simp [rS] at e
   | _=>simp [rS] at e
  ·cases e
end
end DL
namespace DL
open PySem PySem.Spec PyProof.Rows L2
def PED (X:Cx) (E:Str->Hp->Prop) (e:Expr) (f:DM DV):Prop:=∃ te,PE X e te/\DE X.K E te f
def PTD (X:Cx) (E:Str->Hp->Prop) (e:Expr) (f:DM Bool):Prop:=∃ tt,PT X e tt/\DT X.K E tt f
def PWD (X:Cx) (E:Str->Hp->Prop) (e:Expr) (f:DM Bool):Prop:=∃ tt,PW X e tt/\DT X.K E tt f
def PAD (X:Cx) (E:Str->Hp->Prop) (es:List Expr) (f:DM (List DV)):Prop:=∃ ta,PA X es ta/\DA X.K E ta f
def PSD (X:Cx) (E:Str->Hp->Prop) (mp:List Nat) (st:Stmt) (f:DM Fl):Prop:=∃ ts,PS X st ts/\DS X.K E mp ts f
def fw (X:Cx) (E:Str->Hp->Prop) (mp:List Nat) (st:List Stmt) (f:DM Fl):Prop:=∃ ts,PSs X st ts/\DS X.K E mp ts f
section
variable {K:PySem.W.Frag} {E:Str->Hp->Prop} {H H1 H2 H':Hp} {Ω Ω1 Ω2 Ω':Om} {σ:St} {δ:DSt}
theorem join_some {α:Type} {o:Option (Option α)} {v:α} (h:o.join=some v):o=some (some v):=by
 cases o with
 | none=>cases h
 | some a=>cases a with
  | none=>cases h
  | some b=>exact congrArg some h
def ae (i:Nat):DM DV:=fun δ=>match δ[i]? with
 | some (.sh d)=>.ok (.val d) δ
 | some (.ow _)=>.ok (.slot i) δ
 | _=>.un
theorem Cq {i:Nat}:DE K E (gq i) (ae i):=by
 intro σ H δ Ω R Q h
 unfold ae at h
 split at h
 ·rename_i d hd
  obtain ⟨v,e1,e2⟩:=R.sl i _ hd
  exact ⟨v,join_some e1,h.now R e2⟩
 ·rename_i ds hd
  obtain ⟨a,vs,e1,e2,e3,e4⟩:=R.sl i _ hd
  exact ⟨.ref a,join_some e1,h.now R (join_some e1)⟩
 ·exact h.elim
def fC (d:D):DM DV:=.ret (.val d)
theorem mz {d:D} {v:V} (hd:∀ H Ω,Rep K H Ω d v):DE K E (tC v) (fC d):=fun σ H δ Ω R Q h=>Wg.now h R (hd H Ω)
def ah (f1 f2:DM DV) (g:D->D->Option DV):DM DV:=(fN f1).bd fun a1=>(fN f2).bd fun a2=>fun δ=>match res δ a1,res δ a2 with
 | some d1,some d2=>(match g d1 d2 with | some r=>.ok r δ | none=>.un)
 | _,_=>.un
def DR (K:PySem.W.Frag) (r:R2) (g:D->D->Option DV):Prop:=
 ∀ {E:Str->Hp->Prop} {σ:St} {H:Hp} {δ:DSt} {Ω:Om} {x y:V} {d1 d2:D} {z:DV} {Q:VK},az K H Ω σ δ->cE K H Ω d1 x->cE K H Ω d2 y->g d1 d2=some z->Wg E H Ω (PV K σ Q) (.ok z δ)->r x y H Q
theorem oF {r:R2} {g:D->D->Option DV} {ta tb:TE} {f1 f2:DM DV} (hr:DR K r g) (ha:DE K E ta f1) (hb:DE K E tb f2):DE K E (tOp r ta tb) (ah f1 f2 g):=by
 intro σ H δ Ω R Q h
 refine ha.use R h fun a1 x δ1 H1 Ω1 _ s1 R1 r1 h1=>?_
 refine hb.use R1 h1 fun a2 y δ2 H2 Ω2 e2 s2 R2 r2 h2=>?_
 have r1:=r1.ext s1 e2
 cases q1:res δ2 a1 with
 | none=>rw [q1] at h2;exact h2.elim
 | some d1=>
  cases q2:res δ2 a2 with
  | none=>rw [q1,q2] at h2;exact h2.elim
  | some d2=>
   rw [q1,q2] at h2
   simp only at h2
   cases q3:g d1 d2 with
   | none=>rw [q3] at h2;exact h2.elim
   | some z=>
    rw [q3] at h2
    exact hr R2 (r1.res R2 q1) (r2.res R2 q2) q3 h2
def fUn (f1:DM DV) (g:D->Option DV):DM DV:=(fN f1).bd fun a1=>fun δ=>match res δ a1 with
 | some d1=>(match g d1 with | some r=>.ok r δ | none=>.un)
 | _=>.un
def aw (f:DM DV):DM Bool:=(fN f).bd fun a δ=>match res δ a with
 | some (.bl b)=>.ok b δ
 | _=>.un
theorem qO {t:TE} {f:DM DV} (ha:DE K E t f):DT K E (so t) (aw f):=by
 intro σ H δ Ω R Q h
 refine ha.use R h fun a x δ1 H1 Ω1 _ s1 R1 r1 h1=>?_
 cases q1:res δ1 a with
 | none=>rw [q1] at h1;exact h1.elim
 | some d=>
  rw [q1] at h1
  cases d with
  | bl b=>exact ⟨b,(show x=.bl b from r1.res R1 q1),Wg.nowB h1 R1⟩
  | _=>exact h1.elim
theorem Br {t:TE} {f:DM DV} (ha:DE K E t f):DT K E (tB t) (aw f):=qO ha
def df (f g:DM Bool):DM Bool:=f.bd fun b=>if b then g else .ret false
def bM (f g:DM Bool):DM Bool:=f.bd fun b=>if b then .ret true else g
def b9 (f:DM Bool):DM Bool:=f.bd fun b=>.ret (!b)
theorem G1 {t u:TT} {f g:DM Bool} (ha:DT K E t f) (hb:DT K E u g):DT K E (ue t u) (df f g):=by
 intro σ H δ Ω R Q h
 refine ha.use R h fun b δ1 H1 Ω1 _ R1 h1=>?_
 cases b with
 | true=>exact iJ (hb σ H1 δ1 Ω1 R1 Q h1)
 | false=>exact ja (Wg.nowB h1 R1)
theorem Ew {t u:TT} {f g:DM Bool} (ha:DT K E t f) (hb:DT K E u g):DT K E (tOr t u) (bM f g):=by
 intro σ H δ Ω R Q h
 refine ha.use R h fun b δ1 H1 Ω1 _ R1 h1=>?_
 cases b with
 | true=>exact iJ (Wg.nowB h1 R1)
 | false=>exact ja (hb σ H1 δ1 Ω1 R1 Q h1)
theorem CA {t:TT} {f:DM Bool} (ha:DT K E t f):DT K E (uh t) (b9 f):=by
 intro σ H δ Ω R Q h
 exact ha.use R h fun b δ1 H1 Ω1 _ R1 h1=>Wg.nowB h1 R1
def j8 (f:DM DV) (g:Bool->DM DV):DM DV:=(fN f).bd fun a δ=>match res δ a with
 | some (.bl b)=>g b δ
 | _=>.un
def ft (f g:DM DV):DM DV:=j8 f fun b=>if b then g else fC (.bl false)
def gf (f:DM DV):DM DV:=j8 f fun b=>fC (.bl (!b))
theorem uV {ta:TE} {f:DM DV} {g:Bool->DM DV} {T:Bool->TE} (ha:DE K E ta f) (hg:∀ b,DE K E (T b) (g b)):DE K E (fun σ H Q=>ta σ H fun x H1=>∃ c,x=.bl c/\T c σ H1 Q) (j8 f g):=by
 intro σ H δ Ω R Q h
 refine ha.use R h fun a x δ1 H1 Ω1 _ s1 R1 r1 h1=>?_
 cases q1:res δ1 a with
 | none=>rw [q1] at h1;exact h1.elim
 | some d=>
  rw [q1] at h1
  cases d with
  | bl b=>exact ⟨b,(show x=.bl b from r1.res R1 q1),hg b σ H1 δ1 Ω1 R1 Q h1⟩
  | _=>exact h1.elim
theorem Iu {ta tb:TE} {f g:DM DV} (ha:DE K E ta f) (hb:DE K E tb g):DE K E (vx ta tb) (ft f g):=
 uV (T:=fun c σ H1 Q=>if c=true then tb σ H1 Q else Q (.bl false) H1) ha fun b=>by
  cases b with
  | true=>exact fun σ H δ Ω R Q h=>iJ (hb σ H δ Ω R Q h)
  | false=>exact fun σ H δ Ω R Q h=>ja (Wg.now h R rfl)
theorem GW {ta:TE} {f:DM DV} (ha:DE K E ta f):DE K E (wV ta) (gf f):=
 uV (T:=fun c _ H1 Q=>Q (.bl (!c)) H1) ha fun _ σ H δ Ω R Q h=>Wg.now h R rfl
def gR (c:DM Bool) (f g:DM DV):DM DV:=c.bd fun b=>if b then f else g
theorem Bz {t:TT} {ta tb:TE} {c:DM Bool} {f g:DM DV} (hc:DT K E t c) (ha:DE K E ta f) (hb:DE K E tb g):DE K E (tIf t ta tb) (gR c f g):=by
 intro σ H δ Ω R Q h
 refine hc.use R h fun b δ1 H1 Ω1 _ R1 h1=>?_
 cases b with
 | true=>exact iJ (ha σ H1 δ1 Ω1 R1 Q h1)
 | false=>exact ja (hb σ H1 δ1 Ω1 R1 Q h1)
def ai:DM (List DV):=.ret []
def af (f:DM DV) (r:DM (List DV)):DM (List DV):=(fN f).bd fun a=>r.bd fun as=>.ret (a :: as)
theorem yh:DA K E iz ai:=fun σ H δ Ω R Q h=>h H Ω .refl R [] rfl (fun _ z=>nomatch z)
theorem G2 {ta:TE} {tr:TA} {f:DM DV} {r:DM (List DV)} (ha:DE K E ta f) (hr:DA K E tr r):DA K E (kg ta tr) (af f r):=by
 intro σ H δ Ω R Q h
 refine ha.use R h fun a x δ1 H1 Ω1 _ s1 R1 r1 h1=>?_
 refine hr.use R1 h1 fun as vs δ2 H2 Ω2 e2 s2 R2 r2 h2=>?_
 exact h2 H2 Ω2 .refl R2 (x :: vs) ⟨x,vs,rfl,r1.ext s1 e2,r2⟩ fun b hb=>by
  rcases List.mem_cons.mp hb with z | z
  ·rw [z];exact s1
  ·exact s2 b z
def cL:List DV->Option (List D)
 | []=>some []
 | .val d :: r=>match cL r with | some ds=>some (d :: ds) | none=>none
 | _ :: _=>none
theorem dJ.vals:∀ {as:List DV} {vs:List V} {ds:List D},dJ K H Ω σ as vs->cL as=some ds->ax K H Ω ds vs
 | [],_,_,h,e=>by cases e;exact h
 | a :: r,_,ds,h,e=>by
  obtain ⟨v,q,e1,e2,e3⟩:=h
  cases a with
  | val d=>
   have e:(match cL r with | some ds=>some (d :: ds) | none=>none)=some ds:=e
   cases q':cL r with
   | none=>rw [q'] at e;cases e
   | some es=>rw [q'] at e;cases e;subst e1;exact .cons e2 (dJ.vals e3 q')
  | _=>cases e
def gw (δ:DSt):List DV->Option (List D)
 | []=>some []
 | a :: r=>match res δ a,gw δ r with | some d,some ds=>some (d :: ds) | _,_=>none
def kJ (K:PySem.W.Frag) (H:Hp) (Ω:Om):List D->List V->Prop
 | [],vs=>vs=[]
 | d :: ds,vs=>∃ v r,vs=v :: r/\cE K H Ω d v/\kJ K H Ω ds r
theorem dJ.all (R:az K H Ω σ δ):∀ {as:List DV} {vs:List V} {ds:List D},dJ K H Ω σ as vs->gw δ as=some ds->kJ K H Ω ds vs
 | [],_,_,h,e=>by cases e;exact h
 | a :: r,_,ds,h,e=>by
  obtain ⟨v,q,e1,e2,e3⟩:=h
  unfold gw at e
  split at e
  ·rename_i d es q1 q2
   cases e
   exact ⟨v,q,e1,e2.res R q1,dJ.all R e3 q2⟩
  ·cases e
def fCB (fa:DM (List DV)) (g:List D->Option DV):DM DV:=fa.bd fun as=>fun δ=>match gw δ as with
 | some ds=>(match g ds with | some r=>.ok r δ | none=>.un)
 | none=>.un
def DC (K:PySem.W.Frag) (r:List V->Hp->VK->Prop) (g:List D->Option DV):Prop:=
 ∀ {E:Str->Hp->Prop} {σ:St} {H:Hp} {δ:DSt} {Ω:Om} {vs:List V} {ds:List D} {z:DV} {Q:VK},az K H Ω σ δ->kJ K H Ω ds vs->g ds=some z->Wg E H Ω (PV K σ Q) (.ok z δ)->r vs H Q
theorem xI {r:List V->Hp->VK->Prop} {g:List D->Option DV} {t:TA} {fa:DM (List DV)} (hr:DC K r g) (ha:DA K E t fa):DE K E (tCB r t) (fCB fa g):=by
 intro σ H δ Ω R Q h
 refine ha.use R h fun as vs δ1 H1 Ω1 _ s1 R1 r1 h1=>?_
 cases q1:gw δ1 as with
 | none=>rw [q1] at h1;exact h1.elim
 | some ds=>
  rw [q1] at h1
  simp only at h1
  cases q3:g ds with
  | none=>rw [q3] at h1;exact h1.elim
  | some z=>
   rw [q3] at h1
   exact hr R1 (r1.all R1 q1) q3 h1
def br (fa:DM (List DV)):DM DV:=fa.bd fun as δ=>match cL as with
 | some ds=>if ds.length<=sizeLine then .ok (.val (.tup ds)) δ else .un
 | none=>.un
def bB (fa:DM (List DV)):DM DV:=fa.bd fun as δ=>match cL as with
 | some ds=>if ds.length<=sizeLine then .ok (.own ds) δ else .un
 | none=>.un
theorem Ig {t:TA} {fa:DM (List DV)} (ha:DA K E t fa):DE K E (zh t) (br fa):=by
 intro σ H δ Ω R Q h
 refine ha.use R h fun as vs δ1 H1 Ω1 _ s1 R1 r1 h1=>?_
 cases q1:cL as with
 | none=>rw [q1] at h1;exact h1.elim
 | some ds=>
  rw [q1] at h1
  simp only at h1
  split at h1
  ·rename_i hz
   have r:=r1.vals q1
   exact ⟨by rw [<-r.length];exact hz,fun p hp=>Wg.allocT h1 R1 hp r⟩
  ·exact h1.elim
theorem IZ {t:TA} {fa:DM (List DV)} (ha:DA K E t fa):DE K E (n5 t) (bB fa):=by
 intro σ H δ Ω R Q h
 refine ha.use R h fun as vs δ1 H1 Ω1 _ s1 R1 r1 h1=>?_
 cases q1:cL as with
 | none=>rw [q1] at h1;exact h1.elim
 | some ds=>
  rw [q1] at h1
  simp only at h1
  split at h1
  ·rename_i hz
   have r:=r1.vals q1
   exact ⟨by rw [<-r.length];exact hz,fun p hp=>Wg.alloc1 h1 R1 hp r⟩
  ·exact h1.elim
def aN:DM Fl:=.ret .nx
def ak (f g:DM Fl):DM Fl:=fun δ=>match f δ with
 | .ok .nx δ'=>g δ'
 | r=>r
variable {mp:List Nat}
theorem z9:DS K E mp vE aN:=fun σ H δ Ω R B h=>h H Ω .refl σ R fun _ _=>rfl
theorem PF.same {B:Ends} {σ':St} {fl:Fl} {δ':DSt} (h:PF K mp σ B fl δ' H Ω) (hm:∀ j∈mp,σ'[j]?=σ[j]?):PF K mp σ' B fl δ' H Ω:=fun σ2 R2 m2=>h σ2 R2 fun j hj=>(m2 j hj).trans (hm j hj)
theorem Wg.same {B:Ends} {σ':St} {r:Rs Fl} (h:Wg E H Ω (PF K mp σ B) r) (hm:∀ j∈mp,σ'[j]?=σ[j]?):Wg E H Ω (PF K mp σ' B) r:=h.imp fun _ _ _ _ _ q=>PF.same q hm
theorem Jw {t u:TS} {f g:DM Fl} (hf:DS K E mp t f) (hg:DS K E mp u g):DS K E mp (oG t u) (ak f g):=by
 intro σ H δ Ω R B h
 refine hf σ H δ Ω R _ ?_
 unfold ak at h
 cases e:f δ with
 | un=>rw [e] at h;exact h
 | er c=>rw [e] at h;exact h
 | ok a δ'=>
  rw [e] at h
  cases a with
  | nx=>exact fun H' Ω' ex σ' R' m'=>hg σ' H' δ' Ω' R' B ((Wg.ext h ex).same m')
  | bk=>exact h
  | ct=>exact h
  | rt d=>exact h
  | rto ds=>exact h
def fIf (c:DM Bool) (f g:DM Fl):DM Fl:=c.bd fun b=>if b then f else g
theorem Jr {c:TT} {t u:TS} {fc:DM Bool} {f g:DM Fl} (hc:DT K E c fc) (hf:DS K E mp t f) (hg:DS K E mp u g):DS K E mp (vF c t u) (fIf fc f g):=by
 intro σ H δ Ω R B h
 refine hc.use R h fun b δ1 H1 Ω1 _ R1 h1=>?_
 cases b with
 | true=>exact iJ (hf σ H1 δ1 Ω1 R1 B h1)
 | false=>exact ja (hg σ H1 δ1 Ω1 R1 B h1)
def eR (f:DM DV):DM Fl:=f.bd fun _=>.ret .nx
theorem AE {te:TE} {f:DM DV} (ha:DE K E te f):DS K E mp (zJ te) (eR f):=by
 intro σ H δ Ω R B h
 exact ha σ H δ Ω R _ (Wg.bd h fun a δ' H' Ω' ex h' R' v rv=>h' H' Ω' .refl σ R' fun _ _=>rfl)
theorem az.set {i:Nat} {s:Sl} {v:V} (R:az K H Ω σ δ) (r:hR K H Ω i s (some v)):az K H Ω (σ.set i (some v)) (δ.set i s):=by
 refine ⟨by rw [List.length_set,List.length_set];exact R.len,fun j t h=>?_,R.trk⟩
 by_cases hj:i=j
 ·subst hj
  have hl:i < δ.length:=by
   have:=(List.getElem?_eq_some_iff.mp h).1
   rwa [List.length_set] at this
  rw [List.getElem?_set_self hl] at h
  cases h
  rw [List.getElem?_set_self (by rw [<-R.len];exact hl)]
  exact r
 ·rw [List.getElem?_set_ne hj] at h
  rw [List.getElem?_set_ne hj]
  exact R.sl j t h
theorem az.forget {i:Nat} (R:az K H Ω σ δ):az K H Ω σ (δ.set i .no):=by
 refine ⟨by rw [List.length_set];exact R.len,fun j t h=>?_,R.trk⟩
 by_cases hj:i=j
 ·subst hj
  have hl:i < δ.length:=by
   have:=(List.getElem?_eq_some_iff.mp h).1
   rwa [List.length_set] at this
  rw [List.getElem?_set_self hl] at h
  cases h
  trivial
 ·rw [List.getElem?_set_ne hj] at h
  exact R.sl j t h
theorem set_same {i:Nat} {o:Option V} (hi:i∉mp):∀ j∈mp,(σ.set i o)[j]?=σ[j]?:=fun j hj=>List.getElem?_set_ne fun z=>hi (by rw [z];exact hj)
def aG (i:Nat) (f:DM DV):DM Fl:=(fN f).bd fun a δ=>match a with
 | .val d=>.ok .nx (δ.set i (.sh d))
 | _=>.un
theorem vZ {i:Nat} {te:TE} {f:DM DV} (hi:i∉mp) (ha:DE K E te f):DS K E mp (mw te (iB i)) (aG i f):=by
 intro σ H δ Ω R B h
 refine ha.use R h fun a x δ1 H1 Ω1 _ s1 R1 r1 h1=>?_
 cases a with
 | val d=>exact h1 H1 Ω1 .refl _ (R1.set ⟨x,rfl,r1⟩) (set_same hi)
 | slot j=>exact h1.elim
 | own ds=>exact h1.elim
 | fld _ _=>exact h1.elim
def bu (Ω:Om) (p:Addr) (k:Nat):Om:=fun b=>if b=p then some k else Ω b
theorem Ext.own {p:Addr} {k k':Nat} (hp:Ω p=some (k' + 1)):Ext H Ω H (bu Ω p (k + 1)) where
 keep:=fun b o' e _=>e
 new:=fun b e h=>by
  unfold bu
  rw [if_neg]
  ·exact e
  ·rintro rfl;rw [hp] at e;cases e
 fr:=fun b=>by
  unfold bu
  split
  ·rename_i z
   subst z
   rw [hp]
   constructor <;> intro q <;> cases q
  ·exact Iff.rfl
 live:=fun b e=>e
theorem az.bu {p:Addr} {k k':Nat} (R:az K H Ω σ δ) (hp:Ω p=some (k' + 1)) (hs:∀ i s,δ[i]?=some s->s=.no\/i + 2≠k' + 1):az K H (DL.bu Ω p (k + 1)) σ δ:=by
 refine ⟨R.len,fun i s h=>?_,fun a j q=>?_⟩
 ·rcases hs i s h with z | z
  ·subst z;trivial
  refine (R.sl i s h).mv (fun _ _=>.ext (.own hp)) (fun _ _=>.ext (.own hp)) fun b vs e3 e2=>⟨e2,?_⟩
  unfold DL.bu
  rw [if_neg]
  ·exact e3
  ·rintro rfl
   rw [hp] at e3
   exact z (Option.some.inj e3).symm
 ·unfold DL.bu at q
  split at q
  ·rename_i z;subst z;exact R.trk _ _ hp
  ·exact R.trk a j q
def cJ (i:Nat) (f:DM DV):DM Fl:=f.bd fun a δ=>match a with
 | .own ds=>.ok .nx (δ.set i (.ow ds))
 | _=>.un
theorem wk {i:Nat} {te:TE} {f:DM DV} (hi:i∉mp) (ha:DE K E te f):DS K E mp (mw te (iB i)) (cJ i f):=by
 intro σ H δ Ω R B h
 refine ha σ H δ Ω R _ (Wg.bd h fun a δ1 H1 Ω1 ex h1 R1 x r1=>?_)
 cases a with
 | val d=>exact h1.elim
 | slot j=>exact h1.elim
 | fld _ _=>exact h1.elim
 | own ds=>
  obtain ⟨a,vs,e1,e2,e3,e4⟩:=r1
  subst e1
  have R2:=R1.bu (k:=i + 1) (k':=0) e3 fun j _ _=>.inr (by omega)
  exact h1 H1 (DL.bu Ω1 a (i + 1 + 1)) (.own (k':=0) e3) _ (R2.set ⟨a,vs,rfl,e2,by unfold DL.bu;rw [if_pos rfl],e4.ext (.own (k':=0) e3)⟩) (set_same hi)
def frz (i:Nat) (δ:DSt):DSt:=match δ[i]? with
 | some (.ow ds)=>δ.set i (.sh (.lst ds))
 | _=>δ
theorem Fe {i:Nat} {ts:TS} {f:DM Fl} (hf:DS K E mp ts f):DS K E mp ts (fun δ=>f (frz i δ)):=by
 intro σ H δ Ω R B h
 dsimp only at h
 unfold frz at h
 split at h
 ·rename_i ds hd
  obtain ⟨a,vs,e1,e2,e3,e4⟩:=R.sl i _ hd
  have hl:i < δ.length:=(List.getElem?_eq_some_iff.mp hd).1
  have ex:Ext H Ω H (freed Ω a):=.free (k:=i + 1) e3
  have R0:az K H (freed Ω a) σ (δ.set i (.sh (.lst ds))):=by
   refine ⟨by rw [List.length_set];exact R.len,fun j s q=>?_,fun b k q=>?_⟩
   ·by_cases hj:i=j
    ·subst hj
     rw [List.getElem?_set_self hl] at q
     cases q
     exact ⟨.ref a,e1,(show ∃ a vs,_ from ⟨a,vs,rfl,⟨.inl e2,by unfold freed;rw [if_pos rfl]⟩,e4.less wz⟩)⟩
    ·rw [List.getElem?_set_ne hj] at q
     refine (R.sl j s q).ext ex fun b ws q1 q2=>⟨q2,?_⟩
     unfold freed
     rw [if_neg]
     ·exact q1
     ·rintro rfl
      rw [e3] at q1
      exact hj (by have:=Option.some.inj q1;omega)
   ·unfold freed at q
    split at q
    ·cases q
    ·exact R.trk b k q
  exact hf σ H _ _ R0 B (Wg.ext h ex)
 ·exact hf σ H δ Ω R B h
def aD (f:DM DV):DM Fl:=f.bd fun a δ=>match a with
 | .val d=>.ok (.rt d) δ
 | .own ds=>.ok (.rto ds) δ
 | .slot i=>(match δ[i]? with | some (.ow ds)=>.ok (.rto ds) (δ.set i .no) | _=>.un)
 | .fld _ _=>.un
theorem Bb {te:TE} {f:DM DV} (ha:DE K E te f):DS K E mp (xi te) (aD f):=by
 intro σ H δ Ω R B h
 refine ha σ H δ Ω R _ (Wg.bd h fun a δ1 H1 Ω1 ex h1 R1 x r1=>?_)
 cases a with
 | val d=>exact h1 H1 Ω1 .refl σ R1 (fun _ _=>rfl) x r1
 | own ds=>exact h1 H1 Ω1 .refl σ R1 (fun _ _=>rfl) x r1
 | fld _ _=>exact h1.elim
 | slot i=>
  simp only at h1
  split at h1
  ·rename_i ds hd
   obtain ⟨a,vs,e1,e2,e3,e4⟩:=R1.sl i _ hd
   have r1:σ[i]?=some (some x):=r1
   rw [r1] at e1
   cases e1
   have hl:i < δ1.length:=(List.getElem?_eq_some_iff.mp hd).1
   have R2:=(R1.forget (i:=i)).bu (k:=0) (k':=i + 1) e3 fun j s q=>by
    by_cases z:j=i
    ·subst z
     rw [List.getElem?_set_self hl] at q
     exact .inl (Option.some.inj q).symm
    ·exact .inr (by omega)
   exact h1 H1 (DL.bu Ω1 a (0 + 1)) (.own (k':=i + 1) e3) σ R2 (fun _ _=>rfl) _ ⟨a,vs,rfl,e2,by unfold DL.bu;rw [if_pos rfl],e4.ext (.own (k':=i + 1) e3)⟩
  ·exact h1.elim
end
end DL
namespace DL
open PySem PySem.Spec PyProof.Rows L2
structure Yl (K:PySem.W.Frag) (J:It) (H:Hp) (Ω:Om) (ds:List D):Prop where
 go:∀ i H' Ω',Ext H Ω H' Ω'->i < ds.length->J.go i H'
 yld:∀ i d H' Ω' x H'',Ext H Ω H' Ω'->ds[i]?=some d->J.yld i H' x H''->Rep K H'' Ω' d x/\(H''=H'\/∃ p xs,H' p=none/\H''=upd H' p (.tup xs))
 stop:∀ H' Ω',Ext H Ω H' Ω'->J.stop ds.length H'
def DI (K:PySem.W.Frag) (E:Str->Hp->Prop) (wi:TI) (f:DM (List D)):Prop:=∀ σ H δ Ω,az K H Ω σ δ->∀ R:It->Hp->Prop,
 Wg E H Ω (fun ds δ' H' Ω'=>az K H' Ω' σ δ'->∀ J,(∀ Ω2:Om,(∀ b,Ω' b=none->Ω2 b=none)->Yl K J H' Ω2 ds)->R J H') (f δ)->wi σ H R
def DG (K:PySem.W.Frag) (mp:List Nat) (g:TG) (t:D->DSt->Option DSt):Prop:=∀ σ H δ Ω d x δ',az K H Ω σ δ->Rep K H Ω d x->t d δ=some δ'->
 ∀ Q:St->Hp->Prop,(∀ σ',az K H Ω σ' δ'->(∀ j∈mp,σ'[j]?=σ[j]?)->Q σ' H)->g x σ H Q
section
variable {K:PySem.W.Frag} {E:Str->Hp->Prop} {H H1 H2 H':Hp} {Ω Ω1 Ω2 Ω':Om} {σ:St} {δ:DSt} {mp:List Nat}
def bo (i:Nat):D->DSt->Option DSt:=fun d δ=>some (δ.set i (.sh d))
theorem Ai {i:Nat} (hi:i∉mp):DG K mp (iB i) (bo i):=by
 intro σ H δ Ω d x δ' R r e Q h
 cases e
 exact h _ (R.set ⟨x,rfl,r⟩) (set_same hi)
def kH:List Nat->List D->DSt->Option DSt
 | [],[],δ=>some δ
 | i :: is,d :: ds,δ=>kH is ds (δ.set i (.sh d))
 | _,_,_=>none
def pw:List Nat->TGs
 | []=>vc
 | i :: is=>zo (iB i) (pw is)
theorem xr:∀ {is:List Nat},(∀ i∈is,i∉mp)->∀ {σ H δ Ω ds xs δ'},az K H Ω σ δ->ax K H Ω ds xs->kH is ds δ=some δ'->
  ∀ Q:St->Hp->Prop,(∀ σ',az K H Ω σ' δ'->(∀ j∈mp,σ'[j]?=σ[j]?)->Q σ' H)->pw is xs σ H Q
 | [],_,σ,H,δ,Ω,[],xs,δ',R,r,e,Q,h=>by
  cases e
  exact ⟨r,h σ R fun _ _=>rfl⟩
 | [],_,_,_,_,_,_ :: _,_,_,_,_,e,_,_=>by cases e
 | _ :: _,_,_,_,_,_,[],_,_,_,_,e,_,_=>by cases e
 | i :: is,hi,σ,H,δ,Ω,d :: ds,xs,δ',R,r,e,Q,h=>by
  obtain ⟨v,q,e1,e2,e3⟩:=(show ∃ v r,_ from r)
  refine ⟨v,q,e1,?_⟩
  have R':az K H Ω (σ.set i (some v)) (δ.set i (.sh d)):=R.set ⟨v,rfl,e2⟩
  exact xr (is:=is) (fun j hj=>hi j (List.mem_cons_of_mem _ hj)) R' e3 e Q fun σ' R2 m2=>h σ' R2 fun j hj=>(m2 j hj).trans (set_same (hi i List.mem_cons_self) j hj)
def cY (is:List Nat):D->DSt->Option DSt:=fun d δ=>match d with
 | .tup ds=>kH is ds δ
 | _=>none
theorem uB:∀ {is:List Nat} {ds:List D} {δ δ':DSt},kH is ds δ=some δ'->ds.length=is.length
 | [],[],_,_,_=>rfl
 | [],_ :: _,_,_,e=>by cases e
 | _ :: _,[],_,_,e=>by cases e
 | _ :: is,_ :: ds,_,_,e=>by rw [List.length_cons,List.length_cons,uB (is:=is) (ds:=ds) e]
theorem wa {is:List Nat} {n:Nat} (hi:∀ i∈is,i∉mp) (hn:n=is.length):DG K mp (wd K n (pw is)) (cY is):=by
 intro σ H δ Ω d x δ' R r e Q h
 cases d with
 | tup ds=>
  obtain ⟨a,vs,e1,e2,e3⟩:=(show ∃ a vs,_ from r)
  exact ⟨a,vs,e1,e2,by rw [<-e3.length,hn];exact uB (show kH is ds δ=some δ' from e),xr hi R e3 (show kH is ds δ=some δ' from e) Q h⟩
 | _=>cases e
def bP (t:D->DSt->Option DSt) (body:DM Fl):List D->DM Fl
 | [],δ=>.ok .nx δ
 | d :: ds,δ=>match t d δ with
  | none=>.un
  | some δ1=>match body δ1 with
   | .un=>.un
   | .er c=>.er c
   | .ok .nx δ2=>bP t body ds δ2
   | .ok .ct δ2=>bP t body ds δ2
   | .ok .bk δ2=>.ok .nx δ2
   | .ok (.rt d) δ2=>.ok (.rt d) δ2
   | .ok (.rto d) δ2=>.ok (.rto d) δ2
def cu (fi:DM (List D)) (t:D->DSt->Option DSt) (body:DM Fl):DM Fl:=fi.bd fun ds=>bP t body ds
theorem drop_cons {α:Type} {l:List α} {i:Nat} {a:α} (h:l[i]?=some a):l.drop i=a :: l.drop (i + 1):=by
 obtain ⟨hi,e⟩:=List.getElem?_eq_some_iff.mp h
 rw [List.drop_eq_getElem_cons hi,e]
theorem EB {wi:TI} {g:TG} {tb:TS} {fi:DM (List D)} {t:D->DSt->Option DSt} {fb:DM Fl} (hi:DI K E wi fi) (hg:DG K mp g t) (hb:DS K E mp tb fb):DS K E mp (wD wi g tb) (cu fi t fb):=by
 intro σ H δ Ω R B h
 refine hi σ H δ Ω R _ (Wg.bd h fun ds δ1 H1 Ω1 _ h1 R1 J YY=>?_)
 have Y:=YY Ω1 fun _ z=>z
 refine ⟨fun i m σ' H'=>m=ds.length - i/\i<=ds.length/\∃ δ' Ω',az K H' Ω' σ' δ'/\Ext H1 Ω1 H' Ω'/\Wg E H' Ω' (PF K mp σ' B) (bP t fb (ds.drop i) δ'),⟨_,rfl,Nat.zero_le _,δ1,Ω1,R1,.refl,h1⟩,?_⟩
 rintro i m σ' H' ⟨rfl,hl,δ',Ω',R',e',w⟩
 by_cases hlt:i < ds.length
 ·refine .inr ⟨Y.go i H' Ω' e' hlt,fun σ2 H2=>∃ δ2 Ω2,az K H2 Ω2 σ2 δ2/\Ext H1 Ω1 H2 Ω2/\Wg E H2 Ω2 (PF K mp σ2 B) (bP t fb (ds.drop (i + 1)) δ2),fun σ2 H2 ⟨δ2,Ω2,R2,e2,w2⟩=>⟨_,by omega,rfl,hlt,δ2,Ω2,R2,e2,w2⟩,fun x H2 hy=>?_⟩
  obtain ⟨d,hd⟩:∃ d,ds[i]?=some d:=⟨ds[i],List.getElem?_eq_getElem hlt⟩
  obtain ⟨rx,hH⟩:=Y.yld i d H' Ω' x H2 e' hd hy
  have R2:az K H2 Ω' σ' δ':=by
   rcases hH with z | ⟨p,xs,hp,z⟩
   ·rw [z];exact R'
   ·rw [z];exact R'.alloc hp
  have e2:Ext H' Ω' H2 Ω':=by
   rcases hH with z | ⟨p,xs,hp,z⟩
   ·rw [z];exact .refl
   ·rw [z];exact .alloc hp R'.trk
  rw [drop_cons hd] at w
  unfold bP at w
  cases q:t d δ' with
  | none=>rw [q] at w;exact w.elim
  | some δ3=>
   rw [q] at w
   simp only at w
   refine hg σ' H2 δ' Ω' d x δ3 R2 rx q _ fun σ3 R3 m3=>?_
   refine hb σ3 H2 δ3 Ω' R3 _ ?_
   cases q4:fb δ3 with
   | un=>rw [q4] at w;exact w
   | er c=>rw [q4] at w;exact Wg.ext (P:=PF K mp σ' B) (r:=.er c) w e2
   | ok fl δ4=>
    rw [q4] at w
    cases fl with
    | nx=>exact fun H4 Ω4 e4 σ4 R4 m4=>⟨δ4,Ω4,R4,e'.trans (e2.trans e4),(Wg.ext w (e2.trans e4)).same fun j hj=>(m4 j hj).trans (m3 j hj)⟩
    | ct=>exact fun H4 Ω4 e4 σ4 R4 m4=>⟨δ4,Ω4,R4,e'.trans (e2.trans e4),(Wg.ext w (e2.trans e4)).same fun j hj=>(m4 j hj).trans (m3 j hj)⟩
    | bk=>exact fun H4 Ω4 e4 σ4 R4 m4=>w H4 Ω4 (e2.trans e4) σ4 R4 fun j hj=>(m4 j hj).trans (m3 j hj)
    | rt d=>exact fun H4 Ω4 e4 σ4 R4 m4=>w H4 Ω4 (e2.trans e4) σ4 R4 fun j hj=>(m4 j hj).trans (m3 j hj)
    | rto d=>exact fun H4 Ω4 e4 σ4 R4 m4=>w H4 Ω4 (e2.trans e4) σ4 R4 fun j hj=>(m4 j hj).trans (m3 j hj)
 ·have hil:i=ds.length:=by omega
  subst hil
  rw [List.drop_length] at w
  exact .inl ⟨Y.stop H' Ω' e',w H' Ω' .refl σ' R' fun _ _=>rfl⟩
def dF (c:DM Bool) (body:DM Fl):Nat->DM Fl
 | 0=>fun _=>.un
 | n + 1=>c.bd fun b=>if b then (fun δ=>match body δ with
   | .un=>.un
   | .er c=>.er c
   | .ok .nx δ2=>dF c body n δ2
   | .ok .ct δ2=>dF c body n δ2
   | .ok .bk δ2=>.ok .nx δ2
   | .ok (.rt d) δ2=>.ok (.rt d) δ2
   | .ok (.rto d) δ2=>.ok (.rto d) δ2) else .ret .nx
theorem Gk {c:TT} {tb:TS} {fc:DM Bool} {fb:DM Fl} (n:Nat) (hc:DT K E c fc) (hb:DS K E mp tb fb):DS K E mp (zc c tb) (dF fc fb n):=by
 intro σ H δ Ω R B h
 refine ⟨fun m σ' H'=>∃ δ' Ω',az K H' Ω' σ' δ'/\Wg E H' Ω' (PF K mp σ' B) (dF fc fb m δ'),⟨n,δ,Ω,R,h⟩,?_⟩
 rintro m σ' H' ⟨δ',Ω',R',w⟩
 cases m with
 | zero=>exact w.elim
 | succ m=>
  refine hc.use R' w fun b δ1 H1 Ω1 _ R1 h1=>?_
  cases b with
  | false=>exact ja (h1 H1 Ω1 .refl σ' R1 fun _ _=>rfl)
  | true=>
   refine iJ ⟨fun σ2 H2=>∃ δ2 Ω2,az K H2 Ω2 σ2 δ2/\Wg E H2 Ω2 (PF K mp σ2 B) (dF fc fb m δ2),fun σ2 H2 h2=>⟨m,Nat.lt_succ_self m,h2⟩,?_⟩
   refine hb σ' H1 δ1 Ω1 R1 _ ?_
   simp only [if_true] at h1
   cases q4:fb δ1 with
   | un=>rw [q4] at h1;exact h1
   | er c=>rw [q4] at h1;exact h1
   | ok fl δ4=>
    rw [q4] at h1
    cases fl with
    | nx=>exact fun H4 Ω4 e4 σ4 R4 m4=>⟨δ4,Ω4,R4,(Wg.ext h1 e4).same m4⟩
    | ct=>exact fun H4 Ω4 e4 σ4 R4 m4=>⟨δ4,Ω4,R4,(Wg.ext h1 e4).same m4⟩
    | bk=>exact fun H4 Ω4 e4 σ4 R4 m4=>h1 H4 Ω4 e4 σ4 R4 m4
    | rt d=>exact fun H4 Ω4 e4 σ4 R4 m4=>h1 H4 Ω4 e4 σ4 R4 m4
    | rto d=>exact fun H4 Ω4 e4 σ4 R4 m4=>h1 H4 Ω4 e4 σ4 R4 m4
def fIt (f:DM DV) (g:D->Option (List D)):DM (List D):=(fN f).bd fun a δ=>match a with
 | .val d=>(match g d with | some ds=>.ok ds δ | none=>.un)
 | _=>.un
def cQ:D->Option (List D)
 | .lst ds=>some ds
 | _=>none
def oM:D->Option (List D)
 | .tup ds=>some ds
 | _=>none
theorem ER {a:Addr} {vs:List V} {ds:List D} (h:ShL H Ω a vs) (r:ax K H Ω ds vs):Yl K (Itl K a) H Ω ds where
 go:=fun i H' Ω' e hi=>by
  obtain ⟨v,q,_⟩:=r.get (List.getElem?_eq_getElem hi)
  exact ⟨vs,v,(.inl (h.ext e).1),q⟩
 yld:=fun i d H' Ω' x H'' e hd hy=>by
  obtain ⟨z,hy⟩:=hy
  subst z
  obtain ⟨v,q,rv⟩:=(r.ext e).get hd
  have:=hy vs (.inl (h.ext e).1)
  rw [q] at this
  cases this
  exact ⟨rv,.inl rfl⟩
 stop:=fun H' Ω' e=>⟨vs,(.inl (h.ext e).1),by rw [r.length];exact Nat.le_refl _⟩
theorem Dt {a:Addr} {vs:List V} {ds:List D} (h:SqT K H a vs) (r:ax K H Ω ds vs):Yl K (Itt K a) H Ω ds where
 go:=fun i H' Ω' e hi=>by
  obtain ⟨v,q,_⟩:=r.get (List.getElem?_eq_getElem hi)
  exact ⟨vs,v,SqT.ext e h,q⟩
 yld:=fun i d H' Ω' x H'' e hd hy=>by
  obtain ⟨z,hy⟩:=hy
  subst z
  obtain ⟨v,q,rv⟩:=(r.ext e).get hd
  have:=hy vs (SqT.ext e h)
  rw [q] at this
  cases this
  exact ⟨rv,.inl rfl⟩
 stop:=fun H' Ω' e=>⟨vs,SqT.ext e h,by rw [r.length];exact Nat.le_refl _⟩
def bN (lo:Int) (n:Nat):List D:=(List.range n).map fun (k:Nat)=>D.int (lo + (k:Int))
theorem AK (lo:Int) (n:Nat):Yl K (Itr lo n) H Ω (bN lo n) where
 go:=fun i H' Ω' e hi=>by
  unfold bN at hi
  rw [List.length_map,List.length_range] at hi
  exact hi
 yld:=fun i d H' Ω' x H'' e hd hy=>by
  obtain ⟨z,hy⟩:=hy
  subst z
  unfold bN at hd
  rw [List.getElem?_map] at hd
  cases q:(List.range n)[i]? with
  | none=>rw [q] at hd;cases hd
  | some k=>
   rw [q] at hd
   have hk:k=i:=by
    obtain ⟨h1,h2⟩:=List.getElem?_eq_some_iff.mp q
    rw [List.getElem_range] at h2
    exact h2.symm
   subst hk
   cases hd
   exact ⟨hy,.inl rfl⟩
 stop:=fun H' Ω' e=>by
  unfold bN
  rw [List.length_map,List.length_range]
  exact Nat.le_refl n
theorem El {te:TE} {f:DM DV} (ha:DE K E te f):DI K E (tR K te) (fIt f cQ):=by
 intro σ H δ Ω R Q h
 refine ha.use R h fun a x δ1 H1 Ω1 _ s1 R1 r1 h1=>?_
 cases a with
 | val d=>
  cases d with
  | lst ds=>
   obtain ⟨b,vs,e1,e2,e3⟩:=(show ∃ a vs,_ from r1)
   exact ⟨b,e1,⟨vs,.inl e2.1⟩,h1 H1 Ω1 .refl R1 _ fun Ω2 z=>ER (e2.less z) (e3.less z)⟩
  | _=>exact h1.elim
 | slot i=>exact h1.elim
 | fld _ _=>exact h1.elim
 | own ds=>exact h1.elim
theorem Hq {te:TE} {f:DM DV} (ha:DE K E te f):DI K E (zH K te) (fIt f oM):=by
 intro σ H δ Ω R Q h
 refine ha.use R h fun a x δ1 H1 Ω1 _ s1 R1 r1 h1=>?_
 cases a with
 | val d=>
  cases d with
  | tup ds=>
   obtain ⟨b,vs,e1,e2,e3⟩:=(show ∃ a vs,_ from r1)
   exact ⟨b,e1,⟨vs,e2⟩,h1 H1 Ω1 .refl R1 _ fun Ω2 z=>Dt e2 (e3.less z)⟩
  | _=>exact h1.elim
 | slot i=>exact h1.elim
 | fld _ _=>exact h1.elim
 | own ds=>exact h1.elim
def fI (j:Int):Bool:=decide (-(2 ^ 62)<=j)&&decide (j < 2 ^ 62)
def dU (fa:DM (List DV)):DM (List D):=fa.bd fun as δ=>match as with
 | [.val (.int j)]=>if fI j then .ok (bN 0 j.toNat) δ else .un
 | _=>.un
theorem Gs {t:TA} {fa:DM (List DV)} (ha:DA K E t fa):DI K E (vn t) (dU fa):=by
 intro σ H δ Ω R Q h
 refine ha.use R h fun as vs δ1 H1 Ω1 _ s1 R1 r1 h1=>?_
 (try dsimp only at h1)
 split at h1
 ·rename_i j
  split at h1
  ·rename_i hj
   unfold fI at hj
   simp only [Bool.and_eq_true,decide_eq_true_eq] at hj
   obtain ⟨v,q,e1,e2,e3⟩:=r1
   cases (show q=[] from e3)
   cases (show v=.int j from e2)
   exact ⟨j,e1,hj.1,hj.2,h1 H1 Ω1 .refl R1 _ fun Ω2 z=>AK 0 _⟩
  ·exact h1.elim
 ·exact h1.elim
def under (Ω:Om):Om:=fun b=>(Ω b).map fun _=>0
def back (Ω Ω':Om):Om:=fun b=>match Ω' b with
 | some 0=>Ω b
 | some 1=>some 1
 | _=>none
theorem f6 {b:Addr} (h:Ω b=none):under Ω b=none:=by unfold under;rw [h];rfl
theorem gu {b:Addr} {k:Nat} (h:Ω b=some k):under Ω b=some 0:=by unfold under;rw [h];rfl
theorem iw (b:Addr) (h:Ω' b=none):back Ω Ω' b=none:=by unfold back;rw [h]
theorem lj {b:Addr} (h:Ω' b=some 0):back Ω Ω' b=Ω b:=by unfold back;rw [h] <;> rfl
theorem ke {b:Addr} (h:Ω' b=some 1):back Ω Ω' b=some 1:=by unfold back;rw [h] <;> rfl
theorem Ext.back (e:Ext H (under Ω) H' Ω'):Ext H Ω H' (back Ω Ω') where
 keep:=fun b o q h=>e.keep b o q (h.imp_right fun z=>z.imp f6 gu)
 new:=fun b q h=>iw b (e.new b (f6 q) h)
 fr:=fun b=>by
  constructor
  ·intro h
   rw [lj ((e.fr b).mp (gu h))]
   exact h
  ·intro h
   unfold DL.back at h
   split at h
   ·exact h
   ·cases h
   ·cases h
 live:=e.live
theorem az.back (R:az K H Ω σ δ) (e:Ext H (under Ω) H' Ω') (ht:∀ a k,Ω' a=some k->∃ u,H' a=some u/\bV u=false):az K H' (back Ω Ω') σ δ:=by
 refine R.ext e.back (fun b k vs q1 q2=>⟨e.keep b _ q2 (.inr (.inr (gu q1))),by rw [lj ((e.fr b).mp (gu q1))];exact q1⟩) fun a k q=>?_
 unfold DL.back at q
 split at q
 ·rename_i z;exact ht a _ z
 ·rename_i z;exact ht a _ z
 ·cases q
inductive Ro where
 | un | er (c:Str) | ok (d:D) | own (ds:List D)
def RoQ (K:PySem.W.Frag) (E:Str->Hp->Prop) (H:Hp) (Ω:Om) (Q:VK):Ro->Prop
 | .un=>False
 | .er c=>∀ H' Ω',Ext H Ω H' Ω'->Trk H' Ω'->E c H'
 | .ok d=>∀ H' Ω',Ext H Ω H' Ω'->Trk H' Ω'->∀ v,Rep K H' Ω' d v->Q v H'
 | .own ds=>∀ H' Ω',Ext H Ω H' Ω'->Trk H' Ω'->∀ v,dy K H' Ω' [] (.own ds) v->Q v H'
def spP (K:PySem.W.Frag) (ce:Str->Value) (n:Nat) (M:List D->Ro):Sp:=fun vs H Q E=>vs.length=n/\∃ Ω ds,Trk H Ω/\(∀ b k,Ω b=some k->k=0)/\ax K H Ω ds vs/\RoQ K (fun c H'=>E (ce c) none H') H Ω Q (M ds)
def aF (n:Nat) (fa:DM (List DV)) (M:List D->Ro):DM DV:=fa.bd fun as δ=>match cL as with
 | none=>.un
 | some ds=>if ds.length=n then (match M ds with
  | .un=>.un
  | .er c=>.er c
  | .ok d=>.ok (.val d) δ
  | .own ds=>.ok (.own ds) δ) else .un
theorem lZ (t:Trk H Ω):Trk H (under Ω):=fun a k q=>by
 unfold under at q
 cases e:Ω a with
 | none=>rw [e] at q;cases q
 | some j=>exact t a j e
theorem qN:∀ b k,under Ω b=some k->k=0:=fun b k q=>by
 unfold under at q
 cases e:Ω b with
 | none=>rw [e] at q;cases q
 | some j=>rw [e] at q;cases q;rfl
theorem HH {ce:Str->Value} {n:Nat} {M:List D->Ro} {Ex:XK} {t:TA} {fa:DM (List DV)} (hE:∀ c H',E c H'->Ex (ce c) none H') (ha:DA K E t fa):DE K E (lF (spP K ce n M) [] Ex t) (aF n fa M):=by
 intro σ H δ Ω R Q h
 refine ha.use R h fun as vs δ1 H1 Ω1 _ s1 R1 r1 h1=>?_
 (try dsimp only at h1)
 cases q1:cL as with
 | none=>rw [q1] at h1;exact h1.elim
 | some ds=>
  rw [q1] at h1
  dsimp only at h1
  split at h1
  ·rename_i hn
   have r:=r1.vals q1
   show spP K ce n M (vs++[]) H1 Q Ex
   rw [List.append_nil]
   refine ⟨by rw [<-r.length];exact hn,under Ω1,ds,lZ R1.trk,qN,r.less fun b q=>f6 q,?_⟩
   cases q3:M ds with
   | un=>rw [q3] at h1;exact h1
   | er c=>rw [q3] at h1;exact fun H' Ω' e' t'=>hE c H' (h1 H' _ e'.back (R1.back e' t').trk)
   | ok d=>rw [q3] at h1;exact fun H' Ω' e' t' v rv=>h1 H' _ e'.back (R1.back e' t') v (Rep.less iw rv)
   | own es=>
    rw [q3] at h1
    intro H' Ω' e' t' v ⟨a,ws,z1,z2,z3,z4⟩
    exact h1 H' _ e'.back (R1.back e' t') v ⟨a,ws,z1,z2,ke z3,z4.less iw⟩
  ·exact h1.elim
def jW (δ:DSt) (sel:List (Option Nat)):DSt:=sel.map fun o=>match o with
 | none=>.no
 | some j=>match δ[j]? with | some (.sh d)=>.sh d | _=>.no
def cv (t:D->DSt->Option DSt) (fc:DM Bool) (fe:DM DV):List D->DSt->List D->Option (List D)
 | [],_,out=>some out
 | d :: ds,δ,out=>match t d δ with
  | none=>none
  | some δ1=>match fc δ1 with
   | .ok true δ2=>(match fN fe δ2 with
    | .ok (.val v) δ3=>if out.length < sizeLine then cv t fc fe ds δ3 (out++[v]) else none
    | _=>none)
   | .ok false δ2=>cv t fc fe ds δ2 out
   | _=>none
def fLC (fi:DM (List D)) (t:D->DSt->Option DSt) (fc:DM Bool) (fe:DM DV) (sel:List (Option Nat)):DM DV:=fi.bd fun ds δ=>match cv t fc fe ds (jW δ sel) [] with
 | some out=>.ok (.own out) δ
 | none=>.un
def EN:Str->Hp->Prop:=fun _ _=>False
theorem az.fh (R:az K H Ω σ δ) (sel:List (Option Nat)) (hl:∀ b,Ω b=none->Ω' b=none) (ht:Trk H Ω'):az K H Ω' (fh σ sel) (jW δ sel):=by
 refine ⟨by unfold L2.fh jW;rw [List.length_map,List.length_map],fun i s h=>?_,ht⟩
 unfold jW at h
 rw [List.getElem?_map] at h
 cases q:sel[i]? with
 | none=>rw [q] at h;cases h
 | some o=>
  rw [q] at h
  cases o with
  | none=>cases h;trivial
  | some j=>
   have h:(match δ[j]? with | some (.sh d)=>Sl.sh d | _=>.no)=s:=Option.some.inj h
   have e:(L2.fh σ sel)[i]?=some ((σ[j]?).join):=by unfold L2.fh;rw [List.getElem?_map,q];rfl
   rw [e]
   split at h
   ·rename_i d hd
    subst h
    obtain ⟨v,e1,e2⟩:=R.sl j _ hd
    exact ⟨v,e1,Rep.less hl e2⟩
   ·subst h;trivial
theorem Ext.hide {p:Addr} (e:Ext H Ω H' Ω') (hp:Ω p=some 0) (hl:∃ vs,H p=some vs/\bV vs=false):Ext H (bu Ω p 1) H' (bu Ω' p 1) where
 keep:=fun b o q h=>by
  by_cases hb:b=p
  ·subst hb
   exact e.keep b o q (.inr (.inr hp))
  ·refine e.keep b o q ?_
   unfold bu at h
   rw [if_neg hb] at h
   exact h
 new:=fun b q h=>by
  unfold bu at q ⊢
  split at q
  ·cases q
  ·rename_i hb
   rw [if_neg hb]
   exact e.new b q h
 fr:=fun b=>by
  unfold bu
  split
  ·constructor <;> intro q <;> cases q
  ·exact e.fr b
 live:=e.live
theorem Ext.put {p:Addr} {o:HO} (hl:∃ vs,H p=some vs/\bV vs=false) (hp:Ω p=some 1):Ext H Ω (upd H p o) Ω where
 keep:=fun b o' q h=>by
  have hb:b≠p:=by
   rintro rfl
   obtain ⟨vs,e,f⟩:=hl
   rw [e] at q
   cases q
   rcases h with h | h | h
   ·rw [f] at h;cases h
   ·rw [hp] at h;cases h
   ·rw [hp] at h;cases h
  rw [aA hb]
  exact q
 new:=fun _ q _=>q
 fr:=fun _=>Iff.rfl
 live:=fun b q=>by
  unfold upd at q
  split at q
  ·cases q
  ·exact q
theorem p8 {p:Addr} {xs:List V} (hl:∃ vs,H p=some vs/\bV vs=false):Ext H (bu Ω p 1) (upd H p (.lst xs)) (bu Ω p 1):=.put hl (by unfold bu;rw [if_pos rfl])
theorem rk {p:Addr} (hp:Ω p≠none):∀ b,Ω b=none->bu Ω p 1 b=none:=fun b q=>by
 unfold bu
 rw [if_neg]
 ·exact q
 ·rintro rfl;exact hp q
theorem qD {p:Addr}:∀ b,bu Ω p 1 b=none->Ω b=none:=fun b q=>by
 unfold bu at q
 split at q
 ·cases q
 ·exact q
theorem Rep.put {p:Addr} {xs:List V} {d:D} {v:V} (h:Rep K H Ω d v) (hl:∃ vs,H p=some vs/\bV vs=false) (hp:Ω p≠none):Rep K (upd H p (.lst xs)) Ω d v:=
 Rep.less qD ((Rep.less (rk hp) h).ext (p8 hl))
theorem ax.put {p:Addr} {xs:List V} {ds:List D} {vs:List V} (h:ax K H Ω ds vs) (hl:∃ vs,H p=some vs/\bV vs=false) (hp:Ω p≠none):ax K (upd H p (.lst xs)) Ω ds vs:=
 ax.less qD ((ax.less (rk hp) h).ext (p8 hl))
theorem az.put {p:Addr} {xs:List V} (R:az K H Ω σ δ) (hp:Ω p=some 0\/Ω p=some 1):az K (upd H p (.lst xs)) Ω σ δ:=by
 have hl:∃ vs,H p=some vs/\bV vs=false:=hp.elim (R.trk p 0) (R.trk p 1)
 have hp':Ω p≠none:=by rcases hp with z | z <;> (rw [z];exact Option.some_ne_none _)
 refine ⟨R.len,fun i s h=>?_,fun a k q=>?_⟩
 ·refine (R.sl i s h).mv (fun _ _ z=>z.put hl hp') (fun _ _ z=>z.put hl hp') fun a ws e3 e2=>?_
  have ha:a≠p:=by rintro rfl;rcases hp with z | z <;> (rw [z] at e3;cases e3)
  exact ⟨by rw [aA ha];exact e2,e3⟩
 ·by_cases ha:a=p
  ·subst ha;exact ⟨_,bw,rfl⟩
  ·obtain ⟨ws,e,f⟩:=R.trk a k q
   exact ⟨ws,by rw [aA ha];exact e,f⟩
theorem az.relabel (R:az K H Ω σ δ) (h0:∀ b,Ω b=none->Ω' b=none) (h2:∀ b k,Ω b=some (k + 2)->Ω' b=some (k + 2)) (ht:Trk H Ω'):az K H Ω' σ δ:=
 ⟨R.len,fun i s h=>(R.sl i s h).mv (fun _ _=>Rep.less h0) (fun _ _=>ax.less h0) fun a ws e3 e2=>⟨e2,h2 a i e3⟩,ht⟩
theorem uu {p:Addr} {k:Nat} (t:Trk H Ω) (hl:∃ vs,H p=some vs/\bV vs=false):Trk H (bu Ω p k):=fun a j q=>by
 by_cases ha:a=p
 ·subst ha;exact hl
 ·unfold bu at q
  rw [if_neg ha] at q
  exact t a j q
theorem vC {wi:TI} {g:TG} {ts:TT} {te:TE} {sel:List (Option Nat)} {fi:DM (List D)} {t:D->DSt->Option DSt} {fc:DM Bool} {fe:DM DV} (hi:DI K E wi fi) (hg:DG K [] g t) (hc:DT K EN ts fc) (he:DE K EN te fe) :
  DE K E (tLC wi g ts te sel) (fLC fi t fc fe sel):=by
 intro σ H δ Ω R Q h
 refine hi σ H δ Ω R _ (Wg.bd h fun ds δ1 H1 Ω1 _ h1 R1 J YY p hp=>?_)
 have Y:=YY (under Ω1) fun _ z=>f6 z
 have he:=he.norm
 (try dsimp only at h1)
 cases hres:cv t fc fe ds (jW δ1 sel) [] with
 | none=>rw [hres] at h1;exact h1.elim
 | some rs=>
  rw [hres] at h1
  have R0:az K (upd H1 p (.lst [])) (bu (dS (under Ω1) p) p 0) (fh σ sel) (jW δ1 sel):=by
   have r1:=(R1.fh sel (Ω':=under Ω1) (fun b q=>f6 q) (lZ R1.trk)).alloc1 (xs:=[]) hp
   refine r1.relabel (fun b q=>?_) (fun b k q=>?_) (uu r1.trk ⟨_,bw,rfl⟩)
   ·unfold bu
    rw [if_neg]
    ·exact q
    ·rintro rfl
     unfold dS at q
     rw [if_pos rfl] at q
     cases q
   ·unfold bu
    rw [if_neg]
    ·exact q
    ·rintro rfl
     unfold dS at q
     rw [if_pos rfl] at q
     cases q
  have o0:bu (dS (under Ω1) p) p 0 p=some 0:=by unfold bu;rw [if_pos rfl]
  have e0:Ext H1 (under Ω1) (upd H1 p (.lst [])) (bu (bu (dS (under Ω1) p) p 0) p 1):=by
   have q:bu (bu (dS (under Ω1) p) p 0) p 1=dS (under Ω1) p:=by
    funext b
    unfold bu dS
    split <;> rfl
   rw [q]
   exact .alloc1 hp (lZ R1.trk)
  refine ⟨fun i m σ' H'=>m=ds.length - i/\i<=ds.length/\∃ δ' Ω' out ws,az K H' Ω' σ' δ'/\Ω' p=some 0/\H' p=some (.lst ws)/\ax K H' Ω' out ws/\Ext H1 (under Ω1) H' (bu Ω' p 1)/\cv t fc fe (ds.drop i) δ' out=some rs,
   ⟨_,rfl,Nat.zero_le _,_,_,[],[],R0,o0,bw,.nil,e0,hres⟩,?_⟩
  rintro i m σ' H' ⟨rfl,hl,δ',Ω',out,ws,R',op,hw,rw',e',w⟩
  have t':Trk H' (bu Ω' p 1):=uu R'.trk ⟨_,hw,rfl⟩
  have np:∀ b,Ω' b=none->bu Ω' p 1 b=none:=rk (by rw [op];exact Option.some_ne_none _)
  by_cases hlt:i < ds.length
  ·refine .inr ⟨Y.go i H' _ e' hlt,fun σ2 H2=>∃ δ' Ω' out ws,az K H2 Ω' σ2 δ'/\Ω' p=some 0/\H2 p=some (.lst ws)/\ax K H2 Ω' out ws/\Ext H1 (under Ω1) H2 (bu Ω' p 1)/\cv t fc fe (ds.drop (i + 1)) δ' out=some rs,
    fun σ2 H2 h2=>⟨_,by omega,rfl,hlt,h2⟩,fun x H2 hy=>?_⟩
   obtain ⟨d,hd⟩:∃ d,ds[i]?=some d:=⟨ds[i],List.getElem?_eq_getElem hlt⟩
   obtain ⟨rx,hH⟩:=Y.yld i d H' _ x H2 e' hd hy
   have R2:az K H2 Ω' σ' δ':=by
    rcases hH with z | ⟨q,xs,hq,z⟩
    ·rw [z];exact R'
    ·rw [z];exact R'.alloc hq
   have e2:Ext H' Ω' H2 Ω':=by
    rcases hH with z | ⟨q,xs,hq,z⟩
    ·rw [z];exact .refl
    ·rw [z];exact .alloc hq R'.trk
   rw [drop_cons hd] at w
   unfold cv at w
   cases q:t d δ' with
   | none=>rw [q] at w;cases w
   | some δ3=>
    rw [q] at w
    dsimp only at w
    refine hg σ' H2 δ' Ω' d x δ3 R2 (Rep.less qD rx) q _ fun σ3 R3 _=>?_
    refine hc σ3 H2 δ3 Ω' R3 _ ?_
    cases q4:fc δ3 with
    | un=>rw [q4] at w;cases w
    | er c=>rw [q4] at w;cases w
    | ok b δ4=>
     rw [q4] at w
     intro H4 Ω4 e4 R4
     have e24:=e2.trans e4
     have op4:Ω4 p=some 0:=(e24.fr p).mp op
     have hw4:H4 p=some (.lst ws):=e24.keep p _ hw (.inr (.inr op))
     cases b with
     | false=>
      refine ja ?_
      exact ⟨δ4,Ω4,out,ws,R4,op4,hw4,rw'.ext e24,e'.trans (e24.hide op ⟨_,hw,rfl⟩),w⟩
     | true=>
      refine iJ ?_
      dsimp only at w
      refine he σ3 H4 δ4 Ω4 R4 _ ?_
      cases q5:fN fe δ4 with
      | un=>rw [q5] at w;cases w
      | er c=>rw [q5] at w;cases w
      | ok z δ5=>
       rw [q5] at w
       cases z with
       | slot j=>cases w
       | fld _ _=>cases w
       | own es=>cases w
       | val v=>
        dsimp only at w
        split at w
        ·rename_i hz
         intro H5 Ω5 e5 R5 x5 r5
         have e25:=e24.trans e5
         have op5:Ω5 p=some 0:=(e25.fr p).mp op
         have hw5:H5 p=some (.lst ws):=e25.keep p _ hw (.inr (.inr op))
         have hn5:Ω5 p≠none:=by rw [op5];exact Option.some_ne_none _
         refine ⟨ws,hw5,by rw [<-rw'.length];exact hz,δ5,Ω5,out++[v],ws++[x5],R5.put (.inl op5),op5,bw,?_,?_,w⟩
         ·exact (((rw'.ext e25).append (.cons r5 .nil))).put ⟨_,hw5,rfl⟩ hn5
         ·exact (e'.trans (e25.hide op ⟨_,hw,rfl⟩)).trans (p8 ⟨_,hw5,rfl⟩)
        ·cases w
  ·have hil:i=ds.length:=by omega
   subst hil
   rw [List.drop_length] at w
   cases w
   refine .inl ⟨Y.stop H' _ e',h1 H' _ e'.back (R1.back e' t') _ ⟨p,ws,rfl,hw,ke (by unfold bu;rw [if_pos rfl]),rw'.less fun b q=>iw b (np b q)⟩⟩
end
end DL
namespace L2
open PySem PySem.Spec PyProof.Rows
section
variable {X:Cx}
def zI:R2:=fun x y H Q=>∃ l b xs zs,x=.ref l/\y=.ref b/\Rd H l (.lst xs)/\Rd H b (.lst zs)/\xs.length + zs.length<=sizeLine/\∀ p,H p=none->Q (.ref p) (upd H p (.lst (xs++zs)))
theorem Inv.plain {pins:List (Addr×Obj)} {σ:St} {H:Hp} {s:Shared} {a:Addr} {xs:List V} (I:Inv X pins σ H s) (h:Rd H a (.lst xs)) :
  ∃ (its:List Value) (n:Nat),Vals xs its/\s.heap.get? a=some { cls:=.type "list",data:=.seq its.toArray n }/\xs.length<=sizeLine:=by
 obtain ⟨z,its,n,r,e⟩:=(show cb X.prog X.w H s.heap a (.lst xs) from h.ok I.hok)
 exact ⟨its,n,r,e,z⟩
theorem Ay:OpR X (binaryOp .Add) zI:=by
 intro pins s σ H x y v u Q I rx ry h
 obtain ⟨l,b,xs,zs,rfl,rfl,hH,hB,hz,q⟩:=h
 cases rx
 cases ry
 obtain ⟨its,n,r,e,z⟩:=I.plain hH
 obtain ⟨its2,n2,r2,e2,z2⟩:=I.plain hB
 have hl:=r.length
 have hl2:=r2.length
 refine PySem.P.add_list e e2 ?_ (by rw [List.size_toArray,List.size_toArray];omega)
 have ea:its.toArray++its2.toArray=(its++its2).toArray:=by simp
 rw [ea]
 exact ⟨.ref _,_,I.lnew (t':=s.toks) (r.append r2) (by rw [List.length_append];omega),rfl,q _ I.fresh⟩
theorem rl:∀ {ys:List Str} {us:List Value},Vals (ys.map V.str) us->StrsAre us ys
 | [],_,.nil=>.nil
 | y :: ys,_,.cons r q=>by
  obtain ⟨t,rfl⟩:=r
  exact .cons y t (rl q)
def rJoin (K:PySem.W.Frag):V->List V->Hp->VK->Prop:=fun x vs H Q=>∃ sep p ys,x=.str sep/\vs=[.ref p]/\(SqL K H p (ys.map V.str)\/SqT K H p (ys.map V.str))/\(ys.map (·.length)).sum + ys.length * sep.length<=16777216/\Q (.str (Txt.join sep ys)) H
theorem Fp:MtR X "str.join" (rJoin X.K):=by
 intro pins s σ H x vs v us Q I rx rv h
 obtain ⟨sep,p,ys,rfl,rfl,hq,hz,q⟩:=h
 obtain ⟨t,rfl⟩:=rx
 obtain ⟨u,rfl,ru⟩:=rv.one
 cases ru
 rcases hq with hq | hq
 ·obtain ⟨its,r,pl,z⟩:=I.list hq
  exact join_list pl.isList (by simpa using rl r) hz fun t' k=>⟨.str _,H,I.tok k,⟨_,rfl⟩,q⟩
 ·obtain ⟨its,r,pl,z⟩:=I.tuple hq
  exact join_tuple pl (by simpa using rl r) hz fun t' k=>⟨.str _,H,I.tok k,⟨_,rfl⟩,q⟩
inductive TyD (K:PySem.W.Frag) (H:Hp):V->String->Prop where
 | non:TyD K H .non "NoneType"
 | bl (x:Bool):TyD K H (.bl x) "bool"
 | int (i:Int):TyD K H (.int i) "int"
 | str (x:Str):TyD K H (.str x) "str"
 | lst {a:Addr} {xs:List V} (e:SqL K H a xs):TyD K H (.ref a) "list"
 | tup {a:Addr} {xs:List V} (e:SqT K H a xs):TyD K H (.ref a) "tuple"
theorem Hv:eW X (.builtin "isinstance") (fun xs H Q=>∃ x T t b,xs=[x,.ty T]/\TyD X.K H x t/\PySem.W.kitOne X.K (.type t) (.type T)=some b/\Q (.bl b) H):=by
 intro pins s σ H xs us Q I r h
 obtain ⟨x,T,t,b,rfl,ty,e,q⟩:=h
 obtain ⟨u,c,rfl,rx,rc⟩:=vals2 r
 cases rc
 have fin:∀ tk,EP X pins σ Q (.bool b) { s with toks:=tk }:=fun tk=>⟨.bl b,H,I.tok tk,rfl,q⟩
 cases ty with
 | non=>cases (show u=Value.none from rx);exact PySem.W.kia_one PySem.W.kitx_none I.kIn True.intro e (fun z=>nomatch z) fin
 | bl y=>cases (show u=Value.bool y from rx);exact PySem.W.kia_one PySem.W.kitx_bool I.kIn True.intro e (fun z=>nomatch z) fin
 | int i=>obtain ⟨t,z⟩:=(show ∃ t,u=Value.int i t from rx);cases z;exact PySem.W.kia_one PySem.W.kitx_int I.kIn True.intro e (fun z=>nomatch z) fin
 | str y=>obtain ⟨t,z⟩:=(show ∃ t,u=Value.str y t from rx);cases z;exact PySem.W.kia_one PySem.W.kitx_str I.kIn True.intro e (fun z=>nomatch z) fin
 | @lst a ys ea=>
  cases (show u=Value.ref a from rx)
  obtain ⟨its,_,⟨o,n,h1,h2,_⟩,_⟩:=I.list ea
  exact PySem.W.kia_one PySem.W.kitx_list I.kIn ⟨o,h1,h2⟩ e (fun z=>nomatch z) fin
 | @tup a ys ea=>
  cases (show u=Value.ref a from rx)
  obtain ⟨its,_,⟨o,h1,h2,_⟩,_⟩:=I.tuple ea
  exact PySem.W.kia_one PySem.W.kitx_tuple I.kIn ⟨o,h1,h2⟩ e (fun z=>nomatch z) fin
end
end L2
namespace L2
open PySem PySem.Spec PyProof.Rows
section
variable {X:Cx}
def Its (x:Str):It:=⟨fun i _=>i < x.cps.size,fun i H v H'=>H'=H/\∃ c,x.cps[i]?=some c/\v=.str ⟨#[c]⟩,fun i _=>x.cps.size<=i⟩
theorem Ge {P:Program} {w:World} {K:PySem.W.Frag} {tg:Expr} (x:Str) (t:Tok) (it:Addr):Turn P w K tg (Its x) [it] it (fun i h=>h.IsStrIter it "str_ascii_iterator" x t i) where
 mem:=by simp
 obj:=fun i h st b hb=>by
  have e:b=it:=by simpa using hb
  subst e
  obtain ⟨o,e,c,d⟩:=st
  exact ⟨o,e,fun v z=>by rw [d] at z;cases z⟩
 keep:=fun i h h' st k=>by
  obtain ⟨o,e,r⟩:=st
  exact ⟨o,k it (by simp) o e,r⟩
 item:=by
  intro X hP hw hK hc i pins s σ H E I hf st hg
  subst hP hw hK
  obtain ⟨f0,f1,f2,f3,f4,f5⟩:=hf it (by simp)
  have hg:i < x.cps.size:=hg
  refine wpAny_pyNext_ascii_item st (c:=x.cps[i]) (by simp [hg]) fun h' st' sb=>?_
  have I1:Inv X pins σ H { s with heap:=h',toks:=s.toks + 1 }:=I.turned (fun b o hb e=>(sb.2 b hb).trans e) f0 f1 f3 f4 f5
  obtain ⟨o,e,c,d⟩:=id st'
  exact ⟨_,rfl,kI (s:={ s with heap:=h',toks:=s.toks + 1 }) e c d (by decide) ⟨.str ⟨#[x.cps[i]]⟩,H,I1,⟨_,rfl⟩,⟨rfl,_,by simp [hg],rfl⟩,st',fun b hb=>(hf b hb).1⟩⟩
 done:=by
  intro X hP hw hK hc i pins s σ H E I hf st hg
  subst hP hw hK
  obtain ⟨f0,f1,f2,f3,f4,f5⟩:=hf it (by simp)
  have hg:x.cps.size<=i:=hg
  exact wpAny_pyNext_ascii_end (I.ok.hd hc) st (by simp [hg]) fun h' eb=>⟨rfl,I.turned (t':=s.toks) (fun b o hb e=>eb b o hb e) f0 f1 f3 f4 f5⟩
 self:=fun _ _ _ _ _ st h=>wpAny_pyIter_striter_ascii st h
theorem Bq {P:Program} {w:World} {K:PySem.W.Frag} {tg:Expr} (x:Str) (t:Tok) (it:Addr):Turn P w K tg (Its x) [it] it (fun i h=>h.IsStrIter it "str_iterator" x t i) where
 mem:=by simp
 obj:=fun i h st b hb=>by
  have e:b=it:=by simpa using hb
  subst e
  obtain ⟨o,e,c,d⟩:=st
  exact ⟨o,e,fun v z=>by rw [d] at z;cases z⟩
 keep:=fun i h h' st k=>by
  obtain ⟨o,e,r⟩:=st
  exact ⟨o,k it (by simp) o e,r⟩
 item:=by
  intro X hP hw hK hc i pins s σ H E I hf st hg
  subst hP hw hK
  obtain ⟨f0,f1,f2,f3,f4,f5⟩:=hf it (by simp)
  have hg:i < x.cps.size:=hg
  refine wpAny_pyNext_wide_item st (c:=x.cps[i]) (by simp [hg]) fun h' st' sb=>?_
  have I1:Inv X pins σ H { s with heap:=h',toks:=s.toks + 1 }:=I.turned (fun b o hb e=>(sb.2 b hb).trans e) f0 f1 f3 f4 f5
  obtain ⟨o,e,c,d⟩:=id st'
  exact ⟨_,rfl,kI (s:={ s with heap:=h',toks:=s.toks + 1 }) e c d (by decide) ⟨.str ⟨#[x.cps[i]]⟩,H,I1,⟨_,rfl⟩,⟨rfl,_,by simp [hg],rfl⟩,st',fun b hb=>(hf b hb).1⟩⟩
 done:=by
  intro X hP hw hK hc i pins s σ H E I hf st hg
  subst hP hw hK
  obtain ⟨f0,f1,f2,f3,f4,f5⟩:=hf it (by simp)
  have hg:x.cps.size<=i:=hg
  exact wpAny_pyNext_wide_end (I.ok.hd hc) st (by simp [hg]) fun h' eb=>⟨rfl,I.turned (t':=s.toks) (fun b o hb e=>eb b o hb e) f0 f1 f3 f4 f5⟩
 self:=fun _ _ _ _ _ st h=>wpAny_pyIter_striter_wide st h
def Ft (tl:TE):TI:=fun σ H R=>tl σ H fun x H1=>∃ z,x=.str z/\R (Its z) H1
theorem Bs {tg l:Expr} {tl:TE} (hl:PE X l tl):PI X tg l (Ft tl):=by
 intro pins s σ H R I h
 refine thn (hl pins s σ H _ I h) fun v s1 ⟨x,H1,I1,r1,q1⟩=>?_
 obtain ⟨z,e,q⟩:=q1
 subst e
 obtain ⟨t,rfl⟩:=r1
 have fp:∀ b∈[s1.heap.objs.size],dW X pins H1 b:=fun b hb=>by
  have e:b=s1.heap.objs.size:=by simpa using hb
  subst e
  exact I1.fpOk (Nat.le_refl _) (I1.hok.fresh (Nat.le_refl _))
 cases ha:z.cps.all (· < 128)
 ·refine wpAny_pyIter_wide ha ?_
  exact ⟨s1.heap.objs.size,[s1.heap.objs.size],_,_,H1,rfl,I1.kept (t':=s1.toks) fun b o e=>Heap.get?_push_of_some _ e,Bq z t _,⟨_,Heap.get?_push_size _ rfl,rfl,rfl⟩,fp,q⟩
 ·refine wpAny_pyIter_ascii ha ?_
  exact ⟨s1.heap.objs.size,[s1.heap.objs.size],_,_,H1,rfl,I1.kept (t':=s1.toks) fun b o e=>Heap.get?_push_of_some _ e,Ge z t _,⟨_,Heap.get?_push_size _ rfl,rfl,rfl⟩,fp,q⟩
end
end L2
namespace L2
open PySem PySem.Spec PyProof.Rows
section
variable {X:Cx}
theorem Gd {ns:List Int} {its:List Value} (r:Vals (ns.map V.int) its):∀ (i:Nat) (v:Value),its.toArray[i]?=some v->∃ t,v=.int (ns.getD i 0) t:=by
 induction ns generalizing its with
 | nil=>cases r;intro i v h;simp at h
 | cons n ns ih=>
  cases r with
  | cons r1 r2=>
   obtain ⟨t,rfl⟩:=r1
   intro i v h
   cases i with
   | zero=>exact ⟨t,by simpa using h.symm⟩
   | succ i=>
    obtain ⟨t',e⟩:=ih r2 i v (by simpa using h)
    exact ⟨t',by simpa using e⟩
theorem yj {bs:List Bool} {its:List Value} (r:Vals (bs.map V.bl) its):∀ (i:Nat) (v:Value),its.toArray[i]?=some v->v=.bool (bs.getD i false):=by
 induction bs generalizing its with
 | nil=>cases r;intro i v h;simp at h
 | cons n ns ih=>
  cases r with
  | cons r1 r2=>
   cases r1
   intro i v h
   cases i with
   | zero=>simpa using h.symm
   | succ i=>simpa using ih r2 i v (by simpa using h)
theorem tK (ns:List Int):∀ n,n<=ns.length->preSum (fun i=>ns.getD i 0) n=(ns.take n).sum
 | 0,_=>by simp [preSum]
 | n + 1,h=>by
  show preSum _ n + ns.getD n 0=_
  have:ns[n]?=some ns[n]:=List.getElem?_eq_getElem (by omega)
  rw [tK ns n (by omega),List.take_add_one,List.getD_eq_getElem?_getD,this,List.sum_append]
  simp
theorem xF {α:Type} (bs:List α) (d:α) (p:(Nat->Bool)->Prop):(List.range bs.length).map (fun i=>bs.getD i d)=bs:=by
 apply List.ext_getElem?
 intro i
 rw [List.getElem?_map]
 by_cases h:i < bs.length
 ·rw [List.getElem?_range h,List.getElem?_eq_getElem h]
  simp [List.getD_eq_getElem?_getD,List.getElem?_eq_getElem h]
 ·rw [List.getElem?_eq_none (by simpa using h),List.getElem?_eq_none (by simpa using h)]
  rfl
theorem range_all (bs:List Bool):(List.range bs.length).all (fun i=>bs.getD i false)=bs.all id:=by
 have h:=congrArg (fun l=>List.all l id) (xF bs false (fun _=>True))
 simpa [List.all_map] using h
theorem range_any (bs:List Bool):(List.range bs.length).any (fun i=>bs.getD i false)=bs.any id:=by
 have h:=congrArg (fun l=>List.any l id) (xF bs false (fun _=>True))
 simpa [List.any_map] using h
theorem FL (hc:X.calm=true):eW X (.builtin "sum") (fun xs H Q=>∃ (p:Addr) (ns:List Int),xs=[.ref p]/\SqL X.K H p (ns.map V.int)/\Q (.int ns.sum) H):=by
 intro pins s σ H xs us Q I r h
 obtain ⟨p,ns,rfl,hq,q⟩:=h
 obtain ⟨u,rfl,rx⟩:=vals1 r
 cases rx
 obtain ⟨its,rv,pl,hz⟩:=I.list hq
 have hlt:p < s.heap.objs.size:=by obtain ⟨o,e,_⟩:=pl.isList;exact Heap.lt_size e
 have hl:ns.length=its.toArray.size:=by
  have:=rv.length
  rw [List.length_map] at this
  rw [List.size_toArray];exact this
 refine call_sum_walkG (wpAny_pyIter_list pl.isList ?_)
 refine ⟨s.heap.objs.size,[s.heap.objs.size,p],[s.heap.objs.size],_,_,_,fun i=>ns.getD i 0,rfl,Walks.list (A:=X.A.in1) (I.ok.hd hc) _ p (Nat.ne_of_lt hlt) its.toArray,⟨⟨_,Heap.get?_push_size _ rfl,rfl,rfl⟩,pl.isList.push _⟩,?_,Gd rv,fun h' tk t' hk=>?_⟩
 ·intro b hb
  show b < (s.heap.push _).objs.size
  rw [Heap.size_push]
  rcases List.mem_cons.mp hb with h | h
  ·rw [h];exact Nat.lt_succ_self _
  ·rcases List.mem_cons.mp h with h | h
   ·rw [h];exact Nat.lt_succ_of_lt hlt
   ·cases h
 ·rw [<-hl,tK ns _ (Nat.le_refl _),List.take_length]
  exact ⟨.int ns.sum,H,I.kept (old_kept hk),⟨_,rfl⟩,q⟩
theorem GH (hc:X.calm=true):eW X (.builtin "all") (fun xs H Q=>∃ (p:Addr) (bs:List Bool),xs=[.ref p]/\SqL X.K H p (bs.map V.bl)/\Q (.bl (bs.all id)) H):=by
 intro pins s σ H xs us Q I r h
 obtain ⟨p,bs,rfl,hq,q⟩:=h
 obtain ⟨u,rfl,rx⟩:=vals1 r
 cases rx
 obtain ⟨its,rv,pl,hz⟩:=I.list hq
 have hlt:p < s.heap.objs.size:=by obtain ⟨o,e,_⟩:=pl.isList;exact Heap.lt_size e
 have hl:bs.length=its.toArray.size:=by
  have:=rv.length
  rw [List.length_map] at this
  rw [List.size_toArray];exact this
 refine call_all_walk (wpAny_pyIter_list pl.isList ?_)
 refine ⟨s.heap.objs.size,[s.heap.objs.size,p],[s.heap.objs.size],_,_,_,fun i=>bs.getD i false,rfl,Walks.list (A:=X.A.in1) (I.ok.hd hc) _ p (Nat.ne_of_lt hlt) its.toArray,⟨⟨_,Heap.get?_push_size _ rfl,rfl,rfl⟩,pl.isList.push _⟩,?_,fun h' tk hk=>?_⟩
 ·intro i v s Q E hP hQ
  rw [yj rv i v hP]
  exact wpAny_truthy_bool hQ
 ·rw [<-hl,range_all]
  exact ⟨.bl (bs.all id),H,I.kept (old_kept hk),rfl,q⟩
theorem Ij (hc:X.calm=true):eW X (.builtin "any") (fun xs H Q=>∃ (p:Addr) (bs:List Bool),xs=[.ref p]/\SqL X.K H p (bs.map V.bl)/\Q (.bl (bs.any id)) H):=by
 intro pins s σ H xs us Q I r h
 obtain ⟨p,bs,rfl,hq,q⟩:=h
 obtain ⟨u,rfl,rx⟩:=vals1 r
 cases rx
 obtain ⟨its,rv,pl,hz⟩:=I.list hq
 have hlt:p < s.heap.objs.size:=by obtain ⟨o,e,_⟩:=pl.isList;exact Heap.lt_size e
 have hl:bs.length=its.toArray.size:=by
  have:=rv.length
  rw [List.length_map] at this
  rw [List.size_toArray];exact this
 refine call_any_walk (wpAny_pyIter_list pl.isList ?_)
 refine ⟨s.heap.objs.size,[s.heap.objs.size,p],[s.heap.objs.size],_,_,_,fun i=>bs.getD i false,rfl,Walks.list (A:=X.A.in1) (I.ok.hd hc) _ p (Nat.ne_of_lt hlt) its.toArray,⟨⟨_,Heap.get?_push_size _ rfl,rfl,rfl⟩,pl.isList.push _⟩,?_,fun h' tk hk=>?_⟩
 ·intro i v s Q E hP hQ
  rw [yj rv i v hP]
  exact wpAny_truthy_bool hQ
 ·rw [<-hl,range_any]
  exact ⟨.bl (bs.any id),H,I.kept (old_kept hk),rfl,q⟩
theorem GQ:OpR X (binaryOp .Mult) (fun x y H Q=>∃ z k,x=.str z/\y=.int k/\MulOk z k/\Q (.str (Txt.mul z k)) H):=by
 intro pins s σ H x y v u Q I rx ry h
 obtain ⟨z,k,rfl,rfl,ok,q⟩:=h
 obtain ⟨t,rfl⟩:=rx
 obtain ⟨t',rfl⟩:=ry
 exact SB.mul ok fun t2 k2=>⟨.str _,H,I.tok k2,⟨_,rfl⟩,q⟩
def Ir:R2:=fun x y H Q=>∃ l k xs,x=.ref l/\y=.int k/\Rd H l (.lst xs)/\-(2 ^ 63)<=k/\k < 2 ^ 63/\xs.length * k.toNat<=sizeLine /\
 ∀ p,H p=none->Q (.ref p) (upd H p (.lst (List.replicate k.toNat xs).flatten))
theorem Hs:OpR X (binaryOp .Mult) Ir:=by
 intro pins s σ H x y v u Q I rx ry h
 obtain ⟨l,k,xs,rfl,rfl,hH,h1,h2,hz,q⟩:=h
 cases rx
 obtain ⟨t,rfl⟩:=ry
 obtain ⟨its,n,r,e,z⟩:=I.plain hH
 have hl:=r.length
 have hlen:its.toArray.size * k.toNat<=sizeLine:=by rw [List.size_toArray,<-hl];exact hz
 have hcap:¬ its.toArray.size * k.toNat > (2 ^ 63 - 1) / 8:=by
  have:(sizeLine:Nat)<=(2 ^ 63 - 1) / 8:=by decide
  omega
 have hfit:¬ (!Builtin.List.listFitsIndex k)=true:=by
  rw [fitsIndex_both h1 h2]
  exact Bool.false_ne_true
 have hlong:¬ Builtin.List.listTooLong (its.toArray.size * k.toNat)=true:=by
  rw [sT hlen]
  exact Bool.false_ne_true
 have hnew:List.foldl (fun x1 x2=>x1++x2) #[] (List.replicate (if its.toArray.isEmpty=true then 0 else k.toNat) its.toArray)=(List.replicate k.toNat its).flatten.toArray:=by
  have f0:∀ m:Nat,List.foldl (fun x1 x2=>x1++x2) #[] (List.replicate m its.toArray)=(List.replicate m its).flatten.toArray:=fun m=>by
   have:=foldl_rep its m []
   rw [List.nil_append] at this
   exact this
  rw [f0]
  cases its with
  | nil=>simp
  | cons a r'=>rw [if_neg (by simp)]
 refine wpAny_binaryOp_repeat_ref (T:="list") (U:="int") (by decide) ⟨_,e,rfl⟩ (fun s'=>typeIs_int s' k t) noFill_list_mul F.fills_int_mul F.slot_int_rmul repeat_list F.slot_int_index.lookup
  (call_meets F.slot_int_rmul (typeIs_int s k t) F.entry_int_rmul (F.args_int_rmul_2 _ _) (int___rmul___int_list k t l its.toArray n)
   ⟨e,rfl,⟨_,e,rfl⟩,call_meets F.slot_list_mul ⟨_,e,rfl⟩ F.entry_list_mul (F.args_list_mul_2 _ _) (AutoListH.list___mul___list_int_3 l its.toArray n k t hfit hcap hlong) ⟨e,?_⟩⟩)
 rw [hnew]
 exact ⟨.ref _,_,I.lnew (t':=s.toks) (r.rep k.toNat) (by rw [len_rep,Nat.mul_comm];exact hz),rfl,q _ I.fresh⟩
def JQ:V->List V->Hp->VK->Prop:=fun x vs H Q=>∃ l b xs zs,x=.ref l/\vs=[.ref b]/\H l=some (.lst xs)/\Rd H b (.lst zs)/\xs.length + zs.length<=sizeLine/\Q .non (upd H l (.lst (xs++zs)))
theorem Cm:MtM X "list.extend" JQ:=by
 intro pins s σ H x vs v us Q I rx rv h
 obtain ⟨l,b,xs,zs,rfl,rfl,hH,hB,hz,q⟩:=h
 cases rx
 obtain ⟨u,rfl,ru⟩:=rv.one
 cases ru
 obtain ⟨z,its,n,r,hl,e⟩:=I.lstM hH
 obtain ⟨its2,n2,r2,e2,z2⟩:=I.plain hB
 have hl2:=r2.length
 have hsz:its.toArray.size + its2.toArray.size<=sizeLine:=by rw [List.size_toArray,List.size_toArray];omega
 have hlong:¬ (!its.toArray.isEmpty&&Builtin.List.listTooLong (its.toArray.size + its2.toArray.size))=true:=by
  rw [sT hsz,Bool.and_false]
  exact Bool.false_ne_true
 refine call_meets F.slot_list_extend ⟨_,e,rfl⟩ F.entry_list_extend (F.args_list_extend_2 _ _)
  (AutoSeq1.list_extend_list_list_0 l its.toArray n b its2.toArray n2 hlong (by rw [List.size_toArray];omega) (by omega)) ⟨e,e2,?_⟩
 refine ⟨.non,_,I.lset (its':=its++its2) hH e (by simp) (r.append r2) ?_,rfl,q⟩
 rw [List.length_append]
 omega
def jE (kvs:List (Str×Int)):List (Str×KTD.Dat):=kvs.map fun p=>(p.1,KTD.Dat.flat (.int p.2))
def mJ (K:PySem.W.Frag) (a:Addr) (kvs:List (Str×Int)):Prop:=
 KTD.tabLook (KTD.datLooks fun b=>K.lookup b) (fun b=>K.lookup b) a (jE kvs)=true
def tabAt (k:Str):List (Str×Int)->Option Int
 | []=>none
 | (x,n) :: r=>if decide (k=x)=true then some n else tabAt k r
theorem ud (k:Str):∀ kvs:List (Str×Int),KTD.inKeys k (jE kvs)=(tabAt k kvs).isSome
 | []=>rfl
 | (x,n) :: r=>by
  have ih:=ud k r
  show (decide (k=x)||KTD.inKeys k (jE r))=(if decide (k=x)=true then some n else tabAt k r).isSome
  by_cases hx:k=x
  ·rw [if_pos (decide_eq_true hx),decide_eq_true hx];rfl
  ·rw [if_neg (by simp [hx]),decide_eq_false hx,ih];rfl
theorem mJ.here {K:PySem.W.Frag} {a:Addr} {kvs:List (Str×Int)} {s:Shared} (T:mJ K a kvs) (x:K.In s.heap):KTD.Here s.heap s.heap a (jE kvs):=⟨PySem.W.kt_text_in x T,fun _ _ e=>e⟩
theorem yn {h:Heap} {k:Str} {P:Value->Prop} {n:Int}:∀ {kvs:List (Str×Int)},tabAt k kvs=some n->(∀ t,P (.int n t))->KTD.EachL h k P (jE kvs)
 | [],e,_=>by cases e
 | (x,m) :: r,e,hp=>by
  have e:(if decide (k=x)=true then some m else tabAt k r)=some n:=e
  by_cases hx:k=x
  ·rw [if_pos (decide_eq_true hx)] at e
   cases e
   exact KTD.eachL_hit hx (KTD.opened_int hp)
  ·rw [if_neg (by simp [hx])] at e
   exact KTD.eachL_miss hx (yn e hp)
theorem JA:IxR X (fun x y H Q=>∃ k a kvs n,x=.ref a/\y=.str k/\mJ X.K a kvs/\tabAt k kvs=some n/\Q (.int n) H):=by
 intro value slice pins s σ H x y v u Q I rx ry h hs
 obtain ⟨k,a,kvs,n,rfl,rfl,T,e,q⟩:=h
 obtain ⟨t,rfl⟩:=ry
 cases rx
 refine KTD.item_textA (T.here I.kIn) ?_ (by rw [ud,e];rfl) (yn e fun t'=>⟨.int n,H,I.tok _,⟨_,rfl⟩,q⟩) hs
 unfold jE
 rw [List.all_map]
 exact List.all_eq_true.mpr fun _ _=>rfl
theorem Hi:SlR X (fun x lo hi H Q=>∃ z,x=.str z/\z.length<=sizeLine/\Q (.str (Txt.slice z lo hi)) H):=by
 intro pins s σ H x v vl vu lo hi sl Q I rx hs pl pu h
 obtain ⟨z,rfl,hz,q⟩:=h
 obtain ⟨t,rfl⟩:=rx
 obtain ⟨o,h1,h2,h3⟩:=hs
 have fin:∀ t' k,EP X pins σ Q (.str (Txt.slice z lo hi) t') { s with toks:=k }:=fun t' k=>⟨.str _,H,I.tok k,⟨_,rfl⟩,q⟩
 refine ⟨"str",_,F.slot_str_getitem.lookup,typeIs_str _ _ _,?_⟩
 have hl:=Nat.le_trans (Txt.slice_le z lo hi) hz
 cases pl with
 | none=>
  cases pu with
  | none=>exact wpAny_getItem_str_slice (l:=none) (u:=none) (st:=none) ⟨o,h1,h2,h3⟩ rfl (post_val_or_str ⟨hl,fin⟩)
  | int j uj=>exact wpAny_getItem_str_slice (l:=none) (u:=some (j,uj)) (st:=none) ⟨o,h1,h2,h3⟩ rfl (post_val_or_str ⟨hl,fin⟩)
 | int i ui=>
  cases pu with
  | none=>exact wpAny_getItem_str_slice (l:=some (i,ui)) (u:=none) (st:=none) ⟨o,h1,h2,h3⟩ rfl (post_val_or_str ⟨hl,fin⟩)
  | int j uj=>exact wpAny_getItem_str_slice (l:=some (i,ui)) (u:=some (j,uj)) (st:=none) ⟨o,h1,h2,h3⟩ rfl (post_val_or_str ⟨hl,fin⟩)
end
end L2
namespace PySem
open AutoSeq1 (wpAny_loadPart')
set_option maxRecDepth 100000
def kwS (t:Tok):List (Str×Value):=[(Str.ofString "start",.int 1 t)]
set_option maxHeartbeats 4000000 in
theorem Io (l:Addr) (items:Array Value) (n:Nat) (t:Tok) :
  Meets (Builtin.«enumerate.__new__» ⟨[.type "enumerate",.ref l],kwS t⟩) (fun _ R s=>s.heap.get? l=some { cls:=.type "list",dict:=none,data:=.seq items n,slots:=#[] } /\
   R (.ok (.ret (.ref (s.heap.push { cls:=.type "list_iterator",data:=.fields #[.ref l,.int 0 0] }).objs.size)))
    { s with heap:=(s.heap.push { cls:=.type "list_iterator",data:=.fields #[.ref l,.int 0 0] }).push { cls:=.type "enumerate",data:=.fields #[.none,.bool false,.ref s.heap.objs.size,rawInt 1,.none,.none] } }):=
 .of_wp fun prog w A R s h=>by
  obtain ⟨hp,g,d,tk,os⟩:=s;obtain ⟨hl,h⟩:=h
  have hsub:=sub_enumerate
  have hL:Heap.IsList (Shared.heap ⟨hp,g,d,tk,os⟩) l items:=⟨_,hl,rfl,n,rfl⟩
  unfold kwS
  wp_walk using wpAny_loadPart' hl
  refine wpAny_stack_any fun st=>wpAny_pure ?_
  split
  ·rename_i c _ _ _ _ _
   cases (c == Value.type "enumerate")
   ·wp_walk using wpAny_loadPart' hl,wpAny_pyIter_list hL
    exact ⟨_,rfl,h⟩
   ·wp_walk using wpAny_loadPart' hl,wpAny_pyIter_list hL
    exact ⟨_,rfl,h⟩
  ·wp_walk using wpAny_loadPart' hl,wpAny_pyIter_list hL
   exact ⟨_,rfl,h⟩
section
variable {prog:Program} {w:World} {A:Around} {E:Value->Shared->Prop} {s:Shared}
theorem Au {T nw ini:String} {Bn Bi:Builtin} {as:List Value} {ks:List (Str×Value)} {S:Spec} {Q Q₁:Value->Shared->Prop} (tc:TypeCalled T nw ini) (c1:checkTypeCall T ⟨as,ks⟩=pure ())
  (c2:checkBuiltinCall nw ⟨.type T :: as,ks⟩=pure ()) (n1:entryFor table nw=some Bn) (n2:entryFor table ini=some Bi) (mt:Meets (Bn ⟨.type T :: as,ks⟩) S) (hS:S A.in1 (wants Q₁ E) s)
  (nx:∀ y z,Q₁ y z->z.TypeIs y T/\argsOk ini ⟨y :: as,ks⟩/\∃ Si,Meets (Bi ⟨y :: as,ks⟩) Si/\Si A.in1 (wants (fun r z'=>r=.none/\Q y z') E) z):wpAny (model prog w) A (call (.type T) as ks) Q E s:=by
 obtain ⟨cc,cr,m1⟩:=tc.mro
 have m2:=tc.made;have m3:=tc.sub;have m4:=tc.notType;have m5:=tc.canCreate
 refine wpAny_call (codeAny_of_tree ?_);show wpAny _ _ (callAny (.type T) _) _ _ _
 refine wpAny_pure ⟨Code.quiet_builtin _ (by decide +kernel),codeAny_builtin F.entry_type_call ?_⟩;rw [Around.under_plain (weight_type_call_type T as ks) (units_type_call_type T as ks)]
 repeat any_goals first | assumption | wp_step
 refine codeAny_mono (codeAny_call_builtin tc.plain n1 (wpAny_of_eq c2 (mt prog w A.in1 _ s hS))) fun rr z hz=>?_
 cases rr with
 | ok ff=>
  cases ff with
  | ret y=>
   obtain ⟨y1,y2,Si,y3,y4⟩:=nx _ _ hz
   have m6:=tc.init.lookup;have m7:=tc.init.bind y
   repeat any_goals first | assumption | wp_step
   refine codeAny_mono (codeAny_call_builtin tc.init.plain n2 (tc.init.check _ _ _ _ _ _ _ _ y1 y2 (y3 prog w A.in1 _ z y4))) fun r2 z2 hz2=>?_
   cases r2 with
   | ok f2=>
    cases f2 with
    | ret v=>
     obtain ⟨rfl,hq⟩:=hz2
     repeat any_goals first | assumption | wp_step
    | _=>exact False.elim hz2
   | error ee=>exact hz2
  | _=>exact False.elim hz
 | error ee=>exact hz
theorem initK {T nw:String} {y a:Value} {ks:List (Str×Value)} (l1:typeLookup (.type T) "__init__"=pure (some (.builtin "object.__init__"))) (l2:Bind.madeBy (.type T)=pure (some nw)) (l3:(some nw != some "object.__new__")=true) :
  Meets (Builtin.«object.__init__» ⟨[y,a],ks⟩) (fun _ R s=>s.TypeIs y T/\R (.ok (.ret .none)) s):=by
 refine .of_wp fun prog w A R s hs=>?_
 obtain ⟨s1,s2⟩:=hs
 repeat any_goals first | assumption | wp_step
 exact ⟨_,rfl,s2⟩
theorem Ab (a:Value) (t:Tok):checkTypeCall "enumerate" ⟨[a],kwS t⟩=pure ():=by kernel_rfl
theorem Dw (a:Value) (t:Tok):checkBuiltinCall "enumerate.__new__" ⟨[.type "enumerate",a],kwS t⟩=pure ():=by kernel_rfl
theorem GA (obj a:Value) (t:Tok):argsOk "object.__init__" ⟨[obj,a],kwS t⟩:=by unfold argsOk;kernel_rfl
theorem Ds {l:Addr} {its:Array Value} {n:Nat} {t:Tok} {Q:Value->Shared->Prop} (hl:s.heap.get? l=some { cls:=.type "list",dict:=none,data:=.seq its n,slots:=#[] })
  (q:∀ h',IsEnum h' (s.heap.objs.size + 1) s.heap.objs.size 1 .none->h'.IsListIter s.heap.objs.size l 0->h'.objs.size=s.heap.objs.size + 2->(∀ b o,s.heap.get? b=some o->h'.get? b=some o)->Q (.ref (s.heap.objs.size + 1)) { s with heap:=h' }) :
  wpAny (model prog w) A (call (.type "enumerate") [.ref l] (kwS t)) Q E s:=by
 refine Au F.called_enumerate (Ab _ t) (Dw _ t) F.entry_enumerate_new F.entry_object_init (Io l its n t) (Q₁:=fun y z=>z.TypeIs y "enumerate"/\Q y z) ⟨hl,?_⟩ fun y z hz=>
  ⟨hz.1,GA y _ t,_,initK F.called_enumerate.init.lookup F.called_enumerate.made (by decide),hz.1,rfl,hz.2⟩
 have z1:(s.heap.push { cls:=.type "list_iterator",data:=.fields #[.ref l,.int 0 0] }).objs.size=s.heap.objs.size + 1:=Heap.size_push ..
 have z2:=Heap.get?_push_size (s.heap.push { cls:=.type "list_iterator",data:=.fields #[.ref l,.int 0 0] }) (o:={ cls:=.type "enumerate",data:=.fields #[.none,.bool false,.ref s.heap.objs.size,rawInt 1,.none,.none] }) rfl
 show _/\_
 rw [z1] at z2 ⊢
 exact ⟨⟨_,z2,rfl⟩,q _ z2 ⟨_,Heap.get?_push_of_some _ (Heap.get?_push_size _ rfl),rfl,rfl⟩ (by rw [Heap.size_push,z1]) fun b o x=>Heap.get?_push_of_some _ (Heap.get?_push_of_some _ x)⟩
theorem GG {e it l:Addr} {i:Nat} {j:Int} {its:Array Value} {x old:Value} {Q:Value->Shared->Prop} (h1:IsEnum s.heap e it j old) (h2:s.heap.IsListIter it l i) (h3:s.heap.IsList l its) (h4:its[i]?=some x) (h5:e≠it)
  (q:∀ h',IsEnumOut h' e it (j + 1) x s.heap.objs.size->h'.IsListIter it l (i + 1)->h'.get? s.heap.objs.size=some { cls:=.type "tuple",data:=.seq #[.int j s.toks,x] }->h'.objs.size=s.heap.objs.size + 1->
   (∀ b o,b≠e->b≠it->s.heap.get? b=some o->h'.get? b=some o)->Q (.ref s.heap.objs.size) { s with heap:=h',toks:=s.toks + 1 }) :
  wpAny (model prog w) A (Builtin.«enumerate.__next__» ⟨[.ref e],[]⟩) (fun fin s'=>∃ v,fin=.done (.ret v)/\Q v s') E s:=by
 obtain ⟨H,gs,dr,tk,os⟩:=s
 show wpAny _ _ (field (.ref e) 2 >>= _) _ _ _
 refine wpAny_bind (wpAny_field h1 rfl (x:=.ref it) rfl (wpAny_bind (wpAny_nextOf_list_item h2 h3 h4 fun Ha ia sa=>?_)))
 replace sa:Heap.SameBut it H Ha:=sa
 have ea:IsEnum Ha e it j old:=(sa.2 e h5).trans h1
 show wpAny _ _ (field (.ref e) 3 >>= _) _ _ ⟨Ha,gs,dr,tk,os⟩
 refine wpAny_bind (wpAny_field ea rfl (x:=rawInt j) rfl ?_)
 show wpAny _ _ (field (.ref e) 4 >>= _) _ _ ⟨Ha,gs,dr,tk,os⟩
 refine wpAny_bind (wpAny_field ea rfl (x:=.none) rfl ?_)
 show wpAny _ _ (mkInt j >>= _) _ _ ⟨Ha,gs,dr,tk,os⟩
 refine wpAny_bind (wpAny_mkInt ?_)
 show wpAny _ _ (setField (.ref e) 3 (rawInt (j + 1)) >>= _) _ _ ⟨Ha,gs,dr,tk + 1,os⟩
 refine wpAny_bind (wpAny_setField_rec ea (by simp) fun Hb eb sb=>?_)
 replace sb:Heap.SameBut e Ha Hb:=sb
 replace eb:IsEnum Hb e it (j + 1) old:=eb
 show wpAny _ _ (setField (.ref e) 4 .none >>= _) _ _ ⟨Hb,gs,dr,tk + 1,os⟩
 refine wpAny_bind (wpAny_setField_rec eb (by simp) fun Hc ec sc=>?_)
 replace sc:Heap.SameBut e Hb Hc:=sc
 replace ec:IsEnum Hc e it (j + 1) old:=ec
 show wpAny _ _ (newTuple [.int j tk,x] >>= _) _ _ ⟨Hc,gs,dr,tk + 1,os⟩
 refine wpAny_bind (wpAny_newTuple ?_)
 have ed:IsEnum (Hc.push { cls:=.type "tuple",data:=.seq #[.int j tk,x] }) e it (j + 1) old:=Heap.get?_push_of_some _ ec
 generalize hD:Hc.push { cls:=.type "tuple",data:=.seq #[.int j tk,x] }=Hd at ed
 have sz:Hc.objs.size=H.objs.size:=by rw [sc.1,sb.1,sa.1]
 have elt:e < H.objs.size:=Heap.lt_size h1
 have td:Hd.get? H.objs.size=some { cls:=.type "tuple",data:=.seq #[.int j tk,x] }:=by rw [<-hD,<-sz];exact Heap.get?_push_size _ rfl
 have zd:Hd.objs.size=H.objs.size + 1:=by rw [<-hD,Heap.size_push,sz]
 have kd:∀ b o,b≠e->b≠it->H.get? b=some o->Hd.get? b=some o:=fun b o n1 n2 y=>by
  rw [<-hD];exact Heap.get?_push_of_some _ (sc.extBut b o n1 (sb.extBut b o n1 (sa.extBut b o n2 y)))
 have id':Hd.IsListIter it l (i + 1):=by
  rw [<-hD];obtain ⟨o,y,r⟩:=(ia.extBut sb.extBut (Ne.symm h5)).extBut sc.extBut (Ne.symm h5);exact ⟨o,Heap.get?_push_of_some _ y,r⟩
 show wpAny _ _ (Builtin.SmallTypes.ownedTupleIsFree (.ref e) >>= _) _ _ ⟨Hd,gs,dr,tk + 1,os⟩
 rw [sz]
 clear hD ec sc eb sb ea sa ia sz Hc Hb Ha
 refine wpAny_bind ?_
 unfold Builtin.SmallTypes.ownedTupleIsFree
 refine wpAny_bind (wpAny_field ed rfl (x:=.none) rfl (wpAny_pure ?_))
 simp only [if_true]
 refine wpAny_bind (wpAny_rule (wpAny_bind (wpAny_field ed rfl (x:=old) rfl (wpAny_bind (wpAny_setField_rec ed (by simp) fun He ee se=>?_)))))
 replace se:Heap.SameBut e Hd He:=se
 replace ee:IsEnum He e it (j + 1) x:=ee
 show wpAny _ _ (Builtin.SmallTypes.ownedTupleHandOut (.ref e) (.ref H.objs.size) >>= _) _ _ ⟨He,gs,dr,tk + 1,os⟩
 refine wpAny_bind ?_
 unfold Builtin.SmallTypes.ownedTupleHandOut
 refine wpAny_bind (wpAny_setField_rec ee (by simp) fun Hf ef sf=>?_)
 replace sf:Heap.SameBut e He Hf:=sf
 replace ef:IsEnumOut Hf e it (j + 1) x H.objs.size:=ef
 refine wpAny_setField_rec ef (by simp) fun Hg eg sg=>?_
 replace sg:Heap.SameBut e Hf Hg:=sg
 replace eg:IsEnumOut Hg e it (j + 1) x H.objs.size:=eg
 have all:∀ b o,b≠e->Hd.get? b=some o->Hg.get? b=some o:=fun b o n1 y=>sg.extBut b o n1 (sf.extBut b o n1 (se.extBut b o n1 y))
 refine wpAny_bind (wpAny_letGo (wpAny_pure ⟨_,rfl,q Hg eg ?_ (all _ _ (Nat.ne_of_gt elt) td) (by rw [sg.1,sf.1,se.1,zd]) fun b o n1 n2 y=>all b o n1 (kd b o n1 n2 y)⟩))
 obtain ⟨o,y,r⟩:=id'
 exact ⟨o,all _ _ (Ne.symm h5) y,r⟩
theorem ze {e it l:Addr} {i:Nat} {j:Int} {its:Array Value} {x old:Value} {Q:Option Value->Shared->Prop} (h1:IsEnum s.heap e it j old) (h2:s.heap.IsListIter it l i) (h3:s.heap.IsList l its) (h4:its[i]?=some x) (h5:e≠it)
  (q:∀ h',IsEnumOut h' e it (j + 1) x s.heap.objs.size->h'.IsListIter it l (i + 1)->h'.get? s.heap.objs.size=some { cls:=.type "tuple",data:=.seq #[.int j s.toks,x] }->h'.objs.size=s.heap.objs.size + 1->
   (∀ b o,b≠e->b≠it->s.heap.get? b=some o->h'.get? b=some o)->Q (some (.ref s.heap.objs.size)) { s with heap:=h',toks:=s.toks + 1 }):wpAny (model prog w) A (pyNext (.ref e)) Q E s:=by
 have ty:s.TypeIs (.ref e) "enumerate":=⟨_,h1,rfl⟩
 unfold pyNext
 refine wpAny_bind (wpAny_attempt (wpAny_callSpecial?_slot (name:=Str.ofString "__next__") ty F.slot_enumerate_next (wpAny_call_entry F.slot_enumerate_next ty F.entry_enumerate_next ?_ (F.args_enumerate_next_1 _))))
 exact GG h1 h2 h3 h4 h5 fun h' a b c d k=>wpAny_pure (q h' a b c d k)
theorem tP {e it l:Addr} {i:Nat} {j:Int} {its:Array Value} {old:Value} {Q:Option Value->Shared->Prop} (hh:A.handled=none) (h1:IsEnum s.heap e it j old) (h2:s.heap.IsListIter it l i) (h3:s.heap.IsList l its) (h4:its[i]?=none)
  (q:∀ h',Heap.ExtBut it s.heap h'->Q none { s with heap:=h' }):wpAny (model prog w) A (pyNext (.ref e)) Q E s:=by
 have ty:s.TypeIs (.ref e) "enumerate":=⟨_,h1,rfl⟩
 unfold pyNext
 refine wpAny_bind (wpAny_attempt (wpAny_callSpecial?_slot (name:=Str.ofString "__next__") ty F.slot_enumerate_next (wpAny_call_entry F.slot_enumerate_next ty F.entry_enumerate_next ?_ (F.args_enumerate_next_1 _))))
 show wpAny _ _ (field (.ref e) 2 >>= _) _ _ _
 refine wpAny_bind (wpAny_field h1 rfl (x:=.ref it) rfl (wpAny_bind (wpAny_nextOf_list_end (A:=A.in1) hh h2 h3 h4 fun h' x eb xs=>?_)))
 obtain ⟨o,o1,o2⟩:=xs
 exact wpAny_bind (wpAny_isInstance (T:="StopIteration") (b:=true) ⟨o,o1,o2⟩ isSubtype_stop (wpAny_pure (q _ eb)))
end
end PySem
namespace L2
open PySem PySem.Spec PyProof.Rows
section
variable {X:Cx} {pins:List (Addr×Obj)} {σ:List (Option V)} {H:Hp} {s:Shared} {h':Heap}
theorem Inv.turnedT {e it p:Addr} {xs:List V} {t':Nat} (I:Inv X pins σ H s) (k:∀ b o,b≠e->b≠it->s.heap.get? b=some o->h'.get? b=some o) (fe:dW X pins H e) (fi:dW X pins H it) (hp:s.heap.objs.size<=p)
  (new:cb X.prog X.w (upd H p (.tup xs)) h' p (.tup xs)):Inv X pins σ (upd H p (.tup xs)) { s with heap:=h',toks:=t' }:=by
 have hn:=I.hok.fresh hp
 have ne1:∀ b u,H b=some u->b≠e:=fun b u q z=>by rw [z,fe.1] at q;cases q
 have ne2:∀ b u,H b=some u->b≠it:=fun b u q z=>by rw [z,fi.1] at q;cases q
 have ch:∀ b,b∉[e,it]->b≠e/\b≠it:=fun b hb=>⟨fun z=>hb (by simp [z]),fun z=>hb (by simp [z])⟩
 refine I.step (g':=s.gens) (d':=s.drawn) (ch:=[e,it]) (fun b hb=>?_) (fun b o _ _ hc q _=>k b o (ch b hc).1 (ch b hc).2 q) (fun b o _ _ hc q _=>⟨o.slots,k b o (ch b hc).1 (ch b hc).2 q⟩)
  (fun b o _ q n=>by rw [aA (Nat.ne_of_lt (Nat.lt_of_lt_of_le (Heap.lt_size q) hp))];exact n) (fun b o hc q=>⟨o,k b o (ch b hc).1 (ch b hc).2 q⟩) (fun b ys q=>by rw [aA (cH q hn)];exact q)
  (fun b o u q=>by rw [aA (cH q hn)];exact q) (fun b ps q=>⟨#[],by rw [aA (cH q hn),q];simp⟩) (fun m hm=>?_) (fun b u q=>?_) I.bare
 ·have z:b=e\/b=it:=by simpa using hb
  rcases z with z | z
  ·subst z;exact ⟨fe.2.2.2.1,fe.2.1,fe.2.2.2.2.1,fe.2.2.2.2.2⟩
  ·subst z;exact ⟨fi.2.2.2.1,fi.2.1,fi.2.2.2.2.1,fi.2.2.2.2.2⟩
 ·obtain ⟨o,es,ep,ho,r⟩:=hm
  exact ⟨o,es,ep,k _ o (Ne.symm fe.2.1) (Ne.symm fi.2.1) ho,r⟩
 ·by_cases hb:b=p
  ·subst hb;rw [bw] at q;cases q;exact new
  ·rw [aA hb] at q
   refine (I.hok b u q).stay (fun c v hc q'=>k c v ?_ ?_ q') (fun c q'=>by rw [aA (cH q' hn)];exact q') fun c ys q'=>by rw [aA (cH q' hn)];exact q'
   ·rcases hc with z | z
    ·rw [z];exact ne1 b u q
    ·exact ne1 c _ z
   ·rcases hc with z | z
    ·rw [z];exact ne2 b u q
    ·exact ne2 c _ z
theorem Inv.turned1 {it:Addr} {t':Nat} (I:Inv X pins σ H s) (k:∀ b o,b≠it->s.heap.get? b=some o->h'.get? b=some o) (f:dW X pins H it):Inv X pins σ H { s with heap:=h',toks:=t' }:=
 I.turned k f.1 f.2.1 f.2.2.2.1 f.2.2.2.2.1 f.2.2.2.2.2
def Itn (K:PySem.W.Frag) (a:Addr):It:=
 ⟨fun i H=>∃ xs x,SqL K H a xs/\xs[i]?=some x,fun i H v H'=>∃ p x,H p=none/\v=.ref p/\H'=upd H p (.tup [.int (1 + (i:Int)),x])/\∀ xs,SqL K H a xs->xs[i]?=some x,fun i H=>∃ xs,SqL K H a xs/\xs.length<=i⟩
theorem Hj {P:Program} {w:World} {K:PySem.W.Frag} {elts:List Expr} {kk:Nat} {pos:Pos} (a it e:Addr) (hne:e≠it):Turn P w K (.Tuple elts kk pos) (Itn K a) [e,it] e (fun i h=>(∃ old,IsEnum h e it (1 + (i:Int)) old)/\h.IsListIter it a i) where
 mem:=by simp
 obj:=fun i h st b hb=>by
  obtain ⟨⟨old,h1⟩,o,h2,h3,h4⟩:=st
  have z:b=e\/b=it:=by simpa using hb
  rcases z with z | z
  ·subst z
   exact ⟨_,h1,fun v q=>by
    have q':Data.fields _=Data.cell v:=q
    cases q'⟩
  ·subst z;exact ⟨o,h2,fun v q=>by rw [h4] at q;cases q⟩
 keep:=fun i h h' st k=>⟨st.1.imp fun old q=>k e (by simp) _ q,st.2.at fun o q=>k it (by simp) o q⟩
 item:=by
  intro X hP hw hK hc i pins s σ H E I hf st hg
  subst hP hw hK
  obtain ⟨xs,x,hq,hx⟩:=hg
  obtain ⟨its,rv,p,hz⟩:=I.list hq
  obtain ⟨u,hu,ru⟩:=rv.get hx
  have fe:=hf e (by simp)
  have fi:=hf it (by simp)
  obtain ⟨⟨old,h1⟩,h2⟩:=st
  have elt:e < s.heap.objs.size:=Heap.lt_size h1
  refine ze h1 h2 p.isList (x:=u) (by simpa using hu) hne fun h' ho hit ht hsz hk=>?_
  refine ⟨_,rfl,wpAny_letOwnedTupleGo_enum ho fun hq2 he2 sb2=>?_⟩
  replace sb2:Heap.SameBut e h' hq2:=sb2
  have hfr:=I.hok.fresh (Nat.le_refl s.heap.objs.size)
  refine ⟨.ref s.heap.objs.size,_,I.turnedT (xs:=[.int (1 + (i:Int)),x]) (fun b o n1 n2 q=>(sb2.2 b n1).trans (hk b o n1 n2 q)) fe fi (Nat.le_refl _) ?_,rfl,⟨_,x,hfr,rfl,rfl,fun ys hy=>by rw [I.list_inj hy hq];exact hx⟩,
   ⟨⟨u,?_⟩,hit.at fun o q=>(sb2.2 it (Ne.symm hne)).trans q⟩,fun b hb=>?_⟩
  ·refine ⟨by show 2<=sizeLine;decide,[.int (1 + (i:Int)) s.toks,u],.cons ⟨_,rfl⟩ (.cons ru .nil),?_⟩
   exact ⟨_,(sb2.2 _ (Nat.ne_of_gt elt)).trans ht,rfl,_,rfl⟩
  ·have e1:(1 + ((i + 1:Nat):Int))=1 + (i:Int) + 1:=by omega
   rw [e1];exact he2
  ·have z:b=e\/b=it:=by simpa using hb
   have hne':b≠s.heap.objs.size:=by
    rcases z with z | z
    ·rw [z];exact Nat.ne_of_lt elt
    ·rw [z];obtain ⟨o,q,_⟩:=h2;exact Nat.ne_of_lt (Heap.lt_size q)
   rw [aA hne']
   exact (hf b hb).1
 done:=by
  intro X hP hw hK hc i pins s σ H E I hf st hg
  subst hP hw hK
  obtain ⟨xs,hq,hx⟩:=hg
  obtain ⟨its,rv,p,hz⟩:=I.list hq
  have hl:=rv.length
  obtain ⟨⟨old,h1⟩,h2⟩:=st
  exact tP (I.ok.hd hc) h1 h2 p.isList (by simp;omega) fun h' eb=>⟨rfl,I.turned1 (t':=s.toks) (fun b o hb q=>eb b o hb q) (hf it (by simp))⟩
 self:=fun _ _ _ _ _ st h=>by
  obtain ⟨⟨old,h1⟩,h2⟩:=st
  exact wpAny_pyIter_enum h1 h
end
section
variable {X:Cx}
def JP (K:PySem.W.Frag) (tl:TE):TI:=fun σ H R=>tl σ H fun x H1=>∃ a xs,x=.ref a/\Rd H1 a (.lst xs)/\R (Itn K a) H1
theorem boot_enumerate:bootBuiltins "enumerate"=some (.type "enumerate"):=by decide +kernel
theorem Gr {elts:List Expr} {kk:Nat} {tpos kpos p pos:Pos} {l:Expr} {tl:TE} {j:_} {ip:Pos} (hl:PE X l tl) (hg:Gl X "enumerate") (hm:X.mg "enumerate"=none) (hs:starEach [l] X.env=[(false,eval l X.env)]) :
  PI X (.Tuple elts kk tpos) (.Call (.Name "enumerate" p) [l] [⟨some "start",.Constant (.int 1) j ip,kpos⟩] pos) (JP X.K tl):=by
 intro pins s σ H R I h
 refine wpAny_Call_Name_kw (gM I hg hm boot_enumerate ?_)
 refine PySem.W.callWith_of (P:=fun _=>True) (by rw [hs];rfl) (fun h _=>?_) (evalArgs_kw2 rfl ?_ (by rw [hs];rfl))
 ·exact ⟨.machine,.inr (.inl rfl),fun A Q E s _ q=>wpAny_pure q⟩
 ·refine args_cons ?_ (by rw [hs];rfl)
  refine thn (hl pins s σ H _ I h) fun v s1 ⟨x,H1,I1,r1,q1⟩=>args_nil (kws_cons ?_)
  refine thn (tG (i:=1) pins s1 σ H1 (fun y H2=>y=.int 1/\H2=H1) I1 ⟨rfl,rfl⟩) fun kv s2 ⟨y,H2,I2,r2,q2⟩=>kws_nil ?_
  obtain ⟨rfl,rfl⟩:=q2
  obtain ⟨t,rfl⟩:=r2
  obtain ⟨a,xs,e,hq,q⟩:=q1
  subst e
  cases r1
  obtain ⟨its,n,rv,ho,hz⟩:=I2.plain hq
  refine ⟨trivial,Ds (t:=t) ho fun h' he hit hsz hk=>wpAny_pyIter_enum he ?_⟩
  have I3:Inv X pins σ H2 { s2 with heap:=h' }:=I2.kept (t':=s2.toks) hk
  refine ⟨s2.heap.objs.size + 1,[s2.heap.objs.size + 1,s2.heap.objs.size],_,_,H2,rfl,I3,Hj a s2.heap.objs.size (s2.heap.objs.size + 1) (Nat.succ_ne_self _),⟨⟨.none,he⟩,hit⟩,fun b hb=>?_,q⟩
  have z:b=s2.heap.objs.size + 1\/b=s2.heap.objs.size:=by simpa using hb
  have hb':s2.heap.objs.size<=b:=by rcases z with z | z <;> rw [z] <;> omega
  exact I2.fpOk hb' (I2.hok.fresh hb')
end
end L2
namespace DL
open PySem PySem.Spec PyProof.Rows L2
def bz (body:DM Fl) (n:Nat) (ds:List D):Ro:=match body (ds.map .sh++List.replicate (n - ds.length) .no) with
 | .ok (.rt d) _=>.ok d
 | .ok (.rto es) _=>.own es
 | .ok .nx _=>.ok .non
 | _=>.un
section
variable {P:Program} {w:World} {K:PySem.W.Frag} {mg:Str->Option Value} {base:Heap} {H:Hp} {Ω:Om}
theorem az.start {N:List Str} {ds:List D} {vs:List V} (hr:ax K H Ω ds vs) (ht:Trk H Ω):az K H Ω (L2.start N vs) (ds.map .sh++List.replicate (N.length - ds.length) .no):=by
 have hl:=hr.length
 refine ⟨by unfold L2.start;rw [List.length_append,List.length_append,List.length_map,List.length_map,List.length_replicate,List.length_replicate,hl],fun i s h=>?_,ht⟩
 by_cases hi:i < ds.length
 ·rw [List.getElem?_append_left (by rw [List.length_map];exact hi),List.getElem?_map] at h
  obtain ⟨d,hd⟩:∃ d,ds[i]?=some d:=⟨ds[i],List.getElem?_eq_getElem hi⟩
  rw [hd] at h
  cases h
  obtain ⟨v,hv,r⟩:=hr.get hd
  refine ⟨v,?_,r⟩
  unfold L2.start
  rw [List.getElem?_append_left (by rw [List.length_map,<-hl];exact hi),List.getElem?_map,hv]
  rfl
 ·rw [List.getElem?_append_right (by rw [List.length_map];omega),List.getElem?_replicate] at h
  split at h
  ·cases h;trivial
  ·cases h
theorem fnP {ce:Str->Value} {x qual:Str} {st:Stmt} {f:Addr} {fd:FuncData} {N ps:List Str} {k:Nat} {body:DM Fl} (F:Fun K x qual st f fd) (S:bj N ps (aW st))
  (hb:∀ (cdv:Value) (A:Around) (outer:List Env) (s:Shared) (H:Hp) (E:XK),bG k (A.deeper (envOfC qual (aW st) s.heap.objs.size f cdv))->
   fw (gY CX0 P w K mg base N qual (aW st) f cdv A outer s H E).nox EN [] (gr st) body):aR P w K mg base CX0 (k + 1) f fd ps (spP K ce ps.length (bz body N.length)):=by
 refine F.ok S (fun vs H Q E h=>h.1) (fun cdv A outer s H vs Q E hr h=>?_)
 obtain ⟨ts,p,d⟩:=hb cdv A outer s H E hr
 refine ⟨ts,p,?_⟩
 obtain ⟨hl,Ω,ds,ht,h0,hr,hq⟩:=h
 refine d (L2.start N vs) H _ Ω (az.start hr ht) _ ?_
 unfold bz at hq
 cases e:body (ds.map .sh++List.replicate (N.length - ds.length) .no) with
 | un=>rw [e] at hq;exact hq
 | er c=>rw [e] at hq;exact hq.elim
 | ok fl δ'=>
  rw [e] at hq
  cases fl with
  | nx=>exact fun H' Ω' ex σ' R' _=>hq H' Ω' ex R'.trk .non rfl
  | bk=>exact hq.elim
  | ct=>exact hq.elim
  | rt d=>exact fun H' Ω' ex σ' R' _ v r=>hq H' Ω' ex R'.trk v r
  | rto es=>exact fun H' Ω' ex σ' R' _ v r=>hq H' Ω' ex R'.trk v r
end
section
variable {X:Cx} {E:Str->Hp->Prop} {pos:Pos} {a b c e:Expr} {f g:DM DV} {mp:List Nat}
theorem ag (i:Nat) {x:Str} (hN:X.N[i]?=some x:=by rfl) (hv:Vis X.env.scope x:=by first | exact Or.inl rfl | exact Or.inr (Or.inl rfl) | exact Or.inr (Or.inr rfl)) (hd:(x == ("__debug__":Str))=false:=by decide)
  (hcd:(x == ("__classdict__":Str))=false:=by decide):PED X E (.Name x pos) (ae i):=⟨_,pv i hN hv hd hcd,Cq⟩
theorem au {i j}:PED X E (.Constant (.int i) j pos) (fC (.int i)):=⟨_,tG,mz fun _ _=>rfl⟩
theorem dC {i j}:PED X E (.Constant (.bool i) j pos) (fC (.bl i)):=⟨_,AV,mz fun _ _=>rfl⟩
theorem pE {j}:PED X E (.Constant .none j pos) (fC .non):=⟨_,E5,mz fun _ _=>rfl⟩
theorem aM {x j}:PED X E (.Constant (.str x) j pos) (fC (.str x)):=⟨_,JF,mz fun _ _=>rfl⟩
def jH (K:PySem.W.Frag) (mg:Str->Option Value) (x:Str) (d:D):Prop:=∃ u v,mg x=some u/\RelV v u/\∀ H Ω,Rep K H Ω d v
theorem iH {x:Str} {d:D} (hm:jH X.K X.mg x d) (hg:Gl X x:=by rfl) (hd:(x == ("__debug__":Str))=false:=by decide):PED X E (.Name x pos) (fC d):=by
 obtain ⟨u,v,h1,h2,h3⟩:=hm
 exact ⟨_,r9 hg h1 h2 hd,mz h3⟩
def kX (i j:Int):Bool:=(decide (-18446744073709551616 < i)&&decide (i < 18446744073709551616))||(decide (-18446744073709551616 < j)&&decide (j < 18446744073709551616))
theorem C4 {i j:Int} (h:kX i j=true):mK i j:=by
 unfold kX at h
 unfold mK
 simpa using h
def cdiv (j:Int):Bool:=decide (0 < j)&&decide (j < 1073741824)
def aV:D->D->Option DV
 | .int i,.int j=>some (.val (.int (i + j)))
 | .str x,.str y=>if x.length + y.length<=sizeLine then some (.val (.str (x++y))) else none
 | .lst xs,.lst ys=>if xs.length + ys.length<=sizeLine then some (.own (xs++ys)) else none
 | _,_=>none
def eC:D->D->Option DV
 | .int i,.int j=>some (.val (.int (i - j)))
 | _,_=>none
def f9 (n:Nat) (k:Int):Bool:=decide (-(2 ^ 62)<=k)&&decide (k < 2 ^ 62)&&decide (n * k.toNat<=sizeLine)
theorem JR {z:Str} {k:Int} (h:f9 z.length k=true):MulOk z k:=by
 unfold f9 at h
 simp only [Bool.and_eq_true,decide_eq_true_eq] at h
 obtain ⟨⟨h1,h2⟩,h3⟩:=h
 refine ⟨?_,?_,?_⟩
 ·rw [decide_eq_false (by omega),decide_eq_false (by omega)];rfl
 ·intro hk _
  have hs:sizeLine<=2 ^ 62:=by decide
  have h4:(z.length:Int) * k<=2 ^ 63 - 1:=by
   have e:((z.length * k.toNat:Nat):Int)=(z.length:Int) * k:=by
    rw [Int.natCast_mul,Int.toNat_of_nonneg (by omega)]
   omega
  have:(z.length:Int)<=(2 ^ 63 - 1) / k:=Int.le_ediv_of_mul_le (by omega) h4
  omega
 ·intro _ _
  (show Builtin.Str.tooLong _=false);unfold Builtin.Str.tooLong;exact decide_eq_false (by omega)
def bA:D->D->Option DV
 | .int i,.int j=>if kX i j then some (.val (.int (i * j))) else none
 | .str z,.int k=>if f9 z.length k then some (.val (.str (Txt.mul z k))) else none
 | .lst ds,.int k=>if f9 ds.length k then some (.own (List.replicate k.toNat ds).flatten) else none
 | _,_=>none
def cZ:D->D->Option DV
 | .int i,.int j=>if cdiv j then some (.val (.int (i / j))) else none
 | _,_=>none
def bU:D->D->Option DV
 | .int i,.int j=>if decide (0 < j) then some (.val (.int (i % j))) else none
 | _,_=>none
theorem cS {K:PySem.W.Frag} {H:Hp} {Ω:Om} {ds:List D} {v:V} (h:cE K H Ω (.lst ds) v):∃ a vs,v=.ref a/\Rd H a (.lst vs)/\ax K H Ω ds vs:=h
theorem eB {K:PySem.W.Frag} {H:Hp} {Ω:Om} {ds:List D} {v:V} (h:cE K H Ω (.tup ds) v):∃ a vs,v=.ref a/\SqT K H a vs/\ax K H Ω ds vs:=(show ∃ a vs,_ from h)
theorem Af {K:PySem.W.Frag}:DR K (fun x y H Q=>rI0 (fun i j=>.int (i + j)) x y H Q\/(∃ i j,x=.str i/\y=.str j/\i.length + j.length<=sizeLine/\Q (.str (i++j)) H)\/zI x y H Q) aV:=by
 intro E σ H δ Ω x y d1 d2 z Q R r1 r2 hz h
 unfold aV at hz
 split at hz
 ·cases hz
  exact .inl ⟨_,_,r1,r2,h.now R rfl⟩
 ·split at hz
  ·rename_i hl
   cases hz
   exact .inr (.inl ⟨_,_,r1,r2,hl,h.now R rfl⟩)
  ·cases hz
 ·split at hz
  ·rename_i hl
   cases hz
   obtain ⟨a,vs,e1,e2,e3⟩:=cS r1
   obtain ⟨b,ws,q1,q2,q3⟩:=cS r2
   refine .inr (.inr ⟨a,b,vs,ws,e1,q1,e2,q2,by rw [<-e3.length,<-q3.length];exact hl,fun p hp=>h.alloc1 R hp (e3.append q3)⟩)
  ·cases hz
 ·cases hz
def jI (X:Cx) (op:Operator) (gg:D->D->Option DV):Prop:=∃ r,OpR X (binaryOp op) r/\DR X.K r gg
theorem bQ:jI X .Add aV:=⟨_,DK.or (EH.or Ay),Af⟩
theorem gH:jI X .Sub eC:=⟨_,Az,by
 intro E σ H δ Ω x y d1 d2 z Q R r1 r2 hz h
 unfold eC at hz
 split at hz
 ·cases hz;exact ⟨_,_,r1,r2,h.now R rfl⟩
 ·cases hz⟩
theorem ax.rep {K:PySem.W.Frag} {H:Hp} {Ω:Om} {ds:List D} {vs:List V} (r:ax K H Ω ds vs):∀ k:Nat,ax K H Ω (List.replicate k ds).flatten (List.replicate k vs).flatten
 | 0=>.nil
 | k + 1=>by
  rw [List.replicate_succ,List.replicate_succ,List.flatten_cons,List.flatten_cons]
  exact r.append (ax.rep r k)
theorem dg:jI X .Mult bA:=⟨_,B6.or (GQ.or Hs),by
 intro E σ H δ Ω x y d1 d2 z Q R r1 r2 hz h
 unfold bA at hz
 split at hz
 ·split at hz
  ·rename_i hc
   cases hz;exact .inl ⟨_,_,r1,r2,C4 hc,h.now R rfl⟩
  ·cases hz
 ·split at hz
  ·rename_i hc
   cases hz;exact .inr (.inl ⟨_,_,r1,r2,JR hc,h.now R rfl⟩)
  ·cases hz
 ·split at hz
  ·rename_i hc
   cases hz
   obtain ⟨a,vs,e1,e2,e3⟩:=cS r1
   unfold f9 at hc
   simp only [Bool.and_eq_true,decide_eq_true_eq] at hc
   exact .inr (.inr ⟨a,_,vs,e1,r2,e2,by omega,by omega,by rw [<-e3.length];exact hc.2,fun p hp=>h.alloc1 R hp (e3.rep _)⟩)
  ·cases hz
 ·cases hz⟩
theorem gb:jI X .FloorDiv cZ:=⟨_,CF,by
 intro E σ H δ Ω x y d1 d2 z Q R r1 r2 hz h
 unfold cZ at hz
 split at hz
 ·split at hz
  ·rename_i hc
   cases hz
   unfold cdiv at hc
   exact ⟨_,_,r1,r2,(by simpa using hc:_/\_),h.now R rfl⟩
  ·cases hz
 ·cases hz⟩
theorem dk:jI X .Mod bU:=⟨_,Gf,by
 intro E σ H δ Ω x y d1 d2 z Q R r1 r2 hz h
 unfold bU at hz
 split at hz
 ·split at hz
  ·rename_i hc
   cases hz
   exact ⟨_,_,r1,r2,by simpa using hc,h.now R rfl⟩
  ·cases hz
 ·cases hz⟩
theorem aJ {op:Operator} {gg:D->D->Option DV} (ho:jI X op gg) (ha:PED X E a f) (hb:PED X E b g):PED X E (.BinOp a op b pos) (ah f g gg):=by
 obtain ⟨r,h1,h2⟩:=ho
 obtain ⟨ta,p1,d1⟩:=ha
 obtain ⟨tb,p2,d2⟩:=hb
 exact ⟨_,DP h1 p1 p2,oF h2 d1 d2⟩
def bg (p:Int->Int->Bool):D->D->Option DV
 | .int i,.int j=>some (.val (.bl (p i j)))
 | _,_=>none
theorem mL {K:PySem.W.Frag} {p:Int->Int->Bool}:DR K (rI0 fun i j=>.bl (p i j)) (bg p):=by
 intro E σ H δ Ω x y d1 d2 z Q R r1 r2 hz h
 unfold bg at hz
 split at hz
 ·cases hz;exact ⟨_,_,r1,r2,h.now R rfl⟩
 ·cases hz
def lt (i j:Int):Bool:=decide (i < j)
def le (i j:Int):Bool:=decide (i<=j)
def gt (i j:Int):Bool:=decide (j < i)
def ge (i j:Int):Bool:=decide (j<=i)
def eX (X:Cx) (op:CmpOp) (gg:D->D->Option DV):Prop:=∃ r,OpR X (compareOp op) r/\DR X.K r gg
theorem gz:eX X .Lt (bg lt):=⟨_,Jn,mL (p:=lt)⟩
theorem rf:eX X .LtE (bg le):=⟨_,C3,mL (p:=le)⟩
theorem cmp_gt:eX X .Gt (bg gt):=⟨_,Fv,mL (p:=gt)⟩
theorem DB:eX X .GtE (bg ge):=⟨_,G6,mL (p:=ge)⟩
theorem hX {op:CmpOp} {gg:D->D->Option DV} (ho:eX X op gg) (ha:PED X E a f) (hb:PED X E b g) (hm:behindInMarks op b=false):PED X E (.Compare a [op] [b] pos) (ah f g gg):=by
 obtain ⟨r,h1,h2⟩:=ho
 obtain ⟨ta,p1,d1⟩:=ha;obtain ⟨tb,p2,d2⟩:=hb
 exact ⟨_,Fq h1 p1 p2 hm,oF h2 d1 d2⟩
theorem aZ {op:CmpOp} {gg:D->D->Option DV} (ho:eX X op gg) (ha:PED X E a f) (hb:PED X E b g) (hm:behindInMarks op b=false):PTD X E (.Compare a [op] [b] pos) (aw (ah f g gg)):=by
 obtain ⟨r,h1,h2⟩:=ho
 obtain ⟨ta,p1,d1⟩:=ha;obtain ⟨tb,p2,d2⟩:=hb
 exact ⟨_,HJ h1 p1 p2 hm,qO (oF h2 d1 d2)⟩
theorem lR {fa:DM Bool} (ha:PTD X E a fa):PWD X E (.BoolOp .And [a] pos) fa:=by
 obtain ⟨t,p,d⟩:=ha;exact ⟨_,Jl p,d⟩
theorem d4 {fa:DM Bool} (ha:PTD X E a fa):PWD X E (.BoolOp .Or [a] pos) fa:=by
 obtain ⟨t,p,d⟩:=ha;exact ⟨_,Ji p,d⟩
theorem lC {fa fb:DM Bool} {rest:List Expr} (ha:PTD X E a fa) (hb:PWD X E (.BoolOp .And (b :: rest) pos) fb):PWD X E (.BoolOp .And (a :: b :: rest) pos) (df fa fb):=by
 obtain ⟨t,p,d⟩:=ha;obtain ⟨u,q,e⟩:=hb;exact ⟨_,GS p q,G1 d e⟩
theorem dw {fa fb:DM Bool} {rest:List Expr} (ha:PTD X E a fa) (hb:PWD X E (.BoolOp .Or (b :: rest) pos) fb):PWD X E (.BoolOp .Or (a :: b :: rest) pos) (bM fa fb):=by
 obtain ⟨t,p,d⟩:=ha;obtain ⟨u,q,e⟩:=hb;exact ⟨_,Cg p q,Ew d e⟩
theorem c6 {fa:DM Bool} (h:PWD X E a fa):PTD X E a fa:=by
 obtain ⟨t,p,d⟩:=h;exact ⟨_,p.pt,d⟩
theorem cU {fa:DM Bool} (ha:PTD X E a fa):PTD X E (.UnaryOp .Not a pos) (b9 fa):=by
 obtain ⟨t,p,d⟩:=ha;exact ⟨_,CQ p,CA d⟩
theorem oq {op} (ha:PED X E a f):PED X E (.BoolOp op [a] pos) f:=by
 obtain ⟨t,p,d⟩:=ha;exact ⟨_,DZ p,d⟩
theorem nT {rest:List Expr} (ha:PED X E a f) (hb:PED X E (.BoolOp .And (b :: rest) pos) g):PED X E (.BoolOp .And (a :: b :: rest) pos) (ft f g):=by
 obtain ⟨t,p,d⟩:=ha;obtain ⟨u,q,e⟩:=hb;exact ⟨_,Bu p q,Iu d e⟩
theorem oZ (ha:PED X E a f):PED X E (.UnaryOp .Not a pos) (gf f):=by
 obtain ⟨t,p,d⟩:=ha;exact ⟨_,AN p,GW d⟩
theorem qQ {fc:DM Bool} (hc:PTD X E c fc) (ha:PED X E a f) (hb:PED X E b g):PED X E (.IfExp c a b pos) (gR fc f g):=by
 obtain ⟨t,p,d⟩:=hc;obtain ⟨ta,p1,d1⟩:=ha;obtain ⟨tb,p2,d2⟩:=hb
 exact ⟨_,D3 p p1 p2,Bz d d1 d2⟩
theorem cm (ha:PED X E a f) (he:∀ whole,isTrue a X.env whole=(do let v<-whole;standAt a.pos;holding [v] (truthy v)):=by intro _;rfl):PTD X E a (aw f):=by
 obtain ⟨ta,p1,d1⟩:=ha
 exact ⟨_,FV p1 he,Br d1⟩
def gIx:D->D->Option DV
 | .lst ds,.int i=>(atI ds i).map .val
 | .tup ds,.int i=>(atI ds i).map .val
 | .str z,.int i=>if z.length<=sizeLine then (atI z.cps.toList i).map fun c=>.val (.str ⟨#[c]⟩) else none
 | .scr ns,.int i=>(atI ns i).map fun n=>.val (.int n)
 | _,_=>none
theorem xP {K:PySem.W.Frag} {H:Hp} {Ω:Om} {ds:List D} {vs:List V} {i:Int} {d:D} (r:ax K H Ω ds vs) (h:atI ds i=some d):∃ v,atI vs i=some v/\Rep K H Ω d v:=by
 unfold atI at h ⊢
 rw [<-r.length]
 cases e:ixN ds.length i with
 | none=>rw [e] at h;cases h
 | some j=>rw [e] at h;exact r.get h
theorem aT (ha:PED X E a f) (hb:PED X E b g) (hs:oj b:=by intro _ _;rfl):PED X E (.Subscript a b pos) (ah f g gIx):=by
 obtain ⟨ta,p1,d1⟩:=ha
 obtain ⟨tb,p2,d2⟩:=hb
 refine ⟨_,pF IX p1 p2 hs,oF ?_ d1 d2⟩
 intro E σ H δ Ω x y d1 d2 z Q R r1 r2 hz h
 unfold gIx at hz
 split at hz
 ·obtain ⟨d,e,rfl⟩:=Option.map_eq_some_iff.mp hz
  obtain ⟨p,vs,e1,e2,e3⟩:=cS r1
  obtain ⟨v,q,rv⟩:=xP e3 e
  exact .inl ⟨p,vs,_,v,e1,r2,.inl e2,q,h.now R rv⟩
 ·obtain ⟨d,e,rfl⟩:=Option.map_eq_some_iff.mp hz
  obtain ⟨p,vs,e1,e2,e3⟩:=eB r1
  obtain ⟨v,q,rv⟩:=xP e3 e
  exact .inr (.inl ⟨p,vs,_,v,e1,r2,e2,q,h.now R rv⟩)
 ·split at hz
  ·rename_i hl
   obtain ⟨c,e,rfl⟩:=Option.map_eq_some_iff.mp hz
   exact .inr (.inr ⟨_,_,c,r1,r2,hl,e,h.now R rfl⟩)
  ·cases hz
 ·obtain ⟨n,e,rfl⟩:=Option.map_eq_some_iff.mp hz
  obtain ⟨p,e1,e2⟩:=(show ∃ a,_ from r1)
  refine .inl ⟨p,_,_,.int n,e1,r2,e2.sq,?_,h.now R rfl⟩
  unfold atI at e ⊢
  rw [List.length_map]
  obtain ⟨j,h1,h2⟩:=Option.bind_eq_some_iff.mp e
  rw [h1]
  show (List.map V.int _)[j]?=_
  rw [List.getElem?_map,h2]
  rfl
 ·cases hz
theorem ao:PAD X E [] ai:=⟨_,fU,yh⟩
theorem aj {es:List Expr} {r:DM (List DV)} (ha:PED X E e f) (hr:PAD X E es r) (hs:starEach (e :: es) X.env=(false,eval e X.env) :: starEach es X.env:=by rfl):PAD X E (e :: es) (af f r):=by
 obtain ⟨t,p,d⟩:=ha;obtain ⟨u,q,c⟩:=hr;exact ⟨_,fQ p q hs,G2 d c⟩
theorem bS {es:List Expr} {r:DM (List DV)} {k:Nat} (h:PAD X E es r):PED X E (.Tuple es k pos) (br r):=by
 obtain ⟨t,p,d⟩:=h;exact ⟨_,oW p,Ig d⟩
theorem bW {es:List Expr} {r:DM (List DV)} (h:PAD X E es r):PED X E (.List es pos) (bB r):=by
 obtain ⟨t,p,d⟩:=h;exact ⟨_,pA p,IZ d⟩
structure aQ (P:Program) (w:World) (K:PySem.W.Frag) (mg:Str->Option Value) (base:Heap) (k:Nat) (x:Str) (n:Nat) (M:List D->Ro):Prop where
 ex:∃ (f:Addr) (fd:FuncData) (ps:List Str),aR P w K mg base CX0 k f fd ps (spP K (fun _=>.none) n M)/\mg x=some (.ref f)/\PySem.W.keepIn K (.ref f)=true/\Binds K fd ps []
theorem bp {k n:Nat} {x:Str} {M:List D->Ro} {p:Pos} {es:List Expr} {r:DM (List DV)} (F:aQ X.prog X.w X.K X.mg X.base k x n M) (hr:bG k X.A) (ha:PAD X EN (e :: es) r) (hg:Gl X x:=by rfl)
  (hdb:(x == ("__debug__":Str))=false:=by decide) (he:starEach (e :: es) X.env=(false,eval e X.env) :: starEach es X.env:=by rfl) (hpl:(backTo pos (starEach es X.env)).any (·.1)=false:=by rfl) :
  PED X EN (.Call (.Name x p) (e :: es) [] pos) (aF n r M):=by
 obtain ⟨fa,fd,ps,F,hm,kp,b⟩:=F.ex
 obtain ⟨t,q,d⟩:=ha
 exact ⟨_,nV F hr hg hm kp b .nil ix q hdb he hpl,HH (fun _ _ z=>z) d⟩
def fR (X:Cx) (fv:Value) (gg:List D->Option DV):Prop:=∃ r,eW X fv r/\DC X.K r gg
theorem bJ {id:String} {gg:List D->Option DV} {x:Str} {p:Pos} {es:List Expr} {r:DM (List DV)} (hc:fR X (.builtin id) gg) (hm:X.mg x=none) (hv:bootBuiltins x=some (.builtin id)) (ha:PAD X E (e :: es) r) (hg:Gl X x:=by rfl)
  (hn:x≠"__name__":=by decide) (hdb:(x == ("__debug__":Str))=false:=by decide) (he:starEach (e :: es) X.env=(false,eval e X.env) :: starEach es X.env:=by rfl) (hpl:(backTo pos (starEach es X.env)).any (·.1)=false:=by rfl) :
  PED X E (.Call (.Name x p) (e :: es) [] pos) (fCB r gg):=by
 obtain ⟨rr,h1,h2⟩:=hc
 obtain ⟨t,q,d⟩:=ha
 exact ⟨_,zD h1 hg hm hv q hn hdb he hpl,xI h2 d⟩
theorem kS {T:String} {gg:List D->Option DV} {x:Str} {p:Pos} {es:List Expr} {r:DM (List DV)} (hc:fR X (.type T) gg) (hm:X.mg x=none) (hv:bootBuiltins x=some (.type T)) (ha:PAD X E (e :: es) r) (hg:Gl X x:=by rfl)
  (hn:x≠"__name__":=by decide) (hdb:(x == ("__debug__":Str))=false:=by decide) (he:starEach (e :: es) X.env=(false,eval e X.env) :: starEach es X.env:=by rfl) (hpl:(backTo pos (starEach es X.env)).any (·.1)=false:=by rfl) :
  PED X E (.Call (.Name x p) (e :: es) [] pos) (fCB r gg):=by
 obtain ⟨rr,h1,h2⟩:=hc
 obtain ⟨t,q,d⟩:=ha
 exact ⟨_,FI h1 hg hm hv q hn hdb he hpl,xI h2 d⟩
theorem eK {K:PySem.W.Frag} {H:Hp} {Ω:Om} {d:D} {vs:List V} (h:kJ K H Ω [d] vs):∃ v,vs=[v]/\cE K H Ω d v:=by
 obtain ⟨v,r,e1,e2,e3⟩:=h
 cases (show r=[] from e3)
 exact ⟨v,e1,e2⟩
def bq:List D->Option DV
 | [.lst ds]=>some (.val (.int ds.length))
 | [.tup ds]=>some (.val (.int ds.length))
 | [.str x]=>if x.length<=sizeLine then some (.val (.int x.length)) else none
 | [.scr ns]=>some (.val (.int ns.length))
 | _=>none
theorem cx:fR X (.builtin "len") bq:=⟨_,Jo,by
 intro E σ H δ Ω vs ds z Q R r hz h
 unfold bq at hz
 split at hz
 ·cases hz
  obtain ⟨v,e,rv⟩:=eK r
  obtain ⟨a,ws,e1,e2,e3⟩:=cS rv
  subst e1
  exact ⟨.ref a,ws.length,e,.inl ⟨ws,.inl e2,rfl⟩,by rw [<-e3.length];exact h.now R rfl⟩
 ·cases hz
  obtain ⟨v,e,rv⟩:=eK r
  obtain ⟨a,ws,e1,e2,e3⟩:=eB rv
  subst e1
  exact ⟨.ref a,ws.length,e,.inr ⟨ws,e2,rfl⟩,by rw [<-e3.length];exact h.now R rfl⟩
 ·split at hz
  ·rename_i x hl
   cases hz
   obtain ⟨v,e,rv⟩:=eK r
   cases (show v=.str x from rv)
   exact ⟨.str x,x.length,e,⟨hl,rfl⟩,h.now R rfl⟩
  ·cases hz
 ·rename_i ns
  cases hz
  obtain ⟨v,e,rv⟩:=eK r
  obtain ⟨p,e1,e2⟩:=(show ∃ a,_ from rv)
  subst e1
  exact ⟨.ref p,ns.length,e,.inl ⟨_,e2.sq,by rw [List.length_map]⟩,h.now R rfl⟩
 ·cases hz⟩
def fW:List D->Option DV
 | [.lst ds]=>some (.own ds)
 | [.tup ds]=>some (.own ds)
 | _=>none
theorem lD:fR X (.type "list") fW:=⟨_,CY,by
 intro E σ H δ Ω vs ds z Q R r hz h
 unfold fW at hz
 split at hz
 ·cases hz
  obtain ⟨v,e,rv⟩:=eK r
  obtain ⟨a,ws,e1,e2,e3⟩:=cS rv
  subst e1
  exact ⟨a,ws,e,.inl (.inl e2),fun p hp=>h.alloc1 R hp e3⟩
 ·cases hz
  obtain ⟨v,e,rv⟩:=eK r
  obtain ⟨a,ws,e1,e2,e3⟩:=eB rv
  subst e1
  exact ⟨a,ws,e,.inr e2,fun p hp=>h.alloc1 R hp e3⟩
 ·cases hz⟩
def tyD:D->String
 | .non=>"NoneType" | .bl _=>"bool" | .int _=>"int" | .str _=>"str" | .tup _=>"tuple" | .lst _=>"list" | .scr _=>"list" | .exc _=>"" | .key _ _=>"" | .obj _ _ _ _=>""
def jc:List String:=["int","bool","str","list","tuple"]
def isExc:D->Bool
 | .exc _=>true
 | .key _ _=>true
 | .obj _ _ _ _=>true
 | _=>false
def isD (T:String) (d:D):Option Bool:=if isExc d then none else if jc.contains T then some (tyD d == T||(tyD d == "bool"&&T == "int")) else none
end
end DL
namespace DL
open PySem PySem.Spec PyProof.Rows L2
section
variable {X:Cx} {E:Str->Hp->Prop} {pos:Pos} {a b c e:Expr} {f g:DM DV} {mp:List Nat}
def vY (A B:String):Option Bool:=if (Value.type A == Value.type B)=true then some true else if PySem.W.kitMeta B=true then (fastBuiltinMro A).map (·.contains (Value.type B)) else none
theorem B4:(jc.all fun T=>["NoneType","bool","int","str","tuple","list"].all fun A=>vY A T == some (A == T||(A == "bool"&&T == "int")))=true:=by decide +kernel
theorem Eu {K:PySem.W.Frag} {T:String} {d:D} {bb:Bool} (h:isD T d=some bb):PySem.W.kitOne K (.type (tyD d)) (.type T)=some bb:=by
 unfold isD at h
 split at h
 ·cases h
 rename_i hE
 split at h
 ·rename_i hT
  cases h
  have h1:=List.all_eq_true.mp B4 T (List.contains_iff_mem.mp hT)
  have h2:=List.all_eq_true.mp h1 (tyD d) (by cases d <;> first | exact absurd rfl hE | simp [tyD])
  exact (beq_iff_eq.mp h2:vY (tyD d) T=_)
 ·cases h
theorem DQ {K:PySem.W.Frag} {H:Hp} {Ω:Om} {d:D} {x:V} {T:String} {bb:Bool} (h:cE K H Ω d x) (hd:isD T d=some bb):TyD K H x (tyD d):=by
 cases d with
 | non=>cases (show x=.non from h);exact .non
 | bl y=>cases (show x=.bl y from h);exact .bl y
 | int y=>cases (show x=.int y from h);exact .int y
 | str y=>cases (show x=.str y from h);exact .str y
 | tup ds=>obtain ⟨p,vs,e1,e2,e3⟩:=eB h;subst e1;exact .tup e2
 | lst ds=>obtain ⟨p,vs,e1,e2,e3⟩:=cS h;subst e1;exact .lst (.inl e2)
 | scr ns=>obtain ⟨p,e1,e2⟩:=(show ∃ a,_ from h);subst e1;exact .lst e2.sq
 | exc c=>cases hd
 | key r n=>cases hd
 | obj _ _ _ _=>cases hd
def gIs (T:String) (d:D):Option DV:=(isD T d).map fun bb=>.val (.bl bb)
theorem fk {T:String} {x:Str} {p p2:Pos} (hm:X.mg "isinstance"=none) (hm2:X.mg x=none) (hv:bootBuiltins x=some (.type T)) (ha:PED X E e f) (hg:Gl X "isinstance":=by rfl) (hg2:Gl X x:=by rfl)
  (hn:x≠"__name__":=by decide) (hdb:(x == ("__debug__":Str))=false:=by decide)
  (hs:starEach [e,.Name x p2] X.env=(false,eval e X.env) :: starEach [.Name x p2] X.env:=by rfl) (hs2:starEach [.Name x p2] X.env=(false,eval (.Name x p2) X.env) :: starEach [] X.env:=by rfl)
  (hpl:(backTo pos (starEach [.Name x p2] X.env)).any (·.1)=false:=by rfl) :
  PED X E (.Call (.Name "isinstance" p) [e,.Name x p2] [] pos) (fUn f (gIs T)):=by
 obtain ⟨t,q,d⟩:=ha
 refine ⟨_,zD Hv hg hm boot_isinstance (fQ q (fQ (BG (v:=.ty T) hg2 hm2 hv rfl hn hdb) fU hs2) hs) (by decide) (by decide) hs hpl,?_⟩
 intro σ H δ Ω R Q h
 refine d.use R h fun a1 x δ1 H1 Ω1 _ s1 R1 r1 h1=>?_
 (try dsimp only at h1)
 cases q1:res δ1 a1 with
 | none=>rw [q1] at h1;exact h1.elim
 | some d1=>
  rw [q1] at h1
  (try dsimp only at h1)
  cases q3:isD T d1 with
  | none=>
   unfold gIs at h1
   rw [q3] at h1
   exact h1.elim
  | some bb=>
   unfold gIs at h1
   rw [q3] at h1
   exact ⟨x,T,tyD d1,bb,rfl,DQ (r1.res R1 q1) q3,Eu q3,Wg.now (d:=.val (.bl bb)) h1 R1 rfl⟩
def MtD (X:Cx) (T id:String) (gg:D->List D->Option DV):Prop:=∃ r,MtR X id r/\∀ {E:Str->Hp->Prop} {σ:St} {H:Hp} {δ:DSt} {Ω:Om} {x:V} {vs:List V} {d:D} {ds:List D} {z:DV} {Q:VK},
 az X.K H Ω σ δ->cE X.K H Ω d x->kJ X.K H Ω ds vs->gg d ds=some z->Wg E H Ω (PV X.K σ Q) (.ok z δ)->r x vs H Q
def fBM (fo:DM DV) (fa:DM (List DV)) (gg:D->List D->Option DV):DM DV:=(fN fo).bd fun o=>fun δ0=>match res δ0 o with
 | some (.str _)=>(fa.bd fun as=>fun δ=>match res δ o,gw δ as with
  | some d,some ds=>(match gg d ds with | some r=>.ok r δ | none=>.un)
  | _,_=>.un) δ0
 | _=>.un
theorem FO {id:String} {o:Expr} {es:List Expr} {name:Str} {apos cpos:Pos} {fo:DM DV} {fa:DM (List DV)} {gg:D->List D->Option DV} (hm:MtD X "str" id gg) (slot:Slot "str" name id) (hty:typeOf (.builtin id)=pure (.type "method_descriptor"))
  (ho:PED X E o fo) (ha:PAD X E (e :: es) fa)
  (hbase:attributeBase o name X.env (eval o X.env)=eval o X.env:=by rfl)
  (hfew:((backTo cpos (starEach (e :: es) X.env)).all (fun x=>!x.1)&&(backToKw cpos (keywordEach [] X.env)).all (fun x=>x.1.isSome)
   && decide ((e :: es).length + ([]:List Keyword).length + (if ([]:List Keyword).isEmpty then 0 else 1) < 30))=true:=by rfl)
  (hline:(apos.endLine == cpos.line)=true:=by rfl) (hs:starEach (e :: es) X.env=(false,eval e X.env) :: starEach es X.env:=by rfl) (hplain:(backTo cpos (starEach es X.env)).any (·.1)=false:=by rfl) :
  PED X E (.Call (.Attribute o name apos) (e :: es) [] cpos) (fBM fo fa gg):=by
 obtain ⟨r,h1,h2⟩:=hm
 obtain ⟨to,p1,d1⟩:=ho
 obtain ⟨ta,p2,d2⟩:=ha
 refine ⟨_,lN PySem.F.plainAttrs_str slot hty h1 p1 p2 hbase hfew hline hs hplain,?_⟩
 intro σ H δ Ω R Q h
 refine d1.use R h fun a1 x δ1 H1 Ω1 _ s1 R1 r1 h1=>?_
 (try dsimp only at h1)
 split at h1
 ·rename_i z q1
  have ty:tyV X.K "str" x H1:=by
   have rb:=r1.res R1 q1
   cases (show x=.str z from rb)
   exact rfl
  refine ⟨ty,d2.use R1 h1 fun as vs δ2 H2 Ω2 e2 s2 R2 r2 h3=>?_⟩
  (try dsimp only at h3)
  cases q2:res δ2 a1 with
  | none=>rw [q2] at h3;exact h3.elim
  | some dd=>
   cases q3:gw δ2 as with
   | none=>rw [q2,q3] at h3;exact h3.elim
   | some ds=>
    rw [q2,q3] at h3
    (try dsimp only at h3)
    cases q4:gg dd ds with
    | none=>rw [q4] at h3;exact h3.elim
    | some z=>
     rw [q4] at h3
     exact h2 R2 ((r1.ext s1 e2).res R2 q2) (r2.all R2 q3) q4 h3
 ·exact h1.elim
def strsOf:List D->Option (List Str)
 | []=>some []
 | .str x :: r=>(strsOf r).map fun xs=>x :: xs
 | _ :: _=>none
theorem nK {K:PySem.W.Frag} {H:Hp} {Ω:Om}:∀ {ds:List D} {vs:List V} {xs:List Str},ax K H Ω ds vs->strsOf ds=some xs->vs=xs.map V.str
 | [],_,_,r,h=>by cases h;exact r
 | d :: ds,_,xs,r,h=>by
  obtain ⟨v,q,e1,e2,e3⟩:=(show ∃ v r,_ from r)
  cases d with
  | str x=>
   obtain ⟨ys,h1,rfl⟩:=Option.map_eq_some_iff.mp (show (strsOf ds).map _=_ from h)
   rw [e1,nK e3 h1,(show v=.str x from e2)]
   rfl
  | _=>cases h
def nY:D->List D->Option DV
 | .str sep,[.lst ds]=>(strsOf ds).bind fun ys=>if (ys.map (·.length)).sum + ys.length * sep.length<=16777216 then some (.val (.str (Txt.join sep ys))) else none
 | _,_=>none
theorem AY:MtD X "str" "str.join" nY:=⟨_,Fp,by
 intro E σ H δ Ω x vs d ds z Q R r1 r2 hz h
 unfold nY at hz
 split at hz
 ·rename_i sep es
  obtain ⟨ys,h1,h2⟩:=Option.bind_eq_some_iff.mp hz
  split at h2
  ·rename_i hl
   cases h2
   obtain ⟨v,e,rv⟩:=eK r2
   obtain ⟨a,ws,e1,e2,e3⟩:=cS rv
   subst e1
   have hw:=nK e3 h1
   subst hw
   exact ⟨sep,a,ys,r1,e,.inl (.inl e2),hl,h.now R rfl⟩
  ·cases h2
 ·cases hz⟩
section
variable {tg iter elt:Expr} {ifs:List Expr} {sc:Scope} {fi:DM (List D)} {t:D->DSt->Option DSt} {fc:DM Bool} {fe:DM DV} {N:List Str} {sel:List (Option Nat)}
def PID (X:Cx) (E:Str->Hp->Prop) (tg iter:Expr) (fi:DM (List D)):Prop:=∃ wi,PI X tg iter wi/\DI X.K E wi fi
def PGD (X:Cx) (mp:List Nat) (tg:Expr) (t:D->DSt->Option DSt):Prop:=∃ g,PG X tg g/\DG X.K mp g t
def l8 (X:Cx) (ifs:List Expr) (fc:DM Bool):Prop:=∃ ts,PTs X ifs ts/\DT X.K EN ts fc
theorem eO (ha:PED X E a f):PID X E tg a (fIt f cQ):=by
 obtain ⟨t,p,d⟩:=ha;exact ⟨_,Gp p,El d⟩
theorem JG (ha:PED X E a f):PID X E tg a (fIt f oM):=by
 obtain ⟨t,p,d⟩:=ha;exact ⟨_,Bw p,Hq d⟩
theorem gW {r:DM (List DV)} {p:Pos} (hm:X.mg "range"=none) (ha:PAD X E [a] r) (hg:Gl X "range":=by rfl) (hs:starEach [a] X.env=[(false,eval a X.env)]:=by rfl):PID X E tg (.Call (.Name "range" p) [a] [] pos) (dU r):=by
 obtain ⟨t,q,d⟩:=ha;exact ⟨_,H0 hg hm q hs,Gs d⟩
theorem cO {i:Nat} {x:Str} (hN:X.N.Nodup) (hi:X.N[i]?=some x:=by rfl) (hx:Loc X.env.scope x:=by first | exact Or.inl rfl | exact Or.inr rfl) (hm:i∉mp:=by decide)
  (hf:X.fn x=true\/X.env.scope.names.lookup x=some .local:=by first | exact .inl rfl | exact .inr rfl):PGD X mp (.Name x pos) (bo i):=⟨_,j9 hN hi hx hf,Ai hm⟩
theorem gc:l8 X [] (.ret true):=⟨_,EJ,fun σ H δ Ω R Q h=>Wg.nowB h R⟩
theorem kR (B:Blk X N sel sc) (hc:X.calm=true) (hi:PID X E tg iter fi) (hg:∀ b,PGD (blk X N sc b) [] tg t) (ht:∀ b,l8 (blk X N sc b) ifs fc) (he:∀ b,PED (blk X N sc b) EN elt fe)
  (hs:∀ x,foldedSetIterable iter X.env x=pure x:=by intro _;rfl):PED X E (.ListComp elt [⟨tg,iter,ifs,0⟩] sc pos) (fLC fi t fc fe sel):=by
 obtain ⟨wi,p,d⟩:=hi
 refine ⟨_,Jd (g:=fun v σ H Q=>∀ b,(hg b).choose v σ H Q) (ts:=fun σ H Q=>∀ b,(ht b).choose σ H Q) (te:=fun σ H Q=>∀ b,(he b).choose σ H Q) B hc p
  (fun b pins s σ H v u Q I r h=>(hg b).choose_spec.1 pins s σ H v u Q I r (h b)) (fun b pins s σ H Q I h=>(ht b).choose_spec.1 pins s σ H Q I (h b)) (fun b pins s σ H Q I h=>(he b).choose_spec.1 pins s σ H Q I (h b)) hs,
  vC d (fun σ H δ Ω dd x δ' R r e Q h b=>(hg b).choose_spec.2 σ H δ Ω dd x δ' R r e Q h) (fun σ H δ Ω R Q h b=>(ht b).choose_spec.2 σ H δ Ω R Q h) (fun σ H δ Ω R Q h b=>(he b).choose_spec.2 σ H δ Ω R Q h)⟩
end
theorem bc:fw X E mp [] aN:=⟨_,IF,z9⟩
theorem ar {st:Stmt} {rest:List Stmt} {f1 f2:DM Fl} (h1:PSD X E mp st f1) (h2:fw X E mp rest f2):fw X E mp (st :: rest) (ak f1 f2):=by
 obtain ⟨t,p,d⟩:=h1;obtain ⟨u,q,r⟩:=h2;exact ⟨_,pJ p q,Jw d r⟩
theorem ay {st:Stmt} {f1:DM Fl} (h1:PSD X E mp st f1):fw X E mp [st] f1:=by
 obtain ⟨t,p,d⟩:=h1;exact ⟨_,uM p,d⟩
theorem l7 (i:Nat) {st:Stmt} {f1:DM Fl} (h1:PSD X E mp st f1):PSD X E mp st (fun δ=>f1 (frz i δ)):=by
 obtain ⟨t,p,d⟩:=h1;exact ⟨_,p,Fe d⟩
theorem aK (h:PED X E e f):PSD X E mp (.Return (some e) pos) (aD f):=by
 obtain ⟨t,p,d⟩:=h;exact ⟨_,Ce p,Bb d⟩
theorem km (h:PED X E e f) (hs:swapsWith e none pos.line X.env=pure false:=by rfl):PSD X E mp (.Expr e pos) (eR f):=by
 obtain ⟨t,p,d⟩:=h;exact ⟨_,kr p hs,AE d⟩
theorem aY {fc:DM Bool} {s1 s2:List Stmt} {f1 f2:DM Fl} (hc:PTD X E c fc) (h1:fw X E mp s1 f1) (h2:fw X E mp s2 f2):PSD X E mp (.If c s1 s2 pos) (fIf fc f1 f2):=by
 obtain ⟨t,p,d⟩:=hc;obtain ⟨t1,p1,d1⟩:=h1;obtain ⟨t2,p2,d2⟩:=h2
 exact ⟨_,Cw p p1 p2,Jr d d1 d2⟩
theorem ba (i:Nat) {x:Str} {pos':Pos} (hN:X.N.Nodup) (he:PED X E e f) (hi:X.N[i]?=some x:=by rfl) (hx:Loc X.env.scope x:=by first | exact Or.inl rfl | exact Or.inr rfl) (hm:i∉mp:=by decide)
  (hs:swapsWith e (some (.Name x pos')) pos.line X.env=pure false:=by rfl) (hf:X.fn x=true\/X.env.scope.names.lookup x=some .local:=by first | exact .inl rfl | exact .inr rfl):PSD X E mp (.Assign [.Name x pos'] e pos) (aG i f):=by
 obtain ⟨t,p,d⟩:=he;exact ⟨_,rY hN hi hx p hs hf,vZ hm d⟩
theorem d6 (i:Nat) {x:Str} {pos':Pos} (hN:X.N.Nodup) (he:PED X E e f) (hi:X.N[i]?=some x:=by rfl) (hx:Loc X.env.scope x:=by first | exact Or.inl rfl | exact Or.inr rfl) (hm:i∉mp:=by decide)
  (hs:swapsWith e (some (.Name x pos')) pos.line X.env=pure false:=by rfl) (hf:X.fn x=true\/X.env.scope.names.lookup x=some .local:=by first | exact .inl rfl | exact .inr rfl):PSD X E mp (.Assign [.Name x pos'] e pos) (cJ i f):=by
 obtain ⟨t,p,d⟩:=he;exact ⟨_,rY hN hi hx p hs hf,wk hm d⟩
theorem cX {tg iter:Expr} {body:List Stmt} {fi:DM (List D)} {t:D->DSt->Option DSt} {fb:DM Fl} (hp:PassesOwn (model X.prog X.w) X.A X.env X.xe) (hc:X.calm=true) (hi:PID X E tg iter fi) (hg:PGD X mp tg t) (hb:fw X E mp body fb)
  (hs:∀ x,foldedSetIterable iter X.env x=pure x:=by intro _;rfl):PSD X E mp (.For tg iter body [] pos) (cu fi t fb):=by
 obtain ⟨wi,p1,d1⟩:=hi;obtain ⟨g,p2,d2⟩:=hg;obtain ⟨ts,p3,d3⟩:=hb
 exact ⟨_,IM hp hc p1 p2 p3 hs,EB d1 d2 d3⟩
theorem zw {body:List Stmt} {fc:DM Bool} {fb:DM Fl} (n:Nat) (hp:PassesOwn (model X.prog X.w) X.A X.env X.xe) (hc:PTD X E c fc) (hb:fw X E mp body fb):PSD X E mp (.While c body [] pos) (dF fc fb n):=by
 obtain ⟨t,p1,d1⟩:=hc;obtain ⟨ts,p3,d3⟩:=hb
 exact ⟨_,G8 hp p1 p3,Gk n d1 d3⟩
def zj (i:Nat) (f:DM DV):DM Fl:=(fN f).bd fun a δ=>match a,δ[i]? with
 | .val d,some (.ow ds)=>if ds.length < sizeLine then .ok .nx (δ.set i (.ow (ds++[d]))) else .un
 | _,_=>.un
def jj (i:Nat) (δ:DSt):Bool:=match δ[i]? with | some (.ow _)=>true | _=>false
def bR (i:Nat) (f:DM DV):DM Fl:=fun δ=>if jj i δ then zj i f δ else .un
section
variable {K:PySem.W.Frag} {H:Hp} {Ω:Om} {σ:St} {δ:DSt}
theorem az.putOw {i:Nat} {p:Addr} {xs:List V} {es:List D} (R:az K H Ω σ δ) (hσ:σ[i]?=some (some (.ref p))) (hl:∃ vs,H p=some vs/\bV vs=false) (hp:Ω p=some (i + 2)) (r:ax K H Ω es xs):az K (upd H p (.lst xs)) Ω σ (δ.set i (.ow es)):=by
 have hp':Ω p≠none:=by rw [hp];exact Option.some_ne_none _
 refine ⟨by rw [List.length_set];exact R.len,fun j s h=>?_,fun a k q=>?_⟩
 ·by_cases hj:i=j
  ·subst hj
   have hl':i < δ.length:=by
    have:=(List.getElem?_eq_some_iff.mp h).1
    rwa [List.length_set] at this
   rw [List.getElem?_set_self hl'] at h
   cases h
   exact ⟨p,xs,by rw [hσ];rfl,bw,hp,r.put hl hp'⟩
  ·rw [List.getElem?_set_ne hj] at h
   refine (R.sl j s h).mv (fun _ _ z=>z.put hl hp') (fun _ _ z=>z.put hl hp') fun a ws e3 e2=>?_
   have ha:a≠p:=by
    rintro rfl
    rw [hp] at e3
    exact hj (by have:=Option.some.inj e3;omega)
   exact ⟨by rw [aA ha];exact e2,e3⟩
 ·by_cases ha:a=p
  ·subst ha;exact ⟨_,bw,rfl⟩
  ·obtain ⟨ws,e,f⟩:=R.trk a k q
   exact ⟨ws,by rw [aA ha];exact e,f⟩
theorem Ext.putOw {p:Addr} {k:Nat} {o:HO} (hl:∃ vs,H p=some vs/\bV vs=false) (hp:Ω p=some (k + 1)):Ext H Ω (upd H p o) Ω where
 keep:=fun b o' q h=>by
  have hb:b≠p:=by
   rintro rfl
   obtain ⟨vs,e,f⟩:=hl
   rw [e] at q
   cases q
   rcases h with h | h | h
   ·rw [f] at h;cases h
   ·rw [hp] at h;cases h
   ·rw [hp] at h;cases h
  rw [aA hb]
  exact q
 new:=fun _ q _=>q
 fr:=fun _=>Iff.rfl
 live:=fun b q=>by
  unfold upd at q
  split at q
  ·cases q
  ·exact q
end
theorem eF (i:Nat) {x:Str} {p apos cpos:Pos} (he:PED X E e f) (hN:X.N[i]?=some x:=by rfl) (hv:Vis X.env.scope x:=by first | exact Or.inl rfl | exact Or.inr (Or.inl rfl) | exact Or.inr (Or.inr rfl))
  (hd:(x == ("__debug__":Str))=false:=by decide) (hcd:(x == ("__classdict__":Str))=false:=by decide)
  (hbase:attributeBase (.Name x p) "append" X.env (eval (.Name x p) X.env)=eval (.Name x p) X.env:=by rfl)
  (hfew:((backTo cpos (starEach [e] X.env)).all (fun x=>!x.1)&&(backToKw cpos (keywordEach [] X.env)).all (fun x=>x.1.isSome)
   && decide (([e]:List Expr).length + ([]:List Keyword).length + (if ([]:List Keyword).isEmpty then 0 else 1) < 30))=true:=by rfl)
  (hline:(apos.endLine == cpos.line)=true:=by rfl) (hs:starEach [e] X.env=(false,eval e X.env) :: starEach [] X.env:=by rfl)
  (hsw:swapsWith (.Call (.Attribute (.Name x p) "append" apos) [e] [] cpos) none pos.line X.env=pure false:=by rfl) :
  PSD X E mp (.Expr (.Call (.Attribute (.Name x p) "append" apos) [e] [] cpos) pos) (bR i f):=by
 obtain ⟨t,q,d⟩:=he
 refine ⟨_,kr (lN PySem.F.plainAttrs_list PySem.F.slot_list_append PySem.F.type_list_append oK (pv i hN hv hd hcd) (fQ q fU hs) hbase hfew hline hs rfl) hsw,?_⟩
 intro σ H δ Ω R B h
 unfold bR at h
 split at h
 ·rename_i ho
  unfold jj at ho
  split at ho
  ·rename_i ds hds
   obtain ⟨a,vs,e1,e2,e3,e4⟩:=R.sl i _ hds
   refine ⟨.ref a,join_some e1,.inl ⟨rfl,vs,SqL.of e2⟩,d.use R h fun a1 y δ1 H1 Ω1 ex s1 R1 r1 h1=>?_⟩
   (try dsimp only at h1)
   split at h1
   ·rename_i dd es hds1
    split at h1
    ·rename_i hz
     obtain ⟨a',ws,q1,q2,q3,q4⟩:=R1.sl i _ hds1
     have ea:a'=a:=by
      have z:=(join_some q1).symm.trans (join_some e1)
      injection z with z
      injection z with z
      injection z
     subst ea
     refine ⟨a',ws,y,rfl,rfl,q2,by rw [<-q4.length];exact hz,?_⟩
     exact h1 _ Ω1 (.putOw (k:=i + 1) ⟨_,q2,rfl⟩ q3) σ (R1.putOw (join_some q1) ⟨_,q2,rfl⟩ q3 (q4.append (.cons r1 .nil))) fun _ _=>rfl
    ·exact h1.elim
   ·exact h1.elim
  ·cases ho
 ·exact h.elim
end
end DL
namespace DL
open PySem PySem.Spec PyProof.Rows L2
def eQ (f:D->D->Option Bool):List D->List D->Option Bool
 | [],[]=>some true
 | x :: xs,y :: ys=>match f x y,eQ f xs ys with | some a,some b=>some (a&&b) | _,_=>none
 | [],_ :: _=>some false
 | _ :: _,[]=>some false
def oth:D->Option Bool
 | .scr _=>none
 | .exc _=>none
 | .key _ _=>none
 | .obj _ _ _ _=>none
 | _=>some false
def kM (g:List D->List D->Option Bool):D->D->Option Bool
 | .non,d=>(match d with | .non=>some true | d=>oth d)
 | .int i,d=>(match d with | .int j=>some (i == j) | .bl _=>none | d=>oth d)
 | .str x,d=>(match d with | .str y=>some (x == y) | d=>oth d)
 | .bl x,d=>(match d with | .bl y=>some (x == y) | .int _=>none | d=>oth d)
 | .tup xs,d=>(match d with | .tup ys=>g xs ys | d=>oth d)
 | .lst xs,d=>(match d with | .lst ys=>g xs ys | d=>oth d)
 | _,_=>none
def eqG:Nat->List D->List D->Option Bool
 | 0=>fun _ _=>none
 | n + 1=>eQ (kM (eqG n))
def dv (n:Nat) (d1 d2:D):Option Bool:=kM (eqG n) d1 d2
theorem wm {g:List D->List D->Option Bool} {d1 d2:D} (h:oth d1=none):kM g d1 d2=none:=by cases d1 <;> first | rfl | cases h
theorem ll {g:List D->List D->Option Bool} {d1 d2:D} (h:oth d2=none):kM g d1 d2=none:=by cases d1 <;> cases d2 <;> first | rfl | cases h
theorem tq {f:D->D->Option Bool}:∀ {xs ys:List D} {b:Bool},eQ f xs ys=some b->xs.length≠ys.length->b=false
 | [],[],_,_,hl=>absurd rfl hl
 | [],_ :: _,_,e,_=>by cases e;rfl
 | _ :: _,[],_,e,_=>by cases e;rfl
 | x :: xs,y :: ys,b,e,hl=>by
  unfold eQ at e
  split at e
  ·rename_i p q h1 h2
   cases e
   rw [tq h2 (fun z=>hl (by rw [List.length_cons,List.length_cons,z])),Bool.and_false]
  ·cases e
theorem xZ {f:D->D->Option Bool}:∀ {xs ys:List D} {b:Bool},eQ f xs ys=some b->xs.length=ys.length->
  ∃ e:Nat->Bool,(∀ i x y,xs[i]?=some x->ys[i]?=some y->f x y=some (e i))/\b=(List.range xs.length).all e
 | [],[],_,h,_=>⟨fun _=>true,fun _ _ _ z=>by simp at z,by cases h;rfl⟩
 | [],_ :: _,_,_,hl=>by cases hl
 | _ :: _,[],_,_,hl=>by cases hl
 | x :: xs,y :: ys,b,h,hl=>by
  unfold eQ at h
  split at h
  ·rename_i p q h1 h2
   cases h
   obtain ⟨e,he,hb⟩:=xZ h2 (Nat.succ.inj hl)
   refine ⟨fun i=>match i with | 0=>p | i + 1=>e i,fun i x' y' z1 z2=>?_,?_⟩
   ·cases i with
    | zero=>
     have a1:x=x':=by simpa using z1
     have a2:y=y':=by simpa using z2
     subst a1 a2
     exact h1
    | succ i=>exact he i x' y' (by simpa using z1) (by simpa using z2)
   ·rw [hb,List.length_cons,List.range_succ_eq_map,List.all_cons,List.all_map]
    rfl
  ·cases h
theorem yG {f:D->D->Option Bool}:∀ {xs ys:List D} {b:Bool},eQ f xs ys=some b->
  ∃ e:Nat->Bool,(∀ i x y,xs[i]?=some x->ys[i]?=some y->f x y=some (e i))/\b=((List.range (min xs.length ys.length)).all e&&xs.length == ys.length)
 | [],[],_,h=>⟨fun _=>true,fun _ _ _ z=>by simp at z,by cases h;rfl⟩
 | [],_ :: _,_,h=>⟨fun _=>true,fun _ _ _ z=>by simp at z,by cases h;rfl⟩
 | _ :: _,[],_,h=>⟨fun _=>true,fun _ _ _ _ z=>by simp at z,by cases h;rfl⟩
 | x :: xs,y :: ys,b,h=>by
  unfold eQ at h
  split at h
  ·rename_i p q h1 h2
   cases h
   obtain ⟨e,he,hb⟩:=yG h2
   refine ⟨fun i=>match i with | 0=>p | i + 1=>e i,fun i x' y' z1 z2=>?_,?_⟩
   ·cases i with
    | zero=>
     have a1:x=x':=by simpa using z1
     have a2:y=y':=by simpa using z2
     subst a1 a2
     exact h1
    | succ i=>exact he i x' y' (by simpa using z1) (by simpa using z2)
   ·rw [hb,List.length_cons,List.length_cons,Nat.succ_min_succ,List.range_succ_eq_map,List.all_cons,List.all_map,Bool.and_assoc]
    congr 1
    congr 1
    by_cases hq:xs.length=ys.length
    ·rw [hq];simp
    ·rw [beq_eq_false_iff_ne.mpr hq,beq_eq_false_iff_ne.mpr (fun z=>hq (Nat.succ.inj z))]
  ·cases h
section
variable {K:PySem.W.Frag} {H:Hp} {Ω:Om} {s:Shared}
structure fH (K:PySem.W.Frag) (H:Hp) (s:Shared):Prop where
 l:∀ a xs,Rd H a (.lst xs)->∃ its:List Value,Vals xs its/\s.heap.IsList a its.toArray
 t:∀ a xs,SqT K H a xs->∃ its:List Value,Vals xs its/\s.heap.IsTuple a its.toArray
theorem fH.of {X:Cx} {pins:List (Addr×Obj)} {σ:St} (I:Inv X pins σ H s):fH X.K H s:=
 ⟨fun a xs h=>by obtain ⟨its,r,p,_⟩:=I.list (.inl h);exact ⟨its,r,p.isList⟩,fun a xs h=>by obtain ⟨its,r,p,_⟩:=I.tuple h;exact ⟨its,r,p⟩⟩
theorem Ga {h:Heap} {a:Addr} {xs ys:List Value} (p:h.IsList a xs.toArray) (q:h.IsList a ys.toArray):xs=ys:=by
 obtain ⟨o,e,c,n,d⟩:=p
 obtain ⟨o',e',c',n',d'⟩:=q
 rw [e] at e'
 cases e'
 rw [d] at d'
 injection d' with z
 simpa using z
theorem Bg {h:Heap} {a:Addr} {xs ys:List Value} (p:h.IsTuple a xs.toArray) (q:h.IsTuple a ys.toArray):xs=ys:=by
 obtain ⟨o,e,c,n,d⟩:=p
 obtain ⟨o',e',c',n',d'⟩:=q
 rw [e] at e'
 cases e'
 rw [d] at d'
 injection d' with z
 simpa using z
theorem xl {h:Heap} {a:Addr} {xs ys:Array Value} (p:h.IsList a xs) (q:h.IsTuple a ys):False:=by
 obtain ⟨o,e,c,n,d⟩:=p
 obtain ⟨o',e',c',n',d'⟩:=q
 rw [e] at e'
 cases e'
 rw [c] at c'
 exact absurd c' (by decide)
inductive AsX (K:PySem.W.Frag) (H:Hp) (Ω:Om):D->V->Prop
 | non:AsX K H Ω .non .non
 | bl (b:Bool):AsX K H Ω (.bl b) (.bl b)
 | int (i:Int):AsX K H Ω (.int i) (.int i)
 | str (z:Str):AsX K H Ω (.str z) (.str z)
 | tup (ds:List D) (p:Addr) (vs:List V) (q:SqT K H p vs) (r:ax K H Ω ds vs):AsX K H Ω (.tup ds) (.ref p)
 | lst (ds:List D) (p:Addr) (vs:List V) (q:Rd H p (.lst vs)) (r:ax K H Ω ds vs):AsX K H Ω (.lst ds) (.ref p)
 | oth (d:D) (v:V) (h:DL.oth d=none):AsX K H Ω d v
theorem asX {d:D} {x:V} (h:cE K H Ω d x):AsX K H Ω d x:=by
 cases d with
 | non=>cases (show x=.non from h);exact .non
 | bl b=>cases (show x=.bl b from h);exact .bl b
 | int i=>cases (show x=.int i from h);exact .int i
 | str z=>cases (show x=.str z from h);exact .str z
 | tup ds=>obtain ⟨p,vs,e,q,r⟩:=eB h;subst e;exact .tup ds p vs q r
 | lst ds=>obtain ⟨p,vs,e,q,r⟩:=cS h;subst e;exact .lst ds p vs q r
 | _=>exact .oth _ _ rfl
theorem yZ {f:D->D->Option Bool} (ih:∀ {d1 d2:D} {b:Bool} {v:V},Rep K H Ω d1 v->Rep K H Ω d2 v->f d1 d2=some b->b=true):∀ {xs ys:List D} {vs:List V} {b:Bool},ax K H Ω xs vs->ax K H Ω ys vs->eQ f xs ys=some b->b=true
 | [],ys,vs,b,r1,r2,e=>by
  cases (show vs=[] from r1)
  cases ys with
  | nil=>cases e;rfl
  | cons y ys=>obtain ⟨v,q,e1,_⟩:=(show ∃ v r,_ from r2);cases e1
 | x :: xs,ys,vs,b,r1,r2,e=>by
  obtain ⟨v,q,e1,e2,e3⟩:=(show ∃ v r,_ from r1)
  subst e1
  cases ys with
  | nil=>cases (show _=[] from r2)
  | cons y ys=>
   obtain ⟨v',q',g1,g2,g3⟩:=(show ∃ v r,_ from r2)
   cases g1
   unfold eQ at e
   split at e
   ·rename_i p1 p2 z1 z2
    cases e
    rw [ih e2 g2 z1,yZ ih e3 g3 z2];rfl
   ·cases e
theorem sL {g:List D->List D->Option Bool} (hs:fH K H s) (hg:∀ {xs ys:List D} {vs:List V} {b:Bool},ax K H Ω xs vs->ax K H Ω ys vs->g xs ys=some b->b=true) {d1 d2:D} {b:Bool} {v:V} (h1:cE K H Ω d1 v) (h2:cE K H Ω d2 v) (e:kM g d1 d2=some b):b=true:=by
 cases asX h1 with
 | oth d v h=>rw [wm h] at e;cases e
 | non=>cases d2 <;> first | (cases e;done) | (cases e;rfl) | (cases h2;done) | (obtain ⟨_,_,z,_⟩:=(show ∃ a vs,_ from h2);cases z)
 | bl b=>cases d2 <;> first | (cases e;done) | (cases h2;cases e;exact beq_self_eq_true _) | (cases h2;done) | (obtain ⟨_,_,z,_⟩:=(show ∃ a vs,_ from h2);cases z)
 | int i=>cases d2 <;> first | (cases e;done) | (cases h2;cases e;exact beq_self_eq_true _) | (cases h2;done) | (obtain ⟨_,_,z,_⟩:=(show ∃ a vs,_ from h2);cases z)
 | str z=>cases d2 <;> first | (cases e;done) | (cases h2;cases e;exact beq_self_eq_true _) | (cases h2;done) | (obtain ⟨_,_,z,_⟩:=(show ∃ a vs,_ from h2);cases z)
 | tup ds p vs q r=>
  cases d2 with
  | tup ds2=>
   obtain ⟨p2,ws,z,q2,r2⟩:=eB h2
   cases z
   obtain ⟨i1,k1,z1⟩:=hs.t _ _ q
   obtain ⟨i2,k2,z2⟩:=hs.t _ _ q2
   cases Bg z1 z2
   cases k1.inj k2
   exact hg r r2 e
  | lst ds2=>
   obtain ⟨p2,ws,z,q2,r2⟩:=cS h2
   cases z
   obtain ⟨_,_,k1⟩:=hs.t _ _ q
   obtain ⟨_,_,k2⟩:=hs.l _ _ q2
   exact (xl k2 k1).elim
  | _=>first | (cases e;done) | (cases h2;done)
 | lst ds p vs q r=>
  cases d2 with
  | lst ds2=>
   obtain ⟨p2,ws,z,q2,r2⟩:=cS h2
   cases z
   obtain ⟨i1,k1,z1⟩:=hs.l _ _ q
   obtain ⟨i2,k2,z2⟩:=hs.l _ _ q2
   cases Ga z1 z2
   cases k1.inj k2
   exact hg r r2 e
  | tup ds2=>
   obtain ⟨p2,ws,z,q2,r2⟩:=eB h2
   cases z
   obtain ⟨_,_,k1⟩:=hs.t _ _ q2
   obtain ⟨_,_,k2⟩:=hs.l _ _ q
   exact (xl k2 k1).elim
  | _=>first | (cases e;done) | (cases h2;done)
theorem yC (hs:fH K H s):∀ (n:Nat) {d1 d2:D} {b:Bool} {v:V},Rep K H Ω d1 v->Rep K H Ω d2 v->dv n d1 d2=some b->b=true
 | 0,_,_,_,_,h1,h2,e=>sL hs (g:=eqG 0) (fun _ _ z=>nomatch z) h1.b h2.b e
 | n + 1,_,_,_,_,h1,h2,e=>sL hs (g:=eqG (n + 1)) (yZ (f:=dv n) (yC hs n)) h1.b h2.b e
theorem qm (hs:fH K H s) {n:Nat} {A:Around} {d1 d2:D} {b:Bool} {x y:V} {v u:Value} (hu:A.units < cLine) (h1:cE K H Ω d1 x) (h2:cE K H Ω d2 y) (r1:RelV x v) (r2:RelV y u) (e:dv n d1 d2=some b)
  (hc:∀ xs ys,¬ (d1=.tup xs/\d2=.tup ys)/\¬ (d1=.lst xs/\d2=.lst ys)):SeqAt.RcAt A s v u b/\SeqAt.RcNeAt A s v u (!b)/\SeqAt.EqAt A s v u b:=by
 have e:kM (eqG n) d1 d2=some b:=e
 cases asX h1 with
 | oth d v h=>rw [wm h] at e;cases e
 | non=>
  cases (show v=Value.none from r1)
  cases asX h2 with
  | oth d v h=>rw [ll h] at e;cases e
  | non=>cases (show u=Value.none from r2);cases e;exact ⟨.none_none,.none_none,.same _⟩
  | bl b2=>cases (show u=Value.bool b2 from r2);cases e;exact ⟨.none_bool _,.none_bool _,.none_bool _⟩
  | int i2=>obtain ⟨t2,rfl⟩:=(show ∃ t,u=Value.int i2 t from r2);cases e;exact ⟨.none_int _ _,.none_int _ _,.none_int _ _⟩
  | str i2=>obtain ⟨t2,rfl⟩:=(show ∃ t,u=Value.str i2 t from r2);cases e;exact ⟨.none_str _ _,.none_str _ _,.none_str _ _⟩
  | tup _ p2 _ q2 _=>cases (show u=Value.ref p2 from r2);obtain ⟨_,_,k⟩:=hs.t _ _ q2;cases e;exact ⟨.none_tuple k hu,.none_tuple k hu,.none_tuple k hu⟩
  | lst _ p2 _ q2 _=>cases (show u=Value.ref p2 from r2);obtain ⟨_,_,k⟩:=hs.l _ _ q2;cases e;exact ⟨.none_list k hu,.none_list k hu,.none_list k hu⟩
 | bl b1=>
  cases (show v=Value.bool b1 from r1)
  cases asX h2 with
  | oth d v h=>rw [ll h] at e;cases e
  | non=>cases (show u=Value.none from r2);cases e;exact ⟨.bool_none _,.bool_none _,.bool_none _⟩
  | bl b2=>cases (show u=Value.bool b2 from r2);cases e;exact ⟨.bool_bool _ _,.bool_bool _ _,.bool_bool _ _⟩
  | int i2=>cases e
  | str z2=>obtain ⟨t2,rfl⟩:=(show ∃ t,u=Value.str z2 t from r2);cases e;exact ⟨.bool_str _ _ _,.bool_str _ _ _,.bool_str _ _ _⟩
  | tup _ p2 _ q2 _=>cases (show u=Value.ref p2 from r2);obtain ⟨_,_,hl2⟩:=hs.t _ _ q2;cases e;exact ⟨.bool_tuple _ hl2 hu,.bool_tuple _ hl2 hu,.bool_tuple _ hl2 hu⟩
  | lst _ p2 _ q2 _=>cases (show u=Value.ref p2 from r2);obtain ⟨_,_,hl2⟩:=hs.l _ _ q2;cases e;exact ⟨.bool_list _ hl2 hu,.bool_list _ hl2 hu,.bool_list _ hl2 hu⟩
 | int i1=>
  obtain ⟨t1,rfl⟩:=(show ∃ t,v=Value.int i1 t from r1)
  cases asX h2 with
  | oth d v h=>rw [ll h] at e;cases e
  | non=>cases (show u=Value.none from r2);cases e;exact ⟨.int_none _ _,.int_none _ _,.int_none _ _⟩
  | bl b2=>cases e
  | int i2=>obtain ⟨t2,rfl⟩:=(show ∃ t,u=Value.int i2 t from r2);cases e;exact ⟨.int_int _ _ _ _,.int_int _ _ _ _,.int_int _ _ _ _⟩
  | str z2=>obtain ⟨t2,rfl⟩:=(show ∃ t,u=Value.str z2 t from r2);cases e;exact ⟨.int_str _ _ _ _,.int_str _ _ _ _,.int_str _ _ _ _⟩
  | tup _ p2 _ q2 _=>cases (show u=Value.ref p2 from r2);obtain ⟨_,_,hl2⟩:=hs.t _ _ q2;cases e;exact ⟨.int_tuple _ _ hl2 hu,.int_tuple _ _ hl2 hu,.int_tuple _ _ hl2 hu⟩
  | lst _ p2 _ q2 _=>cases (show u=Value.ref p2 from r2);obtain ⟨_,_,hl2⟩:=hs.l _ _ q2;cases e;exact ⟨.int_list _ _ hl2 hu,.int_list _ _ hl2 hu,.int_list _ _ hl2 hu⟩
 | str z1=>
  obtain ⟨t1,rfl⟩:=(show ∃ t,v=Value.str z1 t from r1)
  cases asX h2 with
  | oth d v h=>rw [ll h] at e;cases e
  | non=>cases (show u=Value.none from r2);cases e;exact ⟨.str_none _ _,.str_none _ _,.str_none _ _⟩
  | bl b2=>cases (show u=Value.bool b2 from r2);cases e;exact ⟨.str_bool _ _ _,.str_bool _ _ _,.str_bool _ _ _⟩
  | int i2=>obtain ⟨t2,rfl⟩:=(show ∃ t,u=Value.int i2 t from r2);cases e;exact ⟨.str_int _ _ _ _,.str_int _ _ _ _,.str_int _ _ _ _⟩
  | str z2=>obtain ⟨t2,rfl⟩:=(show ∃ t,u=Value.str z2 t from r2);cases e;exact ⟨.str_str _ _ _ _,.str_str _ _ _ _,.str_str _ _ _ _⟩
  | tup _ p2 _ q2 _=>cases (show u=Value.ref p2 from r2);obtain ⟨_,_,hl2⟩:=hs.t _ _ q2;cases e;exact ⟨.str_tuple _ _ hl2 hu,.str_tuple _ _ hl2 hu,.str_tuple _ _ hl2 hu⟩
  | lst _ p2 _ q2 _=>cases (show u=Value.ref p2 from r2);obtain ⟨_,_,hl2⟩:=hs.l _ _ q2;cases e;exact ⟨.str_list _ _ hl2 hu,.str_list _ _ hl2 hu,.str_list _ _ hl2 hu⟩
 | tup _ p1 _ q1 _=>
  cases (show v=Value.ref p1 from r1);obtain ⟨_,_,hl1⟩:=hs.t _ _ q1
  cases asX h2 with
  | oth d v h=>rw [ll h] at e;cases e
  | non=>cases (show u=Value.none from r2);cases e;exact ⟨.tuple_none hl1 hu,.tuple_none hl1 hu,.tuple_none hl1 hu⟩
  | bl b2=>cases (show u=Value.bool b2 from r2);cases e;exact ⟨.tuple_bool _ hl1 hu,.tuple_bool _ hl1 hu,.tuple_bool _ hl1 hu⟩
  | int i2=>obtain ⟨t2,rfl⟩:=(show ∃ t,u=Value.int i2 t from r2);cases e;exact ⟨.tuple_int _ _ hl1 hu,.tuple_int _ _ hl1 hu,.tuple_int _ _ hl1 hu⟩
  | str z2=>obtain ⟨t2,rfl⟩:=(show ∃ t,u=Value.str z2 t from r2);cases e;exact ⟨.tuple_str _ _ hl1 hu,.tuple_str _ _ hl1 hu,.tuple_str _ _ hl1 hu⟩
  | tup _ p2 _ q2 _=>exact absurd ⟨rfl,rfl⟩ (hc _ _).1
  | lst _ p2 _ q2 _=>cases (show u=Value.ref p2 from r2);obtain ⟨_,_,hl2⟩:=hs.l _ _ q2;cases e;exact ⟨.tuple_list hl1 hl2 hu,.tuple_list hl1 hl2 hu,.tuple_list hl1 hl2 hu⟩
 | lst _ p1 _ q1 _=>
  cases (show v=Value.ref p1 from r1);obtain ⟨_,_,hl1⟩:=hs.l _ _ q1
  cases asX h2 with
  | oth d v h=>rw [ll h] at e;cases e
  | non=>cases (show u=Value.none from r2);cases e;exact ⟨.list_none hl1 hu,.list_none hl1 hu,.list_none hl1 hu⟩
  | bl b2=>cases (show u=Value.bool b2 from r2);cases e;exact ⟨.list_bool _ hl1 hu,.list_bool _ hl1 hu,.list_bool _ hl1 hu⟩
  | int i2=>obtain ⟨t2,rfl⟩:=(show ∃ t,u=Value.int i2 t from r2);cases e;exact ⟨.list_int _ _ hl1 hu,.list_int _ _ hl1 hu,.list_int _ _ hl1 hu⟩
  | str z2=>obtain ⟨t2,rfl⟩:=(show ∃ t,u=Value.str z2 t from r2);cases e;exact ⟨.list_str _ _ hl1 hu,.list_str _ _ hl1 hu,.list_str _ _ hl1 hu⟩
  | tup _ p2 _ q2 _=>cases (show u=Value.ref p2 from r2);obtain ⟨_,_,hl2⟩:=hs.t _ _ q2;cases e;exact ⟨.list_tuple hl1 hl2 hu,.list_tuple hl1 hl2 hu,.list_tuple hl1 hl2 hu⟩
  | lst _ p2 _ q2 _=>exact absurd ⟨rfl,rfl⟩ (hc _ _).2
theorem xn {xs:List V} {its:List Value} (r:Vals xs its) {j:Nat} (h:j < its.toArray.size):∃ x,xs[j]?=some x/\RelV x its.toArray[j]:=by
 have hl:=r.length
 have h':j < its.length:=by simpa using h
 obtain ⟨x,hx⟩:∃ x,xs[j]?=some x:=⟨xs[j]'(by omega),List.getElem?_eq_getElem (by omega)⟩
 obtain ⟨u,hu,ru⟩:=r.get hx
 rw [List.getElem?_eq_getElem h'] at hu
 cases hu
 exact ⟨x,hx,by simpa using ru⟩
theorem rJ (hs:fH K H s) {n:Nat} (ih:∀ (A:Around) (d1 d2:D) (b:Bool) (x y:V) (v u:Value),A.units + n < cLine->Rep K H Ω d1 x->Rep K H Ω d2 y->RelV x v->RelV y u->dv n d1 d2=some b->SeqAt.EqAt A s v u b)
  {A:Around} {d1 d2:D} {b:Bool} {x y:V} {v u:Value} (hu:A.units + (n + 1) < cLine) (h1:cE K H Ω d1 x) (h2:cE K H Ω d2 y) (r1:RelV x v) (r2:RelV y u) (e:dv (n + 1) d1 d2=some b):SeqAt.RcAt A s v u b/\SeqAt.RcNeAt A s v u (!b):=by
 have items:∀ {xs ys:List D} {vs ws:List V} {i1 i2:List Value} {ee:Nat->Bool},ax K H Ω xs vs->ax K H Ω ys ws->Vals vs i1->Vals ws i2->(∀ i x y,xs[i]?=some x->ys[i]?=some y->dv n x y=some (ee i))->
   ∀ j (q1:j < i1.toArray.size) (q2:j < i2.toArray.size),SeqAt.EqAt A.in1 s i1.toArray[j] i2.toArray[j] (ee j):=by
  intro xs ys vs ws i1 i2 ee p1 p2 p3 p4 he j q1 q2
  obtain ⟨x1,g1,g2⟩:=xn p3 q1
  obtain ⟨y1,g3,g4⟩:=xn p4 q2
  have l1:=p1.length
  have l2:=p2.length
  have b1:j < xs.length:=by rw [l1];exact (List.getElem?_eq_some_iff.mp g1).1
  have b2:j < ys.length:=by rw [l2];exact (List.getElem?_eq_some_iff.mp g3).1
  obtain ⟨x2,z1,z2⟩:=p1.get (List.getElem?_eq_getElem b1)
  obtain ⟨y2,z3,z4⟩:=p2.get (List.getElem?_eq_getElem b2)
  rw [g1] at z1;cases z1
  rw [g3] at z3;cases z3
  exact ih A.in1 _ _ _ _ _ _ _ (by show A.units + 1 + n < cLine;omega) z2 z4 g2 g4 (he j _ _ (List.getElem?_eq_getElem b1) (List.getElem?_eq_getElem b2))
 by_cases ht:∃ xs ys,d1=.tup xs/\d2=.tup ys
 ·obtain ⟨xs,ys,rfl,rfl⟩:=ht
  obtain ⟨p1,vs,e1,q1,w1⟩:=eB h1
  obtain ⟨p2,ws,e2,q2,w2⟩:=eB h2
  cases e1;cases e2
  cases (show v=Value.ref p1 from r1);cases (show u=Value.ref p2 from r2)
  obtain ⟨i1,g1,hl1⟩:=hs.t _ _ q1
  obtain ⟨i2,g2,hl2⟩:=hs.t _ _ q2
  obtain ⟨ee,he,hb⟩:=yG (f:=dv n) e
  have hb':b=((List.range (min i1.toArray.size i2.toArray.size)).all ee&&i1.toArray.size == i2.toArray.size):=by
   rw [hb,List.size_toArray,List.size_toArray,<-g1.length,<-g2.length,<-w1.length,<-w2.length]
  rw [hb']
  exact ⟨.tuples hl1 hl2 (by omega) (items w1 w2 g1 g2 he),.tuples hl1 hl2 (by omega) (items w1 w2 g1 g2 he)⟩
 ·by_cases hl:∃ xs ys,d1=.lst xs/\d2=.lst ys
  ·obtain ⟨xs,ys,rfl,rfl⟩:=hl
   obtain ⟨p1,vs,e1,q1,w1⟩:=cS h1
   obtain ⟨p2,ws,e2,q2,w2⟩:=cS h2
   cases e1;cases e2
   cases (show v=Value.ref p1 from r1);cases (show u=Value.ref p2 from r2)
   obtain ⟨i1,g1,hl1⟩:=hs.l _ _ q1
   obtain ⟨i2,g2,hl2⟩:=hs.l _ _ q2
   have e':eQ (dv n) xs ys=some b:=e
   have s1:i1.toArray.size=xs.length:=by rw [List.size_toArray,<-g1.length,<-w1.length]
   have s2:i2.toArray.size=ys.length:=by rw [List.size_toArray,<-g2.length,<-w2.length]
   by_cases hlen:xs.length=ys.length
   ·obtain ⟨ee,he,hb⟩:=xZ e' hlen
    have hb':b=(List.range i1.toArray.size).all ee:=by rw [hb,s1]
    rw [hb']
    exact ⟨.lists hl1 hl2 (by rw [s1,s2,hlen]) (by omega) (items w1 w2 g1 g2 he),.lists hl1 hl2 (by rw [s1,s2,hlen]) (by omega) (items w1 w2 g1 g2 he)⟩
   ·have hb:=tq e' hlen
    subst hb
    have hne:(i1.toArray.size != i2.toArray.size)=true:=by rw [s1,s2];simpa using hlen
    exact ⟨.lists_lengths hl1 hl2 hne (by omega),.lists_lengths hl1 hl2 hne (by omega)⟩
  ·have:=qm hs (A:=A) (by omega) h1 h2 r1 r2 e fun xs ys=>⟨fun z=>ht ⟨xs,ys,z⟩,fun z=>hl ⟨xs,ys,z⟩⟩
   exact ⟨this.1,this.2.1⟩
theorem yb (hs:fH K H s):∀ (n:Nat) (A:Around) (d1 d2:D) (b:Bool) (x y:V) (v u:Value),A.units + n < cLine->Rep K H Ω d1 x->Rep K H Ω d2 y->RelV x v->RelV y u->dv n d1 d2=some b->SeqAt.EqAt A s v u b:=by
 intro n
 induction n with
 | zero=>
  intro A d1 d2 b x y v u hu h1 h2 r1 r2 e
  refine (qm hs (by omega) h1.b h2.b r1 r2 e fun xs ys=>⟨?_,?_⟩).2.2
  ·rintro ⟨rfl,rfl⟩;cases e
  ·rintro ⟨rfl,rfl⟩;cases e
 | succ n ih=>
  intro A d1 d2 b x y v u hu h1 h2 r1 r2 e
  by_cases hc:∀ xs ys,¬ (d1=.tup xs/\d2=.tup ys)/\¬ (d1=.lst xs/\d2=.lst ys)
  ·exact (qm hs (by omega) h1.b h2.b r1 r2 e hc).2.2
  ·have rc:=(rJ hs ih hu h1.b h2.b r1 r2 e).1
   have refs:∃ p q,x=.ref p/\y=.ref q:=by
    apply Classical.byContradiction
    intro hn
    apply hc
    intro xs ys
    refine ⟨?_,?_⟩
    ·rintro ⟨rfl,rfl⟩
     obtain ⟨p,_,e1,_⟩:=(show ∃ a vs,_ from h1)
     obtain ⟨q,_,e2,_⟩:=(show ∃ a vs,_ from h2)
     exact hn ⟨p,q,e1,e2⟩
    ·rintro ⟨rfl,rfl⟩
     obtain ⟨p,_,e1,_⟩:=(show ∃ a vs,_ from h1)
     obtain ⟨q,_,e2,_⟩:=(show ∃ a vs,_ from h2)
     exact hn ⟨p,q,e1,e2⟩
   obtain ⟨p,q,rfl,rfl⟩:=refs
   cases (show v=Value.ref p from r1);cases (show u=Value.ref q from r2)
   by_cases hpq:p=q
   ·subst hpq
    rw [yC hs (n + 1) h1 h2 e]
    exact .same _
   ·exact .of_refs hpq rc
end
section
variable {X:Cx}
def gEq (d1 d2:D):Option DV:=(dv 8 d1 d2).map fun b=>.val (.bl b)
def gNe (d1 d2:D):Option DV:=(dv 8 d1 d2).map fun b=>.val (.bl (!b))
def sW (K:PySem.W.Frag) (neg:Bool):R2:=fun x y H Q=>∃ Ω d1 d2 b,cE K H Ω d1 x/\cE K H Ω d2 y/\dv 8 d1 d2=some b/\Q (.bl (if neg then !b else b)) H
theorem IW (hu:X.A.units + 64 < cLine):OpR X (compareOp .Eq) (sW X.K false):=by
 intro pins s σ H x y v u Q I rx ry h
 obtain ⟨Ω,d1,d2,b,h1,h2,e,q⟩:=h
 exact (rJ (fH.of I) (n:=7) (yb (fH.of I) 7) (by omega) h1 h2 rx ry e).1 _ _ _ _ ⟨.bl b,H,I,rfl,q⟩
theorem HX (hu:X.A.units + 64 < cLine):OpR X (compareOp .NotEq) (sW X.K true):=by
 intro pins s σ H x y v u Q I rx ry h
 obtain ⟨Ω,d1,d2,b,h1,h2,e,q⟩:=h
 exact (rJ (fH.of I) (n:=7) (yb (fH.of I) 7) (by omega) h1 h2 rx ry e).2 _ _ _ _ ⟨.bl (!b),H,I,rfl,q⟩
theorem bK (hu:X.A.units + 64 < cLine):eX X .Eq gEq:=⟨_,IW hu,by
 intro E σ H δ Ω x y d1 d2 z Q R r1 r2 hz h
 obtain ⟨b,e,rfl⟩:=Option.map_eq_some_iff.mp hz
 exact ⟨Ω,d1,d2,b,r1,r2,e,h.now R rfl⟩⟩
theorem fm (hu:X.A.units + 64 < cLine):eX X .NotEq gNe:=⟨_,HX hu,by
 intro E σ H δ Ω x y d1 d2 z Q R r1 r2 hz h
 obtain ⟨b,e,rfl⟩:=Option.map_eq_some_iff.mp hz
 exact ⟨Ω,d1,d2,b,r1,r2,e,h.now R rfl⟩⟩
end
end DL
namespace DL
open PySem PySem.Spec PyProof.Rows L2
def DO (K:PySem.W.Frag) (E:Str->Hp->Prop) (to:TO) (f:DM (Option Int)):Prop:=∀ σ H δ Ω,az K H Ω σ δ->∀ Q:Option Int->Hp->Prop,Wg E H Ω (fun o δ' H' Ω'=>az K H' Ω' σ δ'->Q o H') (f δ)->to σ H Q
def POD (X:Cx) (E:Str->Hp->Prop) (e:Option Expr) (f:DM (Option Int)):Prop:=∃ t,PO X e t/\DO X.K E t f
def lA:DM (Option Int):=.ret none
def cV (f:DM DV):DM (Option Int):=(fN f).bd fun a δ=>match res δ a with
 | some (.int i)=>.ok (some i) δ
 | _=>.un
def cutD {α:Type} (xs:List α) (lo hi:Option Int):List α:=(xs.drop (HT.sIx xs.length 0 lo)).take (HT.sIx xs.length xs.length hi - HT.sIx xs.length 0 lo)
def gI (d:D) (lo hi:Option Int):Option DV:=match d with
 | .lst ds=>some (.own (cutD ds lo hi))
 | .str z=>if z.length<=sizeLine then some (.val (.str (Txt.slice z lo hi))) else none
 | _=>none
def eT (f:DM DV) (lo hi:DM (Option Int)):DM DV:=(fN f).bd fun a=>lo.bd fun l=>hi.bd fun u=>fun δ=>match res δ a with
 | some d=>(match gI d l u with | some r=>.ok r δ | none=>.un)
 | none=>.un
section
variable {X:Cx} {E:Str->Hp->Prop} {pos p2:Pos} {e:Expr} {f:DM DV} {lo hi:Option Expr} {fl fu:DM (Option Int)}
theorem pd:POD X E none lA:=⟨_,G9,fun σ H δ Ω R Q h=>h H Ω .refl R⟩
theorem ij (h:PED X E e f):POD X E (some e) (cV f):=by
 obtain ⟨t,p,d⟩:=h
 refine ⟨_,ID p,fun σ H δ Ω R Q h=>?_⟩
 refine d.use R h fun a x δ1 H1 Ω1 _ s1 R1 r1 h1=>?_
 (try dsimp only at h1)
 split at h1
 ·rename_i i q1
  exact ⟨i,r1.res R1 q1,h1 H1 Ω1 .refl R1⟩
 ·exact h1.elim
theorem kQ (he:PED X E e f) (hl:POD X E lo fl) (hu:POD X E hi fu):PED X E (.Subscript e (.Slice lo hi none p2) pos) (eT f fl fu):=by
 obtain ⟨t,p,d⟩:=he
 obtain ⟨tl,pl,dl⟩:=hl
 obtain ⟨tu,pu,du⟩:=hu
 refine ⟨_,FA (Gz.or Hi) p pl pu,fun σ H δ Ω R Q h=>?_⟩
 refine d.use R h fun a x δ1 H1 Ω1 _ s1 R1 r1 h1=>?_
 refine dl σ H1 δ1 Ω1 R1 _ (Wg.bd h1 fun l δ2 H2 Ω2 e2 h2 R2=>?_)
 refine du σ H2 δ2 Ω2 R2 _ (Wg.bd h2 fun u δ3 H3 Ω3 e3 h3 R3=>?_)
 have r3:=r1.ext s1 (e2.trans e3)
 cases q:res δ3 a with
 | none=>rw [q] at h3;exact h3.elim
 | some dd=>
  rw [q] at h3
  cases dd with
  | lst ds=>
   obtain ⟨b,vs,e1,q2,q3⟩:=cS (r3.res R3 q)
   refine .inl ⟨b,vs,e1,.inl q2,fun p hp=>?_⟩
   have hc:ax X.K H3 Ω3 (cutD ds l u) (kj vs l u):=by
    unfold cutD kj
    rw [q3.length]
    exact (q3.drop _).take _
   exact Wg.alloc1 h3 R3 hp hc
  | str z=>
   unfold gI at h3
   (try dsimp only at h3)
   split at h3
   ·rename_i r hr
    split at hr
    ·rename_i hz
     cases hr
     exact .inr ⟨z,r3.res R3 q,hz,Wg.now h3 R3 rfl⟩
    ·cases hr
   ·exact h3.elim
  | _=>exact h3.elim
end
end DL
namespace DL
open PySem PySem.Spec PyProof.Rows L2
theorem md {K:PySem.W.Frag} {mg:Str->Option Value} {x:Str} {i:Int} {t:Tok} (h:mg x=some (.int i t)):jH K mg x (.int i):=⟨_,.int i,h,⟨t,rfl⟩,fun _ _=>rfl⟩
theorem Hn {K:PySem.W.Frag} {ce:Str->Value} {M:List D->Ro} {H:Hp} {a:Addr} {ns:List Int} {E:XK} (hM:M [.scr ns]=.ok (.bl true)) (hO:oI H) (hS:SqL K H a (ns.map V.int)):spP K ce 1 M [.ref a] H (fun v _=>v=.bl true) E:=by
 refine ⟨rfl,fun _=>none,[.scr ns],fun _ _ q=>(by cases q),fun _ _ q=>(by cases q),.cons (show ∃ a,_ from ⟨a,rfl,?_⟩) .nil,?_⟩
 ·rcases hS with (h | ⟨o,h⟩) | h
  ·rcases hO a with z | ⟨o,xs,z⟩ <;> (rw [z] at h;cases h)
  ·exact .inl ⟨o,h⟩
  ·exact .inr h
 ·rw [hM]
  exact fun H' Ω' _ _ v r=>r
end DL
namespace DL
open PySem L2
theorem str_len (a b:Str):(a++b).length=a.length + b.length:=by
 show (Str.append a b).length=_
 unfold Str.append Str.length
 exact Array.size_append
theorem IA (sep:Str) (ls:List Str):Txt.join sep ls=Str.join sep ls:=StrLaws.glued_eq_join sep ls
theorem yf:∀ (xs:List Str),strsOf (xs.map D.str)=some xs
 | []=>rfl
 | x :: xs=>by
  show (strsOf (xs.map D.str)).map _=_
  rw [yf xs];rfl
theorem wM {fe:DM DV} {fc:DM Bool} {rest:DSt} {g:D->D} {p:D->Bool}:∀ (ds:List D) (s0:Sl) (out:List D),out.length + ds.length<=sizeLine->
  (∀ d∈ds,fc (.sh d :: rest)=.ok (p d) (.sh d :: rest))->(∀ d∈ds,p d=true->fN fe (.sh d :: rest)=.ok (.val (g d)) (.sh d :: rest))->
  cv (bo 0) fc fe ds (s0 :: rest) out=some (out++(ds.filter p).map g)
 | [],_,out,_,_,_=>by simp [cv]
 | d :: ds,s0,out,hl,hc,he=>by
  have h1:=hc d List.mem_cons_self
  have hl':out.length + (ds.length + 1)<=sizeLine:=hl
  have ih:=fun out' (h:out'.length + ds.length<=sizeLine)=>wM ds (.sh d) out' h (fun x hx=>hc x (List.mem_cons_of_mem _ hx)) (fun x hx=>he x (List.mem_cons_of_mem _ hx))
  unfold cv
  show (match fc (.sh d :: rest) with | .ok true δ2=>_ | .ok false δ2=>_ | _=>_)=_
  rw [h1]
  cases hp:p d with
  | false=>
   show cv (bo 0) fc fe ds (.sh d :: rest) out=_
   rw [ih out (by omega),List.filter_cons_of_neg (by simp [hp])]
  | true=>
   show (match fN fe (.sh d :: rest) with | .ok (.val v) δ3=>_ | _=>_)=_
   rw [he d List.mem_cons_self hp]
   show (if out.length < sizeLine then cv (bo 0) fc fe ds (.sh d :: rest) (out++[g d]) else none)=_
   rw [if_pos (by omega),ih _ (by rw [List.length_append,List.length_singleton];omega),List.filter_cons_of_pos hp,List.map_cons,List.append_assoc]
   rfl
theorem comp_map {fe:DM DV} {rest:DSt} {g:D->D} (ds:List D) (s0:Sl) (hl:ds.length<=sizeLine) (he:∀ d∈ds,fN fe (.sh d :: rest)=.ok (.val (g d)) (.sh d :: rest)) :
  cv (bo 0) (.ret true) fe ds (s0 :: rest) []=some (ds.map g):=by
 have:=wM (fc:=.ret true) (p:=fun _=>true) (g:=g) ds s0 [] (by simpa using hl) (fun _ _=>rfl) (fun d hd _=>he d hd)
 rw [List.filter_eq_self.mpr (fun _ _=>rfl),List.nil_append] at this
 exact this
def okD:Nat->D->Bool
 | _,.non=>true
 | _,.int _=>true
 | _,.str _=>true
 | _,.bl _=>true
 | n + 1,.tup xs=>xs.all (okD n)
 | n + 1,.lst xs=>xs.all (okD n)
 | _,_=>false
theorem fJ:∀ (n:Nat) (d:D),okD n d=true->dv n d d=some true:=by
 intro n
 induction n with
 | zero=>intro d h;cases d <;> first | (cases h;done) | rfl | exact congrArg some (beq_self_eq_true _)
 | succ n ih=>
  have items:∀ xs:List D,xs.all (okD n)=true->eQ (dv n) xs xs=some true:=by
   intro xs
   induction xs with
   | nil=>intro _;rfl
   | cons x xs ihx=>
    intro h
    rw [List.all_cons,Bool.and_eq_true] at h
    unfold eQ
    rw [ih x h.1,ihx h.2]
    rfl
  intro d h
  cases d with
  | tup xs=>exact items xs h
  | lst xs=>exact items xs h
  | _=>first | (cases h;done) | rfl | exact congrArg some (beq_self_eq_true _)
theorem BL {lo:Int} {n:Nat} {d:D} (h:d∈bN lo n):∃ k:Nat,k < n/\d=.int (lo + k):=by
 unfold bN at h
 obtain ⟨k,hk,e⟩:=List.mem_map.mp h
 exact ⟨k,List.mem_range.mp hk,e.symm⟩
theorem lx {n:Nat} {d:D} (h:d∈bN 0 n):∃ k:Nat,k < n/\d=.int (k:Int):=by
 obtain ⟨k,hk,e⟩:=BL h
 exact ⟨k,hk,by rw [e,Int.zero_add]⟩
theorem jD (lo:Int) (n:Nat):(bN lo n).length=n:=by unfold bN;rw [List.length_map,List.length_range]
end DL
namespace DL
open PySem L2
section
variable {f f1 f2 g fo:DM DV} {fa r:DM (List DV)} {δ δ1 δ2 δ3:DSt} {a a1 a2:DV} {d d1 d2:D} {z:DV} {as:List DV} {ds es:List D} {i n:Nat} {R:Rs Fl} {S S1:DM Fl} {c c1:DM Bool} {b b1:Bool}
theorem aq (h:δ[i]?=some (.sh d)):ae i δ=.ok (.val d) δ:=by unfold ae;rw [h]
theorem iR (h:δ[i]?=some (.ow ds)):ae i δ=.ok (.slot i) δ:=by unfold ae;rw [h]
theorem aH:fC d δ=.ok (.val d) δ:=rfl
theorem aE:ai δ=.ok [] δ:=rfl
theorem av (h1:f δ=.ok a δ1) (h2:r δ1=.ok as δ2):af f r δ=.ok (norm a :: as) δ2:=by unfold af fN DM.bd DM.ret;simp only [h1,h2]
theorem aL {gg:D->D->Option DV} (h1:f1 δ=.ok a1 δ1) (h2:f2 δ1=.ok a2 δ2) (e1:res δ2 (norm a1)=some d1) (e2:res δ2 (norm a2)=some d2) (hg:gg d1 d2=some z):ah f1 f2 gg δ=.ok z δ2:=by
 unfold ah fN DM.bd DM.ret;simp only [h1,h2,e1,e2,hg]
theorem hW {gg:D->Option DV} (h1:f δ=.ok a δ1) (e1:res δ1 (norm a)=some d1) (hg:gg d1=some z):fUn f gg δ=.ok z δ1:=by
 unfold fUn fN DM.bd DM.ret;simp only [h1,e1,hg]
theorem dX {gg:List D->Option DV} (h:fa δ=.ok as δ1) (e:gw δ1 as=some ds) (hg:gg ds=some z):fCB fa gg δ=.ok z δ1:=by
 unfold fCB DM.bd;simp only [h,e,hg]
theorem iT {M:List D->Ro} (h:fa δ=.ok as δ1) (e:cL as=some ds) (hn:ds.length=n) (hM:M ds=.ok d):aF n fa M δ=.ok (.val d) δ1:=by
 unfold aF DM.bd;simp only [h,e,hn,if_true,hM]
def sx:Ro->DSt->Rs DV
 | .un,_=>.un
 | .er c,_=>.er c
 | .ok d,δ=>.ok (.val d) δ
 | .own es,δ=>.ok (.own es) δ
theorem Ef {M:List D->Ro} {ro:Ro} {Z:Rs DV} (h:fa δ=.ok as δ1) (e:cL as=some ds) (hn:ds.length=n) (hM:M ds=ro) (hr:sx ro δ1=Z):aF n fa M δ=Z:=by
 unfold aF DM.bd;simp only [h,e,hn,if_true,hM];cases ro <;> exact hr
theorem IH:sx (.ok d) δ=.ok (.val d) δ:=rfl
theorem Gm:sx (.own ds) δ=.ok (.own ds) δ:=rfl
theorem eJ {M:List D->Ro} (h:fa δ=.ok as δ1) (e:cL as=some ds) (hn:ds.length=n) (hM:M ds=.own es):aF n fa M δ=.ok (.own es) δ1:=by
 unfold aF DM.bd;simp only [h,e,hn,if_true,hM]
theorem cW (h:fa δ=.ok as δ1) (e:cL as=some ds) (hl:ds.length<=sizeLine):br fa δ=.ok (.val (.tup ds)) δ1:=by
 unfold br DM.bd;simp only [h,e,hl,if_true]
theorem dh (h:fa δ=.ok as δ1) (e:cL as=some ds) (hl:ds.length<=sizeLine):bB fa δ=.ok (.own ds) δ1:=by
 unfold bB DM.bd;simp only [h,e,hl,if_true]
theorem cf (h:f δ=.ok a δ1) (e:norm a=.val d):aG i f δ=.ok .nx (δ1.set i (.sh d)):=by
 unfold aG fN DM.bd DM.ret;simp only [h,e]
theorem fX (h:f δ=.ok (.own ds) δ1):cJ i f δ=.ok .nx (δ1.set i (.ow ds)):=by
 unfold cJ DM.bd;simp only [h]
def nX (r:Rs Fl) (S1:DM Fl):Rs Fl:=match r with
 | .ok .nx δ'=>S1 δ'
 | r=>r
theorem aB {R1:Rs Fl} (h1:S δ=R1) (h2:nX R1 S1=R):ak S S1 δ=R:=by unfold ak;rw [h1];exact h2
theorem aI (h:S1 δ=R):nX (.ok .nx δ) S1=R:=h
theorem ma:nX (.ok (.rt d) δ) S1=.ok (.rt d) δ:=rfl
theorem oz:nX (.ok (.rto ds) δ) S1=.ok (.rto ds) δ:=rfl
theorem cC:aN δ=.ok .nx δ:=rfl
theorem mZ (h:f δ=.ok (.own ds) δ1):aD f δ=.ok (.rto ds) δ1:=by unfold aD DM.bd;simp only [h]
theorem jP (h:f δ=.ok (.slot i) δ1) (e:δ1[i]?=some (.ow ds)):aD f δ=.ok (.rto ds) (δ1.set i .no):=by unfold aD DM.bd;simp only [h,e]
def kN (r:Rs DV):Rs Fl:=match r with
 | .un=>.un
 | .er c=>.er c
 | .ok (.val d) δ=>.ok (.rt d) δ
 | .ok (.own ds) δ=>.ok (.rto ds) δ
 | .ok (.slot i) δ=>(match δ[i]? with | some (.ow ds)=>.ok (.rto ds) (δ.set i .no) | _=>.un)
 | .ok (.fld _ _) _=>.un
theorem dR {Z:Rs DV} (h:f δ=Z) (h2:kN Z=R):aD f δ=R:=by
 subst h
 rw [<-h2]
 unfold aD DM.bd kN
 cases f δ with
 | un=>rfl
 | er c=>rfl
 | ok a δ'=>cases a <;> rfl
theorem fD:kN (.ok (.val d) δ)=.ok (.rt d) δ:=rfl
theorem nL:kN (.ok (.own ds) δ)=.ok (.rto ds) δ:=rfl
theorem EV (e:δ[i]?=some (.ow ds)):kN (.ok (.slot i) δ)=.ok (.rto ds) (δ.set i .no):=by unfold kN;simp only [e]
theorem bx (h:f δ=.ok a δ1) (e:res δ1 (norm a)=some (.bl b)):aw f δ=.ok b δ1:=by unfold aw fN DM.bd DM.ret;simp only [h,e]
theorem jh (ho:δ[i]?=some (.ow es)) (h:f δ=.ok a δ1) (e:norm a=.val d) (e2:δ1[i]?=some (.ow ds)) (hl:ds.length < sizeLine):bR i f δ=.ok .nx (δ1.set i (.ow (ds++[d]))):=by
 unfold bR jj zj fN DM.bd DM.ret;simp only [ho,if_true,h,e,e2,hl]
theorem jq {fi:DM (List D)} {t:D->DSt->Option DSt} {fc:DM Bool} {fe:DM DV} {sel:List (Option Nat)} (h:fi δ=.ok ds δ1) (hc:cv t fc fe ds (jW δ1 sel) []=some es):fLC fi t fc fe sel δ=.ok (.own es) δ1:=by
 unfold fLC DM.bd;simp only [h,hc]
theorem kT {j:Int} (h:fa δ=.ok as δ1) (e:as=[.val (.int j)]) (hs:fI j=true):dU fa δ=.ok (bN 0 j.toNat) δ1:=by subst e;unfold dU DM.bd;simp only [h,hs,if_true]
theorem gh {gg:D->Option (List D)} (h:f δ=.ok a δ1) (e:norm a=.val d) (hg:gg d=some ds):fIt f gg δ=.ok ds δ1:=by unfold fIt fN DM.bd DM.ret;simp only [h,e,hg]
theorem fP {fi:DM (List D)} {t:D->DSt->Option DSt} (h:fi δ=.ok ds δ1) (hr:bP t S ds δ1=R):cu fi t S δ=R:=by unfold cu DM.bd;simp only [h];exact hr
theorem HR {gg:D->List D->Option DV} {x:Str} (h1:fo δ=.ok a δ1) (e0:res δ1 (norm a)=some (.str x)) (h2:fa δ1=.ok as δ2) (e1:res δ2 (norm a)=some d) (e2:gw δ2 as=some ds) (hg:gg d ds=some z):fBM fo fa gg δ=.ok z δ2:=by
 unfold fBM fN DM.bd DM.ret;simp only [h1,e0,h2,e1,e2,hg]
theorem v9 {lo hi:DM (Option Int)} {l u:Option Int} (h:f δ=.ok a δ1) (hl:lo δ1=.ok l δ2) (hu:hi δ2=.ok u δ3) (e:res δ3 (norm a)=some d) (hg:gI d l u=some z):eT f lo hi δ=.ok z δ3:=by
 unfold eT fN DM.bd DM.ret;simp only [h,hl,hu,e,hg]
theorem sO:lA δ=.ok none δ:=rfl
theorem sV {j:Int} (h:f δ=.ok a δ1) (e:res δ1 (norm a)=some (.int j)):cV f δ=.ok (some j) δ1:=by unfold cV fN DM.bd DM.ret;simp only [h,e]
theorem sU {Z:Rs DV} (h:f δ=.ok a δ1) (e:res δ1 (norm a)=some (.bl b)) (hb:b=true) (hr:g δ1=Z):ft f g δ=Z:=by
 unfold ft j8 fN DM.bd DM.ret;simp only [h,e,hb,if_true];exact hr
theorem Gi (h:f δ=.ok a δ1) (e:res δ1 (norm a)=some (.bl b)) (hb:b=false):ft f g δ=.ok (.val (.bl false)) δ1:=by
 unfold ft j8 fN DM.bd DM.ret;simp only [h,e,hb,Bool.false_eq_true,if_false];rfl
theorem xc (h:f δ=.ok a δ1) (e:res δ1 (norm a)=some (.bl b)):gf f δ=.ok (.val (.bl (!b))) δ1:=by
 unfold gf j8 fN DM.bd DM.ret;simp only [h,e];rfl
theorem eP (h:c δ=.ok b δ1):b9 c δ=.ok (!b) δ1:=by unfold b9 DM.bd;simp only [h];rfl
theorem jR {Z:Rs Bool} (h:c δ=.ok b δ1) (hb:b=false) (hr:c1 δ1=Z):bM c c1 δ=Z:=by unfold bM DM.bd;simp only [h,hb,Bool.false_eq_true,if_false];exact hr
theorem bD (h:c δ=.ok b δ1) (hr:(if b=true then S δ1 else S1 δ1)=R):fIf c S S1 δ=R:=by unfold fIf DM.bd;simp only [h];cases b <;> exact hr
theorem IV {Z:Rs DV} (h:f δ=.ok a δ1) (e:res δ1 (norm a)=some (.bl b)) (hr:(if b=true then g δ1 else .ok (.val (.bl false)) δ1)=Z):ft f g δ=Z:=by
 cases b with
 | true=>exact sU h e rfl hr
 | false=>exact (Gi h e rfl).trans hr
theorem DF {Z:Rs DV} (h:c δ=.ok b δ1) (hr:(if b=true then f δ1 else g δ1)=Z):gR c f g δ=Z:=by unfold gR DM.bd;simp only [h];cases b <;> exact hr
theorem Js {Z:Rs Bool} (h:c δ=.ok b δ1) (hr:(if b=true then .ok true δ1 else c1 δ1)=Z):bM c c1 δ=Z:=by unfold bM DM.bd;simp only [h];cases b <;> exact hr
theorem dQ {α:Type} {x y z:α} (hb:b=true) (h:x=z):(if b=true then x else y)=z:=by rw [hb];exact h
theorem cy {α:Type} {x y z:α} (hb:b=false) (h:y=z):(if b=true then x else y)=z:=by rw [hb];exact h
theorem vS {t:D->DSt->Option DSt}:bP t S [] δ=.ok .nx δ:=rfl
theorem dj {t:D->DSt->Option DSt} (ht:t d δ=some δ1) (hb:S δ1=.ok .nx δ2) (hr:bP t S ds δ2=R):bP t S (d :: ds) δ=R:=by unfold bP;rw [ht];dsimp only;rw [hb];exact hr
theorem fZ {body:DM Fl} (h:body (ds.map .sh++List.replicate (n - ds.length) .no)=.ok (.rt d) δ1):bz body n ds=.ok d:=by unfold bz;rw [h]
theorem cG {body:DM Fl} (h:body (ds.map .sh++List.replicate (n - ds.length) .no)=.ok (.rto es) δ1):bz body n ds=.own es:=by unfold bz;rw [h]
theorem mQ {i j:Int}:aV (.int i) (.int j)=some (.val (.int (i + j))):=rfl
theorem AO {x y:Str} (h:x.length + y.length<=sizeLine):aV (.str x) (.str y)=some (.val (.str (x++y))):=if_pos h
theorem Ck {xs ys:List D} (h:xs.length + ys.length<=sizeLine):aV (.lst xs) (.lst ys)=some (.own (xs++ys)):=if_pos h
theorem CL {i j:Int} (h:kX i j=true):bA (.int i) (.int j)=some (.val (.int (i * j))):=if_pos h
theorem GC {i j:Int} (h:cdiv j=true):cZ (.int i) (.int j)=some (.val (.int (i / j))):=if_pos h
theorem uw {i j:Int} (h:decide (0 < j)=true):bU (.int i) (.int j)=some (.val (.int (i % j))):=if_pos h
theorem og {j:Int} (h:atI ds j=some d):gIx (.lst ds) (.int j)=some (.val d):=by show (atI ds j).map DV.val=_;rw [h];rfl
theorem GU {j:Int} (h:atI ds j=some d):gIx (.tup ds) (.int j)=some (.val d):=by show (atI ds j).map DV.val=_;rw [h];rfl
theorem vj {α:Type} (x:α) (xs:List α):atI (x :: xs) 0=some x:=by
 unfold atI ixN
 rw [if_pos (Int.le_refl 0),if_pos (by rw [List.length_cons];omega)]
 rfl
theorem nC:gIx (.lst (d :: ds)) (.int 0)=some (.val d):=og (vj d ds)
theorem sG {α:Type} {xs:List α} {j:Int} {x:α} (h0:0<=j) (h:xs[j.toNat]?=some x):atI xs j=some x:=by
 have hl:=(List.getElem?_eq_some_iff.mp h).1
 unfold atI ixN
 rw [if_pos h0,if_pos (by omega)]
 exact h
theorem ox {x:Str} (h:x.length<=sizeLine):bq [.str x]=some (.val (.int x.length)):=if_pos h
theorem EO {sep:Str} {ys:List Str} (e:strsOf ds=some ys) (h:(ys.map (·.length)).sum + ys.length * sep.length<=16777216):nY (.str sep) [.lst ds]=some (.val (.str (Txt.join sep ys))):=by
 show (strsOf ds).bind _=_;rw [e];exact if_pos h
theorem kK {b:Bool} (h:dv 8 d1 d2=some b):gEq d1 d2=some (.val (.bl b)):=by unfold gEq;rw [h];rfl
theorem eN {b:Bool} (h:dv 8 d1 d2=some b):gNe d1 d2=some (.val (.bl (!b))):=by unfold gNe;rw [h];rfl
theorem EK {i j:Int} (h1:-18446744073709551616 < i) (h2:i < 18446744073709551616):kX i j=true:=by unfold kX;rw [decide_eq_true h1,decide_eq_true h2];rfl
theorem iM {j:Int} (h1:-4611686018427387904<=j) (h2:j < 4611686018427387904):fI j=true:=by unfold fI;simp;exact ⟨by omega,by omega⟩
theorem lh {l u:Option Int}:gI (.lst ds) l u=some (.own (cutD ds l u)):=rfl
end
theorem CM {x:Int}:gIs "int" (.int x)=some (.val (.bl true)):=by simp [gIs,isD,jc,tyD,isExc]
theorem Ik {x:Int}:gIs "bool" (.int x)=some (.val (.bl false)):=by simp [gIs,isD,jc,tyD,isExc]
theorem Bx {x:Str}:gIs "str" (.str x)=some (.val (.bl true)):=by simp [gIs,isD,jc,tyD,isExc]
theorem Ip {x:List D}:gIs "list" (.lst x)=some (.val (.bl true)):=by simp [gIs,isD,jc,tyD,isExc]
theorem yc {x:List D}:gIs "tuple" (.tup x)=some (.val (.bl true)):=by simp [gIs,isD,jc,tyD,isExc]
end DL
namespace DL
open PySem PySem.Spec PyProof.Rows L2
section
variable {X:Cx} {E:Str->Hp->Prop} {pos:Pos} {a b c e:Expr} {f g h:DM DV} {mp:List Nat}
def intsOf:List D->Option (List Int)
 | []=>some []
 | .int i :: r=>(intsOf r).map fun xs=>i :: xs
 | _ :: _=>none
def fL:List D->Option (List Bool)
 | []=>some []
 | .bl i :: r=>(fL r).map fun xs=>i :: xs
 | _ :: _=>none
theorem uL {K:PySem.W.Frag} {H:Hp} {Ω:Om}:∀ {ds:List D} {vs:List V} {xs:List Int},ax K H Ω ds vs->intsOf ds=some xs->vs=xs.map V.int
 | [],_,_,r,h=>by cases h;exact r
 | d :: ds,_,xs,r,h=>by
  obtain ⟨v,q,e1,e2,e3⟩:=(show ∃ v r,_ from r)
  cases d with
  | int x=>
   obtain ⟨ys,h1,rfl⟩:=Option.map_eq_some_iff.mp (show (intsOf ds).map _=_ from h)
   rw [e1,uL e3 h1,(show v=.int x from e2)]
   rfl
  | _=>cases h
theorem sH {K:PySem.W.Frag} {H:Hp} {Ω:Om}:∀ {ds:List D} {vs:List V} {xs:List Bool},ax K H Ω ds vs->fL ds=some xs->vs=xs.map V.bl
 | [],_,_,r,h=>by cases h;exact r
 | d :: ds,_,xs,r,h=>by
  obtain ⟨v,q,e1,e2,e3⟩:=(show ∃ v r,_ from r)
  cases d with
  | bl x=>
   obtain ⟨ys,h1,rfl⟩:=Option.map_eq_some_iff.mp (show (fL ds).map _=_ from h)
   rw [e1,sH e3 h1,(show v=.bl x from e2)]
   rfl
  | _=>cases h
def iq:List D->Option DV
 | [.lst ds]=>(intsOf ds).map fun ns=>.val (.int ns.sum)
 | _=>none
theorem sF (hc:X.calm=true):fR X (.builtin "sum") iq:=⟨_,FL hc,by
 intro E σ H δ Ω vs ds z Q R r hz h
 unfold iq at hz
 split at hz
 ·obtain ⟨ns,h1,rfl⟩:=Option.map_eq_some_iff.mp hz
  obtain ⟨v,e,rv⟩:=eK r
  obtain ⟨a,ws,e1,e2,e3⟩:=cS rv
  subst e1
  have hw:=uL e3 h1
  subst hw
  exact ⟨a,ns,e,.inl e2,h.now R rfl⟩
 ·cases hz⟩
def nq:List D->Option DV
 | [.lst ds]=>(fL ds).map fun ns=>.val (.bl (ns.all id))
 | _=>none
theorem Gg (hc:X.calm=true):fR X (.builtin "all") nq:=⟨_,GH hc,by
 intro E σ H δ Ω vs ds z Q R r hz h
 unfold nq at hz
 split at hz
 ·obtain ⟨ns,h1,rfl⟩:=Option.map_eq_some_iff.mp hz
  obtain ⟨v,e,rv⟩:=eK r
  obtain ⟨a,ws,e1,e2,e3⟩:=cS rv
  subst e1
  have hw:=sH e3 h1
  subst hw
  exact ⟨a,ns,e,.inl e2,h.now R rfl⟩
 ·cases hz⟩
def mf:List D->Option DV
 | [.lst ds]=>(fL ds).map fun ns=>.val (.bl (ns.any id))
 | _=>none
theorem Aj (hc:X.calm=true):fR X (.builtin "any") mf:=⟨_,Ij hc,by
 intro E σ H δ Ω vs ds z Q R r hz h
 unfold mf at hz
 split at hz
 ·obtain ⟨ns,h1,rfl⟩:=Option.map_eq_some_iff.mp hz
  obtain ⟨v,e,rv⟩:=eK r
  obtain ⟨a,ws,e1,e2,e3⟩:=cS rv
  subst e1
  have hw:=sH e3 h1
  subst hw
  exact ⟨a,ns,e,.inl e2,h.now R rfl⟩
 ·cases hz⟩
theorem xw {K:PySem.W.Frag} {H:Hp} {Ω:Om} {d d':D} {vs:List V} (h:kJ K H Ω [d,d'] vs):∃ v v',vs=[v,v']/\cE K H Ω d v/\cE K H Ω d' v':=by
 obtain ⟨v,r,e1,e2,e3⟩:=h
 obtain ⟨v',r',e1',e2',e3'⟩:=e3
 cases (show r'=[] from e3')
 subst e1'
 exact ⟨v,v',e1,e2,e2'⟩
def di (i j:Int):Int:=if j < i then j else i
def jy:List D->Option DV
 | [.int i,.int j]=>some (.val (.int (di i j)))
 | _=>none
theorem rL (hc:X.calm=true):fR X (.builtin "min") jy:=⟨_,BI hc,by
 intro E σ H δ Ω vs ds z Q R r hz h
 unfold jy at hz
 split at hz
 ·cases hz
  obtain ⟨v,v',e,rv,rv'⟩:=xw r
  cases (show v=.int _ from rv)
  cases (show v'=.int _ from rv')
  exact ⟨_,_,e,h.now R rfl⟩
 ·cases hz⟩
def nt:List D->Option DV
 | [.lst ds]=>some (.val (.tup ds))
 | [.tup ds]=>some (.val (.tup ds))
 | _=>none
theorem A8:fR X (.type "tuple") nt:=⟨_,CO,by
 intro E σ H δ Ω vs ds z Q R r hz h
 unfold nt at hz
 split at hz
 ·cases hz
  obtain ⟨v,e,rv⟩:=eK r
  obtain ⟨a,ws,e1,e2,e3⟩:=cS rv
  subst e1
  exact ⟨a,ws,e,.inl ⟨.inl e2,fun p hp=>h.allocT R hp e3⟩⟩
 ·cases hz
  obtain ⟨v,e,rv⟩:=eK r
  have rv':=rv
  obtain ⟨a,ws,e1,e2,e3⟩:=eB rv
  subst e1
  exact ⟨a,ws,e,.inr ⟨e2,h.now R rv'⟩⟩
 ·cases hz⟩
def ko (k:Str) (ys:List Str):Bool:=ys.any fun y=>decide (y=k)
theorem sY (k:Str) (ys:List Str):inV (.str k) (ys.map V.str)=ko k ys:=by
 unfold inV ko
 rw [List.any_map]
 have:((fun y=>eqV y (.str k)) ∘ V.str)=fun y=>decide (y=k):=by
  funext y
  show (y == k)=decide (y=k)
  by_cases hy:y=k
  ·subst hy;simp
  ·rw [decide_eq_false hy];exact beq_eq_false_iff_ne.mpr hy
 rw [this]
theorem yB (ys:List Str):(ys.map V.str).all gJ=true:=by
 rw [List.all_map]
 exact List.all_eq_true.mpr fun _ _=>rfl
def gIn:D->D->Option DV
 | .str k,.tup ds=>(strsOf ds).map fun ys=>.val (.bl (ko k ys))
 | .str k,.lst ds=>(strsOf ds).map fun ys=>.val (.bl (ko k ys))
 | _,_=>none
theorem pW:eX X .In gIn:=⟨_,JN,by
 intro E σ H δ Ω x y d1 d2 z Q R r1 r2 hz h
 unfold gIn at hz
 split at hz
 ·obtain ⟨ys,h1,rfl⟩:=Option.map_eq_some_iff.mp hz
  obtain ⟨a,ws,e1,e2,e3⟩:=eB r2
  cases nK e3 h1
  cases (show x=.str _ from r1)
  exact ⟨a,_,e1,.inr e2,rfl,yB ys,by rw [sY];exact h.now R rfl⟩
 ·obtain ⟨ys,h1,rfl⟩:=Option.map_eq_some_iff.mp hz
  obtain ⟨a,ws,e1,e2,e3⟩:=cS r2
  cases nK e3 h1
  cases (show x=.str _ from r1)
  exact ⟨a,_,e1,.inl (.inl e2),rfl,yB ys,by rw [sY];exact h.now R rfl⟩
 ·cases hz⟩
def yS:D->Bool
 | .non=>true
 | _=>false
theorem GX {K:PySem.W.Frag} {H:Hp} {Ω:Om} {d:D} {v:V} (h:cE K H Ω d v):decide (v=.non)=yS d:=by
 cases d with
 | non=>cases (show v=.non from h);rfl
 | bl y=>cases (show v=.bl y from h);rfl
 | int y=>cases (show v=.int y from h);rfl
 | str y=>cases (show v=.str y from h);rfl
 | tup ds=>obtain ⟨p,vs,e1,e2,e3⟩:=eB h;subst e1;rfl
 | lst ds=>obtain ⟨p,vs,e1,e2,e3⟩:=cS h;subst e1;rfl
 | scr ns=>obtain ⟨p,e1,e2⟩:=(show ∃ a,_ from h);subst e1;rfl
 | exc c=>obtain ⟨p,C,e1,e2⟩:=(show ∃ a C,_ from h);subst e1;rfl
 | key r n=>obtain ⟨p,e1,e2⟩:=(show ∃ a,_ from h);subst e1;rfl
 | obj ks vs as bs=>obtain ⟨p,a1,a2,a3,kvs,xs,ys,e1,e2⟩:=(show ∃ p a1 a2 a3 kvs xs ys,_ from h);subst e1;rfl
def nr:D->D->Option DV
 | d,.non=>some (.val (.bl (!yS d)))
 | _,_=>none
theorem Fn:eX X .IsNot nr:=⟨_,Gq,by
 intro E σ H δ Ω x y d1 d2 z Q R r1 r2 hz h
 unfold nr at hz
 split at hz
 ·cases hz
  exact ⟨r2,by rw [GX r1];exact h.now R rfl⟩
 ·cases hz⟩
def lI (f g h:DM DV) (g1 g2:D->D->Option DV):DM DV:=(fN f).bd fun a1=>(fN g).bd fun a2=>fun δ=>match res δ a1,res δ a2 with
 | some d1,some d2=>(match g1 d1 d2 with
  | some (.val (.bl true))=>((fN h).bd fun a3=>fun δ'=>match res δ' a2,res δ' a3 with
    | some d2',some d3=>(match g2 d2' d3 with | some r=>.ok r δ' | none=>.un)
    | _,_=>.un) δ
  | some (.val (.bl false))=>.ok (.val (.bl false)) δ
  | _=>.un)
 | _,_=>.un
theorem D7 {K:PySem.W.Frag} {r r':R2} {g1 g2:D->D->Option DV} {ta tb tc:TE} (h1:DR K r g1) (h2:DR K r' g2) (ha:DE K E ta f) (hb:DE K E tb g) (hc:DE K E tc h):DE K E (yF r r' ta tb tc) (lI f g h g1 g2):=by
 intro σ H δ Ω R Q w
 refine ha.use R w fun a1 x δ1 H1 Ω1 _ s1 R1 r1 w1=>?_
 refine hb.use R1 w1 fun a2 y δ2 H2 Ω2 e2 s2 R2 r2 w2=>?_
 have r1:=r1.ext s1 e2
 cases q1:res δ2 a1 with
 | none=>rw [q1] at w2;exact w2.elim
 | some d1=>
  cases q2:res δ2 a2 with
  | none=>rw [q1,q2] at w2;exact w2.elim
  | some d2=>
   rw [q1,q2] at w2
   (try dsimp only at w2)
   split at w2
   ·rename_i q3
    refine h1 (E:=E) R2 (r1.res R2 q1) (r2.res R2 q2) q3 ?_
    intro H3 Ω3 e3 R3 v rv
    refine ⟨true,rv,iJ ?_⟩
    refine hc.use R3 (Wg.ext w2 e3) fun a3 z δ4 H4 Ω4 e4 s4 R4 r4 w4=>?_
    have r2':=r2.ext s2 (e3.trans e4)
    (try dsimp only at w4)
    cases q5:res δ4 a2 with
    | none=>rw [q5] at w4;exact w4.elim
    | some d2'=>
     cases q6:res δ4 a3 with
     | none=>rw [q5,q6] at w4;exact w4.elim
     | some d3=>
      rw [q5,q6] at w4
      (try dsimp only at w4)
      cases q7:g2 d2' d3 with
      | none=>rw [q7] at w4;exact w4.elim
      | some zz=>
       rw [q7] at w4
       exact h2 R4 (r2'.res R4 q5) (r4.res R4 q6) q7 w4
   ·rename_i q3
    refine h1 (E:=E) R2 (r1.res R2 q1) (r2.res R2 q2) q3 ?_
    intro H3 Ω3 e3 R3 v rv
    exact ⟨false,rv,ja (w2 H3 Ω3 e3 R3 _ rfl)⟩
   ·exact w2.elim
theorem FK {op op':CmpOp} {g1 g2:D->D->Option DV} (h1:eX X op g1) (h2:eX X op' g2) (ha:PED X E a f) (hb:PED X E b g) (hc:PED X E c h) (hm:lastMarks [op,op'] [b,c]=false:=by with_unfolding_all rfl) :
  PTD X E (.Compare a [op,op'] [b,c] pos) (aw (lI f g h g1 g2)):=by
 obtain ⟨r,p1,d1⟩:=h1;obtain ⟨r',p2,d2⟩:=h2
 obtain ⟨ta,pa,da⟩:=ha;obtain ⟨tb,pb,db⟩:=hb;obtain ⟨tc,pc,dc⟩:=hc
 exact ⟨_,HG p1 p2 pa pb pc hm,qO (D7 d1 d2 da db dc)⟩
def lE (z:Str):List D:=z.cps.toList.map fun c=>D.str ⟨#[c]⟩
def gG:D->Option (List D)
 | .str z=>some (lE z)
 | _=>none
theorem Hh {K:PySem.W.Frag} {H:Hp} {Ω:Om} (z:Str):Yl K (Its z) H Ω (lE z) where
 go:=fun i H' Ω' e hi=>by
  unfold lE at hi
  rw [List.length_map] at hi
  show i < z.cps.size
  simpa using hi
 yld:=fun i d H' Ω' x H'' e hd hy=>by
  obtain ⟨q,c,h1,h2⟩:=hy
  subst q
  unfold lE at hd
  rw [List.getElem?_map] at hd
  have h1':z.cps.toList[i]?=some c:=by simpa using h1
  rw [h1'] at hd
  cases hd
  exact ⟨h2,.inl rfl⟩
 stop:=fun H' Ω' e=>by
  unfold lE
  rw [List.length_map]
  show z.cps.size<=_
  simp
theorem oy {tg:Expr} (ha:PED X E a f):PID X E tg a (fIt f gG):=by
 obtain ⟨t,p,d⟩:=ha
 refine ⟨_,Bs p,?_⟩
 intro σ H δ Ω R Q h
 refine d.use R h fun a x δ1 H1 Ω1 _ s1 R1 r1 h1=>?_
 cases a with
 | val d=>
  cases d with
  | str z=>exact ⟨z,r1,h1 H1 Ω1 .refl R1 _ fun Ω2 q=>Hh z⟩
  | _=>exact h1.elim
 | slot i=>exact h1.elim
 | fld _ _=>exact h1.elim
 | own ds=>exact h1.elim
def pq (K:PySem.W.Frag) (mg:Str->Option Value) (x:Str) (kvs:List (Str×Int)):Prop:=∃ a,mg x=some (.ref a)/\mJ K a kvs
theorem Bf {K:PySem.W.Frag} {mg:Str->Option Value} {x:Str} {a:Addr} {kvs:List (Str×Int)} (h:mg x=some (.ref a)) (T:mJ K a kvs):pq K mg x kvs:=⟨a,h,T⟩
def iG (kvs:List (Str×Int)):D->Option DV
 | .str k=>(tabAt k kvs).map fun n=>.val (.int n)
 | _=>none
theorem xx {x:Str} {kvs:List (Str×Int)} {p:Pos} (hm:pq X.K X.mg x kvs) (ha:PED X E a f) (hg:Gl X x:=by rfl) (hd:(x == ("__debug__":Str))=false:=by decide) (hs:oj a:=by intro _ _;rfl) :
  PED X E (.Subscript (.Name x p) a pos) (fUn f (iG kvs)):=by
 obtain ⟨ad,h1,T⟩:=hm
 obtain ⟨t,q,d⟩:=ha
 refine ⟨_,pF JA (r9 (v:=.ref ad) hg h1 rfl hd) q hs,?_⟩
 intro σ H δ Ω R Q w
 refine d.use R w fun a1 y δ1 H1 Ω1 _ s1 R1 r1 w1=>?_
 cases q1:res δ1 a1 with
 | none=>rw [q1] at w1;exact w1.elim
 | some d1=>
  rw [q1] at w1
  cases d1 with
  | str k=>
   unfold iG at w1
   (try dsimp only at w1)
   cases q2:tabAt k kvs with
   | none=>rw [q2] at w1;exact w1.elim
   | some n=>rw [q2] at w1;exact ⟨k,ad,kvs,n,rfl,r1.res R1 q1,T,q2,Wg.now (d:=.val (.int n)) w1 R1 rfl⟩
  | _=>exact w1.elim
theorem mC {i j k:Nat} {x y:Str} {p p1 p2:Pos} (hN:X.N.Nodup) (hc:X.calm=true:=by rfl) (hi:X.N[i]?=some x:=by rfl) (hj:X.N[j]?=some y:=by rfl)
  (hx:Loc X.env.scope x:=by first | exact Or.inl rfl | exact Or.inr rfl) (hy:Loc X.env.scope y:=by first | exact Or.inl rfl | exact Or.inr rfl) (hm:∀ q∈[i,j],q∉mp:=by decide)
  (hfx:X.fn x=true\/X.env.scope.names.lookup x=some .local:=by first | exact .inl rfl | exact .inr rfl) (hfy:X.fn y=true\/X.env.scope.names.lookup y=some .local:=by first | exact .inl rfl | exact .inr rfl) :
  PGD X mp (.Tuple [.Name x p1,.Name y p2] k p) (cY [i,j]):=
 ⟨_,ua (n:=2) hc (mh (j9 hN hi hx hfx) (mh (j9 hN hj hy hfy) yd)),wa (is:=[i,j]) (n:=2) hm rfl⟩
theorem mT {i j l k:Nat} {x y z:Str} {p p1 p2 p3:Pos} (hN:X.N.Nodup) (hc:X.calm=true:=by rfl) (hi:X.N[i]?=some x:=by rfl) (hj:X.N[j]?=some y:=by rfl) (hl:X.N[l]?=some z:=by rfl)
  (hx:Loc X.env.scope x:=by first | exact Or.inl rfl | exact Or.inr rfl) (hy:Loc X.env.scope y:=by first | exact Or.inl rfl | exact Or.inr rfl) (hz:Loc X.env.scope z:=by first | exact Or.inl rfl | exact Or.inr rfl) (hm:∀ q∈[i,j,l],q∉mp:=by decide)
  (hfx:X.fn x=true\/X.env.scope.names.lookup x=some .local:=by first | exact .inl rfl | exact .inr rfl) (hfy:X.fn y=true\/X.env.scope.names.lookup y=some .local:=by first | exact .inl rfl | exact .inr rfl)
  (hfz:X.fn z=true\/X.env.scope.names.lookup z=some .local:=by first | exact .inl rfl | exact .inr rfl) :
  PGD X mp (.Tuple [.Name x p1,.Name y p2,.Name z p3] k p) (cY [i,j,l]):=
 ⟨_,ua (n:=3) hc (mh (j9 hN hi hx hfx) (mh (j9 hN hj hy hfy) (mh (j9 hN hl hz hfz) yd))),wa (is:=[i,j,l]) (n:=3) hm rfl⟩
def jZ:DM Fl:=fun _=>.un
theorem kY {st:Stmt}:PSD X E mp st jZ:=⟨_,Jc,fun _ _ _ _ _ _ h=>h.elim⟩
section
variable {tg iter elt:Expr} {ifs:List Expr} {sc:Scope} {fi:DM (List D)} {t:D->DSt->Option DSt} {fc:DM Bool} {fe:DM DV} {N:List Str} {sel:List (Option Nat)}
theorem u4 {i:Nat} {x:Str} {pos' spos:Pos} (B:Blk X N sel sc) (hc:X.calm=true) (hN:X.N.Nodup) (hx:X.N[i]?=some x) (hl:X.env.scope.names.lookup x=some .local) (hi:PID X E tg iter fi)
  (hg:∀ b,PGD (blk X N sc b) [] tg t) (ht:∀ b,l8 (blk X N sc b) ifs fc) (he:∀ b,PED (blk X N sc b) EN elt fe)
  (hsw:swapsWith (.ListComp elt [⟨tg,iter,ifs,0⟩] sc pos) (some (.Name x pos')) spos.line X.env=pure true)
  (hs:∀ x,foldedSetIterable iter X.env x=pure x):∃ te,DE X.K E te (fLC fi t fc fe sel)/\PS X (.Assign [.Name x pos'] (.ListComp elt [⟨tg,iter,ifs,0⟩] sc pos) spos) (mw te (iB i)):=by
 obtain ⟨wi,p,d⟩:=hi
 exact ⟨_,vC d (fun σ H δ Ω dd x δ' R r e Q h b=>(hg b).choose_spec.2 σ H δ Ω dd x δ' R r e Q h) (fun σ H δ Ω R Q h b=>(ht b).choose_spec.2 σ H δ Ω R Q h) (fun σ H δ Ω R Q h b=>(he b).choose_spec.2 σ H δ Ω R Q h),
  Cj (g:=fun v σ H Q=>∀ b,(hg b).choose v σ H Q) (ts:=fun σ H Q=>∀ b,(ht b).choose σ H Q) (te:=fun σ H Q=>∀ b,(he b).choose σ H Q) B hc hN hx hl p
  (fun b pins s σ H v u Q I r h=>(hg b).choose_spec.1 pins s σ H v u Q I r (h b)) (fun b pins s σ H Q I h=>(ht b).choose_spec.1 pins s σ H Q I (h b)) (fun b pins s σ H Q I h=>(he b).choose_spec.1 pins s σ H Q I (h b)) hsw hs⟩
theorem vq (i:Nat) {x:Str} {pos' spos:Pos} (hN:X.N.Nodup) (B:Blk X N sel sc) (hc:X.calm=true) (hi:PID X E tg iter fi)
  (hg:∀ b,PGD (blk X N sc b) [] tg t) (ht:∀ b,l8 (blk X N sc b) ifs fc) (he:∀ b,PED (blk X N sc b) EN elt fe)
  (hx:X.N[i]?=some x:=by rfl) (hl:X.env.scope.names.lookup x=some .local:=by rfl) (hm:i∉mp:=by decide)
  (hsw:swapsWith (.ListComp elt [⟨tg,iter,ifs,0⟩] sc pos) (some (.Name x pos')) spos.line X.env=pure true:=by rfl)
  (hs:∀ x,foldedSetIterable iter X.env x=pure x:=by intro _;rfl):PSD X E mp (.Assign [.Name x pos'] (.ListComp elt [⟨tg,iter,ifs,0⟩] sc pos) spos) (aG i (fLC fi t fc fe sel)):=by
 obtain ⟨te,d,p⟩:=u4 (i:=i) B hc hN hx hl hi hg ht he hsw hs
 exact ⟨_,p,vZ hm d⟩
theorem yO (i:Nat) {x:Str} {pos' spos:Pos} (hN:X.N.Nodup) (B:Blk X N sel sc) (hc:X.calm=true) (hi:PID X E tg iter fi)
  (hg:∀ b,PGD (blk X N sc b) [] tg t) (ht:∀ b,l8 (blk X N sc b) ifs fc) (he:∀ b,PED (blk X N sc b) EN elt fe)
  (hx:X.N[i]?=some x:=by rfl) (hl:X.env.scope.names.lookup x=some .local:=by rfl) (hm:i∉mp:=by decide)
  (hsw:swapsWith (.ListComp elt [⟨tg,iter,ifs,0⟩] sc pos) (some (.Name x pos')) spos.line X.env=pure true:=by rfl)
  (hs:∀ x,foldedSetIterable iter X.env x=pure x:=by intro _;rfl):PSD X E mp (.Assign [.Name x pos'] (.ListComp elt [⟨tg,iter,ifs,0⟩] sc pos) spos) (cJ i (fLC fi t fc fe sel)):=by
 obtain ⟨te,d,p⟩:=u4 (i:=i) B hc hN hx hl hi hg ht he hsw hs
 exact ⟨_,p,wk hm d⟩
end
def fS (i:Nat):DM Fl:=fun δ=>match δ[i]? with
 | some (.ow ds)=>.ok .nx (δ.set i (.ow ds.reverse))
 | _=>.un
theorem nv (i:Nat) {x:Str} {p apos cpos:Pos} (hN:X.N[i]?=some x:=by rfl) (hv:Vis X.env.scope x:=by first | exact Or.inl rfl | exact Or.inr (Or.inl rfl) | exact Or.inr (Or.inr rfl))
  (hd:(x == ("__debug__":Str))=false:=by decide) (hcd:(x == ("__classdict__":Str))=false:=by decide)
  (hbase:attributeBase (.Name x p) "reverse" X.env (eval (.Name x p) X.env)=eval (.Name x p) X.env:=by rfl)
  (hline:(apos.endLine == cpos.line)=true:=by rfl)
  (hsw:swapsWith (.Call (.Attribute (.Name x p) "reverse" apos) [] [] cpos) none pos.line X.env=pure false:=by rfl) :
  PSD X E mp (.Expr (.Call (.Attribute (.Name x p) "reverse" apos) [] [] cpos) pos) (fS i):=by
 refine ⟨_,kr (Ie PySem.F.plainAttrs_list PySem.F.slot_list_reverse PySem.F.type_list_reverse Hr (pv i hN hv hd hcd) hbase hline) hsw,?_⟩
 intro σ H δ Ω R B h
 unfold fS at h
 split at h
 ·rename_i ds hds
  obtain ⟨a,vs,e1,e2,e3,e4⟩:=R.sl i _ hds
  refine ⟨.ref a,join_some e1,.inl ⟨rfl,vs,SqL.of e2⟩,a,vs,rfl,rfl,e2,?_⟩
  exact h _ Ω (.putOw (k:=i + 1) ⟨_,e2,rfl⟩ e3) σ (R.putOw (join_some e1) ⟨_,e2,rfl⟩ e3 e4.reverse) fun _ _=>rfl
 ·exact h.elim
def uK (i:Nat) (f:DM DV):DM Fl:=(fN f).bd fun a δ=>match res δ a,δ[i]? with
 | some (.lst es),some (.ow ds)=>if ds.length + es.length<=sizeLine then .ok .nx (δ.set i (.ow (ds++es))) else .un
 | _,_=>.un
def cq (i:Nat) (f:DM DV):DM Fl:=fun δ=>if jj i δ then uK i f δ else .un
theorem il (i:Nat) {x:Str} {p apos cpos:Pos} (he:PED X E e f) (hN:X.N[i]?=some x:=by rfl) (hv:Vis X.env.scope x:=by first | exact Or.inl rfl | exact Or.inr (Or.inl rfl) | exact Or.inr (Or.inr rfl))
  (hd:(x == ("__debug__":Str))=false:=by decide) (hcd:(x == ("__classdict__":Str))=false:=by decide)
  (hbase:attributeBase (.Name x p) "extend" X.env (eval (.Name x p) X.env)=eval (.Name x p) X.env:=by rfl)
  (hfew:((backTo cpos (starEach [e] X.env)).all (fun x=>!x.1)&&(backToKw cpos (keywordEach [] X.env)).all (fun x=>x.1.isSome)
   && decide (([e]:List Expr).length + ([]:List Keyword).length + (if ([]:List Keyword).isEmpty then 0 else 1) < 30))=true:=by rfl)
  (hline:(apos.endLine == cpos.line)=true:=by rfl) (hs:starEach [e] X.env=(false,eval e X.env) :: starEach [] X.env:=by rfl)
  (hsw:swapsWith (.Call (.Attribute (.Name x p) "extend" apos) [e] [] cpos) none pos.line X.env=pure false:=by rfl) :
  PSD X E mp (.Expr (.Call (.Attribute (.Name x p) "extend" apos) [e] [] cpos) pos) (cq i f):=by
 obtain ⟨t,q,d⟩:=he
 refine ⟨_,kr (lN PySem.F.plainAttrs_list PySem.F.slot_list_extend PySem.F.type_list_extend Cm (pv i hN hv hd hcd) (fQ q fU hs) hbase hfew hline hs rfl) hsw,?_⟩
 intro σ H δ Ω R B h
 unfold cq at h
 split at h
 ·rename_i ho
  unfold jj at ho
  split at ho
  ·rename_i ds hds
   obtain ⟨a,vs,e1,e2,e3,e4⟩:=R.sl i _ hds
   refine ⟨.ref a,join_some e1,.inl ⟨rfl,vs,SqL.of e2⟩,d.use R h fun a1 y δ1 H1 Ω1 ex s1 R1 r1 h1=>?_⟩
   (try dsimp only at h1)
   split at h1
   ·rename_i es ds1 hres hds1
    split at h1
    ·rename_i hz
     obtain ⟨a',ws,q1,q2,q3,q4⟩:=R1.sl i _ hds1
     have ea:a'=a:=by
      have z:=(join_some q1).symm.trans (join_some e1)
      injection z with z
      injection z with z
      injection z
     subst ea
     obtain ⟨b,zs,u1,u2,u3⟩:=cS (r1.res R1 hres)
     subst u1
     refine ⟨a',b,ws,zs,rfl,rfl,q2,u2,by rw [<-q4.length,<-u3.length];exact hz,?_⟩
     exact h1 _ Ω1 (.putOw (k:=i + 1) ⟨_,q2,rfl⟩ q3) σ (R1.putOw (join_some q1) ⟨_,q2,rfl⟩ q3 (q4.append u3)) fun _ _=>rfl
    ·exact h1.elim
   ·exact h1.elim
  ·cases ho
 ·exact h.elim
def en (lo:Int):List D->List D
 | []=>[]
 | d :: ds=>.tup [.int lo,d] :: en (lo + 1) ds
theorem l9:∀ (ds:List D) (lo:Int),(en lo ds).length=ds.length
 | [],_=>rfl
 | _ :: ds,lo=>by show (en (lo + 1) ds).length + 1=ds.length + 1;rw [l9 ds]
theorem qq:∀ (ds:List D) (lo:Int) (i:Nat),(en lo ds)[i]?=(ds[i]?).map fun d=>D.tup [.int (lo + i),d]
 | [],_,_=>rfl
 | d :: ds,lo,0=>by
  show some (D.tup [.int lo,d])=some (D.tup [.int (lo + 0),d])
  rw [Int.add_zero]
 | d :: ds,lo,i + 1=>by
  show (en (lo + 1) ds)[i]?=(ds[i]?).map _
  rw [qq ds (lo + 1) i]
  have:lo + 1 + (i:Int)=lo + ((i + 1:Nat):Int):=by omega
  rw [this]
def tM:D->Option (List D)
 | .lst ds=>some (en 1 ds)
 | _=>none
def nz (f:DM DV):DM (List D):=fIt f tM
theorem FZ {K:PySem.W.Frag} {H:Hp} {Ω:Om} {a:Addr} {vs:List V} {ds:List D} (h:ShL H Ω a vs) (r:ax K H Ω ds vs) (ht:∀ H' Ω',Ext H Ω H' Ω'->True):Yl K (Itn K a) H Ω (en 1 ds) where
 go:=fun i H' Ω' e hi=>by
  rw [l9] at hi
  obtain ⟨v,q,_⟩:=r.get (List.getElem?_eq_getElem hi)
  exact ⟨vs,v,(.inl (h.ext e).1),q⟩
 yld:=fun i d H' Ω' x H'' e hd hy=>by
  obtain ⟨p,y,hp,rfl,rfl,hy⟩:=hy
  rw [qq] at hd
  obtain ⟨d',hd',rfl⟩:=Option.map_eq_some_iff.mp hd
  obtain ⟨v,q,rv⟩:=(r.ext e).get hd'
  have:=hy vs (.inl (h.ext e).1)
  rw [q] at this
  obtain rfl:=Option.some.inj this
  have ex:Ext H' Ω' (upd H' p (.tup [.int (1 + (i:Int)),v])) Ω':=⟨fun b o' q' _=>by rw [aA (cH q' hp)];exact q',fun _ q' _=>q',fun _=>Iff.rfl,fun b q'=>by
   unfold upd at q'
   split at q'
   ·cases q'
   ·exact q'⟩
  exact ⟨(show ∃ a vs,_ from ⟨p,_,rfl,SqT.of bw,.cons rfl (.cons (Rep.ext ex rv) .nil)⟩),.inr ⟨p,_,hp,rfl⟩⟩
 stop:=fun H' Ω' e=>⟨vs,(.inl (h.ext e).1),by rw [l9,r.length];exact Nat.le_refl _⟩
theorem IE {elts:List Expr} {kk:Nat} {tpos kpos p:Pos} {j:_} {ip:Pos} (hm:X.mg "enumerate"=none) (ha:PED X E a f) (hg:Gl X "enumerate":=by rfl) (hs:starEach [a] X.env=[(false,eval a X.env)]:=by rfl) :
  PID X E (.Tuple elts kk tpos) (.Call (.Name "enumerate" p) [a] [⟨some "start",.Constant (.int 1) j ip,kpos⟩] pos) (nz f):=by
 obtain ⟨t,q,d⟩:=ha
 refine ⟨_,Gr q hg hm hs,?_⟩
 intro σ H δ Ω R Q h
 refine d.use R h fun a x δ1 H1 Ω1 _ s1 R1 r1 h1=>?_
 cases a with
 | val d=>
  cases d with
  | lst ds=>
   obtain ⟨b,vs,e1,e2,e3⟩:=(show ∃ a vs,_ from r1)
   exact ⟨b,vs,e1,e2.1,h1 H1 Ω1 .refl R1 _ fun Ω2 z=>FZ (e2.less z) (e3.less z) fun _ _ _=>trivial⟩
  | _=>exact h1.elim
 | slot i=>exact h1.elim
 | fld _ _=>exact h1.elim
 | own ds=>exact h1.elim
theorem Ah {δ δ1:DSt} {aa:DV} {ds:List D} (h:f δ=.ok aa δ1) (e:norm aa=.val (.lst ds)):nz f δ=.ok (en 1 ds) δ1:=by unfold nz fIt fN DM.bd DM.ret;simp only [h,e];rfl
theorem gx {i:Nat} {δ δ1:DSt} {aa:DV} {es ds ds0:List D} (ho:δ[i]?=some (.ow ds0)) (h:f δ=.ok aa δ1) (e:res δ1 (norm aa)=some (.lst es)) (e2:δ1[i]?=some (.ow ds)) (hl:ds.length + es.length<=sizeLine):cq i f δ=.ok .nx (δ1.set i (.ow (ds++es))):=by
 unfold cq
 have:jj i δ=true:=by unfold jj;rw [ho]
 simp only [this,if_true]
 unfold uK fN DM.bd DM.ret
 simp only [h,e,e2,hl,if_true]
theorem tW {i:Nat} {δ:DSt} {ds:List D} (h:δ[i]?=some (.ow ds)):fS i δ=.ok .nx (δ.set i (.ow ds.reverse)):=by unfold fS;rw [h]
end
end DL
namespace DL
open PySem PySem.Spec PyProof.Rows L2
inductive Rn where
 | un | ok (d:D) (mss:List (List D)) | own (ds:List D) (mss:List (List D))
def fB:DSt->List Nat->List (List D)->DSt
 | δ,i :: is,ms :: mss=>fB (δ.set i (.ow ms)) is mss
 | δ,_,_=>δ
def dq (δ:DSt):List Nat->Option (List (List D))
 | []=>some []
 | i :: is=>match δ[i]?,dq δ is with
  | some (.ow ms),some r=>some (ms :: r)
  | _,_=>none
theorem pV:∀ (is:List Nat) (δ:DSt) (mss:List (List D)),(fB δ is mss).length=δ.length
 | [],_,_=>rfl
 | _ :: _,_,[]=>rfl
 | i :: is,δ,ms :: mss=>by
  show (fB (δ.set i (.ow ms)) is mss).length=_
  rw [pV is,List.length_set]
theorem oY:∀ (is:List Nat) (δ:DSt) (mss:List (List D)) {j:Nat} {s:Sl},mss.length=is.length->(fB δ is mss)[j]?=some s->
  (∃ (k:Nat) (ms:List D),is[k]?=some j/\mss[k]?=some ms/\s=.ow ms)\/(j∉is/\δ[j]?=some s)
 | [],δ,mss,j,s,hl,h=>by
  right
  cases mss with
  | nil=>exact ⟨by simp,h⟩
  | cons _ _=>simp at hl
 | i :: is,δ,mss,j,s,hl,h=>by
  cases mss with
  | nil=>simp at hl
  | cons ms mss=>
   have h:(fB (δ.set i (.ow ms)) is mss)[j]?=some s:=h
   rcases oY is (δ.set i (.ow ms)) mss (by simpa using hl) h with ⟨k,m,e1,e2,e3⟩ | ⟨e1,e2⟩
   ·exact .inl ⟨k + 1,m,by simpa using e1,by simpa using e2,e3⟩
   ·by_cases hj:j=i
    ·subst hj
     left
     have hlt:j < δ.length:=by
      have:=(List.getElem?_eq_some_iff.mp e2).1
      rwa [List.length_set] at this
     rw [List.getElem?_set_self hlt] at e2
     cases e2
     exact ⟨0,ms,rfl,rfl,rfl⟩
    ·rw [List.getElem?_set_ne (Ne.symm hj)] at e2
     exact .inr ⟨fun z=>(List.mem_cons.mp z).elim hj e1,e2⟩
section
variable {K:PySem.W.Frag} {E:Str->Hp->Prop} {H H':Hp} {Ω Ω':Om} {σ:St} {δ:DSt} {pr:Nat->Addr} {jf:Nat->Nat}
def de (K:PySem.W.Frag) (H:Hp) (Ω:Om) (pr:Nat->Addr):List Nat->List (List D)->Prop
 | [],mss=>mss=[]
 | i :: is,mss=>∃ ms r,mss=ms :: r/\(∃ xs,H (pr i)=some (.lst xs)/\Ω (pr i)=some (i + 2)/\ax K H Ω ms xs)/\de K H Ω pr is r
theorem de.len:∀ {is:List Nat} {mss:List (List D)},de K H Ω pr is mss->mss.length=is.length
 | [],_,h=>by rw [(show _=[] from h)];rfl
 | i :: is,_,h=>by
  obtain ⟨ms,r,rfl,_,h2⟩:=h
  rw [List.length_cons,List.length_cons,de.len h2]
theorem de.at:∀ {is:List Nat} {mss:List (List D)} {k i:Nat} {ms:List D},de K H Ω pr is mss->is[k]?=some i->mss[k]?=some ms->∃ xs,H (pr i)=some (.lst xs)/\Ω (pr i)=some (i + 2)/\ax K H Ω ms xs
 | [],_,_,_,_,_,e,_=>by simp at e
 | a :: is,_,0,i,ms,h,e,e2=>by
  obtain ⟨m,r,rfl,h1,h2⟩:=h
  have:a=i:=by simpa using e
  subst this
  have:m=ms:=by simpa using e2
  subst this
  exact h1
 | a :: is,_,k + 1,i,ms,h,e,e2=>by
  obtain ⟨m,r,rfl,h1,h2⟩:=h
  exact de.at (k:=k) h2 (by simpa using e) (by simpa using e2)
theorem de.mem {is:List Nat} {mss:List (List D)} {i:Nat} (h:de K H Ω pr is mss) (hi:i∈is):∃ xs,H (pr i)=some (.lst xs)/\Ω (pr i)=some (i + 2):=by
 obtain ⟨k,hk,e⟩:=List.mem_iff_getElem.mp hi
 have hm:k < mss.length:=by rw [h.len];exact hk
 obtain ⟨xs,h1,h2,_⟩:=h.at (k:=k) (i:=i) (ms:=mss[k]) (by rw [List.getElem?_eq_getElem hk,e]) (List.getElem?_eq_getElem hm)
 exact ⟨xs,h1,h2⟩
def RnQ (K:PySem.W.Frag) (H:Hp) (Ω:Om) (pr:Nat->Addr) (is:List Nat) (Q:VK):Rn->Prop
 | .un=>False
 | .ok d mss=>∀ H' Ω',Ext H Ω H' Ω'->Trk H' Ω'->de K H' Ω' pr is mss->∀ v,Rep K H' Ω' d v->Q v H'
 | .own ds mss=>∀ H' Ω',Ext H Ω H' Ω'->Trk H' Ω'->de K H' Ω' pr is mss->∀ v,dy K H' Ω' [] (.own ds) v->Q v H'
def vN (K:PySem.W.Frag) (H:Hp) (Ω:Om) (is:List Nat) (ds:List D) (vs:List V):Prop:=ds.length=vs.length/\∀ j d,j∉is->ds[j]?=some d->∃ v,vs[j]?=some v/\Rep K H Ω d v
def spN (K:PySem.W.Frag) (n:Nat) (is:List Nat) (M:List D->List (List D)->Rn):Sp:=fun vs H Q _=>vs.length=n/\∃ Ω ds pr mss,Trk H Ω/\(∀ i∈is,vs[i]?=some (.ref (pr i)))/\de K H Ω pr is mss/\(∀ b k,Ω b=some k->k=0\/∃ i∈is,b=pr i)/\vN K H Ω is ds vs/\RnQ K H Ω pr is Q (M ds mss)
def gP (n:Nat) (is:List Nat) (ds:List D) (mss:List (List D)):DSt:=fB (ds.map .sh++List.replicate (n - ds.length) .no) is mss
def runN (body:DM Fl) (n:Nat) (is:List Nat) (ds:List D) (mss:List (List D)):Rn:=match body (gP n is ds mss) with
 | .ok (.rt d) δ'=>(match dq δ' is with | some mss'=>.ok d mss' | _=>.un)
 | .ok (.rto es) δ'=>(match dq δ' is with | some mss'=>.own es mss' | _=>.un)
 | .ok .nx δ'=>(match dq δ' is with | some mss'=>.ok .non mss' | _=>.un)
 | _=>.un
theorem az.gP {N:List Str} {is:List Nat} {ds:List D} {mss:List (List D)} {vs:List V} (hr:vN K H Ω is ds vs) (ht:Trk H Ω) (hv:∀ i∈is,vs[i]?=some (.ref (pr i))) (hm:de K H Ω pr is mss) :
  az K H Ω (L2.start N vs) (DL.gP N.length is ds mss):=by
 obtain ⟨hl,hr⟩:=hr
 have hget:∀ j,j < vs.length->(L2.start N vs)[j]?=(vs[j]?).map some:=fun j hj=>by
  unfold L2.start
  rw [List.getElem?_append_left (by rw [List.length_map];exact hj),List.getElem?_map]
 refine ⟨by unfold L2.start DL.gP;rw [pV,List.length_append,List.length_append,List.length_map,List.length_map,List.length_replicate,List.length_replicate,hl],fun j s h=>?_,ht⟩
 unfold DL.gP at h
 rcases oY is _ mss hm.len h with ⟨k,ms,e1,e2,rfl⟩ | ⟨e1,h⟩
 ·have hj:j∈is:=List.mem_of_getElem? e1
  have hv':=hv j hj
  obtain ⟨xs,h1,h2,h3⟩:=hm.at e1 e2
  have hjv:j < vs.length:=(List.getElem?_eq_some_iff.mp hv').1
  exact ⟨pr j,xs,by rw [hget j hjv,hv'];rfl,h1,h2,h3⟩
 ·by_cases hj:j < ds.length
  ·rw [List.getElem?_append_left (by rw [List.length_map];exact hj),List.getElem?_map] at h
   obtain ⟨d,hd⟩:∃ d,ds[j]?=some d:=⟨ds[j],List.getElem?_eq_getElem hj⟩
   rw [hd] at h
   cases h
   obtain ⟨v,hv',r⟩:=hr j d e1 hd
   exact ⟨v,by rw [hget j (by omega),hv'];rfl,r⟩
  ·rw [List.getElem?_append_right (by rw [List.length_map];omega),List.getElem?_replicate] at h
   split at h
   ·cases h;trivial
   ·cases h
theorem az.lists {is:List Nat} {mss:List (List D)} (R:az K H Ω σ δ) (hσ:∀ i∈is,σ[i]?=some (some (.ref (pr i)))) (h:dq δ is=some mss):de K H Ω pr is mss:=by
 induction is generalizing mss with
 | nil=>cases h;rfl
 | cons i is ih=>
  unfold dq at h
  split at h
  ·rename_i ms r e1 e2
   cases h
   obtain ⟨b,ys,q1,q2,q3,q4⟩:=R.sl i _ e1
   rw [hσ i List.mem_cons_self] at q1
   cases q1
   exact ⟨ms,r,rfl,⟨ys,q2,q3,q4⟩,ih (fun j hj=>hσ j (List.mem_cons_of_mem _ hj)) e2⟩
  ·cases h
end
section
variable {P:Program} {w:World} {K:PySem.W.Frag} {mg:Str->Option Value} {base:Heap}
theorem fnN (is:List Nat) {x qual:Str} {st:Stmt} {f:Addr} {fd:FuncData} {N ps:List Str} {k:Nat} {body:DM Fl} (F:Fun K x qual st f fd) (S:bj N ps (aW st))
  (hb:∀ (cdv:Value) (A:Around) (outer:List Env) (s:Shared) (H:Hp) (E:XK),bG k (A.deeper (envOfC qual (aW st) s.heap.objs.size f cdv))->
   fw (gY CX0 P w K mg base N qual (aW st) f cdv A outer s H E).nox EN is (gr st) body):aR P w K mg base CX0 (k + 1) f fd ps (spN K ps.length is (runN body N.length is)):=by
 refine F.ok S (fun vs H Q E h=>h.1) (fun cdv A outer s H vs Q E hr h=>?_)
 obtain ⟨ts,p,d⟩:=hb cdv A outer s H E hr
 refine ⟨ts,p,?_⟩
 obtain ⟨hl,Ω,ds,pr,mss,ht,hv,hm,h0,hr,hq⟩:=h
 have hs:∀ i∈is,(L2.start N vs)[i]?=some (some (.ref (pr i))):=fun i hi=>by
  have:=hv i hi
  have hlt:=(List.getElem?_eq_some_iff.mp this).1
  unfold L2.start
  rw [List.getElem?_append_left (by rw [List.length_map];exact hlt),List.getElem?_map,this];rfl
 refine d (L2.start N vs) H _ Ω (az.gP hr ht hv hm) _ ?_
 unfold runN at hq
 have fin:∀ {H':Hp} {Ω':Om} {σ':St} {δ':DSt} {mss':List (List D)},az K H' Ω' σ' δ'->(∀ j∈is,σ'[j]?=(L2.start N vs)[j]?)->dq δ' is=some mss'->de K H' Ω' pr is mss':=
  fun R' m' e'=>R'.lists (fun i hi=>by rw [m' i hi];exact hs i hi) e'
 cases e:body (DL.gP N.length is ds mss) with
 | un=>rw [e] at hq;exact hq
 | er c=>rw [e] at hq;exact hq.elim
 | ok fl δ'=>
  rw [e] at hq
  cases fl with
  | nx=>
   dsimp only at hq
   cases q:dq δ' is with
   | none=>rw [q] at hq;exact hq.elim
   | some mss'=>
    rw [q] at hq
    exact fun H' Ω' ex σ' R' m'=>hq H' Ω' ex R'.trk (fin R' m' q) .non rfl
  | bk=>exact hq.elim
  | ct=>exact hq.elim
  | rt d=>
   dsimp only at hq
   cases q:dq δ' is with
   | none=>rw [q] at hq;exact hq.elim
   | some mss'=>
    rw [q] at hq
    exact fun H' Ω' ex σ' R' m' v rv=>hq H' Ω' ex R'.trk (fin R' m' q) v rv
  | rto es=>
   dsimp only at hq
   cases q:dq δ' is with
   | none=>rw [q] at hq;exact hq.elim
   | some mss'=>
    rw [q] at hq
    exact fun H' Ω' ex σ' R' m' v rv=>hq H' Ω' ex R'.trk (fin R' m' q) v rv
end
def slotsOf (as:List DV):List Nat->Option (List Nat)
 | []=>some []
 | i :: is=>match as[i]?,slotsOf as is with
  | some (.slot j),some r=>some (j :: r)
  | _,_=>none
def fV (is:List Nat):Nat->List DV->Option (List D)
 | _,[]=>some []
 | k,.val d :: r=>(fV is (k + 1) r).map fun ds=>d :: ds
 | k,_ :: r=>if k∈is then (fV is (k + 1) r).map fun ds=>.non :: ds else none
def oO:Rn->DSt->List Nat->Rs DV
 | .un,_,_=>.un
 | .ok d mss,δ,js=>.ok (.val d) (fB δ js mss)
 | .own es mss,δ,js=>.ok (.own es) (fB δ js mss)
def iU (n:Nat) (is:List Nat) (fa:DM (List DV)) (M:List D->List (List D)->Rn):DM DV:=fa.bd fun as δ=>match slotsOf as is with
 | some js=>if js.Nodup then (match dq δ js,fV is 0 as with
  | some mss,some ds=>if ds.length=n then oO (M ds mss) δ js else .un
  | _,_=>.un) else .un
 | none=>.un
theorem pS {as:List DV}:∀ {is js:List Nat},slotsOf as is=some js->∀ k i:Nat,is[k]?=some i->∃ j:Nat,js[k]?=some j/\as[i]?=some (DV.slot j)
 | [],_,_,_,_,e=>by simp at e
 | a :: is,js,h,k,i,e=>by
  unfold slotsOf at h
  split at h
  ·rename_i j r e1 e2
   cases h
   cases k with
   | zero=>
    have:a=i:=by simpa using e
    subst this
    exact ⟨j,rfl,e1⟩
   | succ k=>
    obtain ⟨j',z1,z2⟩:=pS e2 k i (by simpa using e)
    exact ⟨j',by simpa using z1,z2⟩
  ·cases h
theorem xS {as:List DV}:∀ {is js:List Nat},slotsOf as is=some js->js.length=is.length
 | [],_,h=>by cases h;rfl
 | a :: is,js,h=>by
  unfold slotsOf at h
  split at h
  ·rename_i j r e1 e2
   cases h
   rw [List.length_cons,List.length_cons,xS e2]
  ·cases h
theorem tU {δ:DSt}:∀ {js:List Nat} {mss:List (List D)},dq δ js=some mss->∀ k j:Nat,js[k]?=some j->∃ ms:List D,mss[k]?=some ms/\δ[j]?=some (Sl.ow ms)
 | [],_,_,_,_,e=>by simp at e
 | a :: js,mss,h,k,j,e=>by
  unfold dq at h
  split at h
  ·rename_i ms r e1 e2
   cases h
   cases k with
   | zero=>
    have:a=j:=by simpa using e
    subst this
    exact ⟨ms,rfl,e1⟩
   | succ k=>
    obtain ⟨m,z1,z2⟩:=tU e2 k j (by simpa using e)
    exact ⟨m,by simpa using z1,z2⟩
  ·cases h
section
variable {K:PySem.W.Frag} {E:Str->Hp->Prop} {H H':Hp} {Ω Ω':Om} {σ:St} {δ:DSt} {pr:Nat->Addr} {jf:Nat->Nat} {is:List Nat}
theorem dJ.get:∀ {as:List DV} {vs:List V} {i:Nat} {a:DV},dJ K H Ω σ as vs->as[i]?=some a->∃ v,vs[i]?=some v/\dy K H Ω σ a v
 | [],_,_,_,_,e=>by simp at e
 | b :: r,_,0,a,h,e=>by
  obtain ⟨v,q,e1,e2,e3⟩:=h
  subst e1
  have:b=a:=by simpa using e
  subst this
  exact ⟨v,rfl,e2⟩
 | _ :: r,_,i + 1,a,h,e=>by
  obtain ⟨v,q,e1,e2,e3⟩:=h
  subst e1
  obtain ⟨w,q1,q2⟩:=dJ.get (i:=i) e3 (by simpa using e)
  exact ⟨w,by simpa using q1,q2⟩
theorem wx:∀ {as:List DV} {vs:List V} {ds:List D} {k:Nat},dJ K H Ω σ as vs->fV is k as=some ds->ds.length=vs.length/\∀ j d,k + j∉is->ds[j]?=some d->∃ v,vs[j]?=some v/\Rep K H Ω d v
 | [],_,_,_,h,e=>by
  cases e
  cases (show _=[] from h)
  exact ⟨rfl,fun j d _ q=>by simp at q⟩
 | a :: r,_,ds,k,h,e=>by
  obtain ⟨v,q,e1,e2,e3⟩:=h
  subst e1
  have key:∀ (d0:D) (ds':List D),fV is (k + 1) r=some ds'->ds=d0 :: ds'->(k∉is->Rep K H Ω d0 v)->ds.length=(v :: q).length/\∀ j d,k + j∉is->ds[j]?=some d->∃ v',(v :: q)[j]?=some v'/\Rep K H Ω d v':=by
   intro d0 ds' h1 h2 h3
   subst h2
   obtain ⟨l,f⟩:=wx e3 h1
   refine ⟨by rw [List.length_cons,List.length_cons,l],fun j d hj hd=>?_⟩
   cases j with
   | zero=>
    have:d0=d:=by simpa using hd
    subst this
    exact ⟨v,rfl,h3 (by simpa using hj)⟩
   | succ j=>
    obtain ⟨v',q1,q2⟩:=f j d (by rw [show k + 1 + j=k + (j + 1) by omega];exact hj) (by simpa using hd)
    exact ⟨v',by simpa using q1,q2⟩
  cases a with
  | val d0=>
   unfold fV at e
   obtain ⟨ds',h1,h2⟩:=Option.map_eq_some_iff.mp e
   exact key d0 ds' h1 h2.symm fun _=>e2
  | fld _ _=>
   unfold fV at e
   split at e
   ·rename_i hk
    obtain ⟨ds',h1,h2⟩:=Option.map_eq_some_iff.mp e
    exact key .non ds' h1 h2.symm fun z=>absurd hk z
   ·cases e
  | slot j=>
   unfold fV at e
   split at e
   ·rename_i hk
    obtain ⟨ds',h1,h2⟩:=Option.map_eq_some_iff.mp e
    exact key .non ds' h1 h2.symm fun z=>absurd hk z
   ·cases e
  | own es=>
   unfold fV at e
   split at e
   ·rename_i hk
    obtain ⟨ds',h1,h2⟩:=Option.map_eq_some_iff.mp e
    exact key .non ds' h1 h2.symm fun z=>absurd hk z
   ·cases e
def gy (Ω:Om) (pr:Nat->Addr) (is:List Nat):Om:=fun b=>match is.find? (fun i=>decide (pr i=b)) with | some i=>some (i + 2) | none=>under Ω b
def ei (Ω Ω':Om) (pr:Nat->Addr) (jf:Nat->Nat) (is:List Nat):Om:=fun b=>match is.find? (fun i=>decide (pr i=b)) with | some i=>some (jf i + 2) | none=>back Ω Ω' b
def Inj (pr:Nat->Addr) (is:List Nat):Prop:=∀ i∈is,∀ i'∈is,pr i=pr i'->i=i'
theorem vP (hi:Inj pr is) {i:Nat} (h:i∈is):is.find? (fun j=>decide (pr j=pr i))=some i:=by
 cases e:is.find? (fun j=>decide (pr j=pr i)) with
 | none=>exact absurd (decide_eq_true rfl) (List.find?_eq_none.mp e i h)
 | some j=>
  have h1:=List.mem_of_find?_eq_some e
  have h2:pr j=pr i:=by simpa using List.find?_some e
  rw [hi j h1 i h h2]
theorem zf {b:Addr} (h:∀ i∈is,pr i≠b):is.find? (fun i=>decide (pr i=b))=none:=List.find?_eq_none.mpr fun i hi z=>h i hi (of_decide_eq_true z)
theorem BU (hi:Inj pr is) {i:Nat} (h:i∈is):gy Ω pr is (pr i)=some (i + 2):=by unfold gy;rw [vP hi h]
theorem jF {b:Addr} (h:∀ i∈is,pr i≠b):gy Ω pr is b=under Ω b:=by unfold gy;rw [zf h]
theorem yz (hi:Inj pr is) {i:Nat} (h:i∈is):ei Ω Ω' pr jf is (pr i)=some (jf i + 2):=by unfold ei;rw [vP hi h]
theorem kh {b:Addr} (h:∀ i∈is,pr i≠b):ei Ω Ω' pr jf is b=back Ω Ω' b:=by unfold ei;rw [zf h]
theorem xq (hp:∀ i∈is,Ω (pr i)≠none) (b:Addr) (h:Ω b=none):gy Ω pr is b=none:=by
 rw [jF (fun i hi z=>hp i hi (by rw [z];exact h))];exact f6 h
theorem pR (hp:∀ i∈is,Ω' (pr i)≠none) (b:Addr) (h:Ω' b=none):ei Ω Ω' pr jf is b=none:=by
 rw [kh (fun i hi z=>hp i hi (by rw [z];exact h))];exact iw b h
theorem ly (b:Addr):(∃ i∈is,pr i=b)\/∀ i∈is,pr i≠b:=by
 by_cases h:∃ i∈is,pr i=b
 ·exact .inl h
 ·exact .inr fun i hi z=>h ⟨i,hi,z⟩
theorem Ext.ei (hi:Inj pr is) (hp:∀ i∈is,Ω (pr i)=some (jf i + 2)/\∃ xs,H (pr i)=some (.lst xs)) (e:Ext H (gy Ω pr is) H' Ω'):Ext H Ω H' (DL.ei Ω Ω' pr jf is) where
 keep:=fun b o q h=>by
  rcases ly (pr:=pr) (is:=is) b with ⟨i,him,rfl⟩ | hb
  ·obtain ⟨h1,xs,h2⟩:=hp i him
   rw [h2] at q
   cases q
   rcases h with h | h | h
   ·cases h
   ·rw [h1] at h;cases h
   ·rw [h1] at h;cases h
  ·refine e.keep b o q (h.imp_right fun z=>?_)
   rw [jF hb]
   exact z.imp f6 gu
 new:=fun b q h=>by
  have hb:∀ i∈is,pr i≠b:=fun i him z=>by have:=(hp i him).1;rw [z,q] at this;cases this
  rw [kh hb]
  exact iw b (e.new b (by rw [jF hb];exact f6 q) h)
 fr:=fun b=>by
  rcases ly (pr:=pr) (is:=is) b with ⟨i,him,rfl⟩ | hb
  ·rw [(hp i him).1,yz hi him]
  ·rw [kh hb]
   constructor
   ·intro h
    have:=(e.fr b).mp (by rw [jF hb];exact gu h)
    rw [lj this]
    exact h
   ·intro h
    unfold DL.back at h
    split at h
    ·exact h
    ·cases h
    ·cases h
 live:=e.live
theorem az.ei {mss mss':List (List D)} (R:az K H Ω σ δ) (hi:Inj pr is) (hp:∀ i∈is,Ω (pr i)=some (jf i + 2)/\∃ xs,H (pr i)=some (.lst xs)) (hσ:∀ i∈is,σ[jf i]?=some (some (.ref (pr i)))) (e:Ext H (gy Ω pr is) H' Ω') (ht:Trk H' Ω')
  (hm:de K H' Ω' pr is mss'):az K H' (DL.ei Ω Ω' pr jf is) σ (fB δ (is.map jf) mss'):=by
 have ex:=Ext.ei hi hp e
 have hn:∀ i∈is,Ω' (pr i)≠none:=fun i him=>by obtain ⟨xs,_,h2⟩:=hm.mem him;rw [h2];exact Option.some_ne_none _
 refine ⟨by rw [pV];exact R.len,fun j s h=>?_,fun a k q=>?_⟩
 ·rcases oY (is.map jf) δ mss' (by rw [List.length_map];exact hm.len) h with ⟨k,ms,e1,e2,rfl⟩ | ⟨e1,h⟩
  ·rw [List.getElem?_map] at e1
   obtain ⟨i,z1,rfl⟩:=Option.map_eq_some_iff.mp e1
   have him:i∈is:=List.mem_of_getElem? z1
   obtain ⟨xs,h1,h2,h3⟩:=hm.at z1 e2
   exact ⟨pr i,xs,by rw [hσ i him];rfl,h1,yz hi him,h3.less (pR hn)⟩
  ·refine (R.sl j s h).mv (fun _ _=>.ext ex) (fun _ _=>.ext ex) fun a ws w3 w2=>?_
   have ha:∀ i∈is,pr i≠a:=by
    rintro i him rfl
    rw [(hp i him).1] at w3
    exact e1 (List.mem_map.mpr ⟨i,him,by have:=Option.some.inj w3;omega⟩)
   have h0:gy Ω pr is a=some 0:=by rw [jF ha];exact gu w3
   refine ⟨e.keep a _ w2 (.inr (.inr h0)),?_⟩
   rw [kh ha,lj ((e.fr a).mp h0)]
   exact w3
 ·rcases ly (pr:=pr) (is:=is) a with ⟨i,him,rfl⟩ | ha
  ·obtain ⟨xs,h1,_⟩:=hm.mem him;exact ⟨_,h1,rfl⟩
  ·rw [kh ha] at q
   unfold DL.back at q
   split at q
   ·rename_i z;exact ht a _ z
   ·rename_i z;exact ht a _ z
   ·cases q
theorem map_inj {f:Nat->Nat}:∀ {l:List Nat},(l.map f).Nodup->∀ a∈l,∀ b∈l,f a=f b->a=b
 | [],_,a,ha,_,_,_=>nomatch ha
 | x :: l,h,a,ha,b,hb,e=>by
  rw [List.map_cons,List.nodup_cons] at h
  rcases List.mem_cons.mp ha with z | ha' <;> rcases List.mem_cons.mp hb with z' | hb'
  ·rw [z,z']
  ·subst z;exact absurd (List.mem_map.mpr ⟨b,hb',e.symm⟩) h.1
  ·subst z';exact absurd (List.mem_map.mpr ⟨a,ha',e⟩) h.1
  ·exact map_inj h.2 a ha' b hb' e
def jOf (as:List DV) (i:Nat):Nat:=match as[i]? with | some (.slot j)=>j | _=>0
def aOf (σ:St) (as:List DV) (i:Nat):Addr:=match σ[jOf as i]? with | some (some (.ref p))=>p | _=>0
theorem DY {as:List DV} {is js:List Nat} (h:slotsOf as is=some js):js=is.map (jOf as):=by
 apply List.ext_getElem?
 intro k
 rw [List.getElem?_map]
 cases e:is[k]? with
 | none=>
  rw [List.getElem?_eq_none_iff] at e
  rw [List.getElem?_eq_none (by rw [xS h];exact e)];rfl
 | some i=>
  obtain ⟨j,z1,z2⟩:=pS h k i e
  rw [z1]
  show some j=some (jOf as i)
  unfold jOf
  rw [z2]
theorem u7 {pr:Nat->Addr} {as:List DV}:∀ {is:List Nat} {mss:List (List D)},dq δ (is.map (jOf as))=some mss->(∀ i∈is,∀ ms,δ[jOf as i]?=some (.ow ms)->∃ xs,H (pr i)=some (.lst xs)/\Ω (pr i)=some (i + 2)/\ax K H Ω ms xs)->de K H Ω pr is mss
 | [],_,h,_=>by cases h;rfl
 | i :: is,mss,h,f=>by
  rw [List.map_cons] at h
  unfold dq at h
  split at h
  ·rename_i ms r e1 e2
   cases h
   exact ⟨ms,r,rfl,f i List.mem_cons_self ms e1,u7 e2 fun i' hi'=>f i' (List.mem_cons_of_mem _ hi')⟩
  ·cases h
theorem FQ {n:Nat} {M:List D->List (List D)->Rn} {Ex:XK} {t:TA} {fa:DM (List DV)} (ha:DA K E t fa):DE K E (lF (spN K n is M) [] Ex t) (iU n is fa M):=by
 intro σ H δ Ω R Q h
 refine ha.use R h fun as vs δ1 H1 Ω1 _ s1 R1 r1 h1=>?_
 (try dsimp only at h1)
 split at h1
 ·rename_i js hjs
  split at h1
  ·rename_i hnd
   split at h1
   ·rename_i mss ds hms hds
    split at h1
    ·rename_i hn
     have hje:=DY hjs
     subst hje
     obtain ⟨hl,hrep⟩:=wx r1 hds
     have all:∀ i∈is,as[i]?=some (.slot (jOf as i))/\∃ ms xs,δ1[jOf as i]?=some (.ow ms)/\σ[jOf as i]?=some (some (.ref (aOf σ as i)))/\H1 (aOf σ as i)=some (.lst xs)/\Ω1 (aOf σ as i)=some (jOf as i + 2)/\ax K H1 Ω1 ms xs:=by
      intro i hi
      obtain ⟨k,hk,e⟩:=List.mem_iff_getElem.mp hi
      obtain ⟨j,z1,z2⟩:=pS hjs k i (by rw [List.getElem?_eq_getElem hk,e])
      have hj:jOf as i=j:=by unfold jOf;rw [z2]
      obtain ⟨ms,z3,z4⟩:=tU hms k j z1
      obtain ⟨p,xs,q1,q2,q3,q4⟩:=R1.sl j _ z4
      have q1:=join_some q1
      have hp:aOf σ as i=p:=by unfold aOf;rw [hj,q1]
      rw [hj,hp]
      exact ⟨z2,ms,xs,z4,q1,q2,q3,q4⟩
     have hinj:Inj (aOf σ as) is:=fun i hi i' hi' e=>by
      obtain ⟨_,_,_,_,_,_,o1,_⟩:=all i hi
      obtain ⟨_,_,_,_,_,_,o2,_⟩:=all i' hi'
      rw [e,o2] at o1
      exact (map_inj hnd i' hi' i hi (by have:=Option.some.inj o1;omega)).symm
     have hp:∀ i∈is,Ω1 (aOf σ as i)=some (jOf as i + 2)/\∃ xs,H1 (aOf σ as i)=some (.lst xs):=fun i hi=>by
      obtain ⟨_,_,xs,_,_,o1,o2,_⟩:=all i hi
      exact ⟨o2,xs,o1⟩
     have hσ:∀ i∈is,σ[jOf as i]?=some (some (.ref (aOf σ as i))):=fun i hi=>by
      obtain ⟨_,_,_,_,o1,_⟩:=all i hi
      exact o1
     have hnn:∀ i∈is,Ω1 (aOf σ as i)≠none:=fun i hi=>by rw [(hp i hi).1];exact Option.some_ne_none _
     show spN K n is M (vs++[]) H1 Q Ex
     rw [List.append_nil]
     refine ⟨by rw [<-hl];exact hn,gy Ω1 (aOf σ as) is,ds,aOf σ as,mss,fun b k q=>?_,fun i hi=>?_,?_,fun b k q=>?_,⟨hl,fun k d hk hd=>?_⟩,?_⟩
     ·rcases ly (pr:=aOf σ as) (is:=is) b with ⟨i,hi,rfl⟩ | hb
      ·obtain ⟨xs,q2⟩:=(hp i hi).2;exact ⟨_,q2,rfl⟩
      ·rw [jF hb] at q;exact lZ R1.trk b k q
     ·obtain ⟨o1,_⟩:=all i hi
      obtain ⟨v,hv,rv⟩:=r1.get o1
      have rv:σ[jOf as i]?=some (some v):=rv
      rw [hσ i hi] at rv
      cases rv
      exact hv
     ·refine u7 hms fun i hi ms hms'=>?_
      obtain ⟨_,ms2,xs,o1,_,o2,o3,o4⟩:=all i hi
      rw [hms'] at o1
      cases o1
      exact ⟨xs,o2,BU hinj hi,o4.less (xq hnn)⟩
     ·rcases ly (pr:=aOf σ as) (is:=is) b with ⟨i,hi,rfl⟩ | hb
      ·exact .inr ⟨i,hi,rfl⟩
      ·rw [jF hb] at q;exact .inl (qN b k q)
     ·obtain ⟨v',z1,z2⟩:=hrep k d (by rw [Nat.zero_add];exact hk) hd
      exact ⟨v',z1,z2.less (xq hnn)⟩
     ·have fin:∀ {H':Hp} {Ω':Om} {mss':List (List D)},Ext H1 (gy Ω1 (aOf σ as) is) H' Ω'->Trk H' Ω'->de K H' Ω' (aOf σ as) is mss'->az K H' (DL.ei Ω1 Ω' (aOf σ as) (jOf as) is) σ (fB δ1 (is.map (jOf as)) mss'):=fun e' t' z=>az.ei (mss:=mss) R1 hinj hp hσ e' t' z
      have hn':∀ {H':Hp} {Ω':Om} {mss':List (List D)},de K H' Ω' (aOf σ as) is mss'->∀ i∈is,Ω' (aOf σ as i)≠none:=fun z i hi=>by obtain ⟨_,_,h2⟩:=z.mem hi;rw [h2];exact Option.some_ne_none _
      cases q5:M ds mss with
      | un=>rw [q5] at h1;exact h1
      | ok d mss'=>
       rw [q5] at h1
       exact fun H' Ω' e' t' z v rv=>h1 H' _ (Ext.ei hinj hp e') (fin e' t' z) v (rv.less (pR (hn' z)))
      | own es mss'=>
       rw [q5] at h1
       intro H' Ω' e' t' z v ⟨a,ws,w1,w2,w3,w4⟩
       have hap:∀ i∈is,aOf σ as i≠a:=by
        rintro i hi rfl
        obtain ⟨_,_,h2⟩:=z.mem hi
        rw [h2] at w3
        cases w3
       exact h1 H' _ (Ext.ei hinj hp e') (fin e' t' z) v ⟨a,ws,w1,w2,by rw [kh hap];exact ke w3,w4.less (pR (hn' z))⟩
    ·exact h1.elim
   ·exact h1.elim
  ·exact h1.elim
 ·exact h1.elim
end
section
variable {X:Cx} {E:Str->Hp->Prop} {pos:Pos} {e:Expr}
structure lO (P:Program) (w:World) (K:PySem.W.Frag) (mg:Str->Option Value) (base:Heap) (k:Nat) (x:Str) (n:Nat) (is:List Nat) (M:List D->List (List D)->Rn):Prop where
 ex:∃ (f:Addr) (fd:FuncData) (ps:List Str),aR P w K mg base CX0 k f fd ps (spN K n is M)/\mg x=some (.ref f)/\PySem.W.keepIn K (.ref f)=true/\Binds K fd ps []
theorem xu {k n:Nat} {is:List Nat} {x:Str} {M:List D->List (List D)->Rn} {p:Pos} {es:List Expr} {r:DM (List DV)} (F:lO X.prog X.w X.K X.mg X.base k x n is M) (hr:bG k X.A) (ha:PAD X EN (e :: es) r) (hg:Gl X x:=by rfl)
  (hdb:(x == ("__debug__":Str))=false:=by decide) (he:starEach (e :: es) X.env=(false,eval e X.env) :: starEach es X.env:=by rfl) (hpl:(backTo pos (starEach es X.env)).any (·.1)=false:=by rfl) :
  PED X EN (.Call (.Name x p) (e :: es) [] pos) (iU n is r M):=by
 obtain ⟨fa,fd,ps,F,hm,kp,b⟩:=F.ex
 obtain ⟨t,q,d⟩:=ha
 exact ⟨_,nV F hr hg hm kp b .nil ix q hdb he hpl,FQ d⟩
end
section
variable {δ δ1:DSt} {d:D} {ds es:List D} {mss mss':List (List D)} {is js:List Nat} {n:Nat} {as:List DV} {fa:DM (List DV)} {body:DM Fl}
theorem AB (h:body (gP n is ds mss)=.ok (.rt d) δ1) (e:dq δ1 is=some mss'):runN body n is ds mss=.ok d mss':=by unfold runN;simp only [h,e]
theorem mH (h:body (gP n is ds mss)=.ok (.rto es) δ1) (e:dq δ1 is=some mss'):runN body n is ds mss=.own es mss':=by unfold runN;simp only [h,e]
theorem zK:oO (.ok d mss) δ js=.ok (.val d) (fB δ js mss):=rfl
theorem rK:oO (.own es mss) δ js=.ok (.own es) (fB δ js mss):=rfl
theorem mX {M:List D->List (List D)->Rn} {rn:Rn} {Z:Rs DV} (h:fa δ=.ok as δ1) (e:slotsOf as is=some js) (hn:js.Nodup) (e2:dq δ1 js=some mss) (e3:fV is 0 as=some ds) (hl:ds.length=n) (hM:M ds mss=rn) (hr:oO rn δ1 js=Z):iU n is fa M δ=Z:=by
 unfold iU DM.bd
 simp only [h,e,hn,e2,e3,hl,if_true,hM]
 exact hr
end
end DL
namespace L2
open PySem PySem.Spec PyProof.Rows
section
variable {X:Cx}
def mY (K:PySem.W.Frag) (lo:Int) (a:Addr):It:=
 ⟨fun i H=>∃ xs x,SqL K H a xs/\xs[i]?=some x,fun i H v H'=>∃ p x,H p=none/\v=.ref p/\H'=upd H p (.tup [.int (lo + (i:Int)),x])/\∀ xs,SqL K H a xs->xs[i]?=some x,fun i H=>∃ xs,SqL K H a xs/\xs.length<=i⟩
theorem BJ {P:Program} {w:World} {K:PySem.W.Frag} {elts:List Expr} {kk:Nat} {pos:Pos} (lo:Int) (a it e:Addr) (hne:e≠it):Turn P w K (.Tuple elts kk pos) (mY K lo a) [e,it] e (fun i h=>(∃ old,IsEnum h e it (lo + (i:Int)) old)/\h.IsListIter it a i) where
 mem:=by simp
 obj:=fun i h st b hb=>by
  obtain ⟨⟨old,h1⟩,o,h2,h3,h4⟩:=st
  have z:b=e\/b=it:=by simpa using hb
  rcases z with z | z
  ·subst z
   exact ⟨_,h1,fun v q=>by
    have q':Data.fields _=Data.cell v:=q
    cases q'⟩
  ·subst z;exact ⟨o,h2,fun v q=>by rw [h4] at q;cases q⟩
 keep:=fun i h h' st k=>⟨st.1.imp fun old q=>k e (by simp) _ q,st.2.at fun o q=>k it (by simp) o q⟩
 item:=by
  intro X hP hw hK hc i pins s σ H E I hf st hg
  subst hP hw hK
  obtain ⟨xs,x,hq,hx⟩:=hg
  obtain ⟨its,rv,p,hz⟩:=I.list hq
  obtain ⟨u,hu,ru⟩:=rv.get hx
  have fe:=hf e (by simp)
  have fi:=hf it (by simp)
  obtain ⟨⟨old,h1⟩,h2⟩:=st
  have elt:e < s.heap.objs.size:=Heap.lt_size h1
  refine ze h1 h2 p.isList (x:=u) (by simpa using hu) hne fun h' ho hit ht hsz hk=>?_
  refine ⟨_,rfl,wpAny_letOwnedTupleGo_enum ho fun hq2 he2 sb2=>?_⟩
  replace sb2:Heap.SameBut e h' hq2:=sb2
  have hfr:=I.hok.fresh (Nat.le_refl s.heap.objs.size)
  refine ⟨.ref s.heap.objs.size,_,I.turnedT (xs:=[.int (lo + (i:Int)),x]) (fun b o n1 n2 q=>(sb2.2 b n1).trans (hk b o n1 n2 q)) fe fi (Nat.le_refl _) ?_,rfl,⟨_,x,hfr,rfl,rfl,fun ys hy=>by rw [I.list_inj hy hq];exact hx⟩,
   ⟨⟨u,?_⟩,hit.at fun o q=>(sb2.2 it (Ne.symm hne)).trans q⟩,fun b hb=>?_⟩
  ·refine ⟨by show 2<=sizeLine;decide,[.int (lo + (i:Int)) s.toks,u],.cons ⟨_,rfl⟩ (.cons ru .nil),?_⟩
   exact ⟨_,(sb2.2 _ (Nat.ne_of_gt elt)).trans ht,rfl,_,rfl⟩
  ·have e1:(lo + ((i + 1:Nat):Int))=lo + (i:Int) + 1:=by omega
   rw [e1];exact he2
  ·have z:b=e\/b=it:=by simpa using hb
   have hne':b≠s.heap.objs.size:=by
    rcases z with z | z
    ·rw [z];exact Nat.ne_of_lt elt
    ·rw [z];obtain ⟨o,q,_⟩:=h2;exact Nat.ne_of_lt (Heap.lt_size q)
   rw [aA hne']
   exact (hf b hb).1
 done:=by
  intro X hP hw hK hc i pins s σ H E I hf st hg
  subst hP hw hK
  obtain ⟨xs,hq,hx⟩:=hg
  obtain ⟨its,rv,p,hz⟩:=I.list hq
  have hl:=rv.length
  obtain ⟨⟨old,h1⟩,h2⟩:=st
  exact tP (I.ok.hd hc) h1 h2 p.isList (by simp;omega) fun h' eb=>⟨rfl,I.turned1 (t':=s.toks) (fun b o hb q=>eb b o hb q) (hf it (by simp))⟩
 self:=fun _ _ _ _ _ st h=>by
  obtain ⟨⟨old,h1⟩,h2⟩:=st
  exact wpAny_pyIter_enum h1 h
def zS (K:PySem.W.Frag) (lo:Int) (tl:TE):TI:=fun σ H R=>tl σ H fun x H1=>∃ a xs,x=.ref a/\Rd H1 a (.lst xs)/\R (mY K lo a) H1
theorem JO {elts:List Expr} {kk:Nat} {tpos p pos:Pos} {l:Expr} {tl:TE} (hl:PE X l tl) (hg:Gl X "enumerate") (hm:X.mg "enumerate"=none) (hs:starEach [l] X.env=[(false,eval l X.env)]) :
  PI X (.Tuple elts kk tpos) (.Call (.Name "enumerate" p) [l] [] pos) (zS X.K 0 tl):=by
 intro pins s σ H R I h
 have ha:PA X [l] (kg tl iz):=fQ hl fU (by rw [hs];rfl)
 refine Call_ (gM I hg hm boot_enumerate (PyProof.Rows.callWith_type1 (thn (ha pos pins s σ H (fun vs H1=>match vs with | [x]=>∃ a xs,x=.ref a/\Rd H1 a (.lst xs)/\R (mY X.K 0 a) H1 | _=>False) I h) fun us s1 ⟨vs,H1,I1,r1,q1⟩=>?_) hs rfl))
 cases r1 with
 | nil=>exact q1.elim
 | cons r rr=>
  cases rr with
  | cons _ _=>exact q1.elim
  | nil=>
  obtain ⟨a,xs,e2,hq,q⟩:=q1
  subst e2
  cases r
  obtain ⟨its,n,rv,ho,hz⟩:=I1.plain hq
  refine call_enumerate_list ⟨_,ho,rfl,n,rfl⟩ fun h' he hit hsz hk=>wpAny_pyIter_enum he ?_
  have I3:Inv X pins σ H1 { s1 with heap:=h' }:=I1.kept (t':=s1.toks) hk
  refine ⟨s1.heap.objs.size + 1,[s1.heap.objs.size + 1,s1.heap.objs.size],_,_,H1,rfl,I3,BJ 0 a s1.heap.objs.size (s1.heap.objs.size + 1) (Nat.succ_ne_self _),⟨⟨.none,he⟩,hit⟩,fun b hb=>?_,q⟩
  have z:b=s1.heap.objs.size + 1\/b=s1.heap.objs.size:=by simpa using hb
  have hb':s1.heap.objs.size<=b:=by rcases z with z | z <;> rw [z] <;> omega
  exact I1.fpOk hb' (I1.hok.fresh hb')
def Itv (K:PySem.W.Frag) (n:Nat) (a:Addr):It:=
 ⟨fun i H=>∃ xs x,SqL K H a xs/\xs.length=n/\i < n/\xs[n - 1 - i]?=some x,fun i H v H'=>H'=H/\∀ xs,SqL K H a xs->xs[n - 1 - i]?=some v,fun i H=>n<=i⟩
theorem Cs {P:Program} {w:World} {K:PySem.W.Frag} {tg:Expr} (n:Nat) (a it:Addr):Turn P w K tg (Itv K n a) [it] it (fun i h=>i<=n/\h.IsRevIter it a ((n:Int) - 1 - (i:Int))) where
 mem:=by simp
 obj:=fun i h st b hb=>by
  have e:b=it:=by simpa using hb
  subst e
  obtain ⟨_,o,e,c,d⟩:=st
  exact ⟨o,e,fun v z=>by rw [d] at z;cases z⟩
 keep:=fun i h h' st k=>⟨st.1,st.2.at fun o e=>k it (by simp) o e⟩
 item:=by
  intro X hP hw hK hc i pins s σ H E I hf st hg
  subst hP hw hK
  obtain ⟨xs,x,hq,hn,hi,hx⟩:=hg
  obtain ⟨its,rv,p,hz⟩:=I.list hq
  obtain ⟨u,hu,ru⟩:=rv.get hx
  obtain ⟨f0,f1,f2,f3,f4,f5⟩:=hf it (by simp)
  obtain ⟨hle,st⟩:=st
  have e:(n:Int) - 1 - (i:Int)=((n - 1 - i:Nat):Int):=by omega
  rw [e] at st
  refine wpAny_pyNext_rev_item st p.isList (x:=u) (by simpa using hu) fun h' st' sb=>?_
  have I1:Inv X pins σ H { s with heap:=h' }:=I.turned (t':=s.toks) (fun b o hb e=>(sb.2 b hb).trans e) f0 f1 f3 f4 f5
  have e2:((n - 1 - i:Nat):Int) - 1=(n:Int) - 1 - ((i + 1:Nat):Int):=by omega
  rw [e2] at st'
  obtain ⟨o,e,c,d⟩:=id st'
  exact ⟨u,rfl,kI (s:={ s with heap:=h' }) e c d (by decide) ⟨x,H,I1,ru,⟨rfl,fun ys hy=>by rw [I.list_inj hy hq];exact hx⟩,⟨hi,st'⟩,fun b hb=>(hf b hb).1⟩⟩
 done:=by
  intro X hP hw hK hc i pins s σ H E I hf st hg
  subst hP hw hK
  obtain ⟨hle,st⟩:=st
  have hi:n<=i:=hg
  have e:(n:Int) - 1 - (i:Int)=-1:=by omega
  rw [e] at st
  obtain ⟨f0,f1,f2,f3,f4,f5⟩:=hf it (by simp)
  exact wpAny_pyNext_rev_end (I.ok.hd hc) st fun h' eb=>⟨rfl,I.turned (t':=s.toks) (fun b o hb e=>eb b o hb e) f0 f1 f3 f4 f5⟩
 self:=fun _ _ _ _ _ st h=>wpAny_pyIter_revIter st.2 h
def Fz (K:PySem.W.Frag) (tl:TE):TI:=fun σ H R=>tl σ H fun x H1=>∃ a xs,x=.ref a/\Rd H1 a (.lst xs)/\R (Itv K xs.length a) H1
theorem boot_reversed:bootBuiltins "reversed"=some (.type "reversed"):=by decide +kernel
theorem Dq {tg:Expr} {p pos:Pos} {l:Expr} {tl:TE} (hl:PE X l tl) (hg:Gl X "reversed") (hm:X.mg "reversed"=none) (hs:starEach [l] X.env=[(false,eval l X.env)]) :
  PI X tg (.Call (.Name "reversed" p) [l] [] pos) (Fz X.K tl):=by
 intro pins s σ H R I h
 have ha:PA X [l] (kg tl iz):=fQ hl fU (by rw [hs];rfl)
 refine Call_ (gM I hg hm boot_reversed (PyProof.Rows.callWith_type1 (thn (ha pos pins s σ H (fun vs H1=>match vs with | [x]=>∃ a xs,x=.ref a/\Rd H1 a (.lst xs)/\R (Itv X.K xs.length a) H1 | _=>False) I h) fun us s1 ⟨vs,H1,I1,r1,q1⟩=>?_) hs rfl))
 cases r1 with
 | nil=>exact q1.elim
 | cons r rr=>
  cases rr with
  | cons _ _=>exact q1.elim
  | nil=>
  obtain ⟨a,xs,e2,hq,q⟩:=q1
  subst e2
  cases r
  obtain ⟨its,n,rv,ho,hz⟩:=I1.plain hq
  have hlen:=rv.length
  have hl1:s1.heap.IsList a its.toArray:=⟨_,ho,rfl,n,rfl⟩
  refine call_reversed_list hl1 ?_
  have hit:(s1.heap.push (revObj a ((its.toArray.size:Int) - 1))).IsRevIter s1.heap.objs.size a ((xs.length:Int) - 1 - ((0:Nat):Int)):=⟨_,Heap.get?_push_size _ rfl,rfl,by
   show Data.fields #[Value.ref a,rawInt ((its.toArray.size:Int) - 1)]=_
   have:((its.toArray.size:Int) - 1)=(xs.length:Int) - 1 - ((0:Nat):Int):=by simp [hlen]
   rw [this]⟩
  refine wpAny_pyIter_revIter hit ?_
  have I3:Inv X pins σ H1 { s1 with heap:=s1.heap.push (revObj a ((its.toArray.size:Int) - 1)) }:=I1.kept (t':=s1.toks) fun b u q=>Heap.get?_push_of_some _ q
  refine ⟨s1.heap.objs.size,[s1.heap.objs.size],_,_,H1,rfl,I3,Cs xs.length a s1.heap.objs.size,⟨Nat.zero_le _,hit⟩,fun b hb=>?_,q⟩
  have z:b=s1.heap.objs.size:=by simpa using hb
  have hb':s1.heap.objs.size<=b:=by rw [z];exact Nat.le_refl _
  exact I1.fpOk hb' (I1.hok.fresh hb')
end
end L2
namespace DL
open PySem PySem.Spec PyProof.Rows L2
def Ac:D->Option (List D)
 | .lst ds=>some (en 0 ds)
 | _=>none
def nN (f:DM DV):DM (List D):=fIt f Ac
def Gu:D->Option (List D)
 | .lst ds=>some ds.reverse
 | _=>none
def oE (f:DM DV):DM (List D):=fIt f Gu
theorem Cn {K:PySem.W.Frag} {H:Hp} {Ω:Om} {a:Addr} {vs:List V} {ds:List D} (lo:Int) (h:ShL H Ω a vs) (r:ax K H Ω ds vs):Yl K (mY K lo a) H Ω (en lo ds) where
 go:=fun i H' Ω' e hi=>by
  rw [l9] at hi
  obtain ⟨v,q,_⟩:=r.get (List.getElem?_eq_getElem hi)
  exact ⟨vs,v,(.inl (h.ext e).1),q⟩
 yld:=fun i d H' Ω' x H'' e hd hy=>by
  obtain ⟨p,y,hp,rfl,rfl,hy⟩:=hy
  rw [qq] at hd
  obtain ⟨d',hd',rfl⟩:=Option.map_eq_some_iff.mp hd
  obtain ⟨v,q,rv⟩:=(r.ext e).get hd'
  have:=hy vs (.inl (h.ext e).1)
  rw [q] at this
  obtain rfl:=Option.some.inj this
  have ex:Ext H' Ω' (upd H' p (.tup [.int (lo + (i:Int)),v])) Ω':=⟨fun b o' q' _=>by rw [aA (cH q' hp)];exact q',fun _ q' _=>q',fun _=>Iff.rfl,fun b q'=>by
   unfold upd at q'
   split at q'
   ·cases q'
   ·exact q'⟩
  exact ⟨(show ∃ a vs,_ from ⟨p,_,rfl,SqT.of bw,.cons rfl (.cons (Rep.ext ex rv) .nil)⟩),.inr ⟨p,_,hp,rfl⟩⟩
 stop:=fun H' Ω' e=>⟨vs,(.inl (h.ext e).1),by rw [l9,r.length];exact Nat.le_refl _⟩
theorem JJ {K:PySem.W.Frag} {H:Hp} {Ω:Om} {a:Addr} {vs:List V} {ds:List D} (h:ShL H Ω a vs) (r:ax K H Ω ds vs):Yl K (Itv K vs.length a) H Ω ds.reverse where
 go:=fun i H' Ω' e hi=>by
  rw [List.length_reverse] at hi
  have hl:=r.length
  obtain ⟨v,q,_⟩:=r.get (i:=ds.length - 1 - i) (List.getElem?_eq_getElem (by omega))
  exact ⟨vs,v,.inl (h.ext e).1,rfl,by omega,by rw [<-hl];exact q⟩
 yld:=fun i d H' Ω' x H'' e hd hy=>by
  obtain ⟨rfl,hy⟩:=hy
  have hi:i < ds.length:=by
   have:=(List.getElem?_eq_some_iff.mp hd).1
   rwa [List.length_reverse] at this
  rw [List.getElem?_reverse hi] at hd
  obtain ⟨v,q,rv⟩:=(r.ext e).get hd
  have:=hy vs (.inl (h.ext e).1)
  rw [<-r.length,q] at this
  obtain rfl:=Option.some.inj this
  exact ⟨rv,.inl rfl⟩
 stop:=fun H' Ω' e=>by
  show vs.length<=ds.reverse.length
  rw [List.length_reverse,r.length]
  exact Nat.le_refl _
section
variable {X:Cx} {E:Str->Hp->Prop} {pos:Pos} {a:Expr} {f:DM DV}
theorem Ct {elts:List Expr} {kk:Nat} {tpos p:Pos} (hm:X.mg "enumerate"=none) (ha:PED X E a f) (hg:Gl X "enumerate":=by rfl) (hs:starEach [a] X.env=[(false,eval a X.env)]:=by rfl) :
  PID X E (.Tuple elts kk tpos) (.Call (.Name "enumerate" p) [a] [] pos) (nN f):=by
 obtain ⟨t,q,d⟩:=ha
 refine ⟨_,JO q hg hm hs,?_⟩
 intro σ H δ Ω R Q h
 refine d.use R h fun a x δ1 H1 Ω1 _ s1 R1 r1 h1=>?_
 cases a with
 | val d=>
  cases d with
  | lst ds=>
   obtain ⟨b,vs,e1,e2,e3⟩:=(show ∃ a vs,_ from r1)
   exact ⟨b,vs,e1,e2.1,h1 H1 Ω1 .refl R1 _ fun Ω2 z=>Cn 0 (e2.less z) (e3.less z)⟩
  | _=>exact h1.elim
 | _=>exact h1.elim
theorem Ec {tg:Expr} {p:Pos} (hm:X.mg "reversed"=none) (ha:PED X E a f) (hg:Gl X "reversed":=by rfl) (hs:starEach [a] X.env=[(false,eval a X.env)]:=by rfl) :
  PID X E tg (.Call (.Name "reversed" p) [a] [] pos) (oE f):=by
 obtain ⟨t,q,d⟩:=ha
 refine ⟨_,Dq q hg hm hs,?_⟩
 intro σ H δ Ω R Q h
 refine d.use R h fun a x δ1 H1 Ω1 _ s1 R1 r1 h1=>?_
 cases a with
 | val d=>
  cases d with
  | lst ds=>
   obtain ⟨b,vs,e1,e2,e3⟩:=(show ∃ a vs,_ from r1)
   exact ⟨b,vs,e1,e2.1,h1 H1 Ω1 .refl R1 _ fun Ω2 z=>JJ (e2.less z) (e3.less z)⟩
  | _=>exact h1.elim
 | _=>exact h1.elim
theorem Jt {δ δ1:DSt} {aa:DV} {ds:List D} (h:f δ=.ok aa δ1) (e:norm aa=.val (.lst ds)):nN f δ=.ok (en 0 ds) δ1:=by unfold nN fIt fN DM.bd DM.ret;simp only [h,e];rfl
theorem DW {δ δ1:DSt} {aa:DV} {ds:List D} (h:f δ=.ok aa δ1) (e:norm aa=.val (.lst ds)):oE f δ=.ok ds.reverse δ1:=by unfold oE fIt fN DM.bd DM.ret;simp only [h,e];rfl
end
end DL
namespace L2
open PySem PySem.Spec PyProof.Rows
abbrev ig (h:Heap) (e it:Addr) (i:Int) (old:Value) (a:Addr) (f:Bool):Prop:=
 h.get? e=some { cls:=.type "enumerate",dict:=none,data:=.fields #[rawInt a,.bool f,.ref it,rawInt i,.none,old],slots:=#[] }
section
variable {prog:Program} {w:World} {A:Around} {E:Value->Shared->Prop} {s:Shared}
theorem Iz {a:Addr} {o:Obj} {Q:Option Obj->Shared->Prop} (q:s.heap.get? a=some o) (k:Q (some o) s):wpAny (model prog w) A (loadIfAlive a) Q E s:=by
 have k':Q (s.heap.get? a) s:=by rw [q];exact k
 exact fun _ _ _=>k'
theorem Dz {e it a:Addr} {f:Bool} {oa:Obj} {fp:List Addr} {n i:Nat} {P:Nat->Value->Prop} {St:Nat->Heap->Prop} {old:Value} {Q:Option Value->Shared->Prop}
  (D:Draws prog w A.in1 it fp n P St) (q0:ig s.heap e it i old a f) (qa:s.heap.get? a=some oa) (nae:a≠e) (nai:a≠it) (st0:St i s.heap) (lt0:i < n) (nei:e≠it) (nef:e∉fp)
  (fin:∀ x h' tk,P i x->ig h' e it ((i:Int) + 1) old a true->St (i + 1) h'->
   h'.get? s.heap.objs.size=some { cls:=.type "tuple",data:=.seq #[.int i tk,x] }->h'.objs.size=s.heap.objs.size + 1->
   (∀ b o,b≠e->b≠it->s.heap.get? b=some o->h'.get? b=some o)->Q (some (.ref s.heap.objs.size)) { s with heap:=h',toks:=tk + 1 }) :
  wpAny (model prog w) A (pyNext (.ref e)) Q E s:=by
 have ty:s.TypeIs (.ref e) "enumerate":=⟨_,q0,rfl⟩
 unfold pyNext
 refine wpAny_bind (wpAny_attempt (wpAny_callSpecial?_slot (name:=Str.ofString "__next__") ty F.slot_enumerate_next (wpAny_call_entry F.slot_enumerate_next ty F.entry_enumerate_next ?_ (F.args_enumerate_next_1 _))))
 obtain ⟨hp,g,d,t0,os⟩:=s
 change wpAny _ _ (field (.ref e) 2 >>= _) _ _ _
 refine wpAny_bind (wpAny_field q0 rfl (x:=.ref it) rfl ?_)
 refine wpAny_bind (D.item i _ _ _ lt0 st0 fun x g1 tk px st1 sb1=>?_)
 replace sb1:Heap.SameBut it hp g1:=sb1
 have q1:ig g1 e it i old a f:=(sb1.2 e nei).trans q0
 change wpAny _ _ (field (.ref e) 3 >>= _) _ _ ⟨g1,g,d,tk,os⟩
 refine wpAny_bind (wpAny_field q1 rfl (x:=rawInt i) rfl ?_)
 change wpAny _ _ (field (.ref e) 4 >>= _) _ _ ⟨g1,g,d,tk,os⟩
 refine wpAny_bind (wpAny_field q1 rfl (x:=.none) rfl ?_)
 change wpAny _ _ (mkInt i >>= _) _ _ ⟨g1,g,d,tk,os⟩
 refine wpAny_bind (wpAny_mkInt ?_)
 change wpAny _ _ (setField (.ref e) 3 (rawInt ((i:Int) + 1)) >>= _) _ _ ⟨g1,g,d,tk + 1,os⟩
 refine wpAny_bind (wpAny_setField_rec q1 (by simp) fun g2 q2 sb2=>?_)
 replace sb2:Heap.SameBut e g1 g2:=sb2
 replace q2:ig g2 e it ((i:Int) + 1) old a f:=q2
 change wpAny _ _ (setField (.ref e) 4 .none >>= _) _ _ ⟨g2,g,d,tk + 1,os⟩
 refine wpAny_bind (wpAny_setField_rec q2 (by simp) fun g3 q3 sb3=>?_)
 replace sb3:Heap.SameBut e g2 g3:=sb3
 replace q3:ig g3 e it ((i:Int) + 1) old a f:=q3
 change wpAny _ _ (newTuple [.int i tk,x] >>= _) _ _ ⟨g3,g,d,tk + 1,os⟩
 refine wpAny_bind (wpAny_newTuple ?_)
 have q4:ig (g3.push { cls:=.type "tuple",data:=.seq #[.int i tk,x] }) e it ((i:Int) + 1) old a f:=Heap.get?_push_of_some _ q3
 generalize hg:g3.push { cls:=.type "tuple",data:=.seq #[.int i tk,x] }=g4 at q4
 have z3:g3.objs.size=hp.objs.size:=by rw [sb3.1,sb2.1,sb1.1]
 have el:e < hp.objs.size:=Heap.lt_size q0
 have t4:g4.get? hp.objs.size=some { cls:=.type "tuple",data:=.seq #[.int i tk,x] }:=by rw [<-hg,<-z3];exact Heap.get?_push_size _ rfl
 have z4:g4.objs.size=hp.objs.size + 1:=by rw [<-hg,Heap.size_push,z3]
 have k4:∀ b o,b≠e->b≠it->hp.get? b=some o->g4.get? b=some o:=fun b o n1 n2 y=>by
  rw [<-hg];exact Heap.get?_push_of_some _ (sb3.extBut b o n1 (sb2.extBut b o n1 (sb1.extBut b o n2 y)))
 have st4:St (i + 1) g4:=D.frame _ _ _ st1 fun b hb o y=>by
  have nb:b≠e:=fun r=>nef (r ▸ hb)
  rw [<-hg];exact Heap.get?_push_of_some _ (sb3.extBut b o nb (sb2.extBut b o nb y))
 change wpAny _ _ (Builtin.SmallTypes.ownedTupleIsFree (.ref e) >>= _) _ _ ⟨g4,g,d,tk + 1,os⟩
 rw [z3]
 clear hg q3 sb3 q2 sb2 q1 sb1 st1 z3 g3 g2 g1
 have a4:g4.get? a=some oa:=k4 a oa nae nai qa
 refine wpAny_bind ?_
 unfold Builtin.SmallTypes.ownedTupleIsFree
 refine wpAny_bind (wpAny_field q4 rfl (x:=rawInt a) rfl ?_)
 change wpAny _ _ (loadIfAlive ((a:Int).toNat) >>= _) _ _ _
 rw [Int.toNat_natCast]
 refine wpAny_bind (Iz a4 ?_)
 simp only [Option.isNone_some,Bool.false_eq_true,if_false]
 refine wpAny_bind (wpAny_field q4 rfl (x:=.bool f) rfl ?_)
 cases f with
 | true=>
  rw [if_neg (show ¬ ((Value.bool true != Value.bool true)=true) from Bool.false_ne_true)]
  refine wpAny_pure ?_
  simp only [Bool.false_eq_true,if_false]
  exact wpAny_pure ⟨_,rfl,wpAny_pure (fin x g4 tk px q4 st4 t4 z4 k4)⟩
 | false=>
  rw [if_pos (show (Value.bool false != Value.bool true)=true from rfl)]
  refine wpAny_bind (wpAny_setField_rec q4 (by simp) fun g5 q5 sb5=>?_)
  replace sb5:Heap.SameBut e g4 g5:=sb5
  replace q5:ig g5 e it ((i:Int) + 1) old a true:=q5
  refine wpAny_pure ?_
  simp only [Bool.false_eq_true,if_false]
  refine wpAny_pure ⟨_,rfl,wpAny_pure (fin x g5 tk px q5 ?_ ?_ ?_ ?_)⟩
  ·exact D.frame _ _ _ st4 fun b hb o y=>sb5.extBut b o (fun r=>nef (r ▸ hb)) y
  ·exact sb5.extBut _ _ (Nat.ne_of_gt el) t4
  ·exact sb5.1.trans z4
  ·exact fun b o n1 n2 y=>sb5.extBut b o n1 (k4 b o n1 n2 y)
theorem Bv {e it a:Addr} {f:Bool} {fp:List Addr} {n:Nat} {P:Nat->Value->Prop} {St:Nat->Heap->Prop} {i:Int} {old:Value} {Q:Option Value->Shared->Prop}
  (D:Draws prog w A.in1 it fp n P St) (q0:ig s.heap e it i old a f) (st0:St n s.heap) (fin:∀ h',Heap.ExtBut it s.heap h'->Q none { s with heap:=h' }):wpAny (model prog w) A (pyNext (.ref e)) Q E s:=by
 have ty:s.TypeIs (.ref e) "enumerate":=⟨_,q0,rfl⟩
 unfold pyNext
 refine wpAny_bind (wpAny_attempt (wpAny_callSpecial?_slot (name:=Str.ofString "__next__") ty F.slot_enumerate_next (wpAny_call_entry F.slot_enumerate_next ty F.entry_enumerate_next ?_ (F.args_enumerate_next_1 _))))
 change wpAny _ _ (field (.ref e) 2 >>= _) _ _ _
 refine wpAny_bind (wpAny_field q0 rfl (x:=.ref it) rfl ?_)
 refine wpAny_bind (D.done _ _ _ st0 fun h' x eb hx=>?_)
 obtain ⟨o,ho,hc⟩:=hx
 refine wpAny_bind (wpAny_isInstance (T:="StopIteration") (b:=true) ⟨o,ho,hc⟩ isSubtype_stop ?_)
 exact wpAny_pure (fin _ eb)
def xE (x:Str) (i:Nat) (v:Value):Prop:=∃ c u,x.cps[i]?=some c/\v=.str ⟨#[c]⟩ u
theorem tj (hh:A.handled=none) (it:Addr) (x:Str) (t:Tok):Draws prog w A it [it] x.cps.size (xE x) (fun i h=>h.IsStrIter it (strIterType x) x t i):=by
 unfold strIterType
 cases x.cps.all (· < 128) with
 | true=>exact Draws.strAscii hh it x t
 | false=>exact Draws.strWide hh it x t
def jQ (h:Heap) (e it S:Addr) (i:Nat):Prop:=(i=0/\IsEnum h e it 0 .none)\/∃ old a f oa,ig h e it i old a f/\h.get? a=some oa/\a≠e/\a≠it/\a≠S
theorem nR {h h':Heap} {a:Addr} {ty:String} {x:Str} {t:Tok} {i:Nat} (y:h.IsStrIter a ty x t i) (k:∀ o,h.get? a=some o->h'.get? a=some o):h'.IsStrIter a ty x t i:=let ⟨o,ho,r⟩:=y;⟨o,k o ho,r⟩
theorem jQ.keep {h h':Heap} {e it S:Addr} {i:Nat} (x:jQ h e it S i) (k:∀ b o,b≠S->h.get? b=some o->h'.get? b=some o) (nS:e≠S):jQ h' e it S i:=by
 rcases x with ⟨z,q⟩ | ⟨old,a,f,oa,q,qa,n1,n2,n3⟩
 ·exact .inl ⟨z,k _ _ nS q⟩
 ·exact .inr ⟨old,a,f,oa,k _ _ nS q,k _ _ n3 qa,n1,n2,n3⟩
theorem Ek {e it S:Addr} {i:Nat} {x:Str} {t:Tok} {Q:Option Value->Shared->Prop} (hh:A.handled=none) (st:jQ s.heap e it S i) (lS:S < s.heap.objs.size) (hs:s.heap.IsStrIter it (strIterType x) x t i) (lt0:i < x.cps.size) (nei:e≠it)
  (fin:∀ v h' tk,xE x i v->jQ h' e it S (i + 1)->h'.IsStrIter it (strIterType x) x t (i + 1)->
   h'.get? s.heap.objs.size=some { cls:=.type "tuple",data:=.seq #[.int i tk,v] }->h'.objs.size=s.heap.objs.size + 1->
   (∀ b o,b≠e->b≠it->s.heap.get? b=some o->h'.get? b=some o)->Q (some (.ref s.heap.objs.size)) { s with heap:=h',toks:=tk + 1 }) :
  wpAny (model prog w) A (pyNext (.ref e)) Q E s:=by
 have D:=tj (prog:=prog) (w:=w) (A:=A.in1) hh it x t
 have nef:e∉[it]:=fun z=>nei (List.mem_singleton.mp z)
 have li:it < s.heap.objs.size:=by obtain ⟨o,ho,_⟩:=hs;exact Heap.lt_size ho
 rcases st with ⟨rfl,q⟩ | ⟨old,a,f,oa,q,qa,n1,n2,n3⟩
 ·have le:e < s.heap.objs.size:=Heap.lt_size q
  refine wpAny_pyNext_enum_itemD D (i:=0) q hs lt0 nei nef fun v h' tk pv q' st' t' z' k'=>fin v h' tk pv (.inr ⟨v,s.heap.objs.size,false,_,?_,t',Nat.ne_of_gt le,Nat.ne_of_gt li,Nat.ne_of_gt lS⟩) st' t' z' k'
  exact q'
 ·exact Dz D q qa n1 n2 hs lt0 nei nef fun v h' tk pv q' st' t' z' k'=>fin v h' tk pv (.inr ⟨old,a,true,oa,q',k' a oa n1 n2 qa,n1,n2,n3⟩) st' t' z' k'
theorem D0 {e it S:Addr} {x:Str} {t:Tok} {Q:Option Value->Shared->Prop} (hh:A.handled=none) (st:jQ s.heap e it S x.cps.size) (hs:s.heap.IsStrIter it (strIterType x) x t x.cps.size)
  (fin:∀ h',Heap.ExtBut it s.heap h'->Q none { s with heap:=h' }):wpAny (model prog w) A (pyNext (.ref e)) Q E s:=by
 have D:=tj (prog:=prog) (w:=w) (A:=A.in1) hh it x t
 rcases st with ⟨z,q⟩ | ⟨old,a,f,oa,q,_⟩
 ·exact wpAny_pyNext_enum_endD D q hs fin
 ·exact Bv D q hs fin
structure jG (x:Str) (lo:Addr) (h:Heap) (as:List Addr):Prop where
 rise:as.Pairwise (· < ·)
 above:∀ a∈as,lo < a
 pairs:∀ (j:Nat) (a:Addr),as[j]?=some a->∃ t c u,x.cps[j]?=some c/\h.get? a=some { cls:=.type "tuple",data:=.seq #[.int j t,.str ⟨#[c]⟩ u] }
theorem jG.there {x:Str} {lo:Addr} {h:Heap} {as:List Addr} (g:jG x lo h as) {a:Addr} (ha:a∈as):a < h.objs.size:=by
 obtain ⟨j,hj⟩:=List.mem_iff_getElem?.mp ha
 obtain ⟨_,_,_,_,q⟩:=g.pairs j a hj
 exact Heap.lt_size q
end
section
variable {prog:Program} {w:World} {A:Around} {s:Shared} {R:Result->Shared->Prop} {x:Str} {t:Tok}
theorem DU {S e it lo:Addr} (hh:A.handled=none) (l1:e < lo) (l2:it < lo) (l3:S<=lo) (n1:S≠e) (n2:S≠it) (nei:e≠it) (hn:x.cps.size<=sizeLine) (out:Value) {h₁:Heap}
  (fin:∀ h' tk acc c as,(∀ b o,b≠S->b≠e->b≠it->h₁.get? b=some o->h'.get? b=some o)->h'.get? S=some { cls:=.type "list",dict:=none,data:=.seq acc c,slots:=#[] }->as.length=x.cps.size->jG x lo h' as->
   acc.toList=as.map Value.ref->R (.ok (.ret out)) { s with heap:=h',toks:=tk }) :
  ∀ (k i:Nat) (h:Heap) (tk c:Nat) (acc:Array Value) (as:List Addr),x.cps.size - i=k->i<=x.cps.size->jQ h e it S i->h.IsStrIter it (strIterType x) x t i->(∀ b o,b≠S->b≠e->b≠it->h₁.get? b=some o->h.get? b=some o)->
   h.get? S=some { cls:=.type "list",dict:=none,data:=.seq acc c,slots:=#[] }->acc.toList=as.map Value.ref->as.length=i->jG x lo h as->lo < h.objs.size->
   codeAny (model prog w) A (.builtin "list.extend.loop" ⟨[.ref S,.ref e,out],[]⟩) R { s with heap:=h,toks:=tk }:=by
 intro k
 induction k with
 | zero=>
  intro i h tk c acc as hk hi st hs keep qS qa ql G lz
  have hin:i=x.cps.size:=by omega
  subst hin
  refine codeAny_builtin PySem.F.entry_extend_loop ?_
  rw [Around.under_plainId PySem.F.plain_extend_loop _]
  change wpAny _ A.in1 (pyNext (.ref e) >>= _) _ _ _
  refine wpAny_bind (D0 (s:={ s with heap:=h,toks:=tk }) (A:=A.in1) hh st hs fun h' eb=>?_)
  refine wpAny_pure (fin h' tk acc c as (fun b o z1 z2 z3 q=>eb b o z3 (keep b o z1 z2 z3 q)) (eb S _ n2 qS) ql ⟨G.rise,G.above,fun j a hj=>?_⟩ qa)
  obtain ⟨t',c',u',p1,p2⟩:=G.pairs j a hj
  exact ⟨t',c',u',p1,eb a _ (Nat.ne_of_gt (Nat.lt_trans l2 (G.above a (List.mem_of_getElem? hj)))) p2⟩
 | succ k ih=>
  intro i h tk c acc as hk hi st hs keep qS qa ql G lz
  have lt0:i < x.cps.size:=by omega
  have sz:acc.size=i:=by rw [<-Array.length_toList,qa,List.length_map,ql]
  have lS:S < h.objs.size:=Heap.lt_size qS
  refine codeAny_builtin PySem.F.entry_extend_loop ?_
  rw [Around.under_plainId PySem.F.plain_extend_loop _]
  change wpAny _ A.in1 (pyNext (.ref e) >>= _) _ _ _
  refine wpAny_bind (Ek (s:={ s with heap:=h,toks:=tk }) (S:=S) (A:=A.in1) hh st lS hs lt0 nei fun v h' tk' pv st' hs' tt zz kp=>?_)
  dsimp only at tt zz kp ⊢
  have qS':=kp S _ n1 n2 qS
  have ups:∀ b o,b≠S->h'.get? b=some o->(h'.update S (Obj.mapSeq (·.push (Value.ref h.objs.size)))).get? b=some o:=fun b o nb y=>(Heap.get?_update_other _ _ (Ne.symm nb)).trans y
  change wpAny _ A.in1 (updateSeq S (·.push (Value.ref h.objs.size)) >>= _) _ _ _
  refine wpAny_bind ?_
  refine wpAny_updateSeq qS' rfl (wpAny_pure ⟨plainId_quiet PySem.F.plain_extend_loop _,ih (i + 1) _ (tk' + 1) _ (acc.push (Value.ref h.objs.size)) (as++[h.objs.size]) (by omega) lt0 (st'.keep ups (Ne.symm n1)) (nR hs' fun o y=>ups it o (Ne.symm n2) y)
   (fun b o z1 z2 z3 y=>ups b o z1 (kp b o z2 z3 (keep b o z1 z2 z3 y))) (Heap.get?_update_self _ qS' rfl) (by rw [Array.toList_push,qa,List.map_append];rfl) (by rw [List.length_append,ql];rfl) ⟨?_,?_,?_⟩ ?_⟩) (by rw [sz];omega) (by change (acc.push (Value.ref h.objs.size)).size<=sizeLine + 1;rw [Array.size_push,sz];omega)
  ·refine List.pairwise_append.mpr ⟨G.rise,List.pairwise_singleton _ _,fun a ha b hb=>?_⟩
   rw [List.mem_singleton.mp hb]
   exact G.there ha
  ·intro a ha
   rcases List.mem_append.mp ha with z | z
   ·exact G.above a z
   ·rw [List.mem_singleton.mp z];exact lz
  ·intro j b hj
   rcases Nat.lt_trichotomy j as.length with z | z | z
   ·rw [List.getElem?_append_left z] at hj
    obtain ⟨t',c',u',p1,p2⟩:=G.pairs j b hj
    have hb:=G.above b (List.mem_of_getElem? hj)
    exact ⟨t',c',u',p1,ups b _ (Nat.ne_of_gt (Nat.lt_of_le_of_lt l3 hb)) (kp b _ (Nat.ne_of_gt (Nat.lt_trans l1 hb)) (Nat.ne_of_gt (Nat.lt_trans l2 hb)) p2)⟩
   ·subst z
    have hb:h.objs.size=b:=by simpa using hj
    subst hb
    obtain ⟨c',u',p1,p2⟩:=pv
    refine ⟨tk',c',u',by rw [ql];exact p1,ups _ _ (Nat.ne_of_gt lS) ?_⟩
    rw [tt,p2,ql]
   ·have nn:(as++[h.objs.size])[j]?=none:=List.getElem?_eq_none (by rw [List.length_append,List.length_singleton];omega)
    rw [nn] at hj;cases hj
  ·have y:(h'.update S (Obj.mapSeq (·.push (Value.ref h.objs.size)))).get? h.objs.size=_:=ups _ _ (Nat.ne_of_gt lS) tt
   exact Nat.lt_trans lz (Heap.lt_size y)
end
theorem IS:typeLookup (.type "enumerate") "__len__"=pure none:=by rw [typeLookup_type,builtinLookup_eq_fast];kernel_rfl
theorem By:typeLookup (.type "enumerate") "__length_hint__"=pure none:=by rw [typeLookup_type,builtinLookup_eq_fast];kernel_rfl
section
variable {prog:Program} {w:World} {A:Around} {E:Value->Shared->Prop} {s:Shared} {x:Str} {t:Tok}
theorem Bp {R:Result->Shared->Prop} {S e it lo:Addr} (hh:A.handled=none) (qe:IsEnum s.heap e it 0 .none) (hs:s.heap.IsStrIter it (strIterType x) x t 0) (l1:e < lo) (l2:it < lo) (l3:S<=lo) (n1:S≠e) (n2:S≠it) (nei:e≠it) (hn:x.cps.size<=sizeLine) (out:Value) (c₀:Nat)
  (qS:s.heap.get? S=some { cls:=.type "list",data:=.seq #[] c₀ }) (lz:lo < s.heap.objs.size)
  (fin:∀ h' tk acc c as,(∀ b o,b≠S->b≠e->b≠it->s.heap.get? b=some o->h'.get? b=some o)->h'.get? S=some { cls:=.type "list",dict:=none,data:=.seq acc c,slots:=#[] }->as.length=x.cps.size->jG x lo h' as->
   acc.toList=as.map Value.ref->R (.ok (.ret out)) { s with heap:=h',toks:=tk }) :
  wpAny (model prog w) A.in1 (Builtin.List.listExtendWith (.ref S) (.ref e) out)
   (fun f s'=>match f with | .done f=>R (.ok f) s' | .again c'=>c'.quiet=true/\codeAny (model prog w) A c' R s') (fun e s'=>R (.error e) s') s:=by
 have ty:s.TypeIs (.ref e) "enumerate":=⟨_,qe,rfl⟩
 unfold Builtin.List.listExtendWith
 refine wpAny_bind (wpAny_typeOf ty ?_)
 have b1:Builtin.List.listSameRef (.ref S) (.ref e)=false:=by simp [Builtin.List.listSameRef,n1]
 have b2:(Value.type "enumerate" == Value.type "list")=false:=by decide
 have b3:(Value.type "enumerate" == Value.type "tuple")=false:=by decide
 simp only [b1,b2,b3,Bool.or_false,Bool.false_eq_true,if_false]
 refine wpAny_bind (wpAny_pyIter_enum qe ?_)
 refine wpAny_bind (wpAny_holding ?_)
 unfold Builtin.List.listLengthHint
 refine wpAny_bind (wpAny_specialOf ty IS ?_)
 change wpAny _ A.in1 (specialOf (Value.ref e) (Str.ofString "__length_hint__") >>= _) _ _ _
 refine wpAny_bind (wpAny_specialOf ty By ?_)
 refine wpAny_pure ?_
 change wpAny _ A.in1 (rule "list.extend.makes-room" >>= fun _=>Builtin.List.listTouch (.ref S) >>= fun _=>again (.builtin "list.extend.loop" ⟨[.ref S,.ref e,out],[]⟩)) _ _ _
 refine wpAny_bind (wpAny_rule ?_)
 refine wpAny_bind ?_
 change wpAny _ A.in1 (updateSeq S (·.push .none) >>= fun _=>updateSeq S (·.pop)) _ _ _
 refine wpAny_bind (wpAny_updateSeq qS rfl ?_)
 have qS2:=Heap.get?_update_self (Obj.mapSeq (·.push Value.none)) qS rfl
 refine wpAny_updateSeq (hz:=by seq_fits) qS2 rfl ?_
 have qS3:=Heap.get?_update_self (Obj.mapSeq (·.pop)) qS2 rfl
 have oth:∀ b o,b≠S->s.heap.get? b=some o->((s.heap.update S (Obj.mapSeq (·.push Value.none))).update S (Obj.mapSeq (·.pop))).get? b=some o:=
  fun b o nb y=>(Heap.get?_update_other _ _ (Ne.symm nb)).trans ((Heap.get?_update_other _ _ (Ne.symm nb)).trans y)
 refine wpAny_pure ⟨plainId_quiet PySem.F.plain_extend_loop _,DU (h₁:=s.heap) (t:=t) (s:=s) hh l1 l2 l3 n1 n2 nei hn out fin x.cps.size 0 _ s.toks _ #[] [] (Nat.sub_zero _) (Nat.zero_le _) (.inl ⟨rfl,oth _ _ (Ne.symm n1) qe⟩) (nR hs fun o y=>oth it o (Ne.symm n2) y) (fun b o z1 _ _ y=>oth b o z1 y) qS3 rfl rfl ⟨List.Pairwise.nil,(fun _ z=>nomatch z),(fun j a hj=>by simp at hj)⟩ ?_⟩
 rw [Heap.size_update,Heap.size_update]
 exact lz
end
section
variable {P:Program} {w:World} {fs ex:List Addr} {H H':Hp} {h h':Heap}
theorem Un.fresh (k:∀ b u,h.get? b=some u->h'.get? b=some u) (same:∀ b,b < h.objs.size->H' b=H b) (big:∀ b,h.objs.size<=b->H b=none):Un fs ex H H' h h' where
 keep:=fun b u q _ _ _=>k b u q
 slot:=fun b u q _ _ _=>⟨u.slots,k b u q⟩
 free:=fun b u q n _=>by rw [same b (Heap.lt_size q)];exact n
 there:=fun b u q _=>⟨u,k b u q⟩
 tups:=fun b xs q=>by
  have hb:b < h.objs.size:=Nat.lt_of_not_le fun z=>by rw [big b z] at q;cases q
  rw [same b hb];exact q
 frzs:=fun b u xs q=>by
  have hb:b < h.objs.size:=Nat.lt_of_not_le fun z=>by rw [big b z] at q;cases q
  rw [same b hb];exact q
 tbls:=fun b ps q=>⟨#[],by
  have hb:b < h.objs.size:=Nat.lt_of_not_le fun z=>by rw [big b z] at q;cases q
  rw [same b hb,q];simp⟩
theorem HOk.fresh2 (x:HOk P w H h) (k:∀ b u,h.get? b=some u->h'.get? b=some u) (same:∀ b,b < h.objs.size->H' b=H b) (new:∀ b o,h.objs.size<=b->H' b=some o->cb P w H' h' b o):HOk P w H' h':=fun b o q=>by
 by_cases hb:b < h.objs.size
 ·rw [same b hb] at q
  refine (x b o q).stay (fun c u _ r=>k c u r) (fun c r=>?_) fun c xs r=>?_
  ·rw [same c (x.lt r)];exact r
  ·rw [same c (x.lt r)];exact r
 ·exact new b o (Nat.le_of_not_lt hb) q
end
section
variable {prog:Program} {w:World} {A:Around} {E:Value->Shared->Prop} {s:Shared} {x:Str} {t:Tok}
theorem Ap {R:Result->Shared->Prop} {S e it:Addr} (hh:A.handled=none) (qe:IsEnum s.heap e it 0 .none) (hs:s.heap.IsStrIter it (strIterType x) x t 0) (l1:e < S) (l2:it < S) (nei:e≠it) (hn:x.cps.size<=sizeLine)
  (qS:s.heap.get? S=some { cls:=.type "list",data:=.seq #[] })
  (fin:∀ h' tk acc c as,(∀ b o,b≠S->b≠e->b≠it->s.heap.get? b=some o->h'.get? b=some o)->h'.get? S=some { cls:=.type "list",dict:=none,data:=.seq acc c,slots:=#[] }->as.length=x.cps.size->jG x S h' as->
   acc.toList=as.map Value.ref->R (.ok (.ret .none)) { s with heap:=h',toks:=tk }) :
  wpAny (model prog w) A.in1 (Builtin.«list.__init__» ⟨[.ref S,.ref e],[]⟩)
   (fun f s'=>match f with | .done f=>R (.ok f) s' | .again c'=>c'.quiet=true/\codeAny (model prog w) A c' R s') (fun e s'=>R (.error e) s') s:=by
 change wpAny _ A.in1 (do let old<-Builtin.List.listItems (.ref S);Builtin.List.listUpdate (.ref S) (fun _=>#[]);letGo old.toList.reverse;Builtin.List.listExtendWith (.ref S) (.ref e) .none) _ _ s
 refine wpAny_bind ?_
 unfold Builtin.List.listItems
 refine wpAny_bind (wpAny_seqItems qS rfl (wpAny_pure ?_))
 change wpAny _ A.in1 (updateSeq S (fun _=>#[]) >>= fun _=>letGo (#[]:Array Value).toList.reverse >>= fun _=>Builtin.List.listExtendWith (.ref S) (.ref e) .none) _ _ s
 refine wpAny_bind (wpAny_updateSeq qS rfl ?_)
 have qS2:=Heap.get?_update_self (Obj.mapSeq (fun _=>(#[]:Array Value))) qS rfl
 have oth:∀ b o,b≠S->s.heap.get? b=some o->(s.heap.update S (Obj.mapSeq (fun _=>(#[]:Array Value)))).get? b=some o:=fun b o nb y=>(Heap.get?_update_other _ _ (Ne.symm nb)).trans y
 refine wpAny_bind (wpAny_letGo ?_)
 refine Bp (t:=t) (lo:=S) hh (oth _ _ (Nat.ne_of_lt l1) qe) (nR hs fun o y=>oth it o (Nat.ne_of_lt l2) y) l1 l2 (Nat.le_refl _) (Nat.ne_of_gt l1) (Nat.ne_of_gt l2) nei hn .none _ qS2 (by rw [Heap.size_update];exact Heap.lt_size qS) fun h' tk acc c as k1 k2 k3 k4 k5=>?_
 exact fin h' tk acc c as (fun b o z1 z2 z3 y=>k1 b o z1 z2 z3 (oth b o z1 y)) k2 k3 k4 k5
theorem HP {Q:Value->Shared->Prop} {e it:Addr} (hh:A.handled=none) (qe:IsEnum s.heap e it 0 .none) (hs:s.heap.IsStrIter it (strIterType x) x t 0) (nei:e≠it) (hn:x.cps.size<=sizeLine)
  (fin:∀ h' tk acc c as,(∀ b o,b≠e->b≠it->s.heap.get? b=some o->h'.get? b=some o)->h'.get? s.heap.objs.size=some { cls:=.type "list",dict:=none,data:=.seq acc c,slots:=#[] }->as.length=x.cps.size->jG x s.heap.objs.size h' as->
   acc.toList=as.map Value.ref->Q (.ref s.heap.objs.size) { s with heap:=h',toks:=tk }) :
  wpAny (model prog w) A (call (.type "list") [.ref e]) Q E s:=by
 refine callType_codes (Q₁:=fun ob s1=>ob=.ref s.heap.objs.size/\s1={ s with heap:=s.heap.push { cls:=.type "list",data:=.seq #[] } }) PySem.F.called_list (PySem.F.typeCall_list_1 _) PySem.F.entry_list_init (code_list_new _ ⟨rfl,rfl⟩) fun ob s1 z=>?_
 obtain ⟨rfl,rfl⟩:=z
 have qS:(s.heap.push { cls:=.type "list",data:=.seq #[] }).get? s.heap.objs.size=some { cls:=.type "list",data:=.seq #[] }:=Heap.get?_push_size _ rfl
 have le:e < s.heap.objs.size:=Heap.lt_size qe
 have li:it < s.heap.objs.size:=by obtain ⟨o,ho,_⟩:=hs;exact Heap.lt_size ho
 refine ⟨⟨_,qS,rfl⟩,PySem.F.args_list_init_2 _ _,Ap (t:=t) (A:=A.in1) hh (Heap.get?_push_of_some _ qe) (nR hs fun o y=>Heap.get?_push_of_some _ y) le li nei hn qS fun h' tk acc c as k1 k2 k3 k4 k5=>?_⟩
 exact ⟨rfl,fin h' tk acc c as (fun b o z2 z3 y=>k1 b o (Nat.ne_of_lt (Heap.lt_size y)) z2 z3 (Heap.get?_push_of_some _ y)) k2 k3 k4 k5⟩
end
def fM (H:Hp):Nat->List Addr->List Nat->Hp
 | j,a :: as,c :: cs=>fM (upd H a (.tup [.int (j:Int),.str ⟨#[c]⟩])) (j + 1) as cs
 | _,_,_=>H
theorem lY:∀ (as:List Addr) (cs:List Nat) (H:Hp) (j:Nat) (b:Addr),b∉as->fM H j as cs b=H b
 | [],_,_,_,_,_=>rfl
 | _ :: _,[],_,_,_,_=>rfl
 | a :: as,c :: cs,H,j,b,h=>by
  unfold fM
  rw [lY as cs _ _ b fun z=>h (List.mem_cons_of_mem _ z),aA fun z=>h (by rw [z];exact List.mem_cons_self)]
theorem wj:∀ (as:List Addr) (cs:List Nat) (H:Hp) (j i:Nat) (b:Addr) (c:Nat),as.Nodup->as[i]?=some b->cs[i]?=some c->fM H j as cs b=some (.tup [.int ((j + i:Nat):Int),.str ⟨#[c]⟩])
 | [],_,_,_,i,_,_,_,h,_=>by simp at h
 | _ :: _,[],_,_,i,_,_,_,_,h=>by simp at h
 | a :: as,c0 :: cs,H,j,0,b,c,hn,h1,h2=>by
  have e1:a=b:=by simpa using h1
  have e2:c0=c:=by simpa using h2
  subst e1 e2
  unfold fM
  rw [lY as cs _ _ a (List.nodup_cons.mp hn).1,bw]
  rfl
 | a :: as,c0 :: cs,H,j,i + 1,b,c,hn,h1,h2=>by
  unfold fM
  rw [wj as cs _ (j + 1) i b c (List.nodup_cons.mp hn).2 (by simpa using h1) (by simpa using h2)]
  have:j + 1 + i=j + (i + 1):=by omega
  rw [this]
def tLE (ta:TE):TE:=fun σ H Q=>ta σ H fun v H1=>∃ z:Str,v=.str z/\z.cps.size<=sizeLine/\∀ (l:Addr) (as:List Addr),as.length=z.cps.size->as.Nodup->H1 l=none->l∉as->(∀ a∈as,H1 a=none)->Q (.ref l) (upd (fM H1 0 as z.cps.toList) l (.lst (as.map V.ref)))
theorem AZ:∀ {as:List Addr},as.Pairwise (· < ·)->as.Nodup:=fun h=>h.imp fun z=>Nat.ne_of_lt z
theorem zP:∀ as:List Addr,Vals (as.map V.ref) (as.map Value.ref)
 | []=>.nil
 | _ :: as=>.cons rfl (zP as)
section
variable {X:Cx}
theorem G0 {a:Expr} {ta:TE} {p1 p2 pos2 pos:Pos} (hc:X.calm=true) (ha:PE X a ta) (hg:Gl X "list") (hm:X.mg "list"=none) (hg2:Gl X "enumerate") (hm2:X.mg "enumerate"=none) (hb:bootBuiltins "list"=some (.type "list"))
  (hs2:starEach [a] X.env=(false,eval a X.env) :: starEach [] X.env) (hs:starEach [.Call (.Name "enumerate" p2) [a] [] pos2] X.env=(false,eval (.Call (.Name "enumerate" p2) [a] [] pos2) X.env) :: starEach [] X.env)
  (hp2:(backTo pos2 (starEach [] X.env)).any (·.1)=false) (hp:(backTo pos (starEach [] X.env)).any (·.1)=false):PE X (.Call (.Name "list" p1) [.Call (.Name "enumerate" p2) [a] [] pos2] [] pos) (tLE ta):=by
 intro pins s σ H Q I h
 refine Call_ (gM I hg hm hb (PyProof.Rows.callWith_type1 ?_ hs hp))
 rw [hs]
 change wpAny _ _ (spliced ((false,eval (.Call (.Name "enumerate" p2) [a] [] pos2) X.env) :: backTo pos (starEach [] X.env))) _ _ s
 refine Calls.spliced_cons (Call_ (gM I hg2 hm2 boot_enumerate (PyProof.Rows.callWith_type1 ?_ hs2 hp2)))
 rw [hs2]
 change wpAny _ _ (spliced ((false,eval a X.env) :: backTo pos2 (starEach [] X.env))) _ _ s
 refine Calls.spliced_cons (thn (ha pins s σ H _ I h) fun u s1 ⟨v,H1,I1,r1,z,e1,hn,q⟩=>?_)
 subst e1
 obtain ⟨t,rfl⟩:=r1
 refine Calls.spliced_nil (call_enumerate_str fun h' qe hs' zz kp=>Calls.spliced_nil ?_)
 refine HP (s:={ s1 with heap:=h' }) (t:=t) (I1.ok.hd hc) qe hs' (Nat.succ_ne_self _) hn fun h2 tk acc c as k1 k2 k3 k4 k5=>?_
 dsimp only at k1 k2 k4 ⊢
 have kp2:∀ b o,s1.heap.get? b=some o->h2.get? b=some o:=fun b o y=>k1 b o (Nat.ne_of_lt (Nat.lt_succ_of_lt (Heap.lt_size y))) (Nat.ne_of_lt (Heap.lt_size y)) (kp b o y)
 have hz:s1.heap.objs.size<=h'.objs.size:=by rw [zz];exact Nat.le_add_right _ _
 have nd:=AZ k4.rise
 have big:∀ b,s1.heap.objs.size<=b->H1 b=none:=fun b hb=>I1.hok.fresh hb
 have ab:∀ b∈as,s1.heap.objs.size<=b:=fun b hb=>Nat.le_of_lt (Nat.lt_of_le_of_lt hz (k4.above b hb))
 have nl:h'.objs.size∉as:=fun z=>Nat.lt_irrefl _ (k4.above _ z)
 have q2:=q h'.objs.size as (by rw [k3]) nd (big _ hz) nl (fun b hb=>big b (ab b hb))
 have same:∀ b,b < s1.heap.objs.size->upd (fM H1 0 as z.cps.toList) h'.objs.size (.lst (as.map V.ref)) b=H1 b:=fun b hb=>by
  rw [aA (Nat.ne_of_lt (Nat.lt_of_lt_of_le hb hz)),lY as _ _ _ b fun y=>absurd hb (Nat.not_lt.mpr (ab b y))]
 refine ⟨.ref h'.objs.size,_,I1.un (t':=tk) (Un.fresh kp2 same big) ?_,rfl,q2⟩
 refine HOk.fresh2 I1.hok kp2 same fun b o hb e=>?_
 by_cases hl:b=h'.objs.size
 ·subst hl
  rw [bw] at e
  cases e
  refine ⟨by rw [List.length_map,k3];exact hn,as.map Value.ref,c,zP as,?_⟩
  rw [<-k5]
  exact k2
 ·rw [aA hl] at e
  by_cases ha:b∈as
  ·obtain ⟨i,hi⟩:=List.mem_iff_getElem?.mp ha
   obtain ⟨t',c',u',y1,y2⟩:=k4.pairs i b hi
   rw [wj as _ H1 0 i b c' nd hi (by simpa using y1),Nat.zero_add] at e
   cases e
   exact ⟨by change 2<=sizeLine;decide,[.int (i:Int) t',.str ⟨#[c']⟩ u'],.cons ⟨_,rfl⟩ (.cons ⟨_,rfl⟩ .nil),⟨_,y2,rfl,_,rfl⟩⟩
  ·rw [lY as _ _ _ b ha,big b hb] at e
   cases e
end
end L2
namespace DL
open PySem PySem.Spec PyProof.Rows L2
def kf:Nat->List Nat->List D
 | _,[]=>[]
 | j,c :: cs=>.tup [.int (j:Int),.str ⟨#[c]⟩] :: kf (j + 1) cs
def mB:D->Option DV
 | .str z=>if z.cps.size<=sizeLine then some (.own (kf 0 z.cps.toList)) else none
 | _=>none
theorem sM {K:PySem.W.Frag} {Ω:Om} {σ:St} {δ:DSt}:∀ (as:List Addr) (cs:List Nat) (H:Hp) (j:Nat),az K H Ω σ δ->as.Nodup->(∀ a∈as,H a=none)->as.length=cs.length->
  Ext H Ω (fM H j as cs) Ω/\az K (fM H j as cs) Ω σ δ/\ax K (fM H j as cs) Ω (kf j cs) (as.map V.ref)
 | [],[],H,j,R,_,_,_=>⟨.refl,R,rfl⟩
 | [],_ :: _,_,_,_,_,_,h=>by cases h
 | _ :: _,[],_,_,_,_,_,h=>by cases h
 | a :: as,c :: cs,H,j,R,hn,hf,hl=>by
  have ha:H a=none:=hf a List.mem_cons_self
  obtain ⟨hn1,hn2⟩:=List.nodup_cons.mp hn
  obtain ⟨e1,e2,e3⟩:=sM as cs (upd H a (.tup [.int (j:Int),.str ⟨#[c]⟩])) (j + 1) (R.alloc ha) hn2 (fun b hb=>by
   rw [aA (fun z=>hn1 (by rw [<-z];exact hb))]
   exact hf b (List.mem_cons_of_mem _ hb)) (by simpa using hl)
  refine ⟨(Ext.alloc ha R.trk).trans e1,e2,.cons ?_ e3⟩
  have r0:Rep K (upd H a (.tup [.int (j:Int),.str ⟨#[c]⟩])) Ω (.tup [.int (j:Int),.str ⟨#[c]⟩]) (.ref a):=(show ∃ b vs,_ from ⟨a,_,rfl,SqT.of bw,.cons rfl (.cons rfl .nil)⟩)
  exact Rep.ext e1 r0
section
variable {X:Cx} {E:Str->Hp->Prop} {e:Expr} {f:DM DV} {pos:Pos}
theorem boot_list:bootBuiltins "list"=some (.type "list"):=by decide +kernel
theorem HA {p1 p2 pos2:Pos} (he:PED X E e f) (hc:X.calm=true) (hm:X.mg "list"=none) (hm2:X.mg "enumerate"=none) (hg:Gl X "list":=by rfl) (hg2:Gl X "enumerate":=by rfl)
  (hs2:starEach [e] X.env=(false,eval e X.env) :: starEach [] X.env:=by rfl) (hs:starEach [.Call (.Name "enumerate" p2) [e] [] pos2] X.env=(false,eval (.Call (.Name "enumerate" p2) [e] [] pos2) X.env) :: starEach [] X.env:=by rfl)
  (hp2:(backTo pos2 (starEach [] X.env)).any (·.1)=false:=by rfl) (hp:(backTo pos (starEach [] X.env)).any (·.1)=false:=by rfl) :
  PED X E (.Call (.Name "list" p1) [.Call (.Name "enumerate" p2) [e] [] pos2] [] pos) (fUn f mB):=by
 obtain ⟨t,q,d⟩:=he
 refine ⟨_,G0 hc q hg hm hg2 hm2 boot_list hs2 hs hp2 hp,?_⟩
 intro σ H δ Ω R Q h
 refine d.use R h fun a y δ1 H1 Ω1 _ s1 R1 r1 h1=>?_
 (try dsimp only at h1)
 split at h1
 ·rename_i dd hd
  split at h1
  ·rename_i z hz
   unfold mB at hz
   split at hz
   ·rename_i x
    split at hz
    ·rename_i hx
     cases hz
     have hy:y=.str x:=r1.res R1 hd
     refine ⟨x,hy,hx,fun l as e1 e2 e3 e4 e5=>?_⟩
     obtain ⟨k1,k2,k3⟩:=sM as x.cps.toList H1 0 R1 e2 e5 (by rw [e1,Array.length_toList])
     refine Wg.alloc1 (Wg.ext h1 k1) k2 ?_ k3
     rw [lY as _ _ _ l e4]
     exact e3
    ·cases hz
   ·cases hz
  ·exact h1.elim
 ·exact h1.elim
end
theorem IJ {z:Str} (h:z.cps.size<=sizeLine):mB (.str z)=some (.own (kf 0 z.cps.toList)):=if_pos h
end DL
namespace L2
open PySem PySem.Spec PyProof.Rows
section
variable {κ:Type} [DecidableEq κ]
def d9 (kvs:List (κ×V)) (k:κ):Option V:=(kvs.find? fun kv=>decide (kv.1=k)).map (·.2)
def putK (kvs:List (κ×V)) (k:κ) (v:V):List (κ×V):=
 if (kvs.any fun kv=>decide (kv.1=k))=true then kvs.map (fun kv=>if kv.1=k then (kv.1,v) else kv) else kvs++[(k,v)]
theorem oN {p:κ×V} {r:List (κ×V)} {k:κ} (e:p.1=k):d9 (p :: r) k=some p.2:=by simp [d9,List.find?_cons,e]
theorem nG {p:κ×V} {r:List (κ×V)} {k:κ} (e:¬ p.1=k):d9 (p :: r) k=d9 r k:=by simp [d9,List.find?_cons,e]
theorem tD (k:κ):∀ kvs:List (κ×V),(kvs.any fun kv=>decide (kv.1=k))=(d9 kvs k).isSome
 | []=>rfl
 | p :: r=>by
  rw [List.any_cons]
  by_cases e:p.1=k
  ·simp only [oN e,decide_eq_true e,Bool.true_or,Option.isSome_some]
  ·rw [nG e,decide_eq_false e,Bool.false_or];exact tD k r
theorem xH (kvs:List (κ×V)) (k:κ) (v:V):(putK kvs k v).length<=kvs.length + 1:=by
 unfold putK
 split
 ·rw [List.length_map];omega
 ·rw [List.length_append,List.length_cons,List.length_nil];omega
theorem dG.isSome_eq {o:Option V} {u:Option Value} (r:dG o u):o.isSome=u.isSome:=by
 cases o with
 | none=>cases u with
  | none=>rfl
  | some _=>exact (show False from r).elim
 | some _=>cases u with
  | none=>exact (show False from r).elim
  | some _=>rfl
theorem dG.getD {o:Option V} {u:Option Value} {d:V} {d':Value} (r:dG o u) (rd:RelV d d'):RelV (o.getD d) (u.getD d'):=by
 cases o with
 | none=>cases u with
  | none=>exact rd
  | some _=>exact (show False from r).elim
 | some _=>cases u with
  | none=>exact (show False from r).elim
  | some _=>exact r
theorem KV.val {kvs:List (κ×V)} {vs:List (κ×Value)} (r:KV kvs vs) (k:κ):dG (d9 kvs k) (valueAt vs k):=by
 unfold KV at r
 induction r with
 | nil=>exact True.intro
 | @cons p q ps qs h t ih=>
  obtain ⟨h1,h2⟩:=h
  by_cases e:p.1=k
  ·have e':q.1=k:=h1.symm.trans e
   have b:valueAt (q :: qs) k=some q.2:=by simp [valueAt,List.find?_cons,e']
   rw [oN e,b];exact h2
  ·have e':¬ q.1=k:=fun z=>e (h1.trans z)
   have b:valueAt (q :: qs) k=valueAt qs k:=by simp [valueAt,List.find?_cons,e']
   rw [nG e,b];exact ih
theorem KV.any {kvs:List (κ×V)} {vs:List (κ×Value)} (r:KV kvs vs) (k:κ):(kvs.any fun kv=>decide (kv.1=k))=vs.any fun kv=>decide (kv.1=k):=by
 unfold KV at r
 induction r with
 | nil=>rfl
 | cons h t ih=>rw [List.any_cons,List.any_cons,ih,h.1]
theorem KV.repl {kvs:List (κ×V)} {vs:List (κ×Value)} (r:KV kvs vs) (k:κ) {y:V} {u:Value} (ry:RelV y u) :
  KV (kvs.map fun kv=>if kv.1=k then (kv.1,y) else kv) (vs.map fun kv=>if kv.1=k then (kv.1,u) else kv):=by
 unfold KV at r ⊢
 induction r with
 | nil=>exact .nil
 | @cons p q ps qs h t ih=>
  rw [List.map_cons,List.map_cons]
  refine .cons ?_ ih
  obtain ⟨h1,h2⟩:=h
  by_cases e:p.1=k
  ·rw [if_pos e,if_pos (h1.symm.trans e)];exact ⟨h1,ry⟩
  ·rw [if_neg e,if_neg (fun z=>e (h1.trans z))];exact ⟨h1,h2⟩
theorem KV.put {kvs:List (κ×V)} {vs:List (κ×Value)} (r:KV kvs vs) (k:κ) {y:V} {u:Value} (ry:RelV y u):KV (putK kvs k y) (stored vs k u):=by
 unfold putK stored
 rw [r.any k]
 by_cases e:(vs.any fun kv=>decide (kv.1=k))=true
 ·rw [if_pos e,if_pos e];exact r.repl k ry
 ·rw [if_neg e,if_neg e];exact Paired.snoc r ⟨rfl,ry⟩
theorem KV.length {kvs:List (κ×V)} {vs:List (κ×Value)} (r:KV kvs vs):kvs.length=vs.length:=Paired.length r
end
theorem qw {P:Program} {w:World} {k:Key} {u:Value} (r:RelV (kV k) u):(dN P w).is k u=true:=by
 cases k with
 | inl i=>obtain ⟨t,e⟩:=(show ∃ t,u=Value.int i t from r);subst e;exact Ar P w i t
 | inr x=>obtain ⟨t,e⟩:=(show ∃ t,u=Value.str x t from r);subst e;exact IU P w x t
theorem zi {P:Program} {w:World}:∀ {ks:List Key} {us:List Value},Vals (ks.map kV) us->ItemsAre (dN P w) ks us
 | [],_,r=>by rw [List.map_nil] at r;cases r;exact .nil
 | k :: ks,_,r=>by
  rw [List.map_cons] at r
  cases r with
  | cons h t=>exact .cons (qw h) (zi t)
abbrev KT (H:Hp):List (List Key×V)->List (List Key×Addr×Value)->Prop:=Paired fun p q=>p.1=q.1/\H q.2.1=some (.tup (p.1.map kV))/\RelV p.2 q.2.2
theorem KT.val {H:Hp} {kvs:List (List Key×V)} {xs:List (List Key×Addr×Value)} (r:KT H kvs xs) (k:List Key):dG (d9 kvs k) ((atKey xs k).map (·.2)):=by
 induction r with
 | nil=>exact True.intro
 | @cons p q ps qs h t ih=>
  obtain ⟨h1,_,h2⟩:=h
  by_cases e:p.1=k
  ·have e':q.1=k:=h1.symm.trans e
   have b:atKey (q :: qs) k=some q.2:=by simp [atKey,List.find?_cons,e']
   rw [oN e,b];exact h2
  ·have e':¬ q.1=k:=fun z=>e (h1.trans z)
   have b:atKey (q :: qs) k=atKey qs k:=by simp [atKey,List.find?_cons,e']
   rw [nG e,b];exact ih
theorem KT.repl {H:Hp} {kvs:List (List Key×V)} {xs:List (List Key×Addr×Value)} (r:KT H kvs xs) (k:List Key) {y:V} {u:Value} (ry:RelV y u) :
  KT H (kvs.map fun kv=>if kv.1=k then (kv.1,y) else kv) (xs.map (putAt k u)):=by
 induction r with
 | nil=>exact .nil
 | @cons p q ps qs h t ih=>
  rw [List.map_cons,List.map_cons]
  refine .cons ?_ ih
  obtain ⟨h1,h2,h3⟩:=h
  unfold putAt
  by_cases e:p.1=k
  ·rw [if_pos e,if_pos (h1.symm.trans e)];exact ⟨h1,h2,ry⟩
  ·rw [if_neg e,if_neg (fun z=>e (h1.trans z))];exact ⟨h1,h2,h3⟩
theorem KT.put {H:Hp} {kvs:List (List Key×V)} {xs:List (List Key×Addr×Value)} (r:KT H kvs xs) (k:List Key) {b:Addr} {y:V} {u:Value} (hb:H b=some (.tup (k.map kV))) (ry:RelV y u) :
  KT H (putK kvs k y) (storedH xs k b u):=by
 have e:(kvs.any fun kv=>decide (kv.1=k))=(atKey xs k).isSome:=by
  rw [tD,(r.val k).isSome_eq,Option.isSome_map]
 unfold putK storedH
 rw [e]
 by_cases q:(atKey xs k).isSome=true
 ·rw [if_pos q,if_pos q];exact r.repl k ry
 ·rw [if_neg q,if_neg q];exact Paired.snoc r ⟨rfl,hb,ry⟩
theorem KT.keeps {H H':Hp} {kvs:List (List Key×V)} {xs:List (List Key×Addr×Value)} (r:KT H kvs xs) (ht:∀ b ys,H b=some (.tup ys)->H' b=some (.tup ys)):KT H' kvs xs:=
 Paired.mapP r fun _ _ z=>⟨z.1,ht _ _ z.2.1,z.2.2⟩
section
variable {P:Program} {w:World} {H:Hp} {h:Heap} {a:Addr}
theorem zC {u:HO} (ok:HOk P w H h) (e:Rd H a u):cb P w H h a u:=e.ok ok
theorem rM {kvs:List (Key×V)} (ok:HOk P w H h) (e:Rd H a (.dK kvs)):kvs.length<=sizeLine/\(a == sysModules)=false/\∃ vs,KV kvs vs/\h.DictOf (dN P w) a vs:=
 show cb P w H h a (.dK kvs) from zC ok e
theorem Je {kvs:List (Key×V)} (ok:HOk P w H h) (e:H a=some (.dK kvs)):kvs.length<=sizeLine/\(a == sysModules)=false/\∃ vs,KV kvs vs/\h.DictOf (dN P w) a vs:=rM ok (.inl e)
theorem qf {ks:List Key} (ok:HOk P w H h) (e:H a=some (.tup (ks.map kV))):(tupleKind (dN P w)).is h ks a:=by
 obtain ⟨_,its,r,o,h1,h2,n,h3⟩:=(show cb P w H h a (.tup (ks.map kV)) from ok a _ e)
 exact ⟨o,its.toArray,n,h1,h2,h3,by simpa using zi r⟩
theorem ra {kvs:List (List Key×V)} (ok:HOk P w H h) (e:Rd H a (.dT kvs)):kvs.length<=sizeLine/\(a == sysModules)=false /\
  ∃ xs,KT H kvs xs/\h.DictOfH (tupleKind (dN P w)) a xs:=by
 obtain ⟨z,y,xs,r,o,es,ep,h1,h2,h3,h4,h5⟩:=(show cb P w H h a (.dT kvs) from zC ok e)
 refine ⟨z,y,xs,r,o,es,ep,h1,h2,h3,h4,fun x hx=>?_,h5⟩
 have all:∀ {l:List (List Key×V)} {m:List (List Key×Addr×Value)},KT H l m->∀ x∈m,(tupleKind (dN P w)).is h x.1 x.2.1:=by
  intro l m q
  induction q with
  | nil=>intro x hx;exact nomatch hx
  | @cons p q ps qs hq t ih=>
   intro x hx
   rcases List.mem_cons.mp hx with e | hx
   ·subst e
    exact qf ok (by rw [<-hq.1];exact hq.2.1)
   ·exact ih x hx
 exact all r x hx
theorem HE {kvs:List (List Key×V)} (ok:HOk P w H h) (e:H a=some (.dT kvs)):kvs.length<=sizeLine/\(a == sysModules)=false /\
  ∃ xs,KT H kvs xs/\h.DictOfH (tupleKind (dN P w)) a xs:=ra ok (.inl e)
end
def ji (H:Hp) (a:Addr) (y:V) (r:Option V):Prop:=
 (∃ kvs k,Rd H a (.dK kvs)/\y=kV k/\r=d9 kvs k)\/∃ kvs k b,Rd H a (.dT kvs)/\y=.ref b/\H b=some (.tup (k.map kV))/\r=d9 kvs k
def j5 (H:Hp) (a:Addr) (y v:V) (H':Hp):Prop:=
 (∃ kvs k,H a=some (.dK kvs)/\y=kV k/\kvs.length < sizeLine/\H'=upd H a (.dK (putK kvs k v))) \/
 ∃ kvs k b,H a=some (.dT kvs)/\y=.ref b/\H b=some (.tup (k.map kV))/\kvs.length < sizeLine/\H'=upd H a (.dT (putK kvs k v))
theorem ji.k {H:Hp} {a:Addr} {kvs:List (Key×V)} {k:Key} (e:H a=some (.dK kvs)):ji H a (kV k) (d9 kvs k):=.inl ⟨kvs,k,.inl e,rfl,rfl⟩
theorem ji.t {H:Hp} {a b:Addr} {kvs:List (List Key×V)} {k:List Key} (e:H a=some (.dT kvs)) (eb:H b=some (.tup (k.map kV))):ji H a (.ref b) (d9 kvs k):=.inr ⟨kvs,k,b,.inl e,rfl,eb,rfl⟩
theorem j5.k {H:Hp} {a:Addr} {kvs:List (Key×V)} {k:Key} {v:V} (e:H a=some (.dK kvs)) (hl:kvs.length < sizeLine):j5 H a (kV k) v (upd H a (.dK (putK kvs k v))):=.inl ⟨kvs,k,e,rfl,hl,rfl⟩
theorem j5.t {H:Hp} {a b:Addr} {kvs:List (List Key×V)} {k:List Key} {v:V} (e:H a=some (.dT kvs)) (eb:H b=some (.tup (k.map kV))) (hl:kvs.length < sizeLine) :
  j5 H a (.ref b) v (upd H a (.dT (putK kvs k v))):=.inr ⟨kvs,k,b,e,rfl,eb,hl,rfl⟩
section
variable {X:Cx} {pins:List (Addr×Obj)} {σ:St} {H:Hp} {s:Shared} {a:Addr} {y v:V} {u r:Value} {o:Option V} {A:Around} {E:Value->Shared->Prop}
theorem Inv.big (I:Inv X pins σ H s):sysModules < s.heap.objs.size:=by
 have h:mainGlobals < s.heap.objs.size:=(I.mod.glob.keeps I.bk).lt
 exact Nat.lt_trans (by decide) h
theorem yx {h':Heap} {t':Nat} {ob:HO} (I:Inv X pins σ H s) (mu:Mut (H a)) (hs:Heap.SameBut a s.heap h') (he:∃ q,h'.get? a=some q) (new:cb X.prog X.w (upd H a ob) h' a ob) :
  Inv X pins σ (upd H a ob) { s with heap:=h',toks:=t' }:=
 I.write (x:=a) (e:=a) mu (.inl rfl) (fun b q hb z=>(hs.2 b hb).trans z) he new
theorem Hk {P:Program} {w:World} {H':Hp} {h':Heap} {kvs:List (Key×V)} {vs:List (Key×Value)} (z:kvs.length<=sizeLine) (hd:(a == sysModules)=false) (rel:KV kvs vs) (dd:h'.DictOf (dN P w) a vs) :
  cb P w H' h' a (.dK kvs):=⟨z,hd,vs,rel,dd⟩
theorem E6 {H':Hp} {Q:Unit->Shared->Prop} (hu:A.units + 1 < cLine) (I:Inv X pins σ H s) (g:j5 H a y v H') (ry:RelV y u) (rv:RelV v r) (h:∀ s',Inv X pins σ H' s'->Q () s') :
  wpAny (model X.prog X.w) A (setItem (.ref a) u r) Q E s:=by
 rcases g with ⟨kvs,k,e,ey,l,eH⟩ | ⟨kvs,k,b,e,ey,eb,l,eH⟩
 ·subst ey eH
  obtain ⟨z,hd,vs,rel,dd⟩:=Je I.hok e
  have hz:vs.length<=sizeLine:=by rw [<-rel.length];exact z
  have hl:(putK kvs k v).length<=sizeLine:=by have:=xH kvs k v;omega
  refine wpAny_setItem_pairs (hsz:=hz) (qw ry) dd fun h' dd' hs=>h _ ?_
  have he:∃ q,h'.get? a=some q:=let ⟨q,_,_,hq,_⟩:=dd';⟨q,hq⟩
  exact yx I (by rw [e];exact True.intro) hs he (Hk hl hd (rel.put k rv) dd')
 ·subst ey eH
  cases (show u=Value.ref b from ry)
  obtain ⟨z,hd,xs,rel,dd⟩:=HE I.hok e
  have hz:xs.length<=sizeLine:=by rw [<-Paired.length rel];exact z
  have hl:(putK kvs k v).length<=sizeLine:=by have:=xH kvs k v;omega
  refine wpAny_setItem_heap (hsz:=hz) (tupleKind_room_in1 hu) (qf I.hok eb) dd fun h' dd' hs=>h _ ?_
  obtain ⟨q,es,ep,hq,h2,h3,h4,_,h5⟩:=dd'
  refine yx I (by rw [e];exact True.intro) hs ⟨q,hq⟩ ⟨hl,hd,_,(rel.put k eb rv).keeps fun c ys ec=>?_,q,es,ep,hq,h2,h3,h4,h5⟩
  rw [aA (II ec e (fun z=>nomatch z))]
  exact ec
end
section
variable {X:Cx} {pins:List (Addr×Obj)} {σ:St} {H:Hp} {s:Shared} {a:Addr} {kvs:List (Key×V)} {k:Key} {u:Value} {A:Around} {E:Value->Shared->Prop}
end
def IK (td ty tv:TE):TS:=fun D σ H=>tv σ H fun v H1=>td σ H1 fun x H2=>ty σ H2 fun y H3=>∃ a H4,x=.ref a/\j5 H3 a y v H4/\D.nx σ H4
section
variable {X:Cx} {o i e value:Expr} {pos pos' tpos:Pos} {td ty tv:TE}
theorem DH (hu:X.A.units + 1 < cLine) (ho:PE X o td) (hi:PE X i ty) (hv:PE X value tv) (hs:swapsWith value (some (.Subscript o i pos')) pos.line X.env=pure false) :
  PS X (.Assign [.Subscript o i pos'] value pos) (IK td ty tv):=by
 intro pins s σ H D I h
 refine wpAny_Assign_Subscript (thn (hv pins s σ H _ I h) fun r s1 ⟨v,H1,I1,rv,q1⟩=>thn (ho pins s1 σ H1 _ I1 q1) fun u s2 ⟨x,H2,I2,rx,q2⟩=>thn (hi pins s2 σ H2 _ I2 q2) fun iv s3 ⟨y,H3,I3,ry,a,H4,ex,g,q3⟩=>?_) hs
 subst ex
 obtain rfl:u=Value.ref a:=rx
 exact E6 hu I3 g ry rv fun s4 I4=>⟨σ,H4,I4,q3⟩
end
theorem HV {P:Program} {w:World} {H:Hp} (h:Heap) (hb:sysModules < h.objs.size):cb P w H (h.push { cls:=.type "dict",data:=.dict #[] }) h.objs.size (.dT []):=
 ⟨Nat.zero_le _,beq_eq_false_iff_ne.mpr (Ne.symm (Nat.ne_of_lt hb)),[],.nil,_,#[],0,Heap.get?_push_size _ rfl,⟨rfl,rfl,rfl⟩,rfl,rfl,List.nodup_nil⟩
def vv:TE:=fun _ H Q=>∀ p,H p=none->Q (.ref p) (upd H p (.dT []))
section
variable {X:Cx} {pos:Pos}
theorem zZ:PE X (.Dict [] [] pos) vv:=fun pins s σ H Q I h=>
 wpAny_Dict_empty ⟨.ref s.heap.objs.size,_,I.laid (a:=s.heap.objs.size) (o:=.dT []) (t':=s.toks) (fun _ _ q=>Heap.get?_push_of_some _ q) (Nat.le_refl _) (HV s.heap I.big),rfl,h _ (I.hok.fresh (Nat.le_refl _))⟩
end
structure M1 (X:Cx) (o:Expr) (m:Str) (apos:Pos) (e:Expr) (cpos:Pos):Prop where
 base:attributeBase o m X.env (eval o X.env)=eval o X.env
 few:((backTo cpos (starEach [e] X.env)).all (fun x=>!x.1)&&(backToKw cpos (keywordEach [] X.env)).all (fun x=>x.1.isSome)
  && decide (([e]:List Expr).length + ([]:List Keyword).length + (if ([]:List Keyword).isEmpty then 0 else 1) < 30))=true
 line:(apos.endLine == cpos.line)=true
 trees:backTo cpos (starEach [e] X.env)=[(false,eval e X.env)]
structure M2 (X:Cx) (o:Expr) (m:Str) (apos:Pos) (e f:Expr) (cpos:Pos):Prop where
 base:attributeBase o m X.env (eval o X.env)=eval o X.env
 few:((backTo cpos (starEach [e,f] X.env)).all (fun x=>!x.1)&&(backToKw cpos (keywordEach [] X.env)).all (fun x=>x.1.isSome)
  && decide (([e,f]:List Expr).length + ([]:List Keyword).length + (if ([]:List Keyword).isEmpty then 0 else 1) < 30))=true
 line:(apos.endLine == cpos.line)=true
 trees:backTo cpos (starEach [e,f] X.env)=[(false,eval e X.env),(false,eval f X.env)]
def IsD (H:Hp) (a:Addr):Prop:=(∃ kvs,Rd H a (.dK kvs))\/∃ kvs,Rd H a (.dT kvs)
theorem DN {X:Cx} {pins:List (Addr×Obj)} {σ:St} {H:Hp} {s:Shared} {a:Addr} (I:Inv X pins σ H s) (d:IsD H a) :
  s.TypeIs (.ref a) "dict"/\(∀ b,Value.ref a=.ref b->∃ ob,s.heap.get? b=some ob/\ob.dict=none)/\(a == sysModules)=false:=by
 rcases d with ⟨kvs,e⟩ | ⟨kvs,e⟩
 ·obtain ⟨_,hd,vs,_,dd⟩:=rM I.hok e
  refine ⟨dd.typeIs,fun b q=>?_,hd⟩
  cases q
  obtain ⟨ob,_,_,h1,h2,_⟩:=dd
  exact ⟨ob,h1,h2.2.1⟩
 ·obtain ⟨_,hd,xs,_,dd⟩:=ra I.hok e
  refine ⟨dd.typeIs,fun b q=>?_,hd⟩
  cases q
  obtain ⟨ob,_,_,h1,h2,_⟩:=dd
  exact ⟨ob,h1,h2.2.1⟩
section
variable {X:Cx} {pins:List (Addr×Obj)} {σ:St} {H:Hp} {s:Shared} {a:Addr} {y d:V} {u r:Value} {o:Option V} {A:Around} {E:Value->Shared->Prop}
theorem Fd {Q:Value->Shared->Prop} (hu:A.units + 1 < cLine) (I:Inv X pins σ H s) (g:ji H a y o) (ry:RelV y u) (rd:RelV d r) (h:∀ w' s',Inv X pins σ H s'->RelV (o.getD d) w'->Q w' s') :
  wpAny (model X.prog X.w) A (call (.builtin "dict.get") [.ref a,u,r]) Q E s:=by
 rcases g with ⟨kvs,k,e,ey,l⟩ | ⟨kvs,k,b,e,ey,eb,l⟩
 ·subst ey
  obtain ⟨z,hd,vs,rel,dd⟩:=rM I.hok e
  refine call_meetsIn PySem.F.slot_dict_get dd.typeIs PySem.F.entry_dict_get (PySem.F.args_dict_get_3 _ _ _) (meets_dict_get_default (dN X.prog X.w) a (qw ry) hd r) ⟨_,dd.mapOf,h _ _ (I.tok _) ?_⟩
  rw [l]
  exact (rel.val k).getD rd
 ·subst ey
  cases (show u=Value.ref b from ry)
  obtain ⟨z,hd,xs,rel,dd⟩:=ra I.hok e
  refine call_meetsIn PySem.F.slot_dict_get dd.typeIs PySem.F.entry_dict_get (PySem.F.args_dict_get_3 _ _ _) (meetsH_dict_get_default (tupleKind (dN X.prog X.w)) a b hd r) ⟨tupleKind_room_in1 hu,k,xs,qf I.hok eb,dd,h _ _ (I.tok _) ?_⟩
  rw [l]
  exact (rel.val k).getD rd
end
def ES (td ty tx:TE):TE:=fun σ H Q=>td σ H fun x H1=>∃ a,x=.ref a/\IsD H1 a/\ty σ H1 fun y H2=>tx σ H2 fun z H3=>∃ o,ji H3 a y o/\Q (o.getD z) H3
section
variable {X:Cx} {o e f:Expr} {apos cpos:Pos} {td ty tx:TE}
theorem Jq (hu:X.A.units + 1 < cLine) (ho:PE X o td) (he:PE X e ty) (hf:PE X f tx) (m:M2 X o "get" apos e f cpos):PE X (.Call (.Attribute o "get" apos) [e,f] [] cpos) (ES td ty tx):=by
 intro pins s σ H Q I h
 refine wpAny_Call_method m.base m.few m.line PySem.F.plainAttrs_dict PySem.F.slot_dict_get PySem.F.type_dict_get (thn (ho pins s σ H _ I h) fun u s1 ⟨x,H1,I1,rx,a,ex,d,q1⟩=>?_)
 subst ex
 obtain rfl:u=Value.ref a:=rx
 obtain ⟨t1,t2,_⟩:=DN I1 d
 refine ⟨t1,t2,?_⟩
 rw [m.trees]
 refine Calls.callWith_builtin rfl (Calls.evalArgs_plain (Calls.spliced_cons (thn (he pins s1 σ H1 _ I1 q1) fun iv s2 ⟨y,H2,I2,ry,q2⟩=>
  Calls.spliced_cons (thn (hf pins s2 σ H2 _ I2 q2) fun fv s3 ⟨z,H3,I3,rz,ov,g,q3⟩=>Calls.spliced_nil ?_))))
 exact Fd hu I3 g ry rz fun w' s4 I4 rw'=>⟨_,H3,I4,rw',q3⟩
end
end L2
namespace DL
open PySem PySem.Spec PyProof.Rows L2
section
variable {K:PySem.W.Frag} {E:Str->Hp->Prop} {H H1 H2 H':Hp} {Ω Ω1 Ω2 Ω':Om} {σ:St} {δ:DSt} {mp:List Nat}
theorem Ext.allocK {p:Addr} {o:HO} {k:Nat} (hp:H p=none) (trk:Trk H Ω):Ext H Ω (upd H p o) (bu Ω p (k + 1)) where
 keep:=fun b o' e _=>by rw [aA (cH e hp)];exact e
 new:=fun b e h=>by
  unfold bu
  rw [if_neg (fun z=>h (by rw [z];exact hp))]
  exact e
 fr:=fun b=>by
  unfold bu
  split
  ·rename_i z
   subst z
   constructor
   ·intro q
    obtain ⟨vs,e,_⟩:=trk _ _ q
    rw [hp] at e;cases e
   ·intro q;cases q
  ·exact Iff.rfl
 live:=fun b e=>by
  unfold upd at e
  split at e
  ·cases e
  ·exact e
theorem az.allocK {p:Addr} {o:HO} {k:Nat} (R:az K H Ω σ δ) (hp:H p=none) (ho:bV o=false):az K (upd H p o) (DL.bu Ω p (k + 1)) σ δ:=
 R.ext (.allocK hp R.trk) (fun b j u q1 q2=>by
  have:b≠p:=cH q2 hp
  exact ⟨by rw [aA this];exact q2,by unfold DL.bu;rw [if_neg this];exact q1⟩) fun a j q=>by
  by_cases h:a=p
  ·subst h;exact ⟨_,bw,ho⟩
  ·unfold DL.bu at q
   rw [if_neg h] at q
   obtain ⟨vs,e,f⟩:=R.trk a j q
   exact ⟨vs,by rw [aA h];exact e,f⟩
theorem Ext.putK {p:Addr} {k:Nat} {o:HO} (hl:∃ vs,H p=some vs/\bV vs=false) (hp:Ω p=some (k + 1)):Ext H Ω (upd H p o) Ω:=.putOw hl hp
theorem az.putK {i:Nat} {p:Addr} {o:HO} {s:Sl} (R:az K H Ω σ δ) (hl:∃ vs,H p=some vs/\bV vs=false) (hp:Ω p=some (i + 2)) (ho:bV o=false) (hs:hR K (upd H p o) Ω i s (σ[i]?).join):az K (upd H p o) Ω σ (δ.set i s):=by
 refine ⟨by rw [List.length_set];exact R.len,fun j s' h=>?_,fun a k q=>?_⟩
 ·by_cases hj:i=j
  ·subst hj
   have hl':i < δ.length:=by
    have:=(List.getElem?_eq_some_iff.mp h).1
    rwa [List.length_set] at this
   rw [List.getElem?_set_self hl'] at h
   cases h
   exact hs
  ·rw [List.getElem?_set_ne hj] at h
   have ex:Ext H Ω (upd H p o) Ω:=.putK hl hp
   refine (R.sl j s' h).mv (fun _ _=>.ext ex) (fun _ _=>.ext ex) fun a ws e3 e2=>?_
   have ha:a≠p:=by
    rintro rfl
    rw [hp] at e3
    exact hj (by have:=Option.some.inj e3;omega)
   exact ⟨by rw [aA ha];exact e2,e3⟩
 ·by_cases ha:a=p
  ·subst ha;exact ⟨_,bw,ho⟩
  ·obtain ⟨ws,e,f⟩:=R.trk a k q
   exact ⟨ws,by rw [aA ha];exact e,f⟩
end
section
variable {X:Cx} {E:Str->Hp->Prop} {pos:Pos} {e e1:Expr} {f f1:DM DV} {mp:List Nat}
end
section
variable {i:Nat} {δ δ1 δ2:DSt} {f f1 f2:DM DV}
end
end DL
namespace DL
open PySem PySem.Spec PyProof.Rows L2
def lab (Ω:Om) (S:List Addr) (k:Nat):Om:=fun b=>if b∈S then some k else Ω b
section
variable {K:PySem.W.Frag} {E:Str->Hp->Prop} {H H1 H2 H':Hp} {Ω Ω1 Ω2 Ω':Om} {σ:St} {δ:DSt} {mp:List Nat} {k:Nat} {S:List Addr}
end
section
variable {X:Cx} {E:Str->Hp->Prop} {pos:Pos} {e e1:Expr} {f f1:DM DV} {mp:List Nat}
end
section
variable {i:Nat} {δ δ1 δ2:DSt} {fi:DM (List D)} {f1 f2:DM DV}
end
end DL
namespace L2
open PySem PySem.Spec PyProof.Rows
section
variable {X:Cx}
end
end L2
namespace DL
open PySem PySem.Spec PyProof.Rows L2
section
variable {X:Cx} {E:Str->Hp->Prop} {e:Expr} {f:DM DV} {pos:Pos}
def imax (i j:Int):Int:=if j > i then j else i
def nJ:List D->Option DV
 | [.int i,.int j]=>some (.val (.int (imax i j)))
 | _=>none
theorem C7 (hc:X.calm=true):fR X (.builtin "max") nJ:=⟨_,Jz hc,by
 intro E σ H δ Ω vs ds z Q R r hz h
 unfold nJ at hz
 split at hz
 ·cases hz
  obtain ⟨v,v',e,rv,rv'⟩:=xw r
  cases (show v=.int _ from rv)
  cases (show v'=.int _ from rv')
  exact ⟨_,_,e,h.now R rfl⟩
 ·cases hz⟩
end
end DL
namespace L2
open PySem PySem.Spec PyProof.Rows PySem.W
theorem cb.has {P:Program} {w:World} {H:Hp} {h:Heap} {a:Addr} {o:HO} (x:cb P w H h a o):∃ u,h.get? a=some u:=by
 cases o with
 | lst xs=>obtain ⟨_,_,_,_,e⟩:=x;exact ⟨_,e⟩
 | tup xs=>obtain ⟨_,_,_,_,e,_⟩:=x;exact ⟨_,e⟩
 | dK kvs=>obtain ⟨_,_,_,_,o,_,_,e,_⟩:=x;exact ⟨_,e⟩
 | dT kvs=>obtain ⟨_,_,_,_,o,_,_,e,_⟩:=x;exact ⟨_,e⟩
 | set S n=>obtain ⟨o,_,_,_,e,_⟩:=x;exact ⟨_,e⟩
 | ins C dx fs=>obtain ⟨_,_,_,e,_⟩:=x;exact ⟨_,e⟩
 | own y=>obtain ⟨_,e⟩:=x;exact ⟨_,e⟩
 | xd fs=>obtain ⟨_,⟨_,_,_,e,_⟩,_⟩:=x;exact ⟨_,e⟩
 | rng lo hi=>obtain ⟨_,_,_,e⟩:=x;exact ⟨_,e⟩
 | frz ob u=>obtain ⟨e,_⟩:=x;exact ⟨_,e⟩
 | tbl ps=>exact ⟨_,(show h.get? a=some _ from x)⟩
 | met f y=>exact ⟨_,(show h.get? a=some _ from x)⟩
 | ext φ=>obtain ⟨_,⟨_,e⟩,_⟩:=x;exact ⟨_,e⟩
def Tr (g:Heap) (H:Hp) (a:Addr) (cls:Value) (h:Heap):Prop:=
 g.get? a=none/\H a=none/\∃ a0 oe vs T oT ts,h.get? a=some oe/\(oe.cls=cls/\vs[0]?=some a0)/\oe.data=.fields vs/\vs[1]?=some (.ref T)/\g.get? T=none/\H T=none/\T≠a/\h.get? T=some oT/\oT.data=.fields ts/\ts[3]?=some .none
def Fly (P:Program) (w:World):CXT:=fun outer H s E e s'=>∃ a cls H',e=.ref a/\s'.os=s.os/\AllBare s'.gens/\Un (frs outer) [] H H' s.heap s'.heap/\HOk P w H' s'.heap/\Tr s.heap H' a cls s'.heap/\E cls none H'
section
variable {P:Program} {w:World} {K:PySem.W.Frag} {mg:Str->Option Value} {base:Heap} {N:List Str} {qual:Str} {scope:Scope} {f:Addr} {cd:Value} {A:Around} {outer:List Env} {s₀:Shared} {H₀:Hp} {E₀:XK}
 {pins:List (Addr×Obj)} {σ:St} {H:Hp} {s:Shared}
end
abbrev bmV:List Value:=[.type "ValueError",.type "Exception",.type "BaseException",.type "object"]
structure tS (K:PySem.W.Frag) (mg:Str->Option Value) (x:Str) (C:Addr):Prop where
 g:mg x=some (.ref C)
 q:excIn K C bmV "ValueError.__new__"=true
theorem tS.own {K:PySem.W.Frag} {mg:Str->Option Value} {x:Str} {C:Addr} {h₀:Heap} (c:tS K mg x C) (X:K.In h₀):OwnCls x C bmV "ValueError.__new__" mg h₀:=by
 refine ⟨c.g,?_⟩
 have q:=c.q
 unfold excIn at q
 split at q
 ·rename_i dd cd sl ho
  split at q
  ·rename_i C' bm k0 k1 k2 k3 n k5 hm hs
   simp only [Bool.and_eq_true,beq_iff_eq,Bool.not_eq_true'] at q
   obtain ⟨⟨⟨⟨⟨rfl,rfl⟩,hdel⟩,ht⟩,hok⟩,hni⟩:=q
   obtain ⟨nm,bs,mro,ns,qn,hd,sn,sub,ab,col,del⟩:=cd
   dsimp only at hm hdel hok hni
   subst hm hdel
   have hsl:sl=#[k0,k1,k2,k3,some (.builtin "ValueError.__new__"),k5]:=by
    obtain ⟨l⟩:=sl
    simp only at hs
    rw [hs]
   subst hsl
   exact ⟨bm,ns,nm,qn,bs,hd,sn,sub,ab,col,dd,k0,k1,k2,k3,k5,_,X _ _ ho,.of_isNs (isNs_of_in X hok),nsMap_none_of_in X hok hni,tail_of_in X ht⟩
  ·cases q
 ·cases q
section
variable {X:Cx} {E:XK} {x:Str} {C:Addr} {np cpos pos:Pos} {e:Expr} {es:List Expr} {t:TA}
end
end L2
namespace L2
open PySem PySem.Spec PyProof.Rows PySem.W
section
variable {X:Cx} {e:Expr} {es:List Expr} {R R':St->Hp->Prop} {pos:Pos}
end
end L2
namespace DL
open PySem PySem.Spec PyProof.Rows L2
def yk (mg:Str->Option Value) (c:Str):Value:=(mg c).getD .none
section
variable {P:Program} {w:World} {K:PySem.W.Frag} {mg:Str->Option Value} {base:Heap} {H:Hp} {Ω:Om}
end
section
variable {X:Cx} {E:Str->Hp->Prop} {E0:XK} {pos:Pos} {e:Expr} {mp:List Nat}
structure JT (P:Program) (w:World) (K:PySem.W.Frag) (mg:Str->Option Value) (base:Heap) (k:Nat) (x:Str) (n:Nat) (M:List D->Ro):Prop where
 ex:∃ (f:Addr) (fd:FuncData) (ps:List Str),aR P w K mg base (Fly P w) k f fd ps (spP K (yk mg) n M)/\mg x=some (.ref f)/\PySem.W.keepIn K (.ref f)=true/\Binds K fd ps []
section
variable {x:Str} {p:Pos} {i:Nat}
end
end
end DL
namespace DL
open PySem PySem.Spec PyProof.Rows L2
mutual
def flat:D->Bool
 | .non=>true
 | .bl _=>true
 | .int _=>true
 | .str _=>true
 | .key _ _=>true
 | .tup ds=>dP ds
 | _=>false
def dP:List D->Bool
 | []=>true
 | d :: ds=>flat d&&dP ds
end
mutual
theorem Rep.flat {K:PySem.W.Frag} {H:Hp} {Ω Ω':Om}:∀ {d:D} {v:V},DL.flat d=true->Rep K H Ω d v->Rep K H Ω' d v
 | .non,_,_,h=>h
 | .bl _,_,_,h=>h
 | .int _,_,_,h=>h
 | .str _,_,_,h=>h
 | .key _ _,_,_,h=>h
 | .tup _,_,f,h=>by
  obtain ⟨a,vs,e1,e2,e3⟩:=(show ∃ a vs,_ from h)
  exact (show ∃ a vs,_ from ⟨a,vs,e1,e2,ax.flat f e3⟩)
 | .lst _,_,f,_=>by cases f
 | .scr _,_,f,_=>by cases f
 | .exc _,_,f,_=>by cases f
 | .obj _ _ _ _,_,f,_=>by cases f
theorem ax.flat {K:PySem.W.Frag} {H:Hp} {Ω Ω':Om}:∀ {ds:List D} {vs:List V},DL.dP ds=true->ax K H Ω ds vs->ax K H Ω' ds vs
 | [],_,_,h=>h
 | d :: ds,_,f,h=>by
  obtain ⟨v,r,e1,e2,e3⟩:=(show ∃ v r,_ from h)
  obtain ⟨f1,f2⟩:=Bool.and_eq_true_iff.mp (show (DL.flat d&&DL.dP ds)=true from f)
  exact (show ∃ v r,_ from ⟨v,r,e1,Rep.flat f1 e2,ax.flat f2 e3⟩)
end
structure Bd where
 ks:List (Str×Int)
 vs:List D
 as:List D
 bs:List D
abbrev Bd.sl (b:Bd):Sl:=.ob b.ks b.vs b.as b.bs
abbrev Bd.d (b:Bd):D:=.obj b.ks b.vs b.as b.bs
def eG (δ:DSt) (i:Nat):Option (Bd×Bool):=match δ[i]? with
 | some (.ob ks vs as bs)=>some (⟨ks,vs,as,bs⟩,true)
 | some (.sh (.obj ks vs as bs))=>some (⟨ks,vs,as,bs⟩,false)
 | _=>none
def bY (K:PySem.W.Frag) (H:Hp) (Ω:Om) (l:Option Nat) (p a1 a2 a3:Addr) (b:Bd):Prop:=∃ kvs xs ys,cz K H p a1 a2 a3/\(H a1=some (.dT kvs)/\Ω a1=l)/\(H a2=some (.lst xs)/\Ω a2=l)/\(H a3=some (.lst ys)/\Ω a3=l)/\kvs.map (·.1)=b.ks.map cg/\ax K H Ω b.vs (kvs.map (·.2))/\ax K H Ω b.as xs/\ax K H Ω b.bs ys
def bX (a1 a2 a3 x:Addr):Prop:=x=a1\/x=a2\/x=a3
instance {a1 a2 a3 x:Addr}:Decidable (bX a1 a2 a3 x):=by unfold bX;exact inferInstance
section
variable {K:PySem.W.Frag} {E:Str->Hp->Prop} {H H1 H':Hp} {Ω Ω1 Ω':Om} {σ:St} {δ:DSt} {p a1 a2 a3:Addr} {b:Bd} {l l':Option Nat}
theorem fg.pt {k:Nat} {ks:List (Str×Int)} {vs as bs:List D} (h:fg K H Ω k p ks vs as bs):∃ a1 a2 a3,bY K H Ω (some k) p a1 a2 a3 ⟨ks,vs,as,bs⟩/\a2≠a3:=by
 obtain ⟨a1,a2,a3,kvs,xs,ys,h1,h2,h3,h4,h5,h6⟩:=h
 exact ⟨a1,a2,a3,⟨kvs,xs,ys,h1,h2,h3,h4,h6⟩,h5⟩
theorem bY.ob {k:Nat} (h:bY K H Ω (some k) p a1 a2 a3 b) (hne:a2≠a3):fg K H Ω k p b.ks b.vs b.as b.bs:=by
 obtain ⟨kvs,xs,ys,h1,h2,h3,h4,h6⟩:=h
 exact ⟨a1,a2,a3,kvs,xs,ys,h1,h2,h3,h4,hne,h6⟩
theorem bY.obj (h:bY K H Ω none p a1 a2 a3 b):Rep K H Ω b.d (.ref p):=by
 obtain ⟨kvs,xs,ys,h1,h2,h3,h4,h5,h6,h7,h8⟩:=h
 exact (show ∃ p a1 a2 a3 kvs xs ys,_ from ⟨p,a1,a2,a3,kvs,xs,ys,rfl,h1,h2,h3,h4,h5,h6,h7,h8⟩)
theorem fO {i:Nat} {own:Bool} (R:az K H Ω σ δ) (h:eG δ i=some (b,own)):∃ p a1 a2 a3,σ[i]?=some (some (.ref p))/\bY K H Ω (if own then some (i + 2) else none) p a1 a2 a3 b/\(own=true->a2≠a3):=by
 unfold eG at h
 split at h
 ·rename_i ks vs as bs hd
  cases h
  obtain ⟨p,e0,ho⟩:=R.sl i _ hd
  obtain ⟨a1,a2,a3,h1,h2⟩:=fg.pt ho
  exact ⟨p,a1,a2,a3,join_some e0,h1,fun _=>h2⟩
 ·rename_i ks vs as bs hd
  cases h
  obtain ⟨v,e0,hv⟩:=R.sl i _ hd
  obtain ⟨p,a1,a2,a3,kvs,xs,ys,e1,e2⟩:=(show ∃ p a1 a2 a3 kvs xs ys,_ from hv)
  subst e1
  exact ⟨p,a1,a2,a3,join_some e0,⟨kvs,xs,ys,e2⟩,fun z=>by cases z⟩
 ·cases h
theorem bY.re (h:bY K H Ω l p a1 a2 a3 b) (hl:∀ x,Ω x=none->Ω' x=none) (h1:Ω' a1=l') (h2:Ω' a2=l') (h3:Ω' a3=l'):bY K H Ω' l' p a1 a2 a3 b:=by
 obtain ⟨kvs,xs,ys,q1,q2,q3,q4,q5,q6,q7,q8⟩:=h
 exact ⟨kvs,xs,ys,q1,⟨q2.1,h1⟩,⟨q3.1,h2⟩,⟨q4.1,h3⟩,q5,q6.less hl,q7.less hl,q8.less hl⟩
theorem bY.lab (h:bY K H Ω l p a1 a2 a3 b) {x:Addr} (hx:bX a1 a2 a3 x):Ω x=l/\∃ u,H x=some u/\bV u=false:=by
 obtain ⟨kvs,xs,ys,q1,q2,q3,q4,_⟩:=h
 rcases hx with rfl | rfl | rfl
 ·exact ⟨q2.2,_,q2.1,rfl⟩
 ·exact ⟨q3.2,_,q3.1,rfl⟩
 ·exact ⟨q4.2,_,q4.1,rfl⟩
theorem bY.bed (h:bY K H Ω l p a1 a2 a3 b):cz K H p a1 a2 a3:=h.choose_spec.choose_spec.choose_spec.1
def seen (Ω:Om) (a1 a2 a3:Addr) (l:Option Nat):Om:=fun x=>if bX a1 a2 a3 x then l else under Ω x
theorem cP {x:Addr} (h:bX a1 a2 a3 x):seen Ω a1 a2 a3 l x=l:=if_pos h
theorem jl {x:Addr} (h:¬ bX a1 a2 a3 x):seen Ω a1 a2 a3 l x=under Ω x:=if_neg h
def cM (Ω Ω':Om) (a1 a2 a3:Addr):Om:=fun x=>if bX a1 a2 a3 x then Ω x else back Ω Ω' x
theorem jY {x:Addr} (h:bX a1 a2 a3 x):cM Ω Ω' a1 a2 a3 x=Ω x:=if_pos h
theorem ir {x:Addr} (h:¬ bX a1 a2 a3 x):cM Ω Ω' a1 a2 a3 x=back Ω Ω' x:=if_neg h
theorem lM (hp:l=none\/∀ x,bX a1 a2 a3 x->Ω x≠none):∀ x,Ω x=none->seen Ω a1 a2 a3 l x=none:=fun x q=>by
 by_cases h:bX a1 a2 a3 x
 ·rcases hp with z | z
  ·rw [cP h];exact z
  ·exact absurd q (z x h)
 ·rw [jl h];exact f6 q
theorem lT (R:az K H Ω σ δ) (h:bY K H Ω l p a1 a2 a3 b):Trk H (seen Ω a1 a2 a3 l'):=fun x k q=>by
 by_cases hx:bX a1 a2 a3 x
 ·exact (h.lab hx).2
 ·rw [jl hx] at q;exact lZ R.trk x k q
theorem Ext.cM (h:bY K H Ω l p a1 a2 a3 b) (e:Ext H (seen Ω a1 a2 a3 l') H' Ω') (hc:l'=none\/∃ k,l=some (k + 1)):Ext H Ω H' (DL.cM Ω Ω' a1 a2 a3) where
 keep:=fun x o q z=>by
  by_cases hx:bX a1 a2 a3 x
  ·rcases hc with hc | ⟨k,hc⟩
   ·exact e.keep x o q (.inr (.inl (by rw [cP hx];exact hc)))
   ·obtain ⟨z1,u,z2,z3⟩:=h.lab hx
    rw [z2] at q
    cases q
    rcases z with z | z | z
    ·rw [z3] at z;cases z
    ·rw [z1,hc] at z;cases z
    ·rw [z1,hc] at z;cases z
  ·exact e.keep x o q (z.imp_right fun y=>by rw [jl hx];exact y.imp f6 gu)
 new:=fun x q z=>by
  by_cases hx:bX a1 a2 a3 x
  ·rw [jY hx];exact q
  ·rw [ir hx];exact iw x (e.new x (by rw [jl hx];exact f6 q) z)
 fr:=fun x=>by
  by_cases hx:bX a1 a2 a3 x
  ·rw [jY hx]
  ·rw [ir hx]
   constructor
   ·intro z
    rw [lj ((e.fr x).mp (by rw [jl hx];exact gu z))]
    exact z
   ·intro z
    unfold DL.back at z
    split at z
    ·exact z
    ·cases z
    ·cases z
 live:=e.live
theorem ve (R:az K H Ω σ δ) (h:bY K H Ω l p a1 a2 a3 b) (ht:Trk H' Ω') (hs:∀ x,bX a1 a2 a3 x->∃ u,H' x=some u/\bV u=false):Trk H' (DL.cM Ω Ω' a1 a2 a3):=fun x k q=>by
 by_cases hx:bX a1 a2 a3 x
 ·exact hs x hx
 ·rw [ir hx] at q
  unfold DL.back at q
  split at q
  ·rename_i z;exact ht x _ z
  ·rename_i z;exact ht x _ z
  ·cases q
theorem nU (hp:∀ x,bX a1 a2 a3 x->Ω' x=none->Ω x=none):∀ x,Ω' x=none->DL.cM Ω Ω' a1 a2 a3 x=none:=fun x q=>by
 by_cases hx:bX a1 a2 a3 x
 ·rw [jY hx];exact hp x hx q
 ·rw [ir hx];exact iw x q
theorem wK (e:Ext H (seen Ω a1 a2 a3 l') H' Ω') {x:Addr} {k:Nat} {u:HO} (hx:¬ bX a1 a2 a3 x) (q1:Ω x=some k) (q2:H x=some u):H' x=some u/\DL.cM Ω Ω' a1 a2 a3 x=some k:=by
 have z:seen Ω a1 a2 a3 l' x=some 0:=by rw [jl hx];exact gu q1
 exact ⟨e.keep x u q2 (.inr (.inr z)),by rw [ir hx,lj ((e.fr x).mp z)];exact q1⟩
theorem az.homeR (R:az K H Ω σ δ) (h:bY K H Ω l p a1 a2 a3 b) (e:Ext H (seen Ω a1 a2 a3 none) H' Ω') (ht:Trk H' Ω'):az K H' (DL.cM Ω Ω' a1 a2 a3) σ δ:=by
 have kp:∀ x,bX a1 a2 a3 x->∀ u,H x=some u->H' x=some u:=fun x hx u q=>e.keep x u q (.inr (.inl (cP hx)))
 refine R.ext (Ext.cM h e (.inl rfl)) (fun x k u q1 q2=>?_) (ve R h ht fun x hx=>?_)
 ·by_cases hx:bX a1 a2 a3 x
  ·exact ⟨kp x hx u q2,by rw [jY hx];exact q1⟩
  ·exact wK e hx q1 q2
 ·obtain ⟨_,u,z2,z3⟩:=h.lab hx
  exact ⟨u,kp x hx u z2,z3⟩
theorem az.homeW {i:Nat} {b':Bd} (R:az K H Ω σ δ) (h:bY K H Ω (some (i + 2)) p a1 a2 a3 b) (hne:a2≠a3) (hσ:σ[i]?=some (some (.ref p))) (e:Ext H (seen Ω a1 a2 a3 (some 2)) H' Ω') (ht:Trk H' Ω') (hb:fg K H' Ω' 2 p b'.ks b'.vs b'.as b'.bs) :
  az K H' (DL.cM Ω Ω' a1 a2 a3) σ (δ.set i b'.sl):=by
 have ex:=Ext.cM h e (.inr ⟨i + 1,rfl⟩)
 obtain ⟨c1,c2,c3,hc,_⟩:=fg.pt hb
 obtain ⟨rfl,rfl,rfl⟩:=(cz.ext ex h.bed).inj hc.bed
 have hl:∀ x,Ω' x=none->DL.cM Ω Ω' a1 a2 a3 x=none:=nU fun x hx q=>by rw [(hc.lab hx).1] at q;cases q
 refine ⟨by rw [List.length_set];exact R.len,fun j s q=>?_,ve R h ht fun x hx=>(hc.lab hx).2⟩
 by_cases hj:i=j
 ·subst hj
  have hlt:i < δ.length:=by
   have:=(List.getElem?_eq_some_iff.mp q).1
   rwa [List.length_set] at this
  rw [List.getElem?_set_self hlt] at q
  cases q
  refine ⟨p,by rw [hσ];rfl,bY.ob (b:=b') (hc.re hl ?_ ?_ ?_) hne⟩
  ·rw [jY (.inl rfl)];exact (h.lab (.inl rfl)).1
  ·rw [jY (.inr (.inl rfl))];exact (h.lab (.inr (.inl rfl))).1
  ·rw [jY (.inr (.inr rfl))];exact (h.lab (.inr (.inr rfl))).1
 ·rw [List.getElem?_set_ne hj] at q
  refine (R.sl j s q).mv (fun _ _=>.ext ex) (fun _ _=>.ext ex) fun x u q1 q2=>?_
  refine wK e (fun hx=>?_) q1 q2
  rw [(h.lab hx).1] at q1
  exact hj (by have:=Option.some.inj q1;omega)
end
end DL
namespace DL
open PySem PySem.Spec PyProof.Rows L2
inductive Rw where
 | un | er (c:Str) | ok (d:D) (b:Bd) | own (ds:List D) (b:Bd)
def RwQ (K:PySem.W.Frag) (E:Str->Hp->Prop) (H:Hp) (Ω:Om) (p a1 a2 a3:Addr) (b:Bd) (Q:VK):Rw->Prop
 | .un=>False
 | .er c=>bY K H Ω none p a1 a2 a3 b/\∀ H' Ω',Ext H Ω H' Ω'->Trk H' Ω'->E c H'
 | .ok d b'=>(bY K H Ω (some 2) p a1 a2 a3 b/\a2≠a3)/\∀ H' Ω',Ext H Ω H' Ω'->Trk H' Ω'->fg K H' Ω' 2 p b'.ks b'.vs b'.as b'.bs->∀ v,Rep K H' Ω' d v->Q v H'
 | .own es b'=>(bY K H Ω (some 2) p a1 a2 a3 b/\a2≠a3)/\∀ H' Ω',Ext H Ω H' Ω'->Trk H' Ω'->fg K H' Ω' 2 p b'.ks b'.vs b'.as b'.bs->∀ v,dy K H' Ω' [] (.own es) v->Q v H'
def spW (K:PySem.W.Frag) (ce:Str->Value) (n:Nat) (M:Bd->List D->Rw):Sp:=fun vs H Q E=>vs.length=n/\∃ (Ω:Om) (p a1 a2 a3:Addr) (ws:List V) (ds:List D) (b:Bd),Trk H Ω/\vs=.ref p :: ws/\ax K H Ω ds ws/\RwQ K (fun c H'=>E (ce c) none H') H Ω p a1 a2 a3 b Q (M b ds)
def i6 (n:Nat) (ds:List D):DSt:=ds.map .sh++List.replicate (n - (ds.length + 1)) .no
def dE (δ':DSt) (k:Bd->Rw):Rw:=match δ'[(0:Nat)]? with | some (Sl.ob ks vs as bs)=>k ⟨ks,vs,as,bs⟩ | _=>.un
def dA (body:DM Fl) (n:Nat) (b:Bd) (ds:List D):Rw:=match body (b.sl :: i6 n ds) with
 | .ok (.rt d) δ'=>dE δ' (.ok d)
 | .ok (.rto es) δ'=>dE δ' (.own es)
 | .ok .nx δ'=>dE δ' (.ok .non)
 | _=>.un
section
variable {P:Program} {w:World} {K:PySem.W.Frag} {mg:Str->Option Value} {base:Heap} {H:Hp} {Ω:Om}
theorem az.startW {N:List Str} {ds:List D} {ws:List V} {p a1 a2 a3:Addr} {b:Bd} (hr:ax K H Ω ds ws) (ht:Trk H Ω) (hb:bY K H Ω (some 2) p a1 a2 a3 b) (hne:a2≠a3):az K H Ω (L2.start N (.ref p :: ws)) (b.sl :: i6 N.length ds):=by
 have hl:=hr.length
 refine ⟨by unfold L2.start i6;rw [List.length_cons,List.length_append,List.length_append,List.length_map,List.length_map,List.length_replicate,List.length_replicate,List.length_cons,hl];omega,fun i s h=>?_,ht⟩
 cases i with
 | zero=>
  cases h
  exact ⟨p,rfl,hb.ob hne⟩
 | succ i=>
  have h:(i6 N.length ds)[i]?=some s:=by simpa using h
  unfold i6 at h
  by_cases hi:i < ds.length
  ·rw [List.getElem?_append_left (by rw [List.length_map];exact hi),List.getElem?_map] at h
   obtain ⟨d,hd⟩:∃ d,ds[i]?=some d:=⟨ds[i],List.getElem?_eq_getElem hi⟩
   rw [hd] at h
   cases h
   obtain ⟨v,hv,r⟩:=hr.get hd
   refine ⟨v,?_,r⟩
   unfold L2.start
   rw [List.getElem?_append_left (by rw [List.length_map,List.length_cons,<-hl];omega),List.getElem?_map,List.getElem?_cons_succ,hv]
   rfl
  ·rw [List.getElem?_append_right (by rw [List.length_map];omega),List.getElem?_replicate] at h
   split at h
   ·cases h;trivial
   ·cases h
theorem az.fin0 {σ:St} {δ:DSt} {p:Addr} {k:Bd->Rw} {r:Rw} (R:az K H Ω σ δ) (hσ:σ[0]?=some (some (.ref p))) (h:dE δ k=r) (hr:r≠.un):∃ b',r=k b'/\fg K H Ω 2 p b'.ks b'.vs b'.as b'.bs:=by
 unfold dE at h
 split at h
 ·rename_i ks vs as bs hd
  obtain ⟨q,e0,ho⟩:=R.sl 0 _ hd
  rw [hσ] at e0
  cases e0
  exact ⟨⟨ks,vs,as,bs⟩,h.symm,ho⟩
 ·exact absurd h.symm hr
theorem JH {E E2:Str->Hp->Prop} {body:DM Fl} {ts:TS} {N:List Str} {ds:List D} {ws:List V} {p a1 a2 a3:Addr} {b:Bd} {Q:VK} (hd:DS K E [0] ts body) (hr:ax K H Ω ds ws) (ht:Trk H Ω)
  (hq:RwQ K E2 H Ω p a1 a2 a3 b Q (dA body N.length b ds)) (hu:∀ c,dA body N.length b ds≠.er c):ts { nx:=fun _ H'=>Q .non H',rt:=Q } (L2.start N (.ref p :: ws)) H:=by
 have hs:(L2.start N (.ref p :: ws))[0]?=some (some (.ref p)):=rfl
 unfold dA at hq
 cases e:body (b.sl :: i6 N.length ds) with
 | un=>rw [e] at hq;exact hq.elim
 | er c=>rw [e] at hq;exact hq.elim
 | ok fl δ'=>
  rw [e] at hq
  cases fl with
  | bk=>exact hq.elim
  | ct=>exact hq.elim
  | nx=>
   dsimp only at hq
   cases q:dE δ' (.ok .non) with
   | un=>rw [q] at hq;exact hq.elim
   | er c=>unfold dE at q;split at q <;> cases q
   | own es b'=>unfold dE at q;split at q <;> cases q
   | ok d b'=>
    rw [q] at hq
    obtain ⟨⟨h1,h2⟩,h3⟩:=hq
    refine hd _ H _ Ω (az.startW hr ht h1 h2) _ ?_
    rw [e]
    intro H' Ω' ex σ' R' m'
    obtain ⟨b2,z1,z2⟩:=R'.fin0 (by rw [m' 0 (by simp)];exact hs) q (by simp)
    cases z1
    exact h3 H' Ω' ex R'.trk z2 .non rfl
  | rt d0=>
   dsimp only at hq
   cases q:dE δ' (.ok d0) with
   | un=>rw [q] at hq;exact hq.elim
   | er c=>unfold dE at q;split at q <;> cases q
   | own es b'=>unfold dE at q;split at q <;> cases q
   | ok d b'=>
    rw [q] at hq
    obtain ⟨⟨h1,h2⟩,h3⟩:=hq
    refine hd _ H _ Ω (az.startW hr ht h1 h2) _ ?_
    rw [e]
    intro H' Ω' ex σ' R' m' v rv
    obtain ⟨b2,z1,z2⟩:=R'.fin0 (by rw [m' 0 (by simp)];exact hs) q (by simp)
    cases z1
    exact h3 H' Ω' ex R'.trk z2 v rv
  | rto es0=>
   dsimp only at hq
   cases q:dE δ' (.own es0) with
   | un=>rw [q] at hq;exact hq.elim
   | er c=>unfold dE at q;split at q <;> cases q
   | ok d b'=>unfold dE at q;split at q <;> cases q
   | own es b'=>
    rw [q] at hq
    obtain ⟨⟨h1,h2⟩,h3⟩:=hq
    refine hd _ H _ Ω (az.startW hr ht h1 h2) _ ?_
    rw [e]
    intro H' Ω' ex σ' R' m' v rv
    obtain ⟨b2,z1,z2⟩:=R'.fin0 (by rw [m' 0 (by simp)];exact hs) q (by simp)
    cases z1
    exact h3 H' Ω' ex R'.trk z2 v rv
theorem Fb {body:DM Fl} {n:Nat} {b:Bd} {ds:List D} (c:Str):dA body n b ds≠.er c:=by
 unfold dA dE
 split
 ·split <;> simp
 ·split <;> simp
 ·split <;> simp
 ·simp
theorem fnW {ce:Str->Value} {x qual:Str} {st:Stmt} {f:Addr} {fd:FuncData} {N ps:List Str} {k:Nat} {body:DM Fl} (F:Fun K x qual st f fd) (S:bj N ps (aW st))
  (hb:∀ (cdv:Value) (A:Around) (outer:List Env) (s:Shared) (H:Hp) (E:XK),bG k (A.deeper (envOfC qual (aW st) s.heap.objs.size f cdv))->
   fw (gY CX0 P w K mg base N qual (aW st) f cdv A outer s H E).nox EN [0] (gr st) body):aR P w K mg base CX0 (k + 1) f fd ps (spW K ce ps.length (dA body N.length)):=by
 refine F.ok S (fun vs H Q E h=>h.1) (fun cdv A outer s H vs Q E hr h=>?_)
 obtain ⟨ts,p,d⟩:=hb cdv A outer s H E hr
 refine ⟨ts,p,?_⟩
 obtain ⟨hl,Ω,p,a1,a2,a3,ws,ds,b,ht,rfl,hr,hq⟩:=h
 exact JH d hr ht hq Fb
end
def roR (own:Bool) (r:Ro) (δ:DSt):Rs DV:=match r with
 | .ok d=>if (!own||flat d)=true then .ok (.val d) δ else .un
 | .own es=>if (!own||dP es)=true then .ok (.own es) δ else .un
 | _=>.un
def bI (i n:Nat) (fa:DM (List DV)) (M:List D->Ro):DM DV:=fun δ=>if (eG δ i).isSome=true then (fa.bd fun as δ1=>match cL as,eG δ1 i with
 | some ds,some (b,own)=>if ds.length + 1=n then roR own (M (b.d :: ds)) δ1 else .un
 | _,_=>.un) δ else .un
def rwW (i:Nat) (own:Bool) (r:Rw) (δ:DSt):Rs DV:=match r with
 | .ok d b'=>if own=true then .ok (.val d) (δ.set i b'.sl) else .un
 | .own es b'=>if own=true then .ok (.own es) (δ.set i b'.sl) else .un
 | .er c=>.er c
 | .un=>.un
def cn (i n:Nat) (fa:DM (List DV)) (M:Bd->List D->Rw):DM DV:=fun δ=>if (eG δ i).isSome=true then (fa.bd fun as δ1=>match cL as,eG δ1 i with
 | some ds,some (b,own)=>if ds.length + 1=n then rwW i own (M b ds) δ1 else .un
 | _,_=>.un) δ else .un
section
variable {K:PySem.W.Frag} {E:Str->Hp->Prop} {mg:Str->Option Value} {H:Hp} {Ω:Om} {σ:St} {δ:DSt} {p a1 a2 a3:Addr} {b:Bd} {own:Bool} {i n:Nat} {as:List DV} {vs:List V} {ds:List D} {ce:Str->Value} {Q:VK} {Ex:XK}
theorem uH {M:List D->Ro} (R:az K H Ω σ δ) (hb:bY K H Ω (if own then some (i + 2) else none) p a1 a2 a3 b) (r:ax K H Ω ds vs) (hn:ds.length + 1=n) (h:Wg E H Ω (PV K σ Q) (roR own (M (b.d :: ds)) δ)):spP K ce n M (.ref p :: vs) H Q Ex:=by
 have hls:∀ x,Ω x=none->seen Ω a1 a2 a3 none x=none:=lM (.inl rfl)
 refine ⟨by rw [List.length_cons,<-r.length];exact hn,seen Ω a1 a2 a3 none,b.d :: ds,lT R hb,fun x k q=>?_,.cons (bY.obj (hb.re hls (cP (.inl rfl)) (cP (.inr (.inl rfl))) (cP (.inr (.inr rfl))))) (r.less hls),?_⟩
 ·by_cases hx:bX a1 a2 a3 x
  ·rw [cP hx] at q;cases q
  ·rw [jl hx] at q;exact qN x k q
 have lab:∀ {H':Hp} {Ω':Om},Ext H (seen Ω a1 a2 a3 none) H' Ω'->∀ x,bX a1 a2 a3 x->Ω' x=none:=fun e x hx=>by
  obtain ⟨_,u,z2,_⟩:=hb.lab hx
  exact e.new x (cP hx) (by rw [z2];exact Option.some_ne_none _)
 have hless:own=false->∀ {H':Hp} {Ω':Om},Ext H (seen Ω a1 a2 a3 none) H' Ω'->∀ x,Ω' x=none->cM Ω Ω' a1 a2 a3 x=none:=fun ho H' Ω' e=>nU fun x hx _=>by
  have:=(hb.lab hx).1
  rw [ho] at this
  exact this
 cases q3:M (b.d :: ds) with
 | un=>rw [q3] at h;exact h
 | er c=>rw [q3] at h;exact h.elim
 | ok d=>
  rw [q3] at h
  unfold roR at h
  dsimp only at h
  split at h
  ·rename_i hf
   intro H' Ω' e ht v rv
   refine h H' _ (Ext.cM hb e (.inl rfl)) (R.homeR hb e ht) v ?_
   cases own with
   | true=>exact Rep.flat (by simpa using hf) rv
   | false=>exact Rep.less (hless rfl e) rv
  ·exact h.elim
 | own es=>
  rw [q3] at h
  unfold roR at h
  dsimp only at h
  split at h
  ·rename_i hf
   intro H' Ω' e ht v ⟨a,ws,z1,z2,z3,z4⟩
   have ha:¬ bX a1 a2 a3 a:=fun hx=>by rw [lab e a hx] at z3;cases z3
   refine h H' _ (Ext.cM hb e (.inl rfl)) (R.homeR hb e ht) v ⟨a,ws,z1,z2,by rw [ir ha];exact ke z3,?_⟩
   cases own with
   | true=>exact ax.flat (by simpa using hf) z4
   | false=>exact ax.less (hless rfl e) z4
  ·exact h.elim
theorem Ic {M:Bd->List D->Rw} (R:az K H Ω σ δ) (hσ:σ[i]?=some (some (.ref p))) (hb:bY K H Ω (if own then some (i + 2) else none) p a1 a2 a3 b) (hne:own=true->a2≠a3) (r:ax K H Ω ds vs) (hn:ds.length + 1=n)
  (hok:∀ d b',M b ds=.ok d b'->own=true/\∀ H' Ω',Ext H Ω H' Ω'->az K H' Ω' σ (δ.set i b'.sl)->∀ v,Rep K H' Ω' d v->Q v H')
  (hown:∀ es b',M b ds=.own es b'->own=true/\∀ H' Ω',Ext H Ω H' Ω'->az K H' Ω' σ (δ.set i b'.sl)->∀ v,dy K H' Ω' σ (.own es) v->Q v H')
  (her:∀ c,M b ds=.er c->∀ H' Ω',Ext H Ω H' Ω'->Trk H' Ω'->az K H' Ω' σ δ->Ex (ce c) none H') (hun:M b ds≠.un):spW K ce n M (.ref p :: vs) H Q Ex:=by
 refine ⟨by rw [List.length_cons,<-r.length];exact hn,?_⟩
 cases q3:M b ds with
 | un=>exact absurd q3 hun
 | er c=>
  have hls:∀ x,Ω x=none->seen Ω a1 a2 a3 none x=none:=lM (.inl rfl)
  refine ⟨seen Ω a1 a2 a3 none,p,a1,a2,a3,vs,ds,b,lT R hb,rfl,r.less hls,?_⟩
  rw [q3]
  refine ⟨hb.re hls (cP (.inl rfl)) (cP (.inr (.inl rfl))) (cP (.inr (.inr rfl))),fun H' Ω' e ht=>?_⟩
  have R':=R.homeR hb e ht
  exact her c q3 H' _ (Ext.cM hb e (.inl rfl)) R'.trk R'
 | ok d b'=>
  obtain ⟨ho,h⟩:=hok d b' q3
  subst ho
  have hls:∀ x,Ω x=none->seen Ω a1 a2 a3 (some 2) x=none:=lM (.inr fun x hx=>by rw [(hb.lab hx).1];exact Option.some_ne_none _)
  refine ⟨seen Ω a1 a2 a3 (some 2),p,a1,a2,a3,vs,ds,b,lT R hb,rfl,r.less hls,?_⟩
  rw [q3]
  refine ⟨⟨hb.re hls (cP (.inl rfl)) (cP (.inr (.inl rfl))) (cP (.inr (.inr rfl))),hne rfl⟩,fun H' Ω' e ht hb' v rv=>?_⟩
  refine h H' _ (Ext.cM hb e (.inr ⟨i + 1,rfl⟩)) (R.homeW hb (hne rfl) hσ e ht hb') v (Rep.less (nU fun x hx q=>?_) rv)
  obtain ⟨c1,c2,c3,hc,_⟩:=fg.pt hb'
  obtain ⟨rfl,rfl,rfl⟩:=(cz.ext (Ext.cM hb e (.inr ⟨i + 1,rfl⟩)) hb.bed).inj hc.bed
  rw [(hc.lab hx).1] at q;cases q
 | own es b'=>
  obtain ⟨ho,h⟩:=hown es b' q3
  subst ho
  have hls:∀ x,Ω x=none->seen Ω a1 a2 a3 (some 2) x=none:=lM (.inr fun x hx=>by rw [(hb.lab hx).1];exact Option.some_ne_none _)
  refine ⟨seen Ω a1 a2 a3 (some 2),p,a1,a2,a3,vs,ds,b,lT R hb,rfl,r.less hls,?_⟩
  rw [q3]
  refine ⟨⟨hb.re hls (cP (.inl rfl)) (cP (.inr (.inl rfl))) (cP (.inr (.inr rfl))),hne rfl⟩,fun H' Ω' e ht hb' v ⟨a,ws,z1,z2,z3,z4⟩=>?_⟩
  obtain ⟨c1,c2,c3,hc,_⟩:=fg.pt hb'
  obtain ⟨rfl,rfl,rfl⟩:=(cz.ext (Ext.cM hb e (.inr ⟨i + 1,rfl⟩)) hb.bed).inj hc.bed
  have ha:¬ bX a1 a2 a3 a:=fun hx=>by rw [(hc.lab hx).1] at z3;cases z3
  exact h H' _ (Ext.cM hb e (.inr ⟨i + 1,rfl⟩)) (R.homeW hb (hne rfl) hσ e ht hb') v ⟨a,ws,z1,z2,by rw [ir ha];exact ke z3,z4.less (nU fun x hx q=>by rw [(hc.lab hx).1] at q;cases q)⟩
end
end DL
namespace DL
open PySem PySem.Spec PyProof.Rows L2
structure aX (K:PySem.W.Frag) (C:Addr):Prop where
 ns:PySem.W.nsIn K mainGlobals "Bed"=some (some (.ref C))
 cl:Cls K C
 n1:gZ K C "borne"
 n2:gZ K C "knitted"
 n3:gZ K C "past"
abbrev eh (a1 a2 a3:Addr):List (Str×V):=[("borne",.ref a1),("knitted",.ref a2),("past",.ref a3)]
theorem kc {m k:Str} {v:V} {l:List (Str×V)} (h:(m == k)=false):((k,v) :: l).lookup m=l.lookup m:=by rw [List.lookup_cons,h]
theorem o7 {k:Str} {v:V} {l:List (Str×V)}:((k,v) :: l).lookup k=some v:=by rw [List.lookup_cons,beq_self_eq_true]
theorem bf1 {a1 a2 a3:Addr}:(eh a1 a2 a3).lookup ("borne":Str)=some (V.ref a1):=o7
theorem bf2 {a1 a2 a3:Addr}:(eh a1 a2 a3).lookup ("knitted":Str)=some (V.ref a2):=by rw [kc (by decide +kernel)];exact o7
theorem bf3 {a1 a2 a3:Addr}:(eh a1 a2 a3).lookup ("past":Str)=some (V.ref a3):=by rw [kc (by decide +kernel),kc (by decide +kernel)];exact o7
def jU (m:Str):Prop:=(m == ("borne":Str))=false/\(m == ("knitted":Str))=false/\(m == ("past":Str))=false
theorem jU.none {m:Str} (h:jU m) (a1 a2 a3:Addr):(eh a1 a2 a3).lookup m=none:=by rw [kc h.1,kc h.2.1,kc h.2.2];rfl
theorem cz.ins {K:PySem.W.Frag} {H:Hp} {C p a1 a2 a3:Addr} (T:aX K C) (h:cz K H p a1 a2 a3):∃ dx,H p=some (.ins C dx (eh a1 a2 a3)):=by
 obtain ⟨C',dx,h1,h2⟩:=h
 rw [T.ns] at h1
 cases h1
 exact ⟨dx,h2⟩
section
variable {K:PySem.W.Frag} {E:Str->Hp->Prop} {mg:Str->Option Value} {C:Addr} {m:Str} {i n:Nat} {ce:Str->Value} {Ex:XK} {t:TA} {fa:DM (List DV)}
theorem zp {M:List D->Ro} (T:aX K C) (hm:jU m) (ha:DA K E t fa):DE K E (mM C m (spP K ce n M) [] Ex (gq i) t) (bI i n fa M):=by
 intro σ H δ Ω R Q h
 unfold bI at h
 split at h
 ·rename_i hs
  obtain ⟨⟨b0,own0⟩,hb0⟩:=Option.isSome_iff_exists.mp hs
  obtain ⟨p,a1,a2,a3,e0,hp,_⟩:=fO R hb0
  obtain ⟨dx,hi⟩:=hp.bed.ins T
  refine ⟨.ref p,e0,p,dx,_,rfl,hi,hm.none _ _ _,?_⟩
  refine ha.use R h fun as vs δ1 H1 Ω1 _ s1 R1 r1 h1=>?_
  (try dsimp only at h1)
  split at h1
  ·rename_i ds b own q1 q2
   split at h1
   ·rename_i hn
    obtain ⟨p',c1,c2,c3,e1,hp1,_⟩:=fO R1 q2
    rw [e0] at e1
    cases e1
    rw [List.append_nil]
    exact uH R1 hp1 (r1.vals q1) hn h1
   ·exact h1.elim
  ·exact h1.elim
 ·exact h.elim
theorem Jf {M:List D->Ro} (ha:DA K E t fa):DE K E (lF (spP K ce n M) [] Ex (kg (gq i) t)) (bI i n fa M):=by
 intro σ H δ Ω R Q h
 unfold bI at h
 split at h
 ·rename_i hs
  obtain ⟨⟨b0,own0⟩,hb0⟩:=Option.isSome_iff_exists.mp hs
  obtain ⟨p,a1,a2,a3,e0,hp,_⟩:=fO R hb0
  refine ⟨.ref p,e0,?_⟩
  refine ha.use R h fun as vs δ1 H1 Ω1 _ s1 R1 r1 h1=>?_
  (try dsimp only at h1)
  split at h1
  ·rename_i ds b own q1 q2
   split at h1
   ·rename_i hn
    obtain ⟨p',c1,c2,c3,e1,hp1,_⟩:=fO R1 q2
    rw [e0] at e1
    cases e1
    rw [List.append_nil]
    exact uH R1 hp1 (r1.vals q1) hn h1
   ·exact h1.elim
  ·exact h1.elim
 ·exact h.elim
theorem vK {M:Bd->List D->Rw} {σ:St} {H:Hp} {δ:DSt} {Ω:Om} {Q:VK} {b:Bd} {own:Bool} {p a1 a2 a3:Addr} {vs:List V} {ds:List D} (hE:∀ c H',E c H'->Ex (ce c) none H') (R:az K H Ω σ δ) (hσ:σ[i]?=some (some (.ref p)))
  (hb:bY K H Ω (if own then some (i + 2) else none) p a1 a2 a3 b) (hne:own=true->a2≠a3) (r:ax K H Ω ds vs) (hn:ds.length + 1=n) (h:Wg E H Ω (PV K σ Q) (rwW i own (M b ds) δ)):spW K ce n M (.ref p :: vs) H Q Ex:=by
 refine Ic R hσ hb hne r hn (fun d b' q=>?_) (fun es b' q=>?_) (fun c q H' Ω' e t R'=>?_) fun q=>?_
 ·rw [q] at h
  unfold rwW at h
  dsimp only at h
  split at h
  ·rename_i ho;exact ⟨ho,fun H' Ω' e R' v rv=>h H' Ω' e R' v rv⟩
  ·exact h.elim
 ·rw [q] at h
  unfold rwW at h
  dsimp only at h
  split at h
  ·rename_i ho;exact ⟨ho,fun H' Ω' e R' v rv=>h H' Ω' e R' v rv⟩
  ·exact h.elim
 ·rw [q] at h
  exact hE c H' (h H' Ω' e t)
 ·rw [q] at h
  exact h
theorem JK {M:Bd->List D->Rw} (T:aX K C) (hm:jU m) (hE:∀ c H',E c H'->Ex (ce c) none H') (ha:DA K E t fa):DE K E (mM C m (spW K ce n M) [] Ex (gq i) t) (cn i n fa M):=by
 intro σ H δ Ω R Q h
 unfold cn at h
 split at h
 ·rename_i hs
  obtain ⟨⟨b0,own0⟩,hb0⟩:=Option.isSome_iff_exists.mp hs
  obtain ⟨p,a1,a2,a3,e0,hp,_⟩:=fO R hb0
  obtain ⟨dx,hi⟩:=hp.bed.ins T
  refine ⟨.ref p,e0,p,dx,_,rfl,hi,hm.none _ _ _,?_⟩
  refine ha.use R h fun as vs δ1 H1 Ω1 _ s1 R1 r1 h1=>?_
  (try dsimp only at h1)
  split at h1
  ·rename_i ds b own q1 q2
   split at h1
   ·rename_i hn
    obtain ⟨p',c1,c2,c3,e1,hp1,hne⟩:=fO R1 q2
    have e2:=e1
    rw [e0] at e1
    cases e1
    rw [List.append_nil]
    exact vK hE R1 e2 hp1 hne (r1.vals q1) hn h1
   ·exact h1.elim
  ·exact h1.elim
 ·exact h.elim
theorem FW {M:Bd->List D->Rw} (hE:∀ c H',E c H'->Ex (ce c) none H') (ha:DA K E t fa):DE K E (lF (spW K ce n M) [] Ex (kg (gq i) t)) (cn i n fa M):=by
 intro σ H δ Ω R Q h
 unfold cn at h
 split at h
 ·rename_i hs
  obtain ⟨⟨b0,own0⟩,hb0⟩:=Option.isSome_iff_exists.mp hs
  obtain ⟨p,a1,a2,a3,e0,hp,_⟩:=fO R hb0
  refine ⟨.ref p,e0,?_⟩
  refine ha.use R h fun as vs δ1 H1 Ω1 _ s1 R1 r1 h1=>?_
  (try dsimp only at h1)
  split at h1
  ·rename_i ds b own q1 q2
   split at h1
   ·rename_i hn
    obtain ⟨p',c1,c2,c3,e1,hp1,hne⟩:=fO R1 q2
    have e2:=e1
    rw [e0] at e1
    cases e1
    rw [List.append_nil]
    exact vK hE R1 e2 hp1 hne (r1.vals q1) hn h1
   ·exact h1.elim
  ·exact h1.elim
 ·exact h.elim
end
structure MethP (P:Program) (w:World) (K:PySem.W.Frag) (mg:Str->Option Value) (base:Heap) (C:Addr) (k:Nat) (m:Str) (n:Nat) (M:List D->Ro):Prop where
 ex:∃ (f:Addr) (fd:FuncData) (ps:List Str),aR P w K mg base CX0 k f fd ps (spP K (fun _=>.none) n M)/\Meth K C m f/\Binds K fd ps []
structure MethW (P:Program) (w:World) (K:PySem.W.Frag) (mg:Str->Option Value) (base:Heap) (C:Addr) (k:Nat) (m:Str) (n:Nat) (M:Bd->List D->Rw):Prop where
 ex:∃ (f:Addr) (fd:FuncData) (ps:List Str),aR P w K mg base CX0 k f fd ps (spW K (fun _=>.none) n M)/\Meth K C m f/\Binds K fd ps []
structure JU (P:Program) (w:World) (K:PySem.W.Frag) (mg:Str->Option Value) (base:Heap) (C:Addr) (k:Nat) (m:Str) (n:Nat) (M:Bd->List D->Rw):Prop where
 ex:∃ (f:Addr) (fd:FuncData) (ps:List Str),aR P w K mg base (Fly P w) k f fd ps (spW K (yk mg) n M)/\Meth K C m f/\Binds K fd ps []
structure rR (P:Program) (w:World) (K:PySem.W.Frag) (mg:Str->Option Value) (base:Heap) (k:Nat) (x:Str) (n:Nat) (M:Bd->List D->Rw):Prop where
 ex:∃ (f:Addr) (fd:FuncData) (ps:List Str),aR P w K mg base CX0 k f fd ps (spW K (fun _=>.none) n M)/\mg x=some (.ref f)/\PySem.W.keepIn K (.ref f)=true/\Binds K fd ps []
section
variable {X:Cx} {E:Str->Hp->Prop} {E0:XK} {pos apos p:Pos} {e:Expr} {es:List Expr} {C:Addr} {k n:Nat} {x m:Str} {r:DM (List DV)}
theorem iZ (i:Nat) {M:List D->Ro} {pl:Sem Bool} (T:aX X.K C) (F:MethP X.prog X.w X.K X.mg X.base C k m n M) (hr:bG k X.A) (ha:PAD X E (e :: es) r) (hf:jU m:=by exact ⟨by decide +kernel,by decide +kernel,by decide +kernel⟩)
  (hN:X.N[i]?=some x:=by rfl) (hv:Vis X.env.scope x:=by first | exact Or.inl rfl | exact Or.inr (Or.inl rfl) | exact Or.inr (Or.inr rfl)) (hd:(x == ("__debug__":Str))=false:=by decide) (hcd:(x == ("__classdict__":Str))=false:=by decide)
  (hst:starEach (e :: es) X.env=(false,eval e X.env) :: starEach es X.env:=by rfl) (hpl:(backTo pos (starEach es X.env)).any (·.1)=false:=by rfl)
  (ht:eval (.Call (.Attribute (.Name x p) m apos) (e :: es) [] pos) X.env=(do
   let ov<-eval (.Name x p) X.env
   standAt apos.atName
   let (f,first)<-holding [ov] (getMethod ov m pl)
   callWith pos f first (backTo pos (starEach (e :: es) X.env)) (backToKw pos (keywordEach [] X.env))):=by rfl) :
  PED X E (.Call (.Attribute (.Name x p) m apos) (e :: es) [] pos) (bI i n r M):=by
 obtain ⟨f,fd,ps,F,hm,b⟩:=F.ex
 obtain ⟨t,q,d⟩:=ha
 exact ⟨_,xy (pl:=pl) (pv i hN hv hd hcd) T.cl hm F hr b .nil ix q hst hpl ht,zp T hf d⟩
theorem sd (i:Nat) {M:List D->Ro} {pl:Sem Bool} (T:aX X.K C) (F:MethP X.prog X.w X.K X.mg X.base C k m n M) (hr:bG k X.A) (hf:jU m:=by exact ⟨by decide +kernel,by decide +kernel,by decide +kernel⟩)
  (hN:X.N[i]?=some x:=by rfl) (hv:Vis X.env.scope x:=by first | exact Or.inl rfl | exact Or.inr (Or.inl rfl) | exact Or.inr (Or.inr rfl)) (hd:(x == ("__debug__":Str))=false:=by decide) (hcd:(x == ("__classdict__":Str))=false:=by decide)
  (ht:eval (.Call (.Attribute (.Name x p) m apos) [] [] pos) X.env=(do
   let ov<-eval (.Name x p) X.env
   standAt apos.atName
   let (f,first)<-holding [ov] (getMethod ov m pl)
   callWith pos f first (backTo pos (starEach [] X.env)) (backToKw pos (keywordEach [] X.env))):=by rfl) :
  PED X E (.Call (.Attribute (.Name x p) m apos) [] [] pos) (bI i n ai M):=by
 obtain ⟨f,fd,ps,F,hm,b⟩:=F.ex
 exact ⟨_,JB (pl:=pl) (pv i hN hv hd hcd) T.cl hm F hr b .nil ix ht,zp T hf yh⟩
theorem ie (i:Nat) {M:Bd->List D->Rw} {pl:Sem Bool} (T:aX X.K C) (F:MethW X.prog X.w X.K X.mg X.base C k m n M) (hr:bG k X.A) (ha:PAD X EN (e :: es) r) (hf:jU m:=by exact ⟨by decide +kernel,by decide +kernel,by decide +kernel⟩)
  (hN:X.N[i]?=some x:=by rfl) (hv:Vis X.env.scope x:=by first | exact Or.inl rfl | exact Or.inr (Or.inl rfl) | exact Or.inr (Or.inr rfl)) (hd:(x == ("__debug__":Str))=false:=by decide) (hcd:(x == ("__classdict__":Str))=false:=by decide)
  (hst:starEach (e :: es) X.env=(false,eval e X.env) :: starEach es X.env:=by rfl) (hpl:(backTo pos (starEach es X.env)).any (·.1)=false:=by rfl)
  (ht:eval (.Call (.Attribute (.Name x p) m apos) (e :: es) [] pos) X.env=(do
   let ov<-eval (.Name x p) X.env
   standAt apos.atName
   let (f,first)<-holding [ov] (getMethod ov m pl)
   callWith pos f first (backTo pos (starEach (e :: es) X.env)) (backToKw pos (keywordEach [] X.env))):=by rfl) :
  PED X EN (.Call (.Attribute (.Name x p) m apos) (e :: es) [] pos) (cn i n r M):=by
 obtain ⟨f,fd,ps,F,hm,b⟩:=F.ex
 obtain ⟨t,q,d⟩:=ha
 exact ⟨_,xy (pl:=pl) (pv i hN hv hd hcd) T.cl hm F hr b .nil ix q hst hpl ht,JK T hf (fun _ _ z=>z.elim) d⟩
theorem tw (i:Nat) {M:List D->Ro} {y:Str} {p2:Pos} (F:aQ X.prog X.w X.K X.mg X.base k x n M) (hr:bG k X.A) (ha:PAD X E es r) (hN:X.N[i]?=some y:=by rfl) (hv:Vis X.env.scope y:=by first | exact Or.inl rfl | exact Or.inr (Or.inl rfl) | exact Or.inr (Or.inr rfl)) (hd:(y == ("__debug__":Str))=false:=by decide) (hcd:(y == ("__classdict__":Str))=false:=by decide)
  (hg:Gl X x:=by rfl) (hdb:(x == ("__debug__":Str))=false:=by decide) (he:starEach (.Name y p2 :: es) X.env=(false,eval (.Name y p2) X.env) :: starEach es X.env:=by rfl) (hpl:(backTo pos (starEach es X.env)).any (·.1)=false:=by rfl) :
  PED X E (.Call (.Name x p) (.Name y p2 :: es) [] pos) (bI i n r M):=by
 obtain ⟨fa,fd,ps,F,hm,kp,b⟩:=F.ex
 obtain ⟨t,q,d⟩:=ha
 exact ⟨_,nV F hr hg hm kp b .nil ix (fQ (pv i hN hv hd hcd) q he) hdb he hpl,Jf d⟩
theorem BF (i:Nat) {M:Bd->List D->Rw} {y:Str} {p2:Pos} (F:rR X.prog X.w X.K X.mg X.base k x n M) (hr:bG k X.A) (ha:PAD X EN es r) (hN:X.N[i]?=some y:=by rfl) (hv:Vis X.env.scope y:=by first | exact Or.inl rfl | exact Or.inr (Or.inl rfl) | exact Or.inr (Or.inr rfl)) (hd:(y == ("__debug__":Str))=false:=by decide) (hcd:(y == ("__classdict__":Str))=false:=by decide)
  (hg:Gl X x:=by rfl) (hdb:(x == ("__debug__":Str))=false:=by decide) (he:starEach (.Name y p2 :: es) X.env=(false,eval (.Name y p2) X.env) :: starEach es X.env:=by rfl) (hpl:(backTo pos (starEach es X.env)).any (·.1)=false:=by rfl) :
  PED X EN (.Call (.Name x p) (.Name y p2 :: es) [] pos) (cn i n r M):=by
 obtain ⟨fa,fd,ps,F,hm,kp,b⟩:=F.ex
 obtain ⟨t,q,d⟩:=ha
 exact ⟨_,nV F hr hg hm kp b .nil ix (fQ (pv i hN hv hd hcd) q he) hdb he hpl,FW (fun _ _ z=>z.elim) d⟩
end
end DL
namespace L2
open PySem PySem.Spec PyProof.Rows
section
variable {X:Cx}
theorem BE:OpR X (binaryOp .Add) (fun x y H Q=>∃ a b ys,x=.ref a/\y=.ref b/\SqT X.K H a []/\SqT X.K H b ys/\Q (.ref b) H):=by
 intro pins s σ H x y v u Q I rx ry h
 obtain ⟨a,b,ys,rfl,rfl,ha,hb,q⟩:=h
 cases rx
 cases ry
 obtain ⟨its,r1,p1,_⟩:=I.tuple ha
 obtain ⟨its2,r2,p2,_⟩:=I.tuple hb
 have hn:its=[]:=r1.nil_iff.mpr rfl
 subst hn
 obtain ⟨⟨cls,dd,data,sl⟩,ho,hc,n,hd⟩:=id p1
 obtain ⟨⟨cls2,dd2,data2,sl2⟩,ho2,hc2,n2,hd2⟩:=id p2
 simp only at hc hd hc2 hd2
 subst hc hd hc2 hd2
 exact concat_meets ⟨_,ho,rfl⟩ ⟨_,ho2,rfl⟩ noFill_tuple_add seq_tuple_add PySem.F.slot_tuple_add PySem.F.entry_tuple_add (PySem.F.args_tuple_add_2 _ _) (tuple_addW0 a b _ _ n n2 dd dd2 sl sl2 rfl) ⟨ho,ho2,⟨.ref b,H,I,rfl,q⟩⟩
theorem Cv:eW X (.builtin "abs") (fun xs H Q=>∃ i,xs=[.int i]/\Q (.int (if i < 0 then -i else i)) H):=by
 intro pins s σ H xs us Q I r h
 obtain ⟨i,rfl,q⟩:=h
 obtain ⟨u,rfl,t,rfl⟩:=vals1 r
 exact call_abs_int fun u tk=>⟨.int _,H,I.tok tk,⟨_,rfl⟩,q⟩
def iC (kvs:List (Str×Str)):List (Str×KTD.Dat):=kvs.map fun p=>(p.1,KTD.Dat.flat (.str p.2))
def my (K:PySem.W.Frag) (a:Addr) (kvs:List (Str×Str)):Prop:=
 KTD.tabLook (KTD.datLooks fun b=>K.lookup b) (fun b=>K.lookup b) a (iC kvs)=true
def jb (k:Str):List (Str×Str)->Option Str
 | []=>none
 | (x,n) :: r=>if decide (k=x)=true then some n else jb k r
theorem t6 (k:Str):∀ kvs:List (Str×Str),KTD.inKeys k (iC kvs)=(jb k kvs).isSome
 | []=>rfl
 | (x,n) :: r=>by
  have ih:=t6 k r
  change (decide (k=x)||KTD.inKeys k (iC r))=(if decide (k=x)=true then some n else jb k r).isSome
  rw [ih]
  cases decide (k=x) <;> rfl
theorem my.here {K:PySem.W.Frag} {a:Addr} {kvs:List (Str×Str)} {s:Shared} (T:my K a kvs) (x:K.In s.heap):KTD.Here s.heap s.heap a (iC kvs):=⟨PySem.W.kt_text_in x T,fun _ _ e=>e⟩
theorem vg {h:Heap} {k:Str} {P:Value->Prop} {n:Str}:∀ {kvs:List (Str×Str)},jb k kvs=some n->(∀ t,P (.str n t))->KTD.EachL h k P (iC kvs)
 | [],e,_=>by cases e
 | (x,m) :: r,e,hp=>by
  have e:(if decide (k=x)=true then some m else jb k r)=some n:=e
  by_cases hx:k=x
  ·rw [if_pos (decide_eq_true hx)] at e
   cases e
   exact KTD.eachL_hit hx (KTD.opened_str hp)
  ·rw [if_neg (by simp [hx])] at e
   exact KTD.eachL_miss hx (vg e hp)
theorem AM:IxR X (fun x y H Q=>∃ k a kvs n,x=.ref a/\y=.str k/\my X.K a kvs/\jb k kvs=some n/\Q (.str n) H):=by
 intro value slice pins s σ H x y v u Q I rx ry h hs
 obtain ⟨k,a,kvs,n,rfl,rfl,T,e,q⟩:=h
 obtain ⟨t,rfl⟩:=ry
 cases rx
 refine KTD.item_textA (T.here I.kIn) ?_ (by rw [t6,e];rfl) (vg e fun t'=>⟨.str n,H,I.tok _,⟨_,rfl⟩,q⟩) hs
 unfold iC
 rw [List.all_map]
 exact List.all_eq_true.mpr fun _ _=>rfl
end
end L2
namespace L2
open PySem PySem.Spec PyProof.Rows
section
variable {X:Cx}
end
end L2
namespace DL
open PySem PySem.Spec PyProof.Rows L2
def gC (i j:Nat):DM DV:=fun δ=>match δ[i]? with
 | some (.ob _ _ _ _)=>.ok (.fld i j) δ
 | some (.sh (.obj _ _ as bs))=>if j=1 then .ok (.val (.lst as)) δ else .ok (.val (.lst bs)) δ
 | _=>.un
section
variable {X:Cx} {E:Str->Hp->Prop} {pos apos cpos p:Pos} {e e1 e2:Expr} {f f1 f2:DM DV} {C:Addr} {x:Str} {mp:List Nat}
theorem uY (i:Nat) (T:aX X.K C) (hN:X.N[i]?=some x:=by rfl) (hv:Vis X.env.scope x:=by first | exact Or.inl rfl | exact Or.inr (Or.inl rfl) | exact Or.inr (Or.inr rfl)) (hd:(x == ("__debug__":Str))=false:=by decide) (hcd:(x == ("__classdict__":Str))=false:=by decide)
  (hb:attributeBase (.Name x p) "knitted" X.env (eval (.Name x p) X.env)=eval (.Name x p) X.env:=by rfl):PED X E (.Attribute (.Name x p) "knitted" pos) (gC i 1):=by
 refine ⟨_,kW (pv i hN hv hd hcd) hb,fun σ H δ Ω R Q h=>?_⟩
 unfold gC at h
 split at h
 ·rename_i ks vs as bs hs
  obtain ⟨q,e0,ho⟩:=R.sl i _ hs
  obtain ⟨a1,a2,a3,kvs,xs,ys,hb,h2⟩:=ho
  obtain ⟨dx,hi⟩:=hb.ins T
  exact ⟨.ref q,join_some e0,q,C,dx,_,.ref a2,rfl,hi,T.cl,T.n2,bf2,h.now R ⟨q,a1,a2,a3,join_some e0,hb,.inl ⟨rfl,rfl⟩⟩⟩
 ·rename_i ks vs as bs hs
  obtain ⟨v,e0,hv⟩:=R.sl i _ hs
  obtain ⟨q,a1,a2,a3,kvs,xs,ys,z0,hb,z1,z2,z3,z4,z5,z6,z7⟩:=(show ∃ p a1 a2 a3 kvs xs ys,_ from hv)
  subst z0
  obtain ⟨dx,hi⟩:=hb.ins T
  rw [if_pos rfl] at h
  exact ⟨.ref q,join_some e0,q,C,dx,_,.ref a2,rfl,hi,T.cl,T.n2,bf2,h.now R (show ∃ a vs,_ from ⟨a2,xs,rfl,⟨.inl z2.1,z2.2⟩,z6⟩)⟩
 ·exact h.elim
theorem B5 (i:Nat) (T:aX X.K C) (hN:X.N[i]?=some x:=by rfl) (hv:Vis X.env.scope x:=by first | exact Or.inl rfl | exact Or.inr (Or.inl rfl) | exact Or.inr (Or.inr rfl)) (hd:(x == ("__debug__":Str))=false:=by decide) (hcd:(x == ("__classdict__":Str))=false:=by decide)
  (hb:attributeBase (.Name x p) "past" X.env (eval (.Name x p) X.env)=eval (.Name x p) X.env:=by rfl):PED X E (.Attribute (.Name x p) "past" pos) (gC i 2):=by
 refine ⟨_,kW (pv i hN hv hd hcd) hb,fun σ H δ Ω R Q h=>?_⟩
 unfold gC at h
 split at h
 ·rename_i ks vs as bs hs
  obtain ⟨q,e0,ho⟩:=R.sl i _ hs
  obtain ⟨a1,a2,a3,kvs,xs,ys,hb,h2⟩:=ho
  obtain ⟨dx,hi⟩:=hb.ins T
  exact ⟨.ref q,join_some e0,q,C,dx,_,.ref a3,rfl,hi,T.cl,T.n3,bf3,h.now R ⟨q,a1,a2,a3,join_some e0,hb,.inr ⟨rfl,rfl⟩⟩⟩
 ·rename_i ks vs as bs hs
  obtain ⟨v,e0,hv⟩:=R.sl i _ hs
  obtain ⟨q,a1,a2,a3,kvs,xs,ys,z0,hb,z1,z2,z3,z4,z5,z6,z7⟩:=(show ∃ p a1 a2 a3 kvs xs ys,_ from hv)
  subst z0
  obtain ⟨dx,hi⟩:=hb.ins T
  rw [if_neg (by decide)] at h
  exact ⟨.ref q,join_some e0,q,C,dx,_,.ref a3,rfl,hi,T.cl,T.n3,bf3,h.now R (show ∃ a vs,_ from ⟨a3,ys,rfl,⟨.inl z3.1,z3.2⟩,z7⟩)⟩
 ·exact h.elim
def mE (f:DM DV):DM Bool:=(fN f).bd fun a δ=>match res δ a with
 | some (.lst ds)=>.ok (!ds.isEmpty) δ
 | some (.tup ds)=>.ok (!ds.isEmpty) δ
 | _=>.un
theorem xa {K:PySem.W.Frag} {H:Hp} {Ω:Om} {ds:List D} {vs:List V} (r:ax K H Ω ds vs):vs.isEmpty=ds.isEmpty:=by
 have:=r.length
 cases ds <;> cases vs <;> simp at this <;> rfl
theorem u0 (ha:PED X E e f) (he:∀ whole,isTrue e X.env whole=(do let v<-whole;standAt e.pos;holding [v] (truthy v)):=by intro _;rfl):PTD X E e (mE f):=by
 obtain ⟨t,q,d⟩:=ha
 refine ⟨_,CC q he,fun σ H δ Ω R Q h=>?_⟩
 refine d.use R h fun a y δ1 H1 Ω1 _ s1 R1 r1 h1=>?_
 (try dsimp only at h1)
 split at h1
 ·rename_i ds q1
  obtain ⟨b,vs,z1,z2,z3⟩:=r1.res R1 q1
  subst z1
  exact ⟨_,.inl ⟨vs,.inl z2,rfl⟩,by rw [xa z3];exact h1.nowB R1⟩
 ·rename_i ds q1
  obtain ⟨b,vs,z1,z2,z3⟩:=(show ∃ a vs,_ from r1.res R1 q1)
  subst z1
  exact ⟨_,.inr (.inl ⟨vs,z2,rfl⟩),by rw [xa z3];exact h1.nowB R1⟩
 ·exact h1.elim
def ic (fa:DM (List DV)):DM DV:=fa.bd fun as δ=>match cL as with
 | some [.str r,.int n]=>.ok (.val (.key r n)) δ
 | _=>.un
theorem mj {es:List Expr} {r:DM (List DV)} {k:Nat} (h:PAD X E es r):PED X E (.Tuple es k pos) (ic r):=by
 obtain ⟨t,q,d⟩:=h
 refine ⟨_,oW q,fun σ H δ Ω R Q h=>?_⟩
 refine d.use R h fun as vs δ1 H1 Ω1 _ s1 R1 r1 h1=>?_
 (try dsimp only at h1)
 split at h1
 ·rename_i rr nn q1
  have rv:=r1.vals q1
  obtain ⟨v1,r2,z1,z2,z3⟩:=(show ∃ v r,_ from rv)
  obtain ⟨v2,r3,z4,z5,z6⟩:=(show ∃ v r,_ from z3)
  cases (show r3=[] from z6)
  cases (show v1=.str rr from z2)
  cases (show v2=.int nn from z5)
  subst z4 z1
  refine ⟨by change 2<=sizeLine;decide,fun p hp=>?_⟩
  exact h1 _ Ω1 (.alloc hp R1.trk) (R1.alloc hp) _ (show ∃ a,_ from ⟨p,rfl,bw⟩)
 ·exact h1.elim
end
def cD:List (Str×Int)->List D->Str×Int->Option D
 | k :: ks,v :: vs,q=>if k=q then some v else cD ks vs q
 | _,_,_=>none
def gj:List (Str×Int)->List D->Str×Int->D->List D
 | k :: ks,v :: vs,q,d=>(if k=q then d else v) :: gj ks vs q d
 | _,vs,_,_=>vs
def bT (ks:List (Str×Int)) (q:Str×Int):List (Str×Int):=if q∈ks then ks else ks++[q]
def cN (ks:List (Str×Int)) (vs:List D) (q:Str×Int) (d:D):List D:=if q∈ks then gj ks vs q d else vs++[d]
theorem pf {p q:Str×Int} (h:cg p=cg q):p=q:=by
 unfold cg at h
 injection h with h1 h2
 injection h2 with h2
 injection h1 with h1
 injection h2 with h2
 exact Prod.ext h1 h2
section
variable {K:PySem.W.Frag} {H:Hp} {Ω:Om}
theorem uG:∀ {ks:List (Str×Int)} {vs:List D} {kvs:List (List Key×V)} (q:Str×Int),kvs.map (·.1)=ks.map cg->ax K H Ω vs (kvs.map (·.2))->
  (∃ d v,cD ks vs q=some d/\d9 kvs (cg q)=some v/\Rep K H Ω d v)\/(cD ks vs q=none/\d9 kvs (cg q)=none)
 | [],_,[],_,_,_=>.inr ⟨by unfold cD;rfl,rfl⟩
 | [],_,_ :: _,_,h,_=>by cases h
 | _ :: _,_,[],_,h,_=>by cases h
 | k :: ks,vs,c :: kvs,q,h,r=>by
  rw [List.map_cons,List.map_cons] at h
  injection h with h1 h2
  rw [List.map_cons] at r
  cases vs with
  | nil=>cases (show _=[] from r)
  | cons d vs=>
   obtain ⟨v,r2,z1,z2,z3⟩:=(show ∃ v r,_ from r)
   injection z1 with z1 z4
   subst z1 z4
   by_cases e:k=q
   ·subst e
    left
    exact ⟨d,c.2,by unfold cD;rw [if_pos rfl],oN h1,z2⟩
   ·have ne:¬ c.1=cg q:=fun z=>e (pf (by rw [<-h1];exact z))
    have hl:cD (k :: ks) (d :: vs) q=cD ks vs q:=by
     change (if k=q then some d else cD ks vs q)=_
     rw [if_neg e]
    rw [hl,nG ne]
    exact uG q h2 z3
theorem sy {q:Str×Int}:∀ {ks:List (Str×Int)} {kvs:List (List Key×V)},kvs.map (·.1)=ks.map cg->((kvs.any fun kv=>decide (kv.1=cg q))=true↔q∈ks)
 | [],[],_=>by simp
 | [],_ :: _,h=>by cases h
 | _ :: _,[],h=>by cases h
 | k :: ks,c :: kvs,h=>by
  rw [List.map_cons,List.map_cons] at h
  injection h with h1 h2
  have ih:=sy (q:=q) h2
  rw [List.any_cons,Bool.or_eq_true,ih,List.mem_cons]
  constructor
  ·rintro (z | z)
   ·exact .inl (pf (by rw [<-h1];exact (of_decide_eq_true z).symm))
   ·exact .inr z
  ·rintro (z | z)
   ·exact .inl (decide_eq_true (by rw [h1,z]))
   ·exact .inr z
theorem uP {q:Str×Int} {d:D} {v:V} (rv:Rep K H Ω d v):∀ {ks:List (Str×Int)} {vs:List D} {kvs:List (List Key×V)},kvs.map (·.1)=ks.map cg->ax K H Ω vs (kvs.map (·.2))->
  (kvs.map fun kv=>if kv.1=cg q then (kv.1,v) else kv).map (·.1)=ks.map cg/\ax K H Ω (gj ks vs q d) ((kvs.map fun kv=>if kv.1=cg q then (kv.1,v) else kv).map (·.2))
 | [],vs,[],_,r=>⟨rfl,by cases vs with | nil=>exact .nil | cons _ _=>obtain ⟨_,_,z,_⟩:=(show ∃ v r,_ from r);cases z⟩
 | [],_,_ :: _,h,_=>by cases h
 | _ :: _,_,[],h,_=>by cases h
 | k :: ks,vs,c :: kvs,h,r=>by
  rw [List.map_cons,List.map_cons] at h
  injection h with h1 h2
  rw [List.map_cons] at r
  cases vs with
  | nil=>cases (show _=[] from r)
  | cons d0 vs=>
   obtain ⟨v0,r2,z1,z2,z3⟩:=(show ∃ v r,_ from r)
   injection z1 with z1 z4
   subst z1 z4
   obtain ⟨i1,i2⟩:=uP rv h2 z3
   rw [List.map_cons,List.map_cons,List.map_cons,List.map_cons,i1]
   by_cases e:k=q
   ·subst e
    rw [if_pos h1]
    refine ⟨by rw [h1],?_⟩
    change ax K H Ω ((if k=k then d else d0) :: gj ks vs k d) _
    rw [if_pos rfl]
    exact .cons rv i2
   ·have ne:¬ c.1=cg q:=fun z=>e (pf (by rw [<-h1];exact z))
    rw [if_neg ne]
    refine ⟨by rw [h1],?_⟩
    change ax K H Ω ((if k=q then d else d0) :: gj ks vs q d) _
    rw [if_neg e]
    exact .cons z2 i2
theorem DD {q:Str×Int} {d:D} {v:V} {ks:List (Str×Int)} {vs:List D} {kvs:List (List Key×V)} (rv:Rep K H Ω d v) (h:kvs.map (·.1)=ks.map cg) (r:ax K H Ω vs (kvs.map (·.2))) :
  (putK kvs (cg q) v).map (·.1)=(bT ks q).map cg/\ax K H Ω (cN ks vs q d) ((putK kvs (cg q) v).map (·.2)):=by
 unfold putK bT cN
 by_cases e:q∈ks
 ·rw [if_pos ((sy h).mpr e),if_pos e,if_pos e]
  exact uP rv h r
 ·rw [if_neg (fun z=>e ((sy h).mp z)),if_neg e,if_neg e,List.map_append,List.map_append,List.map_append]
  exact ⟨by rw [h];rfl,r.append (.cons rv .nil)⟩
end
def lQ (i:Nat) (f:DM DV):DM DV:=fun δ=>if (eG δ i).isSome=true then ((fN f).bd fun a δ1=>match res δ1 a,eG δ1 i with
 | some (.key r n),some (b,_)=>.ok (.val ((cD b.ks b.vs (r,n)).getD (.tup []))) δ1
 | _,_=>.un) δ else .un
def gO (i:Nat) (δ:DSt):Bool:=match δ[i]? with | some (.ob _ _ _ _)=>true | _=>false
def jJ (i:Nat) (f2 f1:DM DV):DM Fl:=(fN f2).bd fun a2=>match a2 with
 | .val d=>fun δ=>if gO i δ then ((fN f1).bd fun a1 δ1=>match res δ1 a1,δ1[i]? with
  | some (.key r n),some (.ob ks vs as bs)=>if ks.length < sizeLine then .ok .nx (δ1.set i (.ob (bT ks (r,n)) (cN ks vs (r,n) d) as bs)) else .un
  | _,_=>.un) δ else .un
 | _=>fun _=>.un
section
variable {X:Cx} {E:Str->Hp->Prop} {pos apos cpos bpos p p':Pos} {e e1 e2:Expr} {f f1 f2:DM DV} {C:Addr} {x:Str} {mp:List Nat}
theorem E7 (i:Nat) {kk:Nat} {tpos:Pos} (T:aX X.K C) (hu:X.A.units + 1 < cLine) (he:PED X E e f) (hN:X.N[i]?=some x:=by rfl) (hv:Vis X.env.scope x:=by first | exact Or.inl rfl | exact Or.inr (Or.inl rfl) | exact Or.inr (Or.inr rfl)) (hd:(x == ("__debug__":Str))=false:=by decide) (hcd:(x == ("__classdict__":Str))=false:=by decide)
  (hb:attributeBase (.Name x p) "borne" X.env (eval (.Name x p) X.env)=eval (.Name x p) X.env:=by rfl) (hm:M2 X (.Attribute (.Name x p) "borne" bpos) "get" apos e (.Tuple [] kk tpos) cpos:=by exact ⟨rfl,rfl,rfl,rfl⟩) :
  PED X E (.Call (.Attribute (.Attribute (.Name x p) "borne" bpos) "get" apos) [e,.Tuple [] kk tpos] [] cpos) (lQ i f):=by
 obtain ⟨t,q,d⟩:=he
 refine ⟨_,Jq hu (kW (pv i hN hv hd hcd) hb) q (oW fU) hm,fun σ H δ Ω R Q h=>?_⟩
 unfold lQ at h
 split at h
 ·rename_i hs
  obtain ⟨⟨b0,own0⟩,hb0⟩:=Option.isSome_iff_exists.mp hs
  obtain ⟨pp,a1,a2,a3,e0,hp,_⟩:=fO R hb0
  obtain ⟨dx,hi⟩:=hp.bed.ins T
  obtain ⟨kv0,xs0,ys0,g1,g2,_⟩:=id hp
  refine ⟨.ref pp,e0,pp,C,dx,_,.ref a1,rfl,hi,T.cl,T.n1,bf1,a1,rfl,.inr ⟨kv0,.inl g2.1⟩,?_⟩
  refine d.use R h fun a y δ1 H1 Ω1 ex0 s1 R1 r1 h1=>?_
  (try dsimp only at h1)
  split at h1
  ·rename_i r n b own q1 q2
   obtain ⟨p2,c1,c2,c3,e1,hp1,_⟩:=fO R1 q2
   rw [e0] at e1
   cases e1
   obtain ⟨ky,z1,z2⟩:=(show ∃ a,_ from r1.res R1 q1)
   subst z1
   refine ⟨by change 0<=sizeLine;exact Nat.zero_le _,fun tp htp=>?_⟩
   obtain ⟨kvs,xs,ys,k1,k2,k3,k4,k5,k6,k7,k8⟩:=hp1
   have ex:Ext H1 Ω1 (upd H1 tp (.tup [])) Ω1:=.alloc htp R1.trk
   have hbed:=cz.ext ex k1
   obtain ⟨C',dx',w1,w2⟩:=k1
   have e13:c1=a1:=by
    have hi1:=ex0.keep pp _ hi (.inl rfl)
    rw [hi1] at w2
    cases w2
    rfl
   subst e13
   refine ⟨_,ji.t (b:=ky) (k:=cg (r,n)) (kvs:=kvs) (by rw [aA (cH k2.1 htp)];exact k2.1) (by rw [aA (cH z2 htp)];exact z2),?_⟩
   have tr:Rep X.K (upd H1 tp (.tup [])) Ω1 (.tup []) (.ref tp):=(show ∃ a vs,_ from ⟨tp,[],rfl,SqT.of bw,.nil⟩)
   rcases uG (r,n) k5 (k6.ext ex) with ⟨dd,v,l1,l2,l3⟩ | ⟨l1,l2⟩
   ·rw [l1] at h1
    rw [l2]
    exact h1 _ Ω1 ex (R1.alloc htp) v l3
   ·rw [l1] at h1
    rw [l2]
    exact h1 _ Ω1 ex (R1.alloc htp) _ tr
  ·exact h1.elim
 ·exact h.elim
theorem ku {K:PySem.W.Frag} {H:Hp} {Ω:Om} {σ:St} {δ:DSt} {i:Nat} {ks:List (Str×Int)} {vs as bs:List D} (R:az K H Ω σ δ) (h:δ[i]?=some (.ob ks vs as bs)):∃ p a1 a2 a3 kvs xs ys,σ[i]?=some (some (.ref p))/\cz K H p a1 a2 a3/\(H a1=some (.dT kvs)/\Ω a1=some (i + 2))/\(H a2=some (.lst xs)/\Ω a2=some (i + 2))/\(H a3=some (.lst ys)/\Ω a3=some (i + 2))/\a2≠a3/\kvs.map (·.1)=ks.map cg/\ax K H Ω vs (kvs.map (·.2))/\ax K H Ω as xs/\ax K H Ω bs ys:=by
 obtain ⟨p,e0,a1,a2,a3,kvs,xs,ys,h⟩:=R.sl i _ h
 exact ⟨p,a1,a2,a3,kvs,xs,ys,join_some e0,h⟩
theorem cz.same {K:PySem.W.Frag} {H:Hp} {C p dx a1 a2 a3 c1 c2 c3:Addr} (h:cz K H p c1 c2 c3) (hi:H p=some (.ins C dx (eh a1 a2 a3))):c1=a1/\c2=a2/\c3=a3:=by
 obtain ⟨C',dx',w1,w2⟩:=h
 rw [hi] at w2
 cases w2
 exact ⟨rfl,rfl,rfl⟩
theorem om (i:Nat) {sp:Pos} (T:aX X.K C) (hu:X.A.units + 1 < cLine) (h2:PED X E e2 f2) (h1:PED X E e1 f1) (hN:X.N[i]?=some x:=by rfl) (hv:Vis X.env.scope x:=by first | exact Or.inl rfl | exact Or.inr (Or.inl rfl) | exact Or.inr (Or.inr rfl)) (hd:(x == ("__debug__":Str))=false:=by decide) (hcd:(x == ("__classdict__":Str))=false:=by decide)
  (hb:attributeBase (.Name x p) "borne" X.env (eval (.Name x p) X.env)=eval (.Name x p) X.env:=by rfl) (hsw:swapsWith e2 (some (.Subscript (.Attribute (.Name x p) "borne" bpos) e1 sp)) pos.line X.env=pure false:=by rfl) :
  PSD X E mp (.Assign [.Subscript (.Attribute (.Name x p) "borne" bpos) e1 sp] e2 pos) (jJ i f2 f1):=by
 obtain ⟨t2,q2,d2⟩:=h2
 obtain ⟨t1,q1,d1⟩:=h1
 refine ⟨_,DH hu (kW (pv i hN hv hd hcd) hb) q1 q2 hsw,fun σ H δ Ω R B h=>?_⟩
 refine d2.use R h fun b y δ1 H1 Ω1 _ s1 R1 r1 w1=>?_
 (try dsimp only at w1)
 split at w1
 ·rename_i dd
  split at w1
  ·rename_i ho
   unfold gO at ho
   split at ho
   ·rename_i ks0 vs0 as0 bs0 hs0
    obtain ⟨pp,a1,a2,a3,kv0,xs0,ys0,e0,hb0,_⟩:=ku R1 hs0
    obtain ⟨dx,hi⟩:=hb0.ins T
    refine ⟨.ref pp,e0,pp,C,dx,_,.ref a1,rfl,hi,T.cl,T.n1,bf1,?_⟩
    refine d1.use R1 w1 fun a z δ2 H2 Ω2 ex2 s2 R2 r2 w2=>?_
    (try dsimp only at w2)
    split at w2
    ·rename_i r n ks vs as bs hk hs2
     split at w2
     ·rename_i hz
      obtain ⟨p2,c1,c2,c3,kvs,xs,ys,e1,k1,k2,k3,k4,k5,k6,k7,k8,k9⟩:=ku R2 hs2
      have e1':=e1
      rw [e0] at e1
      cases e1
      obtain ⟨rfl,rfl,rfl⟩:=k1.same (ex2.keep pp _ hi (.inl rfl))
      obtain ⟨ky,z1,z2⟩:=(show ∃ a,_ from r2.res R2 hk)
      subst z1
      have ry:Rep X.K H2 Ω2 dd y:=Rep.ext ex2 r1
      have hlen:kvs.length < sizeLine:=by
       have:=congrArg List.length k6
       rw [List.length_map,List.length_map] at this
       rw [this];exact hz
      refine ⟨c1,_,rfl,j5.t (b:=ky) (k:=cg (r,n)) k2.1 z2 hlen,?_⟩
      have ml:∃ vs,H2 c1=some vs/\bV vs=false:=⟨_,k2.1,rfl⟩
      have ex:Ext H2 Ω2 (upd H2 c1 (.dT (putK kvs (cg (r,n)) y))) Ω2:=.putK ml k2.2
      obtain ⟨g1,g2⟩:=DD (q:=(r,n)) ry k6 k7
      have n12:c2≠c1:=by rintro rfl;rw [k2.1] at k3;cases k3.1
      have n13:c3≠c1:=by rintro rfl;rw [k2.1] at k4;cases k4.1
      refine w2 _ Ω2 ex σ (R2.putK ml k2.2 rfl ⟨pp,by rw [e1'];rfl,c1,c2,c3,_,xs,ys,cz.ext ex k1,⟨bw,k2.2⟩,⟨by rw [aA n12];exact k3.1,k3.2⟩,⟨by rw [aA n13];exact k4.1,k4.2⟩,k5,g1,g2.ext ex,k8.ext ex,k9.ext ex⟩) fun _ _=>rfl
     ·exact w2.elim
    ·exact w2.elim
   ·cases ho
  ·exact w1.elim
 ·exact w1.elim
end
end DL
namespace DL
open PySem PySem.Spec PyProof.Rows L2
def l0 (i:Nat) (f:DM DV):DM Fl:=fun δ=>if gO i δ then ((fN f).bd fun a δ1=>match a,δ1[i]? with
 | .val d,some (.ob ks vs as bs)=>if as.length < sizeLine then .ok .nx (δ1.set i (.ob ks vs (as++[d]) bs)) else .un
 | _,_=>.un) δ else .un
def mm (i:Nat) (f:DM DV):DM Fl:=fun δ=>if gO i δ then ((fN f).bd fun a δ1=>match a,δ1[i]? with
 | .val d,some (.ob ks vs as bs)=>if bs.length < sizeLine then .ok .nx (δ1.set i (.ob ks vs as (bs++[d]))) else .un
 | _,_=>.un) δ else .un
section
variable {X:Cx} {E:Str->Hp->Prop} {pos apos cpos bpos p p':Pos} {e e1 e2:Expr} {f f1 f2:DM DV} {C:Addr} {x:Str} {mp:List Nat}
theorem Aa (i:Nat) (T:aX X.K C) (he:PED X E e f) (hN:X.N[i]?=some x:=by rfl) (hv:Vis X.env.scope x:=by first | exact Or.inl rfl | exact Or.inr (Or.inl rfl) | exact Or.inr (Or.inr rfl)) (hd:(x == ("__debug__":Str))=false:=by decide) (hcd:(x == ("__classdict__":Str))=false:=by decide)
  (hb:attributeBase (.Name x p) "knitted" X.env (eval (.Name x p) X.env)=eval (.Name x p) X.env:=by rfl)
  (hbase:attributeBase (.Attribute (.Name x p) "knitted" bpos) "append" X.env (eval (.Attribute (.Name x p) "knitted" bpos) X.env)=eval (.Attribute (.Name x p) "knitted" bpos) X.env:=by rfl)
  (hfew:((backTo cpos (starEach [e] X.env)).all (fun x=>!x.1)&&(backToKw cpos (keywordEach [] X.env)).all (fun x=>x.1.isSome)
   && decide (([e]:List Expr).length + ([]:List Keyword).length + (if ([]:List Keyword).isEmpty then 0 else 1) < 30))=true:=by rfl)
  (hline:(apos.endLine == cpos.line)=true:=by rfl) (hs:starEach [e] X.env=(false,eval e X.env) :: starEach [] X.env:=by rfl)
  (hsw:swapsWith (.Call (.Attribute (.Attribute (.Name x p) "knitted" bpos) "append" apos) [e] [] cpos) none pos.line X.env=pure false:=by rfl) :
  PSD X E mp (.Expr (.Call (.Attribute (.Attribute (.Name x p) "knitted" bpos) "append" apos) [e] [] cpos) pos) (l0 i f):=by
 obtain ⟨t,q,d⟩:=he
 refine ⟨_,kr (lN PySem.F.plainAttrs_list PySem.F.slot_list_append PySem.F.type_list_append oK (kW (pv i hN hv hd hcd) hb) (fQ q fU hs) hbase hfew hline hs rfl) hsw,?_⟩
 intro σ H δ Ω R B h
 unfold l0 at h
 split at h
 ·rename_i ho
  unfold gO at ho
  split at ho
  ·rename_i ks0 vs0 as0 bs0 hs0
   obtain ⟨pp,a1,a2,a3,kv0,xs0,ys0,e0,hb0,_,g2,_⟩:=ku R hs0
   obtain ⟨dx,hi⟩:=hb0.ins T
   refine ⟨.ref pp,e0,pp,C,dx,_,.ref a2,rfl,hi,T.cl,T.n2,bf2,.inl ⟨rfl,xs0,SqL.of g2.1⟩,?_⟩
   refine d.use R h fun a y δ2 H2 Ω2 ex2 s2 R2 r2 w2=>?_
   (try dsimp only at w2)
   split at w2
   ·rename_i dd ks vs as bs hs2
    split at w2
    ·rename_i hz
     obtain ⟨p2,c1,c2,c3,kvs,xs,ys,e1,k1,k2,k3,k4,k5,k6,k7,k8,k9⟩:=ku R2 hs2
     have e1':=e1
     rw [e0] at e1
     cases e1
     obtain ⟨rfl,rfl,rfl⟩:=k1.same (ex2.keep pp _ hi (.inl rfl))
     refine ⟨c2,xs,y,rfl,rfl,k3.1,by rw [<-k8.length];exact hz,?_⟩
     have ml:∃ vs,H2 c2=some vs/\bV vs=false:=⟨_,k3.1,rfl⟩
     have ex:Ext H2 Ω2 (upd H2 c2 (.lst (xs++[y]))) Ω2:=.putK ml k3.2
     have n12:c1≠c2:=by rintro rfl;rw [k2.1] at k3;cases k3.1
     refine w2 _ Ω2 ex σ (R2.putK ml k3.2 rfl ⟨pp,by rw [e1'];rfl,c1,c2,c3,kvs,_,ys,cz.ext ex k1,⟨by rw [aA n12];exact k2.1,k2.2⟩,⟨bw,k3.2⟩,⟨by rw [aA k5.symm];exact k4.1,k4.2⟩,k5,k6,k7.ext ex,(k8.append (.cons r2 .nil)).ext ex,k9.ext ex⟩) fun _ _=>rfl
    ·exact w2.elim
   ·exact w2.elim
  ·cases ho
 ·exact h.elim
theorem EI (i:Nat) (T:aX X.K C) (he:PED X E e f) (hN:X.N[i]?=some x:=by rfl) (hv:Vis X.env.scope x:=by first | exact Or.inl rfl | exact Or.inr (Or.inl rfl) | exact Or.inr (Or.inr rfl)) (hd:(x == ("__debug__":Str))=false:=by decide) (hcd:(x == ("__classdict__":Str))=false:=by decide)
  (hb:attributeBase (.Name x p) "past" X.env (eval (.Name x p) X.env)=eval (.Name x p) X.env:=by rfl)
  (hbase:attributeBase (.Attribute (.Name x p) "past" bpos) "append" X.env (eval (.Attribute (.Name x p) "past" bpos) X.env)=eval (.Attribute (.Name x p) "past" bpos) X.env:=by rfl)
  (hfew:((backTo cpos (starEach [e] X.env)).all (fun x=>!x.1)&&(backToKw cpos (keywordEach [] X.env)).all (fun x=>x.1.isSome)
   && decide (([e]:List Expr).length + ([]:List Keyword).length + (if ([]:List Keyword).isEmpty then 0 else 1) < 30))=true:=by rfl)
  (hline:(apos.endLine == cpos.line)=true:=by rfl) (hs:starEach [e] X.env=(false,eval e X.env) :: starEach [] X.env:=by rfl)
  (hsw:swapsWith (.Call (.Attribute (.Attribute (.Name x p) "past" bpos) "append" apos) [e] [] cpos) none pos.line X.env=pure false:=by rfl) :
  PSD X E mp (.Expr (.Call (.Attribute (.Attribute (.Name x p) "past" bpos) "append" apos) [e] [] cpos) pos) (mm i f):=by
 obtain ⟨t,q,d⟩:=he
 refine ⟨_,kr (lN PySem.F.plainAttrs_list PySem.F.slot_list_append PySem.F.type_list_append oK (kW (pv i hN hv hd hcd) hb) (fQ q fU hs) hbase hfew hline hs rfl) hsw,?_⟩
 intro σ H δ Ω R B h
 unfold mm at h
 split at h
 ·rename_i ho
  unfold gO at ho
  split at ho
  ·rename_i ks0 vs0 as0 bs0 hs0
   obtain ⟨pp,a1,a2,a3,kv0,xs0,ys0,e0,hb0,_,_,g3,_⟩:=ku R hs0
   obtain ⟨dx,hi⟩:=hb0.ins T
   refine ⟨.ref pp,e0,pp,C,dx,_,.ref a3,rfl,hi,T.cl,T.n3,bf3,.inl ⟨rfl,ys0,SqL.of g3.1⟩,?_⟩
   refine d.use R h fun a y δ2 H2 Ω2 ex2 s2 R2 r2 w2=>?_
   (try dsimp only at w2)
   split at w2
   ·rename_i dd ks vs as bs hs2
    split at w2
    ·rename_i hz
     obtain ⟨p2,c1,c2,c3,kvs,xs,ys,e1,k1,k2,k3,k4,k5,k6,k7,k8,k9⟩:=ku R2 hs2
     have e1':=e1
     rw [e0] at e1
     cases e1
     obtain ⟨rfl,rfl,rfl⟩:=k1.same (ex2.keep pp _ hi (.inl rfl))
     refine ⟨c3,ys,y,rfl,rfl,k4.1,by rw [<-k9.length];exact hz,?_⟩
     have ml:∃ vs,H2 c3=some vs/\bV vs=false:=⟨_,k4.1,rfl⟩
     have ex:Ext H2 Ω2 (upd H2 c3 (.lst (ys++[y]))) Ω2:=.putK ml k4.2
     have n13:c1≠c3:=by rintro rfl;rw [k2.1] at k4;cases k4.1
     refine w2 _ Ω2 ex σ (R2.putK ml k4.2 rfl ⟨pp,by rw [e1'];rfl,c1,c2,c3,kvs,xs,_,cz.ext ex k1,⟨by rw [aA n13];exact k2.1,k2.2⟩,⟨by rw [aA k5];exact k3.1,k3.2⟩,⟨bw,k4.2⟩,k5,k6,k7.ext ex,k8.ext ex,(k9.append (.cons r2 .nil)).ext ex⟩) fun _ _=>rfl
    ·exact w2.elim
   ·exact w2.elim
  ·cases ho
 ·exact h.elim
end
def xC:Sl->Sl
 | .sh d=>.sh d
 | _=>.no
def lL (i:Nat) (b:Bd) (δ:DSt):DSt:=(δ.map xC).set i (.sh b.d)
def kb (i:Nat) (f:DM DV):DM DV:=fun δ=>match δ[i]? with
 | some (.ob ks vs as bs)=>(match f (lL i ⟨ks,vs,as,bs⟩ δ) with
  | .ok (.own ds) _=>if dP ds=true then .ok (.own ds) δ else .un
  | _=>.un)
 | _=>.un
theorem AD {K:PySem.W.Frag} {E:Str->Hp->Prop} {t:TE} {f:DM DV} (i:Nat) (d:DE K E t f):DE K E t (kb i f):=by
 intro σ H δ Ω R Q h
 unfold kb at h
 split at h
 ·rename_i ks vs as bs hs
  obtain ⟨p,a1,a2,a3,e0,hb,hne⟩:=fO (b:=⟨ks,vs,as,bs⟩) (own:=true) R (by unfold eG;rw [hs])
  have hls:∀ x,Ω x=none->seen Ω a1 a2 a3 none x=none:=lM (.inl rfl)
  have R0:az K H (seen Ω a1 a2 a3 none) σ (lL i ⟨ks,vs,as,bs⟩ δ):=by
   refine ⟨by unfold lL;rw [List.length_set,List.length_map];exact R.len,fun j s q=>?_,lT R hb⟩
   unfold lL at q
   by_cases hj:i=j
   ·subst hj
    have hlt:i < (δ.map xC).length:=by
     have:=(List.getElem?_eq_some_iff.mp q).1
     rwa [List.length_set] at this
    rw [List.getElem?_set_self hlt] at q
    cases q
    exact ⟨.ref p,by rw [e0];rfl,bY.obj (hb.re hls (cP (.inl rfl)) (cP (.inr (.inl rfl))) (cP (.inr (.inr rfl))))⟩
   ·rw [List.getElem?_set_ne hj,List.getElem?_map] at q
    obtain ⟨s',q1,q2⟩:=Option.map_eq_some_iff.mp q
    subst q2
    cases s' with
    | sh dd=>
     obtain ⟨v,z1,z2⟩:=R.sl j _ q1
     exact ⟨v,z1,Rep.less hls z2⟩
    | _=>trivial
  split at h
  ·rename_i ds δ1 hf
   split at h
   ·rename_i hfl
    refine d σ H _ _ R0 Q ?_
    rw [hf]
    intro H' Ω' e R' v ⟨a,ws,z1,z2,z3,z4⟩
    have lab:∀ x,bX a1 a2 a3 x->Ω' x=none:=fun x hx=>by
     obtain ⟨_,u,z2,_⟩:=hb.lab hx
     exact e.new x (cP hx) (by rw [z2];exact Option.some_ne_none _)
    have ha:¬ bX a1 a2 a3 a:=fun hx=>by rw [lab a hx] at z3;cases z3
    exact h H' _ (Ext.cM hb e (.inl rfl)) (R.homeR hb e R'.trk) v ⟨a,ws,z1,z2,by rw [ir ha];exact ke z3,ax.flat hfl z4⟩
   ·exact h.elim
  ·exact h.elim
 ·exact h.elim
section
variable {X:Cx} {E:Str->Hp->Prop} {pos p p1 p2 pos2:Pos} {e a b:Expr} {f g:DM DV} {x:Str} {mp:List Nat}
theorem IT (i:Nat) (h:PED X E e f):PED X E e (kb i f):=by
 obtain ⟨t,q,d⟩:=h
 exact ⟨t,q,AD i d⟩
def sE:List D->Option DV
 | [.int i]=>some (.val (.int (if i < 0 then -i else i)))
 | _=>none
theorem Dx:fR X (.builtin "abs") sE:=⟨_,Cv,by
 intro E σ H δ Ω vs ds z Q R r hz h
 unfold sE at hz
 split at hz
 ·rename_i i
  cases hz
  obtain ⟨v,e,rv⟩:=eK r
  subst e
  cases (show v=.int i from rv)
  exact ⟨i,rfl,h.now R rfl⟩
 ·cases hz⟩
def lb:D->D->Option DV
 | .tup xs,.tup ys=>if xs.length + ys.length<=sizeLine then some (.val (.tup (xs++ys))) else none
 | _,_=>none
theorem t7:jI X .Add lb:=⟨_,Cp.or BE,by
 intro E σ H δ Ω x y d1 d2 z Q R r1 r2 hz h
 unfold lb at hz
 split at hz
 ·rename_i xs ys
  split at hz
  ·rename_i hl
   cases hz
   obtain ⟨a,vs,e1,e2,e3⟩:=eB r1
   obtain ⟨b,ws,q1,q2,q3⟩:=eB r2
   cases xs with
   | nil=>
    cases (show vs=[] from e3)
    exact .inr ⟨a,b,ws,e1,q1,e2,q2,h.now R (show ∃ a vs,_ from ⟨b,ws,rfl,q2,q3⟩)⟩
   | cons x0 xs=>
    refine .inl ⟨a,b,vs,ws,e1,q1,e2,q2,fun z=>?_,by rw [<-e3.length,<-q3.length];exact hl,fun z=>?_,fun z p hp=>h.allocT R hp (e3.append q3)⟩
    ·rw [z] at e3
     have:=e3.length
     cases this
    ·subst z
     cases ys with
     | nil=>rw [List.append_nil] at h;exact h.now R (show ∃ a vs,_ from ⟨a,vs,rfl,e2,e3⟩)
     | cons y0 ys=>have:=q3.length;cases this
  ·cases hz
 ·cases hz⟩
def nB (K:PySem.W.Frag) (mg:Str->Option Value) (x:Str) (kvs:List (Str×Str)):Prop:=∃ a,mg x=some (.ref a)/\my K a kvs
theorem vw {K:PySem.W.Frag} {mg:Str->Option Value} {x:Str} {a:Addr} {kvs:List (Str×Str)} (h:mg x=some (.ref a)) (T:my K a kvs):nB K mg x kvs:=⟨a,h,T⟩
def iS (kvs:List (Str×Str)):D->Option DV
 | .str k=>(jb k kvs).map fun n=>.val (.str n)
 | _=>none
theorem zO {kvs:List (Str×Str)} (hm:nB X.K X.mg x kvs) (ha:PED X E a f) (hg:Gl X x:=by rfl) (hd:(x == ("__debug__":Str))=false:=by decide) (hs:oj a:=by intro _ _;rfl) :
  PED X E (.Subscript (.Name x p) a pos) (fUn f (iS kvs)):=by
 obtain ⟨ad,h1,T⟩:=hm
 obtain ⟨t,q,d⟩:=ha
 refine ⟨_,pF AM (r9 (v:=.ref ad) hg h1 rfl hd) q hs,?_⟩
 intro σ H δ Ω R Q w
 refine d.use R w fun a1 y δ1 H1 Ω1 _ s1 R1 r1 w1=>?_
 cases q1:res δ1 a1 with
 | none=>rw [q1] at w1;exact w1.elim
 | some d1=>
  rw [q1] at w1
  cases d1 with
  | str k=>
   unfold iS at w1
   (try dsimp only at w1)
   cases q2:jb k kvs with
   | none=>rw [q2] at w1;exact w1.elim
   | some n=>rw [q2] at w1;exact ⟨k,ad,kvs,n,rfl,r1.res R1 q1,T,q2,Wg.now (d:=.val (.str n)) w1 R1 rfl⟩
  | _=>exact w1.elim
end
def lB (H:Hp) (C p dx a1 a2 a3:Addr):Hp:=upd (upd (upd (upd H p (.ins C dx (eh a1 a2 a3))) a1 (.dT [])) a2 (.lst [])) a3 (.lst [])
def wR (C:Addr):Sp:=fun vs H Q _=>∃ (p dx:Addr),vs=[.ref p]/\H p=some (.ins C dx [])/\∀ a1 a2 a3:Addr,H a1=none->H a2=none->H a3=none->a1≠a2->a1≠a3->a2≠a3->Q .non (lB H C p dx a1 a2 a3)
structure MkB (P:Program) (w:World) (K:PySem.W.Frag) (mg:Str->Option Value) (base:Heap) (C:Addr):Prop where
 nm:mg "Bed"=some (.ref C)
 ex:∃ (f:Addr) (fd:FuncData),aR P w K mg base CX0 1 f fd ["self"] (wR C)/\Mk K C f/\Binds K fd ["self"] []
def rO (i:Nat):DM Fl:=fun δ=>.ok .nx (δ.set i (.ob [] [] [] []))
section
variable {X:Cx} {E:Str->Hp->Prop} {pos p:Pos} {C:Addr} {x:Str} {mp:List Nat}
theorem v5 (i:Nat) {pos' cpos:Pos} (hN:X.N.Nodup) (T:aX X.K C) (M:MkB X.prog X.w X.K X.mg X.base C) (hr:bG 2 X.A) (hg:Gl X "Bed":=by rfl) (hi:X.N[i]?=some x:=by rfl) (hx:Loc X.env.scope x:=by first | exact Or.inl rfl | exact Or.inr rfl) (hm:i∉mp:=by decide)
  (hs:swapsWith (.Call (.Name "Bed" p) [] [] cpos) (some (.Name x pos')) pos.line X.env=pure false:=by rfl) (hf:X.fn x=true\/X.env.scope.names.lookup x=some .local:=by first | exact .inl rfl | exact .inr rfl) :
  PSD X E mp (.Assign [.Name x pos'] (.Call (.Name "Bed" p) [] [] cpos) pos) (rO i):=by
 obtain ⟨f,fd,F,mk,b⟩:=M.ex
 refine ⟨_,rY hN hi hx (CG mk F hr hg M.nm b .nil ix) hs hf,fun σ H δ Ω R B h=>?_⟩
 intro q dx n1 n2 ne
 refine ⟨q,dx,rfl,bw,fun a1 a2 a3 f1 f2 f3 n12 n13 n23=>⟨rfl,?_⟩⟩
 have fr:∀ {a:Addr},upd (upd H dx (.own q)) q (.ins C dx []) a=none->a≠q/\a≠dx/\H a=none:=fun {a} z=>by
  have z1:a≠q:=by rintro rfl;rw [bw] at z;cases z
  rw [aA z1] at z
  have z2:a≠dx:=by rintro rfl;rw [bw] at z;cases z
  rw [aA z2] at z
  exact ⟨z1,z2,z⟩
 obtain ⟨g1,g2,g3⟩:=fr f1
 obtain ⟨k1,k2,k3⟩:=fr f2
 obtain ⟨l1,l2,l3⟩:=fr f3
 have hh:lB (upd (upd H dx (.own q)) q (.ins C dx [])) C q dx a1 a2 a3=upd (upd (upd (upd (upd H dx (.own q)) q (.ins C dx (eh a1 a2 a3))) a1 (.dT [])) a2 (.lst [])) a3 (.lst []):=by
  unfold lB
  congr 3
  funext z
  by_cases hz:z=q
  ·subst hz;rw [bw,bw]
  ·rw [aA hz,aA hz,aA hz]
 rw [hh]
 have h1:(upd H dx (.own q)) q=none:=by rw [aA ne.symm];exact n1
 have h2:upd (upd H dx (.own q)) q (.ins C dx (eh a1 a2 a3)) a1=none:=by rw [aA g1,aA g2];exact g3
 have h3:upd (upd (upd H dx (.own q)) q (.ins C dx (eh a1 a2 a3))) a1 (.dT []) a2=none:=by rw [aA n12.symm,aA k1,aA k2];exact k3
 have h4:upd (upd (upd (upd H dx (.own q)) q (.ins C dx (eh a1 a2 a3))) a1 (.dT [])) a2 (.lst []) a3=none:=by rw [aA n23.symm,aA n13.symm,aA l1,aA l2];exact l3
 have R1:=R.alloc (o:=.own q) n2
 have R2:=R1.alloc (o:=.ins C dx (eh a1 a2 a3)) h1
 have R3:=R2.allocK (o:=.dT []) (k:=i + 1) h2 rfl
 have R4:=R3.allocK (o:=.lst []) (k:=i + 1) h3 rfl
 have R5:=R4.allocK (o:=.lst []) (k:=i + 1) h4 rfl
 have e5:=((((Ext.alloc (o:=.own q) n2 R.trk).trans (.alloc (o:=.ins C dx (eh a1 a2 a3)) h1 R1.trk)).trans (.allocK (o:=.dT []) (k:=i + 1) h2 R2.trk)).trans (.allocK (o:=.lst []) (k:=i + 1) h3 R3.trk)).trans (.allocK (o:=.lst []) (k:=i + 1) h4 R4.trk)
 refine h _ _ e5 _ (R5.set ⟨q,rfl,a1,a2,a3,[],[],[],⟨C,dx,T.ns,?_⟩,⟨?_,?_⟩,⟨?_,?_⟩,⟨bw,?_⟩,n23,rfl,.nil,.nil,.nil⟩) (set_same hm)
 ·rw [aA l1.symm,aA k1.symm,aA g1.symm,bw]
 ·rw [aA n13,aA n12,bw]
 ·unfold bu;rw [if_neg n13,if_neg n12,if_pos rfl]
 ·rw [aA n23,bw]
 ·unfold bu;rw [if_neg n23,if_pos rfl]
 ·unfold bu;rw [if_pos rfl]
end
end DL
namespace DL
open PySem PySem.Spec PyProof.Rows L2
section
variable {K:PySem.W.Frag} {C p dx:Addr} {H:Hp} {Q:VK}
theorem A7 (a1 a2 a3:Addr):c7 "past" (.ref a3) (c7 "knitted" (.ref a2) (c7 "borne" (.ref a1) []))=eh a1 a2 a3:=by
 rfl
theorem CJ (TB:aX K C) (hp:H p=some (.ins C dx [])) (k:∀ a1 a2 a3:Addr,H a1=none->H a2=none->H a3=none->a1≠a2->a1≠a3->a2≠a3->Q .non (lB H C p dx a1 a2 a3)) :
  oG (oh K (gq 0) vv "borne") (oG (oh K (gq 0) (n5 iz) "knitted") (oh K (gq 0) (n5 iz) "past")) { nx:=fun _ H'=>Q .non H',rt:=Q } (L2.start ["self"] [.ref p]) H:=by
 intro a1 f1
 have n1:p≠a1:=cH hp f1
 refine ⟨.ref p,rfl,p,C,dx,[],rfl,by rw [aA n1];exact hp,TB.cl,TB.n1,by change 0 < 1000;decide,by change 0<=sizeLine;exact Nat.zero_le _,fun a2 f2=>?_⟩
 have m1:a2≠p:=by rintro rfl;rw [bw] at f2;cases f2
 rw [aA m1] at f2
 have m2:a2≠a1:=by rintro rfl;rw [bw] at f2;cases f2
 rw [aA m2] at f2
 refine ⟨.ref p,rfl,p,C,dx,_,rfl,by rw [aA m1.symm,bw],TB.cl,TB.n2,by change 1 < 1000;decide,by change 0<=sizeLine;exact Nat.zero_le _,fun a3 f3=>?_⟩
 have l1:a3≠p:=by rintro rfl;rw [bw] at f3;cases f3
 rw [aA l1] at f3
 have l2:a3≠a2:=by rintro rfl;rw [bw] at f3;cases f3
 rw [aA l2,aA l1] at f3
 have l3:a3≠a1:=by rintro rfl;rw [bw] at f3;cases f3
 rw [aA l3] at f3
 refine ⟨.ref p,rfl,p,C,dx,_,rfl,by rw [aA l1.symm,bw],TB.cl,TB.n3,by change 2 < 1000;decide,?_⟩
 have h:=k a1 a2 a3 f1 f2 f3 m2.symm l3.symm l2.symm
 rw [A7]
 refine cast (congrArg (Q .non) ?_) h
 unfold lB
 funext z
 by_cases z1:z=a3
 ·subst z1;rw [bw,aA l1,bw]
 rw [aA z1]
 by_cases z2:z=a2
 ·subst z2;rw [bw,aA m1,aA z1,aA m1,bw]
 rw [aA z2]
 by_cases z3:z=a1
 ·subst z3;rw [bw,aA n1.symm,aA z1,aA n1.symm,aA z2,aA n1.symm,bw]
 rw [aA z3]
 by_cases z4:z=p
 ·subst z4;rw [bw,bw]
 ·rw [aA z4,aA z4,aA z1,aA z4,aA z2,aA z4,aA z3]
end
end DL
namespace L2
open PySem PySem.Spec PyProof.Rows
section
variable {X:Cx} {pos:Pos}
theorem EW {tr:TS} {body:List Stmt} {h₀:ExceptHandler} {hs:List ExceptHandler} (hr:PSs X.nox body tr):PS X (.Try body (h₀ :: hs) [] [] pos) tr:=by
 intro pins s σ H B I h
 refine wpAny_Try_except (wpAny_mono (hr pins s σ H B (I.wish _) h) (fun f s2 q=>?_) fun _ _ z=>z.elim)
 have q:=q.unwish
 cases f with
 | next=>exact wpAny_execs_nil q
 | brk=>exact q
 | cont=>exact q
 | ret u=>exact q
end
end L2
namespace DL
open PySem PySem.Spec PyProof.Rows L2
theorem Fm {X:Cx} {pos:Pos} {mp:List Nat} {E:Str->Hp->Prop} {body:List Stmt} {h₀:ExceptHandler} {hs:List ExceptHandler} {fb:DM Fl} (hb:fw X.nox E mp body fb):PSD X E mp (.Try body (h₀ :: hs) [] [] pos) fb:=by
 obtain ⟨t,p,d⟩:=hb
 exact ⟨_,EW p,d⟩
end DL
namespace Lw
open PySem L2 DL PyProof.Rows
def m9:List (Str×Str):=[("f","b"),("b","f")]
abbrev uo:D:=.int 2
abbrev sr:D:=.int 2
abbrev qo:D:=.int 4
abbrev pK:D:=.int 4
abbrev vQ:D:=.int 16
def gA:List (Str×Int):=[("k",1),("p",1),("t",1),("s",1),("l",2),("r",2),("o",0)]
def kz:List (Str×Str):=[("f","k"),("b","p")]
theorem C5:bootBuiltins "abs"=some (.builtin "abs"):=by decide +kernel
theorem E3:bootBuiltins "all"=some (.builtin "all"):=by decide +kernel
theorem Fy:bootBuiltins "any"=some (.builtin "any"):=by decide +kernel
theorem C8:bootBuiltins "bool"=some (.type "bool"):=by decide +kernel
theorem Ad:bootBuiltins "int"=some (.type "int"):=by decide +kernel
theorem cw:bootBuiltins "len"=some (.builtin "len"):=by decide +kernel
theorem gB:bootBuiltins "list"=some (.type "list"):=by decide +kernel
theorem HQ:bootBuiltins "max"=some (.builtin "max"):=by decide +kernel
theorem pC:bootBuiltins "min"=some (.builtin "min"):=by decide +kernel
theorem xK:bootBuiltins "str"=some (.type "str"):=by decide +kernel
theorem pQ:bootBuiltins "sum"=some (.builtin "sum"):=by decide +kernel
theorem n4:bootBuiltins "tuple"=some (.type "tuple"):=by decide +kernel
structure Txt (K:PySem.W.Frag) (mg:Str->Option Value):Prop where
 b_abs:mg "abs"=none
 b_all:mg "all"=none
 b_any:mg "any"=none
 b_bool:mg "bool"=none
 b_enumerate:mg "enumerate"=none
 b_int:mg "int"=none
 b_isinstance:mg "isinstance"=none
 b_len:mg "len"=none
 b_list:mg "list"=none
 b_max:mg "max"=none
 b_min:mg "min"=none
 b_range:mg "range"=none
 b_reversed:mg "reversed"=none
 b_str:mg "str"=none
 b_sum:mg "sum"=none
 b_tuple:mg "tuple"=none
 g_ACROSS:nB K mg "ACROSS" m9
 g_FARTHEST_bed:jH K mg "FARTHEST_bed" uo
 g_FARTHEST_making:jH K mg "FARTHEST_making" sr
 g_MOST_BORNE:jH K mg "MOST_BORNE" qo
 g_MOST_LOOPS:jH K mg "MOST_LOOPS" pK
 g_MOST_WIDE:jH K mg "MOST_WIDE" vQ
 g_TAKES:pq K mg "TAKES" gA
 g_WAYS:nB K mg "WAYS" kz
theorem Ey:(["count"]:List Str).Nodup:=by decide +kernel
theorem AA:(["k","counts"]:List Str).Nodup:=by decide +kernel
theorem HI:(["k"]:List Str).Nodup:=by decide +kernel
theorem Ci:(["stitch"]:List Str).Nodup:=by decide +kernel
theorem CT:(["number"]:List Str).Nodup:=by decide +kernel
theorem Ba:(["number","cast"]:List Str).Nodup:=by decide +kernel
theorem Fi:(["hook","cast"]:List Str).Nodup:=by decide +kernel
theorem Cb:(["spot","self"]:List Str).Nodup:=by decide +kernel
theorem Dk:(["held"]:List Str).Nodup:=by decide +kernel
theorem Fu:(["step"]:List Str).Nodup:=by decide +kernel
section
variable {P:Program} {w:World} {K:PySem.W.Frag} {mg:Str->Option Value} {base:Heap}
abbrev pO:Stmt:=top 44
theorem Dl:bj ["script","k"] ["script","k"] (aW pO):=⟨rfl,rfl,rfl,by decide +kernel,rfl,by decide +kernel,by decide +kernel⟩
def sP:DM Fl:=
  (ak (fIf (aw (ah (ae 1) (fCB (af (ae 0) ai) bq) (bg lt))) (aD (ah (ae 0) (ae 1) gIx)) aN)
  (aD (fC (.int 0))))
def fY:List D->Ro:=bz sP 2
theorem GK {f:Addr} {fd:FuncData} (F:Fun K "_law_cell_at" "_law_cell_at" pO f fd) (T:Txt K mg) {C:Addr} (TB:aX K C) :aR P w K mg base CX0 1 f fd ["script","k"] (spP K (fun _=>.none) 2 fY):=
 fnP F Dl fun cdv A outer s H E hr=>
   (ar (aY (aZ gz (ag 1) (bJ cx T.b_len cw (aj (ag 0) ao)) (aU _)) (ay (aK (aT (ag 0) (ag 1)))) bc)
   (ay (aK au)))
abbrev rF:Stmt:=top 47
theorem yg:bj ["way","counts","many"] ["way","counts"] (aW rF):=⟨rfl,rfl,rfl,by decide +kernel,rfl,by decide +kernel,by decide +kernel⟩
def i9:DM Fl:=
  (ak (aG 2 (fCB (af (ae 1) ai) bq))
  (ak (fIf (bM (aw (ah (ae 0) (fC (.int 0)) gEq)) (aw (ah (ae 0) (fC (.int 1)) gEq))) (ak (fIf (aw (fCB (af (fLC (dU (af (ah (ae 2) (fC (.int 2)) cZ) ai)) (bo 0) (.ret true) (ah (ah (ah (ae 1) (ah (fC (.int 2)) (ae 0) bA) gIx) (ah (ae 1) (ah (ah (fC (.int 2)) (ae 0) bA) (fC (.int 1)) aV) gIx) aV) (fC (.int 4)) (bg gt)) [none,some 1]) ai) mf)) (aD (fC (.str ""))) aN)
  (aD (ah (ah (ah (fC (.str "lr")) (ae 0) gIx) (ah (ae 2) (fC (.int 2)) cZ) bA) (ah (fC (.str "k")) (ah (ae 2) (fC (.int 2)) bU) bA) aV))) aN)
  (ak (fIf (aw (ah (ae 0) (fC (.int 2)) gEq)) (aD (ah (ah (fC (.str "o")) (ah (fC (.int 16)) (ae 2) eC) bA) (ah (fC (.str "p")) (ae 2) bA) aV)) aN)
  (ak (fIf (aw (ah (ae 0) (fC (.int 3)) gEq)) (aD (ah (ah (fC (.str "k")) (ae 2) bA) (ah (fC (.str "o")) (ah (fC (.int 16)) (ae 2) eC) bA) aV)) aN)
  (ak (fIf (aw (ah (ae 0) (fC (.int 4)) gEq)) (aD (fBM (fC (.str "")) (af (fLC (fIt (ae 1) cQ) (bo 0) (.ret true) (gR (aw (ah (ae 0) (fC (.int 4)) (bg lt))) (fC (.str "t")) (fC (.str "s"))) [none]) ai) nY)) aN)
  (ak (fIf (aw (ah (ae 0) (fC (.int 5)) gEq)) (aD (ah (fC (.str "s")) (ae 2) bA)) aN)
  (aD (ah (ah (fC (.str "ok")) (fCB (af (ae 2) (af (ah (fC (.int 16)) (ae 2) eC) ai)) jy) bA) (ah (fC (.str "k")) (ah (ae 2) (fCB (af (ae 2) (af (ah (fC (.int 16)) (ae 2) eC) ai)) jy) eC) bA) aV))))))))
def dm:List D->Ro:=bz i9 3
theorem Cd {f:Addr} {fd:FuncData} (F:Fun K "_law_menu" "_law_menu" rF f fd) (T:Txt K mg) {C:Addr} (TB:aX K C) :aR P w K mg base CX0 1 f fd ["way","counts"] (spP K (fun _=>.none) 2 dm):=
 fnP F yg fun cdv A outer s H E hr=>
   (ar (ba 2 yg.nd (bJ cx T.b_len cw (aj (ag 1) ao)))
   (ar (aY (c6 (dw (aZ (bK hr.units) (ag 0) au (aU _)) (d4 (aZ (bK hr.units) (ag 0) au (aU _))))) (ar (aY (cm (bJ (Aj rfl) T.b_any Fy (aj (kR (N:=["k","counts"]) (sel:=[none,some 1]) ⟨rfl,rfl,rfl,rfl,rfl,rfl⟩ rfl (gW T.b_range (aj (aJ gb (ag 2) au) ao)) (fun _=>cO AA) (fun _=>gc) (fun _=>(hX cmp_gt (aJ bQ (aT (ag 1) (aJ dg au (ag 0))) (aT (ag 1) (aJ bQ (aJ dg au (ag 0)) au))) au (aU _)))) ao))) (ay (aK aM)) bc)
   (ay (aK (aJ bQ (aJ dg (aT aM (ag 0)) (aJ gb (ag 2) au)) (aJ dg aM (aJ dk (ag 2) au)))))) bc)
   (ar (aY (aZ (bK hr.units) (ag 0) au (aU _)) (ay (aK (aJ bQ (aJ dg aM (aJ gH au (ag 2))) (aJ dg aM (ag 2))))) bc)
   (ar (aY (aZ (bK hr.units) (ag 0) au (aU _)) (ay (aK (aJ bQ (aJ dg aM (ag 2)) (aJ dg aM (aJ gH au (ag 2)))))) bc)
   (ar (aY (aZ (bK hr.units) (ag 0) au (aU _)) (ay (aK (FO AY PySem.F.slot_str_join PySem.F.type_str_join aM (aj (kR (N:=["count"]) (sel:=[none]) ⟨rfl,rfl,rfl,rfl,rfl,rfl⟩ rfl (eO (ag 1)) (fun _=>cO Ey) (fun _=>gc) (fun _=>(qQ (aZ gz (ag 0) au (aU _)) aM aM))) ao)))) bc)
   (ar (aY (aZ (bK hr.units) (ag 0) au (aU _)) (ay (aK (aJ dg aM (ag 2)))) bc)
   (ay (aK (aJ bQ (aJ dg aM (bJ (rL rfl) T.b_min pC (aj (ag 2) (aj (aJ gH au (ag 2)) ao)))) (aJ dg aM (aJ gH (ag 2) (bJ (rL rfl) T.b_min pC (aj (ag 2) (aj (aJ gH au (ag 2)) ao))))))))))))))
abbrev qV:Stmt:=top 48
theorem vy:bj ["way","sign","counts","at","room","two"] ["way","sign","counts","at","room"] (aW qV):=⟨rfl,rfl,rfl,by decide +kernel,rfl,by decide +kernel,by decide +kernel⟩
def vJ:DM Fl:=
  (ak (aG 5 (ft (ah (ah (ae 3) (fC (.int 1)) aV) (fCB (af (ae 2) ai) bq) (bg lt)) (ah (ah (ah (ae 2) (ae 3) gIx) (ah (ae 2) (ah (ae 3) (fC (.int 1)) aV) gIx) aV) (fC (.int 4)) (bg le))))
  (ak (fIf (df (aw (ah (ae 0) (fC (.int 0)) gEq)) (aw (ae 4))) (aD (fC (.str "o"))) aN)
  (ak (fIf (df (aw (ah (ae 0) (fC (.int 1)) gEq)) (aw (ae 5))) (aD (ah (bB (af (fC (.str "ol")) (af (fC (.str "lo")) (af (fC (.str "or")) (af (fC (.str "ro")) ai))))) (ah (ae 1) (fC (.int 4)) bU) gIx)) aN)
  (ak (fIf (df (bM (aw (ah (ae 0) (fC (.int 2)) gEq)) (aw (ah (ae 0) (fC (.int 3)) gEq))) (aw (ae 5))) (aD (ah (fC (.str "lr")) (ah (ae 1) (fC (.int 2)) bU) gIx)) aN)
  (ak (fIf (df (bM (aw (ah (ae 0) (fC (.int 4)) gEq)) (aw (ah (ae 0) (fC (.int 5)) gEq))) (aw (ah (ah (ae 2) (ae 3) gIx) (fC (.int 4)) (bg lt)))) (aD (fC (.str "t"))) aN)
  (aD (ah (fC (.str "skppkk")) (ah (ae 1) (fC (.int 6)) bU) gIx)))))))
def jB:List D->Ro:=bz vJ 6
theorem JI {f:Addr} {fd:FuncData} (F:Fun K "_law_stitch" "_law_stitch" qV f fd) (T:Txt K mg) {C:Addr} (TB:aX K C) :aR P w K mg base CX0 1 f fd ["way","sign","counts","at","room"] (spP K (fun _=>.none) 5 jB):=
 fnP F vy fun cdv A outer s H E hr=>
   (ar (ba 5 vy.nd (nT (hX gz (aJ bQ (ag 3) au) (bJ cx T.b_len cw (aj (ag 2) ao)) (aU _)) (oq (hX rf (aJ bQ (aT (ag 2) (ag 3)) (aT (ag 2) (aJ bQ (ag 3) au))) au (aU _)))))
   (ar (aY (c6 (lC (aZ (bK hr.units) (ag 0) au (aU _)) (lR (cm (ag 4))))) (ay (aK aM)) bc)
   (ar (aY (c6 (lC (aZ (bK hr.units) (ag 0) au (aU _)) (lR (cm (ag 5))))) (ay (aK (aT (bW (aj aM (aj aM (aj aM (aj aM ao))))) (aJ dk (ag 1) au)))) bc)
   (ar (aY (c6 (lC (c6 (dw (aZ (bK hr.units) (ag 0) au (aU _)) (d4 (aZ (bK hr.units) (ag 0) au (aU _))))) (lR (cm (ag 5))))) (ay (aK (aT aM (aJ dk (ag 1) au)))) bc)
   (ar (aY (c6 (lC (c6 (dw (aZ (bK hr.units) (ag 0) au (aU _)) (d4 (aZ (bK hr.units) (ag 0) au (aU _))))) (lR (aZ gz (aT (ag 2) (ag 3)) au (aU _))))) (ay (aK aM)) bc)
   (ay (aK (aT aM (aJ dk (ag 1) au)))))))))
abbrev qv:Stmt:=top 45
theorem pP:bj ["cell","k","seed"] ["cell","k"] (aW qv):=⟨rfl,rfl,rfl,by decide +kernel,rfl,by decide +kernel,by decide +kernel⟩
def ur:DM Fl:=
  (ak (aG 2 (ah (ah (ae 0) (ah (fC (.int 7919)) (ah (ae 1) (fC (.int 3)) aV) bA) aV) (fC (.int 2147483647)) bU))
  (ak (aG 2 (ah (ah (ah (ah (ae 2) (ae 2) bA) (ah (fC (.int 104729)) (ae 1) bA) aV) (fC (.int 5)) aV) (fC (.int 2147483629)) bU))
  (aD (ah (ah (ae 2) (ae 2) bA) (fC (.int 2147483587)) bU))))
def dH:List D->Ro:=bz ur 3
theorem CZ {f:Addr} {fd:FuncData} (F:Fun K "_law_mix" "_law_mix" qv f fd) (T:Txt K mg) {C:Addr} (TB:aX K C) :aR P w K mg base CX0 1 f fd ["cell","k"] (spP K (fun _=>.none) 2 dH):=
 fnP F pP fun cdv A outer s H E hr=>
   (ar (ba 2 pP.nd (aJ dk (aJ bQ (ag 0) (aJ dg au (aJ bQ (ag 1) au))) au))
   (ar (ba 2 pP.nd (aJ dk (aJ bQ (aJ bQ (aJ dg (ag 2) (ag 2)) (aJ dg au (ag 1))) au) au))
   (ay (aK (aJ dk (aJ dg (ag 2) (ag 2)) au)))))
abbrev pI:Stmt:=top 46
theorem Fh:bj ["stitch"] ["stitch"] (aW pI):=⟨rfl,rfl,rfl,by decide +kernel,rfl,by decide +kernel,by decide +kernel⟩
def JC:DM Fl:=
  (ak (fIf (aw (ah (ae 0) (fC (.str "o")) gEq)) (aD (fC (.int 0))) aN)
  (ak (fIf (bM (aw (ah (ae 0) (fC (.str "l")) gEq)) (aw (ah (ae 0) (fC (.str "r")) gEq))) (aD (fC (.int 2))) aN)
  (aD (fC (.int 1)))))
def gn:List D->Ro:=bz JC 1
theorem B7 {f:Addr} {fd:FuncData} (F:Fun K "_law_taken" "_law_taken" pI f fd) (T:Txt K mg) {C:Addr} (TB:aX K C) :aR P w K mg base CX0 1 f fd ["stitch"] (spP K (fun _=>.none) 1 gn):=
 fnP F Fh fun cdv A outer s H E hr=>
   (ar (aY (aZ (bK hr.units) (ag 0) aM (aU _)) (ay (aK au)) bc)
   (ar (aY (c6 (dw (aZ (bK hr.units) (ag 0) aM (aU _)) (d4 (aZ (bK hr.units) (ag 0) aM (aU _))))) (ay (aK au)) bc)
   (ay (aK au))))
abbrev s_row:Stmt:=top 49
theorem fA:bj ["cell","counts","some","stitches","at","k","room","here","stitch"] ["cell","counts"] (aW s_row):=⟨rfl,rfl,rfl,by decide +kernel,rfl,by decide +kernel,by decide +kernel⟩
def mV:DM Fl:=
  (ak (aG 2 (ah (ah (aF 2 (af (ae 0) (af (fC (.int 90)) ai)) dH) (fC (.int 7)) cZ) (fC (.int 30)) bU))
  (ak (aG 3 (gR (aw (ah (ae 2) (fC (.int 7)) (bg lt))) (aF 2 (af (ae 2) (af (ae 1) ai)) dm) (fC (.str ""))))
  (ak (fIf (aw (ah (ae 3) (fC (.str "")) gNe)) (aD (ae 3)) aN)
  (ak (aG 4 (fC (.int 0)))
  (ak (aG 5 (fC (.int 0)))
  (ak (dF (aw (ah (ae 4) (fCB (af (ae 1) ai) bq) (bg lt))) (ak (aG 6 (ah (ah (ah (fCB (af (ae 3) ai) bq) (fCB (af (ae 1) ai) bq) aV) (ae 4) eC) (fC (.int 16)) (bg lt)))
  (ak (aG 7 (aF 5 (af (ah (ah (aF 2 (af (ae 0) (af (ah (fC (.int 2)) (ae 5) bA) ai)) dH) (fC (.int 13)) cZ) (fC (.int 14)) bU) (af (ah (aF 2 (af (ae 0) (af (ah (ah (fC (.int 2)) (ae 5) bA) (fC (.int 1)) aV) ai)) dH) (fC (.int 7)) cZ) (af (ae 1) (af (ae 4) (af (ae 6) ai))))) jB))
  (ak (aG 3 (ah (ae 3) (ae 7) aV))
  (ak (aG 5 (ah (ae 5) (fC (.int 1)) aV))
  (cu (fIt (ae 7) gG) (bo 8) (aG 4 (ah (ae 4) (aF 1 (af (ae 8) ai) gn) aV))))))) 64)
  (ak (fIf (df (aw (ah (ah (ah (aF 2 (af (ae 0) (af (fC (.int 99)) ai)) dH) (fC (.int 5)) cZ) (fC (.int 3)) bU) (fC (.int 0)) gEq)) (aw (ah (fCB (af (ae 3) ai) bq) (fC (.int 16)) (bg lt)))) (aG 3 (ah (ae 3) (fC (.str "o")) aV)) aN)
  (aD (ae 3)))))))))
def hJ:List D->Ro:=bz mV 9
theorem Dn {f:Addr} {fd:FuncData} (F:Fun K "_law_row" "_law_row" s_row f fd) (T:Txt K mg) {C:Addr} (TB:aX K C) (F_menu:aQ P w K mg base 1 "_law_menu" 2 dm) (F_stitch:aQ P w K mg base 1 "_law_stitch" 5 jB) (F_mix:aQ P w K mg base 1 "_law_mix" 2 dH) (F_taken:aQ P w K mg base 1 "_law_taken" 1 gn):aR P w K mg base CX0 2 f fd ["cell","counts"] (spP K (fun _=>.none) 2 hJ):=
 fnP F fA fun cdv A outer s H E hr=>
   (ar (ba 2 fA.nd (aJ dk (aJ gb (bp F_mix (hr.mono (by decide)) (aj (ag 0) (aj au ao))) au) au))
   (ar (ba 3 fA.nd (qQ (aZ gz (ag 2) au (aU _)) (bp F_menu (hr.mono (by decide)) (aj (ag 2) (aj (ag 1) ao))) aM))
   (ar (aY (aZ (fm hr.units) (ag 3) aM (aU _)) (ay (aK (ag 3))) bc)
   (ar (ba 4 fA.nd au)
   (ar (ba 5 fA.nd au)
   (ar (zw 64 PassesOwn.never (aZ gz (ag 4) (bJ cx T.b_len cw (aj (ag 1) ao)) (aU _)) (ar (ba 6 fA.nd (hX gz (aJ gH (aJ bQ (bJ cx T.b_len cw (aj (ag 3) ao)) (bJ cx T.b_len cw (aj (ag 1) ao))) (ag 4)) au (aU _)))
   (ar (ba 7 fA.nd (bp F_stitch (hr.mono (by decide)) (aj (aJ dk (aJ gb (bp F_mix (hr.mono (by decide)) (aj (ag 0) (aj (aJ dg au (ag 5)) ao))) au) au) (aj (aJ gb (bp F_mix (hr.mono (by decide)) (aj (ag 0) (aj (aJ bQ (aJ dg au (ag 5)) au) ao))) au) (aj (ag 1) (aj (ag 4) (aj (ag 6) ao)))))))
   (ar (ba 3 fA.nd (aJ bQ (ag 3) (ag 7)))
   (ar (ba 5 fA.nd (aJ bQ (ag 5) au))
   (ay (cX PassesOwn.never rfl (oy (ag 7)) (cO fA.nd) (ay (ba 4 fA.nd (aJ bQ (ag 4) (bp F_taken (hr.mono (by decide)) (aj (ag 8) ao))))))))))))
   (ar (aY (c6 (lC (aZ (bK hr.units) (aJ dk (aJ gb (bp F_mix (hr.mono (by decide)) (aj (ag 0) (aj au ao))) au) au) au (aU _)) (lR (aZ gz (bJ cx T.b_len cw (aj (ag 3) ao)) au (aU _))))) (ay (ba 3 fA.nd (aJ bQ (ag 3) aM))) bc)
   (ay (aK (ag 3))))))))))
abbrev rU:Stmt:=top 50
theorem lH:bj ["stitches","counts","found","at","stitch"] ["stitches","counts"] (aW rU):=⟨rfl,rfl,rfl,by decide +kernel,rfl,by decide +kernel,by decide +kernel⟩
def t5:DM Fl:=
  (ak (cJ 2 (bB ai))
  (ak (aG 3 (fC (.int 0)))
  (ak (cu (fIt (ae 0) gG) (bo 4) (ak (fIf (aw (ah (ae 4) (fC (.str "t")) gEq)) (bR 2 (ah (ah (ae 1) (ae 3) gIx) (fC (.int 1)) aV)) (fIf (aw (ah (ae 4) (fC (.str "s")) gEq)) (bR 2 (ah (ae 1) (ae 3) gIx)) (bR 2 (fC (.int 1)))))
  (aG 3 (ah (ae 3) (aF 1 (af (ae 4) ai) gn) aV))))
  (aD (ae 2)))))
def j4:List D->Ro:=bz t5 5
theorem BR {f:Addr} {fd:FuncData} (F:Fun K "_law_behind" "_law_behind" rU f fd) (T:Txt K mg) {C:Addr} (TB:aX K C) (F_taken:aQ P w K mg base 1 "_law_taken" 1 gn):aR P w K mg base CX0 2 f fd ["stitches","counts"] (spP K (fun _=>.none) 2 j4):=
 fnP F lH fun cdv A outer s H E hr=>
   (ar (d6 2 lH.nd (bW ao))
   (ar (ba 3 lH.nd au)
   (ar (cX PassesOwn.never rfl (oy (ag 0)) (cO lH.nd) (ar (aY (aZ (bK hr.units) (ag 4) aM (aU _)) (ay (eF 2 (aJ bQ (aT (ag 1) (ag 3)) au))) (ay (aY (aZ (bK hr.units) (ag 4) aM (aU _)) (ay (eF 2 (aT (ag 1) (ag 3)))) (ay (eF 2 au)))))
   (ay (ba 3 lH.nd (aJ bQ (ag 3) (bp F_taken (hr.mono (by decide)) (aj (ag 4) ao)))))))
   (ay (aK (ag 2))))))
abbrev pz:Stmt:=top 51
theorem iK:bj ["script","rows","widest","many","pattern","counts","k","cell","stitches"] ["script","rows","widest"] (aW pz):=⟨rfl,rfl,rfl,by decide +kernel,rfl,by decide +kernel,by decide +kernel⟩
def xD:DM Fl:=
  (ak (aG 3 (ah (fC (.int 1)) (ah (aF 2 (af (ae 0) (af (fC (.int 1)) ai)) fY) (ae 2) bU) aV))
  (ak (cJ 4 (bB (af (br (af (fC (.str "cast")) (af (ae 3) (af (ah (fC (.str "abcdef")) (ah (aF 2 (af (ae 0) (af (fC (.int 2)) ai)) fY) (fC (.int 6)) bU) gIx) ai)))) ai)))
  (ak (aG 5 (fLC (dU (af (ae 3) ai)) (bo 0) (.ret true) (fC (.int 1)) [none]))
  (ak (cu (dU (af (ae 1) ai)) (bo 6) (ak (aG 7 (ah (aF 2 (af (ae 0) (af (ah (fC (.int 3)) (ae 6) aV) ai)) fY) (ah (fC (.int 5003)) (ae 6) bA) aV))
  (ak (aG 8 (aF 2 (af (ae 7) (af (ae 5) ai)) hJ))
  (ak (bR 4 (br (af (fC (.str "row")) (af (ah (fC (.str "abcdef")) (ah (ah (aF 2 (af (ae 7) (af (fC (.int 200)) ai)) dH) (fC (.int 11)) cZ) (fC (.int 6)) bU) gIx) (af (ae 8) ai)))))
  (aG 5 (aF 2 (af (ae 8) (af (ae 5) ai)) j4))))))
  (aD (ae 4))))))
def iX:List D->Ro:=bz xD 9
theorem GR {f:Addr} {fd:FuncData} (F:Fun K "_law_pattern" "_law_pattern" pz f fd) (T:Txt K mg) {C:Addr} (TB:aX K C) (F_row:aQ P w K mg base 2 "_law_row" 2 hJ) (F_behind:aQ P w K mg base 2 "_law_behind" 2 j4) (F_cell_at:aQ P w K mg base 1 "_law_cell_at" 2 fY) (F_mix:aQ P w K mg base 1 "_law_mix" 2 dH):aR P w K mg base CX0 3 f fd ["script","rows","widest"] (spP K (fun _=>.none) 3 iX):=
 fnP F iK fun cdv A outer s H E hr=>
   (ar (ba 3 iK.nd (aJ bQ au (aJ dk (bp F_cell_at (hr.mono (by decide)) (aj (ag 0) (aj au ao))) (ag 2))))
   (ar (d6 4 iK.nd (bW (aj (bS (aj aM (aj (ag 3) (aj (aT aM (aJ dk (bp F_cell_at (hr.mono (by decide)) (aj (ag 0) (aj au ao))) au)) ao)))) ao)))
   (ar (vq 5 iK.nd (N:=["k"]) (sel:=[none]) ⟨rfl,rfl,rfl,rfl,rfl,rfl⟩ rfl (gW T.b_range (aj (ag 3) ao)) (fun _=>cO HI) (fun _=>gc) (fun _=>au))
   (ar (cX PassesOwn.never rfl (gW T.b_range (aj (ag 1) ao)) (cO iK.nd) (ar (ba 7 iK.nd (aJ bQ (bp F_cell_at (hr.mono (by decide)) (aj (ag 0) (aj (aJ bQ au (ag 6)) ao))) (aJ dg au (ag 6))))
   (ar (ba 8 iK.nd (bp F_row (hr.mono (by decide)) (aj (ag 7) (aj (ag 5) ao))))
   (ar (eF 4 (bS (aj aM (aj (aT aM (aJ dk (aJ gb (bp F_mix (hr.mono (by decide)) (aj (ag 7) (aj au ao))) au) au)) (aj (ag 8) ao)))))
   (ay (ba 5 iK.nd (bp F_behind (hr.mono (by decide)) (aj (ag 8) (aj (ag 5) ao)))))))))
   (ay (aK (ag 4)))))))
abbrev qB:Stmt:=top 52
theorem xm:bj ["script","size"] ["script"] (aW qB):=⟨rfl,rfl,rfl,by decide +kernel,rfl,by decide +kernel,by decide +kernel⟩
def uF:DM Fl:=
  (ak (aG 1 (aF 2 (af (ae 0) (af (fC (.int 0)) ai)) fY))
  (ak (fIf (aw (ah (ah (ah (ae 1) (fC (.int 7)) cZ) (fC (.int 6)) bU) (fC (.int 1)) gEq)) (aD (aF 3 (af (ae 0) (af (ah (ah (ae 1) (fC (.int 42)) cZ) (fC (.int 9)) bU) (af (fC (.int 4)) ai))) iX)) aN)
  (ak (fIf (aw (ah (ah (ah (ae 1) (fC (.int 7)) cZ) (fC (.int 6)) bU) (fC (.int 2)) gEq)) (aD (aF 3 (af (ae 0) (af (ah (ae 1) (fC (.int 4)) bU) (af (fC (.int 16)) ai))) iX)) aN)
  (aD (aF 3 (af (ae 0) (af (ah (ae 1) (fC (.int 7)) bU) (af (fC (.int 9)) ai))) iX)))))
def je:List D->Ro:=bz uF 2
theorem Cz {f:Addr} {fd:FuncData} (F:Fun K "_law_good" "_law_good" qB f fd) (T:Txt K mg) {C:Addr} (TB:aX K C) (F_cell_at:aQ P w K mg base 1 "_law_cell_at" 2 fY) (F_pattern:aQ P w K mg base 3 "_law_pattern" 3 iX):aR P w K mg base CX0 4 f fd ["script"] (spP K (fun _=>.none) 1 je):=
 fnP F xm fun cdv A outer s H E hr=>
   (ar (ba 1 xm.nd (bp F_cell_at (hr.mono (by decide)) (aj (ag 0) (aj au ao))))
   (ar (aY (aZ (bK hr.units) (aJ dk (aJ gb (ag 1) au) au) au (aU _)) (ay (aK (bp F_pattern (hr.mono (by decide)) (aj (ag 0) (aj (aJ dk (aJ gb (ag 1) au) au) (aj au ao)))))) bc)
   (ar (aY (aZ (bK hr.units) (aJ dk (aJ gb (ag 1) au) au) au (aU _)) (ay (aK (bp F_pattern (hr.mono (by decide)) (aj (ag 0) (aj (aJ dk (ag 1) au) (aj au ao)))))) bc)
   (ay (aK (bp F_pattern (hr.mono (by decide)) (aj (ag 0) (aj (aJ dk (ag 1) au) (aj au ao)))))))))
abbrev qx:Stmt:=top 11
theorem kP:bj ["stitches","steps","start","stitch","end"] ["stitches"] (aW qx):=⟨rfl,rfl,rfl,by decide +kernel,rfl,by decide +kernel,by decide +kernel⟩
def yL:DM Fl:=
  (ak (cJ 1 (bB ai))
  (ak (aG 2 (fC (.int 0)))
  (ak (cu (fIt (ae 0) gG) (bo 3) (ak (aG 4 (ah (ae 2) (fUn (ae 3) (iG gA)) aV))
  (ak (bR 1 (br (af (ae 3) (af (ae 2) (af (ae 4) ai)))))
  (aG 2 (ae 4)))))
  (aD (ae 1)))))
def eA:List D->Ro:=bz yL 5
theorem An {f:Addr} {fd:FuncData} (F:Fun K "steps_of" "steps_of" qx f fd) (T:Txt K mg) {C:Addr} (TB:aX K C) :aR P w K mg base CX0 1 f fd ["stitches"] (spP K (fun _=>.none) 1 eA):=
 fnP F kP fun cdv A outer s H E hr=>
   (ar (d6 1 kP.nd (bW ao))
   (ar (ba 2 kP.nd au)
   (ar (cX PassesOwn.never rfl (oy (ag 0)) (cO kP.nd) (ar (ba 4 kP.nd (aJ bQ (ag 2) (xx T.g_TAKES (ag 3))))
   (ar (eF 1 (bS (aj (ag 3) (aj (ag 2) (aj (ag 4) ao)))))
   (ay (ba 2 kP.nd (ag 4))))))
   (ay (aK (ag 1))))))
abbrev r6:Stmt:=top 10
theorem Ej:bj ["stitches"] ["stitches"] (aW r6):=⟨rfl,rfl,rfl,by decide +kernel,rfl,by decide +kernel,by decide +kernel⟩
def yM:DM Fl:=
  (aD (fCB (af (fLC (fIt (ae 0) gG) (bo 0) (.ret true) (fUn (ae 0) (iG gA)) [none]) ai) iq))
def kC:List D->Ro:=bz yM 1
theorem DX {f:Addr} {fd:FuncData} (F:Fun K "places_taken" "places_taken" r6 f fd) (T:Txt K mg) {C:Addr} (TB:aX K C) :aR P w K mg base CX0 1 f fd ["stitches"] (spP K (fun _=>.none) 1 kC):=
 fnP F Ej fun cdv A outer s H E hr=>
   (ay (aK (bJ (sF rfl) T.b_sum pQ (aj (kR (N:=["stitch"]) (sel:=[none]) ⟨rfl,rfl,rfl,rfl,rfl,rfl⟩ rfl (oy (ag 0)) (fun _=>cO Ci) (fun _=>gc) (fun _=>(xx T.g_TAKES (ag 0)))) ao))))
abbrev qG:Stmt:=top 18
theorem Aw:bj ["stitch","met"] ["stitch","met"] (aW qG):=⟨rfl,rfl,rfl,by decide +kernel,rfl,by decide +kernel,by decide +kernel⟩
def qZ:DM Fl:=
  (ak (fIf (aw (ah (ae 0) (fC (.str "t")) gEq)) (aD (ah (ah (ae 1) (fC (.int 1)) aV) (fC pK) (bg gt))) aN)
  (aD (ft (ah (ae 0) (br (af (fC (.str "l")) (af (fC (.str "r")) ai))) gIn) (ah (ae 1) (fC pK) (bg gt)))))
def iY:List D->Ro:=bz qZ 2
theorem Jx {f:Addr} {fd:FuncData} (F:Fun K "is_too_many" "is_too_many" qG f fd) (T:Txt K mg) {C:Addr} (TB:aX K C) :aR P w K mg base CX0 1 f fd ["stitch","met"] (spP K (fun _=>.none) 2 iY):=
 fnP F Aw fun cdv A outer s H E hr=>
   (ar (aY (aZ (bK hr.units) (ag 0) aM (aU _)) (ay (aK (hX cmp_gt (aJ bQ (ag 1) au) (iH T.g_MOST_LOOPS) (aU _)))) bc)
   (ay (aK (nT (hX pW (ag 0) (bS (aj aM (aj aM ao))) (by with_unfolding_all rfl)) (oq (hX cmp_gt (ag 1) (iH T.g_MOST_LOOPS) (aU _)))))))
abbrev pZ:Stmt:=top 17
theorem xj:bj ["stitches","counts","stitch","start","end"] ["stitches","counts"] (aW pZ):=⟨rfl,rfl,rfl,by decide +kernel,rfl,by decide +kernel,by decide +kernel⟩
def u5:DM Fl:=
  (ak (fIf (aw (ah (fCB (af (ae 0) ai) bq) (fC vQ) (bg gt))) (aD (fC (.str "wide"))) aN)
  (ak (fIf (aw (ah (aF 1 (af (ae 0) ai) kC) (fCB (af (ae 1) ai) bq) gNe)) (aD (fC (.str "fit"))) aN)
  (ak (cu (fIt (aF 1 (af (ae 0) ai) eA) cQ) (cY [2,3,4]) (fIf (aw (aF 2 (af (ae 2) (af (fCB (af (eT (ae 1) (cV (ae 3)) (cV (ae 4))) ai) iq) ai)) iY)) (aD (fC (.str "many"))) aN))
  (aD (fC .non)))))
def jn:List D->Ro:=bz u5 5
theorem Dj {f:Addr} {fd:FuncData} (F:Fun K "fault_of" "fault_of" pZ f fd) (T:Txt K mg) {C:Addr} (TB:aX K C) (F_steps_of:aQ P w K mg base 1 "steps_of" 1 eA) (F_places_taken:aQ P w K mg base 1 "places_taken" 1 kC) (F_is_too_many:aQ P w K mg base 1 "is_too_many" 2 iY):aR P w K mg base CX0 2 f fd ["stitches","counts"] (spP K (fun _=>.none) 2 jn):=
 fnP F xj fun cdv A outer s H E hr=>
   (ar (aY (aZ cmp_gt (bJ cx T.b_len cw (aj (ag 0) ao)) (iH T.g_MOST_WIDE) (aU _)) (ay (aK aM)) bc)
   (ar (aY (aZ (fm hr.units) (bp F_places_taken (hr.mono (by decide)) (aj (ag 0) ao)) (bJ cx T.b_len cw (aj (ag 1) ao)) (aU _)) (ay (aK aM)) bc)
   (ar (cX PassesOwn.never rfl (eO (bp F_steps_of (hr.mono (by decide)) (aj (ag 0) ao))) (mT xj.nd) (ay (aY (cm (bp F_is_too_many (hr.mono (by decide)) (aj (ag 2) (aj (bJ (sF rfl) T.b_sum pQ (aj (kQ (ag 1) (ij (ag 3)) (ij (ag 4))) ao)) ao)))) (ay (aK aM)) bc)))
   (ay (aK pE)))))
abbrev oU:Stmt:=top 20
theorem Fw:bj ["stitch","met"] ["stitch","met"] (aW oU):=⟨rfl,rfl,rfl,by decide +kernel,rfl,by decide +kernel,by decide +kernel⟩
def uQ:DM Fl:=
  (ak (fIf (aw (ah (ae 0) (fC (.str "s")) gEq)) (aD (ae 1)) aN)
  (ak (fIf (aw (ah (ae 0) (fC (.str "t")) gEq)) (aD (ah (ae 1) (fC (.int 1)) aV)) aN)
  (aD (fC (.int 1)))))
def jv:List D->Ro:=bz uQ 2
theorem Jp {f:Addr} {fd:FuncData} (F:Fun K "count_left" "count_left" oU f fd) (T:Txt K mg) {C:Addr} (TB:aX K C) :aR P w K mg base CX0 1 f fd ["stitch","met"] (spP K (fun _=>.none) 2 jv):=
 fnP F Fw fun cdv A outer s H E hr=>
   (ar (aY (aZ (bK hr.units) (ag 0) aM (aU _)) (ay (aK (ag 1))) bc)
   (ar (aY (aZ (bK hr.units) (ag 0) aM (aU _)) (ay (aK (aJ bQ (ag 1) au))) bc)
   (ay (aK au))))
abbrev su:Stmt:=top 19
theorem pX:bj ["stitches","counts","behind","stitch","start","end"] ["stitches","counts"] (aW su):=⟨rfl,rfl,rfl,by decide +kernel,rfl,by decide +kernel,by decide +kernel⟩
def yU:DM Fl:=
  (ak (cJ 2 (bB ai))
  (ak (cu (fIt (aF 1 (af (ae 0) ai) eA) cQ) (cY [3,4,5]) (bR 2 (aF 2 (af (ae 3) (af (fCB (af (eT (ae 1) (cV (ae 4)) (cV (ae 5))) ai) iq) ai)) jv)))
  (aD (ae 2))))
def jN:List D->Ro:=bz yU 6
theorem Bk {f:Addr} {fd:FuncData} (F:Fun K "counts_behind" "counts_behind" su f fd) (T:Txt K mg) {C:Addr} (TB:aX K C) (F_steps_of:aQ P w K mg base 1 "steps_of" 1 eA) (F_count_left:aQ P w K mg base 1 "count_left" 2 jv):aR P w K mg base CX0 2 f fd ["stitches","counts"] (spP K (fun _=>.none) 2 jN):=
 fnP F pX fun cdv A outer s H E hr=>
   (ar (d6 2 pX.nd (bW ao))
   (ar (cX PassesOwn.never rfl (eO (bp F_steps_of (hr.mono (by decide)) (aj (ag 0) ao))) (mT pX.nd) (ay (eF 2 (bp F_count_left (hr.mono (by decide)) (aj (ag 3) (aj (bJ (sF rfl) T.b_sum pQ (aj (kQ (ag 1) (ij (ag 4)) (ij (ag 5))) ao)) ao))))))
   (ay (aK (ag 2)))))
abbrev oR:Stmt:=top 15
theorem jt:bj ["pattern","counts","widths","number","row","stitches","fault"] ["pattern"] (aW oR):=⟨rfl,rfl,rfl,by decide +kernel,rfl,by decide +kernel,by decide +kernel⟩
def yv:DM Fl:=
  (ak (aG 1 (ah (bB (af (fC (.int 1)) ai)) (ah (ah (ae 0) (fC (.int 0)) gIx) (fC (.int 1)) gIx) bA))
  (ak (cJ 2 (bB (af (fCB (af (ae 1) ai) bq) ai)))
  (ak (cu (nz (eT (ae 0) (cV (fC (.int 1))) lA)) (cY [3,4]) (ak (aG 5 (ah (ae 4) (fC (.int 2)) gIx))
  (ak (aG 6 (aF 2 (af (ae 5) (af (ae 1) ai)) jn))
  (ak (fIf (aw (ah (ae 6) (fC .non) nr)) (aD (br (af (ae 6) (af (ae 3) ai)))) aN)
  (ak (aG 1 (aF 2 (af (ae 5) (af (ae 1) ai)) jN))
  (bR 2 (fCB (af (ae 1) ai) bq)))))))
  (fun δ=>(aD (br (af (fC (.str "good")) (af (ae 2) ai)))) (frz 2 δ)))))
def kU:List D->Ro:=bz yv 7
theorem zU {f:Addr} {fd:FuncData} (F:Fun K "looked" "looked" oR f fd) (T:Txt K mg) {C:Addr} (TB:aX K C) (F_fault_of:aQ P w K mg base 2 "fault_of" 2 jn) (F_counts_behind:aQ P w K mg base 2 "counts_behind" 2 jN):aR P w K mg base CX0 3 f fd ["pattern"] (spP K (fun _=>.none) 1 kU):=
 fnP F jt fun cdv A outer s H E hr=>
   (ar (ba 1 jt.nd (aJ dg (bW (aj au ao)) (aT (aT (ag 0) au) au)))
   (ar (d6 2 jt.nd (bW (aj (bJ cx T.b_len cw (aj (ag 1) ao)) ao)))
   (ar (cX PassesOwn.never rfl (IE T.b_enumerate (kQ (ag 0) (ij au) pd)) (mC jt.nd) (ar (ba 5 jt.nd (aT (ag 4) au))
   (ar (ba 6 jt.nd (bp F_fault_of (hr.mono (by decide)) (aj (ag 5) (aj (ag 1) ao))))
   (ar (aY (aZ Fn (ag 6) pE (aU _)) (ay (aK (bS (aj (ag 6) (aj (ag 3) ao))))) bc)
   (ar (ba 1 jt.nd (bp F_counts_behind (hr.mono (by decide)) (aj (ag 5) (aj (ag 1) ao))))
   (ay (eF 2 (bJ cx T.b_len cw (aj (ag 1) ao)))))))))
   (ay (l7 2 (aK (bS (aj aM (aj (ag 2) ao)))))))))
abbrev qK:Stmt:=top 16
theorem AL:bj ["pattern"] ["pattern"] (aW qK):=⟨rfl,rfl,rfl,by decide +kernel,rfl,by decide +kernel,by decide +kernel⟩
def vf:DM Fl:=
  (fIf (aw (ah (ah (aF 1 (af (ae 0) ai) kU) (fC (.int 0)) gIx) (fC (.str "good")) gNe)) jZ aN)
def iW:List D->Ro:=bz vf 1
theorem Hy {f:Addr} {fd:FuncData} (F:Fun K "need_good" "need_good" qK f fd) (T:Txt K mg) {C:Addr} (TB:aX K C) (F_looked:aQ P w K mg base 3 "looked" 1 kU):aR P w K mg base CX0 4 f fd ["pattern"] (spP K (fun _=>.none) 1 iW):=
 fnP F AL fun cdv A outer s H E hr=>
   (ay (aY (aZ (fm hr.units) (aT (bp F_looked (hr.mono (by decide)) (aj (ag 0) ao)) au) aM (aU _)) (ay kY) bc))
abbrev sI:Stmt:=top 41
theorem nW:bj ["taken","right_first","order","loops","place"] ["taken","right_first"] (aW sI):=⟨rfl,rfl,rfl,by decide +kernel,rfl,by decide +kernel,by decide +kernel⟩
def tf:DM Fl:=
  (ak (cJ 2 (fCB (af (ae 0) ai) fW))
  (ak (fIf (aw (ae 1)) (fS 2) aN)
  (ak (cJ 3 (bB ai))
  (ak (fun δ=>(cu (fIt (ae 2) cQ) (bo 4) (cq 3 (ae 4))) (frz 2 δ))
  (aD (ae 3))))))
def jz:List D->Ro:=bz tf 5
theorem De {f:Addr} {fd:FuncData} (F:Fun K "joined" "joined" sI f fd) (T:Txt K mg) {C:Addr} (TB:aX K C) :aR P w K mg base CX0 1 f fd ["taken","right_first"] (spP K (fun _=>.none) 2 jz):=
 fnP F nW fun cdv A outer s H E hr=>
   (ar (d6 2 nW.nd (kS lD T.b_list gB (aj (ag 0) ao)))
   (ar (aY (cm (ag 1)) (ay (nv 2)) bc)
   (ar (d6 3 nW.nd (bW ao))
   (ar (l7 2 (cX PassesOwn.never rfl (eO (ag 2)) (cO nW.nd) (ay (il 3 (ag 4)))))
   (ay (aK (ag 3)))))))
abbrev rT:Stmt:=top 40
theorem oH:bj ["stitch","yarn","taken","cloth","loops","number","way"] ["stitch","yarn","taken","cloth"] (aW rT):=⟨rfl,rfl,rfl,by decide +kernel,rfl,by decide +kernel,by decide +kernel⟩
def uC:DM Fl:=
  (ak (aG 4 (aF 2 (af (ae 2) (af (ah (ae 0) (fC (.str "r")) gEq) ai)) jz))
  (ak (fIf (aw (ah (ae 0) (fC (.str "s")) gEq)) (aD (ae 4)) aN)
  (ak (aG 5 (fCB (af (ae 3) ai) bq))
  (ak (fIf (aw (ah (ae 0) (br (af (fC (.str "t")) (af (fC (.str "o")) ai))) gIn)) (ak (bR 3 (br (af (ae 1) (af (fC (.str "t")) (af (br ai) ai)))))
  (aD (ah (ae 4) (bB (af (ae 5) ai)) aV))) aN)
  (ak (aG 6 (gR (aw (ah (ae 0) (fC (.str "p")) gEq)) (fC (.str "p")) (fC (.str "k"))))
  (ak (bR 3 (br (af (ae 1) (af (ae 6) (af (fCB (af (ae 4) ai) nt) ai)))))
  (aD (bB (af (ae 5) ai)))))))))
def jC:List D->List (List D)->Rn:=runN uC 7 [3]
theorem zR {f:Addr} {fd:FuncData} (F:Fun K "stitched" "stitched" rT f fd) (T:Txt K mg) {C:Addr} (TB:aX K C) (F_joined:aQ P w K mg base 1 "joined" 2 jz):aR P w K mg base CX0 2 f fd ["stitch","yarn","taken","cloth"] (spN K 4 [3] jC):=
 fnN [3] F oH fun cdv A outer s H E hr=>
   (ar (ba 4 oH.nd (bp F_joined (hr.mono (by decide)) (aj (ag 2) (aj (hX (bK hr.units) (ag 0) aM (aU _)) ao))))
   (ar (aY (aZ (bK hr.units) (ag 0) aM (aU _)) (ay (aK (ag 4))) bc)
   (ar (ba 5 oH.nd (bJ cx T.b_len cw (aj (ag 3) ao)))
   (ar (aY (aZ pW (ag 0) (bS (aj aM (aj aM ao))) (by with_unfolding_all rfl)) (ar (eF 3 (bS (aj (ag 1) (aj aM (aj (bS ao) ao)))))
   (ay (aK (aJ bQ (ag 4) (bW (aj (ag 5) ao)))))) bc)
   (ar (ba 6 oH.nd (qQ (aZ (bK hr.units) (ag 0) aM (aU _)) aM aM))
   (ar (eF 3 (bS (aj (ag 1) (aj (ag 6) (aj (kS A8 T.b_tuple n4 (aj (ag 4) ao)) ao)))))
   (ay (aK (bW (aj (ag 5) ao))))))))))
abbrev qP:Stmt:=top 39
theorem ot:bj ["row","from_right","places","cloth","steps","behind","stitch","start","end"] ["row","from_right","places","cloth"] (aW qP):=⟨rfl,rfl,rfl,by decide +kernel,rfl,by decide +kernel,by decide +kernel⟩
def x9:DM Fl:=
  (ak (cJ 4 (aF 1 (af (ah (ae 0) (fC (.int 2)) gIx) ai) eA))
  (ak (fIf (aw (ae 1)) (fS 4) aN)
  (ak (cJ 5 (bB ai))
  (ak (fun δ=>(cu (fIt (ae 4) cQ) (cY [6,7,8]) (bR 5 (iU 4 [3] (af (ae 6) (af (ah (ae 0) (fC (.int 1)) gIx) (af (eT (ae 2) (cV (ae 7)) (cV (ae 8))) (af (ae 3) ai)))) jC))) (frz 4 δ))
  (ak (fIf (aw (ae 1)) (fS 5) aN)
  (aD (ae 5)))))))
def jX:List D->List (List D)->Rn:=runN x9 9 [3]
theorem BZ {f:Addr} {fd:FuncData} (F:Fun K "worked" "worked" qP f fd) (T:Txt K mg) {C:Addr} (TB:aX K C) (F_steps_of:aQ P w K mg base 1 "steps_of" 1 eA) (F_stitched:lO P w K mg base 2 "stitched" 4 [3] jC):aR P w K mg base CX0 3 f fd ["row","from_right","places","cloth"] (spN K 4 [3] jX):=
 fnN [3] F ot fun cdv A outer s H E hr=>
   (ar (d6 4 ot.nd (bp F_steps_of (hr.mono (by decide)) (aj (aT (ag 0) au) ao)))
   (ar (aY (cm (ag 1)) (ay (nv 4)) bc)
   (ar (d6 5 ot.nd (bW ao))
   (ar (l7 4 (cX PassesOwn.never rfl (eO (ag 4)) (mT ot.nd) (ay (eF 5 (xu F_stitched (hr.mono (by decide)) (aj (ag 6) (aj (aT (ag 0) au) (aj (kQ (ag 2) (ij (ag 7)) (ij (ag 8))) (aj (ag 3) ao)))))))))
   (ar (aY (cm (ag 1)) (ay (nv 5)) bc)
   (ay (aK (ag 5))))))))
abbrev qk:Stmt:=top 38
theorem iP:bj ["pattern","cast","cloth","places","from_right","row"] ["pattern"] (aW qk):=⟨rfl,rfl,rfl,by decide +kernel,rfl,by decide +kernel,by decide +kernel⟩
def zu:DM Fl:=
  (ak (eR (aF 1 (af (ae 0) ai) iW))
  (ak (aG 1 (ah (ae 0) (fC (.int 0)) gIx))
  (ak (cJ 2 (fLC (dU (af (ah (ae 1) (fC (.int 1)) gIx) ai)) (bo 0) (.ret true) (br (af (ah (ae 1) (fC (.int 2)) gIx) (af (fC (.str "t")) (af (br ai) ai)))) [none,some 1]))
  (ak (aG 3 (fLC (dU (af (ah (ae 1) (fC (.int 1)) gIx) ai)) (bo 0) (.ret true) (bB (af (ae 0) ai)) [none]))
  (ak (aG 4 (fC (.bl true)))
  (ak (cu (fIt (eT (ae 0) (cV (fC (.int 1))) lA) cQ) (bo 5) (ak (aG 3 (iU 4 [3] (af (ae 5) (af (ae 4) (af (ae 3) (af (ae 2) ai)))) jX))
  (aG 4 (gf (ae 4)))))
  (fun δ=>(aD (br (af (ae 2) (af (ae 3) ai)))) (frz 2 δ))))))))
def j1:List D->Ro:=bz zu 6
theorem Gv {f:Addr} {fd:FuncData} (F:Fun K "told" "told" qk f fd) (T:Txt K mg) {C:Addr} (TB:aX K C) (F_need_good:aQ P w K mg base 4 "need_good" 1 iW) (F_worked:lO P w K mg base 3 "worked" 4 [3] jX):aR P w K mg base CX0 5 f fd ["pattern"] (spP K (fun _=>.none) 1 j1):=
 fnP F iP fun cdv A outer s H E hr=>
   (ar (km (bp F_need_good (hr.mono (by decide)) (aj (ag 0) ao)))
   (ar (ba 1 iP.nd (aT (ag 0) au))
   (ar (yO 2 iP.nd (N:=["number","cast"]) (sel:=[none,some 1]) ⟨rfl,rfl,rfl,rfl,rfl,rfl⟩ rfl (gW T.b_range (aj (aT (ag 1) au) ao)) (fun _=>cO Ba) (fun _=>gc) (fun _=>(bS (aj (aT (ag 1) au) (aj aM (aj (bS ao) ao))))))
   (ar (vq 3 iP.nd (N:=["number"]) (sel:=[none]) ⟨rfl,rfl,rfl,rfl,rfl,rfl⟩ rfl (gW T.b_range (aj (aT (ag 1) au) ao)) (fun _=>cO CT) (fun _=>gc) (fun _=>(bW (aj (ag 0) ao))))
   (ar (ba 4 iP.nd dC)
   (ar (cX PassesOwn.never rfl (eO (kQ (ag 0) (ij au) pd)) (cO iP.nd) (ar (ba 3 iP.nd (xu F_worked (hr.mono (by decide)) (aj (ag 5) (aj (ag 4) (aj (ag 3) (aj (ag 2) ao))))))
   (ay (ba 4 iP.nd (oZ (ag 4))))))
   (ay (l7 2 (aK (bS (aj (ag 2) (aj (ag 3) ao))))))))))))
abbrev qX:Stmt:=top 28
theorem Iy:bj ["at","goal"] ["at","goal"] (aW qX):=⟨rfl,rfl,rfl,by decide +kernel,rfl,by decide +kernel,by decide +kernel⟩
def wY:DM Fl:=
  (aD (fCB (af (ah (ae 0) (fC sr) eC) (af (fCB (af (ah (ae 0) (fC sr) aV) (af (ae 1) ai)) jy) ai)) nJ))
def fT:List D->Ro:=bz wY 2
theorem GV {f:Addr} {fd:FuncData} (F:Fun K "nearer" "nearer" qX f fd) (T:Txt K mg) {C:Addr} (TB:aX K C) :aR P w K mg base CX0 1 f fd ["at","goal"] (spP K (fun _=>.none) 2 fT):=
 fnP F Iy fun cdv A outer s H E hr=>
   (ay (aK (bJ (C7 rfl) T.b_max HQ (aj (aJ gH (ag 0) (iH T.g_FARTHEST_making)) (aj (bJ (rL rfl) T.b_min pC (aj (aJ bQ (ag 0) (iH T.g_FARTHEST_making)) (aj (ag 1) ao))) ao)))))
abbrev oQ:Stmt:=top 27
theorem l5:bj ["source","goal","deeds","at","over"] ["source","goal"] (aW oQ):=⟨rfl,rfl,rfl,by decide +kernel,rfl,by decide +kernel,by decide +kernel⟩
def wN:DM Fl:=
  (ak (cJ 2 (bB ai))
  (ak (aG 3 (ae 0))
  (ak (dF (aw (ah (ae 3) (ae 1) gNe)) (ak (aG 4 (aF 2 (af (ae 3) (af (ae 1) ai)) fT))
  (ak (bR 2 (br (af (fC (.str "move")) (af (fC (.str "f")) (af (ae 3) (af (ae 4) ai))))))
  (ak (aG 3 (aF 2 (af (ae 4) (af (ae 1) ai)) fT))
  (bR 2 (br (af (fC (.str "move")) (af (fC (.str "b")) (af (ae 4) (af (ae 3) ai))))))))) 64)
  (aD (ae 2)))))
def eE:List D->Ro:=bz wN 5
theorem AS {f:Addr} {fd:FuncData} (F:Fun K "moves_along" "moves_along" oQ f fd) (T:Txt K mg) {C:Addr} (TB:aX K C) (F_nearer:aQ P w K mg base 1 "nearer" 2 fT):aR P w K mg base CX0 2 f fd ["source","goal"] (spP K (fun _=>.none) 2 eE):=
 fnP F l5 fun cdv A outer s H E hr=>
   (ar (d6 2 l5.nd (bW ao))
   (ar (ba 3 l5.nd (ag 0))
   (ar (zw 64 PassesOwn.never (aZ (fm hr.units) (ag 3) (ag 1) (aU _)) (ar (ba 4 l5.nd (bp F_nearer (hr.mono (by decide)) (aj (ag 3) (aj (ag 1) ao))))
   (ar (eF 2 (bS (aj aM (aj aM (aj (ag 3) (aj (ag 4) ao))))))
   (ar (ba 3 l5.nd (bp F_nearer (hr.mono (by decide)) (aj (ag 4) (aj (ag 1) ao))))
   (ay (eF 2 (bS (aj aM (aj aM (aj (ag 4) (aj (ag 3) ao)))))))))))
   (ay (aK (ag 2))))))
abbrev qy:Stmt:=top 24
theorem qt:bj ["stitches","deeds","stitch","start","end"] ["stitches"] (aW qy):=⟨rfl,rfl,rfl,by decide +kernel,rfl,by decide +kernel,by decide +kernel⟩
def xk:DM Fl:=
  (ak (cJ 1 (bB ai))
  (ak (cu (fIt (aF 1 (af (ae 0) ai) eA) cQ) (cY [2,3,4]) (fIf (aw (ah (ae 2) (fC (.str "l")) gEq)) (cq 1 (aF 2 (af (ah (ae 3) (fC (.int 1)) aV) (af (ae 3) ai)) eE)) (fIf (aw (ah (ae 2) (fC (.str "r")) gEq)) (cq 1 (aF 2 (af (ae 3) (af (ah (ae 3) (fC (.int 1)) aV) ai)) eE)) aN)))
  (aD (ae 1))))
def iQ:List D->Ro:=bz xk 5
theorem Cf {f:Addr} {fd:FuncData} (F:Fun K "joining_moves" "joining_moves" qy f fd) (T:Txt K mg) {C:Addr} (TB:aX K C) (F_steps_of:aQ P w K mg base 1 "steps_of" 1 eA) (F_moves_along:aQ P w K mg base 2 "moves_along" 2 eE):aR P w K mg base CX0 3 f fd ["stitches"] (spP K (fun _=>.none) 1 iQ):=
 fnP F qt fun cdv A outer s H E hr=>
   (ar (d6 1 qt.nd (bW ao))
   (ar (cX PassesOwn.never rfl (eO (bp F_steps_of (hr.mono (by decide)) (aj (ag 0) ao))) (mT qt.nd) (ay (aY (aZ (bK hr.units) (ag 2) aM (aU _)) (ay (il 1 (bp F_moves_along (hr.mono (by decide)) (aj (aJ bQ (ag 3) au) (aj (ag 3) ao))))) (ay (aY (aZ (bK hr.units) (ag 2) aM (aU _)) (ay (il 1 (bp F_moves_along (hr.mono (by decide)) (aj (ag 3) (aj (aJ bQ (ag 3) au) ao))))) bc)))))
   (ay (aK (ag 1)))))
abbrev qI:Stmt:=top 26
theorem pN:bj ["stitches","ways","goal","step"] ["stitches"] (aW qI):=⟨rfl,rfl,rfl,by decide +kernel,rfl,by decide +kernel,by decide +kernel⟩
def yu:DM Fl:=
  (ak (cJ 1 (bB ai))
  (ak (cu (nN (aF 1 (af (ae 0) ai) eA)) (cY [2,3]) (fIf (aw (ah (ah (ae 3) (fC (.int 0)) gIx) (fC (.str "r")) gEq)) (bR 1 (br (af (ah (ah (ae 3) (fC (.int 1)) gIx) (fC (.int 1)) aV) (af (ae 2) ai)))) (fIf (aw (ah (ah (ae 3) (fC (.int 0)) gIx) (fC (.str "o")) gNe)) (bR 1 (br (af (ah (ae 3) (fC (.int 1)) gIx) (af (ae 2) ai)))) aN)))
  (aD (ae 1))))
def ka:List D->Ro:=bz yu 4
theorem Iw {f:Addr} {fd:FuncData} (F:Fun K "ways_of" "ways_of" qI f fd) (T:Txt K mg) {C:Addr} (TB:aX K C) (F_steps_of:aQ P w K mg base 1 "steps_of" 1 eA):aR P w K mg base CX0 2 f fd ["stitches"] (spP K (fun _=>.none) 1 ka):=
 fnP F pN fun cdv A outer s H E hr=>
   (ar (d6 1 pN.nd (bW ao))
   (ar (cX PassesOwn.never rfl (Ct T.b_enumerate (bp F_steps_of (hr.mono (by decide)) (aj (ag 0) ao))) (mC pN.nd) (ay (aY (aZ (bK hr.units) (aT (ag 3) au) aM (aU _)) (ay (eF 1 (bS (aj (aJ bQ (aT (ag 3) au) au) (aj (ag 2) ao))))) (ay (aY (aZ (fm hr.units) (aT (ag 3) au) aM (aU _)) (ay (eF 1 (bS (aj (aT (ag 3) au) (aj (ag 2) ao))))) bc)))))
   (ay (aK (ag 1)))))
abbrev qF:Stmt:=top 25
theorem lq:bj ["stitches","ways","deeds","source","goal"] ["stitches"] (aW qF):=⟨rfl,rfl,rfl,by decide +kernel,rfl,by decide +kernel,by decide +kernel⟩
def tJ:DM Fl:=
  (ak (aG 1 (aF 1 (af (ae 0) ai) ka))
  (ak (cJ 2 (bB ai))
  (ak (cu (oE (ae 1)) (cY [3,4]) (fIf (aw (ah (ae 3) (ae 4) (bg lt))) (cq 2 (aF 2 (af (ae 3) (af (ae 4) ai)) eE)) aN))
  (ak (cu (fIt (ae 1) cQ) (cY [3,4]) (fIf (aw (ah (ae 3) (ae 4) (bg gt))) (cq 2 (aF 2 (af (ae 3) (af (ae 4) ai)) eE)) aN))
  (aD (ae 2))))))
def i7:List D->Ro:=bz tJ 5
theorem BD {f:Addr} {fd:FuncData} (F:Fun K "placing_moves" "placing_moves" qF f fd) (T:Txt K mg) {C:Addr} (TB:aX K C) (F_ways_of:aQ P w K mg base 2 "ways_of" 1 ka) (F_moves_along:aQ P w K mg base 2 "moves_along" 2 eE):aR P w K mg base CX0 3 f fd ["stitches"] (spP K (fun _=>.none) 1 i7):=
 fnP F lq fun cdv A outer s H E hr=>
   (ar (ba 1 lq.nd (bp F_ways_of (hr.mono (by decide)) (aj (ag 0) ao)))
   (ar (d6 2 lq.nd (bW ao))
   (ar (cX PassesOwn.never rfl (Ec T.b_reversed (ag 1)) (mC lq.nd) (ay (aY (aZ gz (ag 3) (ag 4) (aU _)) (ay (il 2 (bp F_moves_along (hr.mono (by decide)) (aj (ag 3) (aj (ag 4) ao))))) bc)))
   (ar (cX PassesOwn.never rfl (eO (ag 1)) (mC lq.nd) (ay (aY (aZ cmp_gt (ag 3) (ag 4) (aU _)) (ay (il 2 (bp F_moves_along (hr.mono (by decide)) (aj (ag 3) (aj (ag 4) ao))))) bc)))
   (ay (aK (ag 2)))))))
abbrev ph:Stmt:=top 30
theorem FD:bj ["stitch","hook","yarn"] ["stitch","hook","yarn"] (aW ph):=⟨rfl,rfl,rfl,by decide +kernel,rfl,by decide +kernel,by decide +kernel⟩
def tN:DM Fl:=
  (ak (fIf (aw (ah (ae 0) (fC (.str "s")) gEq)) (aD (bB ai)) aN)
  (ak (fIf (aw (ah (ae 0) (br (af (fC (.str "t")) (af (fC (.str "o")) ai))) gIn)) (aD (bB (af (br (af (fC (.str "tuck")) (af (fC (.str "f")) (af (ae 1) (af (ae 2) ai))))) ai))) aN)
  (ak (fIf (aw (ah (ae 0) (fC (.str "p")) gEq)) (aD (bB (af (br (af (fC (.str "move")) (af (fC (.str "f")) (af (ae 1) (af (ae 1) ai))))) (af (br (af (fC (.str "knit")) (af (fC (.str "b")) (af (ae 1) (af (ae 2) ai))))) (af (br (af (fC (.str "move")) (af (fC (.str "b")) (af (ae 1) (af (ae 1) ai))))) ai))))) aN)
  (aD (bB (af (br (af (fC (.str "knit")) (af (fC (.str "f")) (af (ae 1) (af (ae 2) ai))))) ai))))))
def jO:List D->Ro:=bz tN 3
theorem EC {f:Addr} {fd:FuncData} (F:Fun K "stitch_deeds" "stitch_deeds" ph f fd) (T:Txt K mg) {C:Addr} (TB:aX K C) :aR P w K mg base CX0 1 f fd ["stitch","hook","yarn"] (spP K (fun _=>.none) 3 jO):=
 fnP F FD fun cdv A outer s H E hr=>
   (ar (aY (aZ (bK hr.units) (ag 0) aM (aU _)) (ay (aK (bW ao))) bc)
   (ar (aY (aZ pW (ag 0) (bS (aj aM (aj aM ao))) (by with_unfolding_all rfl)) (ay (aK (bW (aj (bS (aj aM (aj aM (aj (ag 1) (aj (ag 2) ao))))) ao)))) bc)
   (ar (aY (aZ (bK hr.units) (ag 0) aM (aU _)) (ay (aK (bW (aj (bS (aj aM (aj aM (aj (ag 1) (aj (ag 1) ao))))) (aj (bS (aj aM (aj aM (aj (ag 1) (aj (ag 2) ao))))) (aj (bS (aj aM (aj aM (aj (ag 1) (aj (ag 1) ao))))) ao)))))) bc)
   (ay (aK (bW (aj (bS (aj aM (aj aM (aj (ag 1) (aj (ag 2) ao))))) ao)))))))
abbrev rX:Stmt:=top 29
theorem nE:bj ["row","from_right","stitches","deeds","hook","stitch"] ["row","from_right"] (aW rX):=⟨rfl,rfl,rfl,by decide +kernel,rfl,by decide +kernel,by decide +kernel⟩
def v8:DM Fl:=
  (ak (cJ 2 (fUn (ah (ae 0) (fC (.int 2)) gIx) mB))
  (ak (fIf (aw (ae 1)) (fS 2) aN)
  (ak (cJ 3 (bB ai))
  (ak (fun δ=>(cu (fIt (ae 2) cQ) (cY [4,5]) (cq 3 (aF 3 (af (ae 5) (af (ae 4) (af (ah (ae 0) (fC (.int 1)) gIx) ai))) jO))) (frz 2 δ))
  (aD (ae 3))))))
def iV:List D->Ro:=bz v8 6
theorem Bl {f:Addr} {fd:FuncData} (F:Fun K "worked_deeds" "worked_deeds" rX f fd) (T:Txt K mg) {C:Addr} (TB:aX K C) (F_stitch_deeds:aQ P w K mg base 1 "stitch_deeds" 3 jO):aR P w K mg base CX0 2 f fd ["row","from_right"] (spP K (fun _=>.none) 2 iV):=
 fnP F nE fun cdv A outer s H E hr=>
   (ar (d6 2 nE.nd (HA (aT (ag 0) au) rfl T.b_list T.b_enumerate))
   (ar (aY (cm (ag 1)) (ay (nv 2)) bc)
   (ar (d6 3 nE.nd (bW ao))
   (ar (l7 2 (cX PassesOwn.never rfl (eO (ag 2)) (mC nE.nd) (ay (il 3 (bp F_stitch_deeds (hr.mono (by decide)) (aj (ag 5) (aj (ag 4) (aj (aT (ag 0) au) ao))))))))
   (ay (aK (ag 3)))))))
abbrev rm:Stmt:=top 23
theorem lg:bj ["pattern","cast","deeds","from_right","row"] ["pattern"] (aW rm):=⟨rfl,rfl,rfl,by decide +kernel,rfl,by decide +kernel,by decide +kernel⟩
def yW:DM Fl:=
  (ak (eR (aF 1 (af (ae 0) ai) iW))
  (ak (aG 1 (ah (ae 0) (fC (.int 0)) gIx))
  (ak (cJ 2 (fLC (dU (af (ah (ae 1) (fC (.int 1)) gIx) ai)) (bo 0) (.ret true) (br (af (fC (.str "tuck")) (af (fC (.str "f")) (af (ae 0) (af (ah (ae 1) (fC (.int 2)) gIx) ai))))) [none,some 1]))
  (ak (aG 3 (fC (.bl true)))
  (ak (cu (fIt (eT (ae 0) (cV (fC (.int 1))) lA) cQ) (bo 4) (ak (cq 2 (aF 1 (af (ah (ae 4) (fC (.int 2)) gIx) ai) iQ))
  (ak (cq 2 (aF 1 (af (ah (ae 4) (fC (.int 2)) gIx) ai) i7))
  (ak (cq 2 (aF 2 (af (ae 4) (af (ae 3) ai)) iV))
  (aG 3 (gf (ae 3)))))))
  (aD (ae 2)))))))
def jK:List D->Ro:=bz yW 5
theorem Dh {f:Addr} {fd:FuncData} (F:Fun K "made" "made" rm f fd) (T:Txt K mg) {C:Addr} (TB:aX K C) (F_need_good:aQ P w K mg base 4 "need_good" 1 iW) (F_joining_moves:aQ P w K mg base 3 "joining_moves" 1 iQ) (F_placing_moves:aQ P w K mg base 3 "placing_moves" 1 i7) (F_worked_deeds:aQ P w K mg base 2 "worked_deeds" 2 iV):aR P w K mg base CX0 5 f fd ["pattern"] (spP K (fun _=>.none) 1 jK):=
 fnP F lg fun cdv A outer s H E hr=>
   (ar (km (bp F_need_good (hr.mono (by decide)) (aj (ag 0) ao)))
   (ar (ba 1 lg.nd (aT (ag 0) au))
   (ar (yO 2 lg.nd (N:=["hook","cast"]) (sel:=[none,some 1]) ⟨rfl,rfl,rfl,rfl,rfl,rfl⟩ rfl (gW T.b_range (aj (aT (ag 1) au) ao)) (fun _=>cO Fi) (fun _=>gc) (fun _=>(bS (aj aM (aj aM (aj (ag 0) (aj (aT (ag 1) au) ao)))))))
   (ar (ba 3 lg.nd dC)
   (ar (cX PassesOwn.never rfl (eO (kQ (ag 0) (ij au) pd)) (cO lg.nd) (ar (il 2 (bp F_joining_moves (hr.mono (by decide)) (aj (aT (ag 4) au) ao)))
   (ar (il 2 (bp F_placing_moves (hr.mono (by decide)) (aj (aT (ag 4) au) ao)))
   (ar (il 2 (bp F_worked_deeds (hr.mono (by decide)) (aj (ag 4) (aj (ag 3) ao))))
   (ay (ba 3 lg.nd (oZ (ag 3))))))))
   (ay (aK (ag 2))))))))
abbrev ri:Stmt:=inClass (top 36) 0
theorem A9:bj ["self"] ["self"] (aW ri):=⟨rfl,rfl,rfl,by decide +kernel,rfl,by decide +kernel,by decide +kernel⟩
theorem Ax {f C:Addr} {fd:FuncData} (F:Fun K "__init__" "Bed.__init__" ri f fd) (TB:aX K C):aR P w K mg base CX0 1 f fd ["self"] (wR C):=by
 refine F.ok A9 (fun vs H Q E h=>?_) (fun cdv A outer s H vs Q E hr h=>?_)
 ·obtain ⟨p,dx,rfl,_⟩:=h
  rfl
 ·obtain ⟨p,dx,rfl,hp,k⟩:=h
  exact ⟨_,pJ (qW (pv 0) zZ rfl) (pJ (qW (pv 0) (pA fU) rfl) (uM (qW (pv 0) (pA fU) rfl))),CJ TB hp k⟩
abbrev rg:Stmt:=top 43
theorem AG:bj ["found"] ["found"] (aW rg):=⟨rfl,rfl,rfl,by decide +kernel,rfl,by decide +kernel,by decide +kernel⟩
def vk:DM Fl:=
  (aD (ft (fUn (ae 0) (gIs "int")) (gf (fUn (ae 0) (gIs "bool")))))
def fK:List D->Ro:=bz vk 1
theorem CD {f:Addr} {fd:FuncData} (F:Fun K "_law_whole" "_law_whole" rg f fd) (T:Txt K mg) {C:Addr} (TB:aX K C) :aR P w K mg base CX0 1 f fd ["found"] (spP K (fun _=>.none) 1 fK):=
 fnP F AG fun cdv A outer s H E hr=>
   (ay (aK (nT (fk T.b_isinstance T.b_int Ad (ag 0)) (oq (oZ (fk T.b_isinstance T.b_bool C8 (ag 0)))))))
abbrev qc:Stmt:=top 55
theorem uO:bj ["found","due","k"] ["found","due"] (aW qc):=⟨rfl,rfl,rfl,by decide +kernel,rfl,by decide +kernel,by decide +kernel⟩
def zx:DM Fl:=
  (ak (fIf (bM (b9 (aw (fUn (ae 0) (gIs "list")))) (aw (ah (fCB (af (ae 0) ai) bq) (fCB (af (ae 1) ai) bq) gNe))) (aD (fC (.bl false))) aN)
  (ak (cu (dU (af (fCB (af (ae 1) ai) bq) ai)) (bo 2) (fIf (bM (b9 (aw (aF 1 (af (ah (ae 0) (ae 2) gIx) ai) fK))) (aw (ah (ah (ae 0) (ae 2) gIx) (ah (ae 1) (ae 2) gIx) gNe))) (aD (fC (.bl false))) aN))
  (aD (fC (.bl true)))))
def gk:List D->Ro:=bz zx 3
theorem GL {f:Addr} {fd:FuncData} (F:Fun K "_law_alike_hook" "_law_alike_hook" qc f fd) (T:Txt K mg) {C:Addr} (TB:aX K C) (F_whole:aQ P w K mg base 1 "_law_whole" 1 fK):aR P w K mg base CX0 2 f fd ["found","due"] (spP K (fun _=>.none) 2 gk):=
 fnP F uO fun cdv A outer s H E hr=>
   (ar (aY (c6 (dw (cU (cm (fk T.b_isinstance T.b_list gB (ag 0)))) (d4 (aZ (fm hr.units) (bJ cx T.b_len cw (aj (ag 0) ao)) (bJ cx T.b_len cw (aj (ag 1) ao)) (aU _))))) (ay (aK dC)) bc)
   (ar (cX PassesOwn.never rfl (gW T.b_range (aj (bJ cx T.b_len cw (aj (ag 1) ao)) ao)) (cO uO.nd) (ay (aY (c6 (dw (cU (cm (bp F_whole (hr.mono (by decide)) (aj (aT (ag 0) (ag 2)) ao)))) (d4 (aZ (fm hr.units) (aT (ag 0) (ag 2)) (aT (ag 1) (ag 2)) (aU _))))) (ay (aK dC)) bc)))
   (ay (aK dC))))
abbrev sC:Stmt:=inClass (top 36) 9
theorem D5:bj ["self","spot"] ["self","spot"] (aW sC):=⟨rfl,rfl,rfl,by decide +kernel,rfl,by decide +kernel,by decide +kernel⟩
def sZ:DM Fl:=
  (aD (lQ 0 (ae 1)))
def cR:List D->Ro:=bz sZ 2
theorem BX {f:Addr} {fd:FuncData} (F:Fun K "loops_at" "Bed.loops_at" sC f fd) (T:Txt K mg) {C:Addr} (TB:aX K C) :aR P w K mg base CX0 1 f fd ["self","spot"] (spP K (fun _=>.none) 2 cR):=
 fnP F D5 fun cdv A outer s H E hr=>
   (ay (aK (E7 0 TB (l6 hr) (ag 1))))
abbrev rj:Stmt:=inClass (top 36) 3
theorem Eh:bj ["self","row","hook"] ["self","row","hook"] (aW rj):=⟨rfl,rfl,rfl,by decide +kernel,rfl,by decide +kernel,by decide +kernel⟩
def ye:DM Fl:=
  (aD (fCB (af (bI 0 2 (af (ic (af (ae 1) (af (ae 2) ai))) ai) cR) ai) fW))
def eU:List D->Ro:=bz ye 3
theorem Em {f:Addr} {fd:FuncData} (F:Fun K "hook" "Bed.hook" rj f fd) (T:Txt K mg) {C:Addr} (TB:aX K C) (F_Bed_loops_at:MethP P w K mg base C 1 "loops_at" 2 cR):aR P w K mg base CX0 2 f fd ["self","row","hook"] (spP K (fun _=>.none) 3 eU):=
 fnP F Eh fun cdv A outer s H E hr=>
   (ay (aK (kS lD T.b_list gB (aj (iZ 0 TB F_Bed_loops_at (hr.mono (by decide)) (aj (mj (aj (ag 1) (aj (ag 2) ao))) ao)) ao))))
abbrev pj:Stmt:=top 57
theorem mU:bj ["bed","live","at","due"] ["bed","live"] (aW pj):=⟨rfl,rfl,rfl,by decide +kernel,rfl,by decide +kernel,by decide +kernel⟩
def wu:DM Fl:=
  (ak (cu (dU (af (fC (.int 16)) ai)) (bo 2) (ak (aG 3 (bB ai))
  (ak (fIf (aw (ah (ae 2) (fCB (af (ae 1) ai) bq) (bg lt))) (aG 3 (ah (ae 1) (ae 2) gIx)) aN)
  (fIf (bM (b9 (aw (aF 2 (af (bI 0 3 (af (fC (.str "f")) (af (ae 2) ai)) eU) (af (ae 3) ai)) gk))) (b9 (aw (aF 2 (af (bI 0 3 (af (fC (.str "b")) (af (ae 2) ai)) eU) (af (bB ai) ai)) gk)))) (aD (fC (.bl false))) aN))))
  (aD (fC (.bl true))))
def eZ:List D->Ro:=bz wu 4
theorem Du {f:Addr} {fd:FuncData} (F:Fun K "_law_bears" "_law_bears" pj f fd) (T:Txt K mg) {C:Addr} (TB:aX K C) (F_alike_hook:aQ P w K mg base 2 "_law_alike_hook" 2 gk) (F_Bed_hook:MethP P w K mg base C 2 "hook" 3 eU):aR P w K mg base CX0 3 f fd ["bed","live"] (spP K (fun _=>.none) 2 eZ):=
 fnP F mU fun cdv A outer s H E hr=>
   (ar (cX PassesOwn.never rfl (gW T.b_range (aj au ao)) (cO mU.nd) (ar (ba 3 mU.nd (bW ao))
   (ar (aY (aZ gz (ag 2) (bJ cx T.b_len cw (aj (ag 1) ao)) (aU _)) (ay (ba 3 mU.nd (aT (ag 1) (ag 2)))) bc)
   (ay (aY (c6 (dw (cU (cm (bp F_alike_hook (hr.mono (by decide)) (aj (iZ 0 TB F_Bed_hook (hr.mono (by decide)) (aj aM (aj (ag 2) ao))) (aj (ag 3) ao))))) (d4 (cU (cm (bp F_alike_hook (hr.mono (by decide)) (aj (iZ 0 TB F_Bed_hook (hr.mono (by decide)) (aj aM (aj (ag 2) ao))) (aj (bW ao) ao)))))))) (ay (aK dC)) bc)))))
   (ay (aK dC)))
abbrev qi:Stmt:=inClass (top 36) 10
theorem Dc:bj ["self","deed","spots"] ["self","deed","spots"] (aW qi):=⟨rfl,rfl,rfl,by decide +kernel,rfl,by decide +kernel,by decide +kernel⟩
def wI:DM Fl:=
  (mm 0 (br (af (ae 1) (af (kb 0 (fLC (fIt (ae 2) cQ) (bo 0) (.ret true) (br (af (ae 0) (af (bI 1 2 (af (ae 0) ai) cR) ai))) [none,some 0])) ai))))
def dz:Bd->List D->Rw:=dA wI 3
theorem HK {f:Addr} {fd:FuncData} (F:Fun K "keep" "Bed.keep" qi f fd) (T:Txt K mg) {C:Addr} (TB:aX K C) (F_Bed_loops_at:MethP P w K mg base C 1 "loops_at" 2 cR):aR P w K mg base CX0 2 f fd ["self","deed","spots"] (spW K (fun _=>.none) 3 dz):=
 fnW F Dc fun cdv A outer s H E hr=>
   (ay (EI 0 TB (bS (aj (ag 1) (aj (IT 0 (kR (N:=["spot","self"]) (sel:=[none,some 0]) ⟨rfl,rfl,rfl,rfl,rfl,rfl⟩ rfl (eO (ag 2)) (fun _=>cO Cb) (fun _=>gc) (fun _=>(bS (aj (ag 0) (aj (iZ 1 TB F_Bed_loops_at (hr.mono (by decide)) (aj (ag 0) ao)) ao)))))) ao)))))
abbrev pB:Stmt:=inClass (top 36) 8
theorem lK:bj ["self","deed","source","goal","loops","together"] ["self","deed"] (aW pB):=⟨rfl,rfl,rfl,by decide +kernel,rfl,by decide +kernel,by decide +kernel⟩
def xU:DM Fl:=
  (ak (aG 2 (ic (af (ah (ae 1) (fC (.int 1)) gIx) (af (ah (ae 1) (fC (.int 2)) gIx) ai))))
  (ak (aG 3 (ic (af (fUn (ah (ae 1) (fC (.int 1)) gIx) (iS m9)) (af (ah (ae 1) (fC (.int 3)) gIx) ai))))
  (ak (fIf (aw (ah (fCB (af (ah (ah (ae 1) (fC (.int 2)) gIx) (ah (ae 1) (fC (.int 3)) gIx) eC) ai) sE) (fC uo) (bg gt))) jZ aN)
  (ak (aG 4 (bI 0 2 (af (ae 2) ai) cR))
  (ak (fIf (b9 (mE (ae 4))) jZ aN)
  (ak (aG 5 (ah (bI 0 2 (af (ae 3) ai) cR) (ae 4) lb))
  (ak (fIf (aw (ah (fCB (af (ae 5) ai) bq) (fC qo) (bg gt))) jZ aN)
  (ak (eR (cn 0 3 (af (ae 1) (af (bB (af (ae 2) (af (ae 3) ai))) ai)) dz))
  (ak (jJ 0 (br ai) (ae 2))
  (ak (jJ 0 (ae 5) (ae 3))
  (aD (fC .non))))))))))))
def jS:Bd->List D->Rw:=dA xU 6
theorem Bj {f:Addr} {fd:FuncData} (F:Fun K "move" "Bed.move" pB f fd) (T:Txt K mg) {C:Addr} (TB:aX K C) (F_Bed_loops_at:MethP P w K mg base C 1 "loops_at" 2 cR) (F_Bed_keep:MethW P w K mg base C 2 "keep" 3 dz):aR P w K mg base CX0 3 f fd ["self","deed"] (spW K (fun _=>.none) 2 jS):=
 fnW F lK fun cdv A outer s H E hr=>
   (ar (ba 2 lK.nd (mj (aj (aT (ag 1) au) (aj (aT (ag 1) au) ao))))
   (ar (ba 3 lK.nd (mj (aj (zO T.g_ACROSS (aT (ag 1) au)) (aj (aT (ag 1) au) ao))))
   (ar (aY (aZ cmp_gt (bJ Dx T.b_abs C5 (aj (aJ gH (aT (ag 1) au) (aT (ag 1) au)) ao)) (iH T.g_FARTHEST_bed) (aU _)) (ay kY) bc)
   (ar (ba 4 lK.nd (iZ 0 TB F_Bed_loops_at (hr.mono (by decide)) (aj (ag 2) ao)))
   (ar (aY (cU (u0 (ag 4))) (ay kY) bc)
   (ar (ba 5 lK.nd (aJ t7 (iZ 0 TB F_Bed_loops_at (hr.mono (by decide)) (aj (ag 3) ao)) (ag 4)))
   (ar (aY (aZ cmp_gt (bJ cx T.b_len cw (aj (ag 5) ao)) (iH T.g_MOST_BORNE) (aU _)) (ay kY) bc)
   (ar (km (ie 0 TB F_Bed_keep (hr.mono (by decide)) (aj (ag 1) (aj (bW (aj (ag 2) (aj (ag 3) ao))) ao))))
   (ar (om 0 TB (l6 hr) (bS ao) (ag 2))
   (ar (om 0 TB (l6 hr) (ag 5) (ag 3))
   (ay (aK pE))))))))))))
abbrev o6:Stmt:=inClass (top 36) 11
theorem HW:bj ["self","yarn","way","held"] ["self","yarn","way","held"] (aW o6):=⟨rfl,rfl,rfl,by decide +kernel,rfl,by decide +kernel,by decide +kernel⟩
def xo:DM Fl:=
  (ak (l0 0 (br (af (ae 1) (af (ae 2) (af (ae 3) ai)))))
  (aD (ah (fCB (af (gC 0 1) ai) bq) (fC (.int 1)) eC)))
def fz:Bd->List D->Rw:=dA xo 4
theorem CB {f:Addr} {fd:FuncData} (F:Fun K "new_loop" "Bed.new_loop" o6 f fd) (T:Txt K mg) {C:Addr} (TB:aX K C) :aR P w K mg base CX0 1 f fd ["self","yarn","way","held"] (spW K (fun _=>.none) 4 fz):=
 fnW F HW fun cdv A outer s H E hr=>
   (ar (Aa 0 TB (bS (aj (ag 1) (aj (ag 2) (aj (ag 3) ao)))))
   (ay (aK (aJ gH (bJ cx T.b_len cw (aj (uY 0 TB) ao)) au))))
abbrev rD:Stmt:=inClass (top 36) 6
theorem nI:bj ["self","deed","spot","loops","number"] ["self","deed"] (aW rD):=⟨rfl,rfl,rfl,by decide +kernel,rfl,by decide +kernel,by decide +kernel⟩
def yK:DM Fl:=
  (ak (aG 2 (ic (af (ah (ae 1) (fC (.int 1)) gIx) (af (ah (ae 1) (fC (.int 2)) gIx) ai))))
  (ak (aG 3 (bI 0 2 (af (ae 2) ai) cR))
  (ak (fIf (b9 (mE (ae 3))) jZ aN)
  (ak (eR (cn 0 3 (af (ae 1) (af (bB (af (ae 2) ai)) ai)) dz))
  (ak (aG 4 (cn 0 4 (af (ah (ae 1) (fC (.int 3)) gIx) (af (fUn (ah (ae 1) (fC (.int 1)) gIx) (iS kz)) (af (ae 3) ai))) fz))
  (ak (jJ 0 (br (af (ae 4) ai)) (ae 2))
  (aD (ae 4))))))))
def jr:Bd->List D->Rw:=dA yK 5
theorem BP {f:Addr} {fd:FuncData} (F:Fun K "knit" "Bed.knit" rD f fd) (T:Txt K mg) {C:Addr} (TB:aX K C) (F_Bed_loops_at:MethP P w K mg base C 1 "loops_at" 2 cR) (F_Bed_keep:MethW P w K mg base C 2 "keep" 3 dz) (F_Bed_new_loop:MethW P w K mg base C 1 "new_loop" 4 fz):aR P w K mg base CX0 3 f fd ["self","deed"] (spW K (fun _=>.none) 2 jr):=
 fnW F nI fun cdv A outer s H E hr=>
   (ar (ba 2 nI.nd (mj (aj (aT (ag 1) au) (aj (aT (ag 1) au) ao))))
   (ar (ba 3 nI.nd (iZ 0 TB F_Bed_loops_at (hr.mono (by decide)) (aj (ag 2) ao)))
   (ar (aY (cU (u0 (ag 3))) (ay kY) bc)
   (ar (km (ie 0 TB F_Bed_keep (hr.mono (by decide)) (aj (ag 1) (aj (bW (aj (ag 2) ao)) ao))))
   (ar (ba 4 nI.nd (ie 0 TB F_Bed_new_loop (hr.mono (by decide)) (aj (aT (ag 1) au) (aj (zO T.g_WAYS (aT (ag 1) au)) (aj (ag 3) ao)))))
   (ar (om 0 TB (l6 hr) (bS (aj (ag 4) ao)) (ag 2))
   (ay (aK (ag 4)))))))))
abbrev qr:Stmt:=inClass (top 36) 7
theorem oA:bj ["self","deed","spot","loops","number"] ["self","deed"] (aW qr):=⟨rfl,rfl,rfl,by decide +kernel,rfl,by decide +kernel,by decide +kernel⟩
def xX:DM Fl:=
  (ak (aG 2 (ic (af (ah (ae 1) (fC (.int 1)) gIx) (af (ah (ae 1) (fC (.int 2)) gIx) ai))))
  (ak (aG 3 (bI 0 2 (af (ae 2) ai) cR))
  (ak (fIf (aw (ah (fCB (af (ae 3) ai) bq) (fC qo) (bg ge))) jZ aN)
  (ak (eR (cn 0 3 (af (ae 1) (af (bB (af (ae 2) ai)) ai)) dz))
  (ak (aG 4 (cn 0 4 (af (ah (ae 1) (fC (.int 3)) gIx) (af (fC (.str "t")) (af (br ai) ai))) fz))
  (ak (jJ 0 (ah (ae 3) (br (af (ae 4) ai)) lb) (ae 2))
  (aD (ae 4))))))))
def jx:Bd->List D->Rw:=dA xX 5
theorem Ju {f:Addr} {fd:FuncData} (F:Fun K "tuck" "Bed.tuck" qr f fd) (T:Txt K mg) {C:Addr} (TB:aX K C) (F_Bed_loops_at:MethP P w K mg base C 1 "loops_at" 2 cR) (F_Bed_keep:MethW P w K mg base C 2 "keep" 3 dz) (F_Bed_new_loop:MethW P w K mg base C 1 "new_loop" 4 fz):aR P w K mg base CX0 3 f fd ["self","deed"] (spW K (fun _=>.none) 2 jx):=
 fnW F oA fun cdv A outer s H E hr=>
   (ar (ba 2 oA.nd (mj (aj (aT (ag 1) au) (aj (aT (ag 1) au) ao))))
   (ar (ba 3 oA.nd (iZ 0 TB F_Bed_loops_at (hr.mono (by decide)) (aj (ag 2) ao)))
   (ar (aY (aZ DB (bJ cx T.b_len cw (aj (ag 3) ao)) (iH T.g_MOST_BORNE) (aU _)) (ay kY) bc)
   (ar (km (ie 0 TB F_Bed_keep (hr.mono (by decide)) (aj (ag 1) (aj (bW (aj (ag 2) ao)) ao))))
   (ar (ba 4 oA.nd (ie 0 TB F_Bed_new_loop (hr.mono (by decide)) (aj (aT (ag 1) au) (aj aM (aj (bS ao) ao)))))
   (ar (om 0 TB (l6 hr) (aJ t7 (ag 3) (bS (aj (ag 4) ao))) (ag 2))
   (ay (aK (ag 4)))))))))
abbrev oS:Stmt:=inClass (top 36) 1
theorem JL:bj ["self","deed"] ["self","deed"] (aW oS):=⟨rfl,rfl,rfl,by decide +kernel,rfl,by decide +kernel,by decide +kernel⟩
def oB:DM Fl:=
  (ak (fIf (aw (ah (ah (ae 1) (fC (.int 0)) gIx) (fC (.str "knit")) gEq)) (aD (cn 0 2 (af (ae 1) ai) jr)) aN)
  (ak (fIf (aw (ah (ah (ae 1) (fC (.int 0)) gIx) (fC (.str "tuck")) gEq)) (aD (cn 0 2 (af (ae 1) ai) jx)) aN)
  (aD (cn 0 2 (af (ae 1) ai) jS))))
def eV:Bd->List D->Rw:=dA oB 2
theorem Iv {f:Addr} {fd:FuncData} (F:Fun K "act" "Bed.act" oS f fd) (T:Txt K mg) {C:Addr} (TB:aX K C) (F_Bed_move:MethW P w K mg base C 3 "move" 2 jS) (F_Bed_knit:MethW P w K mg base C 3 "knit" 2 jr) (F_Bed_tuck:MethW P w K mg base C 3 "tuck" 2 jx):aR P w K mg base CX0 4 f fd ["self","deed"] (spW K (fun _=>.none) 2 eV):=
 fnW F JL fun cdv A outer s H E hr=>
   (ar (aY (aZ (bK hr.units) (aT (ag 1) au) aM (aU _)) (ay (aK (ie 0 TB F_Bed_knit (hr.mono (by decide)) (aj (ag 1) ao)))) bc)
   (ar (aY (aZ (bK hr.units) (aT (ag 1) au) aM (aU _)) (ay (aK (ie 0 TB F_Bed_tuck (hr.mono (by decide)) (aj (ag 1) ao)))) bc)
   (ay (aK (ie 0 TB F_Bed_move (hr.mono (by decide)) (aj (ag 1) ao))))))
abbrev qA:Stmt:=top 56
theorem yw:bj ["bed","deeds","deed"] ["bed","deeds"] (aW qA):=⟨rfl,rfl,rfl,by decide +kernel,rfl,by decide +kernel,by decide +kernel⟩
def y9:DM Fl:=
  (ak (cu (fIt (ae 1) cQ) (bo 2) (eR (cn 0 2 (af (ae 2) ai) eV)))
  (aD (fC (.bl true))))
def jg:Bd->List D->Rw:=dA y9 3
theorem C9 {f:Addr} {fd:FuncData} (F:Fun K "_law_does" "_law_does" qA f fd) (T:Txt K mg) {C:Addr} (TB:aX K C) (F_Bed_act:MethW P w K mg base C 4 "act" 2 eV):aR P w K mg base CX0 5 f fd ["bed","deeds"] (spW K (fun _=>.none) 2 jg):=
 fnW F yw fun cdv A outer s H E hr=>
   (ar (cX PassesOwn.never rfl (eO (ag 1)) (cO yw.nd) (ay (Fm (ay (km (ie 0 TB F_Bed_act (hr.mono (by decide)) (aj (ag 2) ao)))))))
   (ay (aK dC)))
abbrev qb:Stmt:=inClass (top 36) 4
theorem Jv:bj ["self"] ["self"] (aW qb):=⟨rfl,rfl,rfl,by decide +kernel,rfl,by decide +kernel,by decide +kernel⟩
def yA:DM Fl:=
  (aD (fCB (af (gC 0 1) ai) fW))
def fG:List D->Ro:=bz yA 1
theorem Ed {f:Addr} {fd:FuncData} (F:Fun K "cloth" "Bed.cloth" qb f fd) (T:Txt K mg) {C:Addr} (TB:aX K C) :aR P w K mg base CX0 1 f fd ["self"] (spP K (fun _=>.none) 1 fG):=
 fnP F Jv fun cdv A outer s H E hr=>
   (ay (aK (kS lD T.b_list gB (aj (uY 0 TB) ao))))
abbrev pG:Stmt:=top 53
theorem Es:bj ["found"] ["found"] (aW pG):=⟨rfl,rfl,rfl,by decide +kernel,rfl,by decide +kernel,by decide +kernel⟩
def vW:DM Fl:=
  (ak (fIf (bM (b9 (aw (fUn (ae 0) (gIs "tuple")))) (aw (ah (fCB (af (ae 0) ai) bq) (fC (.int 3)) gNe))) (aD (fC (.bl false))) aN)
  (ak (fIf (bM (b9 (aw (fUn (ah (ae 0) (fC (.int 0)) gIx) (gIs "str")))) (bM (b9 (aw (fUn (ah (ae 0) (fC (.int 1)) gIx) (gIs "str")))) (b9 (aw (fUn (ah (ae 0) (fC (.int 2)) gIx) (gIs "tuple")))))) (aD (fC (.bl false))) aN)
  (aD (fCB (af (fLC (fIt (ah (ae 0) (fC (.int 2)) gIx) oM) (bo 0) (.ret true) (aF 1 (af (ae 0) ai) fK) [none]) ai) nq))))
def jo:List D->Ro:=bz vW 1
theorem Ja {f:Addr} {fd:FuncData} (F:Fun K "_law_loop" "_law_loop" pG f fd) (T:Txt K mg) {C:Addr} (TB:aX K C) (F_whole:aQ P w K mg base 1 "_law_whole" 1 fK):aR P w K mg base CX0 2 f fd ["found"] (spP K (fun _=>.none) 1 jo):=
 fnP F Es fun cdv A outer s H E hr=>
   (ar (aY (c6 (dw (cU (cm (fk T.b_isinstance T.b_tuple n4 (ag 0)))) (d4 (aZ (fm hr.units) (bJ cx T.b_len cw (aj (ag 0) ao)) au (aU _))))) (ay (aK dC)) bc)
   (ar (aY (c6 (dw (cU (cm (fk T.b_isinstance T.b_str xK (aT (ag 0) au)))) (dw (cU (cm (fk T.b_isinstance T.b_str xK (aT (ag 0) au)))) (d4 (cU (cm (fk T.b_isinstance T.b_tuple n4 (aT (ag 0) au)))))))) (ay (aK dC)) bc)
   (ay (aK (bJ (Gg rfl) T.b_all E3 (aj (kR (N:=["held"]) (sel:=[none]) ⟨rfl,rfl,rfl,rfl,rfl,rfl⟩ rfl (JG (aT (ag 0) au)) (fun _=>cO Dk) (fun _=>gc) (fun _=>(bp F_whole (hr.mono (by decide)) (aj (ag 0) ao)))) ao))))))
abbrev pY:Stmt:=top 54
theorem xb:bj ["found","due","k"] ["found","due"] (aW pY):=⟨rfl,rfl,rfl,by decide +kernel,rfl,by decide +kernel,by decide +kernel⟩
def vO:DM Fl:=
  (ak (fIf (bM (b9 (aw (fUn (ae 0) (gIs "list")))) (aw (ah (fCB (af (ae 0) ai) bq) (fCB (af (ae 1) ai) bq) gNe))) (aD (fC (.bl false))) aN)
  (ak (cu (dU (af (fCB (af (ae 1) ai) bq) ai)) (bo 2) (fIf (bM (b9 (aw (aF 1 (af (ah (ae 0) (ae 2) gIx) ai) jo))) (aw (ah (ah (ae 0) (ae 2) gIx) (ah (ae 1) (ae 2) gIx) gNe))) (aD (fC (.bl false))) aN))
  (aD (fC (.bl true)))))
def kF:List D->Ro:=bz vO 3
theorem I0 {f:Addr} {fd:FuncData} (F:Fun K "_law_alike_cloth" "_law_alike_cloth" pY f fd) (T:Txt K mg) {C:Addr} (TB:aX K C) (F_loop:aQ P w K mg base 2 "_law_loop" 1 jo):aR P w K mg base CX0 3 f fd ["found","due"] (spP K (fun _=>.none) 2 kF):=
 fnP F xb fun cdv A outer s H E hr=>
   (ar (aY (c6 (dw (cU (cm (fk T.b_isinstance T.b_list gB (ag 0)))) (d4 (aZ (fm hr.units) (bJ cx T.b_len cw (aj (ag 0) ao)) (bJ cx T.b_len cw (aj (ag 1) ao)) (aU _))))) (ay (aK dC)) bc)
   (ar (cX PassesOwn.never rfl (gW T.b_range (aj (bJ cx T.b_len cw (aj (ag 1) ao)) ao)) (cO xb.nd) (ay (aY (c6 (dw (cU (cm (bp F_loop (hr.mono (by decide)) (aj (aT (ag 0) (ag 2)) ao)))) (d4 (aZ (fm hr.units) (aT (ag 0) (ag 2)) (aT (ag 1) (ag 2)) (aU _))))) (ay (aK dC)) bc)))
   (ay (aK dC))))
abbrev oV:Stmt:=inClass (top 36) 5
theorem Hl:bj ["self"] ["self"] (aW oV):=⟨rfl,rfl,rfl,by decide +kernel,rfl,by decide +kernel,by decide +kernel⟩
def uU:DM Fl:=
  (aD (fLC (fIt (gC 0 2) cQ) (bo 0) (.ret true) (ah (ae 0) (fC (.int 0)) gIx) [none]))
def iI:List D->Ro:=bz uU 1
theorem Et {f:Addr} {fd:FuncData} (F:Fun K "done" "Bed.done" oV f fd) (T:Txt K mg) {C:Addr} (TB:aX K C) :aR P w K mg base CX0 1 f fd ["self"] (spP K (fun _=>.none) 1 iI):=
 fnP F Hl fun cdv A outer s H E hr=>
   (ay (aK (kR (N:=["step"]) (sel:=[none]) ⟨rfl,rfl,rfl,rfl,rfl,rfl⟩ rfl (eO (B5 0 TB)) (fun _=>cO Fu) (fun _=>gc) (fun _=>(aT (ag 0) au)))))
abbrev kZ:Stmt:=top 58
theorem kx:bj ["script","pattern","found","deeds","bed","second"] ["script"] (aW kZ):=⟨rfl,rfl,rfl,by decide +kernel,rfl,by decide +kernel,by decide +kernel⟩
def zy:DM Fl:=
  (ak (aG 1 (aF 1 (af (ae 0) ai) je))
  (ak (aG 2 (aF 1 (af (fCB (af (ae 1) ai) fW) ai) j1))
  (ak (aG 3 (aF 1 (af (fCB (af (ae 1) ai) fW) ai) jK))
  (ak (fIf (bM (b9 (aw (fUn (ae 2) (gIs "tuple")))) (bM (aw (ah (fCB (af (ae 2) ai) bq) (fC (.int 2)) gNe)) (b9 (aw (fUn (ah (ae 2) (fC (.int 0)) gIx) (gIs "list")))))) (aD (fC (.bl false))) aN)
  (ak (fIf (bM (b9 (aw (fUn (ah (ae 2) (fC (.int 1)) gIx) (gIs "list")))) (bM (b9 (aw (lI (fC (.int 1)) (fCB (af (ah (ae 2) (fC (.int 1)) gIx) ai) bq) (fC (.int 16)) (bg le) (bg le)))) (b9 (aw (fUn (ae 3) (gIs "list")))))) (aD (fC (.bl false))) aN)
  (ak (rO 4)
  (ak (rO 5)
  (ak (fIf (bM (b9 (aw (cn 4 2 (af (ae 3) ai) jg))) (aw (ah (bI 5 1 ai fG) (bB ai) gNe))) (aD (fC (.bl false))) aN)
  (ak (fIf (bM (b9 (aw (aF 2 (af (bI 4 1 ai fG) (af (ah (ae 2) (fC (.int 0)) gIx) ai)) kF))) (b9 (aw (bI 4 2 (af (ah (ae 2) (fC (.int 1)) gIx) ai) eZ)))) (aD (fC (.bl false))) aN)
  (aD (ft (bI 5 2 (af (bB ai) ai) eZ) (ah (bI 5 1 ai iI) (bB ai) gEq))))))))))))
def kL:List D->Ro:=bz zy 6
theorem CI {f:Addr} {fd:FuncData} (F:Fun K "law" "law" kZ f fd) (T:Txt K mg) {C:Addr} (TB:aX K C) (F_good:aQ P w K mg base 4 "_law_good" 1 je) (F_told:aQ P w K mg base 5 "told" 1 j1) (F_made:aQ P w K mg base 5 "made" 1 jK) (F_Bed:MkB P w K mg base C) (F_bears:aQ P w K mg base 3 "_law_bears" 2 eZ) (F_does:rR P w K mg base 5 "_law_does" 2 jg) (F_Bed_cloth:MethP P w K mg base C 1 "cloth" 1 fG) (F_alike_cloth:aQ P w K mg base 3 "_law_alike_cloth" 2 kF) (F_Bed_done:MethP P w K mg base C 1 "done" 1 iI):aR P w K mg base CX0 6 f fd ["script"] (spP K (fun _=>.none) 1 kL):=
 fnP F kx fun cdv A outer s H E hr=>
   (ar (ba 1 kx.nd (bp F_good (hr.mono (by decide)) (aj (ag 0) ao)))
   (ar (ba 2 kx.nd (bp F_told (hr.mono (by decide)) (aj (kS lD T.b_list gB (aj (ag 1) ao)) ao)))
   (ar (ba 3 kx.nd (bp F_made (hr.mono (by decide)) (aj (kS lD T.b_list gB (aj (ag 1) ao)) ao)))
   (ar (aY (c6 (dw (cU (cm (fk T.b_isinstance T.b_tuple n4 (ag 2)))) (dw (aZ (fm hr.units) (bJ cx T.b_len cw (aj (ag 2) ao)) au (aU _)) (d4 (cU (cm (fk T.b_isinstance T.b_list gB (aT (ag 2) au)))))))) (ay (aK dC)) bc)
   (ar (aY (c6 (dw (cU (cm (fk T.b_isinstance T.b_list gB (aT (ag 2) au)))) (dw (cU (FK rf rf au (bJ cx T.b_len cw (aj (aT (ag 2) au) ao)) au)) (d4 (cU (cm (fk T.b_isinstance T.b_list gB (ag 3)))))))) (ay (aK dC)) bc)
   (ar (v5 4 kx.nd TB F_Bed (hr.mono (by decide)))
   (ar (v5 5 kx.nd TB F_Bed (hr.mono (by decide)))
   (ar (aY (c6 (dw (cU (cm (BF 4 F_does (hr.mono (by decide)) (aj (ag 3) ao)))) (d4 (aZ (fm hr.units) (sd 5 TB F_Bed_cloth (hr.mono (by decide))) (bW ao) (aU _))))) (ay (aK dC)) bc)
   (ar (aY (c6 (dw (cU (cm (bp F_alike_cloth (hr.mono (by decide)) (aj (sd 4 TB F_Bed_cloth (hr.mono (by decide))) (aj (aT (ag 2) au) ao))))) (d4 (cU (cm (tw 4 F_bears (hr.mono (by decide)) (aj (aT (ag 2) au) ao))))))) (ay (aK dC)) bc)
   (ay (aK (nT (tw 5 F_bears (hr.mono (by decide)) (aj (bW ao) ao)) (oq (hX (bK hr.units) (sd 5 TB F_Bed_done (hr.mono (by decide))) (bW ao) (aU _)))))))))))))))
end
end Lw
set_option bootstrap.genMatcherCode true
local macro_rules | `(tactic| walk_at "ev1") => `(tactic| first
 | (with_reducible (first | exact DL.aH | exact DL.aE | exact DL.cC | exact DL.sO))
 | ((with_reducible apply DL.aq);rfl)
 | ((with_reducible apply DL.iR);rfl)
 | ((with_reducible change DL.res _ _=_);rfl)
 | ((with_reducible change DL.norm _=_);rfl)
 | ((with_reducible change DL.cL _=_);rfl)
 | ((with_reducible change DL.gw _ _=_);rfl)
 | (with_reducible (first | assumption))
 | ((with_reducible change DL.bP _ _ _ _=_);assumption)
 | ((with_reducible change DL.dF _ _ _ _=_);assumption)
 | ((with_reducible change DL.cv _ _ _ _ _ _=_);assumption)
 | (with_reducible (first | apply DL.aL | apply DL.av | apply DL.hW | apply DL.dX | apply DL.aB | apply DL.aI | exact DL.ma | exact DL.oz | apply DL.cf | apply DL.fX | apply DL.cW | apply DL.dh | apply DL.bx | apply DL.jq | apply DL.kT | apply DL.gh | apply DL.Ah))
 | ((with_reducible apply DL.tW);rfl)
 | ((with_reducible apply DL.gx);rfl)
 | (with_reducible (first | apply DL.fP | apply DL.bD | apply DL.IV | apply DL.DF | apply DL.Js))
 | ((with_reducible apply DL.dQ);first | with_reducible assumption | decide | with_unfolding_all rfl)
 | ((with_reducible apply DL.cy);first | with_reducible assumption | decide | with_unfolding_all rfl)
 | (with_reducible (first | apply DL.HR | apply DL.v9 | apply DL.sV | apply DL.xc | apply DL.eP))
 | ((with_reducible apply DL.jh);rfl)
 | (with_reducible (first | apply DL.fZ | apply DL.cG | apply DL.dR | exact DL.fD | exact DL.nL))
 | ((with_reducible apply DL.EV);rfl)
 | ((with_reducible change DL.fV _ _ _=_);rfl)
 | (with_reducible (first | exact DL.zK | exact DL.rK | exact DL.IH | exact DL.Gm | apply DL.AO | apply DL.Ck | exact DL.mQ | apply DL.CL | apply DL.GC | apply DL.uw | exact DL.nC | apply DL.EO | apply DL.ox | exact DL.lh | apply DL.kK | apply DL.eN | apply DL.Ef | apply DL.mX | exact DL.CM | exact DL.Ik | exact DL.Bx | exact DL.Ip | exact DL.yc))
 | rfl
 | ((with_reducible apply DL.EK) <;> omega)
 | ((with_reducible apply DL.iM) <;> omega)
 | exact Nat.le_of_ble_eq_true rfl
 | (unfold PySem.sizeLine;omega)
 | assumption)
local macro_rules | `(tactic| walk_at "ev") => `(tactic| repeat walk_at "ev1")
namespace Lw
open PySem L2 DL
def codes:List Nat:=[107,112,116,115,108,114,111]
def tkn (c:Nat):Nat:=if c=111 then 0 else if c=108\/c=114 then 2 else 1
def met (c:Nat) (cs:List Int):Int:=(cs.take (tkn c)).sum
def fits (c:Nat) (cs:List Int):Prop:=tkn c<=cs.length/\(c=116->met c cs < 4)/\(c=108\/c=114->met c cs<=4)
def cI (c:Nat) (cs:List Int):Int:=if c=115 then met c cs else if c=116 then met c cs + 1 else 1
def bE:List Nat->List Int->List Int->Prop
 | [],cs,r=>cs=r
 | c :: w,cs,r=>c∈codes/\fits c cs/\bE w (cs.drop (tkn c)) r
def outs:List Nat->List Int->List Int
 | [],_=>[]
 | c :: w,cs=>cI c cs :: outs w (cs.drop (tkn c))
theorem jk:∀ {u w:List Nat} {cs r q:List Int},bE u cs r->bE w r q->bE (u++w) cs q
 | [],_,_,_,_,h,h2=>by cases (show _=_ from h);exact h2
 | _ :: _,_,_,_,_,h,h2=>⟨h.1,h.2.1,jk h.2.2 h2⟩
theorem kO:∀ {w:List Nat} {cs r:List Int},bE w cs r->∀ c∈w,c∈codes
 | [],_,_,_,c,hc=>by cases hc
 | d :: w,_,_,h,c,hc=>by
  rcases List.mem_cons.mp hc with rfl | hc
  ·exact h.1
  ·exact kO h.2.2 c hc
theorem lX:∀ {w:List Nat} {cs r:List Int},bE w cs r->cs.length=(w.map tkn).sum + r.length
 | [],_,_,h=>by cases (show _=_ from h);simp
 | c :: w,cs,r,h=>by
  have:=lX h.2.2
  have h1:=h.2.1.1
  rw [List.length_drop] at this
  rw [List.map_cons,List.sum_cons]
  omega
theorem gX:∀ (w:List Nat) (cs:List Int),(outs w cs).length=w.length
 | [],_=>rfl
 | c :: w,cs=>by show (outs w _).length + 1=w.length + 1;rw [gX w]
def okC (cs:List Int):Prop:=∀ x∈cs,1<=x/\x<=4
theorem okC.drop {cs:List Int} (h:okC cs) (n:Nat):okC (cs.drop n):=fun x hx=>h x (List.mem_of_mem_drop hx)
theorem vt {c:Nat} {cs:List Int} (hc:c=115\/c=116) (hf:fits c cs) (hk:okC cs):1<=met c cs/\met c cs<=4:=by
 have ht:tkn c=1:=by rcases hc with rfl | rfl <;> rfl
 have h1:=hf.1
 rw [ht] at h1
 cases cs with
 | nil=>simp at h1
 | cons a r=>
  unfold met
  rw [ht]
  have:=hk a List.mem_cons_self
  simpa using this
theorem mS:∀ {w:List Nat} {cs r:List Int},bE w cs r->okC cs->okC (outs w cs)
 | [],_,_,_,_,x,hx=>by cases hx
 | c :: w,cs,r,h,hk,x,hx=>by
  rcases List.mem_cons.mp hx with rfl | hx
  ·unfold cI
   split
   ·rename_i hc;exact vt (.inl hc) h.2.1 hk
   ·split
    ·rename_i hc
     have h1:=vt (.inr hc) h.2.1 hk
     have h2:=h.2.1.2.1 hc
     omega
    ·omega
  ·exact mS h.2.2 (hk.drop _) x hx
def iD (cs:List Int):List D:=cs.map D.int
theorem d8 (cs:List Int):(iD cs).length=cs.length:=List.length_map _
theorem iE {cs:List Int} {i:Int} {c:Int} (h0:0<=i) (h:cs[i.toNat]?=some c):gIx (.lst (iD cs)) (.int i)=some (.val (.int c)):=
 og (sG h0 (by unfold iD;rw [List.getElem?_map,h];rfl))
theorem eL (cs:List Int):bq [.lst (iD cs)]=some (.val (.int (cs.length:Int))):=by
 show some (DV.val (.int _))=_
 rw [d8]
theorem uA:∀ cs:List Int,intsOf (iD cs)=some cs
 | []=>rfl
 | c :: cs=>by
  show (intsOf (iD cs)).map _=_
  rw [uA cs];rfl
abbrev ch (c:Nat):Str:=⟨#[c]⟩
theorem wb {cs:List Int} {a:Int} {c:Nat} (ha:0<=a) (hl:a.toNat + tkn c<=cs.length):gI (.lst (iD cs)) (some a) (some (a + (tkn c:Nat)))=some (.own (iD ((cs.drop a.toNat).take (tkn c)))):=by
 rw [lh]
 have e1:HT.sIx (iD cs).length 0 (some a)=a.toNat:=by
  have:=HT.jw (iD cs).length 0 a.toNat
  rw [Int.toNat_of_nonneg ha] at this
  rw [this,d8];omega
 have e2:HT.sIx (iD cs).length (iD cs).length (some (a + (tkn c:Nat)))=a.toNat + tkn c:=by
  have:=HT.jw (iD cs).length (iD cs).length (a.toNat + tkn c)
  have q:((a.toNat + tkn c:Nat):Int)=a + (tkn c:Nat):=by omega
  rw [q] at this
  rw [this,d8];omega
 unfold cutD
 rw [e1,e2,Nat.add_sub_cancel_left]
 unfold iD
 rw [<-List.map_drop,<-List.map_take]
theorem zk {cs:List Int} {a:Int} {c:Nat}:iq [.lst (iD ((cs.drop a.toNat).take (tkn c)))]=some (.val (.int (met c (cs.drop a.toNat)))):=by
 show (intsOf _).map _=_
 rw [uA];rfl
theorem yy {c:Nat} (h:c∈codes):iG gA (.str (ch c))=some (.val (.int (tkn c:Nat))):=by
 show (tabAt (ch c) gA).map _=_
 rw [(by decide +kernel:∀ c∈codes,tabAt (ch c) gA=some ((tkn c:Nat):Int)) c h];rfl
end Lw
namespace Lw
open PySem L2 DL
def gE:List Nat->Int->List D
 | [],_=>[]
 | c :: w,a=>.tup [.str (ch c),.int a,.int (a + (tkn c:Nat))] :: gE w (a + (tkn c:Nat))
def o8:DM Fl:=(ak (aG 4 (ah (ae 2) (fUn (ae 3) (iG gA)) aV))
  (ak (bR 1 (br (af (ae 3) (af (ae 2) (af (ae 4) ai)))))
  (aG 2 (ae 4))))
theorem xM (p:Sl):∀ (w:List Nat) (a:Int) (ds:List D) (b3 b4:Sl),(∀ c∈w,c∈codes)->ds.length + w.length<=1000->∃ x2 x3 x4,
  bP (bo 3) o8 (w.map fun c=>D.str (ch c)) [p,.ow ds,.sh (.int a),b3,b4]=.ok .nx [p,.ow (ds++gE w a),x2,x3,x4]
 | [],a,ds,b3,b4,_,_=>⟨.sh (.int a),b3,b4,by rw [List.map_nil,vS];show _=Rs.ok Fl.nx [p,.ow (ds++[]),_,_,_];rw [List.append_nil]⟩
 | c :: w,a,ds,b3,b4,hc,hl=>by
  rw [List.length_cons] at hl
  obtain ⟨x2,x3,x4,e⟩:=xM p w (a + (tkn c:Nat)) (ds++[.tup [.str (ch c),.int a,.int (a + (tkn c:Nat))]]) (.sh (.str (ch c))) (.sh (.int (a + (tkn c:Nat)))) (fun d hd=>hc d (List.mem_cons_of_mem _ hd)) (by rw [List.length_append,List.length_singleton];omega)
  refine ⟨x2,x3,x4,?_⟩
  rw [List.map_cons]
  refine dj rfl (δ2:=[p,.ow (ds++[.tup [.str (ch c),.int a,.int (a + (tkn c:Nat))]]),.sh (.int (a + (tkn c:Nat))),.sh (.str (ch c)),.sh (.int (a + (tkn c:Nat)))]) ?_ ?_
  ·have h1:=yy (hc c List.mem_cons_self)
   have h2:ds.length < sizeLine:=by unfold sizeLine;omega
   unfold o8
   apply Eq.trans
   walk_at "ev"
  ·rw [e,List.append_assoc];rfl
theorem lV {x:Str} (hc:∀ c∈x.cps.toList,c∈codes) (hl:x.length<=100):eA [.str x]=.own (gE x.cps.toList 0):=by
 have hl':x.cps.toList.length<=100:=by simpa [Str.length] using hl
 obtain ⟨x2,x3,x4,e⟩:=xM (.sh (.str x)) x.cps.toList 0 [] .no .no hc (by simp only [List.length_nil];omega)
 rw [List.nil_append] at e
 have g:gG (.str x)=some (x.cps.toList.map fun c=>D.str (ch c)):=rfl
 unfold o8 at e
 unfold eA yL
 apply cG
 walk_at "ev"
theorem vB:∀ w:List Nat,intsOf (w.map fun c=>D.int (tkn c:Nat))=some (w.map fun c=>((tkn c:Nat):Int))
 | []=>rfl
 | c :: w=>by
  show (intsOf (w.map fun c=>D.int (tkn c:Nat))).map _=_
  rw [vB w];rfl
theorem uf:∀ w:List Nat,(w.map fun c=>((tkn c:Nat):Int)).sum=(((w.map tkn).sum:Nat):Int)
 | []=>rfl
 | c :: w=>by
  rw [List.map_cons,List.sum_cons,uf w,List.map_cons,List.sum_cons];omega
theorem FJ {x:Str} (hc:∀ c∈x.cps.toList,c∈codes) (hl:x.length<=100):kC [.str x]=.ok (.int (((x.cps.toList.map tkn).sum:Nat):Int)):=by
 have hl':x.cps.toList.length<=100:=by simpa [Str.length] using hl
 have e:cv (bo 0) (.ret true) (fUn (ae 0) (iG gA)) (x.cps.toList.map fun c=>D.str (ch c)) [.no] []=some (x.cps.toList.map fun c=>D.int (tkn c:Nat)):=by
  rw [comp_map (g:=fun d=>match d with | .str y=>.int ((tkn (y.cps.getD 0 0):Nat):Int) | _=>.non) _ .no (by rw [List.length_map];unfold sizeLine;omega) ?_,List.map_map]
  ·rfl
  ·intro d hd
   obtain ⟨c,hc',rfl⟩:=List.mem_map.mp hd
   have h1:=yy (hc c hc')
   have h3:(fUn (ae 0) (iG gA)) [.sh (.str (ch c))]=.ok (.val (.int (tkn c:Nat))) [.sh (.str (ch c))]:=by walk_at "ev"
   unfold fN DM.bd
   rw [h3]
   rfl
 have g:gG (.str x)=some (x.cps.toList.map fun c=>D.str (ch c)):=rfl
 have s:iq [.lst (x.cps.toList.map fun c=>D.int (tkn c:Nat))]=some (.val (.int (((x.cps.toList.map tkn).sum:Nat):Int))):=by
  show (intsOf _).map _=_
  rw [vB]
  show some (DV.val (.int (List.sum _)))=_
  rw [uf]
 unfold kC yM
 walk_at "ev"
theorem eS (c d:Nat):gEq (.str (ch c)) (.str (ch d))=some (.val (.bl (decide (c=d)))):=by
 refine kK ?_
 show some (decide (ch c=ch d))=_
 congr 1
 by_cases h:c=d
 ·subst h;simp
 ·rw [decide_eq_false h,decide_eq_false]
  intro e
  exact h (by injection e with e;injection e with e;injection e)
theorem lW:Str.ofString "t"=ch 116:=by decide +kernel
theorem ju:Str.ofString "s"=ch 115:=by decide +kernel
theorem v7:Str.ofString "l"=ch 108:=by decide +kernel
theorem qh:Str.ofString "r"=ch 114:=by decide +kernel
theorem iA:Str.ofString "o"=ch 111:=by decide +kernel
theorem Co {c:Nat} {m:Int} (h1:c=116->m < 4) (h2:c=108\/c=114->m<=4):iY [.str (ch c),.int m]=.ok (.bl false):=by
 have e1:gEq (.str (ch c)) (.str (Str.ofString "t"))=some (.val (.bl (decide (c=116)))):=by rw [lW];exact eS c 116
 have e2:gIn (.str (ch c)) (.tup [.str (Str.ofString "l"),.str (Str.ofString "r")])=some (.val (.bl (decide (c=108\/c=114)))):=by
  show some (DV.val (.bl (ko (ch c) [Str.ofString "l",Str.ofString "r"])))=_
  rw [v7,qh]
  congr 3
  show (decide (ch 108=ch c)||(decide (ch 114=ch c)||false))=_
  have q:∀ a b:Nat,decide (ch a=ch b)=decide (b=a):=fun a b=>by
   by_cases h:b=a
   ·subst h;simp
   ·rw [decide_eq_false h,decide_eq_false]
    intro e
    exact h (by injection e with e;injection e with e;injection e with e;exact e.symm)
  rw [q,q]
  by_cases h:c=108 <;> by_cases h':c=114 <;> simp [h,h']
 by_cases ht:c=116
 ·have e3:decide (c=116)=true:=decide_eq_true ht
  have e4:gt (m + 1) 4=false:=decide_eq_false (by have:=h1 ht;omega)
  have e5:bg gt (.int (m + 1)) (.int 4)=some (.val (.bl false)):=by show some (DV.val (.bl (gt _ _)))=_;rw [e4]
  unfold iY qZ
  walk_at "ev"
 ·have e3:decide (c=116)=false:=decide_eq_false ht
  unfold iY qZ
  by_cases hl:c=108\/c=114
  ·have e4:decide (c=108\/c=114)=true:=decide_eq_true hl
   have e5:bg gt (.int m) (.int 4)=some (.val (.bl false)):=by show some (DV.val (.bl (gt _ _)))=_;rw [show gt m 4=false from decide_eq_false (by have:=h2 hl;omega)]
   walk_at "ev"
  ·have e4:decide (c=108\/c=114)=false:=decide_eq_false hl
   walk_at "ev"
theorem Ea {c:Nat} {cs:List Int}:jv [.str (ch c),.int (met c cs)]=.ok (.int (cI c cs)):=by
 have e1:gEq (.str (ch c)) (.str (Str.ofString "s"))=some (.val (.bl (decide (c=115)))):=by rw [ju];exact eS c 115
 have e2:gEq (.str (ch c)) (.str (Str.ofString "t"))=some (.val (.bl (decide (c=116)))):=by rw [lW];exact eS c 116
 unfold jv uQ cI
 by_cases h1:c=115
 ·have e3:decide (c=115)=true:=decide_eq_true h1
  rw [if_pos h1]
  walk_at "ev"
 ·have e3:decide (c=115)=false:=decide_eq_false h1
  rw [if_neg h1]
  by_cases h2:c=116
  ·have e4:decide (c=116)=true:=decide_eq_true h2
   rw [if_pos h2]
   walk_at "ev"
  ·have e4:decide (c=116)=false:=decide_eq_false h2
   rw [if_neg h2]
   walk_at "ev"
end Lw
namespace Lw
open PySem L2 DL
def qL:DM Fl:=(fIf (aw (aF 2 (af (ae 2) (af (fCB (af (eT (ae 1) (cV (ae 3)) (cV (ae 4))) ai) iq) ai)) iY)) (aD (fC (.str "many"))) aN)
theorem t8 (p:Sl) (cs:List Int):∀ (w:List Nat) (a:Int) (b2 b3 b4:Sl),0<=a->a.toNat<=cs.length->bE w (cs.drop a.toNat) []->∃ x2 x3 x4,
  bP (cY [2,3,4]) qL (gE w a) [p,.sh (.lst (iD cs)),b2,b3,b4]=.ok .nx [p,.sh (.lst (iD cs)),x2,x3,x4]
 | [],a,b2,b3,b4,_,_,_=>⟨b2,b3,b4,rfl⟩
 | c :: w,a,b2,b3,b4,ha,hl,h=>by
  obtain ⟨h1,h2,h3⟩:=h
  have hle:=h2.1
  rw [List.length_drop] at hle
  have e0:(a + (tkn c:Nat)).toNat=a.toNat + tkn c:=by omega
  rw [List.drop_drop,<-e0] at h3
  obtain ⟨x2,x3,x4,e⟩:=t8 p cs w (a + (tkn c:Nat)) (.sh (.str (ch c))) (.sh (.int a)) (.sh (.int (a + (tkn c:Nat)))) (by omega) (by omega) h3
  refine ⟨x2,x3,x4,dj (δ1:=[p,.sh (.lst (iD cs)),.sh (.str (ch c)),.sh (.int a),.sh (.int (a + (tkn c:Nat)))]) rfl ?_ e⟩
  have g1:=wb (cs:=cs) (c:=c) ha (by omega)
  have g2:=zk (cs:=cs) (a:=a) (c:=c)
  have g3:=Co h2.2.1 h2.2.2
  unfold qL
  walk_at "ev"
theorem E4 {x:Str} {cs:List Int} (hx:x.length<=16) (hl:cs.length<=100) (h:bE x.cps.toList cs []):jn [.str x,.lst (iD cs)]=.ok .non:=by
 have hc:=kO h
 have g1:bq [.str x]=some (.val (.int x.length)):=ox (by unfold sizeLine;omega)
 have g2:bg gt (.int x.length) (.int 16)=some (.val (.bl false)):=by
  show some (DV.val (.bl (gt _ _)))=_
  rw [show gt (x.length:Int) 16=false from decide_eq_false (by omega)]
 have g3:=FJ hc (by omega)
 have hn:=lX h
 rw [List.length_nil,Nat.add_zero] at hn
 rw [<-hn] at g3
 have g4:=eL cs
 have g5:gNe (.int (cs.length:Int)) (.int (cs.length:Int))=some (.val (.bl false)):=eN (fJ 8 _ rfl)
 have g6:=lV hc (by omega)
 obtain ⟨x2,x3,x4,e⟩:=t8 (.sh (.str x)) cs x.cps.toList 0 .no .no .no (by omega) (by simp) (by simpa using h)
 unfold qL at e
 unfold jn u5
 walk_at "ev"
def rC:DM Fl:=(bR 2 (aF 2 (af (ae 3) (af (fCB (af (eT (ae 1) (cV (ae 4)) (cV (ae 5))) ai) iq) ai)) jv))
theorem xT (p:Sl) (cs:List Int):∀ (w:List Nat) (a:Int) (ds:List Int) (b2 b3 b4:Sl),0<=a->a.toNat<=cs.length->bE w (cs.drop a.toNat) []->ds.length + w.length<=1000->∃ x2 x3 x4,
  bP (cY [3,4,5]) rC (gE w a) [p,.sh (.lst (iD cs)),.ow (iD ds),b2,b3,b4]=.ok .nx [p,.sh (.lst (iD cs)),.ow (iD (ds++outs w (cs.drop a.toNat))),x2,x3,x4]
 | [],a,ds,b2,b3,b4,_,_,_,_=>⟨b2,b3,b4,by show Rs.ok Fl.nx _=Rs.ok Fl.nx [p,_,.ow (iD (ds++[])),_,_,_];rw [List.append_nil]⟩
 | c :: w,a,ds,b2,b3,b4,ha,hl,h,hz=>by
  obtain ⟨h1,h2,h3⟩:=h
  have hle:=h2.1
  rw [List.length_drop] at hle
  rw [List.length_cons] at hz
  have e0:(a + (tkn c:Nat)).toNat=a.toNat + tkn c:=by omega
  rw [List.drop_drop,<-e0] at h3
  obtain ⟨x2,x3,x4,e⟩:=xT p cs w (a + (tkn c:Nat)) (ds++[cI c (cs.drop a.toNat)]) (.sh (.str (ch c))) (.sh (.int a)) (.sh (.int (a + (tkn c:Nat)))) (by omega) (by omega) h3 (by rw [List.length_append,List.length_singleton];omega)
  refine ⟨x2,x3,x4,dj (δ1:=[p,.sh (.lst (iD cs)),.ow (iD ds),.sh (.str (ch c)),.sh (.int a),.sh (.int (a + (tkn c:Nat)))]) rfl
   (δ2:=[p,.sh (.lst (iD cs)),.ow (iD (ds++[cI c (cs.drop a.toNat)])),.sh (.str (ch c)),.sh (.int a),.sh (.int (a + (tkn c:Nat)))]) ?_ ?_⟩
  ·have g1:=wb (cs:=cs) (c:=c) ha (by omega)
   have g2:=zk (cs:=cs) (a:=a) (c:=c)
   have g3:=Ea (c:=c) (cs:=cs.drop a.toNat)
   have g4:(iD ds).length < sizeLine:=by rw [d8];unfold sizeLine;omega
   have g5:iD (ds++[cI c (cs.drop a.toNat)])=iD ds++[.int (cI c (cs.drop a.toNat))]:=by unfold iD;rw [List.map_append];rfl
   rw [g5]
   unfold rC
   apply Eq.trans
   walk_at "ev"
  ·rw [e,List.append_assoc]
   show _=Rs.ok Fl.nx [p,_,.ow (iD (ds++(cI c (cs.drop a.toNat) :: outs w ((cs.drop a.toNat).drop (tkn c))))),_,_,_]
   rw [List.drop_drop,e0];rfl
theorem zV {x:Str} {cs:List Int} (hx:x.length<=16) (h:bE x.cps.toList cs []):jN [.str x,.lst (iD cs)]=.own (iD (outs x.cps.toList cs)):=by
 have hc:=kO h
 have hl:x.cps.toList.length<=16:=by simpa [Str.length] using hx
 have g6:=lV hc (by omega)
 obtain ⟨x2,x3,x4,e⟩:=xT (.sh (.str x)) cs x.cps.toList 0 [] .no .no .no (by omega) (by simp) (by simpa using h) (by simp only [List.length_nil];omega)
 have e1:iD ([]++outs x.cps.toList (cs.drop (0:Int).toNat))=iD (outs x.cps.toList cs):=by simp
 rw [e1] at e
 unfold rC at e
 unfold jN yU
 apply cG
 walk_at "ev"
abbrev bL (many:Int) (y:Str):D:=.tup [.str "cast",.int many,.str y]
abbrev aP (r:Str×Str):D:=.tup [.str "row",.str r.1,.str r.2]
def dI:List Int->List (Str×Str)->Prop
 | _,[]=>True
 | cs,r :: rs=>r.2.length<=16/\1<=r.2.length/\bE r.2.cps.toList cs []/\dI (outs r.2.cps.toList cs) rs
def pD:DM Fl:=(ak (aG 5 (ah (ae 4) (fC (.int 2)) gIx))
  (ak (aG 6 (aF 2 (af (ae 5) (af (ae 1) ai)) jn))
  (ak (fIf (aw (ah (ae 6) (fC .non) nr)) (aD (br (af (ae 6) (af (ae 3) ai)))) aN)
  (ak (aG 1 (aF 2 (af (ae 5) (af (ae 1) ai)) jN))
  (bR 2 (fCB (af (ae 1) ai) bq))))))
def wid (rs:List (Str×Str)):List Int:=rs.map fun r=>(r.2.length:Int)
theorem yp (p:Sl):∀ (rs:List (Str×Str)) (lo:Int) (cs ws:List Int) (b3 b4 b5 b6:Sl),dI cs rs->cs.length<=16->ws.length + rs.length<=1000->∃ x1 x3 x4 x5 x6,
  bP (cY [3,4]) pD (en lo (rs.map aP)) [p,.sh (.lst (iD cs)),.ow (iD ws),b3,b4,b5,b6]=.ok .nx [p,x1,.ow (iD (ws++wid rs)),x3,x4,x5,x6]
 | [],lo,cs,ws,b3,b4,b5,b6,_,_,_=>⟨_,b3,b4,b5,b6,by show Rs.ok Fl.nx _=Rs.ok Fl.nx [p,_,.ow (iD (ws++[])),_,_,_,_];rw [List.append_nil]⟩
 | r :: rs,lo,cs,ws,b3,b4,b5,b6,h,hl,hz=>by
  obtain ⟨h1,h2,h3,h4⟩:=h
  rw [List.length_cons] at hz
  have hol:=gX r.2.cps.toList cs
  have hrl:r.2.cps.toList.length=r.2.length:=by simp [Str.length]
  obtain ⟨x1,x3,x4,x5,x6,e⟩:=yp p rs (lo + 1) (outs r.2.cps.toList cs) (ws++[(r.2.length:Int)]) (.sh (.int lo)) (.sh (aP r)) (.sh (.str r.2)) (.sh .non) h4 (by omega) (by rw [List.length_append,List.length_singleton];omega)
  refine ⟨x1,x3,x4,x5,x6,dj (δ1:=[p,.sh (.lst (iD cs)),.ow (iD ws),.sh (.int lo),.sh (aP r),b5,b6]) rfl
   (δ2:=[p,.sh (.lst (iD (outs r.2.cps.toList cs))),.ow (iD (ws++[(r.2.length:Int)])),.sh (.int lo),.sh (aP r),.sh (.str r.2),.sh .non]) ?_ ?_⟩
  ·have g1:=E4 h1 (by omega) h3
   have g2:=zV h1 h3
   have g3:bq [.lst (iD (outs r.2.cps.toList cs))]=some (.val (.int (r.2.length:Int))):=by rw [eL,hol,hrl]
   have g4:(iD ws).length < sizeLine:=by rw [d8];unfold sizeLine;omega
   have g5:iD (ws++[(r.2.length:Int)])=iD ws++[.int (r.2.length:Int)]:=by unfold iD;rw [List.map_append];rfl
   rw [g5]
   unfold pD
   apply Eq.trans
   walk_at "ev"
  ·rw [e,List.append_assoc];rfl
theorem Il (n:Nat):(List.replicate n [D.int 1]).flatten=iD (List.replicate n 1):=by
 induction n with
 | zero=>rfl
 | succ n ih=>rw [List.replicate_succ,List.flatten_cons,ih,List.replicate_succ];rfl
theorem Cu {many:Int} {y:Str} {rs:List (Str×Str)} (h1:1<=many) (h2:many<=16) (hr:dI (List.replicate many.toNat 1) rs) (hn:rs.length<=20) :
  kU [.lst (bL many y :: rs.map aP)]=.ok (.tup [.str "good",.lst (iD (many :: wid rs))]):=by
 have g0:gIx (.lst (bL many y :: rs.map aP)) (.int 0)=some (.val (bL many y)):=nC
 have g1:bA (.lst [.int 1]) (.int many)=some (.own (iD (List.replicate many.toNat 1))):=by
  show (if f9 1 many then _ else _)=_
  rw [show f9 1 many=true by
   unfold f9
   rw [decide_eq_true (show -(2 ^ 62:Int)<=many by omega),decide_eq_true (show many < 2 ^ 62 by omega),decide_eq_true (show 1 * many.toNat<=sizeLine by unfold sizeLine;omega)];rfl]
  rw [if_pos rfl,Il]
 have g2:bq [.lst (iD (List.replicate many.toNat 1))]=some (.val (.int many)):=by
  rw [eL,List.length_replicate,Int.toNat_of_nonneg (by omega)]
 have g3:gI (.lst (bL many y :: rs.map aP)) (some 1) none=some (.own (rs.map aP)):=by
  rw [lh]
  unfold cutD
  have a1:HT.sIx (bL many y :: rs.map aP).length 0 (some 1)=1:=by
   have:=HT.jw (bL many y :: rs.map aP).length 0 1
   rw [List.length_cons] at this ⊢
   exact this.trans (by omega)
  rw [a1,HT.sj]
  show some (DV.own (List.take _ (rs.map aP)))=_
  rw [List.take_of_length_le (by rw [List.length_cons];omega)]
 obtain ⟨x1,x3,x4,x5,x6,e⟩:=yp (.sh (.lst (bL many y :: rs.map aP))) rs 1 (List.replicate many.toNat 1) [many] .no .no .no .no hr (by rw [List.length_replicate];omega) (by rw [List.length_singleton];omega)
 have g4:tM (.lst (rs.map aP))=some (en 1 (rs.map aP)):=rfl
 unfold pD at e
 unfold kU yv
 walk_at "ev"
end Lw
namespace Lw
open PySem L2 DL
theorem uz (z:Array Nat):∀ (n:Nat) (acc:Array Nat),((List.replicate n z).foldl (·++·) acc).toList=acc.toList++(List.replicate n z.toList).flatten
 | 0,acc=>by simp
 | n + 1,acc=>by rw [List.replicate_succ,List.foldl_cons,uz z n,Array.toList_append,List.replicate_succ,List.flatten_cons,List.append_assoc]
theorem mD (z:Str) (n:Int):(Txt.mul z n).cps.toList=(List.replicate n.toNat z.cps.toList).flatten:=by
 unfold Txt.mul
 split
 ·rename_i h
  rw [show n.toNat=0 by omega];rfl
 ·split
  ·rename_i h1 h2
   rcases Bool.or_eq_true_iff.mp h2 with h3 | h3
   ·have:n=1:=by simpa using h3
    subst this
    show _=(List.replicate 1 z.cps.toList).flatten
    simp
   ·have:z.cps.toList=[]:=by
     have:z.length=0:=by simpa using h3
     have h4:z.cps.toList.length=0:=by simpa [Str.length] using this
     exact List.eq_nil_of_length_eq_zero h4
    rw [this]
    have:∀ n:Nat,(List.replicate n ([]:List Nat)).flatten=[]:=fun n=>by
     induction n with
     | zero=>rfl
     | succ n ih=>rw [List.replicate_succ,List.flatten_cons,ih];rfl
    rw [this]
  ·have:=uz z.cps n.toNat #[]
   simpa using this
theorem nA (c:Nat):∀ n:Nat,(List.replicate n [c]).flatten=List.replicate n c
 | 0=>rfl
 | n + 1=>by rw [List.replicate_succ,List.flatten_cons,nA c n,List.replicate_succ];rfl
theorem me (z:Str) (n:Int):(Txt.mul z n).length=n.toNat * z.length:=by
 have e:(Txt.mul z n).length=(Txt.mul z n).cps.toList.length:=by simp [Str.length]
 rw [e,mD]
 have hz:z.cps.toList.length=z.length:=by simp [Str.length]
 rw [<-hz,List.length_flatten,List.map_replicate,List.sum_replicate_nat]
theorem hU {z:Str} {k:Int} (h1:-100<=k) (h2:k<=100) (h3:z.length<=100):bA (.str z) (.int k)=some (.val (.str (Txt.mul z k))):=by
 show (if f9 z.length k then _ else _)=_
 rw [show f9 z.length k=true by
  unfold f9
  have:z.length * k.toNat<=100 * 100:=Nat.mul_le_mul h3 (by omega)
  rw [decide_eq_true (show -(2 ^ 62:Int)<=k by omega),decide_eq_true (show k < 2 ^ 62 by omega),decide_eq_true (show z.length * k.toNat<=sizeLine by unfold sizeLine;omega)];rfl]
 rw [if_pos rfl]
theorem kA (a b:Str):(a++b).cps.toList=a.cps.toList++b.cps.toList:=by rw [Str.cps_append,Array.toList_append]
theorem ki {c:Nat} (hc:c=107\/c=112\/c=115):∀ {n:Nat} {cs r:List Int},cs.length=n + r.length->cs.drop n=r->bE (List.replicate n c) cs r
 | 0,cs,r,_,e=>(show cs=r by simpa using e)
 | n + 1,cs,r,h,e=>by
  have ht:tkn c=1:=by rcases hc with rfl | rfl | rfl <;> rfl
  refine ⟨by rcases hc with rfl | rfl | rfl <;> decide,⟨by rw [ht];omega,fun z=>?_,fun z=>?_⟩,?_⟩
  ·omega
  ·omega
  ·rw [ht]
   exact ki hc (by rw [List.length_drop];omega) (by rw [List.drop_drop,Nat.add_comm];exact e)
theorem ng:∀ (n:Nat) (cs:List Int),bE (List.replicate n 111) cs cs
 | 0,_=>rfl
 | n + 1,cs=>⟨by decide,⟨Nat.zero_le _,fun z=>absurd z (by decide),fun z=>absurd z (by decide)⟩,ng n cs⟩
theorem wU {c:Nat} (hc:c=108\/c=114):∀ {n:Nat} {cs r:List Int},cs.length=2 * n + r.length->cs.drop (2 * n)=r->(∀ k,k < n->∀ a b,cs[2 * k]?=some a->cs[2 * k + 1]?=some b->a + b<=4)->bE (List.replicate n c) cs r
 | 0,cs,r,_,e,_=>(show cs=r by simpa using e)
 | n + 1,cs,r,h,e,hp=>by
  have ht:tkn c=2:=by rcases hc with rfl | rfl <;> rfl
  match cs,h,e,hp with
  | a :: b :: q,h,e,hp=>
   have h0:=hp 0 (by omega) a b rfl rfl
   have hm:met c (a :: b :: q)=a + b:=by unfold met;rw [ht];show [a,b].sum=_;simp
   refine ⟨by rcases hc with rfl | rfl <;> decide,⟨by rw [ht];simp,fun z=>by omega,fun z=>by rw [hm];exact h0⟩,?_⟩
   rw [ht]
   show bE _ q r
   simp only [List.length_cons] at h
   refine wU hc (by omega) ?_ fun k hk x y hx hy=>hp (k + 1) (by omega) x y ?_ ?_
   ·rw [show 2 * (n + 1)=2 * n + 1 + 1 by omega] at e;exact e
   ·rw [show 2 * (k + 1)=2 * k + 1 + 1 by omega];exact hx
   ·rw [show 2 * (k + 1) + 1=2 * k + 1 + 1 + 1 by omega];exact hy
  | [a],h,_,_=>simp at h;omega
  | [],h,_,_=>simp at h;omega
def j6 (cs:List Int):List Nat:=cs.map fun c=>if c < 4 then 116 else 115
theorem pH:∀ cs:List Int,bE (j6 cs) cs []
 | []=>rfl
 | a :: r=>by
  show bE ((if a < 4 then 116 else 115) :: j6 r) (a :: r) []
  split
  ·rename_i h
   refine ⟨by decide,⟨by show 1<=_;simp,fun _=>?_,fun z=>absurd z (by decide)⟩,pH r⟩
   show [a].sum < 4
   simpa using h
  ·exact ⟨by decide,⟨by show 1<=_;simp,fun z=>absurd z (by decide),fun z=>absurd z (by decide)⟩,pH r⟩
theorem zm:∀ (m:Nat) {cs:List Int},m<=cs.length->bE (List.replicate m [111,107]).flatten cs (cs.drop m)
 | 0,_,_=>rfl
 | m + 1,cs,h=>by
  rw [List.replicate_succ,List.flatten_cons]
  refine ⟨by decide,⟨Nat.zero_le _,fun z=>absurd z (by decide),fun z=>absurd z (by decide)⟩,by decide,⟨by show 1<=_;show 1<=cs.length;omega,fun z=>absurd z (by decide),fun z=>absurd z (by decide)⟩,?_⟩
  show bE _ (cs.drop 1) _
  have:=zm m (cs:=cs.drop 1) (by rw [List.length_drop];omega)
  rwa [List.drop_drop,Nat.add_comm] at this
end Lw
namespace Lw
open PySem L2 DL
def bZ (ns:List Int) (k:Int):Int:=if k < ns.length then ns.getD k.toNat 0 else 0
theorem nF (ns:List Int) (k:Int) (hk:0<=k):fY [.scr ns,.int k]=.ok (.int (bZ ns k)):=by
 unfold fY sP bZ
 by_cases h:k < ns.length
 ·have e:gIx (.scr ns) (.int k)=some (.val (.int (ns.getD k.toNat 0))):=by
   show (atI ns k).map _=_
   unfold atI ixN
   rw [if_pos hk,if_pos h]
   have:k.toNat < ns.length:=by omega
   show (ns[k.toNat]?).map _=_
   rw [List.getD_eq_getElem?_getD,List.getElem?_eq_getElem this];rfl
  rw [if_pos h]
  have hb:lt k ns.length=true:=decide_eq_true h
  walk_at "ev"
 ·rw [if_neg h]
  have hb:lt k ns.length=false:=decide_eq_false h
  walk_at "ev"
def ek (c k:Int):Int:=
 let s1:=(c + 7919 * (k + 3)) % 2147483647
 let s2:=(s1 * s1 + 104729 * k + 5) % 2147483629
 s2 * s2 % 2147483587
theorem mI (c k:Int):dH [.int c,.int k]=.ok (.int (ek c k)):=by
 unfold dH ur ek
 walk_at "ev"
theorem yX {c:Nat} (h:c∈codes):gn [.str (ch c)]=.ok (.int ((tkn c:Nat):Int)):=by
 have:c=107\/c=112\/c=116\/c=115\/c=108\/c=114\/c=111:=by simpa [codes] using h
 rcases this with rfl | rfl | rfl | rfl | rfl | rfl | rfl <;> kernel_rfl
theorem yt {c:Nat} {cs:List Int} {a:Int} (ht:tkn c=1) (hf:fits c (cs.drop a.toNat)):cs[a.toNat]?=some (met c (cs.drop a.toNat)):=by
 have h1:=hf.1
 rw [ht,List.length_drop] at h1
 have hlt:a.toNat < cs.length:=by omega
 unfold met
 rw [ht,List.getElem?_eq_getElem hlt,List.drop_eq_getElem_cons hlt]
 show some cs[a.toNat]=some (List.sum [cs[a.toNat]])
 rw [List.sum_cons,List.sum_nil,Int.add_zero]
def bLB:DM Fl:=(ak (fIf (aw (ah (ae 4) (fC (.str "t")) gEq)) (bR 2 (ah (ah (ae 1) (ae 3) gIx) (fC (.int 1)) aV)) (fIf (aw (ah (ae 4) (fC (.str "s")) gEq)) (bR 2 (ah (ae 1) (ae 3) gIx)) (bR 2 (fC (.int 1)))))
  (aG 3 (ah (ae 3) (aF 1 (af (ae 4) ai) gn) aV)))
theorem C6 (p b4:Sl) (cs ds:List Int) (c:Nat) (a:Int) (ha:0<=a) (hc:c∈codes) (hf:fits c (cs.drop a.toNat)) (hd:ds.length<=1000) :
  bLB [p,.sh (.lst (iD cs)),.ow (iD ds),.sh (.int a),.sh (.str (ch c))]=.ok .nx [p,.sh (.lst (iD cs)),.ow (iD (ds++[cI c (cs.drop a.toNat)])),.sh (.int (a + (tkn c:Nat))),.sh (.str (ch c))]:=by
 have e1:gEq (.str (ch c)) (.str (Str.ofString "t"))=some (.val (.bl (decide (c=116)))):=by rw [lW];exact eS c 116
 have e2:gEq (.str (ch c)) (.str (Str.ofString "s"))=some (.val (.bl (decide (c=115)))):=by rw [ju];exact eS c 115
 have e3:=yX hc
 have g4:(iD ds).length < sizeLine:=by rw [d8];unfold sizeLine;omega
 have g5:iD (ds++[cI c (cs.drop a.toNat)])=iD ds++[.int (cI c (cs.drop a.toNat))]:=by unfold iD;rw [List.map_append];rfl
 rw [g5]
 unfold bLB
 by_cases h1:c=116
 ·have e4:decide (c=116)=true:=decide_eq_true h1
  have e5:=iE ha (yt (by rw [h1];rfl) hf)
  have e6:cI c (cs.drop a.toNat)=met c (cs.drop a.toNat) + 1:=by unfold cI;rw [if_neg (by omega),if_pos h1]
  rw [e6]
  apply Eq.trans
  walk_at "ev"
 ·have e4:decide (c=116)=false:=decide_eq_false h1
  by_cases h2:c=115
  ·have e7:decide (c=115)=true:=decide_eq_true h2
   have e5:=iE ha (yt (by rw [h2];rfl) hf)
   have e6:cI c (cs.drop a.toNat)=met c (cs.drop a.toNat):=by unfold cI;rw [if_pos h2]
   rw [e6]
   apply Eq.trans
   walk_at "ev"
  ·have e7:decide (c=115)=false:=decide_eq_false h2
   have e6:cI c (cs.drop a.toNat)=1:=by unfold cI;rw [if_neg h2,if_neg h1]
   rw [e6]
   apply Eq.trans
   walk_at "ev"
theorem yl (p:Sl) (cs:List Int):∀ (w:List Nat) (a:Int) (ds:List Int) (b4:Sl),0<=a->a.toNat<=cs.length->bE w (cs.drop a.toNat) []->ds.length + w.length<=1000->∃ x3 x4,
  bP (bo 4) bLB (w.map fun c=>D.str (ch c)) [p,.sh (.lst (iD cs)),.ow (iD ds),.sh (.int a),b4]=.ok .nx [p,.sh (.lst (iD cs)),.ow (iD (ds++outs w (cs.drop a.toNat))),x3,x4]
 | [],a,ds,b4,_,_,_,_=>⟨_,b4,by show Rs.ok Fl.nx _=Rs.ok Fl.nx [p,_,.ow (iD (ds++[])),_,_];rw [List.append_nil]⟩
 | c :: w,a,ds,b4,ha,hl,h,hz=>by
  obtain ⟨h1,h2,h3⟩:=h
  have hle:=h2.1
  rw [List.length_drop] at hle
  rw [List.length_cons] at hz
  have e0:(a + (tkn c:Nat)).toNat=a.toNat + tkn c:=by omega
  rw [List.drop_drop,<-e0] at h3
  obtain ⟨x3,x4,e⟩:=yl p cs w (a + (tkn c:Nat)) (ds++[cI c (cs.drop a.toNat)]) (.sh (.str (ch c))) (by omega) (by omega) h3 (by rw [List.length_append,List.length_singleton];omega)
  refine ⟨x3,x4,?_⟩
  rw [List.map_cons]
  refine dj rfl (C6 p b4 cs ds c a ha h1 h2 (by omega)) ?_
  rw [e,List.append_assoc]
  show _=Rs.ok Fl.nx [p,_,.ow (iD (ds++(cI c (cs.drop a.toNat) :: outs w ((cs.drop a.toNat).drop (tkn c))))),_,_]
  rw [List.drop_drop,e0];rfl
theorem FG {x:Str} {cs:List Int} (hx:x.length<=16) (h:bE x.cps.toList cs []):j4 [.str x,.lst (iD cs)]=.own (iD (outs x.cps.toList cs)):=by
 have hl:x.cps.toList.length<=16:=by simpa [Str.length] using hx
 obtain ⟨x3,x4,e⟩:=yl (.sh (.str x)) cs x.cps.toList 0 [] .no (by omega) (by simp) (by simpa using h) (by simp only [List.length_nil];omega)
 have e1:iD ([]++outs x.cps.toList (cs.drop (0:Int).toNat))=iD (outs x.cps.toList cs):=by simp
 rw [e1] at e
 have g:gG (.str x)=some (x.cps.toList.map fun c=>D.str (ch c)):=rfl
 unfold bLB at e
 unfold j4 t5
 apply cG
 walk_at "ev"
def Two (cs:List Int) (a:Int):Prop:=∃ x y,cs[a.toNat]?=some x/\cs[(a + 1).toNat]?=some y/\x + y<=4
def Here (cs:List Int) (a:Int) (room:Bool) (x:Str):Prop:=
 (room=true/\x=Str.ofString "o")\/(Two cs a/\x∈[Str.ofString "ol",Str.ofString "lo",Str.ofString "or",Str.ofString "ro"])\/(Two cs a/\x∈[Str.ofString "l",Str.ofString "r"]) \/
 ((∃ v,cs[a.toNat]?=some v/\v < 4)/\x=Str.ofString "t")\/x∈[Str.ofString "s",Str.ofString "k",Str.ofString "p"]
theorem mi {c c1:DM Bool} {δ:DSt} {b b1:Bool} (h:c δ=.ok b δ) (h1:c1 δ=.ok b1 δ):df c c1 δ=.ok (b&&b1) δ:=by
 unfold df DM.bd;simp only [h];cases b <;> simp [h1,DM.ret]
theorem wg {c c1:DM Bool} {δ:DSt} {b b1:Bool} (h:c δ=.ok b δ) (h1:c1 δ=.ok b1 δ):bM c c1 δ=.ok (b||b1) δ:=by
 unfold bM DM.bd;simp only [h];cases b <;> simp [h1,DM.ret]
def yq:DM Fl:=(ak (fIf (df (aw (ah (ae 0) (fC (.int 0)) gEq)) (aw (ae 4))) (aD (fC (.str "o"))) aN)
  (ak (fIf (df (aw (ah (ae 0) (fC (.int 1)) gEq)) (aw (ae 5))) (aD (ah (bB (af (fC (.str "ol")) (af (fC (.str "lo")) (af (fC (.str "or")) (af (fC (.str "ro")) ai))))) (ah (ae 1) (fC (.int 4)) bU) gIx)) aN)
  (ak (fIf (df (bM (aw (ah (ae 0) (fC (.int 2)) gEq)) (aw (ah (ae 0) (fC (.int 3)) gEq))) (aw (ae 5))) (aD (ah (fC (.str "lr")) (ah (ae 1) (fC (.int 2)) bU) gIx)) aN)
  (ak (fIf (df (bM (aw (ah (ae 0) (fC (.int 4)) gEq)) (aw (ah (ae 0) (fC (.int 5)) gEq))) (aw (ah (ah (ae 2) (ae 3) gIx) (fC (.int 4)) (bg lt)))) (aD (fC (.str "t"))) aN)
  (aD (ah (fC (.str "skppkk")) (ah (ae 1) (fC (.int 6)) bU) gIx))))))
theorem Iq (way sign a v:Int) (cs:List Int) (room two:Bool) (ha:0<=a) (hv:cs[a.toNat]?=some v) (h2:two=true->Two cs a):∃ x δ,yq [.sh (.int way),.sh (.int sign),.sh (.lst (iD cs)),.sh (.int a),.sh (.bl room),.sh (.bl two)]=.ok (.rt (.str x)) δ/\Here cs a room x:=by
 have e0:=iE ha hv
 have q:∀ j:Int,gEq (.int way) (.int j)=some (.val (.bl (decide (way=j)))):=fun j=>kK rfl
 have q0:=q 0
 have q1:=q 1
 have q2:=q 2
 have q3:=q 3
 have q4:=q 4
 have q5:=q 5
 have t0:df (aw (ah (ae 0) (fC (.int 0)) gEq)) (aw (ae 4)) [.sh (.int way),.sh (.int sign),.sh (.lst (iD cs)),.sh (.int a),.sh (.bl room),.sh (.bl two)]=.ok (decide (way=0)&&room) _:=mi (by walk_at "ev") (by walk_at "ev")
 have t1:df (aw (ah (ae 0) (fC (.int 1)) gEq)) (aw (ae 5)) [.sh (.int way),.sh (.int sign),.sh (.lst (iD cs)),.sh (.int a),.sh (.bl room),.sh (.bl two)]=.ok (decide (way=1)&&two) _:=mi (by walk_at "ev") (by walk_at "ev")
 have t2:df (bM (aw (ah (ae 0) (fC (.int 2)) gEq)) (aw (ah (ae 0) (fC (.int 3)) gEq))) (aw (ae 5)) [.sh (.int way),.sh (.int sign),.sh (.lst (iD cs)),.sh (.int a),.sh (.bl room),.sh (.bl two)]=.ok ((decide (way=2)||decide (way=3))&&two) _:=mi (wg (by walk_at "ev") (by walk_at "ev")) (by walk_at "ev")
 have t3:df (bM (aw (ah (ae 0) (fC (.int 4)) gEq)) (aw (ah (ae 0) (fC (.int 5)) gEq))) (aw (ah (ah (ae 2) (ae 3) gIx) (fC (.int 4)) (bg lt))) [.sh (.int way),.sh (.int sign),.sh (.lst (iD cs)),.sh (.int a),.sh (.bl room),.sh (.bl two)]=.ok ((decide (way=4)||decide (way=5))&&lt v 4) _:=mi (wg (by walk_at "ev") (by walk_at "ev")) (by walk_at "ev")
 unfold yq
 cases z0:decide (way=0)&&room with
 | true=>
  rw [z0] at t0
  exact ⟨Str.ofString "o",_,by walk_at "ev",.inl ⟨(Bool.and_eq_true_iff.mp z0).2,rfl⟩⟩
 | false=>
  rw [z0] at t0
  cases z1:decide (way=1)&&two with
  | true=>
   rw [z1] at t1
   have hm:sign % 4=0\/sign % 4=1\/sign % 4=2\/sign % 4=3:=by omega
   have i4:∃ x:Str,gIx (.lst [.str (Str.ofString "ol"),.str (Str.ofString "lo"),.str (Str.ofString "or"),.str (Str.ofString "ro")]) (.int (sign % 4))=some (.val (.str x))/\x∈[Str.ofString "ol",Str.ofString "lo",Str.ofString "or",Str.ofString "ro"]:=by
    rcases hm with h | h | h | h <;> rw [h]
    ·exact ⟨_,rfl,by simp⟩
    ·exact ⟨_,rfl,by simp⟩
    ·exact ⟨_,rfl,by simp⟩
    ·exact ⟨_,rfl,by simp⟩
   obtain ⟨x,i4,hx⟩:=i4
   exact ⟨x,_,by walk_at "ev",.inr (.inl ⟨h2 (Bool.and_eq_true_iff.mp z1).2,hx⟩)⟩
  | false=>
   rw [z1] at t1
   cases z2:(decide (way=2)||decide (way=3))&&two with
   | true=>
    rw [z2] at t2
    have hm:sign % 2=0\/sign % 2=1:=by omega
    have i4:∃ x:Str,gIx (.str (Str.ofString "lr")) (.int (sign % 2))=some (.val (.str x))/\x∈[Str.ofString "l",Str.ofString "r"]:=by
     rcases hm with h | h <;> rw [h]
     ·exact ⟨Str.ofString "l",by kernel_rfl,by simp⟩
     ·exact ⟨Str.ofString "r",by kernel_rfl,by simp⟩
    obtain ⟨x,i4,hx⟩:=i4
    exact ⟨x,_,by walk_at "ev",.inr (.inr (.inl ⟨h2 (Bool.and_eq_true_iff.mp z2).2,hx⟩))⟩
   | false=>
    rw [z2] at t2
    cases z3:(decide (way=4)||decide (way=5))&&lt v 4 with
    | true=>
     rw [z3] at t3
     exact ⟨Str.ofString "t",_,by walk_at "ev",.inr (.inr (.inr (.inl ⟨⟨v,hv,of_decide_eq_true (Bool.and_eq_true_iff.mp z3).2⟩,rfl⟩)))⟩
    | false=>
     rw [z3] at t3
     have hm:sign % 6=0\/sign % 6=1\/sign % 6=2\/sign % 6=3\/sign % 6=4\/sign % 6=5:=by omega
     have i4:∃ x:Str,gIx (.str (Str.ofString "skppkk")) (.int (sign % 6))=some (.val (.str x))/\x∈[Str.ofString "s",Str.ofString "k",Str.ofString "p"]:=by
      rcases hm with h | h | h | h | h | h <;> rw [h]
      ·exact ⟨Str.ofString "s",by kernel_rfl,by simp⟩
      ·exact ⟨Str.ofString "k",by kernel_rfl,by simp⟩
      ·exact ⟨Str.ofString "p",by kernel_rfl,by simp⟩
      ·exact ⟨Str.ofString "p",by kernel_rfl,by simp⟩
      ·exact ⟨Str.ofString "k",by kernel_rfl,by simp⟩
      ·exact ⟨Str.ofString "k",by kernel_rfl,by simp⟩
     obtain ⟨x,i4,hx⟩:=i4
     exact ⟨x,_,by walk_at "ev",.inr (.inr (.inr (.inr hx)))⟩
end Lw
namespace Lw
open PySem L2 DL
theorem Ep (way sign a v:Int) (cs:List Int) (room:Bool) (ha:0<=a) (hv:cs[a.toNat]?=some v) (hl:cs.length<=100):∃ x,jB [.int way,.int sign,.lst (iD cs),.int a,.bl room]=.ok (.str x)/\Here cs a room x:=by
 have e0:=iE ha hv
 have g1:=eL cs
 have two:∃ two:Bool,(ft (ah (ah (ae 3) (fC (.int 1)) aV) (fCB (af (ae 2) ai) bq) (bg lt)) (ah (ah (ah (ae 2) (ae 3) gIx) (ah (ae 2) (ah (ae 3) (fC (.int 1)) aV) gIx) aV) (fC (.int 4)) (bg le))) [.sh (.int way),.sh (.int sign),.sh (.lst (iD cs)),.sh (.int a),.sh (.bl room),.no]=.ok (.val (.bl two)) [.sh (.int way),.sh (.int sign),.sh (.lst (iD cs)),.sh (.int a),.sh (.bl room),.no]/\(two=true->Two cs a):=by
  by_cases h:a + 1 < cs.length
  ·have hb:lt (a + 1) (cs.length:Int)=true:=decide_eq_true h
   have hw:cs[(a + 1).toNat]?=some cs[(a + 1).toNat]:=List.getElem?_eq_getElem (by omega)
   have e1:=iE (i:=a + 1) (by omega) hw
   exact ⟨le (v + cs[(a + 1).toNat]) 4,by walk_at "ev",fun z=>⟨v,_,hv,hw,of_decide_eq_true z⟩⟩
  ·have hb:lt (a + 1) (cs.length:Int)=false:=decide_eq_false h
   exact ⟨false,by walk_at "ev",fun z=>nomatch z⟩
 obtain ⟨two,h1,h2⟩:=two
 obtain ⟨x,δ,h3,h4⟩:=Iq way sign a v cs room two ha hv h2
 refine ⟨x,?_,h4⟩
 unfold jB vJ
 apply fZ
 apply aB
 ·exact cf h1 rfl
 ·exact h3
theorem vm (h:D->Bool):∀ (l:List D),fL (l.map fun d=>D.bl (h d))=some (l.map h)
 | []=>rfl
 | d :: l=>by
  show (fL (l.map fun d=>D.bl (h d))).map _=_
  rw [vm h l];rfl
def pairD (cs:List Int):D->Bool
 | .int j=>gt (cs.getD (2 * j).toNat 0 + cs.getD (2 * j + 1).toNat 0) 4
 | _=>false
theorem getD_some {cs:List Int} {n:Nat} (h:n < cs.length):cs[n]?=some (cs.getD n 0):=by
 rw [List.getD_eq_getElem?_getD,List.getElem?_eq_getElem h];rfl
theorem Eo (cs:List Int) (hl:cs.length<=16):cv (bo 0) (.ret true) (ah (ah (ah (ae 1) (ah (fC (.int 2)) (ae 0) bA) gIx) (ah (ae 1) (ah (ah (fC (.int 2)) (ae 0) bA) (fC (.int 1)) aV) gIx) aV) (fC (.int 4)) (bg gt)) (bN 0 ((cs.length:Int) / 2).toNat) [.no,.sh (.lst (iD cs))] []=some ((bN 0 ((cs.length:Int) / 2).toNat).map fun d=>D.bl (pairD cs d)):=by
 rw [comp_map (g:=fun d=>D.bl (pairD cs d)) _ .no (by rw [jD];unfold sizeLine;omega) ?_]
 intro d hd
 obtain ⟨k,hk,rfl⟩:=lx hd
 have e1:=iE (cs:=cs) (i:=2 * (k:Int)) (by omega) (getD_some (by omega))
 have e2:=iE (cs:=cs) (i:=2 * (k:Int) + 1) (by omega) (getD_some (by omega))
 have h3:(ah (ah (ah (ae 1) (ah (fC (.int 2)) (ae 0) bA) gIx) (ah (ae 1) (ah (ah (fC (.int 2)) (ae 0) bA) (fC (.int 1)) aV) gIx) aV) (fC (.int 4)) (bg gt)) [.sh (.int k),.sh (.lst (iD cs))]=.ok (.val (.bl (pairD cs (.int k)))) [.sh (.int k),.sh (.lst (iD cs))]:=by walk_at "ev"
 unfold fN DM.bd
 rw [h3]
 rfl
theorem Bt (cs:List Int):mf [.lst ((bN 0 ((cs.length:Int) / 2).toNat).map fun d=>D.bl (pairD cs d))]=some (.val (.bl ((bN 0 ((cs.length:Int) / 2).toNat).any (pairD cs)))):=by
 show (fL _).map _=_
 rw [vm]
 show some (DV.val (.bl (List.any _ id)))=_
 rw [List.any_map];rfl
theorem CP {cs:List Int} (h:(bN 0 ((cs.length:Int) / 2).toNat).any (pairD cs)=false) (k:Nat) (hk:k < cs.length / 2) (a b:Int) (ha:cs[2 * k]?=some a) (hb:cs[2 * k + 1]?=some b):a + b<=4:=by
 have h1:D.int (0 + (k:Int))∈bN 0 ((cs.length:Int) / 2).toNat:=by
  unfold bN
  exact List.mem_map.mpr ⟨k,List.mem_range.mpr (by omega),rfl⟩
 have h2:=List.any_eq_false.mp h _ h1
 have e1:(2 * (0 + (k:Int))).toNat=2 * k:=by omega
 have e2:(2 * (0 + (k:Int)) + 1).toNat=2 * k + 1:=by omega
 have h3:¬ gt (cs.getD (2 * (0 + (k:Int))).toNat 0 + cs.getD (2 * (0 + (k:Int)) + 1).toNat 0) 4=true:=h2
 rw [e1,e2,List.getD_eq_getElem?_getD,List.getD_eq_getElem?_getD,ha,hb] at h3
 have:¬ (4 < a + b):=fun z=>h3 (decide_eq_true z)
 omega
def jV (cs:List Int) (x:Str):Prop:=x=Str.ofString ""\/(bE x.cps.toList cs []/\x.length<=16)
theorem HS (way:Int) (cs:List Int) (hl:cs.length<=16):aw (fCB (af (fLC (dU (af (ah (ae 2) (fC (.int 2)) cZ) ai)) (bo 0) (.ret true) (ah (ah (ah (ae 1) (ah (fC (.int 2)) (ae 0) bA) gIx) (ah (ae 1) (ah (ah (fC (.int 2)) (ae 0) bA) (fC (.int 1)) aV) gIx) aV) (fC (.int 4)) (bg gt)) [none,some 1]) ai) mf) [.sh (.int way),.sh (.lst (iD cs)),.sh (.int (cs.length:Int))]=.ok ((bN 0 ((cs.length:Int) / 2).toNat).any (pairD cs)) [.sh (.int way),.sh (.lst (iD cs)),.sh (.int (cs.length:Int))]:=by
 have hL:(fLC (dU (af (ah (ae 2) (fC (.int 2)) cZ) ai)) (bo 0) (.ret true) (ah (ah (ah (ae 1) (ah (fC (.int 2)) (ae 0) bA) gIx) (ah (ae 1) (ah (ah (fC (.int 2)) (ae 0) bA) (fC (.int 1)) aV) gIx) aV) (fC (.int 4)) (bg gt)) [none,some 1]) [.sh (.int way),.sh (.lst (iD cs)),.sh (.int (cs.length:Int))]=.ok (.own ((bN 0 ((cs.length:Int) / 2).toNat).map fun d=>D.bl (pairD cs d))) [.sh (.int way),.sh (.lst (iD cs)),.sh (.int (cs.length:Int))]:=by
  apply jq (ds:=bN 0 ((cs.length:Int) / 2).toNat)
  ·apply kT (j:=(cs.length:Int) / 2) (as:=[.val (.int ((cs.length:Int) / 2))])
   ·walk_at "ev"
   ·rfl
   ·exact iM (by omega) (by omega)
  ·exact Eo cs hl
 have g3:=Bt cs
 exact bx (dX (av hL aE) rfl g3) rfl
theorem yV (way:Int) (c:Nat) (cs:List Int) (hc:(way=0/\c=108)\/(way=1/\c=114)) (h0:1<=cs.length) (hl:cs.length<=16):∃ x,dm [.int way,.lst (iD cs)]=.ok (.str x)/\jV cs x:=by
 have g1:=eL cs
 have g3:=HS way cs hl
 have i0:gIx (.str (Str.ofString "lr")) (.int way)=some (.val (.str (ch c))):=by rcases hc with ⟨rfl,rfl⟩ | ⟨rfl,rfl⟩ <;> kernel_rfl
 have t0:bM (aw (ah (ae 0) (fC (.int 0)) gEq)) (aw (ah (ae 0) (fC (.int 1)) gEq)) [.sh (.int way),.sh (.lst (iD cs)),.sh (.int (cs.length:Int))]=.ok true [.sh (.int way),.sh (.lst (iD cs)),.sh (.int (cs.length:Int))]:=by
  rcases hc with ⟨rfl,rfl⟩ | ⟨rfl,rfl⟩ <;> walk_at "ev"
 have m1:bA (.str (ch c)) (.int ((cs.length:Int) / 2))=some (.val (.str (Txt.mul (ch c) ((cs.length:Int) / 2)))):=hU (by omega) (by omega) (by show 1<=100;decide)
 have m2:bA (.str (Str.ofString "k")) (.int ((cs.length:Int) % 2))=some (.val (.str (Txt.mul (Str.ofString "k") ((cs.length:Int) % 2)))):=hU (by omega) (by omega) (by decide +kernel)
 have l1:(Txt.mul (ch c) ((cs.length:Int) / 2)).length=((cs.length:Int) / 2).toNat:=by rw [me];show _ * 1=_;omega
 have l2:(Txt.mul (Str.ofString "k") ((cs.length:Int) % 2)).length=((cs.length:Int) % 2).toNat:=by rw [me,(by decide +kernel:(Str.ofString "k").length=1)];omega
 have a1:(Txt.mul (ch c) ((cs.length:Int) / 2)).length + (Txt.mul (Str.ofString "k") ((cs.length:Int) % 2)).length<=sizeLine:=by rw [l1,l2];unfold sizeLine;omega
 cases hb:(bN 0 ((cs.length:Int) / 2).toNat).any (pairD cs) with
 | true=>
  rw [hb] at g3
  refine ⟨Str.ofString "",?_,.inl rfl⟩
  unfold dm i9
  apply fZ
  apply aB
  ·walk_at "ev"
  apply aI
  apply aB
  ·apply bD
   ·exact t0
   ·apply dQ rfl
    walk_at "ev"
  ·exact ma
 | false=>
  rw [hb] at g3
  refine ⟨Txt.mul (ch c) ((cs.length:Int) / 2)++Txt.mul (Str.ofString "k") ((cs.length:Int) % 2),?_,.inr ⟨?_,?_⟩⟩
  ·unfold dm i9
   apply fZ
   apply aB
   ·walk_at "ev"
   apply aI
   apply aB
   ·apply bD
    ·exact t0
    ·apply dQ rfl
     walk_at "ev"
   ·exact ma
  ·rw [kA,mD,mD,show (ch c).cps.toList=[c] from rfl,(by decide +kernel:(Str.ofString "k").cps.toList=[107]),nA,nA]
   have hn:((cs.length:Int) / 2).toNat=cs.length / 2:=by omega
   have hm:((cs.length:Int) % 2).toNat=cs.length % 2:=by omega
   rw [hn,hm]
   refine jk (r:=cs.drop (2 * (cs.length / 2))) (wU (by rcases hc with ⟨_,h⟩ | ⟨_,h⟩ <;> simp [h]) (by rw [List.length_drop];omega) rfl fun k hk a b ha hb'=>CP hb k hk a b ha hb') (ki (.inl rfl) (by rw [List.length_drop];simp;omega) ?_)
   rw [List.drop_drop]
   exact List.drop_eq_nil_of_le (by omega)
  ·rw [str_len,l1,l2];omega
end Lw
namespace Lw
open PySem L2 DL
theorem k_is:Str.ofString "k"=ch 107:=by decide +kernel
theorem mG:Str.ofString "p"=ch 112:=by decide +kernel
theorem j7 (c:Nat) (n:Int):(Txt.mul (ch c) n).cps.toList=List.replicate n.toNat c:=by
 rw [mD,show (ch c).cps.toList=[c] from rfl,nA]
theorem fF (c:Nat) (n:Int):(Txt.mul (ch c) n).length=n.toNat:=by rw [me];show _ * 1=_;omega
theorem rQ (cs:List Int):cs.drop cs.length=[]:=List.drop_eq_nil_of_le (Nat.le_refl _)
theorem BB (cs:List Int) (h0:1<=cs.length) (hl:cs.length<=16):∃ x,dm [.int 2,.lst (iD cs)]=.ok (.str x)/\jV cs x:=by
 have g1:=eL cs
 have m1:bA (.str (Str.ofString "o")) (.int (16 - (cs.length:Int)))=some (.val (.str (Txt.mul (Str.ofString "o") (16 - (cs.length:Int))))):=hU (by omega) (by omega) (by decide +kernel)
 have m2:bA (.str (Str.ofString "p")) (.int (cs.length:Int))=some (.val (.str (Txt.mul (Str.ofString "p") (cs.length:Int)))):=hU (by omega) (by omega) (by decide +kernel)
 have a1:(Txt.mul (Str.ofString "o") (16 - (cs.length:Int))).length + (Txt.mul (Str.ofString "p") (cs.length:Int)).length<=sizeLine:=by rw [iA,mG,fF,fF];unfold sizeLine;omega
 refine ⟨Txt.mul (Str.ofString "o") (16 - (cs.length:Int))++Txt.mul (Str.ofString "p") (cs.length:Int),?_,.inr ⟨?_,?_⟩⟩
 ·unfold dm i9
  walk_at "ev"
 ·rw [kA,iA,mG,j7,j7]
  exact jk (ng _ cs) (ki (.inr (.inl rfl)) (by simp) (by rw [Int.toNat_natCast];exact rQ cs))
 ·rw [str_len,iA,mG,fF,fF];omega
theorem Fo (cs:List Int) (h0:1<=cs.length) (hl:cs.length<=16):∃ x,dm [.int 3,.lst (iD cs)]=.ok (.str x)/\jV cs x:=by
 have g1:=eL cs
 have m1:bA (.str (Str.ofString "o")) (.int (16 - (cs.length:Int)))=some (.val (.str (Txt.mul (Str.ofString "o") (16 - (cs.length:Int))))):=hU (by omega) (by omega) (by decide +kernel)
 have m2:bA (.str (Str.ofString "k")) (.int (cs.length:Int))=some (.val (.str (Txt.mul (Str.ofString "k") (cs.length:Int)))):=hU (by omega) (by omega) (by decide +kernel)
 have a1:(Txt.mul (Str.ofString "k") (cs.length:Int)).length + (Txt.mul (Str.ofString "o") (16 - (cs.length:Int))).length<=sizeLine:=by rw [iA,k_is,fF,fF];unfold sizeLine;omega
 refine ⟨Txt.mul (Str.ofString "k") (cs.length:Int)++Txt.mul (Str.ofString "o") (16 - (cs.length:Int)),?_,.inr ⟨?_,?_⟩⟩
 ·unfold dm i9
  walk_at "ev"
 ·rw [kA,iA,k_is,j7,j7]
  exact jk (r:=[]) (ki (.inl rfl) (by simp) (by rw [Int.toNat_natCast];exact rQ cs)) (ng _ [])
 ·rw [str_len,iA,k_is,fF,fF];omega
theorem zQ (cs:List Int) (h0:1<=cs.length) (hl:cs.length<=16):∃ x,dm [.int 5,.lst (iD cs)]=.ok (.str x)/\jV cs x:=by
 have g1:=eL cs
 have m2:bA (.str (Str.ofString "s")) (.int (cs.length:Int))=some (.val (.str (Txt.mul (Str.ofString "s") (cs.length:Int)))):=hU (by omega) (by omega) (by decide +kernel)
 refine ⟨Txt.mul (Str.ofString "s") (cs.length:Int),?_,.inr ⟨?_,?_⟩⟩
 ·unfold dm i9
  walk_at "ev"
 ·rw [ju,j7]
  exact ki (.inr (.inr rfl)) (by simp) (by rw [Int.toNat_natCast];exact rQ cs)
 ·rw [ju,fF];omega
theorem EY (cs:List Int) (h0:1<=cs.length) (hl:cs.length<=16):∃ x,dm [.int 6,.lst (iD cs)]=.ok (.str x)/\jV cs x:=by
 have g1:=eL cs
 have hm:0<=di (cs.length:Int) (16 - (cs.length:Int))/\di (cs.length:Int) (16 - (cs.length:Int))<=cs.length/\di (cs.length:Int) (16 - (cs.length:Int))<=16 - (cs.length:Int):=by unfold di;split <;> omega
 have hok:(Str.ofString "ok").length=2:=by decide +kernel
 have okc:(Str.ofString "ok").cps.toList=[111,107]:=by decide +kernel
 have g2:jy [.int (cs.length:Int),.int (16 - (cs.length:Int))]=some (.val (.int (di (cs.length:Int) (16 - (cs.length:Int))))):=rfl
 have m1:bA (.str (Str.ofString "ok")) (.int (di (cs.length:Int) (16 - (cs.length:Int))))=some (.val (.str (Txt.mul (Str.ofString "ok") (di (cs.length:Int) (16 - (cs.length:Int)))))):=hU (by omega) (by omega) (by omega)
 have m2:bA (.str (Str.ofString "k")) (.int ((cs.length:Int) - di (cs.length:Int) (16 - (cs.length:Int))))=some (.val (.str (Txt.mul (Str.ofString "k") ((cs.length:Int) - di (cs.length:Int) (16 - (cs.length:Int)))))):=hU (by omega) (by omega) (by decide +kernel)
 have a1:(Txt.mul (Str.ofString "ok") (di (cs.length:Int) (16 - (cs.length:Int)))).length + (Txt.mul (Str.ofString "k") ((cs.length:Int) - di (cs.length:Int) (16 - (cs.length:Int)))).length<=sizeLine:=by rw [k_is,me,fF,hok];unfold sizeLine;omega
 refine ⟨Txt.mul (Str.ofString "ok") (di (cs.length:Int) (16 - (cs.length:Int)))++Txt.mul (Str.ofString "k") ((cs.length:Int) - di (cs.length:Int) (16 - (cs.length:Int))),?_,.inr ⟨?_,?_⟩⟩
 ·unfold dm i9
  walk_at "ev"
 ·rw [kA,k_is,j7,mD,okc]
  refine jk (zm _ (by omega)) (ki (.inl rfl) (by rw [List.length_drop];simp;omega) ?_)
  rw [List.drop_drop]
  exact List.drop_eq_nil_of_le (by omega)
 ·rw [str_len,k_is,me,fF,hok];omega
theorem uW:∀ ys:List Str,(Str.join (Str.ofString "") ys).cps.toList=(ys.map fun y=>y.cps.toList).flatten
 | []=>by decide +kernel
 | [y]=>by simp [Str.join]
 | y :: z :: r=>by
  show ((y++Str.ofString "")++Str.join (Str.ofString "") (z :: r)).cps.toList=_
  rw [Str.cps_append,Str.cps_append,Array.toList_append,Array.toList_append,uW (z :: r)]
  have:(Str.ofString "").cps.toList=[]:=by decide +kernel
  rw [this,List.append_nil];rfl
def tsS (cs:List Int):List Str:=cs.map fun c=>if c < 4 then ch 116 else ch 115
theorem yH:∀ cs:List Int,((tsS cs).map fun y=>y.cps.toList).flatten=j6 cs
 | []=>rfl
 | c :: cs=>by
  show (if c < 4 then ch 116 else ch 115).cps.toList++((tsS cs).map fun y=>y.cps.toList).flatten=(if c < 4 then 116 else 115) :: j6 cs
  rw [yH cs]
  split <;> rfl
theorem wB:∀ cs:List Int,((tsS cs).map (·.length)).sum=cs.length
 | []=>rfl
 | c :: cs=>by
  show (if c < 4 then ch 116 else ch 115).length + ((tsS cs).map (·.length)).sum=_
  rw [wB cs,List.length_cons]
  split <;> (show 1 + _=_;omega)
theorem FC (cs:List Int) (h0:1<=cs.length) (hl:cs.length<=16):∃ x,dm [.int 4,.lst (iD cs)]=.ok (.str x)/\jV cs x:=by
 have g1:=eL cs
 have e:cv (bo 0) (.ret true) (gR (aw (ah (ae 0) (fC (.int 4)) (bg lt))) (fC (.str "t")) (fC (.str "s"))) (iD cs) [.no] []=some ((tsS cs).map D.str):=by
  rw [comp_map (g:=fun d=>match d with | .int c=>.str (if c < 4 then ch 116 else ch 115) | _=>.non) (iD cs) .no (by rw [d8];unfold sizeLine;omega) ?_]
  ·unfold iD tsS
   rw [List.map_map,List.map_map];rfl
  ·intro d hd
   obtain ⟨c,hc',rfl⟩:=List.mem_map.mp hd
   have h3:(gR (aw (ah (ae 0) (fC (.int 4)) (bg lt))) (fC (.str "t")) (fC (.str "s"))) [.sh (.int c)]=.ok (.val (.str (if c < 4 then ch 116 else ch 115))) [.sh (.int c)]:=by
    by_cases h:c < 4
    ·have hb:lt c 4=true:=decide_eq_true h
     rw [if_pos h,<-lW]
     walk_at "ev"
    ·have hb:lt c 4=false:=decide_eq_false h
     rw [if_neg h,<-ju]
     walk_at "ev"
   unfold fN DM.bd
   rw [h3]
   rfl
 have e2:=yf (tsS cs)
 have e0:(Str.ofString "").length=0:=by decide +kernel
 have e3:((tsS cs).map (·.length)).sum + (tsS cs).length * (Str.ofString "").length<=16777216:=by rw [wB,e0];omega
 have e4:cQ (.lst (iD cs))=some (iD cs):=rfl
 have hj:(Txt.join (Str.ofString "") (tsS cs)).cps.toList=j6 cs:=by rw [IA,uW,yH]
 refine ⟨Txt.join (Str.ofString "") (tsS cs),?_,.inr ⟨?_,?_⟩⟩
 ·unfold dm i9
  walk_at "ev"
 ·rw [hj];exact pH cs
 ·have:(Txt.join (Str.ofString "") (tsS cs)).length=(Txt.join (Str.ofString "") (tsS cs)).cps.toList.length:=by simp [Str.length]
  rw [this,hj]
  unfold j6
  rw [List.length_map];exact hl
theorem zY (way:Int) (cs:List Int) (h1:0<=way) (h2:way < 7) (h0:1<=cs.length) (hl:cs.length<=16):∃ x,dm [.int way,.lst (iD cs)]=.ok (.str x)/\jV cs x:=by
 have:way=0\/way=1\/way=2\/way=3\/way=4\/way=5\/way=6:=by omega
 rcases this with rfl | rfl | rfl | rfl | rfl | rfl | rfl
 ·exact yV 0 108 cs (.inl ⟨rfl,rfl⟩) h0 hl
 ·exact yV 1 114 cs (.inr ⟨rfl,rfl⟩) h0 hl
 ·exact BB cs h0 hl
 ·exact Fo cs h0 hl
 ·exact FC cs h0 hl
 ·exact zQ cs h0 hl
 ·exact EY cs h0 hl
end Lw
namespace Lw
open PySem L2 DL
theorem uN {c:DM Bool} {S:DM Fl} {n:Nat} {δ δ1 δ2:DSt} {R:Rs Fl} (h:c δ=.ok true δ1) (hb:S δ1=.ok .nx δ2) (hr:dF c S n δ2=R):dF c S (n + 1) δ=R:=by
 unfold dF DM.bd;simp only [h,if_true,hb];exact hr
theorem rP {c:DM Bool} {S:DM Fl} {n:Nat} {δ δ1:DSt} (h:c δ=.ok false δ1):dF c S (n + 1) δ=.ok .nx δ1:=by
 unfold dF DM.bd;simp only [h,Bool.false_eq_true,if_false];rfl
def tkS (x:Str):Nat:=(x.cps.toList.map tkn).sum
theorem zM {cs:List Int} {a:Int} {room:Bool} {x:Str} (h:Here cs a room x) (ha:0<=a) (hl:a < cs.length):bE x.cps.toList (cs.drop a.toNat) (cs.drop (a.toNat + tkS x))/\a.toNat + tkS x<=cs.length /\
  ((x.length=1/\tkS x=0/\room=true)\/(x.length=2/\tkS x=2)\/(x.length=1/\tkS x=2)\/(x.length=1/\tkS x=1)):=by
 have hlt:a.toNat < cs.length:=by omega
 have hd:=List.drop_eq_getElem_cons hlt
 have twoF:Two cs a->∃ u v q,cs.drop a.toNat=u :: v :: q/\u + v<=4/\q=cs.drop (a.toNat + 2)/\a.toNat + 2<=cs.length:=by
  rintro ⟨u,v,h1,h2,h3⟩
  have e1:(a + 1).toNat=a.toNat + 1:=by omega
  rw [e1] at h2
  obtain ⟨l1,q1⟩:=List.getElem?_eq_some_iff.mp h1
  obtain ⟨l2,q2⟩:=List.getElem?_eq_some_iff.mp h2
  refine ⟨u,v,_,?_,h3,rfl,by omega⟩
  rw [hd,List.drop_eq_getElem_cons l2,q1,q2]
 have lr:∀ c,c=108\/c=114->∀ u v q,u + v<=4->c∈codes/\fits c (u :: v :: q)/\(u :: v :: q:List Int).drop (tkn c)=q:=by
  intro c hc u v q h4
  have ht:tkn c=2:=by rcases hc with rfl | rfl <;> rfl
  have hm:met c (u :: v :: q)=u + v:=by unfold met;rw [ht];show [u,v].sum=_;simp
  exact ⟨by rcases hc with rfl | rfl <;> decide,⟨by rw [ht];simp,fun z=>by omega,fun _=>by rw [hm];exact h4⟩,by rw [ht];rfl⟩
 have oo:∀ q:List Int,(111:Nat)∈codes/\fits 111 q/\q.drop (tkn 111)=q:=fun q=>⟨by decide,⟨Nat.zero_le _,fun z=>absurd z (by decide),fun z=>absurd z (by decide)⟩,rfl⟩
 have one:∀ c,c=107\/c=112\/c=115->c∈codes/\fits c (cs.drop a.toNat)/\tkn c=1:=by
  intro c hc
  have ht:tkn c=1:=by rcases hc with rfl | rfl | rfl <;> rfl
  exact ⟨by rcases hc with rfl | rfl | rfl <;> decide,⟨by rw [ht,List.length_drop];omega,fun z=>by omega,fun z=>by omega⟩,ht⟩
 rcases h with ⟨h1,rfl⟩ | ⟨h1,h2⟩ | ⟨h1,h2⟩ | ⟨⟨v,h1,h2⟩,rfl⟩ | h2
 ·have e:(Str.ofString "o").cps.toList=[111]:=by decide +kernel
  have e2:tkS (Str.ofString "o")=0:=by unfold tkS;rw [e];rfl
  rw [e,e2]
  exact ⟨⟨(oo []).1,(oo _).2.1,rfl⟩,by omega,.inl ⟨by decide +kernel,rfl,h1⟩⟩
 ·obtain ⟨u,v,q,h3,h4,h5,h6⟩:=twoF h1
  have key:∀ x:Str,∀ c,(c=108\/c=114)->(x.cps.toList=[111,c]\/x.cps.toList=[c,111])->x.length=2->bE x.cps.toList (cs.drop a.toNat) (cs.drop (a.toNat + tkS x))/\a.toNat + tkS x<=cs.length/\((x.length=1/\tkS x=0/\room=true)\/(x.length=2/\tkS x=2)\/(x.length=1/\tkS x=2)\/(x.length=1/\tkS x=1)):=by
   intro x c hc hx hxl
   have ht:tkn c=2:=by rcases hc with rfl | rfl <;> rfl
   have e2:tkS x=2:=by
    unfold tkS
    rcases hx with hx | hx <;> rw [hx]
    ·show 0 + (tkn c + 0)=2;omega
    ·show tkn c + (0 + 0)=2;omega
   refine ⟨?_,by omega,.inr (.inl ⟨hxl,e2⟩)⟩
   obtain ⟨k1,k2,k3⟩:=lr c hc u v q h4
   rw [e2,<-h5,h3]
   rcases hx with hx | hx <;> rw [hx]
   ·exact ⟨(oo []).1,(oo _).2.1,k1,k2,k3⟩
   ·refine ⟨k1,k2,?_⟩
    rw [k3]
    exact ⟨(oo []).1,(oo q).2.1,rfl⟩
  simp only [List.mem_cons,List.not_mem_nil,or_false] at h2
  rcases h2 with rfl | rfl | rfl | rfl
  ·exact key _ 108 (.inl rfl) (.inl (by decide +kernel)) (by decide +kernel)
  ·exact key _ 108 (.inl rfl) (.inr (by decide +kernel)) (by decide +kernel)
  ·exact key _ 114 (.inr rfl) (.inl (by decide +kernel)) (by decide +kernel)
  ·exact key _ 114 (.inr rfl) (.inr (by decide +kernel)) (by decide +kernel)
 ·obtain ⟨u,v,q,h3,h4,h5,h6⟩:=twoF h1
  have key:∀ x:Str,∀ c,(c=108\/c=114)->x.cps.toList=[c]->x.length=1->bE x.cps.toList (cs.drop a.toNat) (cs.drop (a.toNat + tkS x))/\a.toNat + tkS x<=cs.length/\((x.length=1/\tkS x=0/\room=true)\/(x.length=2/\tkS x=2)\/(x.length=1/\tkS x=2)\/(x.length=1/\tkS x=1)):=by
   intro x c hc hx hxl
   have ht:tkn c=2:=by rcases hc with rfl | rfl <;> rfl
   have e2:tkS x=2:=by unfold tkS;rw [hx];show tkn c + 0=2;omega
   obtain ⟨k1,k2,k3⟩:=lr c hc u v q h4
   rw [e2,<-h5,h3,hx]
   exact ⟨⟨k1,k2,k3⟩,by omega,.inr (.inr (.inl ⟨hxl,rfl⟩))⟩
  simp only [List.mem_cons,List.not_mem_nil,or_false] at h2
  rcases h2 with rfl | rfl
  ·exact key _ 108 (.inl rfl) (by decide +kernel) (by decide +kernel)
  ·exact key _ 114 (.inr rfl) (by decide +kernel) (by decide +kernel)
 ·have e:(Str.ofString "t").cps.toList=[116]:=by decide +kernel
  have e2:tkS (Str.ofString "t")=1:=by unfold tkS;rw [e];rfl
  rw [e,e2]
  refine ⟨⟨by decide,⟨by show 1<=_;rw [List.length_drop];omega,fun _=>?_,fun z=>absurd z (by decide)⟩,?_⟩,by omega,.inr (.inr (.inr ⟨by decide +kernel,rfl⟩))⟩
  ·obtain ⟨l1,q1⟩:=List.getElem?_eq_some_iff.mp h1
   unfold met
   rw [hd,q1]
   show [v].sum < 4
   simpa using h2
  ·show List.drop 1 _=_
   rw [List.drop_drop]
 ·have key:∀ x:Str,∀ c,(c=107\/c=112\/c=115)->x.cps.toList=[c]->x.length=1->bE x.cps.toList (cs.drop a.toNat) (cs.drop (a.toNat + tkS x))/\a.toNat + tkS x<=cs.length/\((x.length=1/\tkS x=0/\room=true)\/(x.length=2/\tkS x=2)\/(x.length=1/\tkS x=2)\/(x.length=1/\tkS x=1)):=by
   intro x c hc hx hxl
   obtain ⟨k1,k2,k3⟩:=one c hc
   have e2:tkS x=1:=by unfold tkS;rw [hx];show tkn c + 0=1;omega
   rw [e2,hx]
   exact ⟨⟨k1,k2,by rw [k3];show List.drop 1 _=_;rw [List.drop_drop]⟩,by omega,.inr (.inr (.inr ⟨hxl,rfl⟩))⟩
  simp only [List.mem_cons,List.not_mem_nil,or_false] at h2
  rcases h2 with rfl | rfl | rfl
  ·exact key _ 115 (.inr (.inr rfl)) (by decide +kernel) (by decide +kernel)
  ·exact key _ 107 (.inl rfl) (by decide +kernel) (by decide +kernel)
  ·exact key _ 112 (.inr (.inl rfl)) (by decide +kernel) (by decide +kernel)
theorem vp (p0 p1 p2 p3 p5 p6 p7:Sl):∀ (w:List Nat) (a:Int) (b8:Sl),(∀ c∈w,c∈codes)->∃ x8,bP (bo 8) (aG 4 (ah (ae 4) (aF 1 (af (ae 8) ai) gn) aV)) (w.map fun c=>D.str (ch c)) [p0,p1,p2,p3,.sh (.int a),p5,p6,p7,b8]=.ok .nx [p0,p1,p2,p3,.sh (.int (a + ((w.map tkn).sum:Nat))),p5,p6,p7,x8]
 | [],a,b8,_=>⟨b8,by rw [List.map_nil,vS,List.map_nil,List.sum_nil];show _=Rs.ok Fl.nx [p0,p1,p2,p3,.sh (.int (a + 0)),p5,p6,p7,b8];rw [Int.add_zero]⟩
 | c :: w,a,b8,h=>by
  have e3:=yX (h c List.mem_cons_self)
  obtain ⟨x8,e⟩:=vp p0 p1 p2 p3 p5 p6 p7 w (a + (tkn c:Nat)) (.sh (.str (ch c))) fun d hd=>h d (List.mem_cons_of_mem _ hd)
  refine ⟨x8,?_⟩
  rw [List.map_cons]
  refine dj rfl (δ2:=[p0,p1,p2,p3,.sh (.int (a + (tkn c:Nat))),p5,p6,p7,.sh (.str (ch c))]) ?_ ?_
  ·apply Eq.trans
   walk_at "ev"
  ·rw [e]
   have:a + (tkn c:Nat) + ((w.map tkn).sum:Nat)=a + (((c :: w).map tkn).sum:Nat):=by rw [List.map_cons,List.sum_cons];omega
   rw [this]
def cWh:DM Bool:=(aw (ah (ae 4) (fCB (af (ae 1) ai) bq) (bg lt)))
def bWh:DM Fl:=(ak (aG 6 (ah (ah (ah (fCB (af (ae 3) ai) bq) (fCB (af (ae 1) ai) bq) aV) (ae 4) eC) (fC (.int 16)) (bg lt)))
  (ak (aG 7 (aF 5 (af (ah (ah (aF 2 (af (ae 0) (af (ah (fC (.int 2)) (ae 5) bA) ai)) dH) (fC (.int 13)) cZ) (fC (.int 14)) bU) (af (ah (aF 2 (af (ae 0) (af (ah (ah (fC (.int 2)) (ae 5) bA) (fC (.int 1)) aV) ai)) dH) (fC (.int 7)) cZ) (af (ae 1) (af (ae 4) (af (ae 6) ai))))) jB))
  (ak (aG 3 (ah (ae 3) (ae 7) aV))
  (ak (aG 5 (ah (ae 5) (fC (.int 1)) aV))
  (cu (fIt (ae 7) gG) (bo 8) (aG 4 (ah (ae 4) (aF 1 (af (ae 8) ai) gn) aV)))))))
theorem EG (cell some k a:Int) (cs:List Int) (st:Str) (b6 b7 b8:Sl) (ha:0<=a) (hl:a < cs.length) (hn:cs.length<=16) (hs:st.length<=100):∃ x x6 x8,Here cs a (lt ((st.length:Int) + cs.length - a) 16) x /\
  bWh [.sh (.int cell),.sh (.lst (iD cs)),.sh (.int some),.sh (.str st),.sh (.int a),.sh (.int k),b6,b7,b8]=.ok .nx [.sh (.int cell),.sh (.lst (iD cs)),.sh (.int some),.sh (.str (st++x)),.sh (.int (a + (tkS x:Nat))),.sh (.int (k + 1)),x6,.sh (.str x),x8]:=by
 have g1:=eL cs
 have g2:bq [.str st]=Option.some (.val (.int st.length)):=ox (by unfold sizeLine;omega)
 have g3:=mI cell (2 * k)
 have g4:=mI cell (2 * k + 1)
 have hv:cs[a.toNat]?=Option.some cs[a.toNat]:=List.getElem?_eq_getElem (by omega)
 obtain ⟨x,g5,hx⟩:=Ep (ek cell (2 * k) / 13 % 14) (ek cell (2 * k + 1) / 7) a _ cs (lt ((st.length:Int) + cs.length - a) 16) ha hv (by omega)
 obtain ⟨h1,h2,h3⟩:=zM hx ha hl
 have hxl:x.length<=2:=by omega
 have g6:st.length + x.length<=sizeLine:=by unfold sizeLine;omega
 obtain ⟨x8,g7⟩:=vp (.sh (.int cell)) (.sh (.lst (iD cs))) (.sh (.int some)) (.sh (.str (st++x))) (.sh (.int (k + 1))) (.sh (.bl (lt ((st.length:Int) + cs.length - a) 16))) (.sh (.str x)) x.cps.toList a b8 (kO h1)
 have g8:gG (.str x)=Option.some (x.cps.toList.map fun c=>D.str (ch c)):=rfl
 refine ⟨x,.sh (.bl (lt ((st.length:Int) + cs.length - a) 16)),x8,hx,?_⟩
 unfold bWh
 apply Eq.trans
 walk_at "ev"
theorem vz (cell some:Int) (cs:List Int) (hn:cs.length<=16):∀ (n:Nat) (st:Str) (a k:Int) (b6 b7 b8:Sl),bE st.cps.toList cs (cs.drop a.toNat)->0<=a->a<=cs.length->(st.length:Int) + cs.length - a<=16->16 - ((st.length:Int) + cs.length - a) + 2 * (cs.length - a) < n->
  ∃ x x4 x5 x6 x7 x8,bE x.cps.toList cs []/\x.length<=16/\dF cWh bWh n [.sh (.int cell),.sh (.lst (iD cs)),.sh (.int some),.sh (.str st),.sh (.int a),.sh (.int k),b6,b7,b8]=.ok .nx [.sh (.int cell),.sh (.lst (iD cs)),.sh (.int some),.sh (.str x),x4,x5,x6,x7,x8]
 | 0,st,a,k,b6,b7,b8,h,ha,hl,hs,hm=>by omega
 | n + 1,st,a,k,b6,b7,b8,h,ha,hl,hs,hm=>by
  have g1:=eL cs
  by_cases hlt:a < cs.length
  ·have hb:lt a (cs.length:Int)=true:=decide_eq_true hlt
   have hc:cWh [.sh (.int cell),.sh (.lst (iD cs)),.sh (.int some),.sh (.str st),.sh (.int a),.sh (.int k),b6,b7,b8]=.ok true [.sh (.int cell),.sh (.lst (iD cs)),.sh (.int some),.sh (.str st),.sh (.int a),.sh (.int k),b6,b7,b8]:=by
    rw [<-hb]
    unfold cWh
    walk_at "ev"
   obtain ⟨x,y6,y8,hx,e⟩:=EG cell some k a cs st b6 b7 b8 ha hlt hn (by omega)
   obtain ⟨h1,h2,h3⟩:=zM hx ha hlt
   have e0:(a + (tkS x:Nat)).toNat=a.toNat + tkS x:=by omega
   have hroom:lt ((st.length:Int) + cs.length - a) 16=true->(st.length:Int) + cs.length - a < 16:=of_decide_eq_true
   obtain ⟨y,x4,x5,x6,x7,x8,q1,q2,q3⟩:=vz cell some cs hn n (st++x) (a + (tkS x:Nat)) (k + 1) y6 (.sh (.str x)) y8 (by rw [kA,e0];exact jk h h1) (by omega) (by omega)
    (by rw [str_len];rcases h3 with ⟨z1,z2,z3⟩ | ⟨z1,z2⟩ | ⟨z1,z2⟩ | ⟨z1,z2⟩ <;> (try have:=hroom z3) <;> omega)
    (by rw [str_len];rcases h3 with ⟨z1,z2,z3⟩ | ⟨z1,z2⟩ | ⟨z1,z2⟩ | ⟨z1,z2⟩ <;> (try have:=hroom z3) <;> omega)
   exact ⟨y,x4,x5,x6,x7,x8,q1,q2,uN hc e q3⟩
  ·have hb:lt a (cs.length:Int)=false:=decide_eq_false hlt
   have hc:cWh [.sh (.int cell),.sh (.lst (iD cs)),.sh (.int some),.sh (.str st),.sh (.int a),.sh (.int k),b6,b7,b8]=.ok false [.sh (.int cell),.sh (.lst (iD cs)),.sh (.int some),.sh (.str st),.sh (.int a),.sh (.int k),b6,b7,b8]:=by
    rw [<-hb]
    unfold cWh
    walk_at "ev"
   refine ⟨st,_,_,_,_,_,?_,by omega,rP hc⟩
   have:cs.drop a.toNat=[]:=List.drop_eq_nil_of_le (by omega)
   rw [this] at h
   exact h
end Lw
namespace Lw
open PySem L2 DL
def o9:DM Fl:=(ak (aG 4 (fC (.int 0)))
  (ak (aG 5 (fC (.int 0)))
  (ak (dF cWh bWh 64)
  (ak (fIf (df (aw (ah (ah (ah (aF 2 (af (ae 0) (af (fC (.int 99)) ai)) dH) (fC (.int 5)) cZ) (fC (.int 3)) bU) (fC (.int 0)) gEq)) (aw (ah (fCB (af (ae 3) ai) bq) (fC (.int 16)) (bg lt)))) (aG 3 (ah (ae 3) (fC (.str "o")) aV)) aN)
  (aD (ae 3))))))
theorem len_pos {x:Str} {cs:List Int} (h:bE x.cps.toList cs []) (h0:1<=cs.length):1<=x.length:=by
 cases e:x.cps.toList with
 | nil=>
  rw [e] at h
  have:cs=[]:=h
  rw [this] at h0
  simp at h0
 | cons c w=>
  have:x.cps.toList.length=x.length:=by simp [Str.length]
  rw [e,List.length_cons] at this
  omega
theorem Ei (cell some:Int) (cs:List Int) (h0:1<=cs.length) (hn:cs.length<=16):∃ x δ,bE x.cps.toList cs []/\x.length<=16 /\
  o9 [.sh (.int cell),.sh (.lst (iD cs)),.sh (.int some),.sh (.str (Str.ofString "")),.no,.no,.no,.no,.no]=.ok (.rt (.str x)) δ:=by
 have e0:(Str.ofString "").length=0:=by decide +kernel
 have e1:(Str.ofString "").cps.toList=[]:=by decide +kernel
 obtain ⟨x,x4,x5,x6,x7,x8,h1,h2,h3⟩:=vz cell some cs hn 64 (Str.ofString "") 0 0 .no .no .no (by rw [e1];rfl) (by omega) (by omega) (by omega) (by omega)
 have g1:=mI cell 99
 have g2:bq [.str x]=Option.some (.val (.int x.length)):=ox (by unfold sizeLine;omega)
 have g3:gEq (.int (ek cell 99 / 5 % 3)) (.int 0)=Option.some (.val (.bl (decide (ek cell 99 / 5 % 3=0)))):=kK rfl
 have t0:df (aw (ah (ah (ah (aF 2 (af (ae 0) (af (fC (.int 99)) ai)) dH) (fC (.int 5)) cZ) (fC (.int 3)) bU) (fC (.int 0)) gEq)) (aw (ah (fCB (af (ae 3) ai) bq) (fC (.int 16)) (bg lt))) [.sh (.int cell),.sh (.lst (iD cs)),.sh (.int some),.sh (.str x),x4,x5,x6,x7,x8]=.ok (decide (ek cell 99 / 5 % 3=0)&&lt x.length 16) [.sh (.int cell),.sh (.lst (iD cs)),.sh (.int some),.sh (.str x),x4,x5,x6,x7,x8]:=mi (by walk_at "ev") (by walk_at "ev")
 unfold o9
 cases hb:decide (ek cell 99 / 5 % 3=0)&&lt x.length 16 with
 | true=>
  rw [hb] at t0
  have hlt:(x.length:Int) < 16:=of_decide_eq_true (Bool.and_eq_true_iff.mp hb).2
  have hol:(Str.ofString "o").length=1:=by decide +kernel
  have g4:x.length + (Str.ofString "o").length<=sizeLine:=by rw [hol];unfold sizeLine;omega
  refine ⟨x++Str.ofString "o",_,?_,by rw [str_len,hol];omega,by walk_at "ev"⟩
  rw [kA,(by decide +kernel:(Str.ofString "o").cps.toList=[111])]
  exact jk h1 (ng 1 [])
 | false=>
  rw [hb] at t0
  exact ⟨x,_,h1,h2,by walk_at "ev"⟩
theorem Dy (cell:Int) (cs:List Int) (h0:1<=cs.length) (hn:cs.length<=16):∃ x,hJ [.int cell,.lst (iD cs)]=.ok (.str x)/\bE x.cps.toList cs []/\1<=x.length/\x.length<=16:=by
 have g1:=mI cell 90
 have ne:∀ x:Str,gNe (.str x) (.str (Str.ofString ""))=Option.some (.val (.bl (!decide (x=Str.ofString "")))):=fun x=>eN rfl
 obtain ⟨x2,δ2,q1,q2,q3⟩:=Ei cell (ek cell 90 / 7 % 30) cs h0 hn
 unfold o9 cWh bWh at q3
 by_cases hs:ek cell 90 / 7 % 30 < 7
 ·have hb:lt (ek cell 90 / 7 % 30) 7=true:=decide_eq_true hs
  obtain ⟨x,g2,hx⟩:=zY (ek cell 90 / 7 % 30) cs (by omega) hs h0 hn
  have g3:=ne x
  by_cases he:x=Str.ofString ""
  ·have hd:(!decide (x=Str.ofString ""))=false:=by rw [decide_eq_true he];rfl
   subst he
   refine ⟨x2,?_,q1,len_pos q1 h0,q2⟩
   unfold hJ mV
   apply fZ
   apply aB
   ·walk_at "ev"
   apply aI
   apply aB
   ·walk_at "ev"
   apply aI
   apply aB
   ·walk_at "ev"
   exact q3
  ·have hd:(!decide (x=Str.ofString ""))=true:=by rw [decide_eq_false he];rfl
   rcases hx with hx | ⟨h1,h2⟩
   ·exact absurd hx he
   refine ⟨x,?_,h1,len_pos h1 h0,h2⟩
   unfold hJ mV
   walk_at "ev"
 ·have hb:lt (ek cell 90 / 7 % 30) 7=false:=decide_eq_false hs
  have g3:gNe (.str (Str.ofString "")) (.str (Str.ofString ""))=Option.some (.val (.bl false)):=eN (fJ 8 _ rfl)
  refine ⟨x2,?_,q1,len_pos q1 h0,q2⟩
  unfold hJ mV
  apply fZ
  apply aB
  ·walk_at "ev"
  apply aI
  apply aB
  ·walk_at "ev"
  apply aI
  apply aB
  ·walk_at "ev"
  exact q3
end Lw
namespace Lw
open PySem L2 DL
def fj:List Str:=["a","b","c","d","e","f"]
theorem za (x:Int):∃ y:Str,gIx (.str "abcdef") (.int (x % 6))=some (.val (.str y))/\y∈fj:=by
 have:x % 6=0\/x % 6=1\/x % 6=2\/x % 6=3\/x % 6=4\/x % 6=5:=by omega
 rcases this with h | h | h | h | h | h <;> rw [h]
 ·exact ⟨"a",by kernel_rfl,by decide +kernel⟩
 ·exact ⟨"b",by kernel_rfl,by decide +kernel⟩
 ·exact ⟨"c",by kernel_rfl,by decide +kernel⟩
 ·exact ⟨"d",by kernel_rfl,by decide +kernel⟩
 ·exact ⟨"e",by kernel_rfl,by decide +kernel⟩
 ·exact ⟨"f",by kernel_rfl,by decide +kernel⟩
def nu:DM Fl:=(ak (aG 7 (ah (aF 2 (af (ae 0) (af (ah (fC (.int 3)) (ae 6) aV) ai)) fY) (ah (fC (.int 5003)) (ae 6) bA) aV))
  (ak (aG 8 (aF 2 (af (ae 7) (af (ae 5) ai)) hJ))
  (ak (bR 4 (br (af (fC (.str "row")) (af (ah (fC (.str "abcdef")) (ah (ah (aF 2 (af (ae 7) (af (fC (.int 200)) ai)) dH) (fC (.int 11)) cZ) (fC (.int 6)) bU) gIx) (af (ae 8) ai)))))
  (aG 5 (aF 2 (af (ae 8) (af (ae 5) ai)) j4)))))
theorem FU (ns:List Int) (p1 p2 p3 b7 b8:Sl) (ps:List D) (cs:List Int) (k:Nat) (hk:k < 100) (h0:1<=cs.length) (hn:cs.length<=16) (hp:ps.length<=100):∃ (r:Str×Str) (x7:Sl),r.1∈fj/\bE r.2.cps.toList cs []/\1<=r.2.length/\r.2.length<=16 /\
  nu [.sh (.scr ns),p1,p2,p3,.ow ps,.sh (.lst (iD cs)),.sh (.int k),b7,b8]=.ok .nx [.sh (.scr ns),p1,p2,p3,.ow (ps++[aP r]),.sh (.lst (iD (outs r.2.cps.toList cs))),.sh (.int k),x7,.sh (.str r.2)]:=by
 have g1:=nF ns (3 + k) (by omega)
 obtain ⟨x,g2,h1,h2,h3⟩:=Dy (bZ ns (3 + k) + 5003 * (k:Int)) cs h0 hn
 have g3:=mI (bZ ns (3 + k) + 5003 * (k:Int)) 200
 obtain ⟨y,g4,hy⟩:=za (ek (bZ ns (3 + k) + 5003 * (k:Int)) 200 / 11)
 have g5:=FG h3 h1
 have g6:ps.length < sizeLine:=by unfold sizeLine;omega
 refine ⟨(y,x),.sh (.int (bZ ns (3 + k) + 5003 * (k:Int))),hy,h1,h2,h3,?_⟩
 unfold nu
 apply Eq.trans
 walk_at "ev"
theorem u9 (ns:List Int) (p1 p2 p3:Sl):∀ (ks:List D) (ps:List D) (cs:List Int) (b6 b7 b8:Sl),(∀ d∈ks,∃ k:Nat,k < 100/\d=.int (k:Int))->ps.length + ks.length<=100->1<=cs.length->cs.length<=16->∃ (rs:List (Str×Str)) (x5 x6 x7 x8:Sl),
  dI cs rs/\(∀ r∈rs,r.1∈fj)/\rs.length=ks.length/\bP (bo 6) nu ks [.sh (.scr ns),p1,p2,p3,.ow ps,.sh (.lst (iD cs)),b6,b7,b8]=.ok .nx [.sh (.scr ns),p1,p2,p3,.ow (ps++rs.map aP),x5,x6,x7,x8]
 | [],ps,cs,b6,b7,b8,_,_,_,_=>⟨[],_,b6,b7,b8,trivial,(fun _ z=>nomatch z),rfl,by rw [List.map_nil,List.append_nil];rfl⟩
 | d :: ks,ps,cs,b6,b7,b8,hk,hl,h0,hn=>by
  obtain ⟨k,hk1,rfl⟩:=hk d List.mem_cons_self
  rw [List.length_cons] at hl
  obtain ⟨r,x7,hy,h1,h2,h3,e⟩:=FU ns p1 p2 p3 b7 b8 ps cs k hk1 h0 hn (by omega)
  have hol:=gX r.2.cps.toList cs
  have hrl:r.2.cps.toList.length=r.2.length:=by simp [Str.length]
  obtain ⟨rs,y5,y6,y7,y8,q1,q2,q3,q4⟩:=u9 ns p1 p2 p3 ks (ps++[aP r]) (outs r.2.cps.toList cs) (.sh (.int k)) x7 (.sh (.str r.2)) (fun x hx=>hk x (List.mem_cons_of_mem _ hx)) (by rw [List.length_append,List.length_singleton];omega) (by omega) (by omega)
  refine ⟨r :: rs,y5,y6,y7,y8,⟨h3,h2,h1,q1⟩,fun x hx=>?_,by rw [List.length_cons,List.length_cons,q3],?_⟩
  ·rcases List.mem_cons.mp hx with z | z
   ·rw [z];exact hy
   ·exact q2 x z
  ·refine dj rfl e ?_
   rw [q4,List.map_cons,List.append_assoc]
   rfl
structure mN (many:Int) (y:Str) (rs:List (Str×Str)):Prop where
 m1:1<=many
 m2:many<=16
 y:y∈fj
 ry:∀ r∈rs,r.1∈fj
 rows:dI (List.replicate many.toNat 1) rs
 n:rs.length<=12
theorem FP (n:Nat) (hn:n<=100):cv (bo 0) (.ret true) (fC (.int 1)) (bN 0 n) [.no] []=some (iD (List.replicate n 1)):=by
 rw [comp_map (g:=fun _=>.int 1) _ .no (by rw [jD];unfold sizeLine;omega) ?_]
 ·unfold bN iD
  rw [List.map_map,List.map_replicate]
  congr 1
  apply List.ext_getElem?
  intro i
  rw [List.getElem?_map,List.getElem?_replicate]
  by_cases h:i < n
  ·rw [List.getElem?_range h,if_pos h];rfl
  ·rw [List.getElem?_eq_none (by simpa using h),if_neg h];rfl
 ·intro d hd;rfl
theorem pT (ns:List Int) (rows widest:Int) (h1:0<=rows) (h2:rows<=12) (h3:1<=widest) (h4:widest<=16):∃ many y rs,mN many y rs/\iX [.scr ns,.int rows,.int widest]=.own (bL many y :: rs.map aP):=by
 have g1:=nF ns 1 (by omega)
 have g2:=nF ns 2 (by omega)
 obtain ⟨y,g3,hy⟩:=za (bZ ns 2)
 have hm:0<=bZ ns 1 % widest/\bZ ns 1 % widest < widest:=⟨Int.emod_nonneg _ (by omega),Int.emod_lt_of_pos _ (by omega)⟩
 have g4:bU (.int (bZ ns 1)) (.int widest)=some (.val (.int (bZ ns 1 % widest))):=uw (decide_eq_true (by omega))
 have g5:=FP (1 + bZ ns 1 % widest).toNat (by omega)
 have g6:fI (1 + bZ ns 1 % widest)=true:=iM (by omega) (by omega)
 have g7:fI rows=true:=iM (by omega) (by omega)
 obtain ⟨rs,x5,x6,x7,x8,q1,q2,q3,q4⟩:=u9 ns (.sh (.int rows)) (.sh (.int widest)) (.sh (.int (1 + bZ ns 1 % widest))) (bN 0 rows.toNat) [bL (1 + bZ ns 1 % widest) y] (List.replicate (1 + bZ ns 1 % widest).toNat 1) .no .no .no
  (fun d hd=>by
   obtain ⟨k,hk,e⟩:=lx hd
   exact ⟨k,by omega,e⟩) (by rw [jD,List.length_singleton];omega) (by rw [List.length_replicate];omega) (by rw [List.length_replicate];omega)
 rw [jD] at q3
 refine ⟨1 + bZ ns 1 % widest,y,rs,⟨by omega,by omega,hy,q2,q1,by omega⟩,?_⟩
 unfold nu at q4
 unfold iX xD
 apply cG
 walk_at "ev"
end Lw
namespace Lw
open PySem L2 DL
theorem C0 (ns:List Int):∃ many y rs,mN many y rs/\je [.scr ns]=.own (bL many y :: rs.map aP):=by
 have g1:=nF ns 0 (by omega)
 have q:∀ j:Int,gEq (.int (bZ ns 0 / 7 % 6)) (.int j)=some (.val (.bl (decide (bZ ns 0 / 7 % 6=j)))):=fun j=>kK rfl
 have q1:=q 1
 have q2:=q 2
 unfold je uF
 by_cases h1:bZ ns 0 / 7 % 6=1
 ·obtain ⟨many,y,rs,h,e⟩:=pT ns (bZ ns 0 / 42 % 9) 4 (by omega) (by omega) (by omega) (by omega)
  have d1:decide (bZ ns 0 / 7 % 6=1)=true:=decide_eq_true h1
  exact ⟨many,y,rs,h,by apply cG;walk_at "ev"⟩
 ·have d1:decide (bZ ns 0 / 7 % 6=1)=false:=decide_eq_false h1
  by_cases h2:bZ ns 0 / 7 % 6=2
  ·obtain ⟨many,y,rs,h,e⟩:=pT ns (bZ ns 0 % 4) 16 (by omega) (by omega) (by omega) (by omega)
   have d2:decide (bZ ns 0 / 7 % 6=2)=true:=decide_eq_true h2
   exact ⟨many,y,rs,h,by apply cG;walk_at "ev"⟩
  ·obtain ⟨many,y,rs,h,e⟩:=pT ns (bZ ns 0 % 7) 9 (by omega) (by omega) (by omega) (by omega)
   have d2:decide (bZ ns 0 / 7 % 6=2)=false:=decide_eq_false h2
   exact ⟨many,y,rs,h,by apply cG;walk_at "ev"⟩
end Lw
namespace Lw
open PySem L2 DL
abbrev Lp:=Str×Str×List Int
def lpD (l:Lp):D:=.tup [.str l.1,.str l.2.1,.tup (iD l.2.2)]
def clD (cl:List Lp):List D:=cl.map lpD
def lvD (lv:List (List Int)):List D:=lv.map fun l=>.lst (iD l)
theorem nM (cl:List Lp):(clD cl).length=cl.length:=List.length_map _
theorem lG (lv:List (List Int)):(lvD lv).length=lv.length:=List.length_map _
def bF (c:Nat) (ps:List (List Int)):List Int:=if c=114 then ps.reverse.flatten else ps.flatten
def bO:List Nat->List (List Int)->List (Nat×List Int)
 | [],_=>[]
 | c :: w,lv=>(c,bF c (lv.take (tkn c))) :: bO w (lv.drop (tkn c))
def dZ (c:Nat) (ls:List Int) (n:Int):List Int:=if c=115 then ls else if c=116\/c=111 then ls++[n] else [n]
def dt (y:Str) (c:Nat) (ls:List Int):List Lp:=if c=115 then [] else if c=116\/c=111 then [(y,Str.ofString "t",[])] else [(y,if c=112 then Str.ofString "p" else Str.ofString "k",ls)]
def c5 (y:Str):List (Nat×List Int)->List Lp->List (List Int)×List Lp
 | [],cl=>([],cl)
 | u :: r,cl=>(dZ u.1 u.2 (cl.length:Int) :: (c5 y r (cl++dt y u.1 u.2)).1,(c5 y r (cl++dt y u.1 u.2)).2)
def cT (y:Str) (right:Bool) (us:List (Nat×List Int)) (cl:List Lp):List (List Int)×List Lp:=if right then ((c5 y us.reverse cl).1.reverse,(c5 y us.reverse cl).2) else c5 y us cl
theorem uT (y:Str) (c:Nat) (ls:List Int):(dt y c ls).length<=1:=by
 unfold dt;split
 ·simp
 ·split <;> simp
theorem qY (y:Str):∀ (us:List (Nat×List Int)) (cl:List Lp),(c5 y us cl).2.length<=cl.length + us.length
 | [],cl=>by show cl.length<=_;simp
 | u :: r,cl=>by
  show (c5 y r _).2.length<=_
  have:=qY y r (cl++dt y u.1 u.2)
  have:=uT y u.1 u.2
  rw [List.length_append] at *
  rw [List.length_cons]
  omega
theorem yQ (y:Str) (b:Bool) (us:List (Nat×List Int)) (cl:List Lp):(cT y b us cl).2.length<=cl.length + us.length:=by
 unfold cT
 split
 ·have:=qY y us.reverse cl
  rw [List.length_reverse] at this
  exact this
 ·exact qY y us cl
theorem sD:∀ (w:List Nat) (lv:List (List Int)),(bO w lv).length=w.length
 | [],_=>rfl
 | c :: w,lv=>by show (bO w _).length + 1=w.length + 1;rw [sD w]
def aS (lv:List (List Int)):List Int:=lv.map fun l=>(l.length:Int)
theorem nD (lv:List (List Int)):(aS lv).length=lv.length:=List.length_map _
theorem v3 (lv:List (List Int)) (n:Nat):aS (lv.take n)=(aS lv).take n:=by unfold aS;rw [List.map_take]
theorem mn (lv:List (List Int)) (n:Nat):aS (lv.drop n)=(aS lv).drop n:=by unfold aS;rw [List.map_drop]
theorem i8:∀ ps:List (List Int),((ps.flatten.length:Nat):Int)=(aS ps).sum
 | []=>rfl
 | p :: ps=>by
  show (((p++ps.flatten).length:Nat):Int)=(p.length:Int) + (aS ps).sum
  rw [List.length_append,<-i8 ps];omega
theorem uI (c:Nat) (lv:List (List Int)):(((bF c (lv.take (tkn c))).length:Nat):Int)=met c (aS lv):=by
 unfold bF met
 rw [<-v3]
 split
 ·rw [i8]
  unfold aS
  rw [List.map_reverse]
  exact List.sum_reverse _
 ·exact i8 _
def ib (u:Nat×List Int):Int:=if u.1=115 then u.2.length else if u.1=116\/u.1=111 then u.2.length + 1 else 1
theorem rG (y:Str):∀ (us:List (Nat×List Int)) (cl:List Lp),aS (c5 y us cl).1=us.map ib
 | [],_=>rfl
 | u :: r,cl=>by
  show ((dZ u.1 u.2 _).length:Int) :: aS (c5 y r _).1=ib u :: r.map ib
  rw [rG y r]
  congr 1
  unfold dZ ib
  split
  ·rfl
  ·split
   ·rw [List.length_append,List.length_singleton];rfl
   ·rfl
theorem Im (y:Str) (b:Bool) (us:List (Nat×List Int)) (cl:List Lp):aS (cT y b us cl).1=us.map ib:=by
 unfold cT
 split
 ·show aS (c5 y us.reverse cl).1.reverse=_
  have:=rG y us.reverse cl
  unfold aS at this ⊢
  rw [List.map_reverse,this,List.map_reverse,List.reverse_reverse]
 ·exact rG y us cl
theorem wL:∀ (w:List Nat) (lv:List (List Int)),(bO w lv).map ib=outs w (aS lv)
 | [],_=>rfl
 | c :: w,lv=>by
  show ib (c,bF c (lv.take (tkn c))) :: (bO w (lv.drop (tkn c))).map ib=cI c (aS lv) :: outs w ((aS lv).drop (tkn c))
  rw [wL w,mn]
  congr 1
  have h:=uI c lv
  unfold ib cI
  dsimp only
  by_cases h1:c=115
  ·rw [if_pos h1,if_pos h1];exact h
  ·rw [if_neg h1,if_neg h1]
   by_cases h2:c=116
   ·rw [if_pos (.inl h2),if_pos h2,h]
   ·rw [if_neg h2]
    by_cases h3:c=111
    ·have h4:tkn c=0:=by rw [h3];rfl
     have h5:met c (aS lv)=0:=by unfold met;rw [h4];rfl
     rw [if_pos (.inr h3),h,h5];rfl
    ·rw [if_neg (fun z=>z.elim h2 h3)]
theorem ou (y:Str) (b:Bool) (w:List Nat) (lv:List (List Int)) (cl:List Lp):aS (cT y b (bO w lv) cl).1=outs w (aS lv):=by rw [Im,wL]
def d7:Bool->List (List Int)->List Lp->List (Str×Str)->List Lp×List (List Int)
 | _,lv,cl,[]=>(cl,lv)
 | b,lv,cl,r :: rs=>d7 (!b) (cT r.1 b (bO r.2.cps.toList lv) cl).1 (cT r.1 b (bO r.2.cps.toList lv) cl).2 rs
theorem zB {c:Nat} {cs:List Int} (hk:okC cs) (hf:fits c cs):0<=met c cs/\met c cs<=4:=by
 by_cases h2:c=108\/c=114
 ·refine ⟨?_,hf.2.2 h2⟩
  have hs:∀ l:List Int,okC l->0<=l.sum:=by
   intro l
   induction l with
   | nil=>intro _;decide
   | cons a l ih=>
    intro h
    have h1:=h a List.mem_cons_self
    have h2:=ih fun x hx=>h x (List.mem_cons_of_mem _ hx)
    rw [List.sum_cons];omega
  exact hs _ fun x hx=>hk x (List.mem_of_mem_take hx)
 ·by_cases h3:c=111
  ·have h4:tkn c=0:=by rw [h3];rfl
   have h5:met c cs=0:=by unfold met;rw [h4];rfl
   omega
  ·have ht:tkn c=1:=by unfold tkn;rw [if_neg h3,if_neg h2]
   have h1:=hf.1
   rw [ht] at h1
   cases cs with
   | nil=>simp at h1
   | cons a r=>
    unfold met
    rw [ht]
    have:=hk a List.mem_cons_self
    show 0<=[a].sum/\[a].sum<=4
    simp;omega
theorem wF:∀ {w:List Nat} {lv:List (List Int)},bE w (aS lv) []->okC (aS lv)->∀ u∈bO w lv,u.1∈codes/\u.2.length<=4
 | [],_,_,_,u,hu=>by cases hu
 | c :: w,lv,h,hk,u,hu=>by
  rcases List.mem_cons.mp hu with rfl | hu
  ·refine ⟨h.1,?_⟩
   have h1:=uI c lv
   have h2:=zB hk h.2.1
   dsimp only
   omega
  ·have h3:=h.2.2
   rw [<-mn] at h3
   exact wF h3 (by rw [mn];exact hk.drop _) u hu
end Lw
namespace Lw
open PySem L2 DL
theorem mR (a b:List Int):iD (a++b)=iD a++iD b:=List.map_append
theorem qj (a b:List Lp):clD (a++b)=clD a++clD b:=List.map_append
theorem ED (a b:List (List Int)):lvD (a++b)=lvD a++lvD b:=List.map_append
theorem wt (a:List (List Int)):(lvD a).reverse=lvD a.reverse:=by unfold lvD;rw [List.map_reverse]
theorem join_loop (p0 p1 p2:Sl):∀ (ps:List (List Int)) (acc:List Int) (b4:Sl),acc.length + ps.flatten.length<=1000->∃ x4,bP (bo 4) (cq 3 (ae 4)) (lvD ps) [p0,p1,p2,.ow (iD acc),b4]=.ok .nx [p0,p1,p2,.ow (iD (acc++ps.flatten)),x4]
 | [],acc,b4,_=>⟨b4,by show Rs.ok Fl.nx _=Rs.ok Fl.nx [p0,p1,p2,.ow (iD (acc++[])),b4];rw [List.append_nil]⟩
 | p :: ps,acc,b4,h=>by
  rw [List.flatten_cons,List.length_append] at h
  obtain ⟨x4,e⟩:=join_loop p0 p1 p2 ps (acc++p) (.sh (.lst (iD p))) (by rw [List.length_append];omega)
  refine ⟨x4,dj (δ1:=[p0,p1,p2,.ow (iD acc),.sh (.lst (iD p))]) rfl (δ2:=[p0,p1,p2,.ow (iD (acc++p)),.sh (.lst (iD p))]) ?_ ?_⟩
  ·have g:(iD acc).length + (iD p).length<=sizeLine:=by rw [d8,d8];unfold sizeLine;omega
   rw [mR]
   exact gx rfl (aq rfl) rfl rfl g
  ·show bP (bo 4) (cq 3 (ae 4)) (lvD ps) _=_
   rw [e,List.flatten_cons,List.append_assoc]
theorem HL (ps:List (List Int)) (b:Bool) (h:ps.flatten.length<=100):jz [.lst (lvD ps),.bl b]=.own (iD (if b then ps.reverse.flatten else ps.flatten)):=by
 have g0:fW [.lst (lvD ps)]=some (.own (lvD ps)):=rfl
 unfold jz tf
 cases b with
 | false=>
  obtain ⟨x4,e⟩:=join_loop (.sh (.lst (lvD ps))) (.sh (.bl false)) (.sh (.lst (lvD ps))) ps [] .no (by rw [List.length_nil];omega)
  rw [List.nil_append] at e
  have g1:cQ (.lst (lvD ps))=some (lvD ps):=rfl
  apply cG
  walk_at "ev"
 | true=>
  have hl:ps.reverse.flatten.length=ps.flatten.length:=by
   have:((ps.reverse.flatten.length:Nat):Int)=((ps.flatten.length:Nat):Int):=by
    rw [i8,i8]
    unfold aS
    rw [List.map_reverse]
    exact List.sum_reverse _
   omega
  obtain ⟨x4,e⟩:=join_loop (.sh (.lst (lvD ps))) (.sh (.bl true)) (.sh (.lst (lvD ps.reverse))) ps.reverse [] .no (by rw [hl,List.length_nil];omega)
  rw [List.nil_append] at e
  have g1:cQ (.lst (lvD ps.reverse))=some (lvD ps.reverse):=rfl
  have s1:(fIf (aw (ae 1)) (fS 2) aN) [.sh (.lst (lvD ps)),.sh (.bl true),.ow (lvD ps),.no,.no]=.ok .nx [.sh (.lst (lvD ps)),.sh (.bl true),.ow (lvD ps.reverse),.no,.no]:=by
   rw [<-wt]
   apply Eq.trans
   walk_at "ev"
  apply cG
  apply aB
  ·walk_at "ev"
  apply aI
  apply aB
  ·exact s1
  apply aI
  walk_at "ev"
def Gives (r:Rn) (l:List Int) (ms:List D):Prop:=r=.ok (.lst (iD l)) [ms]\/r=.own (iD l) [ms]
theorem wJ (c:Nat):gIn (.str (ch c)) (.tup [.str (Str.ofString "t"),.str (Str.ofString "o")])=some (.val (.bl (decide (c=116\/c=111)))):=by
 show some (DV.val (.bl (ko (ch c) [Str.ofString "t",Str.ofString "o"])))=_
 rw [lW,iA]
 congr 3
 show (decide (ch 116=ch c)||(decide (ch 111=ch c)||false))=_
 have q:∀ a b:Nat,decide (ch a=ch b)=decide (b=a):=fun a b=>by
  by_cases h:b=a
  ·subst h;simp
  ·rw [decide_eq_false h,decide_eq_false]
   intro e
   exact h (by injection e with e;injection e with e;injection e with e;exact e.symm)
 rw [q,q]
 by_cases h:c=116 <;> by_cases h':c=111 <;> simp [h,h']
theorem AR (c:Nat) (y:Str) (ps:List (List Int)) (cl:List Lp) (h:ps.flatten.length<=100) (hc:cl.length<=1000):Gives (jC [.str (ch c),.str y,.lst (lvD ps),.non] [clD cl]) (dZ c (bF c ps) (cl.length:Int)) (clD (cl++dt y c (bF c ps))):=by
 have hl:(bF c ps).length<=100:=by
  unfold bF
  split
  ·have:((ps.reverse.flatten.length:Nat):Int)=((ps.flatten.length:Nat):Int):=by
    rw [i8,i8]
    unfold aS
    rw [List.map_reverse]
    exact List.sum_reverse _
   omega
  ·exact h
 have e1:gEq (.str (ch c)) (.str (Str.ofString "r"))=some (.val (.bl (decide (c=114)))):=by rw [qh];exact eS c 114
 have e2:gEq (.str (ch c)) (.str (Str.ofString "s"))=some (.val (.bl (decide (c=115)))):=by rw [ju];exact eS c 115
 have e3:gEq (.str (ch c)) (.str (Str.ofString "p"))=some (.val (.bl (decide (c=112)))):=by rw [mG];exact eS c 112
 have e4:=wJ c
 have g1:=HL ps (decide (c=114)) h
 have eu:(if decide (c=114)=true then ps.reverse.flatten else ps.flatten)=bF c ps:=by
  unfold bF
  by_cases h:c=114 <;> simp [h]
 rw [eu] at g1
 have g2:bq [.lst (clD cl)]=some (.val (.int (cl.length:Int))):=by
  show some (DV.val (.int _))=_
  rw [nM]
 have g3:(clD cl).length < sizeLine:=by rw [nM];unfold sizeLine;omega
 have g4:(iD (bF c ps)).length + ([D.int (cl.length:Int)]:List D).length<=sizeLine:=by rw [d8];show _ + 1<=_;unfold sizeLine;omega
 have g5:nt [.lst (iD (bF c ps))]=some (.val (.tup (iD (bF c ps)))):=rfl
 have s1:(aG 4 (aF 2 (af (ae 2) (af (ah (ae 0) (fC (.str "r")) gEq) ai)) jz)) [.sh (.str (ch c)),.sh (.str y),.sh (.lst (lvD ps)),.ow (clD cl),.no,.no,.no]=.ok .nx [.sh (.str (ch c)),.sh (.str y),.sh (.lst (lvD ps)),.ow (clD cl),.sh (.lst (iD (bF c ps))),.no,.no]:=by
  apply Eq.trans
  walk_at "ev"
 unfold dZ dt Gives jC uC
 by_cases h1:c=115
 ·have d1:decide (c=115)=true:=decide_eq_true h1
  rw [if_pos h1,if_pos h1,List.append_nil]
  left
  apply AB
  ·apply aB
   ·exact s1
   apply aI
   walk_at "ev"
  ·rfl
 ·have d1:decide (c=115)=false:=decide_eq_false h1
  rw [if_neg h1,if_neg h1]
  right
  by_cases h2:c=116\/c=111
  ·have d2:decide (c=116\/c=111)=true:=decide_eq_true h2
   rw [if_pos h2,if_pos h2,mR,qj]
   apply mH
   ·apply aB
    ·exact s1
    apply aI
    walk_at "ev"
   ·rfl
  ·have d2:decide (c=116\/c=111)=false:=decide_eq_false h2
   rw [if_neg h2,if_neg h2,qj]
   by_cases h3:c=112
   ·have d3:decide (c=112)=true:=decide_eq_true h3
    rw [if_pos h3]
    apply mH
    ·apply aB
     ·exact s1
     apply aI
     walk_at "ev"
    ·rfl
   ·have d3:decide (c=112)=false:=decide_eq_false h3
    rw [if_neg h3]
    apply mH
    ·apply aB
     ·exact s1
     apply aI
     walk_at "ev"
    ·rfl
end Lw
namespace Lw
open PySem L2 DL
def stT:List Nat->Nat->List (Nat×Nat)
 | [],_=>[]
 | c :: w,a=>(c,a) :: stT w (a + tkn c)
def stD (u:Nat×Nat):D:=.tup [.str (ch u.1),.int (u.2:Int),.int ((u.2:Int) + (tkn u.1:Nat))]
theorem vG:∀ (w:List Nat) (a:Nat),gE w (a:Int)=(stT w a).map stD
 | [],_=>rfl
 | c :: w,a=>by
  show stD (c,a) :: gE w ((a:Int) + (tkn c:Nat))=stD (c,a) :: (stT w (a + tkn c)).map stD
  have:(a:Int) + (tkn c:Nat)=((a + tkn c:Nat):Int):=by omega
  rw [this,vG w]
def eo (lv:List (List Int)) (u:Nat×Nat):Nat×List Int:=(u.1,bF u.1 ((lv.drop u.2).take (tkn u.1)))
theorem yJ (lv:List (List Int)):∀ (w:List Nat) (a:Nat),(stT w a).map (eo lv)=bO w (lv.drop a)
 | [],_=>rfl
 | c :: w,a=>by
  show eo lv (c,a) :: (stT w (a + tkn c)).map (eo lv)=(c,bF c ((lv.drop a).take (tkn c))) :: bO w ((lv.drop a).drop (tkn c))
  rw [yJ lv w,List.drop_drop]
  rfl
theorem D9 {lv:List (List Int)} {a n:Nat} (h:a + n<=lv.length):gI (.lst (lvD lv)) (some (a:Int)) (some ((a:Int) + (n:Nat)))=some (.own (lvD ((lv.drop a).take n))):=by
 rw [lh]
 have e1:HT.sIx (lvD lv).length 0 (some (a:Int))=a:=by
  rw [HT.jw,lG];omega
 have e2:HT.sIx (lvD lv).length (lvD lv).length (some ((a:Int) + (n:Nat)))=a + n:=by
  have q:(a:Int) + (n:Nat)=((a + n:Nat):Int):=by omega
  rw [q,HT.jw,lG];omega
 unfold cutD
 rw [e1,e2,Nat.add_sub_cancel_left]
 unfold lvD
 rw [<-List.map_drop,<-List.map_take]
def ny:DM Fl:=(bR 5 (iU 4 [3] (af (ae 6) (af (ah (ae 0) (fC (.int 1)) gIx) (af (eT (ae 2) (cV (ae 7)) (cV (ae 8))) (af (ae 3) ai)))) jC))
theorem qu (r:Str×Str) (p1 p4:Sl) (lv:List (List Int)):∀ (us:List (Nat×Nat)) (cl:List Lp) (bh:List (List Int)) (b6 b7 b8:Sl),(∀ u∈us,u.2 + tkn u.1<=lv.length/\((lv.drop u.2).take (tkn u.1)).flatten.length<=100)->cl.length + us.length<=1000->bh.length + us.length<=1000->∃ x6 x7 x8,
  bP (cY [6,7,8]) ny (us.map stD) [.sh (aP r),p1,.sh (.lst (lvD lv)),.ow (clD cl),p4,.ow (lvD bh),b6,b7,b8]=.ok .nx [.sh (aP r),p1,.sh (.lst (lvD lv)),.ow (clD (c5 r.1 (us.map (eo lv)) cl).2),p4,.ow (lvD (bh++(c5 r.1 (us.map (eo lv)) cl).1)),x6,x7,x8]
 | [],cl,bh,b6,b7,b8,_,_,_=>⟨b6,b7,b8,by show Rs.ok Fl.nx _=Rs.ok Fl.nx [_,p1,_,_,p4,.ow (lvD (bh++[])),b6,b7,b8];rw [List.append_nil];rfl⟩
 | u :: us,cl,bh,b6,b7,b8,h,h1,h2=>by
  rw [List.length_cons] at h1 h2
  obtain ⟨hu1,hu2⟩:=h u List.mem_cons_self
  have ha:=uT r.1 u.1 (eo lv u).2
  obtain ⟨x6,x7,x8,e⟩:=qu r p1 p4 lv us (cl++dt r.1 u.1 (eo lv u).2) (bh++[dZ u.1 (eo lv u).2 (cl.length:Int)]) (.sh (.str (ch u.1))) (.sh (.int (u.2:Int))) (.sh (.int ((u.2:Int) + (tkn u.1:Nat)))) (fun v hv=>h v (List.mem_cons_of_mem _ hv)) (by rw [List.length_append];omega) (by rw [List.length_append,List.length_singleton];omega)
  refine ⟨x6,x7,x8,?_⟩
  rw [List.map_cons]
  refine dj (δ1:=[.sh (aP r),p1,.sh (.lst (lvD lv)),.ow (clD cl),p4,.ow (lvD bh),.sh (.str (ch u.1)),.sh (.int (u.2:Int)),.sh (.int ((u.2:Int) + (tkn u.1:Nat)))]) rfl
   (δ2:=[.sh (aP r),p1,.sh (.lst (lvD lv)),.ow (clD (cl++dt r.1 u.1 (eo lv u).2)),p4,.ow (lvD (bh++[dZ u.1 (eo lv u).2 (cl.length:Int)])),.sh (.str (ch u.1)),.sh (.int (u.2:Int)),.sh (.int ((u.2:Int) + (tkn u.1:Nat)))]) ?_ ?_
  ·have g1:=D9 hu1
   have g2:=AR u.1 r.1 ((lv.drop u.2).take (tkn u.1)) cl hu2 (by omega)
   have g3:(lvD bh).length < sizeLine:=by rw [lG];unfold sizeLine;omega
   have g4:lvD (bh++[dZ u.1 (eo lv u).2 (cl.length:Int)])=lvD bh++[.lst (iD (dZ u.1 (eo lv u).2 (cl.length:Int)))]:=ED _ _
   rw [g4]
   have g5:gIx (aP r) (.int 1)=some (.val (.str r.1)):=rfl
   have ha:(af (ae 6) (af (ah (ae 0) (fC (.int 1)) gIx) (af (eT (ae 2) (cV (ae 7)) (cV (ae 8))) (af (ae 3) ai)))) [.sh (aP r),p1,.sh (.lst (lvD lv)),.ow (clD cl),p4,.ow (lvD bh),.sh (.str (ch u.1)),.sh (.int (u.2:Int)),.sh (.int ((u.2:Int) + (tkn u.1:Nat)))] =
     .ok [.val (.str (ch u.1)),.val (.str r.1),.val (.lst (lvD ((lv.drop u.2).take (tkn u.1)))),.slot 3] [.sh (aP r),p1,.sh (.lst (lvD lv)),.ow (clD cl),p4,.ow (lvD bh),.sh (.str (ch u.1)),.sh (.int (u.2:Int)),.sh (.int ((u.2:Int) + (tkn u.1:Nat)))]:=by
    apply Eq.trans
    walk_at "ev"
   unfold ny
   rcases g2 with g2 | g2
   ·exact jh (i:=5) (es:=lvD bh) (ds:=lvD bh) rfl (mX (is:=[3]) (js:=[3]) (mss:=[clD cl]) (ds:=[.str (ch u.1),.str r.1,.lst (lvD ((lv.drop u.2).take (tkn u.1))),.non]) ha rfl (by decide) rfl rfl rfl g2 zK) rfl rfl g3
   ·exact jh (i:=5) (es:=lvD bh) (ds:=lvD bh) rfl (mX (is:=[3]) (js:=[3]) (mss:=[clD cl]) (ds:=[.str (ch u.1),.str r.1,.lst (lvD ((lv.drop u.2).take (tkn u.1))),.non]) ha rfl (by decide) rfl rfl rfl g2 rK) rfl rfl g3
  ·rw [e,List.append_assoc];rfl
end Lw
namespace Lw
open PySem L2 DL
theorem vR {lv:List (List Int)} (hk:okC (aS lv)):∀ {w:List Nat} {a:Nat},a<=lv.length->bE w (aS (lv.drop a)) []->∀ u∈stT w a,u.2 + tkn u.1<=lv.length/\((lv.drop u.2).take (tkn u.1)).flatten.length<=100
 | [],_,_,_,u,hu=>by cases hu
 | c :: w,a,ha,h,u,hu=>by
  obtain ⟨h1,h2,h3⟩:=h
  have hle:=h2.1
  rw [nD,List.length_drop] at hle
  rcases List.mem_cons.mp hu with rfl | hu
  ·refine ⟨by dsimp only;omega,?_⟩
   have h4:=zB (by rw [mn];exact hk.drop _) h2
   have h5:=i8 ((lv.drop a).take (tkn c))
   rw [v3] at h5
   have h6:((((lv.drop a).take (tkn c)).flatten.length:Nat):Int)=met c (aS (lv.drop a)):=h5
   dsimp only
   omega
  ·rw [<-mn,List.drop_drop] at h3
   exact vR hk (by omega) h3 u hu
theorem uq:∀ (w:List Nat) (a:Nat),(stT w a).length=w.length
 | [],_=>rfl
 | c :: w,a=>by show (stT w _).length + 1=w.length + 1;rw [uq w]
theorem Fs (r:Str×Str) (b:Bool) (lv:List (List Int)) (cl:List Lp) (hx:r.2.length<=16) (he:bE r.2.cps.toList (aS lv) []) (hk:okC (aS lv)) (hc:cl.length<=500) :
  jX [aP r,.bl b,.lst (lvD lv),.non] [clD cl]=.own (lvD (cT r.1 b (bO r.2.cps.toList lv) cl).1) [clD (cT r.1 b (bO r.2.cps.toList lv) cl).2]:=by
 have hxl:r.2.cps.toList.length=r.2.length:=by simp [Str.length]
 have g1:=lV (kO he) (by omega)
 have e0:gE r.2.cps.toList 0=(stT r.2.cps.toList 0).map stD:=vG r.2.cps.toList 0
 rw [e0] at g1
 have hst:=vR hk (Nat.zero_le _) (by simpa using he)
 have hsl:=uq r.2.cps.toList 0
 have hun:(stT r.2.cps.toList 0).map (eo lv)=bO r.2.cps.toList lv:=by have:=yJ lv r.2.cps.toList 0;simpa using this
 have g2:gIx (aP r) (.int 2)=some (.val (.str r.2)):=rfl
 unfold jX x9 cT
 cases b with
 | false=>
  obtain ⟨x6,x7,x8,e⟩:=qu r (.sh (.bl false)) (.sh (.lst ((stT r.2.cps.toList 0).map stD))) lv (stT r.2.cps.toList 0) cl [] .no .no .no hst (by omega) (by rw [List.length_nil];omega)
  rw [hun,List.nil_append] at e
  have g3:cQ (.lst ((stT r.2.cps.toList 0).map stD))=some ((stT r.2.cps.toList 0).map stD):=rfl
  unfold ny at e
  rw [if_neg (by simp)]
  apply mH
  ·walk_at "ev"
  ·rfl
 | true=>
  obtain ⟨x6,x7,x8,e⟩:=qu r (.sh (.bl true)) (.sh (.lst ((stT r.2.cps.toList 0).reverse.map stD))) lv (stT r.2.cps.toList 0).reverse cl [] .no .no .no (fun u hu=>hst u (List.mem_reverse.mp hu)) (by rw [List.length_reverse];omega) (by rw [List.length_reverse,List.length_nil];omega)
  rw [List.map_reverse (f:=eo lv),hun,List.nil_append] at e
  have g3:cQ (.lst ((stT r.2.cps.toList 0).reverse.map stD))=some ((stT r.2.cps.toList 0).reverse.map stD):=rfl
  have er:((stT r.2.cps.toList 0).map stD).reverse=(stT r.2.cps.toList 0).reverse.map stD:=by rw [List.map_reverse]
  unfold ny at e
  rw [if_pos rfl]
  have s2:(fIf (aw (ae 1)) (fS 4) aN) [.sh (aP r),.sh (.bl true),.sh (.lst (lvD lv)),.ow (clD cl),.ow ((stT r.2.cps.toList 0).map stD),.no,.no,.no,.no]=.ok .nx [.sh (aP r),.sh (.bl true),.sh (.lst (lvD lv)),.ow (clD cl),.ow ((stT r.2.cps.toList 0).reverse.map stD),.no,.no,.no,.no]:=by
   rw [<-er]
   apply Eq.trans
   walk_at "ev"
  rw [<-wt]
  apply mH
  ·apply aB
   ·walk_at "ev"
   apply aI
   apply aB
   ·exact s2
   apply aI
   apply aB
   ·walk_at "ev"
   apply aI
   apply aB
   ·exact fP (gh (aq rfl) rfl g3) e
   apply aI
   walk_at "ev"
  ·rfl
def eY (many:Int) (y:Str):List Lp:=List.replicate many.toNat (y,Str.ofString "t",[])
def d5 (many:Int):List (List Int):=(List.range many.toNat).map fun (k:Nat)=>[(k:Int)]
theorem j2 (many:Int):aS (d5 many)=List.replicate many.toNat 1:=by
 unfold aS d5
 rw [List.map_map]
 apply List.ext_getElem?
 intro i
 rw [List.getElem?_map,List.getElem?_replicate]
 by_cases h:i < many.toNat
 ·rw [List.getElem?_range h,if_pos h];rfl
 ·rw [List.getElem?_eq_none (by simpa using h),if_neg h];rfl
theorem Ii (n:Nat) (hn:n<=100):cv (bo 0) (.ret true) (bB (af (ae 0) ai)) (bN 0 n) [.no] []=some (lvD ((List.range n).map fun (k:Nat)=>[(k:Int)])):=by
 rw [comp_map (g:=fun d=>.lst [d]) _ .no (by rw [jD];unfold sizeLine;omega) ?_]
 ·unfold bN lvD
  rw [List.map_map,List.map_map]
  congr 1
  apply List.map_congr_left
  intro k _
  show D.lst [.int (0 + (k:Int))]=D.lst [.int (k:Int)]
  rw [Int.zero_add]
 ·intro d hd;rfl
theorem Hx {α β:Type} (f:α->β) (n:Nat) (g:Nat->β) (a:α) (h:∀ k,g k=f a):(List.range n).map g=(List.replicate n a).map f:=by
 apply List.ext_getElem?
 intro i
 rw [List.getElem?_map,List.getElem?_map,List.getElem?_replicate]
 by_cases hi:i < n
 ·rw [List.getElem?_range hi,if_pos hi];show some (g i)=some (f a);rw [h]
 ·rw [List.getElem?_eq_none (by simpa using hi),if_neg hi];rfl
theorem zW (many:Int) (y:Str) (n:Nat) (hn:n<=100):cv (bo 0) (.ret true) (br (af (ah (ae 1) (fC (.int 2)) gIx) (af (fC (.str "t")) (af (br ai) ai)))) (bN 0 n) [.no,.sh (bL many y)] []=some (clD (List.replicate n (y,Str.ofString "t",[]))):=by
 rw [comp_map (g:=fun _=>lpD (y,Str.ofString "t",[])) _ .no (by rw [jD];unfold sizeLine;omega) ?_]
 ·unfold bN clD
  rw [List.map_map]
  congr 1
  exact Hx lpD n _ _ fun _=>rfl
 ·intro d hd;rfl
def qC:DM Fl:=(ak (aG 3 (iU 4 [3] (af (ae 5) (af (ae 4) (af (ae 3) (af (ae 2) ai)))) jX))
  (aG 4 (gf (ae 4))))
theorem tQ (p0 p1:Sl):∀ (rs:List (Str×Str)) (b:Bool) (lv:List (List Int)) (cl:List Lp) (b5:Sl),dI (aS lv) rs->okC (aS lv)->cl.length + 16 * rs.length<=500->∃ x4 x5,
  bP (bo 5) qC (rs.map aP) [p0,p1,.ow (clD cl),.sh (.lst (lvD lv)),.sh (.bl b),b5]=.ok .nx [p0,p1,.ow (clD (d7 b lv cl rs).1),.sh (.lst (lvD (d7 b lv cl rs).2)),x4,x5]
 | [],b,lv,cl,b5,_,_,_=>⟨_,b5,rfl⟩
 | r :: rs,b,lv,cl,b5,h,hk,hc=>by
  obtain ⟨h1,h2,h3,h4⟩:=h
  rw [List.length_cons] at hc
  have g1:=Fs r b lv cl h1 h3 hk (by omega)
  have hl:=ou r.1 b r.2.cps.toList lv cl
  have hcl:=yQ r.1 b (bO r.2.cps.toList lv) cl
  have hxl:r.2.cps.toList.length=r.2.length:=by simp [Str.length]
  rw [sD] at hcl
  obtain ⟨x4,x5,e⟩:=tQ p0 p1 rs (!b) (cT r.1 b (bO r.2.cps.toList lv) cl).1 (cT r.1 b (bO r.2.cps.toList lv) cl).2 (.sh (aP r)) (by rw [hl];exact h4) (by rw [hl];exact mS h3 hk) (by omega)
  refine ⟨x4,x5,?_⟩
  rw [List.map_cons]
  refine dj rfl (δ2:=[p0,p1,.ow (clD (cT r.1 b (bO r.2.cps.toList lv) cl).2),.sh (.lst (lvD (cT r.1 b (bO r.2.cps.toList lv) cl).1)),.sh (.bl (!b)),.sh (aP r)]) ?_ e
  unfold qC
  have ha:(af (ae 5) (af (ae 4) (af (ae 3) (af (ae 2) ai)))) [p0,p1,.ow (clD cl),.sh (.lst (lvD lv)),.sh (.bl b),.sh (aP r)]=.ok [.val (aP r),.val (.bl b),.val (.lst (lvD lv)),.slot 2] [p0,p1,.ow (clD cl),.sh (.lst (lvD lv)),.sh (.bl b),.sh (aP r)]:=by
   apply Eq.trans
   walk_at "ev"
  apply aB
  ·exact cf (mX (is:=[3]) (js:=[2]) (mss:=[clD cl]) (ds:=[aP r,.bl b,.lst (lvD lv),.non]) ha rfl (by decide) rfl rfl rfl g1 rK) rfl
  apply aI
  apply Eq.trans
  walk_at "ev"
theorem E9 {body:DM Fl} {n:Nat} {ds:List D} {δ1:DSt} (h:body (ds.map .sh++List.replicate (n - ds.length) .no)=.ok .nx δ1):bz body n ds=.ok .non:=by unfold bz;rw [h]
theorem vM {f:DM DV} {δ δ1:DSt} {a:DV} (h:f δ=.ok a δ1):eR f δ=.ok .nx δ1:=by unfold eR DM.bd DM.ret;simp only [h]
theorem yi {many:Int} {y:Str} {rs:List (Str×Str)} (h1:1<=many) (h2:many<=16) (hr:dI (List.replicate many.toNat 1) rs) (hn:rs.length<=20):iW [.lst (bL many y :: rs.map aP)]=.ok .non:=by
 have g1:=Cu (y:=y) h1 h2 hr hn
 have g2:gNe (.str (Str.ofString "good")) (.str (Str.ofString "good"))=some (.val (.bl false)):=eN (fJ 8 _ rfl)
 unfold iW vf
 apply E9
 walk_at "ev"
theorem Hz {many:Int} {y:Str} {rs:List (Str×Str)} (h1:1<=many) (h2:many<=16) (hr:dI (List.replicate many.toNat 1) rs) (hn:rs.length<=20) :
  j1 [.lst (bL many y :: rs.map aP)]=.ok (.tup [.lst (clD (d7 true (d5 many) (eY many y) rs).1),.lst (lvD (d7 true (d5 many) (eY many y) rs).2)]):=by
 have g0:gIx (.lst (bL many y :: rs.map aP)) (.int 0)=some (.val (bL many y)):=nC
 have gN:=yi (y:=y) h1 h2 hr hn
 have g3:gI (.lst (bL many y :: rs.map aP)) (some 1) none=some (.own (rs.map aP)):=by
  rw [lh]
  unfold cutD
  have a1:HT.sIx (bL many y :: rs.map aP).length 0 (some 1)=1:=by
   have:=HT.jw (bL many y :: rs.map aP).length 0 1
   rw [List.length_cons] at this ⊢
   exact this.trans (by omega)
  rw [a1,HT.sj]
  show some (DV.own (List.take _ (rs.map aP)))=_
  rw [List.take_of_length_le (by rw [List.length_cons];omega)]
 have g4:=zW many y many.toNat (by omega)
 have g5:=Ii many.toNat (by omega)
 have g6:fI many=true:=iM (by omega) (by omega)
 have g7:cQ (.lst (rs.map aP))=some (rs.map aP):=rfl
 have hone:okC (List.replicate many.toNat 1):=fun x hx=>by rw [List.eq_of_mem_replicate hx];omega
 obtain ⟨x4,x5,e⟩:=tQ (.sh (.lst (bL many y :: rs.map aP))) (.sh (bL many y)) rs true (d5 many) (eY many y) .no (by rw [j2];exact hr) (by rw [j2];exact hone) (by unfold eY;rw [List.length_replicate];omega)
 have g8:gIx (bL many y) (.int 1)=some (.val (.int many)):=rfl
 unfold qC at e
 unfold j1 zu
 apply fZ
 apply aB
 ·exact vM (iT (av (aq rfl) aE) rfl rfl gN)
 apply aI
 apply aB
 ·walk_at "ev"
 apply aI
 apply aB
 ·exact fX (jq (kT (av (aL (aq rfl) aH rfl rfl g8) aE) rfl g6) g4)
 apply aI
 apply aB
 ·exact cf (jq (kT (av (aL (aq rfl) aH rfl rfl g8) aE) rfl g6) g5) rfl
 apply aI
 walk_at "ev"
end Lw
namespace Lw
open PySem L2 DL
inductive Dd where
 | ky (k r:Str) (a:Int) (y:Str)
 | mv (r:Str) (a t:Int)
def Dd.D:Dd->D
 | .ky k r a y=>.tup [.str k,.str r,.int a,.str y]
 | .mv r a t=>.tup [.str "move",.str r,.int a,.int t]
def Dd.at:Dd->Int
 | .ky _ _ a _=>a
 | .mv _ a _=>a
def ej (r:Str):Prop:=r=Str.ofString "f"\/r=Str.ofString "b"
def Dd.ok:Dd->Prop
 | .ky k r a y=>(k=Str.ofString "knit"\/k=Str.ofString "tuck")/\ej r/\0<=a/\a<=15/\y∈fj
 | .mv r a t=>ej r/\0<=a/\a<=15/\0<=t/\t<=15
end Lw
namespace Lw
open PySem L2 DL
def hk (r:Str) (a:Int):Int:=if r=Str.ofString "f" then a else 16 + a
def other (r:Str):Str:=if r=Str.ofString "f" then Str.ofString "b" else Str.ofString "f"
theorem sv (r:Str):ej (other r):=by
 unfold other
 split
 ·exact .inr rfl
 ·exact .inl rfl
theorem iN {r:Str} {a:Int} (h0:0<=a) (h1:a<=15):0<=hk r a/\hk r a < 32:=by
 unfold hk
 split <;> omega
end Lw
namespace Lw
open PySem L2 DL
def hAt (hs:List (List Int)) (i:Int):List Int:=hs.getD i.toNat []
theorem Dv {hs:List (List Int)} {i:Int} (h:i.toNat < hs.length):hs[i.toNat]?=some (hAt hs i):=by
 unfold hAt
 rw [List.getD_eq_getElem?_getD,List.getElem?_eq_getElem h];rfl
def cA (hs:List (List Int)):Dd->Option Str
 | .ky k r a _=>if k=Str.ofString "knit"/\hAt hs (hk r a)=[] then some (Str.ofString "empty") else if k=Str.ofString "tuck"/\(hAt hs (hk r a)).length=4 then some (Str.ofString "full") else none
 | .mv r a t=>if a - t > 2\/t - a > 2 then some (Str.ofString "far") else if hAt hs (hk r a)=[] then some (Str.ofString "empty") else if (hAt hs (hk r a)).length + (hAt hs (hk (other r) t)).length > 4 then some (Str.ofString "full") else none
end Lw
namespace Lw
open PySem L2 DL
def doF (hs:List (List Int)) (cl:List Lp):Dd->List (List Int)×List Lp
 | .mv r a t=>(((hs.set (hk (other r) t).toNat (hAt hs (hk (other r) t)++hAt hs (hk r a))).set (hk r a).toNat []),cl)
 | .ky k r a y=>if k=Str.ofString "tuck" then (hs.set (hk r a).toNat (hAt hs (hk r a)++[(cl.length:Int)]),cl++[(y,Str.ofString "t",[])])
   else (hs.set (hk r a).toNat [(cl.length:Int)],cl++[(y,if r=Str.ofString "f" then Str.ofString "k" else Str.ofString "p",hAt hs (hk r a))])
end Lw
namespace Lw
open PySem L2 DL
inductive Bed:List (List Int)->List Lp->Nat->Prop
 | start:Bed (List.replicate 32 []) [] 0
 | step {hs:List (List Int)} {cl:List Lp} {n:Nat} {d:Dd}:Bed hs cl n->d.ok->cA hs d=none->Bed (doF hs cl d).1 (doF hs cl d).2 (n + 1)
 | skip {hs:List (List Int)} {cl:List Lp} {n:Nat}:Bed hs cl n->Bed hs cl (n + 1)
theorem nQ {hs:List (List Int)} {i:Int} (h:i.toNat < hs.length):hAt hs i∈hs:=List.mem_of_getElem? (Dv h)
theorem Bed.size {hs:List (List Int)} {cl:List Lp} {n:Nat} (h:Bed hs cl n):hs.length=32/\(∀ l∈hs,l.length<=4)/\cl.length<=n:=by
 induction h with
 | start=>exact ⟨List.length_replicate,fun l hl=>by rw [List.eq_of_mem_replicate hl];exact Nat.zero_le _,Nat.le_refl _⟩
 | skip h ih=>exact ⟨ih.1,ih.2.1,by omega⟩
 | @step hs cl n d h hd hw ih=>
  obtain ⟨i1,i2,i3⟩:=ih
  cases d with
  | mv r a t=>
   obtain ⟨hr,ha0,ha1,ht0,ht1⟩:=hd
   have b2:=iN (r:=other r) ht0 ht1
   have hw':(if a - t > 2\/t - a > 2 then some (Str.ofString "far") else if hAt hs (hk r a)=[] then some (Str.ofString "empty") else if (hAt hs (hk r a)).length + (hAt hs (hk (other r) t)).length > 4 then some (Str.ofString "full") else none)=none:=hw
   have h4:(hAt hs (hk r a)).length + (hAt hs (hk (other r) t)).length<=4:=by
    split at hw'
    ·cases hw'
    ·split at hw'
     ·cases hw'
     ·split at hw'
      ·cases hw'
      ·omega
   refine ⟨?_,fun l hl=>?_,by show cl.length<=n + 1;omega⟩
   ·show ((hs.set _ _).set _ _).length=32
    rw [List.length_set,List.length_set];exact i1
   ·rcases List.mem_or_eq_of_mem_set (show l∈(hs.set _ _).set _ _ from hl) with z | z
    ·rcases List.mem_or_eq_of_mem_set z with z | z
     ·exact i2 l z
     ·rw [z,List.length_append];omega
    ·rw [z];exact Nat.zero_le _
  | ky k r a y=>
   obtain ⟨hk',hr,ha0,ha1,hy⟩:=hd
   have b1:=iN (r:=r) ha0 ha1
   have hw':(if k=Str.ofString "knit"/\hAt hs (hk r a)=[] then some (Str.ofString "empty") else if k=Str.ofString "tuck"/\(hAt hs (hk r a)).length=4 then some (Str.ofString "full") else none)=none:=hw
   have l4:=i2 _ (nQ (hs:=hs) (i:=hk r a) (by omega))
   have hdo:doF hs cl (.ky k r a y)=if k=Str.ofString "tuck" then (hs.set (hk r a).toNat (hAt hs (hk r a)++[(cl.length:Int)]),cl++[(y,Str.ofString "t",[])])
    else (hs.set (hk r a).toNat [(cl.length:Int)],cl++[(y,if r=Str.ofString "f" then Str.ofString "k" else Str.ofString "p",hAt hs (hk r a))]):=rfl
   rw [hdo]
   by_cases ht:k=Str.ofString "tuck"
   ·have h4:(hAt hs (hk r a)).length≠4:=fun z=>by
     split at hw'
     ·cases hw'
     ·rw [if_pos ⟨ht,z⟩] at hw';cases hw'
    rw [if_pos ht]
    refine ⟨by show (hs.set _ _).length=32;rw [List.length_set];exact i1,fun l hl=>?_,by show (cl++[_]).length<=n + 1;rw [List.length_append,List.length_singleton];omega⟩
    rcases List.mem_or_eq_of_mem_set (show l∈hs.set _ _ from hl) with z | z
    ·exact i2 l z
    ·rw [z,List.length_append,List.length_singleton];omega
   ·rw [if_neg ht]
    refine ⟨by show (hs.set _ _).length=32;rw [List.length_set];exact i1,fun l hl=>?_,by show (cl++[_]).length<=n + 1;rw [List.length_append,List.length_singleton];omega⟩
    rcases List.mem_or_eq_of_mem_set (show l∈hs.set _ _ from hl) with z | z
    ·exact i2 l z
    ·rw [z];show 1<=4;omega
end Lw
namespace Lw
open PySem L2 DL
def dlD (ds:List Dd):List D:=ds.map Dd.D
theorem dM (ds:List Dd):(dlD ds).length=ds.length:=List.length_map _
theorem iO (a b:List Dd):dlD (a++b)=dlD a++dlD b:=List.map_append
end Lw
namespace Lw
open PySem L2 DL
theorem nk:¬ Str.ofString "b"=Str.ofString "f":=by decide +kernel
theorem ni:¬ Str.ofString "knit"=Str.ofString "tuck":=by decide +kernel
theorem EZ:¬ Str.ofString "tuck"=Str.ofString "knit":=by decide +kernel
def aO:List (List Int)->List Lp->List Dd->Option (List (List Int)×List Lp)
 | hs,cl,[]=>some (hs,cl)
 | hs,cl,d :: ds=>match cA hs d with
  | none=>aO (doF hs cl d).1 (doF hs cl d).2 ds
  | some _=>none
theorem lu {hs:List (List Int)} {cl:List Lp} {d:Dd} {ds:List Dd} (h:cA hs d=none):aO hs cl (d :: ds)=aO (doF hs cl d).1 (doF hs cl d).2 ds:=by
 show (match cA hs d with | none=>_ | some _=>_)=_
 rw [h]
def up (F:Nat->List Int) (i:Nat) (x:List Int):Nat->List Int:=fun j=>if j=i then x else F j
theorem ck (F:Nat->List Int) (i:Nat) (x:List Int):up F i x i=x:=if_pos rfl
theorem cj {F:Nat->List Int} {i j:Nat} {x:List Int} (h:j≠i):up F i x j=F j:=if_neg h
def nil:Nat->List Int:=fun _=>[]
def hl (F B:Nat->List Int):List (List Int):=(List.range 32).map fun i=>if i < 16 then F i else B (i - 16)
theorem xf (F B:Nat->List Int) (i:Nat) (h:i < 32):(hl F B).getD i []=if i < 16 then F i else B (i - 16):=by
 unfold hl
 rw [List.getD_eq_getElem?_getD,List.getElem?_map,List.getElem?_range h]
 rfl
theorem ym (F B:Nat->List Int) (i:Nat) (x:List Int):(hl F B).set i x=(List.range 32).map fun j=>if j=i then x else if j < 16 then F j else B (j - 16):=by
 apply List.ext_getElem?
 intro j
 unfold hl
 by_cases hj:j < 32
 ·rw [List.getElem?_map,List.getElem?_range hj]
  by_cases e:i=j
  ·subst e
   rw [List.getElem?_set_self (by rw [List.length_map,List.length_range];exact hj)]
   simp
  ·rw [List.getElem?_set_ne e,List.getElem?_map,List.getElem?_range hj]
   have:¬ j=i:=fun z=>e z.symm
   simp [this]
 ·rw [List.getElem?_eq_none (by rw [List.length_set,List.length_map,List.length_range];omega),List.getElem?_eq_none (by rw [List.length_map,List.length_range];omega)]
theorem mP (F B:Nat->List Int) (i:Nat) (x:List Int) (h:i < 16):(hl F B).set i x=hl (up F i x) B:=by
 rw [ym]
 unfold hl
 apply List.map_congr_left
 intro j _
 by_cases e:j=i
 ·subst e
  rw [if_pos rfl,if_pos h,ck]
 ·rw [if_neg e,cj e]
theorem pL (F B:Nat->List Int) (i:Nat) (x:List Int):(hl F B).set (16 + i) x=hl F (up B i x):=by
 rw [ym]
 unfold hl
 apply List.map_congr_left
 intro j _
 by_cases e:j=16 + i
 ·subst e
  rw [if_pos rfl,if_neg (by omega),show 16 + i - 16=i by omega,ck]
 ·rw [if_neg e]
  by_cases hj:j < 16
  ·rw [if_pos hj,if_pos hj]
  ·rw [if_neg hj,if_neg hj,cj (by omega)]
theorem ik (F B:Nat->List Int) (i:Nat) (h:i < 16):hAt (hl F B) (hk (Str.ofString "f") (i:Int))=F i:=by
 unfold hAt hk
 rw [if_pos rfl,show ((i:Int)).toNat=i by omega,xf F B i (by omega),if_pos h]
theorem jL (F B:Nat->List Int) (i:Nat) (h:i < 16):hAt (hl F B) (hk (Str.ofString "b") (i:Int))=B i:=by
 unfold hAt hk
 rw [if_neg nk,show ((16:Int) + (i:Int)).toNat=16 + i by omega,xf F B (16 + i) (by omega),if_neg (by omega),show 16 + i - 16=i by omega]
theorem hkf (i:Nat):(hk (Str.ofString "f") (i:Int)).toNat=i:=by unfold hk;rw [if_pos rfl];omega
theorem hkb (i:Nat):(hk (Str.ofString "b") (i:Int)).toNat=16 + i:=by unfold hk;rw [if_neg nk];omega
theorem zv:other (Str.ofString "f")=Str.ofString "b":=if_pos rfl
theorem tZ:other (Str.ofString "b")=Str.ofString "f":=if_neg nk
def mvF (i t:Nat):Dd:=.mv (Str.ofString "f") (i:Int) (t:Int)
def mvB (i t:Nat):Dd:=.mv (Str.ofString "b") (i:Int) (t:Int)
theorem wW {F B:Nat->List Int} {cl:List Lp} {ds:List Dd} {i t:Nat} (hi:i < 16) (ht:t < 16) (h1:i<=t + 2) (h2:t<=i + 2) (hn:F i≠[]) (hm:(F i).length + (B t).length<=4):aO (hl F B) cl (mvF i t :: ds)=aO (hl (up F i []) (up B t (B t++F i))) cl ds:=by
 have hw:cA (hl F B) (mvF i t)=none:=by
  show (if (i:Int) - (t:Int) > 2\/(t:Int) - (i:Int) > 2 then _ else _)=none
  rw [if_neg (by omega),ik F B i hi,if_neg hn,zv,jL F B t ht,if_neg (by omega)]
 rw [lu hw]
 show aO (((hl F B).set (hk (other (Str.ofString "f")) (t:Int)).toNat (hAt (hl F B) (hk (other (Str.ofString "f")) (t:Int))++hAt (hl F B) (hk (Str.ofString "f") (i:Int)))).set (hk (Str.ofString "f") (i:Int)).toNat []) cl ds=_
 rw [zv,jL F B t ht,ik F B i hi,hkb,hkf,pL,mP _ _ _ _ hi]
theorem wC {F B:Nat->List Int} {cl:List Lp} {ds:List Dd} {i t:Nat} (hi:i < 16) (ht:t < 16) (h1:i<=t + 2) (h2:t<=i + 2) (hn:B i≠[]) (hm:(B i).length + (F t).length<=4):aO (hl F B) cl (mvB i t :: ds)=aO (hl (up F t (F t++B i)) (up B i [])) cl ds:=by
 have hw:cA (hl F B) (mvB i t)=none:=by
  show (if (i:Int) - (t:Int) > 2\/(t:Int) - (i:Int) > 2 then _ else _)=none
  rw [if_neg (by omega),jL F B i hi,if_neg hn,tZ,ik F B t ht,if_neg (by omega)]
 rw [lu hw]
 show aO (((hl F B).set (hk (other (Str.ofString "b")) (t:Int)).toNat (hAt (hl F B) (hk (other (Str.ofString "b")) (t:Int))++hAt (hl F B) (hk (Str.ofString "b") (i:Int)))).set (hk (Str.ofString "b") (i:Int)).toNat []) cl ds=_
 rw [tZ,ik F B t ht,jL F B i hi,hkf,hkb,mP _ _ _ _ ht,pL]
theorem CH {F B:Nat->List Int} {cl:List Lp} {ds:List Dd} {i:Nat} {y:Str} (hi:i < 16) (hn:F i≠[]):aO (hl F B) cl (.ky (Str.ofString "knit") (Str.ofString "f") (i:Int) y :: ds)=aO (hl (up F i [(cl.length:Int)]) B) (cl++[(y,Str.ofString "k",F i)]) ds:=by
 have hw:cA (hl F B) (.ky (Str.ofString "knit") (Str.ofString "f") (i:Int) y)=none:=by
  simp only [cA]
  rw [ik F B i hi,if_neg (fun z=>hn z.2),if_neg (fun z=>ni z.1)]
 rw [lu hw]
 simp only [doF]
 rw [if_neg ni,ik F B i hi,hkf,mP _ _ _ _ hi,if_pos trivial]
theorem Dg {F B:Nat->List Int} {cl:List Lp} {ds:List Dd} {i:Nat} {y:Str} (hi:i < 16) (hn:B i≠[]):aO (hl F B) cl (.ky (Str.ofString "knit") (Str.ofString "b") (i:Int) y :: ds)=aO (hl F (up B i [(cl.length:Int)])) (cl++[(y,Str.ofString "p",B i)]) ds:=by
 have hw:cA (hl F B) (.ky (Str.ofString "knit") (Str.ofString "b") (i:Int) y)=none:=by
  simp only [cA]
  rw [jL F B i hi,if_neg (fun z=>hn z.2),if_neg (fun z=>ni z.1)]
 rw [lu hw]
 simp only [doF]
 rw [if_neg ni,jL F B i hi,hkb,pL,if_neg nk]
theorem vh {F B:Nat->List Int} {cl:List Lp} {ds:List Dd} {i:Nat} {y:Str} (hi:i < 16) (hm:(F i).length<=3):aO (hl F B) cl (.ky (Str.ofString "tuck") (Str.ofString "f") (i:Int) y :: ds)=aO (hl (up F i (F i++[(cl.length:Int)])) B) (cl++[(y,Str.ofString "t",[])]) ds:=by
 have hw:cA (hl F B) (.ky (Str.ofString "tuck") (Str.ofString "f") (i:Int) y)=none:=by
  simp only [cA]
  rw [if_neg (fun z=>EZ z.1),ik F B i hi,if_neg (fun z=>by omega)]
 rw [lu hw]
 simp only [doF]
 rw [if_pos trivial,ik F B i hi,hkf,mP _ _ _ _ hi]
theorem G7 (o:Nat) (x:List Int):up (up nil o x) o []=nil:=by
 funext j
 by_cases e:j=o
 ·subst e;rw [ck];rfl
 ·rw [cj e,cj e]
theorem AF {F:Nat->List Int} {cl:List Lp} {ds:List Dd} {s o a:Nat} (hs:s < 16) (ho:o < 16) (ha:a < 16) (h1:s<=o + 2) (h2:o<=s + 2) (h3:o<=a + 2) (h4:a<=o + 2) (hn:F s≠[]) (hm:(F s).length + (up F s [] a).length<=4) :
  aO (hl F nil) cl (mvF s o :: mvB o a :: ds)=aO (hl (up (up F s []) a (up F s [] a++F s)) nil) cl ds:=by
 rw [wW hs ho h1 h2 hn (by show (F s).length + 0<=4;omega)]
 have e:up nil o (nil o++F s) o=F s:=by rw [ck];rfl
 rw [wC ho ha h3 h4 (by rw [e];exact hn) (by rw [e];exact hm),e]
 show aO (hl _ (up (up nil o ([]++F s)) o [])) cl ds=_
 rw [G7]
def near (a g:Nat):Nat:=max (a - 2) (min (a + 2) g)
def along:Nat->Nat->Nat->List Dd
 | 0,_,_=>[]
 | n + 1,s,g=>if s=g then [] else mvF s (near s g) :: mvB (near s g) (near (near s g) g) :: along n (near (near s g) g) g
theorem uJ (s g:Nat):s<=near s g + 2/\near s g<=s + 2/\(s < g->s < near s g/\near s g<=g)/\(g < s->near s g < s/\g<=near s g)/\(s=g->near s g=g):=by
 unfold near
 omega
theorem BN {s g o a:Nat} (p:s<=o + 2/\o<=s + 2/\(s < g->s < o/\o<=g)/\(g < s->o < s/\g<=o)/\(s=g->o=g)) (q:o<=a + 2/\a<=o + 2/\(o < g->o < a/\a<=g)/\(g < o->a < o/\g<=a)/\(o=g->a=g)) (e:s≠g):a≠s/\((s < g->s < a/\a<=g)/\(g < s->a < s/\g<=a)):=by
 omega
theorem kG {cl:List Lp} {ds:List Dd}:∀ (n s g:Nat) (F:Nat->List Int),s<=g + n->g<=s + n->s < 16->g < 16->F s≠[]->(∀ j,(s < j/\j < g)\/(g < j/\j < s)->F j=[])->(s≠g->(F g).length + (F s).length<=4)->
  aO (hl F nil) cl (along n s g++ds)=aO (hl (if s=g then F else up (up F s []) g (F g++F s)) nil) cl ds
 | 0,s,g,F,h1,h2,hs,hg,hn,hb,hm=>by
  have:s=g:=by omega
  rw [if_pos this]
  rfl
 | n + 1,s,g,F,h1,h2,hs,hg,hn,hb,hm=>by
  by_cases e:s=g
  ·rw [if_pos e]
   show aO _ _ ((if s=g then [] else _)++ds)=_
   rw [if_pos e]
   rfl
  ·rw [if_neg e]
   show aO _ _ ((if s=g then [] else _)++ds)=_
   rw [if_neg e]
   have hm:=hm e
   have p1:=uJ s g
   have p2:=uJ (near s g) g
   have p3:=BN p1 p2 e
   generalize near s g=o at *
   generalize near o g=a at *
   have o1:s<=o + 2/\o<=s + 2/\o < 16:=⟨p1.1,p1.2.1,by omega⟩
   have a1:o<=a + 2/\a<=o + 2/\a < 16/\a≠s/\((s < g->s < a/\a<=g)/\(g < s->a < s/\g<=a)):=⟨p2.1,p2.2.1,by omega,p3⟩
   clear p1 p2 p3
   have hua:up F s [] a=F a:=cj a1.2.2.2.1
   have hfa:a≠g->F a=[]:=fun z=>hb a (by omega)
   rw [List.cons_append,List.cons_append,AF hs o1.2.2 a1.2.2.1 o1.1 o1.2.1 a1.1 a1.2.1 hn (by
    rw [hua]
    by_cases z:a=g
    ·rw [z];omega
    ·rw [hfa z];show _ + 0<=4;omega),hua]
   have hF1a:up (up F s []) a (F a++F s) a=F a++F s:=ck _ _ _
   by_cases z:a=g
   ·rw [kG n a g _ (by omega) (by omega) a1.2.2.1 hg (by rw [hF1a];intro q;exact hn (List.append_eq_nil_iff.mp q).2) (fun j hj=>by omega) (fun q=>absurd z q),if_pos z,z]
   ·have hfa':=hfa z
    have hF1a':up (up F s []) a (F a++F s) a=F s:=by rw [hF1a,hfa'];rfl
    have hF1g:up (up F s []) a (F a++F s) g=F g:=by rw [cj (fun q=>z q.symm),cj (fun q=>e q.symm)]
    rw [kG n a g _ (by omega) (by omega) a1.2.2.1 hg (by rw [hF1a'];exact hn) (fun j hj=>by
     rw [cj (by omega)]
     by_cases q:j=s
     ·subst q;exact ck _ _ _
     ·rw [cj q];exact hb j (by omega)) (fun _=>by rw [hF1a',hF1g];exact hm),if_neg z,hF1a',hF1g]
    congr 2
    funext j
    by_cases q1:j=g
    ·subst q1;rw [ck,ck]
    ·rw [cj q1,cj q1]
     by_cases q2:j=a
     ·subst q2;rw [ck,cj a1.2.2.2.1,hfa']
     ·rw [cj q2,cj q2]
end Lw
namespace Lw
open PySem L2 DL
def lay:List (Nat×List Int)->Nat->List Int
 | [],_=>[]
 | p :: ps,x=>if x=p.1 then p.2 else lay ps x
theorem nH:∀ {ps:List (Nat×List Int)} {x:Nat},(∀ p∈ps,p.1≠x)->lay ps x=[]
 | [],_,_=>rfl
 | p :: ps,x,h=>by
  show (if x=p.1 then p.2 else lay ps x)=[]
  rw [if_neg (fun z=>h p List.mem_cons_self z.symm)]
  exact nH fun q hq=>h q (List.mem_cons_of_mem _ hq)
theorem j0:∀ {pre:List (Nat×List Int)} {s:Nat} {L:List Int} {post:List (Nat×List Int)} {x:Nat},(∀ p∈pre,p.1≠s)->lay (pre++(s,L) :: post) x=if x=s then L else lay (pre++post) x
 | [],s,L,post,x,_=>rfl
 | p :: pre,s,L,post,x,h=>by
  have ih:=j0 (pre:=pre) (s:=s) (L:=L) (post:=post) (x:=x) fun q hq=>h q (List.mem_cons_of_mem _ hq)
  show (if x=p.1 then p.2 else lay (pre++(s,L) :: post) x)=if x=s then L else (if x=p.1 then p.2 else lay (pre++post) x)
  rw [ih]
  by_cases e:x=p.1
  ·rw [if_pos e,if_pos e,if_neg (fun z=>h p List.mem_cons_self (by rw [<-e,z]))]
  ·rw [if_neg e,if_neg e]
def Lok (L:List Int):Prop:=L≠[]/\L.length<=4
theorem xN {cl:List Lp} {ds:List Dd} {pre post:List (Nat×List Int)} {s g n:Nat} {L:List Int} (hs:s < 16) (hg:g < 16) (h1:s<=g + n) (h2:g<=s + n) (hL:Lok L) (hpre:∀ p∈pre,p.1 < s/\p.1 < g) (hpost:∀ p∈post,s < p.1/\g < p.1) :
  aO (hl (lay (pre++(s,L) :: post)) nil) cl (along n s g++ds)=aO (hl (lay (pre++(g,L) :: post)) nil) cl ds:=by
 have hF:∀ x,lay (pre++(s,L) :: post) x=if x=s then L else lay (pre++post) x:=fun x=>j0 fun p hp=>by have:=hpre p hp;omega
 have hG:∀ x,lay (pre++(g,L) :: post) x=if x=g then L else lay (pre++post) x:=fun x=>j0 fun p hp=>by have:=hpre p hp;omega
 have hout:∀ x,(s<=x/\x<=g)\/(g<=x/\x<=s)->lay (pre++post) x=[]:=fun x hx=>nH fun p hp=>by
  rcases List.mem_append.mp hp with z | z
  ·have:=hpre p z;omega
  ·have:=hpost p z;omega
 have hFs:lay (pre++(s,L) :: post) s=L:=by rw [hF,if_pos rfl]
 by_cases e:s=g
 ·subst e
  rw [kG n s s _ h1 h2 hs hg (by rw [hFs];exact hL.1) (fun j hj=>by omega) (fun q=>absurd rfl q),if_pos rfl]
 ·have hFg:lay (pre++(s,L) :: post) g=[]:=by rw [hF,if_neg (fun z=>e z.symm)];exact hout g (by omega)
  rw [kG n s g _ h1 h2 hs hg (by rw [hFs];exact hL.1) (fun j hj=>by rw [hF,if_neg (by omega)];exact hout j (by omega)) (fun _=>by rw [hFs,hFg];have:=hL.2;show 0 + _<=4;omega),if_neg e,hFs,hFg]
  congr 2
  funext x
  rw [hG]
  by_cases q:x=g
  ·rw [if_pos q,q,ck];rfl
  ·rw [if_neg q,cj q]
   by_cases q2:x=s
   ·rw [q2,ck,hout s (by omega)]
   ·rw [cj q2,hF,if_neg q2]
structure Way where
 s:Nat
 g:Nat
 L:List Int
def Way.src (w:Way):Nat×List Int:=(w.s,w.L)
def Way.mid (w:Way):Nat×List Int:=(max w.s w.g,w.L)
def Way.dst (w:Way):Nat×List Int:=(w.g,w.L)
def lP (W:List Way):Prop:=W.Pairwise fun a b=>a.s < b.s/\a.g < b.g
def Wok (W:List Way):Prop:=∀ w∈W,w.s < 16/\w.g < 16/\Lok w.L
def gS (w:Way):List Dd:=if w.s < w.g then along 16 w.s w.g else []
def iL (w:Way):List Dd:=if w.s > w.g then along 16 w.s w.g else []
theorem vL {cl:List Lp} {ds:List Dd}:∀ (V:List Way) (post:List (Nat×List Int)),lP V.reverse->Wok V->(∀ p∈post,∀ w∈V,w.s < p.1/\w.g < p.1)->
  aO (hl (lay (V.reverse.map Way.src++post)) nil) cl ((V.map gS).flatten++ds)=aO (hl (lay (V.reverse.map Way.mid++post)) nil) cl ds
 | [],post,_,_,_=>rfl
 | w :: V,post,hs,hw,hp=>by
  rw [List.reverse_cons] at hs ⊢
  obtain ⟨s1,s2,s3⟩:=List.pairwise_append.mp hs
  obtain ⟨w1,w2,w3⟩:=hw w List.mem_cons_self
  have hV:∀ v∈V,v.s < w.s/\v.g < w.g:=fun v hv=>s3 v (List.mem_reverse.mpr hv) w (List.mem_singleton.mpr rfl)
  have ih:=vL (cl:=cl) (ds:=ds) V (w.mid :: post) s1 (fun v hv=>hw v (List.mem_cons_of_mem _ hv)) (fun p hm v hv=>by
   rcases List.mem_cons.mp hm with z | z
   ·rw [z]
    have:=hV v hv
    show v.s < max w.s w.g/\v.g < max w.s w.g
    omega
   ·exact hp p z v (List.mem_cons_of_mem _ hv))
  rw [List.map_append,List.map_append,List.append_assoc,List.append_assoc,show ((w :: V).map gS).flatten=gS w++(V.map gS).flatten by rw [List.map_cons,List.flatten_cons],List.append_assoc]
  show aO (hl (lay (V.reverse.map Way.src++(w.s,w.L) :: post)) nil) cl (gS w++((V.map gS).flatten++ds))=aO (hl (lay (V.reverse.map Way.mid++w.mid :: post)) nil) cl ds
  rw [<-ih]
  unfold gS
  by_cases e:w.s < w.g
  ·rw [if_pos e,xN w1 w2 (by omega) (by omega) w3 (fun p hm=>by
    obtain ⟨v,hv,rfl⟩:=List.mem_map.mp hm
    have:=hV v (List.mem_reverse.mp hv)
    show v.s < w.s/\v.s < w.g
    omega) (fun p hm=>by
    have:=hp p hm w List.mem_cons_self
    exact this)]
   have:w.mid=(w.g,w.L):=by unfold Way.mid;rw [show max w.s w.g=w.g by omega]
   rw [this]
  ·rw [if_neg e]
   have:w.mid=(w.s,w.L):=by unfold Way.mid;rw [show max w.s w.g=w.s by omega]
   rw [this]
   rfl
theorem tY {cl:List Lp} {ds:List Dd}:∀ (V:List Way) (pre:List (Nat×List Int)),lP V->Wok V->(∀ p∈pre,∀ w∈V,p.1 < w.g)->
  aO (hl (lay (pre++V.map Way.mid)) nil) cl ((V.map iL).flatten++ds)=aO (hl (lay (pre++V.map Way.dst)) nil) cl ds
 | [],pre,_,_,_=>rfl
 | w :: V,pre,hs,hw,hp=>by
  obtain ⟨s1,s2⟩:=List.pairwise_cons.mp hs
  obtain ⟨w1,w2,w3⟩:=hw w List.mem_cons_self
  have ih:=tY (cl:=cl) (ds:=ds) V (pre++[w.dst]) s2 (fun v hv=>hw v (List.mem_cons_of_mem _ hv)) (fun p hm v hv=>by
   rcases List.mem_append.mp hm with z | z
   ·exact hp p z v (List.mem_cons_of_mem _ hv)
   ·rw [List.mem_singleton.mp z];exact (s1 v hv).2)
  rw [List.append_assoc,List.append_assoc] at ih
  rw [List.map_cons,List.map_cons,List.map_cons,List.flatten_cons,List.append_assoc]
  show _=aO (hl (lay (pre++([w.dst]++V.map Way.dst))) nil) cl ds
  rw [<-ih]
  show aO (hl (lay (pre++w.mid :: V.map Way.mid)) nil) cl (iL w++((V.map iL).flatten++ds))=aO (hl (lay (pre++w.dst :: V.map Way.mid)) nil) cl ((V.map iL).flatten++ds)
  unfold iL
  by_cases e:w.s > w.g
  ·have:w.mid=(w.s,w.L):=by unfold Way.mid;rw [show max w.s w.g=w.s by omega]
   rw [if_pos e,this,xN w1 w2 (by omega) (by omega) w3 (fun p hm=>by
    have:=hp p hm w List.mem_cons_self
    omega) (fun p hm=>by
    obtain ⟨v,hv,rfl⟩:=List.mem_map.mp hm
    have:=s1 v hv
    show w.s < max v.s v.g/\w.g < max v.s v.g
    omega)]
   rfl
  ·have:w.mid=w.dst:=by unfold Way.mid Way.dst;rw [show max w.s w.g=w.g by omega]
   rw [if_neg e,this]
   rfl
theorem Gw {cl:List Lp} {ds:List Dd} (W:List Way) (hs:lP W) (hw:Wok W) :
  aO (hl (lay (W.map Way.src)) nil) cl ((W.reverse.map gS).flatten++((W.map iL).flatten++ds))=aO (hl (lay (W.map Way.dst)) nil) cl ds:=by
 have r:=vL (cl:=cl) (ds:=(W.map iL).flatten++ds) W.reverse [] (by rw [List.reverse_reverse];exact hs) (fun w hm=>hw w (List.mem_reverse.mp hm)) (fun p hp=>by cases hp)
 rw [List.reverse_reverse,List.append_nil,List.append_nil] at r
 rw [r]
 have l:=tY (cl:=cl) (ds:=ds) W [] hs hw (fun p hp=>by cases hp)
 rwa [List.nil_append,List.nil_append] at l
def atP:Nat->List (List Int)->List (Nat×List Int)
 | _,[]=>[]
 | a,l :: lv=>(a,l) :: atP (a + 1) lv
def c9:List Nat->Nat->Nat->List (List Int)->List Way
 | [],_,_,_=>[]
 | c :: w,a,j,lv=>if c=111 then c9 w a (j + 1) lv else ⟨if c=114 then a + 1 else a,j,bF c (lv.take (tkn c))⟩ :: c9 w (a + tkn c) (j + 1) (lv.drop (tkn c))
def fE:List Nat->Nat->List Dd
 | [],_=>[]
 | c :: w,a=>(if c=108 then along 16 (a + 1) a else if c=114 then along 16 a (a + 1) else [])++fE w (a + tkn c)
theorem qE:∀ (lv:List (List Int)) (a:Nat),∀ p∈atP a lv,a<=p.1
 | [],a,p,h=>by cases h
 | l :: lv,a,p,h=>by
  rcases List.mem_cons.mp (show p∈(a,l) :: atP (a + 1) lv from h) with z | z
  ·rw [z];exact Nat.le_refl _
  ·have:=qE lv (a + 1) p z;omega
theorem mF {cl:List Lp} {ds:List Dd}:∀ (w:List Nat) (a j:Nat) (lv:List (List Int)) (pre:List (Nat×List Int)),bE w (aS lv) []->okC (aS lv)->a + lv.length<=16->(∀ p∈pre,p.1 < a)->
  aO (hl (lay (pre++atP a lv)) nil) cl (fE w a++ds)=aO (hl (lay (pre++(c9 w a j lv).map Way.src)) nil) cl ds
 | [],a,j,lv,pre,he,hk,hl',hp=>by
  have:lv=[]:=by
   have h:aS lv=[]:=he
   unfold aS at h
   exact List.map_eq_nil_iff.mp h
  subst this
  rfl
 | c :: w,a,j,lv,pre,he,hk,hl',hp=>by
  obtain ⟨hc,hf,he⟩:=he
  have hd:(aS lv).drop (tkn c)=aS (lv.drop (tkn c)):=by unfold aS;rw [List.map_drop]
  rw [hd] at he
  have hk':okC (aS (lv.drop (tkn c))):=by
   rw [<-hd];exact fun x hx=>hk x (List.mem_of_mem_drop hx)
  have hlen:tkn c<=lv.length:=by have:=hf.1;unfold aS at this;rwa [List.length_map] at this
  show aO (hl (lay (pre++atP a lv)) nil) cl (((if c=108 then along 16 (a + 1) a else if c=114 then along 16 a (a + 1) else [])++fE w (a + tkn c))++ds)=aO (hl (lay (pre++(if c=111 then c9 w a (j + 1) lv else ⟨if c=114 then a + 1 else a,j,bF c (lv.take (tkn c))⟩ :: c9 w (a + tkn c) (j + 1) (lv.drop (tkn c))).map Way.src)) nil) cl ds
  by_cases c0:c=111
  ·subst c0
   rw [if_pos rfl,if_neg (by decide),if_neg (by decide),List.nil_append]
   exact mF w a (j + 1) lv pre he hk hl' hp
  ·rw [if_neg c0,List.map_cons,List.append_assoc]
   by_cases c2:c=108\/c=114
   ·have t2:tkn c=2:=by unfold tkn;rw [if_neg c0,if_pos c2]
    rw [t2] at hlen he hk' ⊢
    match lv,hlen with
    | x :: y :: r,_=>
     have hr:(x :: y :: r).drop 2=r:=rfl
     rw [hr] at he hk' ⊢
     have hm:(x.length:Int) + (y.length:Int)<=4:=by
      have:=hf.2.2 c2
      unfold met at this
      rw [t2] at this
      simpa [aS] using this
     have hx:=hk (x.length:Int) (by simp [aS])
     have hy:=hk (y.length:Int) (by simp [aS])
     have hxn:x≠[]:=fun z=>by rw [z] at hx;simp at hx
     have hyn:y≠[]:=fun z=>by rw [z] at hy;simp at hy
     have hF:∀ z,lay (pre++atP a (x :: y :: r)) z=if z=a then x else if z=a + 1 then y else lay (pre++atP (a + 2) r) z:=fun z=>by
      show lay (pre++(a,x) :: (a + 1,y) :: atP (a + 1 + 1) r) z=_
      rw [j0 fun p hp'=>by have:=hp p hp';omega,j0 fun p hp'=>by have:=hp p hp';omega]
     have hl2:a + 2 + r.length<=16:=by rw [List.length_cons,List.length_cons] at hl';omega
     have hpre':∀ (q:Nat×List Int),q.1 < a + 2->∀ p∈pre++[q],p.1 < a + 2:=fun q hq p hp'=>by
      rcases List.mem_append.mp hp' with z | z
      ·have:=hp p z;omega
      ·rw [List.mem_singleton.mp z];exact hq
     by_cases c8:c=108
     ·have ih:=mF (cl:=cl) (ds:=ds) w (a + 2) (j + 1) r (pre++[(a,x++y)]) he hk' hl2 (hpre' (a,x++y) (by show a < a + 2;omega))
      rw [List.append_assoc,List.append_assoc] at ih
      rw [if_pos c8,if_neg (by omega)]
      have hu:bF c ((x :: y :: r).take 2)=x++y:=by
       unfold bF
       rw [if_neg (by omega)]
       simp
      rw [hu]
      show _=aO (hl (lay (pre++([(a,x++y)]++_))) nil) cl ds
      rw [<-ih,kG 16 (a + 1) a _ (by omega) (by omega) (by omega) (by omega) (by rw [hF,if_neg (by omega),if_pos rfl];exact hyn) (fun z hz=>by omega) (fun _=>by rw [hF,hF,if_pos rfl,if_neg (by omega),if_pos rfl];omega),if_neg (by omega)]
      congr 2
      funext z
      have hG:lay (pre++([(a,x++y)]++atP (a + 2) r)) z=if z=a then x++y else lay (pre++atP (a + 2) r) z:=j0 fun p hp'=>by have:=hp p hp';omega
      rw [hG]
      by_cases q:z=a
      ·rw [if_pos q,q,ck,hF,hF,if_pos rfl,if_neg (by omega),if_pos rfl]
      ·rw [if_neg q,cj q]
       by_cases q2:z=a + 1
       ·rw [q2,ck]
        symm
        exact nH fun p hp'=>by
         rcases List.mem_append.mp hp' with y | y
         ·have:=hp p y;omega
         ·have:=qE r (a + 2) p y;omega
       ·rw [cj q2,hF,if_neg q,if_neg q2]
     ·have c4:c=114:=by omega
      have ih:=mF (cl:=cl) (ds:=ds) w (a + 2) (j + 1) r (pre++[(a + 1,y++x)]) he hk' hl2 (hpre' (a + 1,y++x) (by show a + 1 < a + 2;omega))
      rw [List.append_assoc,List.append_assoc] at ih
      rw [if_neg c8,if_pos c4,if_pos c4]
      have hu:bF c ((x :: y :: r).take 2)=y++x:=by
       unfold bF
       rw [if_pos c4]
       simp
      rw [hu]
      show _=aO (hl (lay (pre++([(a + 1,y++x)]++_))) nil) cl ds
      rw [<-ih,kG 16 a (a + 1) _ (by omega) (by omega) (by omega) (by omega) (by rw [hF,if_pos rfl];exact hxn) (fun z hz=>by omega) (fun _=>by rw [hF,hF,if_pos rfl,if_neg (by omega),if_pos rfl];omega),if_neg (by omega)]
      congr 2
      funext z
      have hG:lay (pre++([(a + 1,y++x)]++atP (a + 2) r)) z=if z=a + 1 then y++x else lay (pre++atP (a + 2) r) z:=j0 fun p hp'=>by have:=hp p hp';omega
      rw [hG]
      by_cases q:z=a + 1
      ·rw [if_pos q,q,ck,hF,hF,if_pos rfl,if_neg (by omega),if_pos rfl]
      ·rw [if_neg q,cj q]
       by_cases q2:z=a
       ·rw [q2,ck]
        symm
        exact nH fun p hp'=>by
         rcases List.mem_append.mp hp' with y | y
         ·have:=hp p y;omega
         ·have:=qE r (a + 2) p y;omega
       ·rw [cj q2,hF,if_neg q2,if_neg q]
   ·have t1:tkn c=1:=by unfold tkn;rw [if_neg c0,if_neg c2]
    rw [t1] at hlen he hk' ⊢
    match lv,hlen with
    | x :: r,_=>
     have hr:(x :: r).drop 1=r:=rfl
     rw [hr] at he hk' ⊢
     have ih:=mF (cl:=cl) (ds:=ds) w (a + 1) (j + 1) r (pre++[(a,x)]) he hk' (by rw [List.length_cons] at hl';omega) (fun p hp'=>by
      rcases List.mem_append.mp hp' with z | z
      ·have:=hp p z;omega
      ·rw [List.mem_singleton.mp z];show a < a + 1;omega)
     rw [List.append_assoc,List.append_assoc] at ih
     rw [if_neg (fun z=>c2 (.inl z)),if_neg (fun z=>c2 (.inr z)),if_neg (fun z=>c2 (.inr z)),List.nil_append]
     have hu:bF c ((x :: r).take 1)=x:=by
      unfold bF
      rw [if_neg (fun z=>c2 (.inr z))]
      simp
     rw [hu]
     exact ih
end Lw
namespace Lw
open PySem L2 DL
def lst (ls:List (List Int)):Nat->List Int:=fun x=>ls.getD x []
theorem yE:∀ (lv:List (List Int)) (a x:Nat),lay (atP a lv) x=if x < a then [] else lv.getD (x - a) []
 | [],a,x=>by split <;> simp [atP,lay]
 | l :: lv,a,x=>by
  show (if x=a then l else lay (atP (a + 1) lv) x)=_
  rw [yE lv (a + 1) x]
  by_cases e:x=a
  ·subst e
   rw [if_pos rfl,if_neg (by omega),Nat.sub_self]
   rfl
  ·rw [if_neg e]
   by_cases h:x < a
   ·rw [if_pos h,if_pos (by omega)]
   ·rw [if_neg h,if_neg (by omega),show x - a=(x - (a + 1)) + 1 by omega]
    rfl
theorem Jb (lv:List (List Int)):lay (atP 0 lv)=lst lv:=by
 funext x
 rw [yE,if_neg (by omega),Nat.sub_zero]
 rfl
def Ux (u:Nat×List Int):Prop:=(u.1=116->u.2.length<=3)/\(u.1=111->u.2=[])/\(u.1≠111->Lok u.2)
theorem sm:∀ (w:List Nat) (lv:List (List Int)),bE w (aS lv) []->okC (aS lv)->∀ u∈bO w lv,Ux u
 | [],lv,_,_,u,h=>by cases h
 | c :: w,lv,he,hk,u,h=>by
  obtain ⟨hc,hf,he⟩:=he
  have hd:(aS lv).drop (tkn c)=aS (lv.drop (tkn c)):=by unfold aS;rw [List.map_drop]
  have hlen:tkn c<=lv.length:=by have:=hf.1;unfold aS at this;rwa [List.length_map] at this
  rcases List.mem_cons.mp (show u∈(c,bF c (lv.take (tkn c))) :: bO w (lv.drop (tkn c)) from h) with z | z
  ·rw [z]
   by_cases c0:c=111
   ·subst c0
    exact ⟨(fun q=>by cases q),(fun _=>rfl),fun q=>absurd rfl q⟩
   ·by_cases c2:c=108\/c=114
    ·have t2:tkn c=2:=by unfold tkn;rw [if_neg c0,if_pos c2]
     rw [t2] at hlen ⊢
     match lv,hlen with
     | x :: y :: r,_=>
      have hm:(x.length:Int) + (y.length:Int)<=4:=by
       have:=hf.2.2 c2
       unfold met at this
       rw [t2] at this
       simpa [aS] using this
      have hx:=hk (x.length:Int) (by simp [aS])
      have hxn:x≠[]:=fun z=>by rw [z] at hx;simp at hx
      have hu:bF c ((x :: y :: r).take 2)=x++y\/bF c ((x :: y :: r).take 2)=y++x:=by
       unfold bF
       split
       ·exact .inr (by simp)
       ·exact .inl (by simp)
      refine ⟨fun q=>?_,fun q=>absurd q c0,fun _=>?_⟩
      ·have q:c=116:=q
       omega
      ·show Lok (bF c ((x :: y :: r).take 2))
       rcases hu with e | e <;> rw [e]
       ·exact ⟨fun q=>hxn (List.append_eq_nil_iff.mp q).1,by rw [List.length_append];omega⟩
       ·exact ⟨fun q=>hxn (List.append_eq_nil_iff.mp q).2,by rw [List.length_append];omega⟩
    ·have t1:tkn c=1:=by unfold tkn;rw [if_neg c0,if_neg c2]
     rw [t1] at hlen ⊢
     match lv,hlen with
     | x :: r,_=>
      have hx:=hk (x.length:Int) (by simp [aS])
      have hu:bF c ((x :: r).take 1)=x:=by
       unfold bF
       rw [if_neg (fun z=>c2 (.inr z))]
       simp
      rw [hu]
      refine ⟨fun q=>?_,fun q=>absurd q c0,fun _=>⟨fun z=>?_,by show x.length<=4;omega⟩⟩
      ·have:=hf.2.1 q
       unfold met at this
       rw [t1] at this
       simp [aS] at this
       show x.length<=3
       omega
      ·have z:x=[]:=z
       rw [z] at hx;simp at hx
  ·exact sm w _ (by rw [<-hd];exact he) (by rw [<-hd];exact fun x hx=>hk x (List.mem_of_mem_drop hx)) u z
theorem pM:∀ (w:List Nat) (a j:Nat) (lv:List (List Int)),bE w (aS lv) []->okC (aS lv)->a + lv.length<=16->j + w.length<=16->
  Wok (c9 w a j lv)/\lP (c9 w a j lv)/\∀ v∈c9 w a j lv,a<=v.s/\j<=v.g
 | [],a,j,lv,_,_,_,_=>⟨(fun w h=>by cases h),List.Pairwise.nil,fun v h=>by cases h⟩
 | c :: w,a,j,lv,he,hk,h1,h2=>by
  have hux:=sm (c :: w) lv he hk (c,bF c (lv.take (tkn c))) List.mem_cons_self
  obtain ⟨hc,hf,he⟩:=he
  have hd:(aS lv).drop (tkn c)=aS (lv.drop (tkn c)):=by unfold aS;rw [List.map_drop]
  have hlen:tkn c<=lv.length:=by have:=hf.1;unfold aS at this;rwa [List.length_map] at this
  rw [List.length_cons] at h2
  show Wok (if c=111 then _ else _)/\lP (if c=111 then _ else _)/\∀ v∈(if c=111 then _ else _),_
  by_cases c0:c=111
  ·subst c0
   obtain ⟨i1,i2,i3⟩:=pM w a (j + 1) lv he hk h1 (by omega)
   simp only [if_true]
   exact ⟨i1,i2,fun v hv=>by have:=i3 v hv;omega⟩
  ·obtain ⟨i1,i2,i3⟩:=pM w (a + tkn c) (j + 1) (lv.drop (tkn c)) (by rw [<-hd];exact he) (by rw [<-hd];exact fun x hx=>hk x (List.mem_of_mem_drop hx)) (by rw [List.length_drop];omega) (by omega)
   rw [if_neg c0]
   have ht:1<=tkn c/\(c=114->tkn c=2):=by
    unfold tkn
    rw [if_neg c0]
    constructor
    ·split <;> omega
    ·intro q;rw [if_pos (.inr q)]
   have hsrc:a<=(if c=114 then a + 1 else a)/\(if c=114 then a + 1 else a) < a + tkn c:=by
    by_cases q:c=114
    ·rw [if_pos q,ht.2 q];omega
    ·rw [if_neg q];omega
   refine ⟨fun v hv=>?_,List.pairwise_cons.mpr ⟨fun v hv=>?_,i2⟩,fun v hv=>?_⟩
   ·rcases List.mem_cons.mp hv with z | z
    ·rw [z];exact ⟨by show (if c=114 then a + 1 else a) < 16;omega,by show j < 16;omega,hux.2.2 c0⟩
    ·exact i1 v z
   ·have:=i3 v hv
    exact ⟨by show (if c=114 then a + 1 else a) < v.s;omega,by show j < v.g;omega⟩
   ·rcases List.mem_cons.mp hv with z | z
    ·rw [z];exact ⟨hsrc.1,Nat.le_refl _⟩
    ·have:=i3 v z;omega
theorem qR:∀ (w:List Nat) (a j:Nat) (lv:List (List Int)) (x:Nat),lay ((c9 w a j lv).map Way.dst) x=if x < j then [] else ((bO w lv).map Prod.snd).getD (x - j) []
 | [],a,j,lv,x=>by split <;> simp [c9,lay,bO]
 | c :: w,a,j,lv,x=>by
  show lay ((if c=111 then c9 w a (j + 1) lv else ⟨if c=114 then a + 1 else a,j,bF c (lv.take (tkn c))⟩ :: c9 w (a + tkn c) (j + 1) (lv.drop (tkn c))).map Way.dst) x=if x < j then [] else (bF c (lv.take (tkn c)) :: (bO w (lv.drop (tkn c))).map Prod.snd).getD (x - j) []
  by_cases c0:c=111
  ·subst c0
   rw [if_pos rfl,qR w a (j + 1) lv x]
   by_cases h:x < j
   ·rw [if_pos h,if_pos (by omega)]
   ·rw [if_neg h]
    by_cases e:x=j
    ·subst e
     rw [if_pos (by omega),Nat.sub_self]
     rfl
    ·rw [if_neg (by omega),show x - j=(x - (j + 1)) + 1 by omega]
     rfl
  ·rw [if_neg c0,List.map_cons]
   show (if x=j then bF c (lv.take (tkn c)) else lay ((c9 w (a + tkn c) (j + 1) (lv.drop (tkn c))).map Way.dst) x)=_
   rw [qR w _ (j + 1) _ x]
   by_cases e:x=j
   ·subst e
    rw [if_pos rfl,if_neg (by omega),Nat.sub_self]
    rfl
   ·rw [if_neg e]
    by_cases h:x < j
    ·rw [if_pos h,if_pos (by omega)]
    ·rw [if_neg h,if_neg (by omega),show x - j=(x - (j + 1)) + 1 by omega]
     rfl
theorem BQ (w:List Nat) (a:Nat) (lv:List (List Int)):lay ((c9 w a 0 lv).map Way.dst)=lst ((bO w lv).map Prod.snd):=by
 funext x
 rw [qR,if_neg (by omega),Nat.sub_zero]
 rfl
def stQ (c j:Nat) (y:Str):List Dd:=if c=115 then [] else if c=116\/c=111 then [.ky (Str.ofString "tuck") (Str.ofString "f") (j:Int) y] else if c=112 then [mvF j j,.ky (Str.ofString "knit") (Str.ofString "b") (j:Int) y,mvB j j] else [.ky (Str.ofString "knit") (Str.ofString "f") (j:Int) y]
theorem wq (F:Nat->List Int) (j:Nat):up F j (F j)=F:=by
 funext x
 by_cases e:x=j
 ·rw [e,ck]
 ·rw [cj e]
theorem qd (F:Nat->List Int) (j:Nat) (a b:List Int):up (up F j a) j b=up F j b:=by
 funext x
 by_cases e:x=j
 ·rw [e,ck,ck]
 ·rw [cj e,cj e,cj e]
theorem uc {F:Nat->List Int} {cl:List Lp} {ds:List Dd} {u:Nat×List Int} {j:Nat} {y:Str} (hj:j < 16) (hu:Ux u) (hF:F j=u.2) :
  aO (hl F nil) cl (stQ u.1 j y++ds)=aO (hl (up F j (dZ u.1 u.2 (cl.length:Int))) nil) (cl++dt y u.1 u.2) ds:=by
 obtain ⟨u1,u2,u3⟩:=hu
 unfold stQ dZ dt
 by_cases c1:u.1=115
 ·rw [if_pos c1,if_pos c1,if_pos c1,<-hF,wq,List.append_nil]
  rfl
 ·rw [if_neg c1,if_neg c1,if_neg c1]
  by_cases c2:u.1=116\/u.1=111
  ·rw [if_pos c2,if_pos c2,if_pos c2]
   show aO (hl F nil) cl (.ky (Str.ofString "tuck") (Str.ofString "f") (j:Int) y :: ds)=_
   rw [vh hj (by
    rw [hF]
    rcases c2 with z | z
    ·exact u1 z
    ·rw [u2 z];exact Nat.zero_le _),hF]
  ·rw [if_neg c2,if_neg c2,if_neg c2]
   have hL:=u3 (fun z=>c2 (.inr z))
   by_cases c3:u.1=112
   ·rw [if_pos c3,if_pos c3]
    show aO (hl F nil) cl (mvF j j :: .ky (Str.ofString "knit") (Str.ofString "b") (j:Int) y :: mvB j j :: ds)=_
    have e1:up nil j (nil j++F j) j=u.2:=by rw [ck,hF];rfl
    rw [wW hj hj (by omega) (by omega) (by rw [hF];exact hL.1) (by rw [hF];have:=hL.2;show _ + 0<=4;omega),Dg hj (by rw [e1];exact hL.1),e1,
     wC hj hj (by omega) (by omega) (by rw [ck];exact List.cons_ne_nil _ _) (by rw [ck,ck];show 1 + 0<=4;omega),ck,ck,qd,qd,qd]
    show aO (hl (up F j ([]++[(cl.length:Int)])) (up nil j [])) _ ds=_
    have:up nil j []=nil:=wq nil j
    rw [this]
    rfl
   ·rw [if_neg c3,if_neg c3]
    show aO (hl F nil) cl (.ky (Str.ofString "knit") (Str.ofString "f") (j:Int) y :: ds)=_
    rw [CH hj (by rw [hF];exact hL.1),hF]
theorem sS (p:List (List Int)) (a b:List Int) (q:List (List Int)):up (lst (p++a :: q)) p.length b=lst (p++b :: q):=by
 funext x
 unfold lst
 by_cases e:x=p.length
 ·subst e
  rw [ck,List.getD_eq_getElem?_getD,List.getElem?_append_right (Nat.le_refl _),Nat.sub_self]
  rfl
 ·rw [cj e,List.getD_eq_getElem?_getD,List.getD_eq_getElem?_getD]
  by_cases h:x < p.length
  ·rw [List.getElem?_append_left h,List.getElem?_append_left h]
  ·rw [List.getElem?_append_right (by omega),List.getElem?_append_right (by omega),show x - p.length=(x - p.length - 1) + 1 by omega]
   rfl
theorem xR (p:List (List Int)) (a:List Int) (q:List (List Int)):lst (p++a :: q) p.length=a:=by
 unfold lst
 rw [List.getD_eq_getElem?_getD,List.getElem?_append_right (Nat.le_refl _),Nat.sub_self]
 rfl
def gD (y:Str):Nat->List Nat->List Dd
 | _,[]=>[]
 | j,c :: w=>stQ c j y++gD y (j + 1) w
def gF (y:Str):List Nat->List Dd
 | []=>[]
 | c :: w=>stQ c w.length y++gF y w
theorem vo {ds:List Dd} {y:Str}:∀ (us:List (Nat×List Int)) (dn:List (List Int)) (cl:List Lp),(∀ u∈us,Ux u)->dn.length + us.length<=16->
  aO (hl (lst (dn++us.map Prod.snd)) nil) cl (gD y dn.length (us.map Prod.fst)++ds)=aO (hl (lst (dn++(c5 y us cl).1)) nil) (c5 y us cl).2 ds
 | [],dn,cl,_,_=>rfl
 | u :: us,dn,cl,hu,hl'=>by
  rw [List.length_cons] at hl'
  have ih:=vo (ds:=ds) (y:=y) us (dn++[dZ u.1 u.2 (cl.length:Int)]) (cl++dt y u.1 u.2) (fun v hv=>hu v (List.mem_cons_of_mem _ hv)) (by rw [List.length_append];show dn.length + 1 + _<=16;omega)
  rw [List.append_assoc,List.append_assoc,List.length_append] at ih
  show aO (hl (lst (dn++u.2 :: us.map Prod.snd)) nil) cl ((stQ u.1 dn.length y++gD y (dn.length + 1) (us.map Prod.fst))++ds)=_
  rw [List.append_assoc,uc (by omega) (hu u List.mem_cons_self) (xR _ _ _),sS]
  exact ih
theorem w8 {ds:List Dd} {y:Str}:∀ (V:List (Nat×List Int)) (post:List (List Int)) (cl:List Lp),(∀ u∈V,Ux u)->V.length<=16->
  aO (hl (lst (V.reverse.map Prod.snd++post)) nil) cl (gF y (V.map Prod.fst)++ds)=aO (hl (lst ((c5 y V cl).1.reverse++post)) nil) (c5 y V cl).2 ds
 | [],post,cl,_,_=>rfl
 | u :: V,post,cl,hu,hl'=>by
  rw [List.length_cons] at hl'
  have ih:=w8 (ds:=ds) (y:=y) V (dZ u.1 u.2 (cl.length:Int) :: post) (cl++dt y u.1 u.2) (fun v hv=>hu v (List.mem_cons_of_mem _ hv)) (by omega)
  have e1:(u :: V).reverse.map Prod.snd++post=V.reverse.map Prod.snd++u.2 :: post:=by rw [List.reverse_cons,List.map_append,List.append_assoc];rfl
  have e2:(c5 y (u :: V) cl).1.reverse++post=(c5 y V (cl++dt y u.1 u.2)).1.reverse++dZ u.1 u.2 (cl.length:Int) :: post:=by
   show (dZ u.1 u.2 (cl.length:Int) :: (c5 y V (cl++dt y u.1 u.2)).1).reverse++post=_
   rw [List.reverse_cons,List.append_assoc]
   rfl
  have e3:(V.reverse.map Prod.snd).length=(V.map Prod.fst).length:=by rw [List.length_map,List.length_map,List.length_reverse]
  rw [e1,e2]
  show aO _ cl ((stQ u.1 (V.map Prod.fst).length y++gF y (V.map Prod.fst))++ds)=_
  rw [List.append_assoc,<-e3,uc (by rw [List.length_map,List.length_reverse];omega) (hu u List.mem_cons_self) (xR _ _ _),sS]
  exact ih
def cB:List Nat->Nat->Nat->List (Nat×Nat)
 | [],_,_=>[]
 | c :: w,a,j=>if c=111 then cB w a (j + 1) else (if c=114 then a + 1 else a,j) :: cB w (a + tkn c) (j + 1)
theorem rp:∀ (w:List Nat) (a j:Nat) (lv:List (List Int)),(c9 w a j lv).map (fun v=>(v.s,v.g))=cB w a j
 | [],_,_,_=>rfl
 | c :: w,a,j,lv=>by
  show (if c=111 then c9 w a (j + 1) lv else ⟨if c=114 then a + 1 else a,j,bF c (lv.take (tkn c))⟩ :: c9 w (a + tkn c) (j + 1) (lv.drop (tkn c))).map (fun v=>(v.s,v.g))=if c=111 then cB w a (j + 1) else (if c=114 then a + 1 else a,j) :: cB w (a + tkn c) (j + 1)
  by_cases c0:c=111
  ·rw [if_pos c0,if_pos c0];exact rp w a (j + 1) lv
  ·rw [if_neg c0,if_neg c0,List.map_cons,rp w _ (j + 1) _]
def dY (p:Nat×Nat):List Dd:=if p.1 < p.2 then along 16 p.1 p.2 else []
def eM (p:Nat×Nat):List Dd:=if p.1 > p.2 then along 16 p.1 p.2 else []
def placeQ (w:List Nat):List Dd:=((cB w 0 0).reverse.map dY).flatten++((cB w 0 0).map eM).flatten
def gQ (w:List Nat) (y:Str) (b:Bool):List Dd:=if b then gF y w.reverse else gD y 0 w
def ez (w:List Nat) (y:Str) (b:Bool):List Dd:=fE w 0++(placeQ w++gQ w y b)
theorem m8:∀ (w:List Nat) (lv:List (List Int)),(bO w lv).map Prod.fst=w
 | [],_=>rfl
 | c :: w,lv=>by
  show c :: (bO w (lv.drop (tkn c))).map Prod.fst=c :: w
  rw [m8 w]
theorem tT (w:List Nat) (lv:List (List Int)):(bO w lv).length=w.length:=by
 have:=congrArg List.length (m8 w lv)
 rwa [List.length_map] at this
theorem AI {cl:List Lp} {ds:List Dd} (w:List Nat) (y:Str) (b:Bool) (lv:List (List Int)) (he:bE w (aS lv) []) (hk:okC (aS lv)) (h1:lv.length<=16) (h2:w.length<=16) :
  aO (hl (lst lv) nil) cl (ez w y b++ds)=aO (hl (lst (cT y b (bO w lv) cl).1) nil) (cT y b (bO w lv) cl).2 ds:=by
 obtain ⟨k1,k2,_⟩:=pM w 0 0 lv he hk (by omega) (by omega)
 have ux:=sm w lv he hk
 have hn:=rp w 0 0 lv
 have hp:placeQ w=((c9 w 0 0 lv).reverse.map gS).flatten++((c9 w 0 0 lv).map iL).flatten:=by
  unfold placeQ
  rw [<-hn,<-List.map_reverse,List.map_map,List.map_map]
  rfl
 unfold ez
 rw [<-Jb,List.append_assoc]
 have j:=mF (cl:=cl) (ds:=(placeQ w++gQ w y b)++ds) w 0 0 lv [] he hk (by omega) (fun p hp=>by cases hp)
 rw [List.nil_append,List.nil_append] at j
 rw [j,hp,List.append_assoc,List.append_assoc,Gw _ k2 k1,BQ]
 unfold gQ cT
 cases b with
 | false=>
  have l:=vo (ds:=ds) (y:=y) (bO w lv) [] cl ux (by rw [tT];show 0 + _<=16;omega)
  rw [List.nil_append,List.nil_append,m8] at l
  exact l
 | true=>
  have r:=w8 (ds:=ds) (y:=y) (bO w lv).reverse [] cl (fun u hm=>ux u (List.mem_reverse.mp hm)) (by rw [List.length_reverse,tT];exact h2)
  rw [List.reverse_reverse,List.append_nil,List.append_nil,List.map_reverse,m8] at r
  exact r
def dB (y:Str) (n:Nat):List Dd:=(List.range n).map fun (i:Nat)=>.ky (Str.ofString "tuck") (Str.ofString "f") (i:Int) y
theorem lst_snoc (l:List (List Int)) (x:List Int):up (lst l) l.length x=lst (l++[x]):=by
 funext z
 unfold lst
 by_cases e:z=l.length
 ·subst e
  rw [ck,List.getD_eq_getElem?_getD,List.getElem?_append_right (Nat.le_refl _),Nat.sub_self]
  rfl
 ·rw [cj e,List.getD_eq_getElem?_getD,List.getD_eq_getElem?_getD]
  by_cases h:z < l.length
  ·rw [List.getElem?_append_left h]
  ·rw [List.getElem?_eq_none (by omega),List.getElem?_eq_none (by rw [List.length_append];show l.length + 1<=z;omega)]
theorem tO {y:Str}:∀ (n:Nat) (ds:List Dd),n<=16->aO (hl nil nil) [] (dB y n++ds)=aO (hl (lst ((List.range n).map fun (k:Nat)=>[(k:Int)])) nil) (List.replicate n (y,Str.ofString "t",[])) ds
 | 0,ds,_=>by
  have e:lst []=nil:=by funext x;rfl
  show aO (hl nil nil) [] ds=aO (hl (lst []) nil) [] ds
  rw [e]
 | n + 1,ds,h=>by
  have e:dB y (n + 1)=dB y n++[.ky (Str.ofString "tuck") (Str.ofString "f") (n:Int) y]:=by unfold dB;rw [List.range_succ,List.map_append];rfl
  have hlen:((List.range n).map fun (k:Nat)=>[(k:Int)]).length=n:=by rw [List.length_map,List.length_range]
  have hz:lst ((List.range n).map fun (k:Nat)=>[(k:Int)]) n=[]:=by
   unfold lst
   rw [List.getD_eq_getElem?_getD,List.getElem?_eq_none (by rw [hlen];exact Nat.le_refl _)]
   rfl
  rw [e,List.append_assoc,tO n _ (by omega)]
  show aO _ _ (.ky (Str.ofString "tuck") (Str.ofString "f") (n:Int) y :: ds)=_
  rw [vh (by omega) (by rw [hz];exact Nat.zero_le _),hz,List.length_replicate]
  have hu:=lst_snoc ((List.range n).map fun (k:Nat)=>[(k:Int)]) [(n:Int)]
  rw [hlen] at hu
  show aO (hl (up (lst ((List.range n).map fun (k:Nat)=>[(k:Int)])) n [(n:Int)]) nil) _ ds=_
  rw [hu,List.range_succ,List.map_append,List.replicate_succ']
  rfl
theorem FR (lv:List (List Int)) (h:lv.length<=16):hl (lst lv) nil=lv++List.replicate (32 - lv.length) []:=by
 apply List.ext_getElem?
 intro i
 unfold hl
 by_cases hi:i < 32
 ·rw [List.getElem?_map,List.getElem?_range hi]
  show some (if i < 16 then lst lv i else nil (i - 16))=_
  by_cases h2:i < lv.length
  ·rw [List.getElem?_append_left h2,if_pos (by omega)]
   unfold lst
   rw [List.getD_eq_getElem?_getD,List.getElem?_eq_getElem h2]
   rfl
  ·rw [List.getElem?_append_right (by omega),List.getElem?_replicate,if_pos (show i - lv.length < 32 - lv.length by omega)]
   split
   ·unfold lst
    rw [List.getD_eq_getElem?_getD,List.getElem?_eq_none (by omega)]
    rfl
   ·rfl
 ·rw [List.getElem?_eq_none (by rw [List.length_map,List.length_range];omega),List.getElem?_eq_none (by rw [List.length_append,List.length_replicate];omega)]
end Lw
namespace Lw
open PySem L2 DL
theorem IC {i j:Int}:eC (.int i) (.int j)=some (.val (.int (i - j))):=rfl
theorem Cr (a g:Nat):imax ((a:Int) - 2) (di ((a:Int) + 2) (g:Int))=((near a g:Nat):Int):=by
 unfold imax di near
 split <;> split <;> omega
theorem sR (a g:Nat):fT [.int (a:Int),.int (g:Int)]=.ok (.int ((near a g:Nat):Int)):=by
 have g1:jy [.int ((a:Int) + 2),.int (g:Int)]=some (.val (.int (di ((a:Int) + 2) (g:Int)))):=rfl
 have g2:nJ [.int ((a:Int) - 2),.int (di ((a:Int) + 2) (g:Int))]=some (.val (.int (imax ((a:Int) - 2) (di ((a:Int) + 2) (g:Int))))):=rfl
 unfold fT wY
 rw [<-Cr]
 apply fZ
 apply dR
 ·exact dX (av (aL (aq rfl) aH rfl rfl IC) (av (dX (av (aL (aq rfl) aH rfl rfl mQ) (av (aq rfl) aE)) rfl g1) aE)) rfl g2
 exact fD
theorem rW (a b:Nat):gNe (.int (a:Int)) (.int (b:Int))=some (.val (.bl (!decide (a=b)))):=by
 have:((a:Int) == (b:Int))=decide (a=b):=by
  by_cases e:a=b
  ·rw [decide_eq_true e,e];exact beq_self_eq_true _
  ·rw [decide_eq_false e]
   exact beq_eq_false_iff_ne.mpr (by omega)
 rw [<-this]
 exact eN rfl
theorem oC (s g:Nat):(near s g - g) + (g - near s g)=((s - g) + (g - s)) - 2:=by
 unfold near
 omega
theorem rh:∀ (n s g:Nat),(along n s g).length<=2 * (((s - g) + (g - s) + 3) / 4)
 | 0,s,g=>Nat.zero_le _
 | n + 1,s,g=>by
  unfold along
  split
  ·exact Nat.zero_le _
  ·rename_i e
   rw [List.length_cons,List.length_cons]
   have ih:=rh n (near (near s g) g) g
   rw [oC,oC] at ih
   have hx:(s - g) + (g - s)≠0:=by omega
   generalize (s - g) + (g - s)=x at *
   clear e
   omega
theorem zG (n s g:Nat) (h1:s<=g + 1) (h2:g<=s + 1):(along n s g).length<=2:=by
 have:=rh n s g
 omega
theorem xB (n s g:Nat) (h1:s<=g + 15) (h2:g<=s + 15):(along n s g).length<=8:=by
 have:=rh n s g
 omega
theorem zE {n s g:Nat} (h1:s<=g + (n + 1)) (h2:g<=s + (n + 1)) (e:s≠g):near (near s g) g<=g + n/\g<=near (near s g) g + n:=by
 have a1:=oC s g
 have a2:=oC (near s g) g
 generalize near (near s g) g=a at *
 generalize near s g=o at *
 omega
def cAl:DM Bool:=(aw (ah (ae 3) (ae 1) gNe))
def bAl:DM Fl:=(ak (aG 4 (aF 2 (af (ae 3) (af (ae 1) ai)) fT))
  (ak (bR 2 (br (af (fC (.str "move")) (af (fC (.str "f")) (af (ae 3) (af (ae 4) ai))))))
  (ak (aG 3 (aF 2 (af (ae 4) (af (ae 1) ai)) fT))
  (bR 2 (br (af (fC (.str "move")) (af (fC (.str "b")) (af (ae 4) (af (ae 3) ai)))))))))
theorem AQ (p0 b4:Sl) (g s:Nat) (acc:List Dd) (hl:acc.length + 2<=1000):∃ x4,bAl [p0,.sh (.int (g:Int)),.ow (dlD acc),.sh (.int (s:Int)),b4]=.ok .nx [p0,.sh (.int (g:Int)),.ow (dlD (acc++[mvF s (near s g),mvB (near s g) (near (near s g) g)])),.sh (.int ((near (near s g) g:Nat):Int)),x4]:=by
 have n1:=sR s g
 have n2:=sR (near s g) g
 generalize near s g=o at *
 generalize near o g=a at *
 have z1:(dlD acc).length < sizeLine:=by rw [dM];unfold sizeLine;omega
 have z2:(dlD acc++[(mvF s o).D]).length < sizeLine:=by rw [List.length_append,dM];change _ + 1 < _;unfold sizeLine;omega
 have z4:([.str "move",.str "f",.int (s:Int),.int (o:Int)]:List D).length<=sizeLine:=Nat.le_of_ble_eq_true rfl
 have z5:([.str "move",.str "b",.int (o:Int),.int (a:Int)]:List D).length<=sizeLine:=Nat.le_of_ble_eq_true rfl
 have hd:dlD (acc++[mvF s o,mvB o a])=dlD acc++[(mvF s o).D]++[(mvB o a).D]:=by rw [iO,List.append_assoc];rfl
 rw [hd]
 have s1:(aG 4 (aF 2 (af (ae 3) (af (ae 1) ai)) fT)) [p0,.sh (.int (g:Int)),.ow (dlD acc),.sh (.int (s:Int)),b4]=.ok .nx [p0,.sh (.int (g:Int)),.ow (dlD acc),.sh (.int (s:Int)),.sh (.int (o:Int))]:=cf (iT (av (aq rfl) (av (aq rfl) aE)) rfl rfl n1) rfl
 have s2:(bR 2 (br (af (fC (.str "move")) (af (fC (.str "f")) (af (ae 3) (af (ae 4) ai)))))) [p0,.sh (.int (g:Int)),.ow (dlD acc),.sh (.int (s:Int)),.sh (.int (o:Int))]=.ok .nx [p0,.sh (.int (g:Int)),.ow (dlD acc++[(mvF s o).D]),.sh (.int (s:Int)),.sh (.int (o:Int))]:=
  jh (i:=2) (es:=dlD acc) (ds:=dlD acc) rfl (cW (av aH (av aH (av (aq rfl) (av (aq rfl) aE)))) rfl z4) rfl rfl z1
 have s3:(aG 3 (aF 2 (af (ae 4) (af (ae 1) ai)) fT)) [p0,.sh (.int (g:Int)),.ow (dlD acc++[(mvF s o).D]),.sh (.int (s:Int)),.sh (.int (o:Int))]=.ok .nx [p0,.sh (.int (g:Int)),.ow (dlD acc++[(mvF s o).D]),.sh (.int (a:Int)),.sh (.int (o:Int))]:=cf (iT (av (aq rfl) (av (aq rfl) aE)) rfl rfl n2) rfl
 have s4:(bR 2 (br (af (fC (.str "move")) (af (fC (.str "b")) (af (ae 4) (af (ae 3) ai)))))) [p0,.sh (.int (g:Int)),.ow (dlD acc++[(mvF s o).D]),.sh (.int (a:Int)),.sh (.int (o:Int))]=.ok .nx [p0,.sh (.int (g:Int)),.ow (dlD acc++[(mvF s o).D]++[(mvB o a).D]),.sh (.int (a:Int)),.sh (.int (o:Int))]:=
  jh (i:=2) (es:=dlD acc++[(mvF s o).D]) (ds:=dlD acc++[(mvF s o).D]) rfl (cW (av aH (av aH (av (aq rfl) (av (aq rfl) aE)))) rfl z5) rfl rfl z2
 refine ⟨.sh (.int (o:Int)),?_⟩
 unfold bAl
 exact aB s1 (aI (aB s2 (aI (aB s3 (aI s4)))))
theorem vD (p0:Sl) (g:Nat):∀ (n s fuel:Nat) (acc:List Dd) (b4:Sl),s<=g + n->g<=s + n->n < fuel->acc.length + 2 * n<=1000->
  ∃ x4,dF cAl bAl fuel [p0,.sh (.int (g:Int)),.ow (dlD acc),.sh (.int (s:Int)),b4]=.ok .nx [p0,.sh (.int (g:Int)),.ow (dlD (acc++along n s g)),.sh (.int (g:Int)),x4]
 | _,_,0,_,_,_,_,h,_=>absurd h (Nat.not_lt_zero _)
 | 0,s,fuel + 1,acc,b4,h1,h2,_,_=>by
  have e:s=g:=by omega
  subst e
  have q:=rW s s
  rw [decide_eq_true rfl] at q
  refine ⟨b4,?_⟩
  change _=Rs.ok Fl.nx [p0,.sh (.int (s:Int)),.ow (dlD (acc++[])),.sh (.int (s:Int)),b4]
  rw [List.append_nil]
  exact rP (bx (aL (aq rfl) (aq rfl) rfl rfl q) rfl)
 | n + 1,s,fuel + 1,acc,b4,h1,h2,hf,hl=>by
  by_cases e:s=g
  ·subst e
   have q:=rW s s
   rw [decide_eq_true rfl] at q
   have ha:along (n + 1) s s=[]:=if_pos rfl
   refine ⟨b4,?_⟩
   rw [ha,List.append_nil]
   exact rP (bx (aL (aq rfl) (aq rfl) rfl rfl q) rfl)
  ·have q:=rW s g
   rw [decide_eq_false e] at q
   have ha:along (n + 1) s g=mvF s (near s g) :: mvB (near s g) (near (near s g) g) :: along n (near (near s g) g) g:=if_neg e
   obtain ⟨x4,et⟩:=AQ p0 b4 g s acc (by omega)
   obtain ⟨y4,er⟩:=vD p0 g n (near (near s g) g) fuel (acc++[mvF s (near s g),mvB (near s g) (near (near s g) g)]) x4 (zE h1 h2 e).1 (zE h1 h2 e).2 (by omega) (by rw [List.length_append];change acc.length + 2 + _<=_;omega)
   refine ⟨y4,?_⟩
   rw [ha,show acc++mvF s (near s g) :: mvB (near s g) (near (near s g) g) :: along n (near (near s g) g) g=acc++[mvF s (near s g),mvB (near s g) (near (near s g) g)]++along n (near (near s g) g) g by simp]
   exact uN (bx (aL (aq rfl) (aq rfl) rfl rfl q) rfl) et er
theorem nZ (s g:Nat) (h1:s<=g + 16) (h2:g<=s + 16):eE [.int (s:Int),.int (g:Int)]=.own (dlD (along 16 s g)):=by
 obtain ⟨x4,e⟩:=vD (.sh (.int (s:Int))) g 16 s 64 [] .no h1 h2 (by omega) (by change 0 + _<=_;omega)
 rw [List.nil_append] at e
 unfold cAl bAl at e
 unfold eE wN
 apply cG
 apply aB
 ·exact fX (dh aE rfl (Nat.le_of_ble_eq_true rfl))
 apply aI
 apply aB
 ·exact cf (aq rfl) rfl
 apply aI
 apply aB
 ·exact e
 apply aI
 exact jP (iR rfl) rfl
end Lw
namespace Lw
open PySem L2 DL
theorem GD (c:Nat):gEq (.str (ch c)) (.str (Str.ofString "l"))=some (.val (.bl (decide (c=108)))):=by rw [v7];exact eS c 108
theorem sQ (c:Nat):gEq (.str (ch c)) (.str (Str.ofString "r"))=some (.val (.bl (decide (c=114)))):=by rw [qh];exact eS c 114
theorem HB (c:Nat):gNe (.str (ch c)) (.str (Str.ofString "o"))=some (.val (.bl (!decide (c=111)))):=by
 have:=eS c 111
 rw [<-iA] at this
 unfold gEq at this
 unfold gNe
 cases h:dv 8 (.str (ch c)) (.str (Str.ofString "o")) with
 | none=>rw [h] at this;cases this
 | some b=>
  rw [h] at this
  have e:b=decide (c=111):=by injection this with this;injection this with this;injection this
  rw [e];rfl
def bJm:DM Fl:=(fIf (aw (ah (ae 2) (fC (.str "l")) gEq)) (cq 1 (aF 2 (af (ah (ae 3) (fC (.int 1)) aV) (af (ae 3) ai)) eE)) (fIf (aw (ah (ae 2) (fC (.str "r")) gEq)) (cq 1 (aF 2 (af (ae 3) (af (ah (ae 3) (fC (.int 1)) aV) ai)) eE)) aN))
def jm1 (c a:Nat):List Dd:=if c=108 then along 16 (a + 1) a else if c=114 then along 16 a (a + 1) else []
theorem rA (c a:Nat):(jm1 c a).length<=2:=by
 unfold jm1
 split
 ·exact zG _ _ _ (by omega) (by omega)
 ·split
  ·exact zG _ _ _ (by omega) (by omega)
  ·exact Nat.zero_le _
theorem HC (p0 p4:Sl) (c a:Nat) (acc:List Dd) (hl:acc.length<=4000):bJm [p0,.ow (dlD acc),.sh (.str (ch c)),.sh (.int (a:Int)),p4]=.ok .nx [p0,.ow (dlD (acc++jm1 c a)),.sh (.str (ch c)),.sh (.int (a:Int)),p4]:=by
 have e1:=GD c
 have e2:=sQ c
 have ha:(a:Int) + 1=((a + 1:Nat):Int):=by omega
 have g0:aV (.int (a:Int)) (.int 1)=some (.val (.int ((a + 1:Nat):Int))):=by rw [<-ha];exact mQ
 have hz:=rA c a
 have z:(dlD acc).length + (dlD (jm1 c a)).length<=sizeLine:=by rw [dM,dM];unfold sizeLine;omega
 unfold bJm
 rw [iO]
 unfold jm1 at z ⊢
 by_cases h1:c=108
 ·rw [decide_eq_true h1] at e1
  rw [if_pos h1] at z ⊢
  have g:=nZ (a + 1) a (by omega) (by omega)
  refine bD (bx (aL (aq rfl) aH rfl rfl e1) rfl) (dQ rfl ?_)
  exact gx (i:=1) (ds0:=dlD acc) (ds:=dlD acc) rfl (eJ (ds:=[.int ((a + 1:Nat):Int),.int (a:Int)]) (av (aL (aq rfl) aH rfl rfl g0) (av (aq rfl) aE)) rfl rfl g) rfl rfl z
 ·rw [decide_eq_false h1] at e1
  rw [if_neg h1] at z ⊢
  refine bD (bx (aL (aq rfl) aH rfl rfl e1) rfl) (cy rfl ?_)
  by_cases h2:c=114
  ·rw [decide_eq_true h2] at e2
   rw [if_pos h2] at z ⊢
   have g:=nZ a (a + 1) (by omega) (by omega)
   refine bD (bx (aL (aq rfl) aH rfl rfl e2) rfl) (dQ rfl ?_)
   exact gx (i:=1) (ds0:=dlD acc) (ds:=dlD acc) rfl (eJ (ds:=[.int (a:Int),.int ((a + 1:Nat):Int)]) (av (aq rfl) (av (aL (aq rfl) aH rfl rfl g0) aE)) rfl rfl g) rfl rfl z
  ·rw [decide_eq_false h2] at e2
   rw [if_neg h2]
   rw [show dlD ([]:List Dd)=[] from rfl,List.append_nil]
   exact bD (bx (aL (aq rfl) aH rfl rfl e2) rfl) (cy rfl cC)
theorem pU:∀ (w:List Nat) (a:Nat),(fE w a).length<=2 * w.length
 | [],_=>Nat.le_refl _
 | c :: w,a=>by
  change (jm1 c a++fE w (a + tkn c)).length<=_
  rw [List.length_append,List.length_cons]
  have:=rA c a
  have:=pU w (a + tkn c)
  omega
theorem xO (p0:Sl):∀ (w:List Nat) (a:Nat) (acc:List Dd) (b2 b3 b4:Sl),acc.length + 2 * w.length<=4000->
  ∃ x2 x3 x4,bP (cY [2,3,4]) bJm (gE w (a:Int)) [p0,.ow (dlD acc),b2,b3,b4]=.ok .nx [p0,.ow (dlD (acc++fE w a)),x2,x3,x4]
 | [],a,acc,b2,b3,b4,_=>⟨b2,b3,b4,by change _=Rs.ok Fl.nx [p0,.ow (dlD (acc++[])),b2,b3,b4];rw [List.append_nil];rfl⟩
 | c :: w,a,acc,b2,b3,b4,hl=>by
  rw [List.length_cons] at hl
  have hz:=rA c a
  obtain ⟨x2,x3,x4,e⟩:=xO p0 w (a + tkn c) (acc++jm1 c a) (.sh (.str (ch c))) (.sh (.int (a:Int))) (.sh (.int ((a:Int) + (tkn c:Nat)))) (by rw [List.length_append];omega)
  refine ⟨x2,x3,x4,?_⟩
  change _=Rs.ok Fl.nx [p0,.ow (dlD (acc++(jm1 c a++fE w (a + tkn c)))),x2,x3,x4]
  rw [<-List.append_assoc]
  have hc:((a + tkn c:Nat):Int)=(a:Int) + (tkn c:Nat):=by omega
  rw [hc] at e
  exact dj (δ1:=[p0,.ow (dlD acc),.sh (.str (ch c)),.sh (.int (a:Int)),.sh (.int ((a:Int) + (tkn c:Nat)))]) rfl (HC p0 _ c a acc (by omega)) e
theorem Cy {x:Str} (hc:∀ c∈x.cps.toList,c∈codes) (hl:x.length<=16):iQ [.str x]=.own (dlD (fE x.cps.toList 0)):=by
 have hn:x.cps.toList.length=x.length:=Array.length_toList
 obtain ⟨x2,x3,x4,e⟩:=xO (.sh (.str x)) x.cps.toList 0 [] .no .no .no (by rw [hn];change 0 + _<=_;omega)
 rw [List.nil_append] at e
 have g:=lV hc (by omega)
 unfold bJm at e
 unfold iQ xk
 apply cG
 apply aB
 ·exact fX (dh aE rfl (Nat.le_of_ble_eq_true rfl))
 apply aI
 apply aB
 ·exact fP (gh (eJ (av (aq rfl) aE) rfl rfl g) rfl rfl) e
 apply aI
 exact jP (iR rfl) rfl
def wyD (ps:List (Nat×Nat)):List D:=ps.map fun p=>.tup [.int (p.1:Int),.int (p.2:Int)]
theorem E8 (ps:List (Nat×Nat)):(wyD ps).length=ps.length:=List.length_map _
theorem HM (a b:List (Nat×Nat)):wyD (a++b)=wyD a++wyD b:=List.map_append
theorem Ag (a:List (Nat×Nat)):(wyD a).reverse=wyD a.reverse:=by unfold wyD;rw [List.map_reverse]
def bWo:DM Fl:=(fIf (aw (ah (ah (ae 3) (fC (.int 0)) gIx) (fC (.str "r")) gEq)) (bR 1 (br (af (ah (ah (ae 3) (fC (.int 1)) gIx) (fC (.int 1)) aV) (af (ae 2) ai)))) (fIf (aw (ah (ah (ae 3) (fC (.int 0)) gIx) (fC (.str "o")) gNe)) (bR 1 (br (af (ah (ae 3) (fC (.int 1)) gIx) (af (ae 2) ai)))) aN))
def i5 (c a j:Nat):List (Nat×Nat):=if c=111 then [] else [(if c=114 then a + 1 else a,j)]
theorem GI (p0:Sl) (c a j:Nat) (v:Int) (acc:List (Nat×Nat)) (hl:acc.length<=4000):bWo [p0,.ow (wyD acc),.sh (.int (j:Int)),.sh (.tup [.str (ch c),.int (a:Int),.int v])]=.ok .nx [p0,.ow (wyD (acc++i5 c a j)),.sh (.int (j:Int)),.sh (.tup [.str (ch c),.int (a:Int),.int v])]:=by
 have e1:=sQ c
 have e2:=HB c
 have i0:gIx (.tup [.str (ch c),.int (a:Int),.int v]) (.int 0)=some (.val (.str (ch c))):=rfl
 have i1:gIx (.tup [.str (ch c),.int (a:Int),.int v]) (.int 1)=some (.val (.int (a:Int))):=rfl
 have z:(wyD acc).length < sizeLine:=by rw [E8];unfold sizeLine;omega
 have ha:(a:Int) + 1=((a + 1:Nat):Int):=by omega
 have g0:aV (.int (a:Int)) (.int 1)=some (.val (.int ((a + 1:Nat):Int))):=by rw [<-ha];exact mQ
 unfold bWo
 rw [HM]
 unfold i5
 by_cases h1:c=114
 ·rw [decide_eq_true h1] at e1
  rw [if_neg (by omega),if_pos h1]
  refine bD (bx (aL (aL (aq rfl) aH rfl rfl i0) aH rfl rfl e1) rfl) (dQ rfl ?_)
  exact jh (i:=1) (es:=wyD acc) (ds:=wyD acc) rfl (cW (ds:=[.int ((a + 1:Nat):Int),.int (j:Int)]) (av (aL (aL (aq rfl) aH rfl rfl i1) aH rfl rfl g0) (av (aq rfl) aE)) rfl (Nat.le_of_ble_eq_true rfl)) rfl rfl z
 ·rw [decide_eq_false h1] at e1
  rw [if_neg h1]
  refine bD (bx (aL (aL (aq rfl) aH rfl rfl i0) aH rfl rfl e1) rfl) (cy rfl ?_)
  by_cases h2:c=111
  ·rw [decide_eq_true h2] at e2
   rw [if_pos h2,show wyD []=[] from rfl,List.append_nil]
   exact bD (bx (aL (aL (aq rfl) aH rfl rfl i0) aH rfl rfl e2) rfl) (cy rfl cC)
  ·rw [decide_eq_false h2] at e2
   rw [if_neg h2]
   refine bD (bx (aL (aL (aq rfl) aH rfl rfl i0) aH rfl rfl e2) rfl) (dQ rfl ?_)
   exact jh (i:=1) (es:=wyD acc) (ds:=wyD acc) rfl (cW (ds:=[.int (a:Int),.int (j:Int)]) (av (aL (aq rfl) aH rfl rfl i1) (av (aq rfl) aE)) rfl (Nat.le_of_ble_eq_true rfl)) rfl rfl z
theorem rV (c:Nat) (w:List Nat) (a j:Nat):cB (c :: w) a j=i5 c a j++cB w (a + tkn c) (j + 1):=by
 change (if c=111 then cB w a (j + 1) else _)=_
 unfold i5
 by_cases h:c=111
 ·have:tkn c=0:=by rw [h];rfl
  rw [if_pos h,if_pos h,this,Nat.add_zero];rfl
 ·rw [if_neg h,if_neg h];rfl
theorem yo (c a j:Nat):(i5 c a j).length<=1:=by
 unfold i5
 split
 ·exact Nat.zero_le _
 ·exact Nat.le_refl _
theorem qJ:∀ (w:List Nat) (a j:Nat),(cB w a j).length<=w.length
 | [],_,_=>Nat.le_refl _
 | c :: w,a,j=>by
  rw [rV,List.length_append,List.length_cons]
  have:=yo c a j
  have:=qJ w (a + tkn c) (j + 1)
  omega
theorem vV (p0:Sl):∀ (w:List Nat) (a j:Nat) (acc:List (Nat×Nat)) (b2 b3:Sl),acc.length + w.length<=4000->
  ∃ x2 x3,bP (cY [2,3]) bWo (en (j:Int) (gE w (a:Int))) [p0,.ow (wyD acc),b2,b3]=.ok .nx [p0,.ow (wyD (acc++cB w a j)),x2,x3]
 | [],a,j,acc,b2,b3,_=>⟨b2,b3,by change _=Rs.ok Fl.nx [p0,.ow (wyD (acc++[])),b2,b3];rw [List.append_nil];rfl⟩
 | c :: w,a,j,acc,b2,b3,hl=>by
  rw [List.length_cons] at hl
  have hz:=yo c a j
  obtain ⟨x2,x3,e⟩:=vV p0 w (a + tkn c) (j + 1) (acc++i5 c a j) (.sh (.int (j:Int))) (.sh (.tup [.str (ch c),.int (a:Int),.int ((a:Int) + (tkn c:Nat))])) (by rw [List.length_append];omega)
  refine ⟨x2,x3,?_⟩
  rw [rV,<-List.append_assoc]
  have hc:((a + tkn c:Nat):Int)=(a:Int) + (tkn c:Nat):=by omega
  have hj:((j + 1:Nat):Int)=(j:Int) + 1:=by omega
  rw [hc,hj] at e
  exact dj (δ1:=[p0,.ow (wyD acc),.sh (.int (j:Int)),.sh (.tup [.str (ch c),.int (a:Int),.int ((a:Int) + (tkn c:Nat))])]) rfl (GI p0 c a j _ acc (by omega)) e
theorem zT {x:Str} (hc:∀ c∈x.cps.toList,c∈codes) (hl:x.length<=16):ka [.str x]=.own (wyD (cB x.cps.toList 0 0)):=by
 have hn:x.cps.toList.length=x.length:=Array.length_toList
 obtain ⟨x2,x3,e⟩:=vV (.sh (.str x)) x.cps.toList 0 0 [] .no .no (by rw [hn];change 0 + _<=_;omega)
 rw [List.nil_append] at e
 have g:=lV hc (by omega)
 unfold bWo at e
 unfold ka yu
 apply cG
 apply aB
 ·exact fX (dh aE rfl (Nat.le_of_ble_eq_true rfl))
 apply aI
 apply aB
 ·exact fP (Jt (eJ (av (aq rfl) aE) rfl rfl g) rfl) e
 apply aI
 exact jP (iR rfl) rfl
end Lw
namespace Lw
open PySem L2 DL
theorem t9:∀ (w:List Nat) (a j:Nat),∀ p∈cB w a j,p.1 + 1<=a + (w.map tkn).sum/\p.2 + 1<=j + w.length
 | [],_,_,p,h=>by cases h
 | c :: w,a,j,p,h=>by
  rw [rV] at h
  rw [List.map_cons,List.sum_cons,List.length_cons]
  rcases List.mem_append.mp h with z | z
  ·unfold i5 at z
   split at z
   ·cases z
   ·rename_i h1
    rw [List.mem_singleton.mp z]
    dsimp only
    have ht:1<=tkn c:=by
     unfold tkn
     rw [if_neg h1]
     split <;> omega
    by_cases h2:c=114
    ·have h3:tkn c=2:=by rw [h2];rfl
     rw [if_pos h2];omega
    ·rw [if_neg h2];omega
  ·have:=t9 w (a + tkn c) (j + 1) p z
   omega
def bPr:DM Fl:=(fIf (aw (ah (ae 3) (ae 4) (bg lt))) (cq 2 (aF 2 (af (ae 3) (af (ae 4) ai)) eE)) aN)
def bPl:DM Fl:=(fIf (aw (ah (ae 3) (ae 4) (bg gt))) (cq 2 (aF 2 (af (ae 3) (af (ae 4) ai)) eE)) aN)
theorem nP (p:Nat×Nat) (h1:p.1 < 16) (h2:p.2 < 16):(dY p).length<=8:=by
 unfold dY
 split
 ·exact xB _ _ _ (by omega) (by omega)
 ·exact Nat.zero_le _
theorem rZ (p:Nat×Nat) (h1:p.1 < 16) (h2:p.2 < 16):(eM p).length<=8:=by
 unfold eM
 split
 ·exact xB _ _ _ (by omega) (by omega)
 ·exact Nat.zero_le _
theorem AW (p0 p1:Sl) (p:Nat×Nat) (h1:p.1 < 16) (h2:p.2 < 16) (acc:List Dd) (hl:acc.length<=4000):bPr [p0,p1,.ow (dlD acc),.sh (.int (p.1:Int)),.sh (.int (p.2:Int))]=.ok .nx [p0,p1,.ow (dlD (acc++dY p)),.sh (.int (p.1:Int)),.sh (.int (p.2:Int))]:=by
 have q:bg lt (.int (p.1:Int)) (.int (p.2:Int))=some (.val (.bl (decide ((p.1:Int) < (p.2:Int))))):=rfl
 have hz:=nP p h1 h2
 have z:(dlD acc).length + (dlD (dY p)).length<=sizeLine:=by rw [dM,dM];unfold sizeLine;omega
 unfold bPr
 rw [iO]
 unfold dY at z ⊢
 by_cases h:p.1 < p.2
 ·rw [decide_eq_true (show (p.1:Int) < (p.2:Int) by omega)] at q
  rw [if_pos h] at z ⊢
  have g:=nZ p.1 p.2 (by omega) (by omega)
  exact bD (bx (aL (aq rfl) (aq rfl) rfl rfl q) rfl) (dQ rfl (gx (i:=2) (ds0:=dlD acc) (ds:=dlD acc) rfl (eJ (av (aq rfl) (av (aq rfl) aE)) rfl rfl g) rfl rfl z))
 ·rw [decide_eq_false (show ¬ (p.1:Int) < (p.2:Int) by omega)] at q
  rw [if_neg h,show dlD ([]:List Dd)=[] from rfl,List.append_nil]
  exact bD (bx (aL (aq rfl) (aq rfl) rfl rfl q) rfl) (cy rfl cC)
theorem IG (p0 p1:Sl) (p:Nat×Nat) (h1:p.1 < 16) (h2:p.2 < 16) (acc:List Dd) (hl:acc.length<=4000):bPl [p0,p1,.ow (dlD acc),.sh (.int (p.1:Int)),.sh (.int (p.2:Int))]=.ok .nx [p0,p1,.ow (dlD (acc++eM p)),.sh (.int (p.1:Int)),.sh (.int (p.2:Int))]:=by
 have q:bg gt (.int (p.1:Int)) (.int (p.2:Int))=some (.val (.bl (decide ((p.2:Int) < (p.1:Int))))):=rfl
 have hz:=rZ p h1 h2
 have z:(dlD acc).length + (dlD (eM p)).length<=sizeLine:=by rw [dM,dM];unfold sizeLine;omega
 unfold bPl
 rw [iO]
 unfold eM at z ⊢
 by_cases h:p.1 > p.2
 ·rw [decide_eq_true (show (p.2:Int) < (p.1:Int) by omega)] at q
  rw [if_pos h] at z ⊢
  have g:=nZ p.1 p.2 (by omega) (by omega)
  exact bD (bx (aL (aq rfl) (aq rfl) rfl rfl q) rfl) (dQ rfl (gx (i:=2) (ds0:=dlD acc) (ds:=dlD acc) rfl (eJ (av (aq rfl) (av (aq rfl) aE)) rfl rfl g) rfl rfl z))
 ·rw [decide_eq_false (show ¬ (p.2:Int) < (p.1:Int) by omega)] at q
  rw [if_neg h,show dlD ([]:List Dd)=[] from rfl,List.append_nil]
  exact bD (bx (aL (aq rfl) (aq rfl) rfl rfl q) rfl) (cy rfl cC)
theorem p9 (S:DM Fl) (fq:Nat×Nat->List Dd) (p0 p1:Sl) (hS:∀ (p:Nat×Nat) (acc:List Dd),p.1 < 16->p.2 < 16->acc.length<=4000->S [p0,p1,.ow (dlD acc),.sh (.int (p.1:Int)),.sh (.int (p.2:Int))]=.ok .nx [p0,p1,.ow (dlD (acc++fq p)),.sh (.int (p.1:Int)),.sh (.int (p.2:Int))]) (hq:∀ p:Nat×Nat,p.1 < 16->p.2 < 16->(fq p).length<=8) :
  ∀ (ps:List (Nat×Nat)) (acc:List Dd) (b3 b4:Sl),(∀ p∈ps,p.1 < 16/\p.2 < 16)->acc.length + 8 * ps.length<=4000->
  ∃ x3 x4,bP (cY [3,4]) S (wyD ps) [p0,p1,.ow (dlD acc),b3,b4]=.ok .nx [p0,p1,.ow (dlD (acc++(ps.map fq).flatten)),x3,x4]
 | [],acc,b3,b4,_,_=>⟨b3,b4,by change _=Rs.ok Fl.nx [p0,p1,.ow (dlD (acc++[])),b3,b4];rw [List.append_nil];rfl⟩
 | p :: ps,acc,b3,b4,h,hl=>by
  rw [List.length_cons] at hl
  obtain ⟨h1,h2⟩:=h p List.mem_cons_self
  have hz:=hq p h1 h2
  obtain ⟨x3,x4,e⟩:=p9 S fq p0 p1 hS hq ps (acc++fq p) (.sh (.int (p.1:Int))) (.sh (.int (p.2:Int))) (fun c hc=>h c (List.mem_cons_of_mem _ hc)) (by rw [List.length_append];omega)
  refine ⟨x3,x4,?_⟩
  rw [List.map_cons,List.flatten_cons,<-List.append_assoc]
  exact dj (δ1:=[p0,p1,.ow (dlD acc),.sh (.int (p.1:Int)),.sh (.int (p.2:Int))]) rfl (hS p acc h1 h2 (by omega)) e
theorem uS (fq:Nat×Nat->List Dd) (hq:∀ p:Nat×Nat,p.1 < 16->p.2 < 16->(fq p).length<=8):∀ ps:List (Nat×Nat),(∀ p∈ps,p.1 < 16/\p.2 < 16)->((ps.map fq).flatten).length<=8 * ps.length
 | [],_=>Nat.le_refl _
 | p :: ps,h=>by
  rw [List.map_cons,List.flatten_cons,List.length_append,List.length_cons]
  have:=hq p (h p List.mem_cons_self).1 (h p List.mem_cons_self).2
  have:=uS fq hq ps fun c hc=>h c (List.mem_cons_of_mem _ hc)
  omega
theorem rE {x:Str} (hl:x.length<=16) (ht:(x.cps.toList.map tkn).sum<=16):∀ p∈cB x.cps.toList 0 0,p.1 < 16/\p.2 < 16:=fun p hp=>by
 have hn:x.cps.toList.length=x.length:=Array.length_toList
 have:=t9 x.cps.toList 0 0 p hp
 omega
theorem Ih {x:Str} (hc:∀ c∈x.cps.toList,c∈codes) (hl:x.length<=16) (ht:(x.cps.toList.map tkn).sum<=16):i7 [.str x]=.own (dlD (placeQ x.cps.toList)):=by
 have hn:x.cps.toList.length=x.length:=Array.length_toList
 have hw:=rE hl ht
 have hwl:=qJ x.cps.toList 0 0
 have hwr:∀ p∈(cB x.cps.toList 0 0).reverse,p.1 < 16/\p.2 < 16:=fun p hp=>hw p (List.mem_reverse.mp hp)
 have g:=zT hc hl
 have hr8:=uS dY nP (cB x.cps.toList 0 0).reverse hwr
 rw [List.length_reverse] at hr8
 obtain ⟨x3,x4,e1⟩:=p9 bPr dY (.sh (.str x)) (.sh (.lst (wyD (cB x.cps.toList 0 0)))) (fun p acc h1 h2 h3=>AW _ _ p h1 h2 acc h3) nP (cB x.cps.toList 0 0).reverse [] .no .no hwr (by rw [List.length_reverse];change 0 + _<=_;omega)
 rw [List.nil_append] at e1
 obtain ⟨y3,y4,e2⟩:=p9 bPl eM (.sh (.str x)) (.sh (.lst (wyD (cB x.cps.toList 0 0)))) (fun p acc h1 h2 h3=>IG _ _ p h1 h2 acc h3) rZ (cB x.cps.toList 0 0) ((cB x.cps.toList 0 0).reverse.map dY).flatten x3 x4 hw (by omega)
 rw [<-Ag] at e1
 unfold bPr at e1
 unfold bPl at e2
 unfold i7 tJ placeQ
 apply cG
 apply aB
 ·exact cf (eJ (av (aq rfl) aE) rfl rfl g) rfl
 apply aI
 apply aB
 ·exact fX (dh aE rfl (Nat.le_of_ble_eq_true rfl))
 apply aI
 apply aB
 ·exact fP (DW (aq rfl) rfl) e1
 apply aI
 apply aB
 ·exact fP (gh (aq rfl) rfl rfl) e2
 apply aI
 exact jP (iR rfl) rfl
theorem Fj (c j:Nat) (y:Str):jO [.str (ch c),.int (j:Int),.str y]=.own (dlD (stQ c j y)):=by
 have e1:gEq (.str (ch c)) (.str (Str.ofString "s"))=some (.val (.bl (decide (c=115)))):=by rw [ju];exact eS c 115
 have e2:=wJ c
 have e3:gEq (.str (ch c)) (.str (Str.ofString "p"))=some (.val (.bl (decide (c=112)))):=by rw [mG];exact eS c 112
 have z0:([]:List D).length<=sizeLine:=Nat.le_of_ble_eq_true rfl
 have t2:([.str "t",.str "o"]:List D).length<=sizeLine:=Nat.le_of_ble_eq_true rfl
 unfold jO tN stQ
 by_cases h1:c=115
 ·rw [decide_eq_true h1] at e1
  rw [if_pos h1]
  apply cG
  apply aB
  ·exact bD (bx (aL (aq rfl) aH rfl rfl e1) rfl) (dQ rfl (mZ (dh aE rfl z0)))
  exact oz
 ·rw [decide_eq_false h1] at e1
  rw [if_neg h1]
  apply cG
  apply aB
  ·exact bD (bx (aL (aq rfl) aH rfl rfl e1) rfl) (cy rfl cC)
  apply aI
  by_cases h2:c=116\/c=111
  ·rw [decide_eq_true h2] at e2
   rw [if_pos h2]
   apply aB
   ·exact bD (bx (aL (aq rfl) (cW (av aH (av aH aE)) rfl t2) rfl rfl e2) rfl) (dQ rfl (mZ (dh (av (cW (av aH (av aH (av (aq rfl) (av (aq rfl) aE)))) rfl (Nat.le_of_ble_eq_true rfl)) aE) rfl (Nat.le_of_ble_eq_true rfl))))
   exact oz
  ·rw [decide_eq_false h2] at e2
   rw [if_neg h2]
   apply aB
   ·exact bD (bx (aL (aq rfl) (cW (av aH (av aH aE)) rfl t2) rfl rfl e2) rfl) (cy rfl cC)
   apply aI
   by_cases h3:c=112
   ·rw [decide_eq_true h3] at e3
    rw [if_pos h3]
    apply aB
    ·exact bD (bx (aL (aq rfl) aH rfl rfl e3) rfl) (dQ rfl (mZ (dh (av (cW (av aH (av aH (av (aq rfl) (av (aq rfl) aE)))) rfl (Nat.le_of_ble_eq_true rfl)) (av (cW (av aH (av aH (av (aq rfl) (av (aq rfl) aE)))) rfl (Nat.le_of_ble_eq_true rfl)) (av (cW (av aH (av aH (av (aq rfl) (av (aq rfl) aE)))) rfl (Nat.le_of_ble_eq_true rfl)) aE))) rfl (Nat.le_of_ble_eq_true rfl))))
    exact oz
   ·rw [decide_eq_false h3] at e3
    rw [if_neg h3]
    apply aB
    ·exact bD (bx (aL (aq rfl) aH rfl rfl e3) rfl) (cy rfl cC)
    apply aI
    exact mZ (dh (av (cW (av aH (av aH (av (aq rfl) (av (aq rfl) aE)))) rfl (Nat.le_of_ble_eq_true rfl)) aE) rfl (Nat.le_of_ble_eq_true rfl))
theorem qT (c j:Nat) (y:Str):(stQ c j y).length<=3:=by
 unfold stQ
 split
 ·exact Nat.zero_le _
 ·split
  ·exact Nat.le_of_ble_eq_true rfl
  ·split
   ·exact Nat.le_of_ble_eq_true rfl
   ·exact Nat.le_of_ble_eq_true rfl
def bWd:DM Fl:=(cq 3 (aF 3 (af (ae 5) (af (ae 4) (af (ah (ae 0) (fC (.int 1)) gIx) ai))) jO))
def prD (p:Nat×Nat):D:=.tup [.int (p.1:Int),.str (ch p.2)]
theorem rq (r:Str×Str) (p1 p2:Sl):∀ (ps:List (Nat×Nat)) (acc:List Dd) (b4 b5:Sl),acc.length + 3 * ps.length<=4000->
  ∃ x4 x5,bP (cY [4,5]) bWd (ps.map prD) [.sh (aP r),p1,p2,.ow (dlD acc),b4,b5]=.ok .nx [.sh (aP r),p1,p2,.ow (dlD (acc++(ps.map fun p=>stQ p.2 p.1 r.1).flatten)),x4,x5]
 | [],acc,b4,b5,_=>⟨b4,b5,by change _=Rs.ok Fl.nx [.sh (aP r),p1,p2,.ow (dlD (acc++[])),b4,b5];rw [List.append_nil];rfl⟩
 | p :: ps,acc,b4,b5,hl=>by
  rw [List.length_cons] at hl
  have hz:=qT p.2 p.1 r.1
  have z:(dlD acc).length + (dlD (stQ p.2 p.1 r.1)).length<=sizeLine:=by rw [dM,dM];unfold sizeLine;omega
  have g:=Fj p.2 p.1 r.1
  have i1:gIx (aP r) (.int 1)=some (.val (.str r.1)):=rfl
  obtain ⟨x4,x5,e⟩:=rq r p1 p2 ps (acc++stQ p.2 p.1 r.1) (.sh (.int (p.1:Int))) (.sh (.str (ch p.2))) (by rw [List.length_append];omega)
  refine ⟨x4,x5,?_⟩
  rw [List.map_cons,List.map_cons,List.flatten_cons,<-List.append_assoc]
  refine dj (δ1:=[.sh (aP r),p1,p2,.ow (dlD acc),.sh (.int (p.1:Int)),.sh (.str (ch p.2))]) rfl ?_ e
  rw [iO]
  exact gx (i:=3) (ds0:=dlD acc) (ds:=dlD acc) rfl (eJ (av (aq rfl) (av (aq rfl) (av (aL (aq rfl) aH rfl rfl i1) aE))) rfl rfl g) rfl rfl z
def dD:Nat->List Nat->List (Nat×Nat)
 | _,[]=>[]
 | j,c :: w=>(j,c) :: dD (j + 1) w
def gK:List Nat->List (Nat×Nat)
 | []=>[]
 | c :: w=>(w.length,c) :: gK w
theorem xg:∀ (w:List Nat) (j:Nat),kf j w=(dD j w).map prD
 | [],_=>rfl
 | c :: w,j=>by
  change _ :: kf (j + 1) w=_ :: (dD (j + 1) w).map prD
  rw [xg w];rfl
theorem zt:∀ (w:List Nat) (j:Nat),(dD j w).length=w.length
 | [],_=>rfl
 | c :: w,j=>by change (dD (j + 1) w).length + 1=w.length + 1;rw [zt w]
theorem u6:∀ (w:List Nat) (j c:Nat),dD j (w++[c])=dD j w++[(j + w.length,c)]
 | [],j,c=>rfl
 | d :: w,j,c=>by
  change (j,d) :: dD (j + 1) (w++[c])=(j,d) :: (dD (j + 1) w++[(j + (w.length + 1),c)])
  rw [u6 w,show j + 1 + w.length=j + (w.length + 1) by omega]
theorem rB:∀ V:List Nat,(dD 0 V.reverse).reverse=gK V
 | []=>rfl
 | c :: V=>by
  rw [List.reverse_cons,u6,List.reverse_append,rB V,List.length_reverse,Nat.zero_add]
  rfl
theorem xW (y:Str):∀ (w:List Nat) (j:Nat),((dD j w).map fun p=>stQ p.2 p.1 y).flatten=gD y j w
 | [],_=>rfl
 | c :: w,j=>by
  change stQ c j y++((dD (j + 1) w).map fun p=>stQ p.2 p.1 y).flatten=stQ c j y++gD y (j + 1) w
  rw [xW y w]
theorem vT (y:Str):∀ w:List Nat,((gK w).map fun p=>stQ p.2 p.1 y).flatten=gF y w
 | []=>rfl
 | c :: w=>by
  change stQ c w.length y++((gK w).map fun p=>stQ p.2 p.1 y).flatten=stQ c w.length y++gF y w
  rw [vT y w]
theorem CV (r:Str×Str) (b:Bool) (hl:r.2.length<=16):iV [aP r,.bl b]=.own (dlD (gQ r.2.cps.toList r.1 b)):=by
 have hn:r.2.cps.toList.length=r.2.length:=Array.length_toList
 have hq:mB (.str r.2)=some (.own ((dD 0 r.2.cps.toList).map prD)):=by
  rw [IJ (by change r.2.length<=_;unfold sizeLine;omega),xg]
 have i2:gIx (aP r) (.int 2)=some (.val (.str r.2)):=rfl
 have hnl:=zt r.2.cps.toList 0
 unfold iV v8 gQ
 cases b with
 | false=>
  obtain ⟨x4,x5,e⟩:=rq r (.sh (.bl false)) (.sh (.lst ((dD 0 r.2.cps.toList).map prD))) (dD 0 r.2.cps.toList) [] .no .no (by rw [hnl,hn];change 0 + _<=_;omega)
  rw [List.nil_append,xW] at e
  unfold bWd at e
  apply cG
  apply aB
  ·exact fX (hW (aL (aq rfl) aH rfl rfl i2) rfl hq)
  apply aI
  apply aB
  ·exact bD (bx (aq rfl) rfl) (cy rfl cC)
  apply aI
  apply aB
  ·exact fX (dh aE rfl (Nat.le_of_ble_eq_true rfl))
  apply aI
  apply aB
  ·exact fP (gh (aq rfl) rfl rfl) e
  apply aI
  exact jP (iR rfl) rfl
 | true=>
  have hr:((dD 0 r.2.cps.toList).map prD).reverse=(gK r.2.cps.toList.reverse).map prD:=by
   rw [<-List.map_reverse]
   have:=rB r.2.cps.toList.reverse
   rw [List.reverse_reverse] at this
   rw [this]
  have hrl:(gK r.2.cps.toList.reverse).length=r.2.length:=by
   have:=rB r.2.cps.toList.reverse
   rw [List.reverse_reverse] at this
   rw [<-this,List.length_reverse,hnl,hn]
  obtain ⟨x4,x5,e⟩:=rq r (.sh (.bl true)) (.sh (.lst ((gK r.2.cps.toList.reverse).map prD))) (gK r.2.cps.toList.reverse) [] .no .no (by rw [hrl];change 0 + _<=_;omega)
  rw [List.nil_append,vT] at e
  unfold bWd at e
  have srev:(fIf (aw (ae 1)) (fS 2) aN) [.sh (aP r),.sh (.bl true),.ow ((dD 0 r.2.cps.toList).map prD),.no,.no,.no]=.ok .nx [.sh (aP r),.sh (.bl true),.ow ((gK r.2.cps.toList.reverse).map prD),.no,.no,.no]:=by
   rw [<-hr]
   exact bD (bx (aq rfl) rfl) (dQ rfl (tW rfl))
  apply cG
  apply aB
  ·exact fX (hW (aL (aq rfl) aH rfl rfl i2) rfl hq)
  apply aI
  apply aB
  ·exact srev
  apply aI
  apply aB
  ·exact fX (dh aE rfl (Nat.le_of_ble_eq_true rfl))
  apply aI
  apply aB
  ·exact fP (gh (aq rfl) rfl rfl) e
  apply aI
  exact jP (iR rfl) rfl
end Lw
namespace Lw
open PySem L2 DL
def eI:Bool->List (Str×Str)->List Dd
 | _,[]=>[]
 | b,r :: rs=>ez r.2.cps.toList r.1 b++eI (!b) rs
theorem xv (y:Str):∀ (w:List Nat) (j:Nat),(gD y j w).length<=3 * w.length
 | [],_=>Nat.le_refl _
 | c :: w,j=>by
  change (stQ c j y++gD y (j + 1) w).length<=_
  rw [List.length_append,List.length_cons]
  have:=qT c j y
  have:=xv y w (j + 1)
  omega
theorem zA (y:Str):∀ w:List Nat,(gF y w).length<=3 * w.length
 | []=>Nat.le_refl _
 | c :: w=>by
  change (stQ c w.length y++gF y w).length<=_
  rw [List.length_append,List.length_cons]
  have:=qT c w.length y
  have:=zA y w
  omega
theorem EL (fq:Nat×Nat->List Dd) (ps:List (Nat×Nat)):((ps.reverse.map fq).flatten).length=((ps.map fq).flatten).length:=by
 rw [List.length_flatten,List.length_flatten,List.map_reverse,List.map_reverse,List.sum_reverse]
theorem vd:∀ ps:List (Nat×Nat),(∀ p∈ps,p.1 < 16/\p.2 < 16)->((ps.map dY).flatten).length + ((ps.map eM).flatten).length<=8 * ps.length
 | [],_=>Nat.le_refl _
 | p :: ps,h=>by
  have ih:=vd ps fun c hc=>h c (List.mem_cons_of_mem _ hc)
  obtain ⟨h1,h2⟩:=h p List.mem_cons_self
  rw [List.map_cons,List.map_cons,List.flatten_cons,List.flatten_cons,List.length_append,List.length_append,List.length_cons]
  have:(dY p).length + (eM p).length<=8:=by
   have a1:=nP p h1 h2
   have a2:=rZ p h1 h2
   unfold dY eM at *
   by_cases q:p.1 < p.2
   ·rw [if_neg (show ¬ p.1 > p.2 by omega)] at *
    change _ + 0<=8
    omega
   ·rw [if_neg q] at *
    change 0 + _<=8
    omega
  omega
theorem yN {x:Str} (hl:x.length<=16) (ht:(x.cps.toList.map tkn).sum<=16):(placeQ x.cps.toList).length<=128:=by
 have hn:x.cps.toList.length=x.length:=Array.length_toList
 have hw:=rE hl ht
 have hwl:=qJ x.cps.toList 0 0
 have h1:=vd (cB x.cps.toList 0 0) hw
 unfold placeQ
 rw [List.length_append,EL]
 omega
theorem zr (w:List Nat) (y:Str) (b:Bool):(gQ w y b).length<=3 * w.length:=by
 unfold gQ
 split
 ·have:=zA y w.reverse
  rwa [List.length_reverse] at this
 ·exact xv y w 0
theorem tX {x:Str} (y:Str) (b:Bool) (hl:x.length<=16) (ht:(x.cps.toList.map tkn).sum<=16):(ez x.cps.toList y b).length<=208:=by
 have hn:x.cps.toList.length=x.length:=Array.length_toList
 have h1:=pU x.cps.toList 0
 have h2:=yN hl ht
 have h3:=zr x.cps.toList y b
 unfold ez
 rw [List.length_append,List.length_append]
 omega
theorem Df (many:Int) (y:Str) (n:Nat) (hn:n<=100):cv (bo 0) (.ret true) (br (af (fC (.str "tuck")) (af (fC (.str "f")) (af (ae 0) (af (ah (ae 1) (fC (.int 2)) gIx) ai))))) (bN 0 n) [.no,.sh (bL many y)] []=some (dlD (dB y n)):=by
 have i2:gIx (bL many y) (.int 2)=some (.val (.str y)):=rfl
 rw [comp_map (g:=fun d=>.tup [.str "tuck",.str "f",d,.str y]) _ .no (by rw [jD];unfold sizeLine;omega) ?_]
 ·unfold bN dlD dB
  rw [List.map_map,List.map_map]
  congr 1
  apply List.map_congr_left
  intro k _
  change D.tup [.str "tuck",.str "f",.int (0 + (k:Int)),.str y]=D.tup [.str "tuck",.str "f",.int (k:Int),.str y]
  rw [Int.zero_add]
 ·intro d _
  have e:=cW (av (aH (d:=.str "tuck")) (av (aH (d:=.str "f")) (av (aq (i:=0) (δ:=[.sh d,.sh (bL many y)]) rfl) (av (aL (aq (i:=1) rfl) aH rfl rfl i2) aE)))) rfl (Nat.le_of_ble_eq_true rfl)
  unfold fN DM.bd
  rw [e]
  rfl
def n8:DM Fl:=(ak (cq 2 (aF 1 (af (ah (ae 4) (fC (.int 2)) gIx) ai) iQ))
  (ak (cq 2 (aF 1 (af (ah (ae 4) (fC (.int 2)) gIx) ai) i7))
  (ak (cq 2 (aF 2 (af (ae 4) (af (ae 3) ai)) iV))
  (aG 3 (gf (ae 3))))))
theorem FY (p0 p1:Sl) (r:Str×Str) (b:Bool) (acc:List Dd) (hc:∀ c∈r.2.cps.toList,c∈codes) (hl:r.2.length<=16) (ht:(r.2.cps.toList.map tkn).sum<=16) (ha:acc.length<=20000) :
  n8 [p0,p1,.ow (dlD acc),.sh (.bl b),.sh (aP r)]=.ok .nx [p0,p1,.ow (dlD (acc++ez r.2.cps.toList r.1 b)),.sh (.bl (!b)),.sh (aP r)]:=by
 have hn:r.2.cps.toList.length=r.2.length:=Array.length_toList
 have i2:gIx (aP r) (.int 2)=some (.val (.str r.2)):=rfl
 have g1:=Cy hc hl
 have g2:=Ih hc hl ht
 have g3:=CV r b hl
 have l1:=pU r.2.cps.toList 0
 have l2:=yN hl ht
 have l3:=zr r.2.cps.toList r.1 b
 unfold ez
 rw [<-List.append_assoc,<-List.append_assoc]
 generalize fE r.2.cps.toList 0=q1 at *
 generalize placeQ r.2.cps.toList=q2 at *
 generalize gQ r.2.cps.toList r.1 b=q3 at *
 have z1:(dlD acc).length + (dlD q1).length<=sizeLine:=by rw [dM,dM];unfold sizeLine;omega
 have z2:(dlD (acc++q1)).length + (dlD q2).length<=sizeLine:=by rw [dM,dM,List.length_append];unfold sizeLine;omega
 have z3:(dlD (acc++q1++q2)).length + (dlD q3).length<=sizeLine:=by rw [dM,dM,List.length_append,List.length_append];unfold sizeLine;omega
 have s1:(cq 2 (aF 1 (af (ah (ae 4) (fC (.int 2)) gIx) ai) iQ)) [p0,p1,.ow (dlD acc),.sh (.bl b),.sh (aP r)]=.ok .nx [p0,p1,.ow (dlD (acc++q1)),.sh (.bl b),.sh (aP r)]:=by
  rw [iO]
  exact gx (i:=2) (ds0:=dlD acc) (ds:=dlD acc) rfl (eJ (av (aL (aq rfl) aH rfl rfl i2) aE) rfl rfl g1) rfl rfl z1
 have s2:(cq 2 (aF 1 (af (ah (ae 4) (fC (.int 2)) gIx) ai) i7)) [p0,p1,.ow (dlD (acc++q1)),.sh (.bl b),.sh (aP r)]=.ok .nx [p0,p1,.ow (dlD (acc++q1++q2)),.sh (.bl b),.sh (aP r)]:=by
  rw [iO (acc++q1) q2]
  exact gx (i:=2) (ds0:=dlD (acc++q1)) (ds:=dlD (acc++q1)) rfl (eJ (av (aL (aq rfl) aH rfl rfl i2) aE) rfl rfl g2) rfl rfl z2
 have s3:(cq 2 (aF 2 (af (ae 4) (af (ae 3) ai)) iV)) [p0,p1,.ow (dlD (acc++q1++q2)),.sh (.bl b),.sh (aP r)]=.ok .nx [p0,p1,.ow (dlD (acc++q1++q2++q3)),.sh (.bl b),.sh (aP r)]:=by
  rw [iO (acc++q1++q2) q3]
  exact gx (i:=2) (ds0:=dlD (acc++q1++q2)) (ds:=dlD (acc++q1++q2)) rfl (eJ (av (aq rfl) (av (aq rfl) aE)) rfl rfl g3) rfl rfl z3
 have s4:(aG 3 (gf (ae 3))) [p0,p1,.ow (dlD (acc++q1++q2++q3)),.sh (.bl b),.sh (aP r)]=.ok .nx [p0,p1,.ow (dlD (acc++q1++q2++q3)),.sh (.bl (!b)),.sh (aP r)]:=cf (xc (aq rfl) rfl) rfl
 unfold n8
 exact aB s1 (aI (aB s2 (aI (aB s3 (aI s4)))))
theorem wX (p0 p1:Sl):∀ (rs:List (Str×Str)) (b:Bool) (cs:List Int) (acc:List Dd) (b4:Sl),dI cs rs->cs.length<=16->acc.length + 208 * rs.length<=20000->
  ∃ x3 x4,bP (bo 4) n8 (rs.map aP) [p0,p1,.ow (dlD acc),.sh (.bl b),b4]=.ok .nx [p0,p1,.ow (dlD (acc++eI b rs)),x3,x4]
 | [],b,cs,acc,b4,_,_,_=>⟨_,b4,by change _=Rs.ok Fl.nx [p0,p1,.ow (dlD (acc++[])),_,b4];rw [List.append_nil];rfl⟩
 | r :: rs,b,cs,acc,b4,h,hk,hl=>by
  obtain ⟨h1,h2,h3,h4⟩:=h
  rw [List.length_cons] at hl
  have hn:r.2.cps.toList.length=r.2.length:=Array.length_toList
  have hc:=kO h3
  have ht:(r.2.cps.toList.map tkn).sum<=16:=by have:=lX h3;rw [List.length_nil] at this;omega
  have hq:=tX r.1 b h1 ht
  obtain ⟨x3,x4,e⟩:=wX p0 p1 rs (!b) (outs r.2.cps.toList cs) (acc++ez r.2.cps.toList r.1 b) (.sh (aP r)) h4 (by rw [gX,hn];exact h1) (by rw [List.length_append];omega)
  refine ⟨x3,x4,?_⟩
  change _=Rs.ok Fl.nx [p0,p1,.ow (dlD (acc++(ez r.2.cps.toList r.1 b++eI (!b) rs))),x3,x4]
  rw [<-List.append_assoc,List.map_cons]
  exact dj rfl (FY p0 p1 r b acc hc h1 ht (by omega)) e
theorem Eg (c:D) (q:List D):gI (.lst (c :: q)) (some 1) none=some (.own q):=by
 rw [lh]
 unfold cutD
 have a1:HT.sIx (c :: q).length 0 (some 1)=1:=by
  have:=HT.jw (c :: q).length 0 1
  rw [List.length_cons] at this ⊢
  exact this.trans (by omega)
 rw [a1,HT.sj]
 change some (DV.own (List.take _ q))=_
 rw [List.take_of_length_le (by rw [List.length_cons];omega)]
theorem AH {many:Int} {y:Str} {rs:List (Str×Str)} (h1:1<=many) (h2:many<=16) (hr:dI (List.replicate many.toNat 1) rs) (hn:rs.length<=20) :
  jK [.lst (bL many y :: rs.map aP)]=.own (dlD (dB y many.toNat++eI true rs)):=by
 have g0:gIx (.lst (bL many y :: rs.map aP)) (.int 0)=some (.val (bL many y)):=nC
 have gN:=yi (y:=y) h1 h2 hr hn
 have g3:=Eg (bL many y) (rs.map aP)
 have g4:=Df many y many.toNat (by omega)
 have g6:fI many=true:=iM (by omega) (by omega)
 have g8:gIx (bL many y) (.int 1)=some (.val (.int many)):=rfl
 have hcl:(dB y many.toNat).length=many.toNat:=by unfold dB;rw [List.length_map,List.length_range]
 obtain ⟨x3,x4,e⟩:=wX (.sh (.lst (bL many y :: rs.map aP))) (.sh (bL many y)) rs true (List.replicate many.toNat 1) (dB y many.toNat) .no hr (by rw [List.length_replicate];omega) (by rw [hcl];omega)
 unfold n8 at e
 unfold jK yW
 apply cG
 apply aB
 ·exact vM (iT (av (aq rfl) aE) rfl rfl gN)
 apply aI
 apply aB
 ·exact cf (aL (aq rfl) aH rfl rfl g0) rfl
 apply aI
 apply aB
 ·exact fX (jq (kT (av (aL (aq rfl) aH rfl rfl g8) aE) rfl g6) g4)
 apply aI
 apply aB
 ·exact cf aH rfl
 apply aI
 apply aB
 ·exact fP (gh (v9 (aq rfl) (sV aH rfl) sO rfl g3) rfl rfl) e
 apply aI
 exact jP (iR rfl) rfl
end Lw
namespace Lw
open PySem L2 DL
theorem zl:∀ (rs:List (Str×Str)) (b:Bool) (lv:List (List Int)) (cl:List Lp),dI (aS lv) rs->okC (aS lv)->lv.length<=16->aO (hl (lst lv) nil) cl (eI b rs)=some (hl (lst (d7 b lv cl rs).2) nil,(d7 b lv cl rs).1)
 | [],b,lv,cl,_,_,_=>rfl
 | r :: rs,b,lv,cl,h,hk,hl'=>by
  obtain ⟨h1,h2,h3,h4⟩:=h
  have hn:r.2.cps.toList.length=r.2.length:=Array.length_toList
  change aO _ _ (ez r.2.cps.toList r.1 b++eI (!b) rs)=_
  rw [AI r.2.cps.toList r.1 b lv h3 hk hl' (by omega)]
  have ho:=ou r.1 b r.2.cps.toList lv cl
  refine zl rs (!b) _ _ (by rw [ho];exact h4) (by rw [ho];exact mS h3 hk) ?_
  have:=congrArg List.length ho
  rw [nD,gX] at this
  omega
theorem Jm {many:Int} {y:Str} {rs:List (Str×Str)} (h1:1<=many) (h2:many<=16) (hr:dI (List.replicate many.toNat 1) rs) :
  aO (hl nil nil) [] (dB y many.toNat++eI true rs)=some (hl (lst (d7 true (d5 many) (eY many y) rs).2) nil,(d7 true (d5 many) (eY many y) rs).1):=by
 have hone:okC (List.replicate many.toNat 1):=fun x hx=>by rw [List.eq_of_mem_replicate hx];omega
 rw [tO many.toNat _ (by omega)]
 refine zl rs true (d5 many) (eY many y) (by rw [j2];exact hr) (by rw [j2];exact hone) ?_
 unfold d5
 rw [List.length_map,List.length_range]
 omega
end Lw
namespace Lw
open PySem L2 DL
theorem nh:ej (Str.ofString "f"):=.inl rfl
theorem wG:ej (Str.ofString "b"):=.inr rfl
theorem sJ {s o:Nat} (h1:s < 16) (h2:o < 16):(mvF s o).ok:=⟨nh,by omega,by omega,by omega,by omega⟩
theorem uD {s o:Nat} (h1:s < 16) (h2:o < 16):(mvB s o).ok:=⟨wG,by omega,by omega,by omega,by omega⟩
theorem kB {a g:Nat} (h1:a < 16) (h2:g < 16):near a g < 16:=by unfold near;omega
theorem lJ:∀ (n s g:Nat),s < 16->g < 16->∀ d∈along n s g,d.ok
 | 0,_,_,_,_,d,h=>by cases h
 | n + 1,s,g,h1,h2,d,h=>by
  unfold along at h
  split at h
  ·cases h
  ·rcases List.mem_cons.mp h with z | h
   ·rw [z];exact sJ h1 (kB h1 h2)
   ·rcases List.mem_cons.mp h with z | h
    ·rw [z];exact uD (kB h1 h2) (kB (kB h1 h2) h2)
    ·exact lJ n _ g (kB (kB h1 h2) h2) h2 d h
theorem wQ:∀ (w:List Nat) (a:Nat),a + (w.map tkn).sum<=16->∀ d∈fE w a,d.ok
 | [],_,_,d,h=>by cases h
 | c :: w,a,hs,d,h=>by
  rw [List.map_cons,List.sum_cons] at hs
  rcases List.mem_append.mp (show d∈jm1 c a++fE w (a + tkn c) from h) with z | z
  ·unfold jm1 at z
   split at z
   ·rename_i hc
    have:tkn c=2:=by rw [hc];rfl
    exact lJ _ _ _ (by omega) (by omega) d z
   ·split at z
    ·rename_i hc
     have:tkn c=2:=by rw [hc];rfl
     exact lJ _ _ _ (by omega) (by omega) d z
    ·cases z
  ·exact wQ w (a + tkn c) (by omega) d z
theorem vi (fq:Nat×Nat->List Dd) (hq:∀ p:Nat×Nat,p.1 < 16->p.2 < 16->∀ d∈fq p,d.ok) (ps:List (Nat×Nat)) (hp:∀ p∈ps,p.1 < 16/\p.2 < 16):∀ d∈(ps.map fq).flatten,d.ok:=fun d h=>by
 obtain ⟨l,hl,hd⟩:=List.mem_flatten.mp h
 obtain ⟨p,hm,rfl⟩:=List.mem_map.mp hl
 exact hq p (hp p hm).1 (hp p hm).2 d hd
theorem B9 (p:Nat×Nat) (h1:p.1 < 16) (h2:p.2 < 16):∀ d∈dY p,d.ok:=fun d h=>by
 unfold dY at h
 split at h
 ·exact lJ _ _ _ h1 h2 d h
 ·cases h
theorem AX (p:Nat×Nat) (h1:p.1 < 16) (h2:p.2 < 16):∀ d∈eM p,d.ok:=fun d h=>by
 unfold eM at h
 split at h
 ·exact lJ _ _ _ h1 h2 d h
 ·cases h
theorem wZ {c j:Nat} {y:Str} (hj:j < 16) (hy:y∈fj):∀ d∈stQ c j y,d.ok:=fun d h=>by
 unfold stQ at h
 split at h
 ·cases h
 ·split at h
  ·rw [List.mem_singleton.mp h];exact ⟨.inr rfl,nh,by omega,by omega,hy⟩
  ·split at h
   ·rcases List.mem_cons.mp h with z | h
    ·rw [z];exact sJ hj hj
    ·rcases List.mem_cons.mp h with z | h
     ·rw [z];exact ⟨.inl rfl,wG,by omega,by omega,hy⟩
     ·rw [List.mem_singleton.mp h];exact uD hj hj
   ·rw [List.mem_singleton.mp h];exact ⟨.inl rfl,nh,by omega,by omega,hy⟩
theorem tF {y:Str} (hy:y∈fj):∀ (w:List Nat) (j:Nat),j + w.length<=16->∀ d∈gD y j w,d.ok
 | [],_,_,d,h=>by cases h
 | c :: w,j,hl,d,h=>by
  rw [List.length_cons] at hl
  rcases List.mem_append.mp (show d∈stQ c j y++gD y (j + 1) w from h) with z | z
  ·exact wZ (by omega) hy d z
  ·exact tF hy w (j + 1) (by omega) d z
theorem w9 {y:Str} (hy:y∈fj):∀ (w:List Nat),w.length<=16->∀ d∈gF y w,d.ok
 | [],_,d,h=>by cases h
 | c :: w,hl,d,h=>by
  rw [List.length_cons] at hl
  rcases List.mem_append.mp (show d∈stQ c w.length y++gF y w from h) with z | z
  ·exact wZ (by omega) hy d z
  ·exact w9 hy w (by omega) d z
theorem Jg {x y:Str} (b:Bool) (hy:y∈fj) (hl:x.length<=16) (ht:(x.cps.toList.map tkn).sum<=16):∀ d∈ez x.cps.toList y b,d.ok:=fun d h=>by
 have hn:x.cps.toList.length=x.length:=Array.length_toList
 have hw:=rE hl ht
 unfold ez at h
 rcases List.mem_append.mp h with z | h
 ·exact wQ _ 0 (by omega) d z
 ·rcases List.mem_append.mp h with z | h
  ·unfold placeQ at z
   rcases List.mem_append.mp z with z | z
   ·exact vi dY B9 _ (fun p hp=>hw p (List.mem_reverse.mp hp)) d z
   ·exact vi eM AX _ hw d z
  ·unfold gQ at h
   split at h
   ·exact w9 hy _ (by rw [List.length_reverse];omega) d h
   ·exact tF hy _ 0 (by omega) d h
theorem yT:∀ (rs:List (Str×Str)) (b:Bool) (cs:List Int),dI cs rs->cs.length<=16->(∀ r∈rs,r.1∈fj)->∀ d∈eI b rs,d.ok
 | [],_,_,_,_,_,d,h=>by cases h
 | r :: rs,b,cs,h,hk,hy,d,hd=>by
  obtain ⟨h1,h2,h3,h4⟩:=h
  have hn:r.2.cps.toList.length=r.2.length:=Array.length_toList
  have ht:(r.2.cps.toList.map tkn).sum<=16:=by have:=lX h3;rw [List.length_nil] at this;omega
  rcases List.mem_append.mp (show d∈ez r.2.cps.toList r.1 b++eI (!b) rs from hd) with z | z
  ·exact Jg b (hy r List.mem_cons_self) h1 ht d z
  ·exact yT rs (!b) _ h4 (by rw [gX,hn];exact h1) (fun q hq=>hy q (List.mem_cons_of_mem _ hq)) d z
theorem Cc {y:Str} (hy:y∈fj) (n:Nat) (hn:n<=16):∀ d∈dB y n,d.ok:=fun d h=>by
 unfold dB at h
 obtain ⟨k,hk,rfl⟩:=List.mem_map.mp h
 have:=List.mem_range.mp hk
 exact ⟨.inr rfl,nh,by omega,by omega,hy⟩
def nO (many:Int) (y:Str) (rs:List (Str×Str)):List Dd:=dB y many.toNat++eI true rs
theorem Ae {many:Int} {y:Str} {rs:List (Str×Str)} (h:mN many y rs):∀ d∈nO many y rs,d.ok:=fun d hd=>by
 have h1:=h.m1
 have h2:=h.m2
 rcases List.mem_append.mp hd with z | z
 ·exact Cc h.y _ (by omega) d z
 ·exact yT rs true _ h.rows (by rw [List.length_replicate];omega) h.ry d z
theorem wc:∀ (rs:List (Str×Str)) (b:Bool) (cs:List Int),dI cs rs->cs.length<=16->(eI b rs).length<=208 * rs.length
 | [],_,_,_,_=>Nat.le_refl _
 | r :: rs,b,cs,h,hk=>by
  obtain ⟨h1,h2,h3,h4⟩:=h
  have hn:r.2.cps.toList.length=r.2.length:=Array.length_toList
  have ht:(r.2.cps.toList.map tkn).sum<=16:=by have:=lX h3;rw [List.length_nil] at this;omega
  have q1:=tX r.1 b h1 ht
  have q2:=wc rs (!b) _ h4 (by rw [gX,hn];exact h1)
  change (ez r.2.cps.toList r.1 b++eI (!b) rs).length<=_
  rw [List.length_append,List.length_cons]
  omega
theorem Gy {many:Int} {y:Str} {rs:List (Str×Str)} (h:mN many y rs):(nO many y rs).length<=16 + 208 * rs.length:=by
 have h1:=h.m1
 have h2:=h.m2
 have q:=wc rs true _ h.rows (by rw [List.length_replicate];omega)
 have hcl:(dB y many.toNat).length=many.toNat:=by unfold dB;rw [List.length_map,List.length_range]
 unfold nO
 rw [List.length_append,hcl]
 omega
end Lw
namespace Lw
open PySem L2 DL
theorem uy (i:Int):fK [.int i]=.ok (.bl true):=by
 unfold fK vk
 walk_at "ev"
theorem zb:∀ (ds:List D),fL (ds.map fun _=>D.bl true)=some (ds.map fun _=>true)
 | []=>rfl
 | d :: ds=>by
  show (fL (ds.map fun _=>D.bl true)).map _=_
  rw [zb ds];rfl
theorem all_true (ds:List D):nq [.lst (ds.map fun _=>D.bl true)]=some (.val (.bl true)):=by
 show (fL _).map _=_
 rw [zb]
 show some (DV.val (.bl (List.all _ id)))=_
 rw [List.all_map,(List.all_eq_true.mpr fun _ _=>rfl:List.all ds (id ∘ fun _=>true)=true)]
theorem B8 (us:List Int) (hl:us.length<=1000):cv (bo 0) (.ret true) (aF 1 (af (ae 0) ai) fK) (iD us) [.no] []=some ((iD us).map fun _=>D.bl true):=by
 rw [comp_map (g:=fun _=>.bl true) _ .no (by rw [d8];unfold sizeLine;omega) ?_]
 intro d hd
 obtain ⟨c,hc',rfl⟩:=List.mem_map.mp hd
 have h1:=uy c
 have h3:(aF 1 (af (ae 0) ai) fK) [.sh (.int c)]=.ok (.val (.bl true)) [.sh (.int c)]:=by walk_at "ev"
 unfold fN DM.bd
 rw [h3]
 rfl
theorem BH (n:Nat) (us:List Int):(iD us).all (okD (n + 1))=true:=by
 unfold iD
 rw [List.all_map]
 exact List.all_eq_true.mpr fun _ _=>rfl
theorem E1 (l:Lp):dv 8 (lpD l) (lpD l)=some true:=by
 refine fJ 8 _ ?_
 show (okD 7 (.str l.1)&&(okD 7 (.str l.2.1)&&((iD l.2.2).all (okD 6)&&true)))=true
 rw [BH];rfl
theorem ET (l:Lp) (hl:l.2.2.length<=1000):jo [lpD l]=.ok (.bl true):=by
 have g1:bq [lpD l]=some (.val (.int 3)):=rfl
 have g2:gNe (.int 3) (.int 3)=some (.val (.bl false)):=eN (fJ 8 _ rfl)
 have g3:gIx (lpD l) (.int 0)=some (.val (.str l.1)):=rfl
 have g4:gIx (lpD l) (.int 1)=some (.val (.str l.2.1)):=rfl
 have g5:gIx (lpD l) (.int 2)=some (.val (.tup (iD l.2.2))):=rfl
 have g6:oM (.tup (iD l.2.2))=some (iD l.2.2):=rfl
 have g7:=B8 l.2.2 hl
 have g8:=all_true (iD l.2.2)
 have g9:gIs "tuple" (lpD l)=some (.val (.bl true)):=yc
 unfold jo vW
 walk_at "ev"
def bAC:DM Fl:=(fIf (bM (b9 (aw (aF 1 (af (ah (ae 0) (ae 2) gIx) ai) jo))) (aw (ah (ah (ae 0) (ae 2) gIx) (ah (ae 1) (ae 2) gIx) gNe))) (aD (fC (.bl false))) aN)
theorem xp (cl:List Lp) (hl:∀ l∈cl,l.2.2.length<=1000):∀ (ks:List D) (b2:Sl),(∀ d∈ks,∃ k:Nat,k < cl.length/\d=.int (k:Int))->∃ x2,
  bP (bo 2) bAC ks [.sh (.lst (clD cl)),.sh (.lst (clD cl)),b2]=.ok .nx [.sh (.lst (clD cl)),.sh (.lst (clD cl)),x2]
 | [],b2,_=>⟨b2,rfl⟩
 | d :: ks,b2,h=>by
  obtain ⟨k,hk,rfl⟩:=h d List.mem_cons_self
  obtain ⟨x2,e⟩:=xp cl hl ks (.sh (.int (k:Int))) fun d hd=>h d (List.mem_cons_of_mem _ hd)
  refine ⟨x2,dj rfl ?_ e⟩
  have g1:gIx (.lst (clD cl)) (.int (k:Int))=some (.val (lpD cl[k])):=og (sG (by omega) (by
   unfold clD
   rw [List.getElem?_map,show (k:Int).toNat=k by omega,List.getElem?_eq_getElem hk];rfl))
  have g2:=ET cl[k] (hl _ (List.getElem_mem hk))
  have g3:gNe (lpD cl[k]) (lpD cl[k])=some (.val (.bl false)):=eN (E1 _)
  unfold bAC
  walk_at "ev"
theorem zX (cl:List Lp) (hc:cl.length<=1000) (hl:∀ l∈cl,l.2.2.length<=1000):kF [.lst (clD cl),.lst (clD cl)]=.ok (.bl true):=by
 have g1:bq [.lst (clD cl)]=some (.val (.int (cl.length:Int))):=by
  show some (DV.val (.int _))=_
  rw [nM]
 have g2:gNe (.int (cl.length:Int)) (.int (cl.length:Int))=some (.val (.bl false)):=eN (fJ 8 _ rfl)
 have g3:fI (cl.length:Int)=true:=iM (by omega) (by omega)
 obtain ⟨x2,e⟩:=xp cl hl (bN 0 (cl.length:Int).toNat) .no fun d hd=>by
  obtain ⟨k,hk,q⟩:=lx hd
  exact ⟨k,by omega,q⟩
 unfold bAC at e
 unfold kF vO
 walk_at "ev"
end Lw
namespace Lw
open PySem L2 DL
def bAH:DM Fl:=(fIf (bM (b9 (aw (aF 1 (af (ah (ae 0) (ae 2) gIx) ai) fK))) (aw (ah (ah (ae 0) (ae 2) gIx) (ah (ae 1) (ae 2) gIx) gNe))) (aD (fC (.bl false))) aN)
theorem vH (us:List Int):∀ (ks:List D) (b2:Sl),(∀ d∈ks,∃ k:Nat,k < us.length/\d=.int (k:Int))->∃ x2,
  bP (bo 2) bAH ks [.sh (.lst (iD us)),.sh (.lst (iD us)),b2]=.ok .nx [.sh (.lst (iD us)),.sh (.lst (iD us)),x2]
 | [],b2,_=>⟨b2,rfl⟩
 | d :: ks,b2,h=>by
  obtain ⟨k,hk,rfl⟩:=h d List.mem_cons_self
  obtain ⟨x2,e⟩:=vH us ks (.sh (.int (k:Int))) fun d hd=>h d (List.mem_cons_of_mem _ hd)
  refine ⟨x2,dj rfl ?_ e⟩
  have g1:gIx (.lst (iD us)) (.int (k:Int))=some (.val (.int us[k])):=iE (by omega) (by rw [show (k:Int).toNat=k by omega,List.getElem?_eq_getElem hk])
  have g2:=uy us[k]
  have g3:gNe (.int us[k]) (.int us[k])=some (.val (.bl false)):=eN (fJ 8 _ rfl)
  unfold bAH
  walk_at "ev"
theorem ub (us:List Int) (hc:us.length<=1000):gk [.lst (iD us),.lst (iD us)]=.ok (.bl true):=by
 have g1:=eL us
 have g2:gNe (.int (us.length:Int)) (.int (us.length:Int))=some (.val (.bl false)):=eN (fJ 8 _ rfl)
 have g3:fI (us.length:Int)=true:=iM (by omega) (by omega)
 obtain ⟨x2,e⟩:=vH us (bN 0 (us.length:Int).toNat) .no fun d hd=>by
  obtain ⟨k,hk,q⟩:=lx hd
  exact ⟨k,by omega,q⟩
 unfold bAH at e
 unfold gk zx
 walk_at "ev"
end Lw
namespace DL
open PySem L2
section
variable {δ δ1 δ2:DSt} {i n:Nat} {f f1 f2:DM DV} {fa:DM (List DV)} {a a1 a2:DV} {as:List DV} {ds:List D} {b:Bd} {own:Bool} {d:D} {r:Str} {k:Int} {ks:List (Str×Int)} {vs ls bs:List D}
theorem hZ {M:List D->Ro} {Z:Rs DV} (h:fa δ=.ok as δ) (e:cL as=some ds) (hb:eG δ i=some (b,own)) (hn:ds.length + 1=n) (hr:roR own (M (b.d :: ds)) δ=Z):bI i n fa M δ=Z:=by
 unfold bI DM.bd
 simp only [hb,Option.isSome_some,if_true,h,e,hn]
 exact hr
theorem gp {M:Bd->List D->Rw} {Z:Rs DV} (h:fa δ=.ok as δ) (e:cL as=some ds) (hb:eG δ i=some (b,own)) (hn:ds.length + 1=n) (hr:rwW i own (M b ds) δ=Z):cn i n fa M δ=Z:=by
 unfold cn DM.bd
 simp only [hb,Option.isSome_some,if_true,h,e,hn]
 exact hr
theorem Ff (h:f δ=.ok a δ) (e:res δ (norm a)=some (.key r k)) (hb:eG δ i=some (b,own)):lQ i f δ=.ok (.val ((cD b.ks b.vs (r,k)).getD (.tup []))) δ:=by
 unfold lQ fN DM.bd DM.ret
 simp only [hb,Option.isSome_some,if_true,h,e]
theorem oP (h2:f2 δ=.ok a2 δ) (e2:norm a2=.val d) (hb:δ[i]?=some (.ob ks vs ls bs)) (h1:f1 δ=.ok a1 δ) (e1:res δ (norm a1)=some (.key r k)) (hz:ks.length < sizeLine):jJ i f2 f1 δ=.ok .nx (δ.set i (.ob (bT ks (r,k)) (cN ks vs (r,k) d) ls bs)):=by
 unfold jJ gO fN DM.bd DM.ret
 simp only [h2,e2,hb,if_true,h1,e1,hz]
theorem HF (hb:δ[i]?=some (.ob ks vs ls bs)) (h:f δ=.ok a δ) (e:norm a=.val d) (hz:ls.length < sizeLine):l0 i f δ=.ok .nx (δ.set i (.ob ks vs (ls++[d]) bs)):=by
 unfold l0 gO fN DM.bd DM.ret
 simp only [hb,if_true,h,e,hz]
theorem Ib (hb:δ[i]?=some (.ob ks vs ls bs)) (h:f δ=.ok a δ) (e:norm a=.val d) (hz:bs.length < sizeLine):mm i f δ=.ok .nx (δ.set i (.ob ks vs ls (bs++[d]))):=by
 unfold mm gO fN DM.bd DM.ret
 simp only [hb,if_true,h,e,hz]
theorem mq (h:fa δ=.ok as δ) (e:cL as=some [.str r,.int k]):ic fa δ=.ok (.val (.key r k)) δ:=by
 unfold ic DM.bd
 simp only [h,e]
theorem tm (h:f δ=.ok a δ) (e:res δ (norm a)=some (.tup ds)):mE f δ=.ok (!ds.isEmpty) δ:=by
 unfold mE fN DM.bd DM.ret
 simp only [h,e]
theorem FE (hb:δ[i]?=some (.ob ks vs ls bs)) (h:f (lL i ⟨ks,vs,ls,bs⟩ δ)=.ok (.own ds) δ1) (hf:dP ds=true):kb i f δ=.ok (.own ds) δ:=by
 unfold kb
 simp only [hb,h,hf,if_true]
theorem n9 {f:DM DV} (h:f δ=.ok a δ1):eR f δ=.ok .nx δ1:=by unfold eR DM.bd DM.ret;simp only [h]
variable {body:DM Fl} {b':Bd} {c:Str}
theorem iu (h:body (b.sl :: i6 n ds)=.ok (.rt d) δ1) (e:δ1[(0:Nat)]?=some b'.sl):dA body n b ds=.ok d b':=by
 unfold dA dE
 simp only [h,e]
theorem Dr (h:body (b.sl :: i6 n ds)=.ok .nx δ1) (e:δ1[(0:Nat)]?=some b'.sl):dA body n b ds=.ok .non b':=by
 unfold dA dE
 simp only [h,e]
end
end DL
namespace Lw
open PySem L2 DL
abbrev tI (l:List Int):D:=.tup (iD l)
abbrev kD (q:Str×Int):D:=.key q.1 q.2
def lk (b:Bd) (q:Str×Int):D:=(cD b.ks b.vs q).getD (.tup [])
theorem lp:∀ l:List Int,dP (iD l)=true
 | []=>rfl
 | _ :: l=>by change (true&&dP (iD l))=true;rw [lp l];rfl
theorem jM (l:List Int):flat (tI l)=true:=lp l
theorem uZ (b:Bd) (q:Str×Int):cR [b.d,kD q]=.ok (lk b q):=by
 unfold cR sZ lk
 exact fZ (dR (Ff (own:=false) (b:=b) (r:=q.1) (k:=q.2) (aq rfl) rfl rfl) fD)
theorem la {δ:DSt} {i j:Nat} {b:Bd} {own:Bool} {q:Str×Int} (hb:eG δ i=some (b,own)) (hj:δ[j]?=some (.sh (kD q))) (hf:flat (lk b q)=true):bI i 2 (af (ae j) ai) cR δ=.ok (.val (lk b q)) δ:=by
 refine hZ (av (aq hj) aE) rfl hb rfl ?_
 change roR own (cR [b.d,kD q]) δ=_
 rw [uZ]
 unfold roR
 simp only [hf,Bool.or_true,if_true]
def stp (b:Bd) (qs:List (Str×Int)):List D:=qs.map fun q=>.tup [kD q,lk b q]
theorem G5 (b:Bd) (qs:List (Str×Int)) (hq:qs.length<=2) (hf:∀ q∈qs,flat (lk b q)=true):cv (bo 0) (.ret true) (br (af (ae 0) (af (bI 1 2 (af (ae 0) ai) cR) ai))) (qs.map kD) [.no,.sh b.d] []=some (stp b qs):=by
 refine (comp_map (g:=fun d=>match d with | .key r k=>.tup [.key r k,lk b (r,k)] | d=>d) _ .no (by rw [List.length_map];unfold sizeLine;omega) fun d hd=>?_).trans (by unfold stp;rw [List.map_map];rfl)
 obtain ⟨q,hq',rfl⟩:=List.mem_map.mp hd
 have h:(br (af (ae 0) (af (bI 1 2 (af (ae 0) ai) cR) ai))) [.sh (kD q),.sh b.d]=.ok (.val (.tup [kD q,lk b q])) [.sh (kD q),.sh b.d]:=
  cW (av (aq rfl) (av (la (own:=false) (b:=b) rfl rfl (hf q hq')) aE)) rfl (by change 2<=sizeLine;unfold sizeLine;omega)
 unfold fN DM.bd
 rw [h]
 rfl
theorem xh (b:Bd):∀ (qs:List (Str×Int)),(∀ q∈qs,flat (lk b q)=true)->dP (stp b qs)=true
 | [],_=>rfl
 | q :: qs,h=>by
  change ((true&&(flat (lk b q)&&true))&&dP (stp b qs))=true
  rw [h q List.mem_cons_self,xh b qs fun x hx=>h x (List.mem_cons_of_mem _ hx)]
  rfl
theorem yR (b:Bd) (dd:D) (qs:List (Str×Int)) (hq:qs.length<=2) (hf:∀ q∈qs,flat (lk b q)=true) (hz:b.bs.length < sizeLine):dz b [dd,.lst (qs.map kD)]=.ok .non { b with bs:=b.bs++[.tup [dd,.lst (stp b qs)]] }:=by
 unfold dz wI
 refine Dr (δ1:=[.ob b.ks b.vs b.as (b.bs++[.tup [dd,.lst (stp b qs)]]),.sh dd,.sh (.lst (qs.map kD))]) ?_ rfl
 exact Ib (i:=0) rfl (cW (av (aq rfl) (av (FE (i:=0) rfl (jq (gh (aq rfl) rfl rfl) (G5 b qs hq hf)) (xh b qs hf)) aE)) rfl (by change 2<=sizeLine;unfold sizeLine;omega)) rfl hz
theorem tH (b:Bd) (y w h:D) (hz:b.as.length < sizeLine):fz b [y,w,h]=.ok (.int (b.as.length:Int)) { b with as:=b.as++[.tup [y,w,h]] }:=by
 unfold fz xo
 refine iu (δ1:=[.ob b.ks b.vs (b.as++[.tup [y,w,h]]) b.bs,.sh y,.sh w,.sh h]) ?_ rfl
 have e:((b.as++[D.tup [y,w,h]]).length:Int) - 1=(b.as.length:Int):=by rw [List.length_append];change ((b.as.length + 1:Nat):Int) - 1=_;omega
 refine aB (HF (i:=0) rfl (cW (av (aq rfl) (av (aq rfl) (av (aq rfl) aE))) rfl (by change 3<=sizeLine;unfold sizeLine;omega)) rfl hz) (aI (dR (aL (dX (av (rfl:gC 0 1 _=.ok (.fld 0 1) _) aE) rfl rfl) aH rfl rfl rfl) ?_))
 change Rs.ok (Fl.rt (.int (((b.as++[D.tup [y,w,h]]).length:Int) - 1))) _=_
 rw [e]
 rfl
end Lw
namespace Lw
open PySem L2 DL
theorem um (l:List Int):bq [tI l]=some (.val (.int (l.length:Int))):=by
 change some (DV.val (.int ((iD l).length:Int)))=_
 rw [d8]
abbrev dT (r:Str) (a:Int) (y:Str):Dd:=.ky (Str.ofString "tuck") r a y
abbrev dK (r:Str) (a:Int) (y:Str):Dd:=.ky (Str.ofString "knit") r a y
theorem wA (b:Bd) (dd:D) (r:Str) (a:Int) (l:List Int) (hl:lk b (r,a)=tI l) (hz:b.bs.length < sizeLine):dz b [dd,.lst [.key r a]]=.ok .non { b with bs:=b.bs++[.tup [dd,.lst [.tup [.key r a,tI l]]]] }:=by
 have h:=yR b dd [(r,a)] (by change 1<=2;omega) (fun q hq=>by rw [List.mem_singleton.mp hq,hl];exact jM l) hz
 unfold stp at h
 rw [List.map_cons,List.map_nil,List.map_cons,List.map_nil,hl] at h
 exact h
theorem BY (b:Bd) (dd:D) (r r':Str) (a a':Int) (l l':List Int) (hl:lk b (r,a)=tI l) (hl':lk b (r',a')=tI l') (hz:b.bs.length < sizeLine):dz b [dd,.lst [.key r a,.key r' a']]=.ok .non { b with bs:=b.bs++[.tup [dd,.lst [.tup [.key r a,tI l],.tup [.key r' a',tI l']]]] }:=by
 have h:=yR b dd [(r,a),(r',a')] (by change 2<=2;omega) (fun q hq=>by
  rcases List.mem_cons.mp hq with rfl | hq
  ·rw [hl];exact jM l
  ·rw [List.mem_singleton.mp hq,hl'];exact jM l') hz
 unfold stp at h
 rw [List.map_cons,List.map_cons,List.map_nil,List.map_cons,List.map_cons,List.map_nil,hl,hl'] at h
 exact h
section
variable {s:Sl} {b:Bd} {own:Bool} {r:Str} {a:Int} {y:Str} {l:List Int}
theorem mO (b:Bd):∀ rest,eG (b.sl :: rest) 0=some (b,true):=fun _=>rfl
theorem AJ (hl:lk b (r,a)=tI l) (h4:l.length < 4) (hk:b.ks.length < 10000) (ha:b.as.length < 10000) (hb:b.bs.length < 10000):jx b [(dT r a y).D] =
  .ok (.int (b.as.length:Int)) ⟨bT b.ks (r,a),cN b.ks b.vs (r,a) (tI (l++[(b.as.length:Int)])),b.as++[lpD (y,"t",[])],b.bs++[.tup [(dT r a y).D,.lst [.tup [.key r a,tI l]]]]⟩:=by
 have hf:flat (lk b (r,a))=true:=by rw [hl];exact jM l
 have hz:∀ {n:Nat},n < 10000->n < sizeLine:=fun h=>by unfold sizeLine;omega
 unfold jx xX
 refine iu (δ1:=[.ob (bT b.ks (r,a)) (cN b.ks b.vs (r,a) (tI (l++[(b.as.length:Int)]))) (b.as++[lpD (y,"t",[])]) (b.bs++[.tup [(dT r a y).D,.lst [.tup [.key r a,tI l]]]]),.sh (dT r a y).D,.sh (.key r a),.sh (tI l),.sh (.int (b.as.length:Int))]) ?_ rfl
 refine aB (R1:=.ok .nx [b.sl,.sh (dT r a y).D,.sh (.key r a),.no,.no]) (cf (mq (av (aL (aq rfl) aH rfl rfl rfl) (av (aL (aq rfl) aH rfl rfl rfl) aE)) rfl) rfl) (aI ?_)
 refine aB (R1:=.ok .nx [b.sl,.sh (dT r a y).D,.sh (.key r a),.sh (tI l),.no]) ((cf (la (q:=(r,a)) (mO b _) rfl hf) rfl).trans (by rw [hl];rfl)) (aI ?_)
 refine aB (bD (bx (aL (dX (av (aq rfl) aE) rfl (um l)) aH rfl rfl rfl) rfl) (cy (decide_eq_false (by omega)) cC)) (aI ?_)
 have k1:cn 0 3 (af (ae 1) (af (bB (af (ae 2) ai)) ai)) dz [b.sl,.sh (dT r a y).D,.sh (.key r a),.sh (tI l),.no]=.ok (.val .non) [.ob b.ks b.vs b.as (b.bs++[.tup [(dT r a y).D,.lst [.tup [.key r a,tI l]]]]),.sh (dT r a y).D,.sh (.key r a),.sh (tI l),.no]:=
  gp (b:=b) (own:=true) (av (aq rfl) (av (dh (av (aq rfl) aE) rfl (by change 1<=sizeLine;unfold sizeLine;omega)) aE)) rfl rfl rfl (by
   change rwW 0 true (dz b [(dT r a y).D,.lst [.key r a]]) _=_
   rw [wA b _ r a l hl (hz hb)]
   rfl)
 have k2:cn 0 4 (af (ah (ae 1) (fC (.int 3)) gIx) (af (fC (.str "t")) (af (br ai) ai))) fz [.ob b.ks b.vs b.as (b.bs++[.tup [(dT r a y).D,.lst [.tup [.key r a,tI l]]]]),.sh (dT r a y).D,.sh (.key r a),.sh (tI l),.no]=.ok (.val (.int (b.as.length:Int))) [.ob b.ks b.vs (b.as++[lpD (y,"t",[])]) (b.bs++[.tup [(dT r a y).D,.lst [.tup [.key r a,tI l]]]]),.sh (dT r a y).D,.sh (.key r a),.sh (tI l),.no]:=
  gp (b:=⟨b.ks,b.vs,b.as,(b.bs++[.tup [(dT r a y).D,.lst [.tup [.key r a,tI l]]]])⟩) (own:=true) (av (aL (aq rfl) aH rfl rfl rfl) (av aH (av (cW aE rfl (by change 0<=sizeLine;unfold sizeLine;omega)) aE))) rfl rfl rfl (by
   change rwW 0 true (fz ⟨b.ks,b.vs,b.as,(b.bs++[.tup [(dT r a y).D,.lst [.tup [.key r a,tI l]]]])⟩ [.str y,.str "t",.tup []]) _=_
   have nl:=tH (⟨b.ks,b.vs,b.as,(b.bs++[.tup [(dT r a y).D,.lst [.tup [.key r a,tI l]]]])⟩:Bd) (.str y) (.str "t") (.tup []) (hz ha)
   rw [nl]
   rfl)
 have k3:ah (ae 3) (br (af (ae 4) ai)) lb [.ob b.ks b.vs (b.as++[lpD (y,"t",[])]) (b.bs++[.tup [(dT r a y).D,.lst [.tup [.key r a,tI l]]]]),.sh (dT r a y).D,.sh (.key r a),.sh (tI l),.sh (.int (b.as.length:Int))]=.ok (.val (tI (l++[(b.as.length:Int)]))) [.ob b.ks b.vs (b.as++[lpD (y,"t",[])]) (b.bs++[.tup [(dT r a y).D,.lst [.tup [.key r a,tI l]]]]),.sh (dT r a y).D,.sh (.key r a),.sh (tI l),.sh (.int (b.as.length:Int))]:=
  aL (aq rfl) (cW (av (aq rfl) aE) rfl (by change 1<=sizeLine;unfold sizeLine;omega)) rfl rfl (by
   change (if (iD l).length + 1<=sizeLine then some (DV.val (.tup (iD l++[.int (b.as.length:Int)]))) else none)=some (.val (tI (l++[(b.as.length:Int)])))
   rw [if_pos (by rw [d8];unfold sizeLine;omega),tI,mR]
   rfl)
 refine aB (n9 k1) (aI (aB (cf k2 rfl) (aI (aB (oP (i:=0) k3 rfl rfl (aq rfl) rfl (hz hk)) (aI ?_)))))
 exact dR (aq rfl) fD
theorem BW {w:Str} (hw:iS kz (.str r)=some (.val (.str w))) (hl:lk b (r,a)=tI l) (h0:l≠[]) (hk:b.ks.length < 10000) (ha:b.as.length < 10000) (hb:b.bs.length < 10000):jr b [(dK r a y).D] =
  .ok (.int (b.as.length:Int)) ⟨bT b.ks (r,a),cN b.ks b.vs (r,a) (tI [(b.as.length:Int)]),b.as++[lpD (y,w,l)],b.bs++[.tup [(dK r a y).D,.lst [.tup [.key r a,tI l]]]]⟩:=by
 have hf:flat (lk b (r,a))=true:=by rw [hl];exact jM l
 have hz:∀ {n:Nat},n < 10000->n < sizeLine:=fun h=>by unfold sizeLine;omega
 have he:(iD l).isEmpty=false:=by cases l with | nil=>exact absurd rfl h0 | cons _ _=>rfl
 unfold jr yK
 refine iu (δ1:=[.ob (bT b.ks (r,a)) (cN b.ks b.vs (r,a) (tI [(b.as.length:Int)])) (b.as++[lpD (y,w,l)]) (b.bs++[.tup [(dK r a y).D,.lst [.tup [.key r a,tI l]]]]),.sh (dK r a y).D,.sh (.key r a),.sh (tI l),.sh (.int (b.as.length:Int))]) ?_ rfl
 refine aB (R1:=.ok .nx [b.sl,.sh (dK r a y).D,.sh (.key r a),.no,.no]) (cf (mq (av (aL (aq rfl) aH rfl rfl rfl) (av (aL (aq rfl) aH rfl rfl rfl) aE)) rfl) rfl) (aI ?_)
 refine aB (R1:=.ok .nx [b.sl,.sh (dK r a y).D,.sh (.key r a),.sh (tI l),.no]) ((cf (la (q:=(r,a)) (mO b _) rfl hf) rfl).trans (by rw [hl];rfl)) (aI ?_)
 refine aB (bD (eP (tm (ds:=iD l) (aq rfl) rfl)) (cy (by rw [he];rfl) cC)) (aI ?_)
 have k1:cn 0 3 (af (ae 1) (af (bB (af (ae 2) ai)) ai)) dz [b.sl,.sh (dK r a y).D,.sh (.key r a),.sh (tI l),.no]=.ok (.val .non) [.ob b.ks b.vs b.as (b.bs++[.tup [(dK r a y).D,.lst [.tup [.key r a,tI l]]]]),.sh (dK r a y).D,.sh (.key r a),.sh (tI l),.no]:=
  gp (b:=b) (own:=true) (av (aq rfl) (av (dh (av (aq rfl) aE) rfl (by change 1<=sizeLine;unfold sizeLine;omega)) aE)) rfl rfl rfl (by
   change rwW 0 true (dz b [(dK r a y).D,.lst [.key r a]]) _=_
   rw [wA b _ r a l hl (hz hb)]
   rfl)
 have k2:cn 0 4 (af (ah (ae 1) (fC (.int 3)) gIx) (af (fUn (ah (ae 1) (fC (.int 1)) gIx) (iS kz)) (af (ae 3) ai))) fz [.ob b.ks b.vs b.as (b.bs++[.tup [(dK r a y).D,.lst [.tup [.key r a,tI l]]]]),.sh (dK r a y).D,.sh (.key r a),.sh (tI l),.no]=.ok (.val (.int (b.as.length:Int))) [.ob b.ks b.vs (b.as++[lpD (y,w,l)]) (b.bs++[.tup [(dK r a y).D,.lst [.tup [.key r a,tI l]]]]),.sh (dK r a y).D,.sh (.key r a),.sh (tI l),.no]:=
  gp (b:=⟨b.ks,b.vs,b.as,(b.bs++[.tup [(dK r a y).D,.lst [.tup [.key r a,tI l]]]])⟩) (own:=true) (av (aL (aq rfl) aH rfl rfl rfl) (av (hW (aL (aq rfl) aH rfl rfl rfl) rfl hw) (av (aq rfl) aE))) rfl rfl rfl (by
   change rwW 0 true (fz ⟨b.ks,b.vs,b.as,(b.bs++[.tup [(dK r a y).D,.lst [.tup [.key r a,tI l]]]])⟩ [.str y,.str w,tI l]) _=_
   have nl:=tH (⟨b.ks,b.vs,b.as,(b.bs++[.tup [(dK r a y).D,.lst [.tup [.key r a,tI l]]]])⟩:Bd) (.str y) (.str w) (tI l) (hz ha)
   rw [nl]
   rfl)
 refine aB (n9 k1) (aI (aB (cf k2 rfl) (aI (aB (oP (i:=0) (cW (av (aq rfl) aE) rfl (by change 1<=sizeLine;unfold sizeLine;omega)) rfl rfl (aq rfl) rfl (hz hk)) (aI ?_)))))
 exact dR (aq rfl) fD
end
end Lw
namespace Lw
open PySem L2 DL
theorem EF {r:Str} (h:ej r):iS m9 (.str r)=some (.val (.str (other r))):=by
 rcases h with rfl | rfl <;> kernel_rfl
theorem EA {r:Str} (h:ej r):iS kz (.str r)=some (.val (.str (if r=Str.ofString "f" then Str.ofString "k" else Str.ofString "p"))):=by
 rcases h with rfl | rfl <;> kernel_rfl
theorem IP (x:Int):DL.gt (if x < 0 then -x else x) 2=decide (x > 2\/-x > 2):=by
 unfold DL.gt
 by_cases h:x > 2\/-x > 2
 ·rw [decide_eq_true h];exact decide_eq_true (by split <;> omega)
 ·rw [decide_eq_false h];exact decide_eq_false (by split <;> omega)
section
variable {s:Sl} {b:Bd} {own:Bool} {r:Str} {a t:Int} {l m:List Int}
theorem Jh (m l:List Int) (h:m.length + l.length<=100):lb (tI m) (tI l)=some (.val (tI (m++l))):=by
 change (if (iD m).length + (iD l).length<=sizeLine then some (DV.val (.tup (iD m++iD l))) else none)=_
 rw [if_pos (by rw [d8,d8];unfold sizeLine;omega),tI,mR]
theorem IY (hd:(Dd.mv r a t).ok) (h2:¬ (a - t > 2\/t - a > 2)) (hl:lk b (r,a)=tI l) (h0:l≠[]) (hm:lk b (other r,t)=tI m) (h4:m.length + l.length<=4) (hk:b.ks.length < 10000) (hb:b.bs.length < 10000):jS b [(Dd.mv r a t).D] =
  .ok .non ⟨bT (bT b.ks (r,a)) (other r,t),cN (bT b.ks (r,a)) (cN b.ks b.vs (r,a) (tI [])) (other r,t) (tI (m++l)),b.as,(b.bs++[.tup [(Dd.mv r a t).D,.lst [.tup [.key r a,tI l],.tup [.key (other r) t,tI m]]]])⟩:=by
 have hf:flat (lk b (r,a))=true:=by rw [hl];exact jM l
 have hg:flat (lk b (other r,t))=true:=by rw [hm];exact jM m
 have he:(iD l).isEmpty=false:=by cases l with | nil=>exact absurd rfl h0 | cons _ _=>rfl
 have hz:∀ {n:Nat},n < 10001->n < sizeLine:=fun h=>by unfold sizeLine;omega
 have hk2:(bT b.ks (r,a)).length < 10001:=by
  unfold bT
  split
  ·omega
  ·rw [List.length_append];change _ + 1 < _;omega
 unfold jS xU
 refine iu (δ1:=[.ob (bT (bT b.ks (r,a)) (other r,t)) (cN (bT b.ks (r,a)) (cN b.ks b.vs (r,a) (tI [])) (other r,t) (tI (m++l))) b.as (b.bs++[.tup [(Dd.mv r a t).D,.lst [.tup [.key r a,tI l],.tup [.key (other r) t,tI m]]]]),.sh (Dd.mv r a t).D,.sh (.key r a),.sh (.key (other r) t),.sh (tI l),.sh (tI (m++l))]) ?_ rfl
 refine aB (R1:=.ok .nx [b.sl,.sh (Dd.mv r a t).D,.sh (.key r a),.no,.no,.no]) (cf (mq (av (aL (aq rfl) aH rfl rfl rfl) (av (aL (aq rfl) aH rfl rfl rfl) aE)) rfl) rfl) (aI ?_)
 refine aB (R1:=.ok .nx [b.sl,.sh (Dd.mv r a t).D,.sh (.key r a),.sh (.key (other r) t),.no,.no]) (cf (mq (av (hW (aL (aq rfl) aH rfl rfl rfl) rfl (EF hd.1)) (av (aL (aq rfl) aH rfl rfl rfl) aE)) rfl) rfl) (aI ?_)
 refine aB (bD (bx (aL (dX (av (aL (aL (aq rfl) aH rfl rfl rfl) (aL (aq rfl) aH rfl rfl rfl) rfl rfl rfl) aE) rfl rfl) aH rfl rfl rfl) rfl) (cy ((IP (a - t)).trans (decide_eq_false (by omega))) cC)) (aI ?_)
 refine aB (R1:=.ok .nx [b.sl,.sh (Dd.mv r a t).D,.sh (.key r a),.sh (.key (other r) t),.sh (tI l),.no]) ((cf (la (q:=(r,a)) (mO b _) rfl hf) rfl).trans (by rw [hl];rfl)) (aI ?_)
 refine aB (bD (eP (tm (ds:=iD l) (aq rfl) rfl)) (cy (by rw [he];rfl) cC)) (aI ?_)
 refine aB (R1:=.ok .nx [b.sl,.sh (Dd.mv r a t).D,.sh (.key r a),.sh (.key (other r) t),.sh (tI l),.sh (tI (m++l))]) (cf (aL (la (q:=(other r,t)) (mO b _) rfl hg) (aq rfl) (congrArg some hm) rfl (Jh m l (by omega))) rfl) (aI ?_)
 refine aB (bD (bx (aL (dX (av (aq rfl) aE) rfl (um _)) aH rfl rfl rfl) rfl) (cy (decide_eq_false (by rw [List.length_append];omega)) cC)) (aI ?_)
 have k1:cn 0 3 (af (ae 1) (af (bB (af (ae 2) (af (ae 3) ai))) ai)) dz [b.sl,.sh (Dd.mv r a t).D,.sh (.key r a),.sh (.key (other r) t),.sh (tI l),.sh (tI (m++l))]=.ok (.val .non) [.ob b.ks b.vs b.as (b.bs++[.tup [(Dd.mv r a t).D,.lst [.tup [.key r a,tI l],.tup [.key (other r) t,tI m]]]]),.sh (Dd.mv r a t).D,.sh (.key r a),.sh (.key (other r) t),.sh (tI l),.sh (tI (m++l))]:=
  gp (b:=b) (own:=true) (av (aq rfl) (av (dh (av (aq rfl) (av (aq rfl) aE)) rfl (by change 2<=sizeLine;unfold sizeLine;omega)) aE)) rfl rfl rfl (by
   change rwW 0 true (dz b [(Dd.mv r a t).D,.lst [.key r a,.key (other r) t]]) _=_
   rw [BY b _ r (other r) a t l m hl hm (hz (by omega))]
   rfl)
 refine aB (n9 k1) (aI (aB (oP (i:=0) (cW aE rfl (by change 0<=sizeLine;unfold sizeLine;omega)) rfl rfl (aq rfl) rfl (hz (by omega))) (aI (aB (oP (i:=0) (aq rfl) rfl rfl (aq rfl) rfl (hz hk2)) (aI ?_)))))
 exact dR aH fD
end
end Lw
namespace Lw
open PySem L2 DL
theorem Dm:gEq (.str (Str.ofString "knit")) (.str (Str.ofString "knit"))=some (.val (.bl true)):=by kernel_rfl
theorem HY:gEq (.str (Str.ofString "tuck")) (.str (Str.ofString "knit"))=some (.val (.bl false)):=by kernel_rfl
theorem Jy:gEq (.str (Str.ofString "tuck")) (.str (Str.ofString "tuck"))=some (.val (.bl true)):=by kernel_rfl
theorem eq_mk:gEq (.str (Str.ofString "move")) (.str (Str.ofString "knit"))=some (.val (.bl false)):=by kernel_rfl
theorem D1:gEq (.str (Str.ofString "move")) (.str (Str.ofString "tuck"))=some (.val (.bl false)):=by kernel_rfl
section
variable {b b':Bd} {r:Str} {a t:Int} {y:Str} {x:D} {c:Str}
theorem Gb (h:jr b [(dK r a y).D]=.ok x b'):eV b [(dK r a y).D]=.ok x b':=by
 unfold eV oB
 refine iu (δ1:=[b'.sl,.sh (dK r a y).D]) ?_ rfl
 exact aB (bD (bx (aL (aL (aq rfl) aH rfl rfl rfl) aH rfl rfl Dm) rfl) (dQ rfl (dR (gp (b:=b) (own:=true) (av (aq rfl) aE) rfl rfl rfl (by rw [h];rfl)) fD))) ma
theorem FX (h:jx b [(dT r a y).D]=.ok x b'):eV b [(dT r a y).D]=.ok x b':=by
 unfold eV oB
 refine iu (δ1:=[b'.sl,.sh (dT r a y).D]) ?_ rfl
 exact aB (bD (bx (aL (aL (aq rfl) aH rfl rfl rfl) aH rfl rfl HY) rfl) (cy rfl cC)) (aI (aB (bD (bx (aL (aL (aq rfl) aH rfl rfl rfl) aH rfl rfl Jy) rfl) (dQ rfl (dR (gp (b:=b) (own:=true) (av (aq rfl) aE) rfl rfl rfl (by rw [h];rfl)) fD))) ma))
theorem Hm (h:jS b [(Dd.mv r a t).D]=.ok x b'):eV b [(Dd.mv r a t).D]=.ok x b':=by
 unfold eV oB
 refine iu (δ1:=[b'.sl,.sh (Dd.mv r a t).D]) ?_ rfl
 exact aB (bD (bx (aL (aL (aq rfl) aH rfl rfl rfl) aH rfl rfl eq_mk) rfl) (cy rfl cC)) (aI (aB (bD (bx (aL (aL (aq rfl) aH rfl rfl rfl) aH rfl rfl D1) rfl) (cy rfl cC)) (aI (dR (gp (b:=b) (own:=true) (av (aq rfl) aE) rfl rfl rfl (by rw [h];rfl)) fD))))
end
section
variable {q q':Str×Int} {d:D}
theorem vX (hq:q≠q'):∀ (ks:List (Str×Int)) (vs:List D),cD ks (gj ks vs q d) q'=cD ks vs q'
 | [],_=>rfl
 | _ :: _,[]=>rfl
 | k :: ks,v :: vs=>by
  change (if k=q' then some (if k=q then d else v) else cD ks (gj ks vs q d) q')=if k=q' then some v else cD ks vs q'
  by_cases h:k=q'
  ·rw [if_pos h,if_pos h,if_neg (fun z=>hq (z.symm.trans h))]
  ·rw [if_neg h,if_neg h,vX hq ks vs]
theorem we:∀ (ks:List (Str×Int)) (vs:List D),ks.length=vs.length->q∈ks->cD ks (gj ks vs q d) q=some d
 | [],_,_,h=>by cases h
 | _ :: _,[],h,_=>by cases h
 | k :: ks,v :: vs,hl,hq=>by
  change (if k=q then some (if k=q then d else v) else cD ks (gj ks vs q d) q)=some d
  by_cases h:k=q
  ·rw [if_pos h,if_pos h]
  ·rw [if_neg h]
   rcases List.mem_cons.mp hq with z | z
   ·exact absurd z.symm h
   ·exact we ks vs (Nat.succ.inj hl) z
theorem vA:∀ (ks:List (Str×Int)) (vs:List D),ks.length=vs.length->q∉ks->cD (ks++[q]) (vs++[d]) q'=if q=q' then some d else cD ks vs q'
 | [],[],_,_=>rfl
 | [],_ :: _,h,_=>by cases h
 | _ :: _,[],h,_=>by cases h
 | k :: ks,v :: vs,hl,hq=>by
  change (if k=q' then some v else cD (ks++[q]) (vs++[d]) q')=if q=q' then some d else if k=q' then some v else cD ks vs q'
  have hk:q≠k:=fun z=>hq (by rw [z];exact List.mem_cons_self)
  by_cases h:k=q'
  ·rw [if_pos h,if_pos h,if_neg (fun z=>hk (z.trans h.symm))]
  ·rw [if_neg h,if_neg h]
   exact vA ks vs (Nat.succ.inj hl) fun z=>hq (List.mem_cons_of_mem _ z)
theorem FH {ks:List (Str×Int)} {vs:List D} (hl:ks.length=vs.length):cD (bT ks q) (cN ks vs q d) q'=if q=q' then some d else cD ks vs q':=by
 unfold bT cN
 by_cases h:q∈ks
 ·rw [if_pos h,if_pos h]
  by_cases e:q=q'
  ·subst e;rw [if_pos rfl];exact we ks vs hl h
  ·rw [if_neg e];exact vX e ks vs
 ·rw [if_neg h,if_neg h]
  exact vA ks vs hl h
theorem yY:∀ (ks:List (Str×Int)) (vs:List D),(gj ks vs q d).length=vs.length
 | [],_=>rfl
 | _ :: _,[]=>rfl
 | _ :: ks,_ :: vs=>congrArg (· + 1) (yY ks vs)
theorem jd {ks:List (Str×Int)} {vs:List D} (hl:ks.length=vs.length):(bT ks q).length=(cN ks vs q d).length/\(bT ks q).length<=ks.length + 1:=by
 unfold bT cN
 by_cases h:q∈ks
 ·rw [if_pos h,if_pos h,yY];exact ⟨hl,Nat.le_succ _⟩
 ·rw [if_neg h,if_neg h,List.length_append,List.length_append,hl];exact ⟨rfl,Nat.le_refl _⟩
theorem rN {b:Bd} {as bs:List D} (hl:b.ks.length=b.vs.length):lk ⟨bT b.ks q,cN b.ks b.vs q d,as,bs⟩ q'=if q=q' then d else lk b q':=by
 unfold lk
 rw [FH hl]
 split <;> rfl
end
theorem qU {hs:List (List Int)} {i j:Int} {x:List Int} (h:i.toNat < hs.length):hAt (hs.set i.toNat x) j=if i.toNat=j.toNat then x else hAt hs j:=by
 unfold hAt
 rw [List.getD_eq_getElem?_getD,List.getD_eq_getElem?_getD]
 by_cases e:i.toNat=j.toNat
 ·rw [if_pos e,<-e,List.getElem?_set_self h];rfl
 ·rw [if_neg e,List.getElem?_set_ne e]
theorem jA {r r':Str} {a a':Int} (hr:ej r) (hr':ej r') (h0:0<=a) (h1:a<=15) (h0':0<=a') (h1':a'<=15):(hk r a).toNat=(hk r' a').toNat↔(r,a)=(r',a'):=by
 have bf:¬ Str.ofString "b"=Str.ofString "f":=by decide +kernel
 constructor
 ·intro h
  rcases hr with rfl | rfl <;> rcases hr' with rfl | rfl
  ·unfold hk at h;rw [if_pos rfl,if_pos rfl] at h;rw [show a=a' by omega]
  ·unfold hk at h;rw [if_pos rfl,if_neg bf] at h;omega
  ·unfold hk at h;rw [if_neg bf,if_pos rfl] at h;omega
  ·unfold hk at h;rw [if_neg bf,if_neg bf] at h;rw [show a=a' by omega]
 ·intro h
  injection h with h1 h2
  rw [h1,h2]
end Lw
namespace Lw
open PySem L2 DL
abbrev gT (d:Dd) (p:List D):D:=.tup [d.D,.lst p]
structure BS (hs:List (List Int)) (cl:List Lp) (ds:List Dd) (b:Bd):Prop where
 lk:∀ r a,ej r->0<=a->a<=15->lk b (r,a)=tI (hAt hs (hk r a))
 as:b.as=clD cl
 ps:∃ ps:List (List D),ps.length=ds.length/\b.bs=List.zipWith gT ds ps
 kl:b.ks.length=b.vs.length
 kn:b.ks.length<=2 * ds.length
section
variable {hs:List (List Int)} {cl:List Lp} {ds:List Dd} {b:Bd} {d:Dd} {r:Str} {a t:Int} {l' m':List Int} {e:List Lp} {p:List D}
theorem BS.snoc (B:BS hs cl ds b):∃ ps:List (List D),ps.length=(ds++[d]).length/\b.bs++[gT d p]=List.zipWith gT (ds++[d]) ps:=by
 obtain ⟨ps,h1,h2⟩:=B.ps
 refine ⟨ps++[p],by rw [List.length_append,List.length_append,h1];rfl,?_⟩
 rw [h2,List.zipWith_append h1.symm]
 rfl
theorem BS.put1 (B:BS hs cl ds b) (h32:hs.length=32) (hr:ej r) (h0:0<=a) (h1:a<=15):BS (hs.set (hk r a).toNat l') (cl++e) (ds++[d]) ⟨bT b.ks (r,a),cN b.ks b.vs (r,a) (tI l'),b.as++clD e,b.bs++[gT d p]⟩ where
 lk:=fun r' a' hr' h0' h1'=>by
  have hb:=iN (r:=r) h0 h1
  rw [rN B.kl,qU (by omega)]
  by_cases q:(r,a)=(r',a')
  ·rw [if_pos q,if_pos ((jA hr hr' h0 h1 h0' h1').mpr q)]
  ·rw [if_neg q,if_neg (fun z=>q ((jA hr hr' h0 h1 h0' h1').mp z))]
   exact B.lk r' a' hr' h0' h1'
 as:=by change b.as++clD e=_;rw [B.as,qj]
 ps:=B.snoc
 kl:=(jd B.kl).1
 kn:=by
  have:=(jd (q:=(r,a)) (d:=tI l') B.kl).2
  have:=B.kn
  change (bT b.ks (r,a)).length<=_
  rw [List.length_append]
  change _<=2 * (ds.length + 1)
  omega
theorem BS.put2 (B:BS hs cl ds b) (h32:hs.length=32) (hr:ej r) (h0:0<=a) (h1:a<=15) (h2:0<=t) (h3:t<=15) (hne:other r≠r):BS ((hs.set (hk (other r) t).toNat m').set (hk r a).toNat []) cl (ds++[d])
  ⟨bT (bT b.ks (r,a)) (other r,t),cN (bT b.ks (r,a)) (cN b.ks b.vs (r,a) (tI [])) (other r,t) (tI m'),b.as,b.bs++[gT d p]⟩ where
 lk:=fun r' a' hr' h0' h1'=>by
  have hb:=iN (r:=r) h0 h1
  have hb2:=iN (r:=other r) h2 h3
  have k1:=jd (q:=(r,a)) (d:=tI []) B.kl
  have e1:=rN (b:=⟨bT b.ks (r,a),cN b.ks b.vs (r,a) (tI []),b.as,b.bs⟩) (q:=(other r,t)) (q':=(r',a')) (d:=tI m') (as:=b.as) (bs:=b.bs++[gT d p]) k1.1
  have e2:=rN (b:=b) (q:=(r,a)) (q':=(r',a')) (d:=tI []) (as:=b.as) (bs:=b.bs) B.kl
  refine e1.trans ?_
  rw [e2,qU (by rw [List.length_set];omega),qU (by omega)]
  by_cases q:(other r,t)=(r',a')
  ·have q2:¬ (r,a)=(r',a'):=fun z=>hne (congrArg Prod.fst (q.trans z.symm))
   rw [if_pos q,if_neg (fun z=>q2 ((jA hr hr' h0 h1 h0' h1').mp z)),if_pos ((jA (sv r) hr' h2 h3 h0' h1').mpr q)]
  ·rw [if_neg q,if_neg (c:=(hk (other r) t).toNat=(hk r' a').toNat) (fun z=>q ((jA (sv r) hr' h2 h3 h0' h1').mp z))]
   by_cases q2:(r,a)=(r',a')
   ·rw [if_pos q2,if_pos ((jA hr hr' h0 h1 h0' h1').mpr q2)]
   ·rw [if_neg q2,if_neg (fun z=>q2 ((jA hr hr' h0 h1 h0' h1').mp z))]
    exact B.lk r' a' hr' h0' h1'
 as:=B.as
 ps:=B.snoc
 kl:=(jd (jd B.kl).1).1
 kn:=by
  have k1:=jd (q:=(r,a)) (d:=tI []) B.kl
  have k2:=(jd (q:=(other r,t)) (d:=tI m') k1.1).2
  have:=B.kn
  change (bT (bT b.ks (r,a)) (other r,t)).length<=_
  rw [List.length_append]
  change _<=2 * (ds.length + 1)
  omega
end
theorem BS.start:BS (List.replicate 32 []) [] [] ⟨[],[],[],[]⟩ where
 lk:=fun r a _ _ _=>by
  have:hAt (List.replicate 32 []) (hk r a)=[]:=by
   unfold hAt
   rw [List.getD_eq_getElem?_getD,List.getElem?_replicate]
   split <;> rfl
  rw [this]
  rfl
 as:=rfl
 ps:=⟨[],rfl,rfl⟩
 kl:=rfl
 kn:=Nat.zero_le _
def vI (cl:List Lp):Dd->D
 | .ky _ _ _ _=>.int (cl.length:Int)
 | .mv _ _ _=>.non
theorem FF {r:Str} (h:ej r):other r≠r:=by
 rcases h with rfl | rfl <;> decide +kernel
theorem xQ:¬ Str.ofString "knit"=Str.ofString "tuck":=by decide +kernel
theorem tV:¬ Str.ofString "tuck"=Str.ofString "knit":=by decide +kernel
theorem Gn {hs:List (List Int)} {cl:List Lp} {ds:List Dd} {b:Bd} {d:Dd} (B:BS hs cl ds b) (h32:hs.length=32) (h4:∀ l∈hs,l.length<=4) (hc:cl.length < 1000) (hn:ds.length < 4000) (hd:d.ok) (hz:cA hs d=none):∃ b',eV b [d.D]=.ok (vI cl d) b'/\BS (doF hs cl d).1 (doF hs cl d).2 (ds++[d]) b':=by
 have hk1:b.ks.length < 10000:=by have:=B.kn;omega
 have hlen:b.as.length=cl.length:=by rw [B.as,nM]
 have ha1:b.as.length < 10000:=by omega
 have hb1:b.bs.length < 10000:=by
  obtain ⟨ps,h1,h2⟩:=B.ps
  rw [h2,List.length_zipWith,h1]
  omega
 cases d with
 | ky k r a y=>
  obtain ⟨hk,hr,h0,h1,hy⟩:=id hd
  have hbk:=iN (r:=r) h0 h1
  have hl:=B.lk r a hr h0 h1
  have hm:=h4 _ (nQ (hs:=hs) (i:=Lw.hk r a) (by omega))
  generalize hL:hAt hs (Lw.hk r a)=l at *
  rcases hk with rfl | rfl
  ·by_cases e:l=[]
   ·have hw:cA hs (dK r a y)=some (Str.ofString "empty"):=by
     change (if Str.ofString "knit"=Str.ofString "knit"/\hAt hs (Lw.hk r a)=[] then some (Str.ofString "empty") else if Str.ofString "knit"=Str.ofString "tuck"/\(hAt hs (Lw.hk r a)).length=4 then some (Str.ofString "full") else none)=_
     rw [if_pos ⟨rfl,by rw [hL,e]⟩]
    rw [hw] at hz
    cases hz
   ·have hw:cA hs (dK r a y)=none:=by
     change (if Str.ofString "knit"=Str.ofString "knit"/\hAt hs (Lw.hk r a)=[] then some (Str.ofString "empty") else if Str.ofString "knit"=Str.ofString "tuck"/\(hAt hs (Lw.hk r a)).length=4 then some (Str.ofString "full") else none)=_
     rw [if_neg (fun z=>e (hL.symm.trans z.2)),if_neg (fun z=>xQ z.1)]
    refine ⟨_,Gb ((BW (EA hr) hl e hk1 ha1 hb1).trans (by rw [hlen];rfl)),?_⟩
    have hdo:doF hs cl (dK r a y)=(hs.set (Lw.hk r a).toNat [(cl.length:Int)],cl++[(y,if r=Str.ofString "f" then Str.ofString "k" else Str.ofString "p",l)]):=by
     change (if Str.ofString "knit"=Str.ofString "tuck" then (hs.set (Lw.hk r a).toNat (hAt hs (Lw.hk r a)++[(cl.length:Int)]),cl++[(y,Str.ofString "t",[])]) else (hs.set (Lw.hk r a).toNat [(cl.length:Int)],cl++[(y,if r=Str.ofString "f" then Str.ofString "k" else Str.ofString "p",hAt hs (Lw.hk r a))]))=_
     rw [if_neg xQ,hL]
    rw [hdo]
    exact B.put1 h32 hr h0 h1
  ·by_cases e:l.length=4
   ·have hw:cA hs (dT r a y)=some (Str.ofString "full"):=by
     change (if Str.ofString "tuck"=Str.ofString "knit"/\hAt hs (Lw.hk r a)=[] then some (Str.ofString "empty") else if Str.ofString "tuck"=Str.ofString "tuck"/\(hAt hs (Lw.hk r a)).length=4 then some (Str.ofString "full") else none)=_
     rw [if_neg (fun z=>tV z.1),if_pos ⟨rfl,by rw [hL,e]⟩]
    rw [hw] at hz
    cases hz
   ·have hw:cA hs (dT r a y)=none:=by
     change (if Str.ofString "tuck"=Str.ofString "knit"/\hAt hs (Lw.hk r a)=[] then some (Str.ofString "empty") else if Str.ofString "tuck"=Str.ofString "tuck"/\(hAt hs (Lw.hk r a)).length=4 then some (Str.ofString "full") else none)=_
     rw [if_neg (fun z=>tV z.1),if_neg (fun z=>e (by rw [<-hL];exact z.2))]
    refine ⟨_,FX ((AJ hl (by omega) hk1 ha1 hb1).trans (by rw [hlen];rfl)),?_⟩
    have hdo:doF hs cl (dT r a y)=(hs.set (Lw.hk r a).toNat (l++[(cl.length:Int)]),cl++[(y,Str.ofString "t",[])]):=by
     change (if Str.ofString "tuck"=Str.ofString "tuck" then (hs.set (Lw.hk r a).toNat (hAt hs (Lw.hk r a)++[(cl.length:Int)]),cl++[(y,Str.ofString "t",[])]) else (hs.set (Lw.hk r a).toNat [(cl.length:Int)],cl++[(y,if r=Str.ofString "f" then Str.ofString "k" else Str.ofString "p",hAt hs (Lw.hk r a))]))=_
     rw [if_pos rfl,hL]
    rw [hdo]
    exact B.put1 h32 hr h0 h1
 | mv r a t=>
  obtain ⟨hr,h0,h1,h2,h3⟩:=id hd
  have hbk:=iN (r:=r) h0 h1
  have hbk2:=iN (r:=other r) h2 h3
  have hl:=B.lk r a hr h0 h1
  have hg:=B.lk (other r) t (sv r) h2 h3
  have hm:=h4 _ (nQ (hs:=hs) (i:=hk r a) (by omega))
  have hm2:=h4 _ (nQ (hs:=hs) (i:=hk (other r) t) (by omega))
  by_cases f:a - t > 2\/t - a > 2
  ·have hw:cA hs (.mv r a t)=some (Str.ofString "far"):=if_pos f
   rw [hw] at hz
   cases hz
  ·by_cases e:hAt hs (hk r a)=[]
   ·have hw:cA hs (.mv r a t)=some (Str.ofString "empty"):=(if_neg f).trans (if_pos e)
    rw [hw] at hz
    cases hz
   ·by_cases g:(hAt hs (hk r a)).length + (hAt hs (hk (other r) t)).length > 4
    ·have hw:cA hs (.mv r a t)=some (Str.ofString "full"):=(if_neg f).trans ((if_neg e).trans (if_pos g))
     rw [hw] at hz
     cases hz
    ·have hw:cA hs (.mv r a t)=none:=(if_neg f).trans ((if_neg e).trans (if_neg g))
     refine ⟨_,Hm (IY hd f hl e hg (by omega) hk1 hb1),?_⟩
     exact B.put2 h32 hr h0 h1 h2 h3 (FF hr)
end Lw
namespace Lw
open PySem L2 DL
section
variable {hs:List (List Int)} {cl:List Lp} {ds:List Dd} {b:Bd} {d:Dd} {r:Str} {a:Int}
theorem BS.hook (B:BS hs cl ds b) (hr:ej r) (h0:0<=a) (h1:a<=15):eU [b.d,.str r,.int a]=.own (iD (hAt hs (hk r a))):=by
 unfold eU ye
 have c:bI 0 2 (af (ic (af (ae 1) (af (ae 2) ai))) ai) cR [.sh b.d,.sh (.str r),.sh (.int a)]=.ok (.val (tI (hAt hs (hk r a)))) [.sh b.d,.sh (.str r),.sh (.int a)]:=
  hZ (b:=b) (own:=false) (av (mq (r:=r) (k:=a) (av (aq rfl) (av (aq rfl) aE)) rfl) aE) rfl rfl rfl (by
   change roR false (cR [b.d,kD (r,a)]) _=_
   rw [uZ,B.lk r a hr h0 h1]
   rfl)
 exact cG (dR (dX (av c aE) rfl rfl) nL)
theorem BS.cloth (B:BS hs cl ds b):fG [b.d]=.own (clD cl):=by
 rw [<-B.as]
 unfold fG yA
 exact cG (dR (dX (av (rfl:gC 0 1 _=.ok (.val (.lst b.as)) _) aE) rfl rfl) nL)
def dsD (ds:List Dd):List D:=ds.map Dd.D
theorem vb:∀ (ds:List Dd) (ps:List (List D)),ps.length=ds.length->(List.zipWith gT ds ps).map (fun x=>match x with | .tup (y :: _)=>y | x=>x)=dsD ds
 | [],[],_=>rfl
 | [],_ :: _,h=>by cases h
 | _ :: _,[],h=>by cases h
 | d :: ds,p :: ps,h=>by
  rw [List.zipWith_cons_cons,List.map_cons,vb ds ps (Nat.succ.inj h)]
  rfl
theorem BS.done (B:BS hs cl ds b) (hn:ds.length < 10000):iI [b.d]=.own (dsD ds):=by
 obtain ⟨ps,h1,h2⟩:=B.ps
 have c:cv (bo 0) (.ret true) (ah (ae 0) (fC (.int 0)) gIx) b.bs [.no] []=some (dsD ds):=by
  rw [<-vb ds ps h1,h2]
  refine comp_map (g:=fun x=>match x with | .tup (y :: _)=>y | x=>x) _ .no (by rw [List.length_zipWith,h1];unfold sizeLine;omega) fun x hx=>?_
  obtain ⟨i,hi,e⟩:=List.mem_iff_getElem.mp hx
  rw [List.getElem_zipWith] at e
  subst e
  have hi1:i < ds.length:=by rw [List.length_zipWith] at hi;omega
  have hi2:i < ps.length:=by omega
  unfold fN DM.bd
  have h:(ah (ae 0) (fC (.int 0)) gIx) [.sh (gT ds[i] ps[i])]=.ok (.val ds[i].D) [.sh (gT ds[i] ps[i])]:=aL (aq rfl) aH rfl rfl (GU (vj _ _))
  rw [h]
  rfl
 unfold iI uU
 exact cG (dR (jq (gh (rfl:gC 0 2 _=.ok (.val (.lst b.bs)) _) rfl rfl) c) nL)
end
end Lw
namespace Lw
open PySem L2 DL
theorem HZ {y:Str} {c:Nat} {ls:List Int} {l:Lp} (h:l∈dt y c ls):l.2.2.length<=ls.length:=by
 unfold dt at h
 split at h
 ·cases h
 ·split at h
  ·rw [List.mem_singleton.mp h];exact Nat.zero_le _
  ·rw [List.mem_singleton.mp h];exact Nat.le_refl _
theorem rH (y:Str):∀ (us:List (Nat×List Int)) (cl:List Lp),(∀ u∈us,u.2.length<=1000)->(∀ l∈cl,l.2.2.length<=1000)->∀ l∈(c5 y us cl).2,l.2.2.length<=1000
 | [],cl,_,h,l,hl=>h l hl
 | u :: r,cl,hu,h,l,hl=>rH y r (cl++dt y u.1 u.2) (fun v hv=>hu v (List.mem_cons_of_mem _ hv)) (fun m hm=>by
   rcases List.mem_append.mp hm with z | z
   ·exact h m z
   ·exact Nat.le_trans (HZ z) (hu u List.mem_cons_self)) l hl
theorem C1 (y:Str) (b:Bool) (us:List (Nat×List Int)) (cl:List Lp) (hu:∀ u∈us,u.2.length<=1000) (h:∀ l∈cl,l.2.2.length<=1000):∀ l∈(cT y b us cl).2,l.2.2.length<=1000:=by
 unfold cT
 split
 ·exact rH y us.reverse cl (fun u z=>hu u (List.mem_reverse.mp z)) h
 ·exact rH y us cl hu h
theorem xV:∀ (rs:List (Str×Str)) (b:Bool) (lv:List (List Int)) (cl:List Lp),dI (aS lv) rs->okC (aS lv)->lv.length<=16->cl.length + 16 * rs.length<=500->(∀ l∈cl,l.2.2.length<=1000)->
  (d7 b lv cl rs).1.length<=500/\(∀ l∈(d7 b lv cl rs).1,l.2.2.length<=1000)/\(d7 b lv cl rs).2.length<=16/\okC (aS (d7 b lv cl rs).2)
 | [],b,lv,cl,_,hk,h16,hc,hm=>⟨by show cl.length<=500;omega,hm,h16,hk⟩
 | r :: rs,b,lv,cl,h,hk,h16,hc,hm=>by
  obtain ⟨h1,h2,h3,h4⟩:=h
  rw [List.length_cons] at hc
  have hl:=ou r.1 b r.2.cps.toList lv cl
  have hcl:=yQ r.1 b (bO r.2.cps.toList lv) cl
  have hxl:r.2.cps.toList.length=r.2.length:=by simp [Str.length]
  have hfew:=wF h3 hk
  rw [sD] at hcl
  have hll:(cT r.1 b (bO r.2.cps.toList lv) cl).1.length=r.2.length:=by rw [<-nD,hl,gX,hxl]
  exact xV rs (!b) _ _ (by rw [hl];exact h4) (by rw [hl];exact mS h3 hk) (by omega) (by omega) (C1 r.1 b _ cl (fun u hu=>by have:=(hfew u hu).2;omega) hm)
theorem BV (hs:List (List Int)) (cl:List Lp) (d:Dd):cl.length<=(doF hs cl d).2.length:=by
 cases d with
 | mv r a t=>exact Nat.le_refl _
 | ky k r a y=>
  change cl.length<=(if k=Str.ofString "tuck" then _ else _:List (List Int)×List Lp).2.length
  split
  ·change cl.length<=(cl++[_]).length
   rw [List.length_append];omega
  ·change cl.length<=(cl++[_]).length
   rw [List.length_append];omega
theorem ug {hs:List (List Int)} {cl:List Lp} {d:Dd} {ds:List Dd} {z:List (List Int)×List Lp} (h:aO hs cl (d :: ds)=some z):cA hs d=none/\aO (doF hs cl d).1 (doF hs cl d).2 ds=some z:=by
 change (match cA hs d with | none=>_ | some _=>_)=_ at h
 cases hw:cA hs d with
 | none=>rw [hw] at h;exact ⟨rfl,h⟩
 | some x=>rw [hw] at h;cases h
theorem xJ:∀ (ds:List Dd) (hs:List (List Int)) (cl:List Lp) (z:List (List Int)×List Lp),aO hs cl ds=some z->cl.length<=z.2.length
 | [],hs,cl,z,h=>by
  have:(hs,cl)=z:=Option.some.inj h
  rw [<-this];exact Nat.le_refl _
 | d :: ds,hs,cl,z,h=>by
  obtain ⟨_,h2⟩:=ug h
  exact Nat.le_trans (BV hs cl d) (xJ ds _ _ z h2)
theorem yr:hl nil nil=List.replicate 32 []:=by
 have:=FR [] (Nat.zero_le _)
 have e:lst []=nil:=by funext x;rfl
 rw [e] at this
 exact this
theorem yI:∀ (rs:List (Str×Str)) (b:Bool) (lv:List (List Int)) (cl:List Lp),dI (aS lv) rs->1<=lv.length->1<=(d7 b lv cl rs).2.length
 | [],_,_,_,_,h=>h
 | r :: rs,b,lv,cl,h,hl'=>by
  obtain ⟨h1,h2,h3,h4⟩:=h
  have hn:r.2.cps.toList.length=r.2.length:=Array.length_toList
  have ho:=ou r.1 b r.2.cps.toList lv cl
  refine yI rs (!b) _ _ (by rw [ho];exact h4) ?_
  have:=congrArg List.length ho
  rw [nD,gX] at this
  omega
theorem uk:∀ cl:List Lp,dP (clD cl)=true
 | []=>rfl
 | l :: cl=>by
  change ((true&&(true&&(dP (iD l.2.2)&&true)))&&dP (clD cl))=true
  rw [lp,uk cl];rfl
theorem qM {es:List D} {δ:DSt} {o:Bool} (h:dP es=true):roR o (.own es) δ=.ok (.own es) δ:=by
 change (if (!o||dP es)=true then Rs.ok (DV.own es) δ else .un)=_
 rw [h,Bool.or_true,if_pos rfl]
def bDo:DM Fl:=(eR (cn 0 2 (af (ae 2) ai) eV))
theorem yP (s1:Sl) (z:List (List Int)×List Lp) (hz:z.2.length < 1000):∀ (ds es:List Dd) (hs:List (List Int)) (cl:List Lp) (n:Nat) (b:Bd) (s2:Sl),aO hs cl ds=some z->(∀ d∈ds,d.ok)->Bed hs cl n->BS hs cl es b->es.length + ds.length < 4000->
  ∃ fs b' m y2,BS z.1 z.2 fs b'/\Bed z.1 z.2 m/\fs.length < 4000/\bP (bo 2) bDo (dlD ds) [b.sl,s1,s2]=.ok .nx [b'.sl,s1,y2]
 | [],es,hs,cl,n,b,s2,h,_,hB,B,hl=>by
  have:(hs,cl)=z:=Option.some.inj h
  rw [<-this]
  exact ⟨es,b,n,s2,B,hB,by rw [List.length_nil] at hl;omega,rfl⟩
 | d :: ds,es,hs,cl,n,b,s2,h,hd,hB,B,hl=>by
  obtain ⟨hw,h2⟩:=ug h
  obtain ⟨h32,h4,_⟩:=hB.size
  have hg:=xJ (d :: ds) hs cl z h
  have hdd:=hd d List.mem_cons_self
  rw [List.length_cons] at hl
  obtain ⟨b1,e1,B1⟩:=Gn B h32 h4 (by omega) (by omega) hdd hw
  obtain ⟨fs,b2,m,y2,B2,hB2,hf,e⟩:=yP s1 z hz ds (es++[d]) _ _ (n + 1) b1 (.sh d.D) h2 (fun c hc=>hd c (List.mem_cons_of_mem _ hc)) (hB.step hdd hw) B1 (by rw [List.length_append];change es.length + 1 + _ < _;omega)
  refine ⟨fs,b2,m,y2,B2,hB2,hf,?_⟩
  change bP (bo 2) bDo (d.D :: dlD ds) _=_
  refine dj (δ1:=[b.sl,s1,.sh d.D]) rfl ?_ e
  have k2:(cn 0 2 (af (ae 2) ai) eV) [b.sl,s1,.sh d.D]=.ok (.val (vI cl d)) [b1.sl,s1,.sh d.D]:=
   gp (b:=b) (own:=true) (av (aq rfl) aE) rfl rfl rfl (by rw [e1];rfl)
  exact n9 k2
theorem A5 {ds:List Dd} {z:List (List Int)×List Lp} (hz:z.2.length < 1000) (h:aO (List.replicate 32 []) [] ds=some z) (hd:∀ d∈ds,d.ok) (hl:ds.length < 4000):∃ fs b m,BS z.1 z.2 fs b/\Bed z.1 z.2 m/\jg ⟨[],[],[],[]⟩ [.lst (dlD ds)]=.ok (.bl true) b:=by
 obtain ⟨fs,b,m,y2,B,hB,_,e⟩:=yP (.sh (.lst (dlD ds))) z hz ds [] (List.replicate 32 []) [] 0 ⟨[],[],[],[]⟩ .no h hd .start BS.start (by change 0 + _ < _;omega)
 refine ⟨fs,b,m,B,hB,?_⟩
 unfold bDo at e
 unfold jg y9
 refine iu (δ1:=[b.sl,.sh (.lst (dlD ds)),y2]) ?_ rfl
 exact aB (fP (gh (aq rfl) rfl rfl) e) (aI (dR aH fD))
def bBe:DM Fl:=(ak (aG 3 (bB ai))
  (ak (fIf (aw (ah (ae 2) (fCB (af (ae 1) ai) bq) (bg lt))) (aG 3 (ah (ae 1) (ae 2) gIx)) aN)
  (fIf (bM (b9 (aw (aF 2 (af (bI 0 3 (af (fC (.str "f")) (af (ae 2) ai)) eU) (af (ae 3) ai)) gk))) (b9 (aw (aF 2 (af (bI 0 3 (af (fC (.str "b")) (af (ae 2) ai)) eU) (af (bB ai) ai)) gk)))) (aD (fC (.bl false))) aN)))
section
variable {live:List (List Int)} {cl:List Lp} {ds:List Dd} {b:Bd}
theorem GB (B:BS (hl (lst live) nil) cl ds b) (hl4:∀ k,(lst live k).length<=1000) (k:Nat) (hk':k < 16) (s3:Sl):∃ y3,bBe [.sh b.d,.sh (.lst (lvD live)),.sh (.int (k:Int)),s3]=.ok .nx [.sh b.d,.sh (.lst (lvD live)),.sh (.int (k:Int)),y3]:=by
 have e3:=B.hook (r:=Str.ofString "f") (a:=(k:Int)) (.inl rfl) (by omega) (by omega)
 have e4:=B.hook (r:=Str.ofString "b") (a:=(k:Int)) (.inr rfl) (by omega) (by omega)
 rw [ik _ _ k hk'] at e3
 rw [jL _ _ k hk'] at e4
 have a1:=ub (lst live k) (hl4 k)
 have a2:gk [.lst (iD (nil k)),.lst []]=.ok (.bl true):=ub [] (Nat.zero_le _)
 have z0:([]:List D).length<=sizeLine:=by change 0<=sizeLine;unfold sizeLine;omega
 have gl:bq [.lst (lvD live)]=some (.val (.int (live.length:Int))):=by
  change some (DV.val (.int ((lvD live).length:Int)))=_
  rw [lG]
 have q:bg lt (.int (k:Int)) (.int (live.length:Int))=some (.val (.bl (decide ((k:Int) < (live.length:Int))))):=rfl
 have T1:(aw (ah (ae 2) (fCB (af (ae 1) ai) bq) (bg lt))) [.sh b.d,.sh (.lst (lvD live)),.sh (.int (k:Int)),.sh (.lst [])]=.ok (decide ((k:Int) < (live.length:Int))) [.sh b.d,.sh (.lst (lvD live)),.sh (.int (k:Int)),.sh (.lst [])]:=bx (aL (aq rfl) (dX (av (aq rfl) aE) rfl gl) rfl rfl q) rfl
 have A2:(fIf (aw (ah (ae 2) (fCB (af (ae 1) ai) bq) (bg lt))) (aG 3 (ah (ae 1) (ae 2) gIx)) aN) [.sh b.d,.sh (.lst (lvD live)),.sh (.int (k:Int)),.sh (.lst [])]=.ok .nx [.sh b.d,.sh (.lst (lvD live)),.sh (.int (k:Int)),.sh (.lst (iD (lst live k)))]:=by
  by_cases h:k < live.length
  ·rw [decide_eq_true (show (k:Int) < (live.length:Int) by omega)] at T1
   have gi:gIx (.lst (lvD live)) (.int (k:Int))=some (.val (.lst (iD (lst live k)))):=og (sG (by omega) (by
    rw [Int.toNat_natCast]
    unfold lst lvD
    rw [List.getElem?_map,List.getD_eq_getElem?_getD,List.getElem?_eq_getElem h];rfl))
   exact bD T1 (dQ rfl (cf (aL (aq rfl) (aq rfl) rfl rfl gi) rfl))
  ·rw [decide_eq_false (show ¬ (k:Int) < (live.length:Int) by omega)] at T1
   have:lst live k=[]:=by
    unfold lst
    rw [List.getD_eq_getElem?_getD,List.getElem?_eq_none (by omega)];rfl
   rw [this]
   exact bD T1 (cy rfl cC)
 refine ⟨.sh (.lst (iD (lst live k))),?_⟩
 unfold bBe
 refine aB (cf (dh aE rfl z0) rfl) (aI (aB A2 (aI ?_)))
 have r1:(bI 0 3 (af (fC (.str "f")) (af (ae 2) ai)) eU) [.sh b.d,.sh (.lst (lvD live)),.sh (.int (k:Int)),.sh (.lst (iD (lst live k)))]=.ok (.own (iD (lst live k))) [.sh b.d,.sh (.lst (lvD live)),.sh (.int (k:Int)),.sh (.lst (iD (lst live k)))]:=
  hZ (b:=b) (own:=false) (av aH (av (aq rfl) aE)) rfl rfl rfl (by
   change roR false (eU [b.d,.str (Str.ofString "f"),.int (k:Int)]) _=_
   rw [e3];exact qM (lp _))
 have r2:(bI 0 3 (af (fC (.str "b")) (af (ae 2) ai)) eU) [.sh b.d,.sh (.lst (lvD live)),.sh (.int (k:Int)),.sh (.lst (iD (lst live k)))]=.ok (.own (iD (nil k))) [.sh b.d,.sh (.lst (lvD live)),.sh (.int (k:Int)),.sh (.lst (iD (lst live k)))]:=
  hZ (b:=b) (own:=false) (av aH (av (aq rfl) aE)) rfl rfl rfl (by
   change roR false (eU [b.d,.str (Str.ofString "b"),.int (k:Int)]) _=_
   rw [e4];exact qM (lp _))
 exact bD (jR (eP (bx (iT (av r1 (av (aq rfl) aE)) rfl rfl a1) rfl)) rfl (eP (bx (iT (av r2 (av (dh aE rfl z0) aE)) rfl rfl a2) rfl))) (cy rfl cC)
theorem tL (B:BS (hl (lst live) nil) cl ds b) (hl4:∀ k,(lst live k).length<=1000):∀ (ks:List D) (s2 s3:Sl),(∀ d∈ks,∃ k:Nat,k < 16/\d=.int (k:Int))->∃ y2 y3,bP (bo 2) bBe ks [.sh b.d,.sh (.lst (lvD live)),s2,s3]=.ok .nx [.sh b.d,.sh (.lst (lvD live)),y2,y3]
 | [],s2,s3,_=>⟨s2,s3,rfl⟩
 | d :: ks,s2,s3,h=>by
  obtain ⟨k,hk,rfl⟩:=h d List.mem_cons_self
  obtain ⟨x3,e1⟩:=GB B hl4 k hk s3
  obtain ⟨y2,y3,e2⟩:=tL B hl4 ks (.sh (.int (k:Int))) x3 fun x hx=>h x (List.mem_cons_of_mem _ hx)
  exact ⟨y2,y3,dj rfl e1 e2⟩
theorem uX (B:BS (hl (lst live) nil) cl ds b) (hl4:∀ k,(lst live k).length<=1000):eZ [b.d,.lst (lvD live)]=.ok (.bl true):=by
 obtain ⟨y2,y3,e⟩:=tL B hl4 (bN 0 (16:Int).toNat) .no .no fun d hd=>by
  obtain ⟨k,hk,e⟩:=lx hd
  exact ⟨k,hk,e⟩
 unfold bBe at e
 unfold eZ wu
 exact fZ (aB (fP (kT (av aH aE) rfl rfl) e) (aI (dR aH fD)))
end
theorem Fx {f:DM DV} {δ:DSt} {v:Int} (h:f δ=.ok (.val (.int v)) δ) (h0:1<=v) (h1:v<=16):lI (fC (.int 1)) f (fC (.int 16)) (bg le) (bg le) δ=.ok (.val (.bl true)) δ:=by
 have q1:bg le (.int 1) (.int v)=some (.val (.bl true)):=by
  change some (DV.val (.bl (decide (1<=v))))=_
  rw [decide_eq_true h0]
 have q2:bg le (.int v) (.int 16)=some (.val (.bl true)):=by
  change some (DV.val (.bl (decide (v<=16))))=_
  rw [decide_eq_true h1]
 unfold lI fN fC DM.bd DM.ret
 simp only [h,norm,res]
 rw [q1]
 simp only [q2]
theorem En (ns:List Int) (_:ns.length<=63):kL [.scr ns]=.ok (.bl true):=by
 obtain ⟨many,y,rs,h,e1⟩:=C0 ns
 have h1:=h.m1
 have h2:=h.m2
 have h3:=h.n
 have hone:okC (List.replicate many.toNat 1):=fun x hx=>by rw [List.eq_of_mem_replicate hx];omega
 have gt1:=Hz (y:=y) h1 h2 h.rows (by omega)
 have gm:=AH (y:=y) h1 h2 h.rows (by omega)
 have gg:=Jm (y:=y) h1 h2 h.rows
 have hll:(d5 many).length<=16/\1<=(d5 many).length:=by unfold d5;rw [List.length_map,List.length_range];omega
 have hlp:=yI rs true (d5 many) (eY many y) (by rw [j2];exact h.rows) hll.2
 obtain ⟨hc1,hc2,hlv,hok⟩:=xV rs true (d5 many) (eY many y) (by rw [j2];exact h.rows) (by rw [j2];exact hone) hll.1 (by unfold eY;rw [List.length_replicate];omega) (fun l hl=>by unfold eY at hl;rw [List.eq_of_mem_replicate hl];exact Nat.zero_le _)
 have hmo:=Ae h
 have hml:=Gy h
 unfold nO at hmo hml
 generalize dB y many.toNat++eI true rs=ds at *
 generalize d7 true (d5 many) (eY many y) rs=T at *
 obtain ⟨cl,lv⟩:=T
 dsimp only at *
 rw [yr] at gg
 obtain ⟨fs,b,m,B,hB,eD⟩:=A5 (z:=(hl (lst lv) nil,cl)) (by dsimp only;omega) gg hmo (by omega)
 dsimp only at B hB
 have h4:=hB.size.2.1
 have hl4:∀ k,(lst lv k).length<=1000:=fun k=>by
  unfold lst
  rw [List.getD_eq_getElem?_getD]
  by_cases hk:k < lv.length
  ·rw [List.getElem?_eq_getElem hk]
   have:=hok ((lv[k]).length:Int) (by unfold aS;exact List.mem_map.mpr ⟨lv[k],List.getElem_mem hk,rfl⟩)
   change (lv[k]).length<=1000
   omega
  ·rw [List.getElem?_eq_none (by omega)];exact Nat.zero_le _
 have bb:=uX B hl4
 have e0:lst []=nil:=by funext x;rfl
 have B0:BS (hl (lst []) nil) [] [] ⟨[],[],[],[]⟩:=by rw [e0,yr];exact BS.start
 have bb0:eZ [Bd.d ⟨[],[],[],[]⟩,.lst []]=.ok (.bl true):=uX B0 fun k=>Nat.zero_le _
 have cc:=B.cloth
 have cc0:=BS.start.cloth
 have dd0:=BS.start.done (Nat.zero_lt_succ _)
 have ac:=zX cl (by omega) hc2
 have gl:fW [.lst (bL many y :: rs.map aP)]=some (.own (bL many y :: rs.map aP)):=rfl
 have z0:([]:List D).length<=sizeLine:=by change 0<=sizeLine;unfold sizeLine;omega
 have g2:bq [.tup [.lst (clD cl),.lst (lvD lv)]]=some (.val (.int 2)):=rfl
 have n2:gNe (.int 2) (.int 2)=some (.val (.bl false)):=eN (fJ 8 _ rfl)
 have i0:gIx (.tup [.lst (clD cl),.lst (lvD lv)]) (.int 0)=some (.val (.lst (clD cl))):=rfl
 have i1:gIx (.tup [.lst (clD cl),.lst (lvD lv)]) (.int 1)=some (.val (.lst (lvD lv))):=rfl
 have gv:bq [.lst (lvD lv)]=some (.val (.int (lv.length:Int))):=by
  change some (DV.val (.int ((lvD lv).length:Int)))=_
  rw [lG]
 have n0:gNe (.lst []) (.lst [])=some (.val (.bl false)):=eN (fJ 8 _ rfl)
 have q0:gEq (.lst []) (.lst [])=some (.val (.bl true)):=kK (fJ 8 _ rfl)
 generalize hP:bL many y :: rs.map aP=P at *
 generalize hF:D.tup [.lst (clD cl),.lst (lvD lv)]=F at *
 have iF:gIs "tuple" F=some (.val (.bl true)):=by rw [<-hF];rfl
 have A1:(aG 1 (aF 1 (af (ae 0) ai) je)) [.sh (.scr ns),.no,.no,.no,.no,.no]=.ok .nx [.sh (.scr ns),.sh (.lst P),.no,.no,.no,.no]:=cf (eJ (av (aq rfl) aE) rfl rfl e1) rfl
 have A2:(aG 2 (aF 1 (af (fCB (af (ae 1) ai) fW) ai) j1)) [.sh (.scr ns),.sh (.lst P),.no,.no,.no,.no]=.ok .nx [.sh (.scr ns),.sh (.lst P),.sh F,.no,.no,.no]:=cf (iT (av (dX (av (aq rfl) aE) rfl gl) aE) rfl rfl gt1) rfl
 have A3:(aG 3 (aF 1 (af (fCB (af (ae 1) ai) fW) ai) jK)) [.sh (.scr ns),.sh (.lst P),.sh F,.no,.no,.no]=.ok .nx [.sh (.scr ns),.sh (.lst P),.sh F,.sh (.lst (dlD ds)),.no,.no]:=cf (eJ (av (dX (av (aq rfl) aE) rfl gl) aE) rfl rfl gm) rfl
 unfold kL zy
 refine fZ (δ1:=[.sh (.scr ns),.sh (.lst P),.sh F,.sh (.lst (dlD ds)),b.sl,Bd.sl ⟨[],[],[],[]⟩]) ?_
 refine aB A1 (aI (aB A2 (aI (aB A3 (aI ?_)))))
 refine aB (R1:=.ok .nx [.sh (.scr ns),.sh (.lst P),.sh F,.sh (.lst (dlD ds)),.no,.no]) (bD (jR (eP (bx (hW (aq rfl) rfl iF) rfl)) rfl (jR (bx (aL (dX (av (aq rfl) aE) rfl g2) aH rfl rfl n2) rfl) rfl (eP (bx (hW (aL (aq rfl) aH rfl rfl i0) rfl rfl) rfl)))) (cy rfl cC)) (aI ?_)
 refine aB (R1:=.ok .nx [.sh (.scr ns),.sh (.lst P),.sh F,.sh (.lst (dlD ds)),.no,.no]) (bD (jR (eP (bx (hW (aL (aq rfl) aH rfl rfl i1) rfl rfl) rfl)) rfl (jR (eP (bx (Fx (dX (av (aL (aq rfl) aH rfl rfl i1) aE) rfl gv) (by omega) (by omega)) rfl)) rfl (eP (bx (hW (aq rfl) rfl rfl) rfl)))) (cy rfl cC)) (aI ?_)
 refine aB (R1:=.ok .nx [.sh (.scr ns),.sh (.lst P),.sh F,.sh (.lst (dlD ds)),Bd.sl ⟨[],[],[],[]⟩,.no]) rfl (aI ?_)
 refine aB (R1:=.ok .nx [.sh (.scr ns),.sh (.lst P),.sh F,.sh (.lst (dlD ds)),Bd.sl ⟨[],[],[],[]⟩,Bd.sl ⟨[],[],[],[]⟩]) rfl (aI ?_)
 have w1:(cn 4 2 (af (ae 3) ai) jg) [.sh (.scr ns),.sh (.lst P),.sh F,.sh (.lst (dlD ds)),Bd.sl ⟨[],[],[],[]⟩,Bd.sl ⟨[],[],[],[]⟩]=.ok (.val (.bl true)) [.sh (.scr ns),.sh (.lst P),.sh F,.sh (.lst (dlD ds)),b.sl,Bd.sl ⟨[],[],[],[]⟩]:=
  gp (b:=⟨[],[],[],[]⟩) (own:=true) (av (aq rfl) aE) rfl rfl rfl (by rw [eD];rfl)
 have w2:(bI 5 1 ai fG) [.sh (.scr ns),.sh (.lst P),.sh F,.sh (.lst (dlD ds)),b.sl,Bd.sl ⟨[],[],[],[]⟩]=.ok (.own []) [.sh (.scr ns),.sh (.lst P),.sh F,.sh (.lst (dlD ds)),b.sl,Bd.sl ⟨[],[],[],[]⟩]:=
  hZ (b:=⟨[],[],[],[]⟩) (own:=true) aE rfl rfl rfl (by
   change roR true (fG [Bd.d ⟨[],[],[],[]⟩]) _=_
   rw [cc0];rfl)
 have w3:(bI 4 1 ai fG) [.sh (.scr ns),.sh (.lst P),.sh F,.sh (.lst (dlD ds)),b.sl,Bd.sl ⟨[],[],[],[]⟩]=.ok (.own (clD cl)) [.sh (.scr ns),.sh (.lst P),.sh F,.sh (.lst (dlD ds)),b.sl,Bd.sl ⟨[],[],[],[]⟩]:=
  hZ (b:=b) (own:=true) aE rfl rfl rfl (by
   change roR true (fG [b.d]) _=_
   rw [cc];exact qM (uk cl))
 have w4:(bI 4 2 (af (ah (ae 2) (fC (.int 1)) gIx) ai) eZ) [.sh (.scr ns),.sh (.lst P),.sh F,.sh (.lst (dlD ds)),b.sl,Bd.sl ⟨[],[],[],[]⟩]=.ok (.val (.bl true)) [.sh (.scr ns),.sh (.lst P),.sh F,.sh (.lst (dlD ds)),b.sl,Bd.sl ⟨[],[],[],[]⟩]:=
  hZ (b:=b) (own:=true) (av (aL (aq rfl) aH rfl rfl i1) aE) rfl rfl rfl (by
   change roR true (eZ [b.d,.lst (lvD lv)]) _=_
   rw [bb];rfl)
 have w5:(bI 5 2 (af (bB ai) ai) eZ) [.sh (.scr ns),.sh (.lst P),.sh F,.sh (.lst (dlD ds)),b.sl,Bd.sl ⟨[],[],[],[]⟩]=.ok (.val (.bl true)) [.sh (.scr ns),.sh (.lst P),.sh F,.sh (.lst (dlD ds)),b.sl,Bd.sl ⟨[],[],[],[]⟩]:=
  hZ (b:=⟨[],[],[],[]⟩) (own:=true) (av (dh aE rfl z0) aE) rfl rfl rfl (by
   change roR true (eZ [Bd.d ⟨[],[],[],[]⟩,.lst []]) _=_
   rw [bb0];rfl)
 have w6:(bI 5 1 ai iI) [.sh (.scr ns),.sh (.lst P),.sh F,.sh (.lst (dlD ds)),b.sl,Bd.sl ⟨[],[],[],[]⟩]=.ok (.own []) [.sh (.scr ns),.sh (.lst P),.sh F,.sh (.lst (dlD ds)),b.sl,Bd.sl ⟨[],[],[],[]⟩]:=
  hZ (b:=⟨[],[],[],[]⟩) (own:=true) aE rfl rfl rfl (by
   change roR true (iI [Bd.d ⟨[],[],[],[]⟩]) _=_
   rw [dd0];rfl)
 refine aB (bD (jR (eP (bx w1 rfl)) rfl (bx (aL w2 (dh aE rfl z0) rfl rfl n0) rfl)) (cy rfl cC)) (aI ?_)
 refine aB (bD (jR (eP (bx (iT (av w3 (av (aL (aq rfl) aH rfl rfl i0) aE)) rfl rfl ac) rfl)) rfl (eP (bx w4 rfl))) (cy rfl cC)) (aI ?_)
 exact dR (sU w5 rfl rfl (aL w6 (dh aE rfl z0) rfl rfl q0)) fD
end Lw
namespace Lw
open PySem L2 DL PyProof.Rows
theorem dO:∀ (us:List Value),us.length=1->∃ x0,us=[x0]
 | [x0],_=>⟨x0,rfl⟩
theorem cF:∀ (us:List Value),us.length=2->∃ x0 x1,us=[x0,x1]
 | [x0,x1],_=>⟨x0,x1,rfl⟩
theorem oi:∀ (us:List Value),us.length=3->∃ x0 x1 x2,us=[x0,x1,x2]
 | [x0,x1,x2],_=>⟨x0,x1,x2,rfl⟩
theorem qH:∀ (us:List Value),us.length=4->∃ x0 x1 x2 x3,us=[x0,x1,x2,x3]
 | [x0,x1,x2,x3],_=>⟨x0,x1,x2,x3,rfl⟩
theorem GJ:∀ (us:List Value),us.length=5->∃ x0 x1 x2 x3 x4,us=[x0,x1,x2,x3,x4]
 | [x0,x1,x2,x3,x4],_=>⟨x0,x1,x2,x3,x4,rfl⟩
def AtF (K:PySem.W.Frag) (x:Str) (st:Stmt):Prop:=∃ f fd,PySem.W.nsIn K mainGlobals x=some (some (.ref f))/\Fun K x x st f fd
def AtM (K:PySem.W.Frag) (C:Addr) (x q:Str) (st:Stmt):Prop:=∃ f fd,PySem.W.findIn K (.ref C) x=some (some (.ref f))/\PySem.W.isFn K (.ref f)=true/\Fun K x q st f fd
theorem all_mk {l:PySem.W.OpenLaw} {w:World} {K:PySem.W.Frag} {h:Heap} {mg:Str->Option Value} {fa:Addr} (X:K.In h) (G:h.Ns mainGlobals mg) (hfa:mg "law"=some (.ref fa))
  {C:Addr}
  {a_ACROSS:Addr}
  {t_FARTHEST_bed:Tok}
  {t_FARTHEST_making:Tok}
  {t_MOST_BORNE:Tok}
  {t_MOST_LOOPS:Tok}
  {t_MOST_WIDE:Tok}
  {a_TAKES:Addr}
  {a_WAYS:Addr}
  (aC:PySem.W.nsIn K mainGlobals "Bed"=some (some (.ref C)))
  (h0:AtF K "_law_cell_at" pO)
  (h1:AtF K "_law_menu" rF)
  (h2:AtF K "_law_stitch" qV)
  (h3:AtF K "_law_mix" qv)
  (h4:AtF K "_law_taken" pI)
  (h5:AtF K "_law_row" s_row)
  (h6:AtF K "_law_behind" rU)
  (h7:AtF K "_law_pattern" pz)
  (h8:AtF K "_law_good" qB)
  (h9:AtF K "steps_of" qx)
  (h10:AtF K "places_taken" r6)
  (h11:AtF K "is_too_many" qG)
  (h12:AtF K "fault_of" pZ)
  (h13:AtF K "count_left" oU)
  (h14:AtF K "counts_behind" su)
  (h15:AtF K "looked" oR)
  (h16:AtF K "need_good" qK)
  (h17:AtF K "joined" sI)
  (h18:AtF K "stitched" rT)
  (h19:AtF K "worked" qP)
  (h20:AtF K "told" qk)
  (h21:AtF K "nearer" qX)
  (h22:AtF K "moves_along" oQ)
  (h23:AtF K "joining_moves" qy)
  (h24:AtF K "ways_of" qI)
  (h25:AtF K "placing_moves" qF)
  (h26:AtF K "stitch_deeds" ph)
  (h27:AtF K "worked_deeds" rX)
  (h28:AtF K "made" rm)
  (h29:AtM K C "__init__" "Bed.__init__" ri)
  (h30:AtF K "_law_whole" rg)
  (h31:AtF K "_law_alike_hook" qc)
  (h32:AtM K C "loops_at" "Bed.loops_at" sC)
  (h33:AtM K C "hook" "Bed.hook" rj)
  (h34:AtF K "_law_bears" pj)
  (h35:AtM K C "keep" "Bed.keep" qi)
  (h36:AtM K C "move" "Bed.move" pB)
  (h37:AtM K C "new_loop" "Bed.new_loop" o6)
  (h38:AtM K C "knit" "Bed.knit" rD)
  (h39:AtM K C "tuck" "Bed.tuck" qr)
  (h40:AtM K C "act" "Bed.act" oS)
  (h41:AtF K "_law_does" qA)
  (h42:AtM K C "cloth" "Bed.cloth" qb)
  (h43:AtF K "_law_loop" pG)
  (h44:AtF K "_law_alike_cloth" pY)
  (h45:AtM K C "done" "Bed.done" oV)
  (h46:AtF K "law" kZ)
  (z_abs:PySem.W.nsIn K mainGlobals "abs"=some none)
  (z_all:PySem.W.nsIn K mainGlobals "all"=some none)
  (z_any:PySem.W.nsIn K mainGlobals "any"=some none)
  (z_bool:PySem.W.nsIn K mainGlobals "bool"=some none)
  (z_enumerate:PySem.W.nsIn K mainGlobals "enumerate"=some none)
  (z_int:PySem.W.nsIn K mainGlobals "int"=some none)
  (z_isinstance:PySem.W.nsIn K mainGlobals "isinstance"=some none)
  (z_len:PySem.W.nsIn K mainGlobals "len"=some none)
  (z_list:PySem.W.nsIn K mainGlobals "list"=some none)
  (z_max:PySem.W.nsIn K mainGlobals "max"=some none)
  (z_min:PySem.W.nsIn K mainGlobals "min"=some none)
  (z_range:PySem.W.nsIn K mainGlobals "range"=some none)
  (z_reversed:PySem.W.nsIn K mainGlobals "reversed"=some none)
  (z_str:PySem.W.nsIn K mainGlobals "str"=some none)
  (z_sum:PySem.W.nsIn K mainGlobals "sum"=some none)
  (z_tuple:PySem.W.nsIn K mainGlobals "tuple"=some none)
  (pgB:PySem.W.plainGet K C Str.empty=true) (hdB:PySem.W.hasDictIn K C=true) (poB:PySem.W.plainOver K C=true) (saB:PySem.W.findIn K (.ref C) "__setattr__"=some (some (.builtin "object.__setattr__"))) (mkB:PySem.W.makesIn K C=true) (kcB:PySem.W.keepIn K (.ref C)=true) (nB1:PySem.W.findIn K (.ref C) "borne"=some none) (nB2:PySem.W.findIn K (.ref C) "knitted"=some none) (nB3:PySem.W.findIn K (.ref C) "past"=some none)
  (g_ACROSS:PySem.W.nsIn K mainGlobals "ACROSS"=some (some (.ref a_ACROSS)))
  (h_ACROSS:PyProof.Rows.KTD.tabLook (PyProof.Rows.KTD.datLooks fun b=>K.lookup b) (fun b=>K.lookup b) a_ACROSS (iC m9)=true)
  (g_FARTHEST_bed:PySem.W.nsIn K mainGlobals "FARTHEST_bed"=some (some (.int 2 t_FARTHEST_bed)))
  (g_FARTHEST_making:PySem.W.nsIn K mainGlobals "FARTHEST_making"=some (some (.int 2 t_FARTHEST_making)))
  (g_MOST_BORNE:PySem.W.nsIn K mainGlobals "MOST_BORNE"=some (some (.int 4 t_MOST_BORNE)))
  (g_MOST_LOOPS:PySem.W.nsIn K mainGlobals "MOST_LOOPS"=some (some (.int 4 t_MOST_LOOPS)))
  (g_MOST_WIDE:PySem.W.nsIn K mainGlobals "MOST_WIDE"=some (some (.int 16 t_MOST_WIDE)))
  (g_TAKES:PySem.W.nsIn K mainGlobals "TAKES"=some (some (.ref a_TAKES)))
  (h_TAKES:PyProof.Rows.KTD.tabLook (PyProof.Rows.KTD.datLooks fun b=>K.lookup b) (fun b=>K.lookup b) a_TAKES (jE gA)=true)
  (g_WAYS:PySem.W.nsIn K mainGlobals "WAYS"=some (some (.ref a_WAYS)))
  (h_WAYS:PyProof.Rows.KTD.tabLook (PyProof.Rows.KTD.datLooks fun b=>K.lookup b) (fun b=>K.lookup b) a_WAYS (iC kz)=true) :
  ∃ fd:FuncData,(∀ (s:Shared) (v:Value),BindsTo s fd ⟨[v],[]⟩ [("script",v)])/\∀ base:Heap,K.In base->base.Ns mainGlobals mg->aR l.prog w K mg base CX0 6 fa fd ["script"] (spP K (fun _=>.none) 1 kL):=by
 obtain ⟨_,_,a0,F0⟩:=h0
 obtain ⟨_,_,a1,F1⟩:=h1
 obtain ⟨_,_,a2,F2⟩:=h2
 obtain ⟨_,_,a3,F3⟩:=h3
 obtain ⟨_,_,a4,F4⟩:=h4
 obtain ⟨_,_,a5,F5⟩:=h5
 obtain ⟨_,_,a6,F6⟩:=h6
 obtain ⟨_,_,a7,F7⟩:=h7
 obtain ⟨_,_,a8,F8⟩:=h8
 obtain ⟨_,_,a9,F9⟩:=h9
 obtain ⟨_,_,a10,F10⟩:=h10
 obtain ⟨_,_,a11,F11⟩:=h11
 obtain ⟨_,_,a12,F12⟩:=h12
 obtain ⟨_,_,a13,F13⟩:=h13
 obtain ⟨_,_,a14,F14⟩:=h14
 obtain ⟨_,_,a15,F15⟩:=h15
 obtain ⟨_,_,a16,F16⟩:=h16
 obtain ⟨_,_,a17,F17⟩:=h17
 obtain ⟨_,_,a18,F18⟩:=h18
 obtain ⟨_,_,a19,F19⟩:=h19
 obtain ⟨_,_,a20,F20⟩:=h20
 obtain ⟨_,_,a21,F21⟩:=h21
 obtain ⟨_,_,a22,F22⟩:=h22
 obtain ⟨_,_,a23,F23⟩:=h23
 obtain ⟨_,_,a24,F24⟩:=h24
 obtain ⟨_,_,a25,F25⟩:=h25
 obtain ⟨_,_,a26,F26⟩:=h26
 obtain ⟨_,_,a27,F27⟩:=h27
 obtain ⟨_,_,a28,F28⟩:=h28
 obtain ⟨_,_,a29,i29,F29⟩:=h29
 obtain ⟨_,_,a30,F30⟩:=h30
 obtain ⟨_,_,a31,F31⟩:=h31
 obtain ⟨_,_,a32,i32,F32⟩:=h32
 obtain ⟨_,_,a33,i33,F33⟩:=h33
 obtain ⟨_,_,a34,F34⟩:=h34
 obtain ⟨_,_,a35,i35,F35⟩:=h35
 obtain ⟨_,_,a36,i36,F36⟩:=h36
 obtain ⟨_,_,a37,i37,F37⟩:=h37
 obtain ⟨_,_,a38,i38,F38⟩:=h38
 obtain ⟨_,_,a39,i39,F39⟩:=h39
 obtain ⟨_,_,a40,i40,F40⟩:=h40
 obtain ⟨_,_,a41,F41⟩:=h41
 obtain ⟨_,_,a42,i42,F42⟩:=h42
 obtain ⟨_,_,a43,F43⟩:=h43
 obtain ⟨_,_,a44,F44⟩:=h44
 obtain ⟨_,_,a45,i45,F45⟩:=h45
 obtain ⟨_,_,a46,F46⟩:=h46
 have e:=hfa.symm.trans (PySem.W.mg_of X G a46)
 cases e
 have T:Txt K mg:=⟨PySem.W.mg_none_of X G z_abs,PySem.W.mg_none_of X G z_all,PySem.W.mg_none_of X G z_any,PySem.W.mg_none_of X G z_bool,PySem.W.mg_none_of X G z_enumerate,PySem.W.mg_none_of X G z_int,PySem.W.mg_none_of X G z_isinstance,PySem.W.mg_none_of X G z_len,PySem.W.mg_none_of X G z_list,PySem.W.mg_none_of X G z_max,PySem.W.mg_none_of X G z_min,PySem.W.mg_none_of X G z_range,PySem.W.mg_none_of X G z_reversed,PySem.W.mg_none_of X G z_str,PySem.W.mg_none_of X G z_sum,PySem.W.mg_none_of X G z_tuple,vw (PySem.W.mg_of X G g_ACROSS) h_ACROSS,md (PySem.W.mg_of X G g_FARTHEST_bed),md (PySem.W.mg_of X G g_FARTHEST_making),md (PySem.W.mg_of X G g_MOST_BORNE),md (PySem.W.mg_of X G g_MOST_LOOPS),md (PySem.W.mg_of X G g_MOST_WIDE),Bf (PySem.W.mg_of X G g_TAKES) h_TAKES,vw (PySem.W.mg_of X G g_WAYS) h_WAYS⟩
 have TB:aX K C:=⟨aC,⟨pgB,hdB,poB,saB⟩,nB1,nB2,nB3⟩
 obtain ⟨_,_,kV,dc,pm,an,cd,ct,_,rfl,_,_⟩:=F46.ex
 refine ⟨PySem.W.fnOf "law" "law" (kq kZ) (gr kZ) (aW kZ) .none kV dc pm an cd ct,fun s v=>.of_eq rfl,fun base _ _=>?_⟩
 have D_cell_at:aQ l.prog w K mg base 1 "_law_cell_at" 2 fY:=⟨_,_,_,GK F0 T TB ,PySem.W.mg_of X G a0,F0.kp,F0.binds fun _ _ _ _ _ _ us hl=>by obtain ⟨_,_,rfl⟩:=cF us hl;rfl⟩
 have D_menu:aQ l.prog w K mg base 1 "_law_menu" 2 dm:=⟨_,_,_,Cd F1 T TB ,PySem.W.mg_of X G a1,F1.kp,F1.binds fun _ _ _ _ _ _ us hl=>by obtain ⟨_,_,rfl⟩:=cF us hl;rfl⟩
 have D_stitch:aQ l.prog w K mg base 1 "_law_stitch" 5 jB:=⟨_,_,_,JI F2 T TB ,PySem.W.mg_of X G a2,F2.kp,F2.binds fun _ _ _ _ _ _ us hl=>by obtain ⟨_,_,_,_,_,rfl⟩:=GJ us hl;rfl⟩
 have D_mix:aQ l.prog w K mg base 1 "_law_mix" 2 dH:=⟨_,_,_,CZ F3 T TB ,PySem.W.mg_of X G a3,F3.kp,F3.binds fun _ _ _ _ _ _ us hl=>by obtain ⟨_,_,rfl⟩:=cF us hl;rfl⟩
 have D_taken:aQ l.prog w K mg base 1 "_law_taken" 1 gn:=⟨_,_,_,B7 F4 T TB ,PySem.W.mg_of X G a4,F4.kp,F4.binds fun _ _ _ _ _ _ us hl=>by obtain ⟨_,rfl⟩:=dO us hl;rfl⟩
 have D_row:aQ l.prog w K mg base 2 "_law_row" 2 hJ:=⟨_,_,_,Dn F5 T TB D_menu D_stitch D_mix D_taken,PySem.W.mg_of X G a5,F5.kp,F5.binds fun _ _ _ _ _ _ us hl=>by obtain ⟨_,_,rfl⟩:=cF us hl;rfl⟩
 have D_behind:aQ l.prog w K mg base 2 "_law_behind" 2 j4:=⟨_,_,_,BR F6 T TB D_taken,PySem.W.mg_of X G a6,F6.kp,F6.binds fun _ _ _ _ _ _ us hl=>by obtain ⟨_,_,rfl⟩:=cF us hl;rfl⟩
 have D_pattern:aQ l.prog w K mg base 3 "_law_pattern" 3 iX:=⟨_,_,_,GR F7 T TB D_row D_behind D_cell_at D_mix,PySem.W.mg_of X G a7,F7.kp,F7.binds fun _ _ _ _ _ _ us hl=>by obtain ⟨_,_,_,rfl⟩:=oi us hl;rfl⟩
 have D_good:aQ l.prog w K mg base 4 "_law_good" 1 je:=⟨_,_,_,Cz F8 T TB D_cell_at D_pattern,PySem.W.mg_of X G a8,F8.kp,F8.binds fun _ _ _ _ _ _ us hl=>by obtain ⟨_,rfl⟩:=dO us hl;rfl⟩
 have D_steps_of:aQ l.prog w K mg base 1 "steps_of" 1 eA:=⟨_,_,_,An F9 T TB ,PySem.W.mg_of X G a9,F9.kp,F9.binds fun _ _ _ _ _ _ us hl=>by obtain ⟨_,rfl⟩:=dO us hl;rfl⟩
 have D_places_taken:aQ l.prog w K mg base 1 "places_taken" 1 kC:=⟨_,_,_,DX F10 T TB ,PySem.W.mg_of X G a10,F10.kp,F10.binds fun _ _ _ _ _ _ us hl=>by obtain ⟨_,rfl⟩:=dO us hl;rfl⟩
 have D_is_too_many:aQ l.prog w K mg base 1 "is_too_many" 2 iY:=⟨_,_,_,Jx F11 T TB ,PySem.W.mg_of X G a11,F11.kp,F11.binds fun _ _ _ _ _ _ us hl=>by obtain ⟨_,_,rfl⟩:=cF us hl;rfl⟩
 have D_fault_of:aQ l.prog w K mg base 2 "fault_of" 2 jn:=⟨_,_,_,Dj F12 T TB D_steps_of D_places_taken D_is_too_many,PySem.W.mg_of X G a12,F12.kp,F12.binds fun _ _ _ _ _ _ us hl=>by obtain ⟨_,_,rfl⟩:=cF us hl;rfl⟩
 have D_count_left:aQ l.prog w K mg base 1 "count_left" 2 jv:=⟨_,_,_,Jp F13 T TB ,PySem.W.mg_of X G a13,F13.kp,F13.binds fun _ _ _ _ _ _ us hl=>by obtain ⟨_,_,rfl⟩:=cF us hl;rfl⟩
 have D_counts_behind:aQ l.prog w K mg base 2 "counts_behind" 2 jN:=⟨_,_,_,Bk F14 T TB D_steps_of D_count_left,PySem.W.mg_of X G a14,F14.kp,F14.binds fun _ _ _ _ _ _ us hl=>by obtain ⟨_,_,rfl⟩:=cF us hl;rfl⟩
 have D_looked:aQ l.prog w K mg base 3 "looked" 1 kU:=⟨_,_,_,zU F15 T TB D_fault_of D_counts_behind,PySem.W.mg_of X G a15,F15.kp,F15.binds fun _ _ _ _ _ _ us hl=>by obtain ⟨_,rfl⟩:=dO us hl;rfl⟩
 have D_need_good:aQ l.prog w K mg base 4 "need_good" 1 iW:=⟨_,_,_,Hy F16 T TB D_looked,PySem.W.mg_of X G a16,F16.kp,F16.binds fun _ _ _ _ _ _ us hl=>by obtain ⟨_,rfl⟩:=dO us hl;rfl⟩
 have D_joined:aQ l.prog w K mg base 1 "joined" 2 jz:=⟨_,_,_,De F17 T TB ,PySem.W.mg_of X G a17,F17.kp,F17.binds fun _ _ _ _ _ _ us hl=>by obtain ⟨_,_,rfl⟩:=cF us hl;rfl⟩
 have D_stitched:lO l.prog w K mg base 2 "stitched" 4 [3] jC:=⟨_,_,_,zR F18 T TB D_joined,PySem.W.mg_of X G a18,F18.kp,F18.binds fun _ _ _ _ _ _ us hl=>by obtain ⟨_,_,_,_,rfl⟩:=qH us hl;rfl⟩
 have D_worked:lO l.prog w K mg base 3 "worked" 4 [3] jX:=⟨_,_,_,BZ F19 T TB D_steps_of D_stitched,PySem.W.mg_of X G a19,F19.kp,F19.binds fun _ _ _ _ _ _ us hl=>by obtain ⟨_,_,_,_,rfl⟩:=qH us hl;rfl⟩
 have D_told:aQ l.prog w K mg base 5 "told" 1 j1:=⟨_,_,_,Gv F20 T TB D_need_good D_worked,PySem.W.mg_of X G a20,F20.kp,F20.binds fun _ _ _ _ _ _ us hl=>by obtain ⟨_,rfl⟩:=dO us hl;rfl⟩
 have D_nearer:aQ l.prog w K mg base 1 "nearer" 2 fT:=⟨_,_,_,GV F21 T TB ,PySem.W.mg_of X G a21,F21.kp,F21.binds fun _ _ _ _ _ _ us hl=>by obtain ⟨_,_,rfl⟩:=cF us hl;rfl⟩
 have D_moves_along:aQ l.prog w K mg base 2 "moves_along" 2 eE:=⟨_,_,_,AS F22 T TB D_nearer,PySem.W.mg_of X G a22,F22.kp,F22.binds fun _ _ _ _ _ _ us hl=>by obtain ⟨_,_,rfl⟩:=cF us hl;rfl⟩
 have D_joining_moves:aQ l.prog w K mg base 3 "joining_moves" 1 iQ:=⟨_,_,_,Cf F23 T TB D_steps_of D_moves_along,PySem.W.mg_of X G a23,F23.kp,F23.binds fun _ _ _ _ _ _ us hl=>by obtain ⟨_,rfl⟩:=dO us hl;rfl⟩
 have D_ways_of:aQ l.prog w K mg base 2 "ways_of" 1 ka:=⟨_,_,_,Iw F24 T TB D_steps_of,PySem.W.mg_of X G a24,F24.kp,F24.binds fun _ _ _ _ _ _ us hl=>by obtain ⟨_,rfl⟩:=dO us hl;rfl⟩
 have D_placing_moves:aQ l.prog w K mg base 3 "placing_moves" 1 i7:=⟨_,_,_,BD F25 T TB D_ways_of D_moves_along,PySem.W.mg_of X G a25,F25.kp,F25.binds fun _ _ _ _ _ _ us hl=>by obtain ⟨_,rfl⟩:=dO us hl;rfl⟩
 have D_stitch_deeds:aQ l.prog w K mg base 1 "stitch_deeds" 3 jO:=⟨_,_,_,EC F26 T TB ,PySem.W.mg_of X G a26,F26.kp,F26.binds fun _ _ _ _ _ _ us hl=>by obtain ⟨_,_,_,rfl⟩:=oi us hl;rfl⟩
 have D_worked_deeds:aQ l.prog w K mg base 2 "worked_deeds" 2 iV:=⟨_,_,_,Bl F27 T TB D_stitch_deeds,PySem.W.mg_of X G a27,F27.kp,F27.binds fun _ _ _ _ _ _ us hl=>by obtain ⟨_,_,rfl⟩:=cF us hl;rfl⟩
 have D_made:aQ l.prog w K mg base 5 "made" 1 jK:=⟨_,_,_,Dh F28 T TB D_need_good D_joining_moves D_placing_moves D_worked_deeds,PySem.W.mg_of X G a28,F28.kp,F28.binds fun _ _ _ _ _ _ us hl=>by obtain ⟨_,rfl⟩:=dO us hl;rfl⟩
 have D_Bed:MkB l.prog w K mg base C:=⟨PySem.W.mg_of X G aC,_,_,Ax F29 TB,⟨mkB,a29,i29,kcB⟩,F29.binds fun _ _ _ _ _ _ us hl=>by obtain ⟨_,rfl⟩:=dO us hl;rfl⟩
 have D_whole:aQ l.prog w K mg base 1 "_law_whole" 1 fK:=⟨_,_,_,CD F30 T TB ,PySem.W.mg_of X G a30,F30.kp,F30.binds fun _ _ _ _ _ _ us hl=>by obtain ⟨_,rfl⟩:=dO us hl;rfl⟩
 have D_alike_hook:aQ l.prog w K mg base 2 "_law_alike_hook" 2 gk:=⟨_,_,_,GL F31 T TB D_whole,PySem.W.mg_of X G a31,F31.kp,F31.binds fun _ _ _ _ _ _ us hl=>by obtain ⟨_,_,rfl⟩:=cF us hl;rfl⟩
 have D_Bed_loops_at:MethP l.prog w K mg base C 1 "loops_at" 2 cR:=⟨_,_,_,BX F32 T TB ,⟨a32,i32,F32.kp⟩,F32.binds fun _ _ _ _ _ _ us hl=>by obtain ⟨_,_,rfl⟩:=cF us hl;rfl⟩
 have D_Bed_hook:MethP l.prog w K mg base C 2 "hook" 3 eU:=⟨_,_,_,Em F33 T TB D_Bed_loops_at,⟨a33,i33,F33.kp⟩,F33.binds fun _ _ _ _ _ _ us hl=>by obtain ⟨_,_,_,rfl⟩:=oi us hl;rfl⟩
 have D_bears:aQ l.prog w K mg base 3 "_law_bears" 2 eZ:=⟨_,_,_,Du F34 T TB D_alike_hook D_Bed_hook,PySem.W.mg_of X G a34,F34.kp,F34.binds fun _ _ _ _ _ _ us hl=>by obtain ⟨_,_,rfl⟩:=cF us hl;rfl⟩
 have D_Bed_keep:MethW l.prog w K mg base C 2 "keep" 3 dz:=⟨_,_,_,HK F35 T TB D_Bed_loops_at,⟨a35,i35,F35.kp⟩,F35.binds fun _ _ _ _ _ _ us hl=>by obtain ⟨_,_,_,rfl⟩:=oi us hl;rfl⟩
 have D_Bed_move:MethW l.prog w K mg base C 3 "move" 2 jS:=⟨_,_,_,Bj F36 T TB D_Bed_loops_at D_Bed_keep,⟨a36,i36,F36.kp⟩,F36.binds fun _ _ _ _ _ _ us hl=>by obtain ⟨_,_,rfl⟩:=cF us hl;rfl⟩
 have D_Bed_new_loop:MethW l.prog w K mg base C 1 "new_loop" 4 fz:=⟨_,_,_,CB F37 T TB ,⟨a37,i37,F37.kp⟩,F37.binds fun _ _ _ _ _ _ us hl=>by obtain ⟨_,_,_,_,rfl⟩:=qH us hl;rfl⟩
 have D_Bed_knit:MethW l.prog w K mg base C 3 "knit" 2 jr:=⟨_,_,_,BP F38 T TB D_Bed_loops_at D_Bed_keep D_Bed_new_loop,⟨a38,i38,F38.kp⟩,F38.binds fun _ _ _ _ _ _ us hl=>by obtain ⟨_,_,rfl⟩:=cF us hl;rfl⟩
 have D_Bed_tuck:MethW l.prog w K mg base C 3 "tuck" 2 jx:=⟨_,_,_,Ju F39 T TB D_Bed_loops_at D_Bed_keep D_Bed_new_loop,⟨a39,i39,F39.kp⟩,F39.binds fun _ _ _ _ _ _ us hl=>by obtain ⟨_,_,rfl⟩:=cF us hl;rfl⟩
 have D_Bed_act:MethW l.prog w K mg base C 4 "act" 2 eV:=⟨_,_,_,Iv F40 T TB D_Bed_move D_Bed_knit D_Bed_tuck,⟨a40,i40,F40.kp⟩,F40.binds fun _ _ _ _ _ _ us hl=>by obtain ⟨_,_,rfl⟩:=cF us hl;rfl⟩
 have D_does:rR l.prog w K mg base 5 "_law_does" 2 jg:=⟨_,_,_,C9 F41 T TB D_Bed_act,PySem.W.mg_of X G a41,F41.kp,F41.binds fun _ _ _ _ _ _ us hl=>by obtain ⟨_,_,rfl⟩:=cF us hl;rfl⟩
 have D_Bed_cloth:MethP l.prog w K mg base C 1 "cloth" 1 fG:=⟨_,_,_,Ed F42 T TB ,⟨a42,i42,F42.kp⟩,F42.binds fun _ _ _ _ _ _ us hl=>by obtain ⟨_,rfl⟩:=dO us hl;rfl⟩
 have D_loop:aQ l.prog w K mg base 2 "_law_loop" 1 jo:=⟨_,_,_,Ja F43 T TB D_whole,PySem.W.mg_of X G a43,F43.kp,F43.binds fun _ _ _ _ _ _ us hl=>by obtain ⟨_,rfl⟩:=dO us hl;rfl⟩
 have D_alike_cloth:aQ l.prog w K mg base 3 "_law_alike_cloth" 2 kF:=⟨_,_,_,I0 F44 T TB D_loop,PySem.W.mg_of X G a44,F44.kp,F44.binds fun _ _ _ _ _ _ us hl=>by obtain ⟨_,_,rfl⟩:=cF us hl;rfl⟩
 have D_Bed_done:MethP l.prog w K mg base C 1 "done" 1 iI:=⟨_,_,_,Et F45 T TB ,⟨a45,i45,F45.kp⟩,F45.binds fun _ _ _ _ _ _ us hl=>by obtain ⟨_,rfl⟩:=dO us hl;rfl⟩
 exact CI F46 T TB D_good D_told D_made D_Bed D_bears D_does D_Bed_cloth D_alike_cloth D_Bed_done
theorem walk {l:PySem.W.OpenLaw} {q:Program} {loose:List Str} {XP:(Str->Option Value)->Heap->Prop} {YP:World->Heap->Prop} {d:DefRec} {K:Params->PySem.W.Frag} (hn:l.most=some 63) (hdf:d.params.defaults=[])
  (hY:∀ (w:World) (h:Heap),YP w h->(K w.params).In h)
  (F:∀ (w:World) (mg:Str->Option Value) (fa:Addr) (h:Heap),(K w.params).In h->h.Ns mainGlobals mg->mg d.name=some (.ref fa)->
   ∃ fd:FuncData,(∀ (s:Shared) (u:Value),BindsTo s fd ⟨[u],[]⟩ [("script",u)])/\∀ base:Heap,(K w.params).In base->base.Ns mainGlobals mg->aR l.prog w (K w.params) mg base CX0 6 fa fd ["script"] (spP (K w.params) (fun _=>.none) 1 kL)) :
  PySem.W.WalkO q loose XP YP l.row.toRowW d [] (fun f vs=>PySem.call f vs):=
 L2.EU (n:=63) (k:=6) (x:="script") (CX:=fun _=>CX0) (sp:=fun w=>spP (K w.params) (fun _=>.none) 1 kL) hn (by decide) hdf ⟨rfl,by decide,by decide,rfl⟩ hY F (fun w H a ns hl hO hS=>Hn (En ns hl) hO hS) fun _ _ _ _ _ z=>z
end Lw
open PySem PySem.W PyProof.Rows
set_option maxRecDepth 100000 in
set_option maxHeartbeats 0 in
theorem PySem.Challenge.cw_loopbed_k15_whole_the_bed_knits_the_patt_holds : PySem.Challenge.rw_loopbed_k15_whole_the_bed_knits_the_patt.Holds := by
 w_on;o_law
 refine holds_open (q:=Hd.Qv) (loose:=Hd.loose) (Xt:=Hd.Xt) (XP:=XL Hd.Qv []) (Yf:=Hook.obs (kHook Hd.Kf Hd.As Hd.hKA)) (Ya:=Hook.val (kHook Hd.Kf Hd.As Hd.hKA)) (YP:=Hook.says (kHook Hd.Kf Hd.As Hd.hKA)) (N:=6778) Hd.hl (Hook.of _) (Hook.keeps _) (fun s e=>xl_of s (Bool.and_eq_true_iff.mp e).1) XL.keeps (by rfl) (by rfl) (by rfl) (fun s e=>recFacts_of (Bool.and_eq_true_iff.mp e).2) (by rfl) (by assumption) (by decide +kernel) ⟨rfl,rfl,rfl,rfl,rfl,by decide +kernel⟩ ?hw ?hc
 case hw=>w_witness2
 k_fill
 refine Lw.walk (l:=PySem.Challenge.rw_loopbed_k15_whole_the_bed_knits_the_patt) rfl rfl (fun w h Y=>PySem.W.kIn_of Y) ?F
 case F=>
  intro w mg fa h KX G hmg
  refine' Lw.all_mk KX G hmg ?_ ?_ ?_ ?_ ?_ ?_ ?_ ?_ ?_ ?_ ?_ ?_ ?_ ?_ ?_ ?_ ?_ ?_ ?_ ?_ ?_ ?_ ?_ ?_ ?_ ?_ ?_ ?_ ?_ ?_ ?_ ?_ ?_ ?_ ?_ ?_ ?_ ?_ ?_ ?_ ?_ ?_ ?_ ?_ ?_ ?_ ?_ ?_ ?_ ?_ ?_ ?_ ?_ ?_ ?_ ?_ ?_ ?_ ?_ ?_ ?_ ?_ ?_ ?_ ?_ ?_ ?_ ?_ ?_ ?_ ?_ ?_ ?_ ?_ ?_ ?_ ?_ ?_ ?_ ?_ ?_ ?_ ?_ ?_
  all_goals try first | k_is | kernel_rfl | exact ⟨_,_,by k_is,L2.xA (by k_is) (by k_is) (by k_is)⟩ | exact ⟨_,_,by k_is,by k_is,L2.xA (by k_is) (by k_is) (by k_is)⟩