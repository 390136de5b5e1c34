/- A part of the proof: an interpreter of the model's own code on partly known states, and that what it answers is what the program answers. No condition of its own. -/
import Derived.Test.YticlhkekkfelpaaDoorA7RouteLongestR0
import Derived.Test.YticlhkekkfelpaaDoorA7RouteLongestR1
import Derived.Test.YticlhkekkfelpaaDoorA7RouteLongestR2
import Derived.Test.YticlhkekkfelpaaDoorA7RouteLongestR3
import Derived.Test.YticlhkekkfelpaaDoorA7RouteLongestR4
import Derived.Test.YticlhkekkfelpaaDoorA7RouteLongestR5
import Derived.Test.YticlhkekkfelpaaDoorA7RouteLongestR6
import Derived.Test.YticlhkekkfelpaaDoorA7RouteLongestR7
import Derived.Test.YticlhkekkfelpaaDoorA7RouteLongestR8
import Derived.Test.YticlhkekkfelpaaDoorA7RouteLongestR9
import Derived.Test.YticlhkekkfelpaaDoorA7RouteLongestR10
import Derived.Test.YticlhkekkfelpaaDoorA7RouteLongestR11
import Derived.Test.YticlhkekkfelpaaDoorA7RouteLongestR12
import Derived.Test.YticlhkekkfelpaaDoorA7RouteLongestR13
import Derived.Test.YticlhkekkfelpaaDoorA7RouteLongestR14
import Derived.Test.YticlhkekkfelpaaDoorA7RouteLongestR15
set_option maxRecDepth 100000
set_option linter.unusedVariables false
namespace Go.Proofs.YticlhkekkfelpaaDoor.routeLongest
open Go Go.AX Go.Proofs Go.Proofs.YticlhkekkfelpaaDoor
theorem allRuns : ∀ i, i < 1008 → runI i = true := by
  intro i hi
  by_cases h505 : i < 505
  · by_cases h250 : i < 250
    · by_cases h125 : i < 125
      · by_cases h60 : i < 60
        · by_cases h30 : i < 30
          · by_cases h15 : i < 15
            · by_cases h5 : i < 5
              · exact allN_at (r0 ) i (by omega) (by omega)
              · by_cases h10 : i < 10
                · exact allN_at (r5 ) i (by omega) (by omega)
                · exact allN_at (r10 ) i (by omega) (by omega)
            · by_cases h20 : i < 20
              · exact allN_at (r15 ) i (by omega) (by omega)
              · by_cases h25 : i < 25
                · exact allN_at (r20 ) i (by omega) (by omega)
                · exact allN_at (r25 ) i (by omega) (by omega)
          · by_cases h45 : i < 45
            · by_cases h35 : i < 35
              · exact allN_at (r30 ) i (by omega) (by omega)
              · by_cases h40 : i < 40
                · exact allN_at (r35 ) i (by omega) (by omega)
                · exact allN_at (r40 ) i (by omega) (by omega)
            · by_cases h50 : i < 50
              · exact allN_at (r45 ) i (by omega) (by omega)
              · by_cases h55 : i < 55
                · exact allN_at (r50 ) i (by omega) (by omega)
                · exact allN_at (r55 ) i (by omega) (by omega)
        · by_cases h90 : i < 90
          · by_cases h75 : i < 75
            · by_cases h65 : i < 65
              · exact allN_at (r60 ) i (by omega) (by omega)
              · by_cases h70 : i < 70
                · exact allN_at (r65 ) i (by omega) (by omega)
                · exact allN_at (r70 ) i (by omega) (by omega)
            · by_cases h80 : i < 80
              · exact allN_at (r75 ) i (by omega) (by omega)
              · by_cases h85 : i < 85
                · exact allN_at (r80 ) i (by omega) (by omega)
                · exact allN_at (r85 ) i (by omega) (by omega)
          · by_cases h105 : i < 105
            · by_cases h95 : i < 95
              · exact allN_at (r90 ) i (by omega) (by omega)
              · by_cases h100 : i < 100
                · exact allN_at (r95 ) i (by omega) (by omega)
                · exact allN_at (r100 ) i (by omega) (by omega)
            · by_cases h115 : i < 115
              · by_cases h110 : i < 110
                · exact allN_at (r105 ) i (by omega) (by omega)
                · exact allN_at (r110 ) i (by omega) (by omega)
              · by_cases h120 : i < 120
                · exact allN_at (r115 ) i (by omega) (by omega)
                · exact allN_at (r120 ) i (by omega) (by omega)
      · by_cases h185 : i < 185
        · by_cases h155 : i < 155
          · by_cases h140 : i < 140
            · by_cases h130 : i < 130
              · exact allN_at (r125 ) i (by omega) (by omega)
              · by_cases h135 : i < 135
                · exact allN_at (r130 ) i (by omega) (by omega)
                · exact allN_at (r135 ) i (by omega) (by omega)
            · by_cases h145 : i < 145
              · exact allN_at (r140 ) i (by omega) (by omega)
              · by_cases h150 : i < 150
                · exact allN_at (r145 ) i (by omega) (by omega)
                · exact allN_at (r150 ) i (by omega) (by omega)
          · by_cases h170 : i < 170
            · by_cases h160 : i < 160
              · exact allN_at (r155 ) i (by omega) (by omega)
              · by_cases h165 : i < 165
                · exact allN_at (r160 ) i (by omega) (by omega)
                · exact allN_at (r165 ) i (by omega) (by omega)
            · by_cases h175 : i < 175
              · exact allN_at (r170 ) i (by omega) (by omega)
              · by_cases h180 : i < 180
                · exact allN_at (r175 ) i (by omega) (by omega)
                · exact allN_at (r180 ) i (by omega) (by omega)
        · by_cases h215 : i < 215
          · by_cases h200 : i < 200
            · by_cases h190 : i < 190
              · exact allN_at (r185 ) i (by omega) (by omega)
              · by_cases h195 : i < 195
                · exact allN_at (r190 ) i (by omega) (by omega)
                · exact allN_at (r195 ) i (by omega) (by omega)
            · by_cases h205 : i < 205
              · exact allN_at (r200 ) i (by omega) (by omega)
              · by_cases h210 : i < 210
                · exact allN_at (r205 ) i (by omega) (by omega)
                · exact allN_at (r210 ) i (by omega) (by omega)
          · by_cases h230 : i < 230
            · by_cases h220 : i < 220
              · exact allN_at (r215 ) i (by omega) (by omega)
              · by_cases h225 : i < 225
                · exact allN_at (r220 ) i (by omega) (by omega)
                · exact allN_at (r225 ) i (by omega) (by omega)
            · by_cases h240 : i < 240
              · by_cases h235 : i < 235
                · exact allN_at (r230 ) i (by omega) (by omega)
                · exact allN_at (r235 ) i (by omega) (by omega)
              · by_cases h245 : i < 245
                · exact allN_at (r240 ) i (by omega) (by omega)
                · exact allN_at (r245 ) i (by omega) (by omega)
    · by_cases h375 : i < 375
      · by_cases h310 : i < 310
        · by_cases h280 : i < 280
          · by_cases h265 : i < 265
            · by_cases h255 : i < 255
              · exact allN_at (r250 ) i (by omega) (by omega)
              · by_cases h260 : i < 260
                · exact allN_at (r255 ) i (by omega) (by omega)
                · exact allN_at (r260 ) i (by omega) (by omega)
            · by_cases h270 : i < 270
              · exact allN_at (r265 ) i (by omega) (by omega)
              · by_cases h275 : i < 275
                · exact allN_at (r270 ) i (by omega) (by omega)
                · exact allN_at (r275 ) i (by omega) (by omega)
          · by_cases h295 : i < 295
            · by_cases h285 : i < 285
              · exact allN_at (r280 ) i (by omega) (by omega)
              · by_cases h290 : i < 290
                · exact allN_at (r285 ) i (by omega) (by omega)
                · exact allN_at (r290 ) i (by omega) (by omega)
            · by_cases h300 : i < 300
              · exact allN_at (r295 ) i (by omega) (by omega)
              · by_cases h305 : i < 305
                · exact allN_at (r300 ) i (by omega) (by omega)
                · exact allN_at (r305 ) i (by omega) (by omega)
        · by_cases h340 : i < 340
          · by_cases h325 : i < 325
            · by_cases h315 : i < 315
              · exact allN_at (r310 ) i (by omega) (by omega)
              · by_cases h320 : i < 320
                · exact allN_at (r315 ) i (by omega) (by omega)
                · exact allN_at (r320 ) i (by omega) (by omega)
            · by_cases h330 : i < 330
              · exact allN_at (r325 ) i (by omega) (by omega)
              · by_cases h335 : i < 335
                · exact allN_at (r330 ) i (by omega) (by omega)
                · exact allN_at (r335 ) i (by omega) (by omega)
          · by_cases h355 : i < 355
            · by_cases h345 : i < 345
              · exact allN_at (r340 ) i (by omega) (by omega)
              · by_cases h350 : i < 350
                · exact allN_at (r345 ) i (by omega) (by omega)
                · exact allN_at (r350 ) i (by omega) (by omega)
            · by_cases h365 : i < 365
              · by_cases h360 : i < 360
                · exact allN_at (r355 ) i (by omega) (by omega)
                · exact allN_at (r360 ) i (by omega) (by omega)
              · by_cases h370 : i < 370
                · exact allN_at (r365 ) i (by omega) (by omega)
                · exact allN_at (r370 ) i (by omega) (by omega)
      · by_cases h440 : i < 440
        · by_cases h405 : i < 405
          · by_cases h390 : i < 390
            · by_cases h380 : i < 380
              · exact allN_at (r375 ) i (by omega) (by omega)
              · by_cases h385 : i < 385
                · exact allN_at (r380 ) i (by omega) (by omega)
                · exact allN_at (r385 ) i (by omega) (by omega)
            · by_cases h395 : i < 395
              · exact allN_at (r390 ) i (by omega) (by omega)
              · by_cases h400 : i < 400
                · exact allN_at (r395 ) i (by omega) (by omega)
                · exact allN_at (r400 ) i (by omega) (by omega)
          · by_cases h420 : i < 420
            · by_cases h410 : i < 410
              · exact allN_at (r405 ) i (by omega) (by omega)
              · by_cases h415 : i < 415
                · exact allN_at (r410 ) i (by omega) (by omega)
                · exact allN_at (r415 ) i (by omega) (by omega)
            · by_cases h430 : i < 430
              · by_cases h425 : i < 425
                · exact allN_at (r420 ) i (by omega) (by omega)
                · exact allN_at (r425 ) i (by omega) (by omega)
              · by_cases h435 : i < 435
                · exact allN_at (r430 ) i (by omega) (by omega)
                · exact allN_at (r435 ) i (by omega) (by omega)
        · by_cases h470 : i < 470
          · by_cases h455 : i < 455
            · by_cases h445 : i < 445
              · exact allN_at (r440 ) i (by omega) (by omega)
              · by_cases h450 : i < 450
                · exact allN_at (r445 ) i (by omega) (by omega)
                · exact allN_at (r450 ) i (by omega) (by omega)
            · by_cases h460 : i < 460
              · exact allN_at (r455 ) i (by omega) (by omega)
              · by_cases h465 : i < 465
                · exact allN_at (r460 ) i (by omega) (by omega)
                · exact allN_at (r465 ) i (by omega) (by omega)
          · by_cases h485 : i < 485
            · by_cases h475 : i < 475
              · exact allN_at (r470 ) i (by omega) (by omega)
              · by_cases h480 : i < 480
                · exact allN_at (r475 ) i (by omega) (by omega)
                · exact allN_at (r480 ) i (by omega) (by omega)
            · by_cases h495 : i < 495
              · by_cases h490 : i < 490
                · exact allN_at (r485 ) i (by omega) (by omega)
                · exact allN_at (r490 ) i (by omega) (by omega)
              · by_cases h500 : i < 500
                · exact allN_at (r495 ) i (by omega) (by omega)
                · exact allN_at (r500 ) i (by omega) (by omega)
  · by_cases h755 : i < 755
    · by_cases h630 : i < 630
      · by_cases h565 : i < 565
        · by_cases h535 : i < 535
          · by_cases h520 : i < 520
            · by_cases h510 : i < 510
              · exact allN_at (r505 ) i (by omega) (by omega)
              · by_cases h515 : i < 515
                · exact allN_at (r510 ) i (by omega) (by omega)
                · exact allN_at (r515 ) i (by omega) (by omega)
            · by_cases h525 : i < 525
              · exact allN_at (r520 ) i (by omega) (by omega)
              · by_cases h530 : i < 530
                · exact allN_at (r525 ) i (by omega) (by omega)
                · exact allN_at (r530 ) i (by omega) (by omega)
          · by_cases h550 : i < 550
            · by_cases h540 : i < 540
              · exact allN_at (r535 ) i (by omega) (by omega)
              · by_cases h545 : i < 545
                · exact allN_at (r540 ) i (by omega) (by omega)
                · exact allN_at (r545 ) i (by omega) (by omega)
            · by_cases h555 : i < 555
              · exact allN_at (r550 ) i (by omega) (by omega)
              · by_cases h560 : i < 560
                · exact allN_at (r555 ) i (by omega) (by omega)
                · exact allN_at (r560 ) i (by omega) (by omega)
        · by_cases h595 : i < 595
          · by_cases h580 : i < 580
            · by_cases h570 : i < 570
              · exact allN_at (r565 ) i (by omega) (by omega)
              · by_cases h575 : i < 575
                · exact allN_at (r570 ) i (by omega) (by omega)
                · exact allN_at (r575 ) i (by omega) (by omega)
            · by_cases h585 : i < 585
              · exact allN_at (r580 ) i (by omega) (by omega)
              · by_cases h590 : i < 590
                · exact allN_at (r585 ) i (by omega) (by omega)
                · exact allN_at (r590 ) i (by omega) (by omega)
          · by_cases h610 : i < 610
            · by_cases h600 : i < 600
              · exact allN_at (r595 ) i (by omega) (by omega)
              · by_cases h605 : i < 605
                · exact allN_at (r600 ) i (by omega) (by omega)
                · exact allN_at (r605 ) i (by omega) (by omega)
            · by_cases h620 : i < 620
              · by_cases h615 : i < 615
                · exact allN_at (r610 ) i (by omega) (by omega)
                · exact allN_at (r615 ) i (by omega) (by omega)
              · by_cases h625 : i < 625
                · exact allN_at (r620 ) i (by omega) (by omega)
                · exact allN_at (r625 ) i (by omega) (by omega)
      · by_cases h690 : i < 690
        · by_cases h660 : i < 660
          · by_cases h645 : i < 645
            · by_cases h635 : i < 635
              · exact allN_at (r630 ) i (by omega) (by omega)
              · by_cases h640 : i < 640
                · exact allN_at (r635 ) i (by omega) (by omega)
                · exact allN_at (r640 ) i (by omega) (by omega)
            · by_cases h650 : i < 650
              · exact allN_at (r645 ) i (by omega) (by omega)
              · by_cases h655 : i < 655
                · exact allN_at (r650 ) i (by omega) (by omega)
                · exact allN_at (r655 ) i (by omega) (by omega)
          · by_cases h675 : i < 675
            · by_cases h665 : i < 665
              · exact allN_at (r660 ) i (by omega) (by omega)
              · by_cases h670 : i < 670
                · exact allN_at (r665 ) i (by omega) (by omega)
                · exact allN_at (r670 ) i (by omega) (by omega)
            · by_cases h680 : i < 680
              · exact allN_at (r675 ) i (by omega) (by omega)
              · by_cases h685 : i < 685
                · exact allN_at (r680 ) i (by omega) (by omega)
                · exact allN_at (r685 ) i (by omega) (by omega)
        · by_cases h720 : i < 720
          · by_cases h705 : i < 705
            · by_cases h695 : i < 695
              · exact allN_at (r690 ) i (by omega) (by omega)
              · by_cases h700 : i < 700
                · exact allN_at (r695 ) i (by omega) (by omega)
                · exact allN_at (r700 ) i (by omega) (by omega)
            · by_cases h710 : i < 710
              · exact allN_at (r705 ) i (by omega) (by omega)
              · by_cases h715 : i < 715
                · exact allN_at (r710 ) i (by omega) (by omega)
                · exact allN_at (r715 ) i (by omega) (by omega)
          · by_cases h735 : i < 735
            · by_cases h725 : i < 725
              · exact allN_at (r720 ) i (by omega) (by omega)
              · by_cases h730 : i < 730
                · exact allN_at (r725 ) i (by omega) (by omega)
                · exact allN_at (r730 ) i (by omega) (by omega)
            · by_cases h745 : i < 745
              · by_cases h740 : i < 740
                · exact allN_at (r735 ) i (by omega) (by omega)
                · exact allN_at (r740 ) i (by omega) (by omega)
              · by_cases h750 : i < 750
                · exact allN_at (r745 ) i (by omega) (by omega)
                · exact allN_at (r750 ) i (by omega) (by omega)
    · by_cases h880 : i < 880
      · by_cases h815 : i < 815
        · by_cases h785 : i < 785
          · by_cases h770 : i < 770
            · by_cases h760 : i < 760
              · exact allN_at (r755 ) i (by omega) (by omega)
              · by_cases h765 : i < 765
                · exact allN_at (r760 ) i (by omega) (by omega)
                · exact allN_at (r765 ) i (by omega) (by omega)
            · by_cases h775 : i < 775
              · exact allN_at (r770 ) i (by omega) (by omega)
              · by_cases h780 : i < 780
                · exact allN_at (r775 ) i (by omega) (by omega)
                · exact allN_at (r780 ) i (by omega) (by omega)
          · by_cases h800 : i < 800
            · by_cases h790 : i < 790
              · exact allN_at (r785 ) i (by omega) (by omega)
              · by_cases h795 : i < 795
                · exact allN_at (r790 ) i (by omega) (by omega)
                · exact allN_at (r795 ) i (by omega) (by omega)
            · by_cases h805 : i < 805
              · exact allN_at (r800 ) i (by omega) (by omega)
              · by_cases h810 : i < 810
                · exact allN_at (r805 ) i (by omega) (by omega)
                · exact allN_at (r810 ) i (by omega) (by omega)
        · by_cases h845 : i < 845
          · by_cases h830 : i < 830
            · by_cases h820 : i < 820
              · exact allN_at (r815 ) i (by omega) (by omega)
              · by_cases h825 : i < 825
                · exact allN_at (r820 ) i (by omega) (by omega)
                · exact allN_at (r825 ) i (by omega) (by omega)
            · by_cases h835 : i < 835
              · exact allN_at (r830 ) i (by omega) (by omega)
              · by_cases h840 : i < 840
                · exact allN_at (r835 ) i (by omega) (by omega)
                · exact allN_at (r840 ) i (by omega) (by omega)
          · by_cases h860 : i < 860
            · by_cases h850 : i < 850
              · exact allN_at (r845 ) i (by omega) (by omega)
              · by_cases h855 : i < 855
                · exact allN_at (r850 ) i (by omega) (by omega)
                · exact allN_at (r855 ) i (by omega) (by omega)
            · by_cases h870 : i < 870
              · by_cases h865 : i < 865
                · exact allN_at (r860 ) i (by omega) (by omega)
                · exact allN_at (r865 ) i (by omega) (by omega)
              · by_cases h875 : i < 875
                · exact allN_at (r870 ) i (by omega) (by omega)
                · exact allN_at (r875 ) i (by omega) (by omega)
      · by_cases h945 : i < 945
        · by_cases h910 : i < 910
          · by_cases h895 : i < 895
            · by_cases h885 : i < 885
              · exact allN_at (r880 ) i (by omega) (by omega)
              · by_cases h890 : i < 890
                · exact allN_at (r885 ) i (by omega) (by omega)
                · exact allN_at (r890 ) i (by omega) (by omega)
            · by_cases h900 : i < 900
              · exact allN_at (r895 ) i (by omega) (by omega)
              · by_cases h905 : i < 905
                · exact allN_at (r900 ) i (by omega) (by omega)
                · exact allN_at (r905 ) i (by omega) (by omega)
          · by_cases h925 : i < 925
            · by_cases h915 : i < 915
              · exact allN_at (r910 ) i (by omega) (by omega)
              · by_cases h920 : i < 920
                · exact allN_at (r915 ) i (by omega) (by omega)
                · exact allN_at (r920 ) i (by omega) (by omega)
            · by_cases h935 : i < 935
              · by_cases h930 : i < 930
                · exact allN_at (r925 ) i (by omega) (by omega)
                · exact allN_at (r930 ) i (by omega) (by omega)
              · by_cases h940 : i < 940
                · exact allN_at (r935 ) i (by omega) (by omega)
                · exact allN_at (r940 ) i (by omega) (by omega)
        · by_cases h975 : i < 975
          · by_cases h960 : i < 960
            · by_cases h950 : i < 950
              · exact allN_at (r945 ) i (by omega) (by omega)
              · by_cases h955 : i < 955
                · exact allN_at (r950 ) i (by omega) (by omega)
                · exact allN_at (r955 ) i (by omega) (by omega)
            · by_cases h965 : i < 965
              · exact allN_at (r960 ) i (by omega) (by omega)
              · by_cases h970 : i < 970
                · exact allN_at (r965 ) i (by omega) (by omega)
                · exact allN_at (r970 ) i (by omega) (by omega)
          · by_cases h990 : i < 990
            · by_cases h980 : i < 980
              · exact allN_at (r975 ) i (by omega) (by omega)
              · by_cases h985 : i < 985
                · exact allN_at (r980 ) i (by omega) (by omega)
                · exact allN_at (r985 ) i (by omega) (by omega)
            · by_cases h1000 : i < 1000
              · by_cases h995 : i < 995
                · exact allN_at (r990 ) i (by omega) (by omega)
                · exact allN_at (r995 ) i (by omega) (by omega)
              · by_cases h1005 : i < 1005
                · exact allN_at (r1000 ) i (by omega) (by omega)
                · exact allN_at (r1005 ) i (by omega) (by omega)
theorem runs (c0 : Nat) (c1 : Nat) (c2 : Nat) (h0 : c0 < 6) (h1 : c1 < 2 ^ (c0 + 1)) (h2 : c2 < 8) : run c0 c1 c2 = true := by
  have k0 : 2 ^ (c0 + 1) ≤ 64 := Nat.pow_le_pow_right (n := 2) (by omega) (show c0 + 1 ≤ 6 by omega)
  have k1 : 2 ^ (c0 + 1) = 2 * 2 ^ c0 := by rw [Nat.pow_succ]; omega
  have k2 : 0 < 2 ^ c0 := Nat.pow_pos (by omega)
  have k3 : 2 ^ (c0 + 1 + 1) = 2 * 2 ^ (c0 + 1) := by rw [Nat.pow_succ]; omega
  have h := allRuns ((c2 + 8 * (2 ^ (c0 + 1) - 2 + c1))) (by omega)
  unfold runI at h
  have d0 : Nat.add (Nat.div ((c2 + 8 * (2 ^ (c0 + 1) - 2 + c1))) 8) 2 = 2 ^ (c0 + 1) + c1 := by show ((c2 + 8 * (2 ^ (c0 + 1) - 2 + c1))) / 8 + 2 = _; omega
  have d1 : Nat.log2 (2 ^ (c0 + 1) + c1) = c0 + 1 := (Nat.log2_eq_iff (by omega)).2 ⟨by omega, by omega⟩
  have d2 : Nat.mod ((c2 + 8 * (2 ^ (c0 + 1) - 2 + c1))) 8 = c2 := by show ((c2 + 8 * (2 ^ (c0 + 1) - 2 + c1))) % 8 = _; omega
  have d3 : Nat.sub (c0 + 1) 1 = c0 := rfl
  have d4 : Nat.sub (2 ^ (c0 + 1) + c1) (Nat.pow 2 (c0 + 1)) = c1 := by show 2 ^ (c0 + 1) + c1 - 2 ^ (c0 + 1) = c1; omega
  rw [d0, d1, d2, d3, d4] at h
  exact h
def nu (x0 : Nat) (x1 : Nat) (x2 : Nat) : Nat → Value
  | 0 => .int .u8 (.ofNat x0)
  | 100 => .int .u8 (.ofNat x1)
  | 101 => .int .u8 (.ofNat (x1 >>> 0))
  | 102 => .int .u8 (.ofNat (x1 >>> 1))
  | 103 => .int .u8 (.ofNat (x1 >>> 2))
  | 104 => .int .u8 (.ofNat (x1 >>> 3))
  | 105 => .int .u8 (.ofNat (x1 >>> 4))
  | 106 => .int .u8 (.ofNat (x1 >>> 5))
  | 200 => .int .u8 (.ofNat x2)
  | _ => .bool true
theorem nu_one (x0 : Nat) (x1 : Nat) (x2 : Nat) : ∀ i, (nu x0 x1 x2 i).oneCell' = true := by
  intro i; unfold nu; split <;> rfl
theorem hyOk (x0 : Nat) (x1 : Nat) (x2 : Nat) (c0 : Nat) (c1 : Nat) (c2 : Nat) (hc0 : x0 % 6 = c0) (hx0 : x0 ≤ 255) (hc1 : x1 % (2 ^ (c0 + 1)) = c1) (hx1 : x1 ≤ 255) (hc2 : x2 % 8 = c2) (hx2 : x2 ≤ 255) : ∀ k r, (k, r) ∈ hy c0 c1 c2 → HOk (cx (nu x0 x1 x2) (nu_one x0 x1 x2) 0 laidE laidE_stab) k r := by
  intro k r h
  simp only [hy, List.mem_cons, List.not_mem_nil, or_false, Prod.mk.injEq] at h
  rcases h with ⟨rfl, rfl⟩ | ⟨rfl, rfl⟩ | ⟨rfl, rfl⟩ | ⟨rfl, rfl⟩ | ⟨rfl, rfl⟩ | ⟨rfl, rfl⟩ | ⟨rfl, rfl⟩ | ⟨rfl, rfl⟩ | ⟨rfl, rfl⟩ | ⟨rfl, rfl⟩ | ⟨rfl, rfl⟩ | ⟨rfl, rfl⟩ | ⟨rfl, rfl⟩ | ⟨rfl, rfl⟩
  · exact hRemX (x := x0) rfl (by omega) hc0
  · exact hShrX rfl (by decide) rfl
  · exact hShrX rfl (by decide) rfl
  · exact hShrX rfl (by decide) rfl
  · exact hShrX rfl (by decide) rfl
  · exact hShrX rfl (by decide) rfl
  · exact hShrX rfl (by decide) rfl
  · exact hAndX (x := x1 >>> 0) rfl (fitsShr8 hx1 0) rfl (fitsBit8 _) (bitOfG (b := c0 + 1) hc1 0 (by omega))
  · exact (by cases hb : Nat.ble 1 c0 with | true => exact hAndX (x := x1 >>> 1) rfl (fitsShr8 hx1 1) rfl (fitsBit8 _) (bitOfG (b := c0 + 1) hc1 1 (by have := Nat.le_of_ble_eq_true hb; omega)) | false => exact hAndX (x := x1 >>> 0) rfl (fitsShr8 hx1 0) rfl (fitsBit8 _) (bitOfG (b := c0 + 1) hc1 0 (by omega)))
  · exact (by cases hb : Nat.ble 2 c0 with | true => exact hAndX (x := x1 >>> 2) rfl (fitsShr8 hx1 2) rfl (fitsBit8 _) (bitOfG (b := c0 + 1) hc1 2 (by have := Nat.le_of_ble_eq_true hb; omega)) | false => exact hAndX (x := x1 >>> 0) rfl (fitsShr8 hx1 0) rfl (fitsBit8 _) (bitOfG (b := c0 + 1) hc1 0 (by omega)))
  · exact (by cases hb : Nat.ble 3 c0 with | true => exact hAndX (x := x1 >>> 3) rfl (fitsShr8 hx1 3) rfl (fitsBit8 _) (bitOfG (b := c0 + 1) hc1 3 (by have := Nat.le_of_ble_eq_true hb; omega)) | false => exact hAndX (x := x1 >>> 0) rfl (fitsShr8 hx1 0) rfl (fitsBit8 _) (bitOfG (b := c0 + 1) hc1 0 (by omega)))
  · exact (by cases hb : Nat.ble 4 c0 with | true => exact hAndX (x := x1 >>> 4) rfl (fitsShr8 hx1 4) rfl (fitsBit8 _) (bitOfG (b := c0 + 1) hc1 4 (by have := Nat.le_of_ble_eq_true hb; omega)) | false => exact hAndX (x := x1 >>> 0) rfl (fitsShr8 hx1 0) rfl (fitsBit8 _) (bitOfG (b := c0 + 1) hc1 0 (by omega)))
  · exact (by cases hb : Nat.ble 5 c0 with | true => exact hAndX (x := x1 >>> 5) rfl (fitsShr8 hx1 5) rfl (fitsBit8 _) (bitOfG (b := c0 + 1) hc1 5 (by have := Nat.le_of_ble_eq_true hb; omega)) | false => exact hAndX (x := x1 >>> 0) rfl (fitsShr8 hx1 0) rfl (fitsBit8 _) (bitOfG (b := c0 + 1) hc1 0 (by omega)))
  · exact hRemX (x := x2) rfl (by omega) hc2
theorem walk (a0 : Int) (a1 : Int) (a2 : Int) (w0 : (Lit.int .u8 a0).wf = true) (w1 : (Lit.int .u8 a1).wf = true) (w2 : (Lit.int .u8 a2).wf = true) (w : World) (hl : laidE w) :
    Calls Tryd.prog 9 #[.int .u8 a0, .int .u8 a1, .int .u8 a2] w fun e w' => e = .returned (.bool true) ∧ Go.AX.Below w.heap.size w w' := by
  obtain ⟨fi, hfi, hb⟩ : ∃ fi, tabk.fn.get 9 = some fi ∧ fi.body.isSome = true := ⟨_, rfl, by kernel_rfl⟩
  obtain ⟨x0, rfl, hx0⟩ := natOf (M := 255) w0 rfl rfl
  obtain ⟨x1, rfl, hx1⟩ := natOf (M := 255) w1 rfl rfl
  obtain ⟨x2, rfl, hx2⟩ := natOf (M := 255) w2 rfl rfl
  have hall : AllOk (cx (nu x0 x1 x2) (nu_one x0 x1 x2) 0 laidE laidE_stab) (tabC (x0 % (6)) (x1 % (2 ^ (x0 % 6 + 1))) (x2 % (8))) := (tabkOk (nu x0 x1 x2) (nu_one x0 x1 x2)).hyps (hyOk x0 x1 x2 _ _ _ rfl hx0 rfl hx1 rfl hx2)
  exact runD hall rfl hfi hb (runs (x0 % 6) (x1 % (2 ^ (x0 % 6 + 1))) (x2 % 8) (Nat.mod_lt _ (by omega)) (Nat.mod_lt _ (Nat.pow_pos (by omega))) (Nat.mod_lt _ (by omega))) (args := [.int .u8 (.ofNat x0), .int .u8 (.ofNat x1), .int .u8 (.ofNat x2)]) (by simp only [RelL, Rel]; exact ⟨_, _, rfl, rfl, ⟨_, _, rfl, rfl, ⟨_, _, rfl, rfl, rfl⟩⟩⟩) w hl
end Go.Proofs.YticlhkekkfelpaaDoor.routeLongest
